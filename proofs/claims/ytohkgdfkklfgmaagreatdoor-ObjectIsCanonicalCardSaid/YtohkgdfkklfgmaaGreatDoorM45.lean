/- Lemmas and walks of L15Sa, L15Lb, L15Mv, L15Rw, L15Tl: what each theorem states; conditions stand in each theorem. -/
import Derived.Test.YtohkgdfkklfgmaaGreatDoorL15Ck
import Derived.Laws.AppendOwnNone
import Derived.OwnWalkIn
import Derived.TacticsInMore
import Derived.Deep.OwnRows
import Derived.Lib.SlBytesConst
import Derived.Test.YtohkgdfkklfgmaaGreatDoorM41
section
set_option maxRecDepth 100000
set_option maxHeartbeats 4000000
namespace Go.Proofs.YtohkgdfkklfgmaaGreatDoor.L15
set_option maxRecDepth 100000
open Go.RowKit L14
attribute [local go_sem] Oper.semAt_some
theorem take_eq {α:Type} {l m:List α} {k:Nat} (h1:k<l.length) (h2:k<m.length) (h:l.take k=m.take k) (e:l[k]=m[k]):l.take (k+1)=m.take (k+1):=by
 rw [List.take_add_one,List.take_add_one,h,List.getElem?_eq_getElem h1,List.getElem?_eq_getElem h2,e]
theorem take_all {α:Type} {l m:List α} {n:Nat} (h1:l.length=n) (h2:m.length=n) (h:l.take n=m.take n):l=m:=by
 rwa [List.take_of_length_le (by omega),List.take_of_length_le (by omega)] at h
theorem off_len {α:Type} {l m:List α} {b:Bool} {n n':Nat} (hn:l.length=n) (hn':m.length=n') (hne:¬ n=n') (hb:b=true↔l=m):b=false:=by
 cases b with
 | false=>rfl
 | true =>
  have:=hb.1 rfl
  subst this
  omega
theorem at_ne {α:Type} {l m:List α} {b:Bool} {k:Nat} (hk1:k<l.length) (hk2:k<m.length) (he:¬ l[k]=m[k]) (hb:b=true↔l=m):b=false:=by
 cases b with
 | false=>rfl
 | true =>
  have:=hb.1 rfl
  subst this
  exact absurd rfl he
theorem byte_ne2 {x y:UInt8} (h:x≠y):((x.toNat:Int)==(y.toNat:Int))=false∧¬ (x.toNat:Int)=(y.toNat:Int):=by
 have:¬ (x.toNat:Int)=(y.toNat:Int):=fun e=>h (UInt8.toNat_inj.1 (by omega))
 exact⟨by simpa using this,this⟩
theorem rsameB_at (v v':Value) (l m:List UInt8) (b:Bool) (w:World) (hl:l.length≤1000000000) (hm:m.length≤1000000000) (hv:Rw eB w v l) (hv':Rw eB w v' m) (hb:b=true↔l=m) :
  Calls Tryz.prog 14 #[v,v'] w fun e w'=>e=.returned (.bool b)∧∃ q,w'=w.drewN q:=by
 obtain⟨n,hn⟩:∃ n,l.length=n:=⟨_,rfl⟩
 obtain⟨n',hn'⟩:∃ n,m.length=n:=⟨_,rfl⟩
 obtain⟨a,c,rfl,-,-,hc⟩:=hv.form hn
 obtain⟨a',c',rfl,-,-,hc'⟩:=hv'.form hn'
 rw [hn] at hl
 rw [hn'] at hm
 by_cases hne:n=n'
 ·subst hne
  have HN:=Lib.hid hn
  have HM:=Lib.hid hn'
  have HC:=Lib.hid hc
  have HC':=Lib.hid hc'
  have HB:=Lib.hid hb
  clear hn hn' hc hc' hb hv hv'
  go_enter Tryz.func14,Tryz.ntmps14
  go_wp2
  go_loopw [5] (fun i wr=>∃ k q:Nat,k≤n∧i=.int .i64 (k:Int)∧wr=w.drewN q∧Hid (l.take k=m.take k)) (fun i _=>n-(intOf i).toNat)
  case atStart=>exact⟨0,0,Nat.zero_le _,rfl,rfl,Lib.hid rfl⟩
  case round =>
   obtain⟨k,q,hk,rfl,rfl,hT⟩:=hrel
   by_cases hlt:k<n
   ·have hk1:k<l.length:=by rw [HN.out];exact hlt
    have hk2:k<m.length:=by rw [HM.out];exact hlt
    obtain⟨b1,o1,rfl,hb1,hc1⟩:=HC.out (by omega)
    obtain⟨b2,o2,rfl,hb2,hc2⟩:=HC'.out (by omega)
    have hx:=hc1 k hk1
    have hy:=hc2 k hk2
    clear hc1 hc2
    have hlt':(k:Int)<(n:Int):=by omega
    by_cases he:l[k]=m[k]
    ·have HT:=Lib.hid (take_eq hk1 hk2 hT.out he)
     rw [← he] at hy
     obtain⟨d,hd⟩:∃ d,l[k].toNat=d:=⟨_,rfl⟩
     unfold eB at hx hy
     rw [hd] at hx hy
     clear he hd hT
     go_wp2
     go_quiet (fail)
     go_wp2
     go_roundw
     case rel=>exact⟨k+1,q+nq,by omega,by go_num,rfl,HT⟩
     case measure=>simp [intOf];omega
    ·have HB2:=Lib.hid (at_ne hk1 hk2 he HB.out)
     obtain⟨n1,n2⟩:=byte_ne2 he
     unfold eB at hx hy
     obtain⟨d,hd⟩:∃ d,l[k].toNat=d:=⟨_,rfl⟩
     obtain⟨d',hd'⟩:∃ d,m[k].toNat=d:=⟨_,rfl⟩
     rw [hd] at hx n1 n2
     rw [hd'] at hy n1 n2
     clear he hd hd' hT
     go_wp2
     go_quiet (fail)
     go_wp2
     go_ret
     rw [HB2.out]
     exact⟨rfl,q+nq,World.drewN_drewN ..⟩
   ·obtain rfl:k=n:=by omega
    have HB2:Hid (b=true):=Lib.hid (HB.out.2 (take_all HN.out HM.out hT.out))
    clear hT
    go_wp2
    go_ret
    rw [HB2.out]
    exact⟨rfl,q,rfl⟩
 ·obtain rfl:=off_len hn hn' hne hb
  have h1:¬ (n:Int)=(n':Int):=by omega
  have h2:((n:Int)==(n':Int))=false:=by simpa using h1
  clear hn hn' hc hc' hb hv hv'
  go_enter Tryz.func14,Tryz.ntmps14
  go_wp2
  go_ret
  exact⟨rfl,0,rfl⟩
end Go.Proofs.YtohkgdfkklfgmaaGreatDoor.L15
end
section
set_option maxRecDepth 100000
set_option maxHeartbeats 2000000
namespace Go.Proofs.YtohkgdfkklfgmaaGreatDoor.L15
set_option maxRecDepth 100000
open Go.RowKit L14
attribute [local go_sem] Oper.semAt_some
theorem one_eB (l:List UInt8):∀ u∈l.map eB,u.oneCell'=true:=by
 intro u hu
 obtain⟨c,_,rfl⟩:=List.mem_map.1 hu
 rfl
theorem rw_news {w:World} {x:Addr} {n c:Nat} {l:List UInt8} (h:Rw eB w (.slice (some x) n c) l):∀ j u,(l.map eB)[j]?=some u→w.cell? (x.add j)=some u:=by
 obtain⟨h0,-,-,h3⟩:=h.at
 intro j u hu
 have hj:j<l.length:=by
  have:=(List.getElem?_eq_some_iff.1 hu).1
  simpa using this
 obtain⟨b,o,e,-,hc⟩:=h3 (by omega)
 cases e
 rw [List.getElem?_map,List.getElem?_eq_getElem hj] at hu
 rw [add0,hc j hj]
 exact hu
theorem wpList_append_rw {w:World} {ops:Array Oper} {rest:List Oper} {o:Oper} {a:Act} {Q:Exit→Act→World→Prop} (hgd:o.guard=none) (s x:Operand)
  (ho:o.op=.call { callee:=.builtin .append,args:=#[s,x],argTypes:=#[23,23] }) (base:Nat)
  (v:Value) (n:Nat) (xs:List Value) (hs:a.eval s=v) (hown:w.ownsRow base 5 1 v n xs)
  (vx:Value) (l:List UInt8) (hx:a.eval x=vx) (hr:Rw eB w vx l) (h63:n+l.length≤140737488355328) (hbase:base≤w.heap.size)
  (h:∀ v' w',w'.ownsRow base 5 1 v' (n+l.length) (xs++l.map eB)→w.grownBy w' v.ownBlock→wpList Tryz.prog ops Q rest (a.put o.dst v') w'):wpList Tryz.prog ops Q (o::rest) a w:=by
 obtain⟨ib,ki,kz0,kz1,kz2⟩:=info_parts infoByte
 obtain⟨ax,c,rfl,-,h2,-⟩:=id hr
 cases ax with
 | none =>
  obtain rfl:c=0:=h2 rfl
  obtain⟨-,hle,-,-⟩:=hr.at
  obtain rfl:l=[]:=List.eq_nil_of_length_eq_zero (by omega)
  refine wpList_append_own_none hgd s x 23 ho base 5 ib 1 Tryz.underlying23 ki v n xs hs hown hx ?_
  exact h v w (by simpa using hown) ⟨rfl,rfl,rfl,Nat.le_refl _,fun _ _ _=>rfl⟩
 | some ax =>
  refine wpList_append_own w hgd s x 23 ho base 5 ib (.int .u8 0) 1 1 Tryz.underlying23 ki kz0 kz1 kz2 rfl (by decide) v n xs hs hown ax l.length c (l.map eB) hx (by simp) (rw_news hr) (one_eB l) (by unfold maxLen;omega) (by omega) hbase ?_
  exact fun v' w' h1 h2 _=>h v' w' h1 h2
theorem wpListIn_append_rw {F:Fence} {nF:Nat} {w:World} {ops:Array Oper} {rest:List Oper} {o:Oper} {a:Act} {Q:Exit→Act→World→Prop} (hgd:o.guard=none) (s x:Operand)
  (ho:o.op=.call { callee:=.builtin .append,args:=#[s,x],argTypes:=#[23,23] }) (base:Nat)
  (v:Value) (n:Nat) (xs:List Value) (hs:a.eval s=v) (hown:w.ownsRow base 5 1 v n xs)
  (vx:Value) (l:List UInt8) (hx:a.eval x=vx) (hr:Rw eB w vx l) (h63:n+l.length≤140737488355328) (hbase:base≤w.heap.size)
  (h:∀ v' w',w'.ownsRow base 5 1 v' (n+l.length) (xs++l.map eB)→w.grownBy w' v.ownBlock→wpListIn F nF Tryz.prog ops Q rest (a.put o.dst v') w'):wpListIn F nF Tryz.prog ops Q (o::rest) a w:=by
 obtain⟨ib,ki,kz0,kz1,kz2⟩:=info_parts infoByte
 obtain⟨ax,c,rfl,-,h2,-⟩:=id hr
 cases ax with
 | none =>
  obtain rfl:c=0:=h2 rfl
  obtain⟨-,hle,-,-⟩:=hr.at
  obtain rfl:l=[]:=List.eq_nil_of_length_eq_zero (by omega)
  refine wpListIn_plain hgd fun K hK=>?_
  have hrun:=run_append_owned_none (P:=Tryz.prog) (w:=w) base 23 o.type 5 ib 1 Tryz.underlying23 ki v n xs hown
  unfold Oper.wpIn
  refine⟨by simp [Oper.about,ho,resolve,Target.leads,Sem.run_pure],?_⟩
  rw [Oper.semAt_plain F _ _ (by rw [ho];intro c hc';cases hc')]
  simp [execOp,ho,resolve,invoke,builtin,hs,hx,hrun,Result.andThen]
  exact hK _ _ (h v w (by simpa using hown) ⟨rfl,rfl,rfl,Nat.le_refl _,fun _ _ _=>rfl⟩)
 | some ax =>
  refine wpListIn_append_own w hgd s x 23 ho base 5 ib (.int .u8 0) 1 1 Tryz.underlying23 ki kz0 kz1 kz2 rfl (by decide) v n xs hs hown ax l.length c (l.map eB) hx (by simp) (rw_news hr) (one_eB l) (by unfold maxLen;omega) (by omega) hbase ?_
  exact fun v' w' h1 h2 _=>h v' w' h1 h2
def ClB (l:List UInt8) (w:World) (e:Ending) (w':World):Prop:=∃ v',e=.returned v'∧w'.ownsRow w.heap.size 5 1 v' l.length (l.map eB)∧Below w.heap.size w w'
theorem bclone_at (v:Value) (l:List UInt8) (w:World) (hl:l.length≤1000000000) (hv:Rw eB w v l) :
  Calls Tryz.prog 44 #[v] w (ClB l w):=by
 obtain⟨a,c,rfl,-,h2,-⟩:=id hv
 have q:∀ (w:World) (a:Option Addr) (n c n' c':Nat),(binOp .eql 23 (.slice a n c) (.slice none n' c')).run Tryz.prog w=.ok (.bool a.isNone) w:=fun w a n c n' c'=>Lib.run_eql_slice_nil w _ _ a n c n' c' Tryz.underlying23
 cases a with
 | none =>
  obtain rfl:c=0:=h2 rfl
  obtain⟨-,hle,-,-⟩:=hv.at
  obtain rfl:l=[]:=List.eq_nil_of_length_eq_zero (by omega)
  clear hv h2 hle
  go_enter Tryz.func44,Tryz.ntmps44
  go_wp2
  go_ret
  exact⟨_,rfl,World.ownsRow_nil _ _ _ _,Below.refl _ _⟩
 | some x =>
  have HV:=Lib.hid hv
  have HL:=Lib.hid hl
  obtain⟨n,hn⟩:∃ n,l.length=n:=⟨_,rfl⟩
  have HN:=Lib.hid hn
  rw [hn] at HV
  unfold ClB
  rw [hn]
  clear h2 hl hv hn
  go_enter Tryz.func44,Tryz.ntmps44
  go_wp2_with (at_builtin;refine wpList_append_rw rfl _ _ rfl w.heap.size _ _ _ rfl (World.ownsRow_made w #[] 0 (Nat.le_refl _) (Nat.zero_le _) rfl) _ l rfl (HV.out.below (bnew _ _)) (by have:=HL.out;omega) (by simp) ?_;intro v' w1 hown hgrow)
  go_ret
  refine⟨v',rfl,by rw [← HN.out];simpa using hown,?_⟩
  exact ((Below.refl _ w).alloc (Nat.le_refl _) _).grown hgrow (by simp) (own_base (World.ownsRow_made (e:=5) (size:=1) w #[] 0 (Nat.le_refl _) (Nat.zero_le _) rfl))
theorem sclone_at (v:Value) (l:List UInt8) (w:World) (hl:l.length≤1000000000) (hv:Rw eB w v l) :
  Calls Tryz.prog 16 #[v] w (ClB l w):=by
 obtain⟨a,c,rfl,-,h2,-⟩:=id hv
 have q:∀ (w:World) (a:Option Addr) (n c n' c':Nat),(binOp .eql 23 (.slice a n c) (.slice none n' c')).run Tryz.prog w=.ok (.bool a.isNone) w:=fun w a n c n' c'=>Lib.run_eql_slice_nil w _ _ a n c n' c' Tryz.underlying23
 cases a with
 | none =>
  obtain rfl:c=0:=h2 rfl
  obtain⟨-,hle,-,-⟩:=hv.at
  obtain rfl:l=[]:=List.eq_nil_of_length_eq_zero (by omega)
  clear hv h2 hle
  go_enter Tryz.func16,Tryz.ntmps16
  go_wp2
  go_ret
  exact⟨_,rfl,World.ownsRow_nil _ _ _ _,Below.refl _ _⟩
 | some x =>
  have HV:=Lib.hid hv
  have HL:=Lib.hid hl
  obtain⟨n,hn⟩:∃ n,l.length=n:=⟨_,rfl⟩
  have HN:=Lib.hid hn
  rw [hn] at HV
  unfold ClB
  rw [hn]
  clear h2 hl hv hn
  go_enter Tryz.func16,Tryz.ntmps16
  go_wp2_with (at_builtin;refine wpList_append_rw rfl _ _ rfl w.heap.size _ _ _ rfl (World.ownsRow_made w #[] 0 (Nat.le_refl _) (Nat.zero_le _) rfl) _ l rfl (HV.out.below (bnew _ _)) (by have:=HL.out;omega) (by simp) ?_;intro v' w1 hown hgrow)
  go_ret
  refine⟨v',rfl,by rw [← HN.out];simpa using hown,?_⟩
  exact ((Below.refl _ w).alloc (Nat.le_refl _) _).grown hgrow (by simp) (own_base (World.ownsRow_made (e:=5) (size:=1) w #[] 0 (Nat.le_refl _) (Nat.zero_le _) rfl))
theorem bpre_at (v1 v2:Value) (t s:List UInt8) (b:Bool) (w:World) (_:t.length≤1000000000) (_:s.length≤1000000000) (h1:Rw eB w v1 t) (h2:Rw eB w v2 s) (hb:b=true↔s <+: t) :
  Calls Tryz.prog 78 #[v1,v2] w fun e w'=>e=.returned (.bool b)∧w=w':=by
 obtain⟨n,hn⟩:∃ n,t.length=n:=⟨_,rfl⟩
 obtain⟨m,hm'⟩:∃ m,s.length=m:=⟨_,rfl⟩
 obtain⟨a1,c1,rfl,hc1,-⟩:=h1.form hn
 obtain⟨a2,c2,rfl,-⟩:=h2.form hm'
 by_cases hlt:m≤n
 ·have hd:=h1.take m (by omega)
  have hs:=run_upto und8 size8 a1 n c1 m (by omega) hc1
  have HE:=Lib.hid (bequal_at _ _ _ _ b w hd h2 (by rw [hb,List.prefix_iff_eq_take,hm'];exact eq_comm))
  have hge:((m:Int)≤(n:Int)):=by omega
  have hl':n≤1000000000:=by omega
  have hm2:m≤1000000000:=by omega
  clear hd h1 h2 hb hn hm'
  go_enter Tryz.func78,Tryz.ntmps78
  go_wp2_with (go_at_call 36;((with_reducible refine (HE.out).mono ?_);rintro e w1 ⟨rfl,rfl⟩))
  go_ret
  exact⟨rfl,rfl⟩
 ·have hf:b=false:=by
   cases b with
   | false=>rfl
   | true =>
    have:=(hb.1 rfl).length_le
    omega
  subst hf
  have hge:¬ ((m:Int)≤(n:Int)):=by omega
  have hl':n≤1000000000:=by omega
  have hm2:m≤1000000000:=by omega
  clear h1 h2 hb hn hm'
  go_enter Tryz.func78,Tryz.ntmps78
  go_wp2
  go_ret
  exact⟨rfl,rfl⟩
theorem cutp_no (a:Option Addr) (n c:Nat) (v2:Value) (t s:List UInt8) (w:World) (hl:t.length≤1000000000) (hm:s.length≤1000000000) (h1:Rw eB w (.slice a n c) t) (h2:Rw eB w v2 s) (hb:¬ s <+: t) :
  Calls Tryz.prog 43 #[.slice a n c,v2] w fun e w'=>e=.returned (.tuple #[.slice a n c,.bool false])∧w=w':=by
 have HP:=Lib.hid (bpre_at _ _ t s false w hl hm h1 h2 (by simpa using hb))
 obtain⟨a2,c2,rfl,-⟩:=h2
 clear h1 hb hl hm
 go_enter Tryz.func43,Tryz.ntmps43
 go_wp2_with (go_at_call 78;((with_reducible refine (HP.out).mono ?_);rintro e w1 ⟨rfl,rfl⟩))
 refine bodyPost_ret (v:=.tuple #[.slice a n c,.bool false]) (by simp [results,Tryz.results43,go_sem]) rfl ⟨rfl,rfl⟩
def dropV (a:Option Addr) (n c m:Nat):Value:=.slice (if c=m then a else a.map (·.add m)) (n-m) (c-m)
theorem drop_rw {w:World} {a:Option Addr} {n c:Nat} {b:List UInt8} (h:Rw eB w (.slice a n c) b) (m:Nat) (hm:m≤n):Rw eB w (dropV a n c m) (b.drop m):=h.drop m hm
theorem drop_form (a:Option Addr) (n c m:Nat):∃ a' c',dropV a n c m=.slice a' (n-m) c':=⟨_,_,rfl⟩
theorem cutp_yes (a:Option Addr) (n c m:Nat) (v2:Value) (t s:List UInt8) (w:World) (hl:t.length≤1000000000) (hm:s.length≤1000000000) (h1:Rw eB w (.slice a n c) t) (h2:Rw eB w v2 s) (hb:s <+: t) (hm':s.length=m) :
  Calls Tryz.prog 43 #[.slice a n c,v2] w fun e w'=>e=.returned (.tuple #[dropV a n c m,.bool true])∧w=w':=by
 have HP:=Lib.hid (bpre_at _ _ t s true w hl hm h1 h2 (by simpa using hb))
 obtain⟨a2,c2,rfl,-⟩:=h2.form hm'
 obtain⟨hn,hc1,-,-⟩:=h1.at
 have hlen:=hb.length_le
 have hs:=run_from und8 size8 a n c m (by omega) hc1
 unfold dropV
 generalize (if c=m then a else a.map (·.add m))=a3 at hs ⊢
 generalize c-m=c3 at hs ⊢
 generalize n-m=n3 at hs ⊢
 rw [hm'] at hm
 clear h1 h2 hb hl hm' hlen hn hc1
 go_enter Tryz.func43,Tryz.ntmps43
 go_wp2_with (go_at_call 78;((with_reducible refine (HP.out).mono ?_);rintro e w1 ⟨rfl,rfl⟩))
 refine bodyPost_ret (v:=.tuple #[.slice a3 n3 c3,.bool true]) (by simp [results,Tryz.results43,go_sem]) rfl ⟨rfl,rfl⟩
end Go.Proofs.YtohkgdfkklfgmaaGreatDoor.L15
end
section
set_option maxRecDepth 100000
set_option maxHeartbeats 2000000
namespace Go.Proofs.YtohkgdfkklfgmaaGreatDoor.L15
set_option maxRecDepth 100000
open Go.RowKit L14
attribute [local go_sem] Oper.semAt_some
def fl (ps:List (Int × Value)):List Value:=ps.flatMap fun p=>[.int .i64 p.1,p.2]
theorem fl_snoc (ps:List (Int × Value)) (k:Int) (v:Value):fl (ps++[(k,v)])=fl ps++[.int .i64 k,v]:=by simp [fl]
theorem fl_len:∀ ps:List (Int × Value),(fl ps).length=ps.length*2
 | []=>rfl
 | p::r=>by
  have:=fl_len r
  unfold fl at this ⊢
  simp [List.flatMap_cons,this];omega
theorem fl_get:∀ (ps:List (Int × Value)) (j:Nat) (h:j<ps.length),(fl ps)[j*2]?=some (.int .i64 ps[j].1)∧(fl ps)[j*2+1]?=some ps[j].2
 | p::r,0,_=>by simp [fl]
 | p::r,j+1,h=>by
  have ih:=fl_get r j (by simpa using h)
  unfold fl at ih ⊢
  rw [List.flatMap_cons,show (j+1)*2=j*2+2 by omega]
  simpa using ih
def Fits (w:World) (ps:List (Int × Value)) (l:List Sc):Prop:=ps.length=l.length∧∀ j (h1:j<ps.length) (h2:j<l.length),ps[j].1=l[j].1∧Rw eB w ps[j].2 l[j].2
theorem Fits.nil (w:World):Fits w [] []:=⟨rfl,fun j h=>absurd h (by simp)⟩
theorem Fits.below {w w':World} {ps:List (Int × Value)} {l:List Sc} (h:Fits w ps l) (hb:Below w.heap.size w w'):Fits w' ps l:=⟨h.1,fun j h1 h2=>⟨(h.2 j h1 h2).1,(h.2 j h1 h2).2.below hb⟩⟩
theorem Fits.snoc {w:World} {ps:List (Int × Value)} {l:List Sc} {k:Int} {v:Value} {s:Sc} (h:Fits w ps l) (hk:k=s.1) (hv:Rw eB w v s.2):Fits w (ps++[(k,v)]) (l++[s]):=by
 refine⟨by rw [List.length_append,List.length_append,h.1];rfl,fun j h1 h2=>?_⟩
 by_cases hj:j<ps.length
 ·have hj2:j<l.length:=by rw [← h.1];exact hj
  rw [List.getElem_append_left hj,List.getElem_append_left hj2]
  exact h.2 j hj hj2
 ·have e1:j=ps.length:=by
   rw [List.length_append] at h1
   simp only [List.length_cons,List.length_nil] at h1
   omega
  subst e1
  have e2:ps.length=l.length:=h.1
  rw [List.getElem_append_right (Nat.le_refl _),List.getElem_append_right (by omega)]
  simp only [Nat.sub_self,e2,List.getElem_cons_zero]
  exact⟨hk,hv⟩
theorem own_ss {W:World} {B e:TypeId} {v:Value} {ps:List (Int × Value)} {l:List Sc} {n:Nat} (hn:l.length=n) (h:W.ownsRow B e 2 v n (fl ps)) (hf:Fits W ps l):Ss W v l:=by
 subst hn
 rcases h.2 with ⟨rfl,h0⟩|⟨g,cap,cur,rfl,_,hh,hle,_⟩
 ·rw [List.eq_nil_of_length_eq_zero h0]
  exact Ss.nil W
 ·refine⟨_,cap,rfl,hle,fun e=>(by cases e),fun hp=>⟨g,0,rfl,lt_of_block hh,fun j hj=>?_⟩⟩
  have hj2:j<ps.length:=by rw [hf.1];exact hj
  have k1:=h.cells (g:=g) rfl (j*2) _ (fl_get ps j hj2).1
  have k2:=h.cells (g:=g) rfl (j*2+1) _ (fl_get ps j hj2).2
  rw [add0,Nat.zero_add] at k1 k2
  rw [Nat.zero_add]
  obtain⟨q1,q2⟩:=hf.2 j hj2 hj
  rw [q1] at k1
  exact⟨k1,_,k2,q2⟩
theorem infoSr:(Tryz.prog.info? 75).map (fun i=>(i.zero,i.size,i.bytes))=some (some (.agg #[.int .i64 0,.slice none 0 0]),2,32):=by kernel_rfl
theorem infoSb:(Tryz.prog.info? 47).map (fun i=>(i.zero,i.size,i.bytes))=some (some (.agg #[.int .i64 0,.slice none 0 0]),2,32):=by kernel_rfl
def getV (l:List Sc) (k:Int):Option (List UInt8):=match l with
 | []=>none
 | s::r=>if s.1=k then some s.2 else getV r k
def GeQ (l:List Sc) (k:Int) (w:World) (e:Ending) (w':World):Prop :=
 ((getV l k=none∧e=.returned (.tuple #[.slice none 0 0,.bool false]))∨∃ d a c,getV l k=some d∧e=.returned (.tuple #[.slice a d.length c,.bool true])∧Rw eB w (.slice a d.length c) d)∧Below w.heap.size w w'
theorem get_at0 (v:Value) (l:List Sc) (k:Int) (w:World) (hv:Ss w v l) (hl:l.length≤1000000) :
  Calls Tryz.prog 68 #[v,.int .i64 k] w (GeQ l k w):=by
 obtain⟨n,hn⟩:∃ n,l.length=n:=⟨_,rfl⟩
 obtain⟨a,c,rfl,-,-,hc⟩:=hv.form hn
 rw [hn] at hl
 have HC:=Lib.hid hc
 have HN:=Lib.hid hn
 clear hn hc hv
 go_enter Tryz.func68,Tryz.ntmps68
 go_wp2
 go_loopw [7,10] (fun _ q wr=>∃ j:Nat,j≤n∧q=.int .i64 (j:Int)∧Below w.heap.size w wr∧Hid (getV l k=getV (l.drop j) k)) (fun _ q _=>n-(intOf q).toNat)
 case atStart=>exact⟨0,Nat.zero_le _,rfl,Below.refl _ _,Lib.hid rfl⟩
 case round =>
  obtain⟨j,hj,rfl,hB,hA⟩:=hrel
  by_cases hlt:j<n
  ·have hjl:j<l.length:=by rw [HN.out];exact hlt
   obtain⟨bb,o,rfl,hbl,hcc⟩:=HC.out (by omega)
   obtain⟨x0,dv,x1,hr⟩:=hcc j hjl
   obtain⟨m,hm⟩:∃ m,l[j].2.length=m:=⟨_,rfl⟩
   obtain⟨da,dc,rfl,-⟩:=hr.form hm
   have y0:=(hB.cell (p:=⟨bb,o+j*2,none⟩) (by exact hbl)).trans x0
   have y1:=(hB.cell (p:=⟨bb,o+j*2+1,none⟩) (by exact hbl)).trans x1
   have hsz:=hB.size
   have hg:=hA.out
   rw [List.drop_eq_getElem_cons hjl,getV] at hg
   obtain⟨kk,hkk⟩:∃ kk,l[j].1=kk:=⟨_,rfl⟩
   rw [hkk] at y0 hg
   have HR:=Lib.hid (And.intro hm hr)
   by_cases he:kk=k
   ·rw [if_pos he] at hg
    have heb:(kk==k)=true:=by simpa using he
    have HG:=Lib.hid hg
    clear hcc x0 x1 hr hm hA hkk hg he
    go_wp2
    refine bodyPost_ret (v:=.tuple #[.slice da m dc,.bool true]) (by simp [results,Tryz.results68,go_sem]) rfl ⟨.inr ⟨_,da,dc,HG.out,by rw [HR.out.1],?_⟩,bch hB (bnew _ _)⟩
    rw [HR.out.1]
    exact HR.out.2
   ·rw [if_neg he] at hg
    have heb:(kk==k)=false:=by simpa using he
    have HG:=Lib.hid hg
    clear hcc x0 x1 hr hm hA hkk hg HR
    go_wp2
    go_roundw
    case rel=>exact⟨j+1,hlt,by go_num,bch hB (bnew _ _),HG⟩
    case measure=>simp [intOf];omega
  ·obtain rfl:j=n:=by omega
   have hg:=hA.out
   rw [List.drop_eq_nil_of_le (by rw [HN.out];exact Nat.le_refl _)] at hg
   have HG:=Lib.hid hg
   clear hA hg
   go_wp2
   refine bodyPost_ret (v:=.tuple #[.slice none 0 0,.bool false]) (by simp [results,Tryz.results68,go_sem]) rfl ⟨.inl ⟨HG.out,rfl⟩,hB⟩
end Go.Proofs.YtohkgdfkklfgmaaGreatDoor.L15
end
section
set_option maxRecDepth 100000
set_option maxHeartbeats 4000000
namespace Go.Proofs.YtohkgdfkklfgmaaGreatDoor.L15
set_option maxRecDepth 100000
open Go.RowKit L14
attribute [local go_sem] Oper.semAt_some
theorem byte_val (z:Nat):eB (UInt8.ofNat (z % 256))=.int .u8 ((z % 256:Nat):Int):=by
 unfold eB
 rw [UInt8.toNat_ofNat']
 congr 2
 omega
def Gr (f:Prop) (w:World) (B:Nat) (v:Value) (n:Nat) (xs:List Value):Prop :=
 w.ownsRow B 5 1 v n xs∨(f∧∃ g,v=.slice (some ⟨g,0,none⟩) n n∧B≤g∧g<w.heap.size∧xs.length=n∧∀ j u,xs[j]?=some u→w.cell? ⟨g,j,none⟩=some u)
theorem Gr.slice {f:Prop} {w:World} {B:Nat} {v:Value} {n:Nat} {xs:List Value} (h:Gr f w B v n xs):∃ a c,v=.slice a n c:=by
 rcases h with h|⟨-,g,rfl,-⟩
 ·exact owns_slice h
 ·exact⟨_,_,rfl⟩
theorem Gr.base {f:Prop} {w:World} {B:Nat} {v:Value} {n:Nat} {xs:List Value} (h:Gr f w B v n xs):∀ k,v.ownBlock=some k→B≤k:=by
 rcases h with h|⟨-,g,rfl,hb,-⟩
 ·exact own_base h
 ·intro k hk
  simp [Value.ownBlock] at hk
  omega
theorem Gr.alloc {f:Prop} {w:World} {B:Nat} {v:Value} {n:Nat} {xs:List Value} (h:Gr f w B v n xs) (o:Obj):Gr f (w.alloc o) B v n xs:=by
 rcases h with h|⟨hf,g,rfl,hb,hl,hx,hc⟩
 ·exact .inl (h.alloc o)
 ·exact .inr ⟨hf,g,rfl,hb,Nat.lt_of_lt_of_le hl (by simp),hx,fun j u hu=>((bnew w o).cell (by exact hl)).trans (hc j u hu)⟩
theorem run_append_full {w:World} (B:Nat) (ty:TypeId) (g n:Nat) (xs:List Value) (hxs:xs.length=n) (hc:∀ j u,xs[j]?=some u→w.cell? ⟨g,j,none⟩=some u) (ad:Addr) (c:Nat) (x:Value) (hx:w.cell? (ad.add 0)=some x) (hn:n≤2000000000) (hB:B≤w.heap.size) :
  ∃ v' w',(Builtin.append_ #[23,23] ty #[.slice (some ⟨g,0,none⟩) n n,.slice (some ad) 1 c]).run Tryz.prog w=.ok v' w'∧w'.ownsRow B 5 1 v' (n+1) (xs++[x])∧∀ row,w.grownBy w' row:=by
 obtain⟨ib,ki,kz0,kz1,kz2⟩:=info_parts infoByte
 have hr:=run_append_grow (P:=Tryz.prog) w 23 ty 5 ib (.int .u8 0) Tryz.underlying23 ki kz0 ⟨g,0,none⟩ n n xs (by rw [kz1,hxs];omega) (fun j u hu=>by rw [add0,Nat.zero_add];exact hc j u hu) ad 1 c [x] (by rw [kz1];rfl)
  (fun j u hu=>by
   cases j with
   | zero=>simp only [List.getElem?_cons_zero,Option.some.injEq] at hu;rw [← hu];exact hx
   | succ j=>simp at hu) (by omega) (by omega) (growslice_fits (by omega) (by rw [kz2];omega))
 refine⟨_,_,hr,⟨by simp [hxs],.inr ⟨w.heap.size,_,_,rfl,hB,heap_alloc_new w.drew _,grownCap_ge w (n+1) n 5,grownCap_le_maxLen w (n+1) n 5 (by unfold maxLen;omega),?_,?_⟩⟩,fun row=>⟨rfl,rfl,rfl,by simp,fun k hk _=>heap_alloc_old w.drew _ hk⟩⟩
 ·have hge:=grownCap_ge w (n+1) n 5
  simp [size_zeroCells,hxs,Value.cells]
  omega
 ·simp only [Array.toList_append]
  rw [List.take_append_of_le_length (by simp [hxs]),List.take_of_length_le (by simp [hxs])]
theorem wpList_append_gr {f:Prop} {w:World} {ops:Array Oper} {rest:List Oper} {o:Oper} {a:Act} {Q:Exit→Act→World→Prop} (hgd:o.guard=none) (s x:Operand)
  (ho:o.op=.call { callee:=.builtin .append,args:=#[s,x],argTypes:=#[23,23] }) (base:Nat)
  (v:Value) (n:Nat) (xs:List Value) (hs:a.eval s=v) (hown:Gr f w base v n xs) (g:Nat) (y:Value) (hx:a.eval x=.slice (some ⟨g,0,none⟩) 1 1) (hy:w.cell? ⟨g,0,none⟩=some y) (h1:y.oneCell'=true) (hn:n≤2000000000) (hbase:base≤w.heap.size)
  (h:∀ v' w',w'.ownsRow base 5 1 v' (n+1) (xs++[y])→w.grownBy w' v.ownBlock→wpList Tryz.prog ops Q rest (a.put o.dst v') w'):wpList Tryz.prog ops Q (o::rest) a w:=by
 obtain⟨ib,ki,kz0,kz1,kz2⟩:=info_parts infoByte
 rcases hown with hown|⟨-,g',rfl,-,-,hxs,hc⟩
 ·refine wpList_append_own w hgd s x 23 ho base 5 ib (.int .u8 0) 1 1 Tryz.underlying23 ki kz0 kz1 kz2 rfl (by decide) v n xs hs hown ⟨g,0,none⟩ 1 1 [y] hx (by simp) (fun j u hu=>?_) (by simpa using h1) (by unfold maxLen;omega) (by omega) hbase (fun v' w' q1 q2 _=>h v' w' q1 q2)
  cases j with
  | zero=>simp only [List.getElem?_cons_zero,Option.some.injEq] at hu;rw [← hu];exact hy
  | succ j=>simp at hu
 ·obtain⟨v',w',hr,q1,q2⟩:=run_append_full (w:=w) base o.type g' n xs hxs hc ⟨g,0,none⟩ 1 y hy hn hbase
  refine wpList_plain hgd fun K hK=>?_
  unfold Oper.wp execOp
  simp only [ho,resolve,invoke,builtin,Sem.run_bind,Sem.run_pure,Result.andThen_ok,List.map_toArray,List.map_cons,List.map_nil,hs,hx,hr]
  exact hK _ _ (h v' w' q1 (q2 _))
theorem number_at (v:Value) (xs:List UInt8) (B N x m:Nat) (w:World) (hB:B≤w.heap.size) (hv:Gr True w B v N (xs.map eB)) (hN:N≤1000000000) (hm:m≤4) (hm0:0<m) (hx:x<4294967296) :
  Calls Tryz.prog 64 #[v,.int .i64 (x:Int),.int .i64 (m:Int)] w fun e w'=>(∃ v',e=.returned v'∧w'.ownsRow B 5 1 v' (N+m) ((xs++le m x).map eB))∧Below B w w':=by
 obtain⟨a,c,rfl⟩:=hv.slice
 have HV:=Lib.hid hv
 clear hv
 go_enter Tryz.func64,Tryz.ntmps64
 go_wp2
 go_loopw [0,1,7] (fun ov y q wr=>∃ j:Nat,j≤m∧q=.int .i64 (j:Int)∧y=.int .i64 ((x / 256 ^ j:Nat):Int)∧Gr (j=0) wr B ov (N+j) ((xs++le j x).map eB)∧B≤wr.heap.size∧Below B w wr) (fun _ _ q _=>m-(intOf q).toNat)
 case atStart=>exact⟨0,Nat.zero_le _,rfl,by simp,by simpa [le,Gr] using HV.out,hB,Below.refl _ _⟩
 case round =>
  obtain⟨j,hj,rfl,rfl,hown,hBw,hBe⟩:=hrel
  obtain⟨oa,oc,rfl⟩:=hown.slice
  by_cases hlt:j<m
  ·have hdv:x / 256 ^ j≤x:=Nat.div_le_self _ _
   have hnext:x / 256 ^ (j+1)=x / 256 ^ j / 256:=by rw [Nat.div_div_eq_div_mul,Nat.pow_succ]
   have hcs:(xs++le j x).map eB++[.int .u8 ((x / 256 ^ j % 256:Nat):Int)]=(xs++le (j+1) x).map eB:=by
    rw [le_snoc,← List.append_assoc,List.map_append (l₁:=xs++le j x),← byte_val];rfl
   obtain⟨y,hy⟩:∃ y,x / 256 ^ j=y:=⟨_,rfl⟩
   rw [hy] at hdv hnext hcs ⊢
   have HC:=Lib.hid hcs
   have HY:=Lib.hid hnext
   have hy4:y<4294967296:=by omega
   have e1:((y % 256:Nat):Int)=(y:Int) % 256:=by omega
   rw [e1] at HC
   clear hdv hnext hcs hy e1
   go_wp2_with (at_builtin;refine wpList_append_gr rfl _ _ rfl B _ (N+j) _ rfl (hown.alloc _) wr.heap.size (.int .u8 ((y:Int) % 256)) rfl (cell_new wr _ _) rfl (by omega) (by simp;omega) ?_;intro v' w5 hown6 hgrow6;have B2:=(hBe.alloc hBw _).grown hgrow6 (by simp;omega) hown.base;have z5:B≤w5.heap.size:=Nat.le_trans hBw (Nat.le_trans (by simp) hgrow6.size))
   go_roundw
   case rel=>exact⟨j+1,hlt,by go_num,by rw [HY.out];go_num,.inl (by rw [← HC.out];exact hown6),z5,B2⟩
   case measure=>simp [intOf];omega
  ·obtain rfl:j=m:=by omega
   have hown2:wr.ownsRow B 5 1 (.slice oa (N+j) oc) (N+j) ((xs++le j x).map eB):=by
    rcases hown with h|⟨h,-⟩
    ·exact h
    ·omega
   have HO:=Lib.hid hown2
   clear hown hown2
   go_wp2
   go_ret
   exact⟨⟨_,rfl,HO.out⟩,hBe⟩
theorem pad_at (v:Value) (xs:List UInt8) (B N:Nat) (w:World) (hB:B≤w.heap.size) (hv:w.ownsRow B 5 1 v N (xs.map eB)) (hN:N≤1000000000) :
  Calls Tryz.prog 67 #[v] w fun e w'=>(∃ v',e=.returned v'∧w'.ownsRow B 5 1 v' (up N) ((xs++zs N).map eB))∧Below B w w':=by
 obtain⟨ib,ki,kz0,kz1,kz2⟩:=info_parts infoByte
 obtain⟨a,c,rfl⟩:=owns_slice hv
 obtain⟨U,hU⟩:∃ U,up N=U:=⟨_,rfl⟩
 have hU1:=up_ge N
 have hU2:=up_le N
 have hU3:U % 8=0:=by rw [← hU];unfold up;omega
 unfold zs
 rw [hU] at hU1 hU2 ⊢
 have HV:=Lib.hid hv
 clear hv hU
 go_enter Tryz.func67,Tryz.ntmps67
 go_wp2
 go_loopw [0] (fun ov wr=>∃ j:Nat,N+j≤U∧wr.ownsRow B 5 1 ov (N+j) ((xs++List.replicate j 0).map eB)∧B≤wr.heap.size∧Below B w wr) (fun ov _=>U-(match ov with | .slice _ n _=>n|_=>0))
 case atStart=>exact⟨0,by omega,by simpa using HV.out,hB,Below.refl _ _⟩
 case round =>
  obtain⟨j,hj,hown,hBw,hBe⟩:=hrel
  obtain⟨oa,oc,rfl⟩:=owns_slice hown
  by_cases hlt:N+j<U
  ·have hne:(((N+j:Nat):Int) % 8 != 0)=true:=by
    simp only [bne_iff_ne,ne_eq];omega
   have hcs:(xs++List.replicate j 0).map eB++[.int .u8 0]=(xs++List.replicate (j+1) 0).map eB:=by
    rw [List.replicate_succ',← List.append_assoc,List.map_append (l₁:=xs++List.replicate j 0)];rfl
   obtain⟨M,hM⟩:∃ M,N+j=M:=⟨_,rfl⟩
   have HC:=Lib.hid hcs
   have HM:=Lib.hid hM
   rw [hM] at hown hne ⊢
   have hMb:M≤2000000000:=by omega
   have hMU:M<U:=by omega
   clear hcs hM
   go_wp2_with (at_builtin;refine wpList_append_own _ rfl _ _ 23 rfl B 5 ib (.int .u8 0) 1 1 Tryz.underlying23 ki kz0 kz1 kz2 rfl (by decide) _ M _ rfl (hown.alloc _) ⟨wr.heap.size,0,none⟩ 1 1 [.int .u8 0] rfl rfl (World.news_of_block (cs:=#[.int .u8 0]) (t:=5) (fr:=(0,0)) (heap_alloc_last wr _)) (by simp [Value.oneCell']) (by unfold maxLen;omega) (by omega) (by simp;omega) ?_;intro v' w5 hown6 hgrow6 _;have B2:=(hBe.alloc hBw _).grown hgrow6 (by simp;omega) (own_base hown);have z5:B≤w5.heap.size:=Nat.le_trans hBw (Nat.le_trans (by simp) hgrow6.size);obtain⟨na,nc,hvs⟩:=owns_slice hown6;subst hvs)
   go_roundw
   case rel=>exact⟨j+1,by have:=HM.out;omega,by rw [← HC.out,← Nat.add_assoc,HM.out];exact hown6,z5,B2⟩
   case measure=>simp;omega
  ·obtain⟨M,hM⟩:∃ M,N+j=M:=⟨_,rfl⟩
   obtain rfl:M=U:=by omega
   have hej:j=M-N:=by omega
   have hz:(((N+j:Nat):Int) % 8 != 0)=false:=by
    simp only [bne_eq_false_iff_eq];omega
   subst hej
   rw [hM] at hown hz ⊢
   have HO:=Lib.hid hown
   clear hown hM
   go_wp2
   go_ret
   exact⟨⟨_,rfl,HO.out⟩,hBe⟩
structure Fw (l:List Sc):Prop where
 n:l.length≤16
 d:∀ s∈l,s.2.length≤1000000
theorem Fw.sml {l:List Sc} (h:Fw l):Sml l:=⟨by have:=h.n;omega,h.d⟩
theorem Fw.tot {l:List Sc} (h:Fw l):tot l≤16000112:=by
 have h1:=tot_bound l 1000000 h.d
 have h2:=h.n
 have h3:l.length*(1000000+7)≤16*(1000000+7):=Nat.mul_le_mul_right _ h2
 omega
theorem Fw.sz {l:List Sc} (h:Fw l):szL l≤16001000:=by
 have h1:=h.tot
 have h2:=up_le (16+12*l.length)
 have h3:=h.n
 unfold szL L15.hd;omega
theorem rows_snoc (l:List Sc) (k a:Nat) (h:k<l.length):rows a (l.take (k+1))=rows a (l.take k)++row l[k] (a+tot (l.take k)):=by
 rw [take_snoc l k h,rows_app,rows,rows,List.append_nil]
theorem body_snoc (l:List Sc) (k:Nat) (h:k<l.length):body (l.take (k+1))=body (l.take k)++l[k].2++zs l[k].2.length:=by
 rw [take_snoc l k h,body_app,body,body,List.append_nil,List.append_assoc]
theorem tot_8:∀ l:List Sc,tot l % 8=0
 | []=>rfl
 | s::r=>by
  have:=tot_8 r
  rw [tot];unfold up;omega
def NuP (B:Nat) (xs:List UInt8) (N:Nat) (e:Ending) (w':World) (w:World):Prop:=(∃ a c,e=.returned (.slice a N c)∧w'.ownsRow B 5 1 (.slice a N c) N (xs.map eB))∧Below B w w'∧w.heap.size≤w'.heap.size
theorem number_is (v:Value) (xs ys:List UInt8) (B N M x m:Nat) (X Mi:Int) (w:World) (hB:B≤w.heap.size) (hv:Gr True w B v N (xs.map eB)) (hN:N≤1000000000) (hm:m≤4∧0<m) (hx:x<4294967296) (hX:X=(x:Int)) (hM:Mi=(m:Int)) (hys:ys=xs++le m x) (hNM:M=N+m) :
  Calls Tryz.prog 64 #[v,.int .i64 X,.int .i64 Mi] w fun e w'=>NuP B ys M e w' w:=by
 subst hX hM hys hNM
 refine (number_at v xs B N x m w hB hv hN hm.1 hm.2 hx).mono fun e w' h=>?_
 obtain⟨⟨v',he,ho⟩,hb⟩:=h
 obtain⟨a,c,rfl⟩:=owns_slice ho
 exact⟨⟨a,c,he,ho⟩,hb,hb.size⟩
theorem pad_is (v:Value) (xs ys:List UInt8) (B N M:Nat) (w:World) (hB:B≤w.heap.size) (hv:w.ownsRow B 5 1 v N (xs.map eB)) (hN:N≤1000000000) (hys:ys=xs++zs N) (hNM:M=up N) :
  Calls Tryz.prog 67 #[v] w fun e w'=>NuP B ys M e w' w:=by
 subst hys hNM
 refine (pad_at v xs B N w hB hv hN).mono fun e w' h=>?_
 obtain⟨⟨v',he,ho⟩,hb⟩:=h
 obtain⟨a,c,rfl⟩:=owns_slice ho
 exact⟨⟨a,c,he,ho⟩,hb,hb.size⟩
theorem rwrite_at (v:Value) (l:List Sc) (w:World) (hv:Ss w v l) (hs:Fw l) (hk:asc 0 l=true) (S:Nat) (hS:szL l=S) :
  Calls Tryz.prog 34 #[v] w fun e w'=>NuP w.heap.size (wr l) S e w' w:=by
 obtain⟨n,hn⟩:∃ n,l.length=n:=⟨_,rfl⟩
 obtain⟨a,c,rfl,-,-,hc⟩:=hv.form hn
 have hnl:=hs.n
 have htt:=hs.tot
 have hsz:=hs.sz
 rw [hn] at hnl
 rw [hS] at hsz
 have hS2:S=hd n+tot l:=by rw [← hS,← hn];rfl
 obtain⟨H,hH⟩:∃ H,hd n=H:=⟨_,rfl⟩
 have hHb:H≤300:=by
  have:=up_le (16+12*n)
  rw [← hH];unfold hd;omega
 rw [hH] at hS2
 have HZ:=Lib.hid (fun W (hb:Below w.heap.size w W)=>rsize_at (.slice a n c) l S W (hv.below hb) hs.sml hS)
 have HU:=Lib.hid (show ∀ W,Calls Tryz.prog 66 #[.int .i64 (16+12*(n:Int))] W fun e w'=>e=.returned (.int .i64 (H:Int))∧W=w' from fun W=>rup_at (16+12*n) H W (by omega) hH)
 have hkc:=Lib.run_convert_bytes_const (P:=Tryz.prog) w 23 5 #[.int .u8 83,.int .u8 76,.int .u8 67,.int .u8 49] 4 4 Tryz.underlying23 Tryz.underlying5
 have hr0:Gr True (w.alloc (.cells #[.int .u8 83,.int .u8 76,.int .u8 67,.int .u8 49] 5 (4,5))) w.heap.size (.slice (some ⟨w.heap.size,0,none⟩) 4 4) 4 (([83,76,67,49]:List UInt8).map eB):=by
  refine .inr ⟨trivial,w.heap.size,rfl,Nat.le_refl _,by simp,rfl,fun j u hu=>?_⟩
  have hn:(w.alloc (.cells #[.int .u8 83,.int .u8 76,.int .u8 67,.int .u8 49] 5 (4,5))).heap[w.heap.size]?=some (.cells #[.int .u8 83,.int .u8 76,.int .u8 67,.int .u8 49] 5 (4,5)):=heap_alloc_new w _
  unfold World.cell?
  simp only [hn]
  rw [← hu]
  simp [eB]
 have HR0:=Lib.hid hr0
 have b0:=Lib.hid (bnew w (.cells #[.int .u8 83,.int .u8 76,.int .u8 67,.int .u8 49] 5 (4,5)))
 have HN1:=Lib.hid (fun W v (hB:w.heap.size≤W.heap.size) (h:Gr True W w.heap.size v 4 (([83,76,67,49]:List UInt8).map eB))=>number_is v _ ([83,76,67,49]++le 2 1) w.heap.size 4 6 1 2 1 2 W hB h (by omega) (by omega) (by omega) rfl rfl rfl rfl)
 have HN2:=Lib.hid (fun W v (hB:w.heap.size≤W.heap.size) (h:W.ownsRow w.heap.size 5 1 v 6 (([83,76,67,49]++le 2 1:List UInt8).map eB))=>number_is v _ ([83,76,67,49]++le 2 1++le 2 n) w.heap.size 6 8 n 2 (n:Int) 2 W hB (.inl h) (by omega) (by omega) (by omega) rfl rfl rfl rfl)
 have HN3:=Lib.hid (fun W v (hB:w.heap.size≤W.heap.size) (h:W.ownsRow w.heap.size 5 1 v 8 (([83,76,67,49]++le 2 1++le 2 n:List UInt8).map eB))=>number_is v _ ([83,76,67,49]++le 2 1++le 2 n++le 4 S) w.heap.size 8 12 S 4 (S:Int) 4 W hB (.inl h) (by omega) (by omega) (by omega) rfl rfl rfl rfl)
 have HN4:=Lib.hid (fun W v (hB:w.heap.size≤W.heap.size) (h:W.ownsRow w.heap.size 5 1 v 12 (([83,76,67,49]++le 2 1++le 2 n++le 4 S:List UInt8).map eB))=>number_is v _ (hea l) w.heap.size 12 16 0 4 0 4 W hB (.inl h) (by omega) (by omega) (by omega) rfl rfl (by rw [hea,hn,hS]) rfl)
 have HC:=Lib.hid hc
 have HN:=Lib.hid hn
 have HS2:=Lib.hid hS2
 have HT:=Lib.hid htt
 have HH:=Lib.hid hH
 have HM:=Lib.hid hs.d
 have HK:=Lib.hid hk
 clear hn hc hv hs hk hS hS2 htt hr0 hH
 go_enter Tryz.func34,Tryz.ntmps34
 go_wp2_with (first
  | (go_at_call 64;((with_reducible refine (HN1.out _ _ (by simp) HR0.out).mono ?_);rintro e w1 ⟨⟨a1,c1,rfl,o1⟩,b1,z1⟩;have B1:=b0.out.trans b1))
  | (go_at_call 64;((with_reducible refine (HN2.out _ _ B1.size o1).mono ?_);rintro e w2 ⟨⟨a2,c2,rfl,o2⟩,b2,z2⟩;have B2:=B1.trans b2))
  | (go_at_call 65;((with_reducible refine (HZ.out _ B2).mono ?_);rintro e w3 ⟨rfl,rfl⟩))
  | (go_at_call 64;((with_reducible refine (HN3.out _ _ B2.size o2).mono ?_);rintro e w4 ⟨⟨a4,c4,rfl,o4⟩,b4,z4⟩;have B4:=B2.trans b4))
  | (go_at_call 64;((with_reducible refine (HN4.out _ _ B4.size o4).mono ?_);rintro e w5 ⟨⟨a5,c5,rfl,o5⟩,b5,z5⟩;have B5:=B4.trans b5))
  | (go_at_call 66;((with_reducible refine (HU.out _).mono ?_);rintro e w6 ⟨rfl,rfl⟩)))
 have H5:=Lib.hid (And.intro o5 B5)
 clear o1 o2 o4 o5 b1 b2 b4 b5 B1 B2 B4 B5 z1 z2 z4 z5 HN1 HN2 HN3 HN4
 go_loopw [3,4,5] (fun ov at' q wr=>∃ j:Nat,j≤n∧q=.int .i64 (j:Int)∧at'=.int .i64 ((H+tot (l.take j):Nat):Int)∧wr.ownsRow w.heap.size 5 1 ov (16+12*j) ((hea l++rows H (l.take j)).map eB)∧Below w.heap.size w wr) (fun _ _ q _=>n-(intOf q).toNat)
 case atStart=>exact⟨0,Nat.zero_le _,rfl,by simp [tot],by simpa [rows] using H5.out.1,H5.out.2⟩
 case round =>
  clear H5
  obtain⟨j,hj,rfl,rfl,hown,hB⟩:=hrel
  obtain⟨oa,oc,rfl⟩:=owns_slice hown
  by_cases hlt:j<n
  ·have hjl:j<l.length:=by rw [HN.out];exact hlt
   obtain⟨bb,o,rfl,hbl,hcc⟩:=HC.out (by omega)
   obtain⟨x0,dv,x1,hr⟩:=hcc j hjl
   obtain⟨m,hm⟩:∃ m,l[j].2.length=m:=⟨_,rfl⟩
   obtain⟨da,dc,rfl,-⟩:=hr.form hm
   have hk:=asc_lt l 0 l[j] HK.out (List.getElem_mem hjl)
   obtain⟨kn,hkn⟩:∃ kn:Nat,l[j].1=(kn:Int):=⟨l[j].1.toNat,by omega⟩
   rw [hkn] at x0 hk
   have hml:=HM.out _ (List.getElem_mem hjl)
   rw [hm] at hml
   have hst:=tot_step l j hjl
   have hle:=tot_le l (j+1)
   have htt:=HT.out
   rw [hm] at hst
   obtain⟨u,hu⟩:∃ u,up m=u:=⟨_,rfl⟩
   have HP:=Lib.hid (fun W=>rup_at m u W (by omega) hu)
   rw [hu] at hst
   have hrw:=rows_snoc l j H hjl
   have hro:row l[j] (H+tot (l.take j))=le 4 kn++le 4 (H+tot (l.take j))++le 4 m:=by
    unfold row
    rw [hkn,hm,Int.toNat_natCast]
   rw [hro] at hrw
   obtain⟨t,ht⟩:∃ t,tot (l.take j)=t:=⟨_,rfl⟩
   rw [ht] at hst hrw ⊢
   have htb:t≤17000000:=by omega
   have hub:u≤17000000:=by omega
   obtain⟨A,hA⟩:∃ A,H+t=A:=⟨_,rfl⟩
   rw [hA] at hrw ⊢
   have hAb:A≤17000300:=by omega
   have HA1:=Lib.hid (show H+tot (l.take (j+1))=A+u by omega)
   have hap:hea l++rows H (l.take (j+1))=hea l++rows H (l.take j)++le 4 kn++le 4 A++le 4 m:=by
    rw [hrw];simp only [List.append_assoc]
   have HAP:=Lib.hid hap
   have HOwn:=Lib.hid hown
   have M1:=Lib.hid (fun W v (hB:w.heap.size≤W.heap.size) (h:W.ownsRow w.heap.size 5 1 v (16+12*j) ((hea l++rows H (l.take j)).map eB))=>number_is v _ (hea l++rows H (l.take j)++le 4 kn) w.heap.size (16+12*j) (16+12*j+4) kn 4 (kn:Int) 4 W hB (.inl h) (by omega) (by omega) (by omega) rfl rfl rfl rfl)
   have M2:=Lib.hid (fun W v (hB:w.heap.size≤W.heap.size) (h:W.ownsRow w.heap.size 5 1 v (16+12*j+4) ((hea l++rows H (l.take j)++le 4 kn).map eB))=>number_is v _ (hea l++rows H (l.take j)++le 4 kn++le 4 A) w.heap.size (16+12*j+4) (16+12*j+8) A 4 (A:Int) 4 W hB (.inl h) (by omega) (by omega) (by omega) rfl rfl rfl (by omega))
   have M3:=Lib.hid (fun W v (hB:w.heap.size≤W.heap.size) (h:W.ownsRow w.heap.size 5 1 v (16+12*j+8) ((hea l++rows H (l.take j)++le 4 kn++le 4 A).map eB))=>number_is v _ (hea l++rows H (l.take j)++le 4 kn++le 4 A++le 4 m) w.heap.size (16+12*j+8) (16+12*(j+1)) m 4 (m:Int) 4 W hB (.inl h) (by omega) (by omega) (by omega) rfl rfl rfl (by omega))
   have y0:=(hB.cell (p:=⟨bb,o+j*2,none⟩) (by exact hbl)).trans x0
   have y1:=(hB.cell (p:=⟨bb,o+j*2+1,none⟩) (by exact hbl)).trans x1
   have HX1:=Lib.hid x1
   have HBL:=Lib.hid hbl
   have hsz1:=hB.size
   clear hcc x0 x1 hr hm hkn hk hst hle htt hu hrw hro ht hA hap hown
   go_wp2_with (first
    | (go_at_call 64;((with_reducible refine (M1.out _ _ hB.size HOwn.out).mono ?_);rintro e w1 ⟨⟨a1,c1,rfl,o1⟩,b1,z1⟩;have B1:=hB.trans b1))
    | (go_at_call 64;((with_reducible refine (M2.out _ _ B1.size o1).mono ?_);rintro e w2 ⟨⟨a2,c2,rfl,o2⟩,b2,z2⟩;have B2:=B1.trans b2;have y2:=(B2.cell (p:=⟨bb,o+j*2+1,none⟩) (by exact HBL.out)).trans HX1.out;have hs2:=B2.size))
    | (go_at_call 64;((with_reducible refine (M3.out _ _ B2.size o2).mono ?_);rintro e w3 ⟨⟨a3,c3,rfl,o3⟩,b3,z3⟩;have B3:=B2.trans b3;have y3:=(B3.cell (p:=⟨bb,o+j*2+1,none⟩) (by exact HBL.out)).trans HX1.out;have hs3:=B3.size))
    | (go_at_call 66;((with_reducible refine (HP.out _).mono ?_);rintro e w6 ⟨rfl,rfl⟩)))
   go_roundw
   case rel=>exact⟨j+1,hlt,by go_num,by rw [HA1.out];go_num,by rw [HAP.out];exact o3,B3⟩
   case measure=>simp [intOf];omega
  ·obtain rfl:j=n:=by omega
   have hto:l.take j=l:=List.take_of_length_le (by rw [HN.out];exact Nat.le_refl _)
   rw [hto] at hown
   have HP:=Lib.hid (fun W v (hB:w.heap.size≤W.heap.size) (h:W.ownsRow w.heap.size 5 1 v (16+12*j) ((hea l++rows H l).map eB))=>pad_is v _ (frt l++body (l.take 0)) w.heap.size (16+12*j) (H+tot (l.take 0)) W hB h (by omega) (by rw [List.take_zero,body,List.append_nil,frt,tab,HN.out,HH.out]) (by rw [List.take_zero,tot,← HH.out];rfl))
   have HOwn:=Lib.hid hown
   have HBB:=Lib.hid hB
   clear hown hto hB
   go_wp2_with (go_at_call 67;((with_reducible refine (HP.out _ _ HBB.out.size HOwn.out).mono ?_);rintro e w1 ⟨⟨a1,c1,rfl,o1⟩,b1,z1⟩;have B1:=HBB.out.trans b1))
   have H6:=Lib.hid (And.intro o1 B1)
   clear o1 b1 z1 B1 HBB HOwn HP
   go_loopw [3,6] (fun ov q wr=>∃ i:Nat,i≤j∧q=.int .i64 (i:Int)∧wr.ownsRow w.heap.size 5 1 ov (H+tot (l.take i)) ((frt l++body (l.take i)).map eB)∧Below w.heap.size w wr) (fun _ q _=>j-(intOf q).toNat)
   case atStart=>exact⟨0,Nat.zero_le _,rfl,H6.out.1,H6.out.2⟩
   case round =>
    clear H6
    obtain⟨i,hi,rfl,hown,hB⟩:=hrel
    obtain⟨oa,oc,rfl⟩:=owns_slice hown
    by_cases hlt2:i<j
    ·have hjl:i<l.length:=by rw [HN.out];exact hlt2
     obtain⟨bb,o,rfl,hbl,hcc⟩:=HC.out (by omega)
     obtain⟨x0,dv,x1,hr⟩:=hcc i hjl
     obtain⟨m,hm⟩:∃ m,l[i].2.length=m:=⟨_,rfl⟩
     have hml:=HM.out _ (List.getElem_mem hjl)
     rw [hm] at hml
     have hst:=tot_step l i hjl
     have hle:=tot_le l (i+1)
     have htt:=HT.out
     rw [hm] at hst
     have hbs:=body_snoc l i hjl
     rw [hm] at hbs
     have hrb:=hr.below hB
     obtain⟨da,dc,rfl,-⟩:=hr.form hm
     have y0:=(hB.cell (p:=⟨bb,o+i*2,none⟩) (by exact hbl)).trans x0
     have y1:=(hB.cell (p:=⟨bb,o+i*2+1,none⟩) (by exact hbl)).trans x1
     obtain⟨t,ht⟩:∃ t,tot (l.take i)=t:=⟨_,rfl⟩
     rw [ht] at hst hown ⊢
     have hH8:H % 8=0:=by rw [← HH.out];unfold hd up;omega
     have ht8:t % 8=0:=by rw [← ht];exact tot_8 _
     have hup:H+tot (l.take (i+1))=up (H+t+m):=by
      rw [hst];unfold up;omega
     have hzs:zs (H+t+m)=zs m:=by
      unfold zs
      congr 1
      unfold up;omega
     have hbd:H+t+m≤20000000:=by omega
     have hap:frt l++body (l.take (i+1))=frt l++body (l.take i)++l[i].2++zs (H+t+m):=by
      rw [hbs,hzs];simp only [List.append_assoc]
     have HR:=Lib.hid hrb
     have HM2:=Lib.hid hm
     have HP:=Lib.hid (fun W v (hB:w.heap.size≤W.heap.size) (h:W.ownsRow w.heap.size 5 1 v (H+t+m) ((frt l++body (l.take i)).map eB++l[i].2.map eB))=>pad_is v _ (frt l++body (l.take (i+1))) w.heap.size (H+t+m) (H+tot (l.take (i+1))) W hB (by rw [← List.map_append] at h;exact h) (by omega) hap hup)
     have hsz1:=hB.size
     obtain⟨N,hNN⟩:∃ N,H+t=N:=⟨_,rfl⟩
     have hNb:N≤20000000:=by omega
     rw [hNN] at hown HP ⊢
     generalize l[i].1=kk at y0
     obtain⟨D,hD⟩:∃ D,l[i].2=D:=⟨_,rfl⟩
     rw [hD] at HR HP HM2
     clear hcc x0 x1 hr hm hst hle htt hbs hrb hup hzs hap hD hH8 ht8
     go_wp2_with (first
      | (at_builtin;refine wpList_append_rw rfl _ _ rfl w.heap.size _ _ _ rfl hown _ D rfl HR.out (by have:=HM2.out;omega) hB.size ?_;intro v' w5 hown6 hgrow6;rw [HM2.out] at hown6;have B2:=hB.grown hgrow6 hB.size (own_base hown);obtain⟨na,nc,hvs⟩:=owns_slice hown6;subst hvs)
      | (go_at_call 67;((with_reducible refine (HP.out _ _ B2.size hown6).mono ?_);rintro e w1 ⟨⟨a1,c1,rfl,o1⟩,b1,z1⟩;have B3:=B2.trans b1)))
     go_roundw
     case rel=>exact⟨i+1,hlt2,by go_num,o1,B3⟩
     case measure=>simp [intOf];omega
    ·obtain rfl:i=j:=by omega
     have hto:l.take i=l:=List.take_of_length_le (by rw [HN.out];exact Nat.le_refl _)
     rw [hto,← HS2.out] at hown
     rw [hto,← HS2.out]
     have HO:=Lib.hid hown
     clear hown hto
     go_wp2
     go_ret
     exact⟨⟨_,_,rfl,HO.out⟩,hB,hB.size⟩
end Go.Proofs.YtohkgdfkklfgmaaGreatDoor.L15
end
section
namespace Go.Proofs.YtohkgdfkklfgmaaGreatDoor.L15
set_option maxRecDepth 100000
open Go.RowKit Go.Shelf L14
attribute [local go_sem] Oper.semAt_some
section
variable {α:Type}
def Told (F:Fence) (n:Nat) (P:Program) (g:Nat) (lb:Array Value) (encs:α→Array Value) (Rel:α→World→Prop) (Kp:World→World→Prop) (S Sp:List α→Prop) (w:World):Prop :=
 ∀ (l:Nat) (J X:List α→World→Prop) (W:World),Below w.heap.size w W→AbidesFrom W.heap.size J→AbidesFrom W.heap.size X→J [] W →
  (∀ pre x A,J pre A→Rel x A→Sp (pre++[x])→YieldAt F (n-1) P l (encs x) A fun e B=>(e=.returned (.bool true)∧J (pre++[x]) B∧Kp A B)∨(e=.returned (.bool false)∧X (pre++[x]) B)) →
  CallsIn F n P g (#[.func (.yield l) #[] #[]]++lb) W fun e B=>(∃ v,e=.returned v)∧((∃ xs,S xs∧J xs B)∨∃ pre,Sp pre∧X pre B)
def told (d:Nat) (Kp:World→World→Prop) (I X:List α→World→Prop) (xs:List α) (A:World):Exit→Act→World→Prop
 | .normal,_,B=>KeepsFrom d A B∧Kp A B∧I xs B
 | .ret,_,B=>KeepsFrom d A B∧X xs B
 | _,_,_=>False
structure Bk (d:Nat) (r:Loop) (W:World):Prop where
 here:W.heap[d+1]?=some (.loop r)
 col:W.heap[d]?=some (.deferred (some []))
theorem Bk.lt {d:Nat} {r:Loop} {W:World} (h:Bk d r W):d+1<W.heap.size:=lt_of_block h.here
theorem Bk.grown {d:Nat} {r:Loop} {A B:World} {row:Option Nat} (h:Bk d r A) (hg:A.grownBy B row) (hr:∀ k,row=some k→∃ o:Obj,A.heap[k]?=some o∧o.isWalk=true):Bk d r B :=
 ⟨(grownBy_keeps hg hr h.here rfl).trans h.here,(grownBy_keeps hg hr h.col rfl).trans h.col⟩
theorem Bk.kept {d:Nat} {r:Loop} {A B:World} (h:Bk d r A) (hk:KeepsFrom d A B):Bk d r B:=⟨hk.same _ _ (Nat.le_succ d) h.here rfl,hk.same _ _ (Nat.le_refl d) h.col rfl⟩
theorem Bk.put {d:Nat} {r:Loop} {A:World} (h:Bk d r A) (r':Loop):Bk d r' (A.putObj (d+1) (.loop r')):=⟨World.putObj_heap_same h.lt,(World.putObj_heap_other (by omega)).trans h.col⟩
theorem own_put {β:Type} {d:Nat} {I:β→World→Prop} (hI:OwnFrom d I) {s:β} {r:Loop} {A:World} (h:Bk d r A) (r':Loop) (hs:I s A):I s (A.putObj (d+1) (.loop r')):=hI.putObj _ hs (Nat.le_succ d) h.here rfl
theorem abides_bk {β:Type} {d e:Nat} (hde:d≤e) {I:β→World→Prop} (hI:OwnFrom d I) (r:Loop):AbidesFrom e fun s W=>I s W∧Bk d r W:=fun s A B row h hg hr =>
 ⟨hI s A B row h.1 hg fun k hk=>by
  obtain⟨h1,o,h2,h3⟩:=hr k hk
  exact⟨Nat.le_trans hde h1,o,h2,Obj.not_cells_of_walk h3⟩,h.2.grown hg fun k hk=>(hr k hk).2⟩
variable {F:Fence} {n:Nat} {P:Program}
theorem range_told {g:Operand} {ps:Array Tmp} {assign body:Code} {Q:Exit→Act→World→Prop} {a:Act} {w:World} (hro:F.round=none) (hn:1≤n) {gf:Nat} {lb:Array Value} (hg:a.eval g=.func (.func gf) #[] lb) (hF:F.fn gf)
  (en:∀ args W,(callFunc gf args).run P W=.ok (.enter gf args) W) {encs:α→Array Value} {Rel:α→World→Prop} {Kp:World→World→Prop} {S Sp:List α→Prop} (hT:Told F (n-1) P gf lb encs Rel Kp S Sp w)
  (hKt:∀ {A B C:World},Kp A B→Kp B C→Kp A C) (hKb:∀ (W:World) (k:Nat) (o o':Obj),w.heap.size≤k→W.heap[k]?=some o→o.isCells=false→o.isWalk=false→Kp W (W.putObj k o')) (hps:∀ x,(encs x).size=ps.size)
  (hR:OwnFrom w.heap.size Rel) (I X:List α→World→Prop) (hI:OwnFrom w.heap.size I) (hX:OwnFrom w.heap.size X) (h0:I [] w) (act:α→Act)
  (hassign:∀ (l:Nat) (x:α) (W:World) (K:Act→World→Prop),K (act x) W→assign.wpIn (F.inRound l) (n-1-1) P (Exit.then K fun _ _ _=>False) { tmps:=(ps.zip (encs x)).foldl (fun t (p,v)=>t.setIfInBounds p v) a.tmps,defers:=[] } W)
  (hbody:∀ (l:Nat) (pre:List α) (x:α) (W:World),I pre W→Rel x W→Sp (pre++[x])→body.wpIn (F.inRound l) (n-1-1) P (told w.heap.size Kp I X (pre++[x]) W) (act x) W)
  (hdone:∀ (D:Nat) (xs:List α) (W:World),w.heap.size≤D→S xs→I xs W→W.heap[D]?=some (.deferred (some []))→Q .normal { a with defers:={ target:=.collected D,args:=#[] }::a.defers } W)
  (hstop:∀ (D:Nat) (pre:List α) (W:World),w.heap.size≤D→Sp pre→X pre W→W.heap[D]?=some (.deferred (some []))→Code.ret.wpIn F n P Q { a with defers:={ target:=.collected D,args:=#[] }::a.defers } W) :
  (Code.rangeFunc g ps assign body).wpIn F n P Q a w:=by
 refine wpIn_rangeFunc fun fn hfn=>?_
 rw [hro]
 let d:=w.heap.size
 let re:LoopState→Option Code→Loop:=fun st jump=>{ state:=st,pending:=jump,fn:=fn,tmps:=a.tmps,params:=ps,assign:=assign,body:=body,defers:=d }
 let w1:World:=w.alloc (.deferred (some []))
 let w2:World:=w1.alloc (.loop (re .ready none))
 have s1:w1.heap.size=d+1:=World.size_alloc ..
 have s2:w2.heap.size=d+1+1:=by rw [← s1];exact World.size_alloc ..
 have hb:Below d w w2:=((Below.refl d w).alloc (Nat.le_refl _) _).alloc (by rw [s1];exact Nat.le_succ d) _
 have k2:Bk d (re .ready none) w2:=by
  have h1:w2.heap[w1.heap.size]?=some (.loop (re .ready none)):=World.alloc_heap_new w1 _
  have h2:w1.heap[d]?=some (.deferred (some [])):=World.alloc_heap_new w _
  rw [s1] at h1
  exact⟨h1,(Below.heap_alloc _ _ _ (by rw [s1];exact Nat.lt_succ_self d)).trans h2⟩
 have i2:I [] w2:=hI.alloc _ (hI.alloc _ h0)
 refine⟨d+1,_,w2,⟨.fn (.func gf) lb,#[.func (.yield (d+1)) #[] #[]]⟩,w2,gf,#[.func (.yield (d+1)) #[] #[]]++lb,w2,run_enterLoop_outer fn a.tmps ps assign body,by simp only [resolve,hg];simp [go_sem],fun f h=>?_,by simp [invoke,go_sem,en],fun _=>hn,?_⟩
 ·simp only [Target.leads,Option.some.injEq] at h
  exact h ▸ hF
 refine (hT (d+1) (fun xs W=>I xs W∧Bk d (re .ready none) W) (fun xs W=>X xs W∧Bk d (re .done (some .ret)) W) w2 hb (abides_bk (by omega) hI _) (abides_bk (by omega) hX _) ⟨i2,k2⟩ ?_).mono ?_
 ·intro pre x A hA hx hp
  obtain⟨hi,kA⟩:=hA
  refine⟨fn,_,assign,body,run_yield kA.here (hps x),roundIn_of_wpIn hfn (hassign _ x A _ ?_)⟩
  have kB:Bk d (re .busy none) _:=kA.put (re .busy none)
  have pA:Kp A (A.putObj (d+1) (.loop (re .busy none))):=hKb A _ _ _ (Nat.le_succ d) kA.here rfl rfl
  refine⟨_,run_beginRound kA.here rfl,wpIn_mono (hbody _ pre x _ (own_put hI kA _ hi) (own_put hR kA _ hx) hp) fun e a3 C hC=>?_⟩
  cases e with
  | normal =>
   obtain⟨c1,c2,c3⟩:=hC
   have kC:=kB.kept c1
   exact⟨_,_,run_endRound none kC.here,.inl ⟨rfl,⟨own_put hI kC _ c3,kC.put (re .ready none)⟩,hKt pA (hKt c2 (hKb _ _ _ _ (Nat.le_succ d) kC.here rfl rfl))⟩⟩
  | ret =>
   obtain⟨c1,c3⟩:=hC
   have kC:=kB.kept c1
   exact⟨_,_,run_endRound (some .ret) kC.here,.inr ⟨rfl,own_put hX kC _ c3,kC.put (re .done (some .ret))⟩⟩
  | exit _=>exact hC.elim
  | goto _=>exact hC.elim
  | panic _=>exact hC.elim
  | outgrown=>exact hC.elim
 ·intro e B hB
  obtain⟨⟨v,rfl⟩,h⟩:=hB
  rcases h with ⟨xs,hs,hi,kB⟩|⟨pre,hs,hx,kB⟩
  ·exact⟨none,_,run_endLoop kB.here (by intro h;cases h),hdone d xs _ (Nat.le_refl d) hs (own_put hI kB _ hi) (kB.put _).col⟩
  ·exact⟨some .ret,_,run_endLoop kB.here (by intro h;cases h),hstop d pre _ (Nat.le_refl d) hs (own_put hX kB _ hx) (kB.put _).col⟩
end
end Go.Proofs.YtohkgdfkklfgmaaGreatDoor.L15
end
