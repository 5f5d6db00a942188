/- Lemmas and walks of L15Lb, L15Mv, L14Pr, L14Lw, L11Ck, L5Alive, L15Rw, L15Tl: what each theorem states; conditions stand in each theorem. -/
import Derived.Test.YtihiggnglmhggaaGreatDoorM6
import Derived.Laws.AppendOwnNone
import Derived.Test.YtihiggnglmhggaaGreatDoorM8
import Derived.Test.YtihiggnglmhggaaGreatDoorL10Fbw
import Derived.Test.YtihiggnglmhggaaGreatDoorM21
import Derived.Lib.SlBytesConst
set_option maxHeartbeats 4000000
set_option maxRecDepth 100000
section
namespace Go.Proofs.YtihiggnglmhggaaGreatDoor.L15
open Go.RowKit L14
attribute [local go_sem] Oper.semAt_some
theorem one_eB (l:List UInt8):∀ u∈l.map eB,u.oneCell'=true:=by
 intro u hu
 obtain⟨c,_,rfl⟩:=List.mem_map.1 hu
 rfl
theorem rw_news {w:World} {x:Addr} {n c:Nat} {l:List UInt8} (h:Rw eB w (.slice (some x) n c) l):∀ j u,(l.map eB)[j]?=some u→w.cell? (x.add j)=some u:=by
 obtain⟨h0,-,-,h3⟩:=h.at
 intro j u hu
 have hj:j<l.length:=by
  have:=(List.getElem?_eq_some_iff.1 hu).1
  simpa using this
 obtain⟨b,o,e,-,hc⟩:=h3 (by omega)
 cases e
 rw [List.getElem?_map,List.getElem?_eq_getElem hj] at hu
 rw [add0,hc j hj]
 exact hu
theorem wpList_append_rw {w:World} {ops:Array Oper} {rest:List Oper} {o:Oper} {a:Act} {Q:Exit→Act→World→Prop} (hgd:o.guard=none) (s x:Operand)
  (ho:o.op=.call { callee:=.builtin .append,args:=#[s,x],argTypes:=#[23,23] }) (base:Nat)
  (v:Value) (n:Nat) (xs:List Value) (hs:a.eval s=v) (hown:w.ownsRow base 5 1 v n xs)
  (vx:Value) (l:List UInt8) (hx:a.eval x=vx) (hr:Rw eB w vx l) (h63:n+l.length≤140737488355328) (hbase:base≤w.heap.size)
  (h:∀ v' w',w'.ownsRow base 5 1 v' (n+l.length) (xs++l.map eB)→w.grownBy w' v.ownBlock→wpList Tryz.prog ops Q rest (a.put o.dst v') w'):wpList Tryz.prog ops Q (o::rest) a w:=by
 obtain⟨ib,ki,kz0,kz1,kz2⟩:=info_parts infoByte
 obtain⟨ax,c,rfl,-,h2,-⟩:=id hr
 cases ax with
 | none =>
  obtain rfl:c=0:=h2 rfl
  obtain⟨-,hle,-,-⟩:=hr.at
  obtain rfl:l=[]:=List.eq_nil_of_length_eq_zero (by omega)
  refine wpList_append_own_none hgd s x 23 ho base 5 ib 1 Tryz.underlying23 ki v n xs hs hown hx ?_
  exact h v w (by simpa using hown) ⟨rfl,rfl,rfl,Nat.le_refl _,fun _ _ _=>rfl⟩
 | some ax =>
  refine wpList_append_own w hgd s x 23 ho base 5 ib (.int .u8 0) 1 1 Tryz.underlying23 ki kz0 kz1 kz2 rfl (by decide) v n xs hs hown ax l.length c (l.map eB) hx (by simp) (rw_news hr) (one_eB l) (by unfold maxLen;omega) (by omega) hbase ?_
  exact fun v' w' h1 h2 _=>h v' w' h1 h2
theorem wpListIn_append_rw {F:Fence} {nF:Nat} {w:World} {ops:Array Oper} {rest:List Oper} {o:Oper} {a:Act} {Q:Exit→Act→World→Prop} (hgd:o.guard=none) (s x:Operand)
  (ho:o.op=.call { callee:=.builtin .append,args:=#[s,x],argTypes:=#[23,23] }) (base:Nat)
  (v:Value) (n:Nat) (xs:List Value) (hs:a.eval s=v) (hown:w.ownsRow base 5 1 v n xs)
  (vx:Value) (l:List UInt8) (hx:a.eval x=vx) (hr:Rw eB w vx l) (h63:n+l.length≤140737488355328) (hbase:base≤w.heap.size)
  (h:∀ v' w',w'.ownsRow base 5 1 v' (n+l.length) (xs++l.map eB)→w.grownBy w' v.ownBlock→wpListIn F nF Tryz.prog ops Q rest (a.put o.dst v') w'):wpListIn F nF Tryz.prog ops Q (o::rest) a w:=by
 obtain⟨ib,ki,kz0,kz1,kz2⟩:=info_parts infoByte
 obtain⟨ax,c,rfl,-,h2,-⟩:=id hr
 cases ax with
 | none =>
  obtain rfl:c=0:=h2 rfl
  obtain⟨-,hle,-,-⟩:=hr.at
  obtain rfl:l=[]:=List.eq_nil_of_length_eq_zero (by omega)
  refine wpListIn_plain hgd fun K hK=>?_
  have hrun:=run_append_owned_none (P:=Tryz.prog) (w:=w) base 23 o.type 5 ib 1 Tryz.underlying23 ki v n xs hown
  unfold Oper.wpIn
  refine⟨by simp [Oper.about,ho,resolve,Target.leads,Sem.run_pure],?_⟩
  rw [Oper.semAt_plain F _ _ (by rw [ho];intro c hc';cases hc')]
  simp [execOp,ho,resolve,invoke,builtin,hs,hx,hrun,Result.andThen]
  exact hK _ _ (h v w (by simpa using hown) ⟨rfl,rfl,rfl,Nat.le_refl _,fun _ _ _=>rfl⟩)
 | some ax =>
  refine wpListIn_append_own w hgd s x 23 ho base 5 ib (.int .u8 0) 1 1 Tryz.underlying23 ki kz0 kz1 kz2 rfl (by decide) v n xs hs hown ax l.length c (l.map eB) hx (by simp) (rw_news hr) (one_eB l) (by unfold maxLen;omega) (by omega) hbase ?_
  exact fun v' w' h1 h2 _=>h v' w' h1 h2
def ClB (l:List UInt8) (w:World) (e:Ending) (w':World):Prop:=∃ v',e=.returned v'∧w'.ownsRow w.heap.size 5 1 v' l.length (l.map eB)∧Below w.heap.size w w'
theorem bclone_at (v:Value) (l:List UInt8) (w:World) (hl:l.length≤1000000000) (hv:Rw eB w v l) :
  Calls Tryz.prog 151 #[v] w (ClB l w):=by
 obtain⟨a,c,rfl,-,h2,-⟩:=id hv
 have q:∀ (w:World) (a:Option Addr) (n c n' c':Nat),(binOp .eql 23 (.slice a n c) (.slice none n' c')).run Tryz.prog w=.ok (.bool a.isNone) w:=fun w a n c n' c'=>Lib.run_eql_slice_nil w _ _ a n c n' c' Tryz.underlying23
 cases a with
 | none =>
  obtain rfl:c=0:=h2 rfl
  obtain⟨-,hle,-,-⟩:=hv.at
  obtain rfl:l=[]:=List.eq_nil_of_length_eq_zero (by omega)
  clear hv h2 hle
  go_enter Tryz.func151,Tryz.ntmps151
  go_wp2
  go_ret
  exact⟨_,rfl,World.ownsRow_nil _ _ _ _,Below.refl _ _⟩
 | some x =>
  have HV:=Lib.hid hv
  have HL:=Lib.hid hl
  obtain⟨n,hn⟩:∃ n,l.length=n:=⟨_,rfl⟩
  have HN:=Lib.hid hn
  rw [hn] at HV
  unfold ClB
  rw [hn]
  clear h2 hl hv hn
  go_enter Tryz.func151,Tryz.ntmps151
  go_wp2_with (at_builtin;refine wpList_append_rw rfl _ _ rfl w.heap.size _ _ _ rfl (World.ownsRow_made w #[] 0 (Nat.le_refl _) (Nat.zero_le _) rfl) _ l rfl (HV.out.below (bnew _ _)) (by have:=HL.out;omega) (by simp) ?_;intro v' w1 hown hgrow)
  go_ret
  refine⟨v',rfl,by rw [← HN.out];simpa using hown,?_⟩
  exact ((Below.refl _ w).alloc (Nat.le_refl _) _).grown hgrow (by simp) (own_base (World.ownsRow_made (e:=5) (size:=1) w #[] 0 (Nat.le_refl _) (Nat.zero_le _) rfl))
theorem bpre_at (v1 v2:Value) (t s:List UInt8) (b:Bool) (w:World) (_:t.length≤1000000000) (_:s.length≤1000000000) (h1:Rw eB w v1 t) (h2:Rw eB w v2 s) (hb:b=true↔s <+: t) :
  Calls Tryz.prog 180 #[v1,v2] w fun e w'=>e=.returned (.bool b)∧w=w':=by
 obtain⟨n,hn⟩:∃ n,t.length=n:=⟨_,rfl⟩
 obtain⟨m,hm'⟩:∃ m,s.length=m:=⟨_,rfl⟩
 obtain⟨a1,c1,rfl,hc1,-⟩:=h1.form hn
 obtain⟨a2,c2,rfl,-⟩:=h2.form hm'
 by_cases hlt:m≤n
 ·have hd:=h1.take m (by omega)
  have hs:=run_upto und8 size8 a1 n c1 m (by omega) hc1
  have HE:=Lib.hid (bequal_at _ _ _ _ b w hd h2 (by rw [hb,List.prefix_iff_eq_take,hm'];exact eq_comm))
  have hge:((m:Int)≤(n:Int)):=by omega
  have hl':n≤1000000000:=by omega
  have hm2:m≤1000000000:=by omega
  clear hd h1 h2 hb hn hm'
  go_enter Tryz.func180,Tryz.ntmps180
  go_wp2_with (go_at_call 68;((with_reducible refine (HE.out).mono ?_);rintro e w1 ⟨rfl,rfl⟩))
  go_ret
  exact⟨rfl,rfl⟩
 ·have hf:b=false:=by
   cases b with
   | false=>rfl
   | true =>
    have:=(hb.1 rfl).length_le
    omega
  subst hf
  have hge:¬ ((m:Int)≤(n:Int)):=by omega
  have hl':n≤1000000000:=by omega
  have hm2:m≤1000000000:=by omega
  clear h1 h2 hb hn hm'
  go_enter Tryz.func180,Tryz.ntmps180
  go_wp2
  go_ret
  exact⟨rfl,rfl⟩
theorem cutp_no (a:Option Addr) (n c:Nat) (v2:Value) (t s:List UInt8) (w:World) (hl:t.length≤1000000000) (hm:s.length≤1000000000) (h1:Rw eB w (.slice a n c) t) (h2:Rw eB w v2 s) (hb:¬ s <+: t) :
  Calls Tryz.prog 150 #[.slice a n c,v2] w fun e w'=>e=.returned (.tuple #[.slice a n c,.bool false])∧w=w':=by
 have HP:=Lib.hid (bpre_at _ _ t s false w hl hm h1 h2 (by simpa using hb))
 obtain⟨a2,c2,rfl,-⟩:=h2
 clear h1 hb hl hm
 go_enter Tryz.func150,Tryz.ntmps150
 go_wp2_with (go_at_call 180;((with_reducible refine (HP.out).mono ?_);rintro e w1 ⟨rfl,rfl⟩))
 refine bodyPost_ret (v:=.tuple #[.slice a n c,.bool false]) (by simp [results,Tryz.results150,go_sem]) rfl ⟨rfl,rfl⟩
def dropV (a:Option Addr) (n c m:Nat):Value:=.slice (if c=m then a else a.map (·.add m)) (n-m) (c-m)
theorem drop_rw {w:World} {a:Option Addr} {n c:Nat} {b:List UInt8} (h:Rw eB w (.slice a n c) b) (m:Nat) (hm:m≤n):Rw eB w (dropV a n c m) (b.drop m):=h.drop m hm
theorem drop_form (a:Option Addr) (n c m:Nat):∃ a' c',dropV a n c m=.slice a' (n-m) c':=⟨_,_,rfl⟩
theorem cutp_yes (a:Option Addr) (n c m:Nat) (v2:Value) (t s:List UInt8) (w:World) (hl:t.length≤1000000000) (hm:s.length≤1000000000) (h1:Rw eB w (.slice a n c) t) (h2:Rw eB w v2 s) (hb:s <+: t) (hm':s.length=m) :
  Calls Tryz.prog 150 #[.slice a n c,v2] w fun e w'=>e=.returned (.tuple #[dropV a n c m,.bool true])∧w=w':=by
 have HP:=Lib.hid (bpre_at _ _ t s true w hl hm h1 h2 (by simpa using hb))
 obtain⟨a2,c2,rfl,-⟩:=h2.form hm'
 obtain⟨hn,hc1,-,-⟩:=h1.at
 have hlen:=hb.length_le
 have hs:=run_from und8 size8 a n c m (by omega) hc1
 unfold dropV
 generalize (if c=m then a else a.map (·.add m))=a3 at hs ⊢
 generalize c-m=c3 at hs ⊢
 generalize n-m=n3 at hs ⊢
 rw [hm'] at hm
 clear h1 h2 hb hl hm' hlen hn hc1
 go_enter Tryz.func150,Tryz.ntmps150
 go_wp2_with (go_at_call 180;((with_reducible refine (HP.out).mono ?_);rintro e w1 ⟨rfl,rfl⟩))
 refine bodyPost_ret (v:=.tuple #[.slice a3 n3 c3,.bool true]) (by simp [results,Tryz.results150,go_sem]) rfl ⟨rfl,rfl⟩
def fl (ps:List (Int × Value)):List Value:=ps.flatMap fun p=>[.int .i64 p.1,p.2]
theorem fl_snoc (ps:List (Int × Value)) (k:Int) (v:Value):fl (ps++[(k,v)])=fl ps++[.int .i64 k,v]:=by simp [fl]
theorem fl_get:∀ (ps:List (Int × Value)) (j:Nat) (h:j<ps.length),(fl ps)[j*2]?=some (.int .i64 ps[j].1)∧(fl ps)[j*2+1]?=some ps[j].2
 | p::r,0,_=>by simp [fl]
 | p::r,j+1,h=>by
  have ih:=fl_get r j (by simpa using h)
  unfold fl at ih ⊢
  rw [List.flatMap_cons,show (j+1)*2=j*2+2 by omega]
  simpa using ih
def Fits (w:World) (ps:List (Int × Value)) (l:List Sc):Prop:=ps.length=l.length∧∀ j (h1:j<ps.length) (h2:j<l.length),ps[j].1=l[j].1∧Rw eB w ps[j].2 l[j].2
theorem Fits.nil (w:World):Fits w [] []:=⟨rfl,fun j h=>absurd h (by simp)⟩
theorem Fits.below {w w':World} {ps:List (Int × Value)} {l:List Sc} (h:Fits w ps l) (hb:Below w.heap.size w w'):Fits w' ps l:=⟨h.1,fun j h1 h2=>⟨(h.2 j h1 h2).1,(h.2 j h1 h2).2.below hb⟩⟩
theorem Fits.snoc {w:World} {ps:List (Int × Value)} {l:List Sc} {k:Int} {v:Value} {s:Sc} (h:Fits w ps l) (hk:k=s.1) (hv:Rw eB w v s.2):Fits w (ps++[(k,v)]) (l++[s]):=by
 refine⟨by rw [List.length_append,List.length_append,h.1];rfl,fun j h1 h2=>?_⟩
 by_cases hj:j<ps.length
 ·have hj2:j<l.length:=by rw [← h.1];exact hj
  rw [List.getElem_append_left hj,List.getElem_append_left hj2]
  exact h.2 j hj hj2
 ·have e1:j=ps.length:=by
   rw [List.length_append] at h1
   simp only [List.length_cons,List.length_nil] at h1
   omega
  subst e1
  have e2:ps.length=l.length:=h.1
  rw [List.getElem_append_right (Nat.le_refl _),List.getElem_append_right (by omega)]
  simp only [Nat.sub_self,e2,List.getElem_cons_zero]
  exact⟨hk,hv⟩
theorem own_ss {W:World} {B e:TypeId} {v:Value} {ps:List (Int × Value)} {l:List Sc} {n:Nat} (hn:l.length=n) (h:W.ownsRow B e 2 v n (fl ps)) (hf:Fits W ps l):Ss W v l:=by
 subst hn
 rcases h.2 with ⟨rfl,h0⟩|⟨g,cap,cur,rfl,_,hh,hle,_⟩
 ·rw [List.eq_nil_of_length_eq_zero h0]
  exact Ss.nil W
 ·refine⟨_,cap,rfl,hle,fun e=>(by cases e),fun hp=>⟨g,0,rfl,lt_of_block hh,fun j hj=>?_⟩⟩
  have hj2:j<ps.length:=by rw [hf.1];exact hj
  have k1:=h.cells (g:=g) rfl (j*2) _ (fl_get ps j hj2).1
  have k2:=h.cells (g:=g) rfl (j*2+1) _ (fl_get ps j hj2).2
  rw [add0,Nat.zero_add] at k1 k2
  rw [Nat.zero_add]
  obtain⟨q1,q2⟩:=hf.2 j hj2 hj
  rw [q1] at k1
  exact⟨k1,_,k2,q2⟩
theorem infoSb:(Tryz.prog.info? 199).map (fun i=>(i.zero,i.size,i.bytes))=some (some (.agg #[.int .i64 0,.slice none 0 0]),2,32):=by kernel_rfl
def getV (l:List Sc) (k:Int):Option (List UInt8):=match l with
 | []=>none
 | s::r=>if s.1=k then some s.2 else getV r k
def GeQ (l:List Sc) (k:Int) (w:World) (e:Ending) (w':World):Prop :=
 ((getV l k=none∧e=.returned (.tuple #[.slice none 0 0,.bool false]))∨∃ d a c,getV l k=some d∧e=.returned (.tuple #[.slice a d.length c,.bool true])∧Rw eB w (.slice a d.length c) d)∧Below w.heap.size w w'
theorem get_at0 (v:Value) (l:List Sc) (k:Int) (w:World) (hv:Ss w v l) (hl:l.length≤1000000) :
  Calls Tryz.prog 107 #[v,.int .i64 k] w (GeQ l k w):=by
 obtain⟨n,hn⟩:∃ n,l.length=n:=⟨_,rfl⟩
 obtain⟨a,c,rfl,-,-,hc⟩:=hv.form hn
 rw [hn] at hl
 have HC:=Lib.hid hc
 have HN:=Lib.hid hn
 clear hn hc hv
 go_enter Tryz.func107,Tryz.ntmps107
 go_wp2
 go_loopw [7,10] (fun _ q wr=>∃ j:Nat,j≤n∧q=.int .i64 (j:Int)∧Below w.heap.size w wr∧Hid (getV l k=getV (l.drop j) k)) (fun _ q _=>n-(intOf q).toNat)
 case atStart=>exact⟨0,Nat.zero_le _,rfl,Below.refl _ _,Lib.hid rfl⟩
 case round =>
  obtain⟨j,hj,rfl,hB,hA⟩:=hrel
  by_cases hlt:j<n
  ·have hjl:j<l.length:=by rw [HN.out];exact hlt
   obtain⟨bb,o,rfl,hbl,hcc⟩:=HC.out (by omega)
   obtain⟨x0,dv,x1,hr⟩:=hcc j hjl
   obtain⟨m,hm⟩:∃ m,l[j].2.length=m:=⟨_,rfl⟩
   obtain⟨da,dc,rfl,-⟩:=hr.form hm
   have y0:=(hB.cell (p:=⟨bb,o+j*2,none⟩) (by exact hbl)).trans x0
   have y1:=(hB.cell (p:=⟨bb,o+j*2+1,none⟩) (by exact hbl)).trans x1
   have hsz:=hB.size
   have hg:=hA.out
   rw [List.drop_eq_getElem_cons hjl,getV] at hg
   obtain⟨kk,hkk⟩:∃ kk,l[j].1=kk:=⟨_,rfl⟩
   rw [hkk] at y0 hg
   have HR:=Lib.hid (And.intro hm hr)
   by_cases he:kk=k
   ·rw [if_pos he] at hg
    have heb:(kk==k)=true:=by simpa using he
    have HG:=Lib.hid hg
    clear hcc x0 x1 hr hm hA hkk hg he
    go_wp2
    refine bodyPost_ret (v:=.tuple #[.slice da m dc,.bool true]) (by simp [results,Tryz.results107,go_sem]) rfl ⟨.inr ⟨_,da,dc,HG.out,by rw [HR.out.1],?_⟩,bch hB (bnew _ _)⟩
    rw [HR.out.1]
    exact HR.out.2
   ·rw [if_neg he] at hg
    have heb:(kk==k)=false:=by simpa using he
    have HG:=Lib.hid hg
    clear hcc x0 x1 hr hm hA hkk hg HR
    go_wp2
    go_roundw
    case rel=>exact⟨j+1,hlt,by go_num,bch hB (bnew _ _),HG⟩
    case measure=>simp [intOf];omega
  ·obtain rfl:j=n:=by omega
   have hg:=hA.out
   rw [List.drop_eq_nil_of_le (by rw [HN.out];exact Nat.le_refl _)] at hg
   have HG:=Lib.hid hg
   clear hA hg
   go_wp2
   refine bodyPost_ret (v:=.tuple #[.slice none 0 0,.bool false]) (by simp [results,Tryz.results107,go_sem]) rfl ⟨.inl ⟨HG.out,rfl⟩,hB⟩
end Go.Proofs.YtihiggnglmhggaaGreatDoor.L15
end
section
namespace Go.Proofs.YtihiggnglmhggaaGreatDoor.L14
open Go.RowKit Go.Shelf
attribute [local go_sem] Oper.semAt_some
def PrP (l:List UInt8) (e:Ending) (w':World):Prop :=
 (prV l=none∧e=.returned (.tuple #[.slice none 0 0,.slice none 0 0,.int .i64 19])) ∨
  ∃ ts a c a2 c2,prV l=some ts∧e=.returned (.tuple #[.slice a ts.length c,.slice a2 ts.length c2,.int .i64 0])∧Rw eT w' (.slice a ts.length c) ts∧Rw eN w' (.slice a2 ts.length c2) (ofs 1 ts)
theorem prP_no {l:List UInt8} {w':World} (h:prV l=none):PrP l (.returned (.tuple #[.slice none 0 0,.slice none 0 0,.int .i64 19])) w':=.inl ⟨h,rfl⟩
theorem pts_val {l:List UInt8} (x:Sg) (h:x∈sg 0 [] l):(⟨x,h⟩:Pt l)∈pts l:=by simp [pts]
theorem prP_of {w w':World} {r:List UInt8} {e:Ending} (hr:(0::r:List UInt8).getLast?=some 0) (h:PaP w r e w'):PrP (0::r) e w':=by
 have hen:en [] r=true:=by
  cases r with
  | nil=>rfl
  | cons c q=>rw [en_last (c::q) [] 0 (by rw [← hr,List.getLast?_cons_cons])];rfl
 have hp:prV (0::r)=pr [] r:=by show (if (0:UInt8)=0 then pr [] r else none)=_;rw [if_pos rfl]
 have hs:=pr_sg r [] 0
 rw [hen,Bool.true_and] at hs
 obtain⟨⟨⟨x,hx⟩,rfl⟩|⟨hz,v,v',rfl,h1,h2⟩,-⟩:=h
 ·refine prP_no ?_
  rw [hp,hs,if_neg]
  intro ha
  have:=List.all_eq_true.1 ha x.1 x.2
  rw [hx] at this;simp at this
 ·have hall:((sg 0 [] r).all fun x=>!x.t.isEmpty)=true:=List.all_eq_true.2 fun x hx=>by
   have:=hz ⟨x,hx⟩ (pts_val x hx)
   simpa using this
  rw [if_pos hall,← hp] at hs
  have e1:(pts r).map (fun x=>eT x.1.t)=((sg 0 [] r).map (·.t)).map eT:=by rw [pts_map r (fun x=>eT x.t),List.map_map];rfl
  have e2:(pts r).map (fun x=>eN (1+x.1.at'))=(ofs 1 ((sg 0 [] r).map (·.t))).map eN:=by
   rw [pts_map r (fun x=>eN (1+x.at')),← ofs_up _ 0 1,← sg_ofs,List.map_map,List.map_map];rfl
  obtain⟨ts,hts⟩:∃ ts,(sg 0 [] r).map (·.t)=ts:=⟨_,rfl⟩
  have hl:(pts r).length=ts.length:=by rw [← hts,pts_len,List.length_map]
  rw [hts] at hs e1 e2
  rw [e1,hl] at h1
  rw [e2,hl] at h2
  obtain⟨a,c,rfl⟩:=owns_slice h1
  obtain⟨a2,c2,rfl⟩:=owns_slice h2
  refine .inr ⟨ts,a,c,a2,c2,hs,rfl,Rw.own h1,?_⟩
  have h3:=ofs_len ts 1
  rw [← h3] at h2 ⊢
  exact Rw.own h2
theorem er_cells (w:World):(((w.alloc (.cells #[.slice none 0 0] 78)).alloc (.cells #[.slice none 0 0] 46)).alloc (.cells #[.int .i64 19] 29)).cell? ⟨w.heap.size,0,none⟩=some (.slice none 0 0) ∧
  (((w.alloc (.cells #[.slice none 0 0] 78)).alloc (.cells #[.slice none 0 0] 46)).alloc (.cells #[.int .i64 19] 29)).cell? ⟨w.heap.size+1,0,none⟩=some (.slice none 0 0) ∧
  (((w.alloc (.cells #[.slice none 0 0] 78)).alloc (.cells #[.slice none 0 0] 46)).alloc (.cells #[.int .i64 19] 29)).cell? ⟨w.heap.size+1+1,0,none⟩=some (.int .i64 19):=by
 have b0:=((Boxed.new w 78 (.slice none 0 0)).alloc (.cells #[.slice none 0 0] 46)).alloc (.cells #[.int .i64 19] 29)
 have b1:=(Boxed.new (w.alloc (.cells #[.slice none 0 0] 78)) 46 (.slice none 0 0)).alloc (.cells #[.int .i64 19] 29)
 have b2:=Boxed.new ((w.alloc (.cells #[.slice none 0 0] 78)).alloc (.cells #[.slice none 0 0] 46)) 29 (.int .i64 19)
 simp only [World.size_alloc] at b1 b2
 exact⟨b0.cell,b1.cell,b2.cell⟩
theorem er_below (w:World):Below w.heap.size w (((w.alloc (.cells #[.slice none 0 0] 78)).alloc (.cells #[.slice none 0 0] 46)).alloc (.cells #[.int .i64 19] 29)):=bch (bch (bnew _ _) (bnew _ _)) (bnew _ _)
theorem parse_at (v:Value) (l:List UInt8) (w:World) (h:Rw eB w v l) (hl:l.length≤100000) :
  Calls Tryz.prog 108 #[v] w fun e w'=>PrP l e w'∧Below w.heap.size w w':=by
 obtain⟨n,hn⟩:∃ n,l.length=n:=⟨_,rfl⟩
 obtain⟨a,c,rfl,hc1,-,hc⟩:=h.form hn
 obtain⟨k0,k1,k2⟩:=er_cells w
 have hbe:=er_below w
 by_cases h0:n=0
 ·subst h0
  have hnil:l=[]:=List.eq_nil_of_length_eq_zero hn
  have HR:=Lib.hid (show prV l=none by rw [hnil];rfl)
  clear h hn hc hnil
  go_enter Tryz.func108,Tryz.ntmps108
  go_wp2
  refine bodyPost_ret (v:=.tuple #[.slice none 0 0,.slice none 0 0,.int .i64 19]) (by simp [results,Tryz.results108,go_sem,k0,k1,k2]) rfl ⟨prP_no HR.out,hbe⟩
 obtain⟨m,rfl⟩:∃ m,n=m+1:=⟨n-1,by omega⟩
 obtain⟨d,r,rfl⟩:∃ d r,l=d::r:=by
  cases l with
  | nil=>simp at hn
  | cons d r=>exact⟨d,r,rfl⟩
 obtain⟨b,o,rfl,hb,hcc⟩:=hc (by omega)
 have hx:w.cell? ⟨b,o,none⟩=some (.int .u8 (d.toNat:Int)):=hcc 0 (by rw [hn];omega)
 have hml:m<(d::r).length:=by rw [hn];omega
 have hy:w.cell? ⟨b,o+m,none⟩=some (.int .u8 ((d::r)[m].toNat:Int)):=hcc m hml
 have hlast:(d::r).getLast?=some (d::r)[m]:=by
  rw [List.getLast?_eq_getElem?,hn,Nat.add_sub_cancel,List.getElem?_eq_getElem hml]
 have hb3:Below w.heap.size w (((w.alloc (.cells #[.slice none 0 0] 78)).alloc (.cells #[.slice none 0 0] 46)).alloc (.cells #[.int .i64 0] 29)):=bch (bch (bnew _ _) (bnew _ _)) (bnew _ _)
 have hmm:m≤100000:=by omega
 have hne0:((m:Int)+1==0)=false:=by rw [beq_eq_false_iff_ne];omega
 by_cases hd:d=0
 ·subst hd
  by_cases hz:(0::r:List UInt8)[m]=0
  ·rw [hz] at hlast
   refine (parse_go b o (m+1) c r hn (by omega) w h hlast).mono fun e w' hP=>⟨prP_of hlast hP,hP.2⟩
  ·have hnz:(((0::r:List UInt8)[m].toNat:Int)==0)=false:=byte_ne (d:=0) hz
   have HR:=Lib.hid (show prV (0::r)=none by
    show (if (0:UInt8)=0 then pr [] r else none)=none
    rw [if_pos rfl,pr_sg r [] 0]
    cases r with
    | nil=>exact absurd (by simp at hn;subst hn;rfl) hz
    | cons c q =>
     rw [List.getLast?_cons_cons] at hlast
     rw [en_last (c::q) [] _ hlast,if_neg]
     simp [hz])
   obtain⟨y,hy2⟩:∃ y:Int,((0::r:List UInt8)[m].toNat:Int)=y:=⟨_,rfl⟩
   rw [hy2] at hy hnz
   have hnz2:(y != 0)=true:=by rw [bne,hnz];rfl
   replace hx:w.cell? ⟨b,o,none⟩=some (.int .u8 0):=hx
   have hx3:=(hb3.cell (p:=⟨b,o,none⟩) hb).trans hx
   have hy3:=(hb3.cell (p:=⟨b,o+m,none⟩) hb).trans hy
   clear h hn hc hcc hml hlast hz hy2 hb3 hx hy
   go_enter Tryz.func108,Tryz.ntmps108
   go_wp2
   refine bodyPost_ret (v:=.tuple #[.slice none 0 0,.slice none 0 0,.int .i64 19]) (by simp [results,Tryz.results108,go_sem,k0,k1,k2]) rfl ⟨prP_no HR.out,hbe⟩
 ·have hnd:((d.toNat:Int)==0)=false:=byte_ne (d:=0) hd
  have HR:=Lib.hid (show prV (d::r)=none by show (if d=0 then pr [] r else none)=none;rw [if_neg hd])
  obtain⟨x,hx2⟩:∃ x:Int,(d.toNat:Int)=x:=⟨_,rfl⟩
  rw [hx2] at hx hnd
  have hnd2:(x != 0)=true:=by rw [bne,hnd];rfl
  have hx3:=(hb3.cell (p:=⟨b,o,none⟩) hb).trans hx
  clear h hn hc hcc hml hlast hy hd hx2 hb3 hx
  go_enter Tryz.func108,Tryz.ntmps108
  go_wp2
  refine bodyPost_ret (v:=.tuple #[.slice none 0 0,.slice none 0 0,.int .i64 19]) (by simp [results,Tryz.results108,go_sem,k0,k1,k2]) rfl ⟨prP_no HR.out,hbe⟩
end Go.Proofs.YtihiggnglmhggaaGreatDoor.L14
end
section
namespace Go.Proofs.YtihiggnglmhggaaGreatDoor.L14
open Go.RowKit
attribute [local go_sem] Oper.semAt_some
theorem parse_none (v:Value) (l:List UInt8) (w:World) (h:Rw eB w v l) (hl:l.length≤100000) (hp:prV l=none) :
  Calls Tryz.prog 108 #[v] w fun e w'=>e=.returned (.tuple #[.slice none 0 0,.slice none 0 0,.int .i64 19])∧Below w.heap.size w w':=by
 refine (parse_at v l w h hl).mono fun e w' hP=>?_
 obtain⟨⟨-,he⟩|⟨ts,_,_,_,_,hq,-⟩,hb⟩:=hP
 ·exact⟨he,hb⟩
 ·rw [hp] at hq;cases hq
theorem parse_some (v:Value) (l:List UInt8) (ts:List (List UInt8)) (n:Nat) (w:World) (h:Rw eB w v l) (hl:l.length≤100000) (hp:prV l=some ts) (hn:ts.length=n) :
  Calls Tryz.prog 108 #[v] w fun e w'=>(∃ a c a2 c2,e=.returned (.tuple #[.slice a n c,.slice a2 n c2,.int .i64 0])∧Rw eT w' (.slice a n c) ts∧Rw eN w' (.slice a2 n c2) (ofs 1 ts))∧Below w.heap.size w w':=by
 subst hn
 refine (parse_at v l w h hl).mono fun e w' hP=>?_
 obtain⟨⟨hq,-⟩|⟨us,a,c,a2,c2,hq,he,h1,h2⟩,hb⟩:=hP
 ·rw [hp] at hq;cases hq
 ·rw [hp] at hq;cases hq
  exact⟨⟨a,c,a2,c2,he,h1,h2⟩,hb⟩
theorem build_yes (v:Value) (l:List (List UInt8)) (n N:Nat) (w:World) (h:Rw eT w v l) (hl:l.length≤10000) (ht:tot l≤100000) (hr:∀ t∈l,rt t=true) (hn:l.length=n) (hN:(tb l).length=N) :
  Calls Tryz.prog 154 #[v] w fun e w'=>(∃ a1 c1 a2 c2,e=.returned (.tuple #[.slice a1 N c1,.slice a2 n c2,.int .i64 0])∧Rw eB w' (.slice a1 N c1) (tb l)∧Rw eN w' (.slice a2 n c2) (ofs 1 l))∧Below w.heap.size w w':=by
 subst hn hN
 refine (build_at v l w h hl ht).mono fun e w' hP=>?_
 obtain⟨⟨⟨t,h1,h2⟩,-⟩|⟨-,a1,c1,a2,c2,he,h1,h2⟩,hb'⟩:=hP
 ·rw [hr t h1] at h2;cases h2
 ·exact⟨⟨a1,c1,a2,c2,he,h1,h2⟩,hb'⟩
theorem prV_few {l:List UInt8} {ts:List (List UInt8)} (h:prV l=some ts):ts.length≤l.length∧tot ts≤l.length:=by
 have:=tb_len ts
 rw [(tb_prV h).2] at this
 omega
end Go.Proofs.YtihiggnglmhggaaGreatDoor.L14
end
section
namespace Go.Proofs.YtihiggnglmhggaaGreatDoor.L11
open L9 (eB)
open L10 (Stm Pg)
theorem first0:∀ (l:List (Bool × Int)),(∀ p∈l,p.2≠0)→L4.firstBad l=0→∀ p∈l,p.1=true
 | [],_,_=>by simp
 | (b,e)::r,h,h0=>by
  rw [L4.firstBad] at h0
  cases b
  ·exact absurd h0 (h (false,e) (by simp))
  ·intro p hp
   rcases List.mem_cons.1 hp with rfl|hp
   ·rfl
   ·exact first0 r (fun q hq=>h q (by simp [hq])) h0 p hp
theorem chk_all {f:Int} {reg:Bool} {dst src off imm:Int} (h:L4.chkF f reg dst src off imm=0) :
  f≠-1∧(reg=false∨f=0∨f=4)∧(L4.uD f=true∨dst=0)∧(L4.uS f reg=true∨src=0)∧(L4.uO f=true∨off=0)∧(L4.uI f reg=true∨imm=0)∧L4.isG dst=true∧L4.isG src=true∧L1.sx 16 off=off∧L4.rng f imm=true:=by
 unfold L4.chkF at h
 have k:=first0 _ (by intro p hp;simp only [List.mem_cons,List.not_mem_nil,or_false] at hp;rcases hp with rfl|rfl|rfl|rfl|rfl|rfl|rfl <;> simp) h
 have k1:=k _ (List.mem_cons_self ..)
 have k2:=k _ (List.mem_cons_of_mem _ (List.mem_cons_self ..))
 have k3:=k _ (List.mem_cons_of_mem _ (List.mem_cons_of_mem _ (List.mem_cons_self ..)))
 have k4:=k _ (List.mem_cons_of_mem _ (List.mem_cons_of_mem _ (List.mem_cons_of_mem _ (List.mem_cons_self ..))))
 have k5:=k _ (List.mem_cons_of_mem _ (List.mem_cons_of_mem _ (List.mem_cons_of_mem _ (List.mem_cons_of_mem _ (List.mem_cons_self ..)))))
 have k6:=k _ (List.mem_cons_of_mem _ (List.mem_cons_of_mem _ (List.mem_cons_of_mem _ (List.mem_cons_of_mem _ (List.mem_cons_of_mem _ (List.mem_cons_self ..))))))
 have k7:=k _ (List.mem_cons_of_mem _ (List.mem_cons_of_mem _ (List.mem_cons_of_mem _ (List.mem_cons_of_mem _ (List.mem_cons_of_mem _ (List.mem_cons_of_mem _ (List.mem_cons_self ..)))))))
 simp only [Bool.and_eq_true,Bool.or_eq_true,bne_iff_ne,ne_eq,beq_iff_eq,Bool.not_eq_true'] at k1 k2 k3 k4 k5 k6 k7
 exact⟨k1,by rcases k2 with (k2|k2)|k2 <;> simp [k2],k3.1,k3.2,k4.1,k4.2,k5.1,k5.2,k6,k7⟩
theorem upB_of {g n:Int} (h:L10.upB g n=true):1≤n∧n≤g:=by
 unfold L10.upB at h
 simpa using h
theorem deE_of {d:L9.Df} (h:L10.deE d=0):L2.vd d.nm=true∧(1≤d.key∧d.key≤64)∧(1≤d.val∧d.val≤256)∧1≤d.ent∧d.ent≤1024:=by
 unfold L10.deE at h
 split at h
 ·split at h
  ·rename_i h1 h2
   simp only [Bool.and_eq_true] at h2
   exact⟨h1,upB_of h2.1.1,upB_of h2.1.2,upB_of h2.2⟩
  ·cases h
 ·cases h
end Go.Proofs.YtihiggnglmhggaaGreatDoor.L11
end
section
namespace Go.Proofs.YtihiggnglmhggaaGreatDoor.L5
open Go.RowKit L3 L1 L4
theorem byL_src {w:World} {k o:Nat} {l:List UInt8} (h:Bytes w k o l):∀ j u,(byL l)[j]?=some u→w.cell? ((⟨k,o,none⟩:Addr).add j)=some u:=fun j u hu=>by
 have hj:j<l.length:=by
  have:=(List.getElem?_eq_some_iff.1 hu).1
  rwa [byL_len] at this
 rw [show (⟨k,o,none⟩:Addr).add j=⟨k,o+j,none⟩ by unfold Addr.add;split <;> simp_all,h j hj]
 simpa [byL,hj] using hu
def insL (l:List Ix):List Value:=l.flatMap fun x=>x.cs.toList
theorem insL_map (r:List Rdg):insC r=insL (r.map fun x=>x.x):=by simp [insC,insL,List.flatMap_map]
theorem insL_at:∀ (l:List Ix) (i:Nat) (h:i<l.length) (m:Nat) (u:Value),l[i].cs[m]?=some u→(insL l)[i*6+m]?=some u
 | x::l,0,_,m,u,hu=>by
  have hm:m<6:=by
   have:=(Array.getElem?_eq_some_iff.1 hu).1
   simpa using this
  simp only [insL,List.flatMap_cons]
  rw [List.getElem?_append_left (by simpa using hm)]
  simpa using hu
 | x::l,i+1,h,m,u,hu=>by
  have:=insL_at l i (by simpa using h) m u (by simpa using hu)
  simp only [insL,List.flatMap_cons]
  rw [List.getElem?_append_right (by simp;omega)]
  have e:(i+1)*6+m-x.cs.toList.length=i*6+m:=by simp;omega
  rw [e]
  exact this
theorem insL_length:∀ l:List Ix,(insL l).length=6*l.length
 | []=>rfl
 | x::l=>by
  have:=insL_length l
  simp only [insL,List.flatMap_cons,List.length_append,List.length_cons] at this ⊢
  rw [this]
  simp
  omega
theorem own_ins {w:World} {base:Nat} {v:Value} {n:Nat} {l:List Ix} (h:w.ownsRow base 45 6 v n (insL l)):InAt w v l:=by
 have hl:l.length=n:=by have:=h.1;rw [insL_length] at this;omega
 subst hl
 rcases h.2 with ⟨rfl,h0⟩|⟨g,cap,cur,rfl,hb,hg,hnc,hcm,hcs,htk⟩
 ·have:l=[]:=List.eq_nil_of_length_eq_zero h0
  subst this
  exact⟨none,0,rfl,.inl rfl⟩
 ·refine⟨_,cap,rfl,.inr ⟨g,0,rfl,fun i hi m u hu=>?_⟩⟩
  have h1:=insL_at l i hi m u hu
  rw [← htk,List.getElem?_take] at h1
  split at h1
  ·rw [Nat.zero_add]
   exact cell_of hg (by simpa using h1)
  ·cases h1
end Go.Proofs.YtihiggnglmhggaaGreatDoor.L5
end
section
namespace Go.Proofs.YtihiggnglmhggaaGreatDoor.L15
open Go.RowKit L14
attribute [local go_sem] Oper.semAt_some
structure Fw (l:List Sc):Prop where
 n:l.length≤16
 d:∀ s∈l,s.2.length≤1000000
theorem Fw.sml {l:List Sc} (h:Fw l):Sml l:=⟨by have:=h.n;omega,h.d⟩
theorem Fw.tot {l:List Sc} (h:Fw l):tot l≤16000112:=by
 have h1:=tot_bound l 1000000 h.d
 have h2:=h.n
 have h3:l.length*(1000000+7)≤16*(1000000+7):=Nat.mul_le_mul_right _ h2
 omega
theorem Fw.sz {l:List Sc} (h:Fw l):szL l≤16001000:=by
 have h1:=h.tot
 have h2:=up_le (16+12*l.length)
 have h3:=h.n
 unfold szL L15.hd;omega
theorem rows_snoc (l:List Sc) (k a:Nat) (h:k<l.length):rows a (l.take (k+1))=rows a (l.take k)++row l[k] (a+tot (l.take k)):=by
 rw [take_snoc l k h,rows_app,rows,rows,List.append_nil]
end Go.Proofs.YtihiggnglmhggaaGreatDoor.L15
end
section
namespace Go.Proofs.YtihiggnglmhggaaGreatDoor.L15
open Go.RowKit Go.Shelf L14
attribute [local go_sem] Oper.semAt_some
section
variable {α:Type}
def Told (F:Fence) (n:Nat) (P:Program) (g:Nat) (lb:Array Value) (encs:α→Array Value) (Rel:α→World→Prop) (Kp:World→World→Prop) (S Sp:List α→Prop) (w:World):Prop :=
 ∀ (l:Nat) (J X:List α→World→Prop) (W:World),Below w.heap.size w W→AbidesFrom W.heap.size J→AbidesFrom W.heap.size X→J [] W →
  (∀ pre x A,J pre A→Rel x A→Sp (pre++[x])→YieldAt F (n-1) P l (encs x) A fun e B=>(e=.returned (.bool true)∧J (pre++[x]) B∧Kp A B)∨(e=.returned (.bool false)∧X (pre++[x]) B)) →
  CallsIn F n P g (#[.func (.yield l) #[] #[]]++lb) W fun e B=>(∃ v,e=.returned v)∧((∃ xs,S xs∧J xs B)∨∃ pre,Sp pre∧X pre B)
def told (d:Nat) (Kp:World→World→Prop) (I X:List α→World→Prop) (xs:List α) (A:World):Exit→Act→World→Prop
 | .normal,_,B=>KeepsFrom d A B∧Kp A B∧I xs B
 | .ret,_,B=>KeepsFrom d A B∧X xs B
 | _,_,_=>False
structure Bk (d:Nat) (r:Loop) (W:World):Prop where
 here:W.heap[d+1]?=some (.loop r)
 col:W.heap[d]?=some (.deferred (some []))
theorem Bk.lt {d:Nat} {r:Loop} {W:World} (h:Bk d r W):d+1<W.heap.size:=lt_of_block h.here
theorem Bk.grown {d:Nat} {r:Loop} {A B:World} {row:Option Nat} (h:Bk d r A) (hg:A.grownBy B row) (hr:∀ k,row=some k→∃ o:Obj,A.heap[k]?=some o∧o.isWalk=true):Bk d r B :=
 ⟨(grownBy_keeps hg hr h.here rfl).trans h.here,(grownBy_keeps hg hr h.col rfl).trans h.col⟩
theorem Bk.kept {d:Nat} {r:Loop} {A B:World} (h:Bk d r A) (hk:KeepsFrom d A B):Bk d r B:=⟨hk.same _ _ (Nat.le_succ d) h.here rfl,hk.same _ _ (Nat.le_refl d) h.col rfl⟩
theorem Bk.put {d:Nat} {r:Loop} {A:World} (h:Bk d r A) (r':Loop):Bk d r' (A.putObj (d+1) (.loop r')):=⟨World.putObj_heap_same h.lt,(World.putObj_heap_other (by omega)).trans h.col⟩
theorem own_put {β:Type} {d:Nat} {I:β→World→Prop} (hI:OwnFrom d I) {s:β} {r:Loop} {A:World} (h:Bk d r A) (r':Loop) (hs:I s A):I s (A.putObj (d+1) (.loop r')):=hI.putObj _ hs (Nat.le_succ d) h.here rfl
theorem abides_bk {β:Type} {d e:Nat} (hde:d≤e) {I:β→World→Prop} (hI:OwnFrom d I) (r:Loop):AbidesFrom e fun s W=>I s W∧Bk d r W:=fun s A B row h hg hr =>
 ⟨hI s A B row h.1 hg fun k hk=>by
  obtain⟨h1,o,h2,h3⟩:=hr k hk
  exact⟨Nat.le_trans hde h1,o,h2,Obj.not_cells_of_walk h3⟩,h.2.grown hg fun k hk=>(hr k hk).2⟩
variable {F:Fence} {n:Nat} {P:Program}
theorem range_told {g:Operand} {ps:Array Tmp} {assign body:Code} {Q:Exit→Act→World→Prop} {a:Act} {w:World} (hro:F.round=none) (hn:1≤n) {gf:Nat} {lb:Array Value} (hg:a.eval g=.func (.func gf) #[] lb) (hF:F.fn gf)
  (en:∀ args W,(callFunc gf args).run P W=.ok (.enter gf args) W) {encs:α→Array Value} {Rel:α→World→Prop} {Kp:World→World→Prop} {S Sp:List α→Prop} (hT:Told F (n-1) P gf lb encs Rel Kp S Sp w)
  (hKt:∀ {A B C:World},Kp A B→Kp B C→Kp A C) (hKb:∀ (W:World) (k:Nat) (o o':Obj),w.heap.size≤k→W.heap[k]?=some o→o.isCells=false→o.isWalk=false→Kp W (W.putObj k o')) (hps:∀ x,(encs x).size=ps.size)
  (hR:OwnFrom w.heap.size Rel) (I X:List α→World→Prop) (hI:OwnFrom w.heap.size I) (hX:OwnFrom w.heap.size X) (h0:I [] w) (act:α→Act)
  (hassign:∀ (l:Nat) (x:α) (W:World) (K:Act→World→Prop),K (act x) W→assign.wpIn (F.inRound l) (n-1-1) P (Exit.then K fun _ _ _=>False) { tmps:=(ps.zip (encs x)).foldl (fun t (p,v)=>t.setIfInBounds p v) a.tmps,defers:=[] } W)
  (hbody:∀ (l:Nat) (pre:List α) (x:α) (W:World),I pre W→Rel x W→Sp (pre++[x])→body.wpIn (F.inRound l) (n-1-1) P (told w.heap.size Kp I X (pre++[x]) W) (act x) W)
  (hdone:∀ (D:Nat) (xs:List α) (W:World),w.heap.size≤D→S xs→I xs W→W.heap[D]?=some (.deferred (some []))→Q .normal { a with defers:={ target:=.collected D,args:=#[] }::a.defers } W)
  (hstop:∀ (D:Nat) (pre:List α) (W:World),w.heap.size≤D→Sp pre→X pre W→W.heap[D]?=some (.deferred (some []))→Code.ret.wpIn F n P Q { a with defers:={ target:=.collected D,args:=#[] }::a.defers } W) :
  (Code.rangeFunc g ps assign body).wpIn F n P Q a w:=by
 refine wpIn_rangeFunc fun fn hfn=>?_
 rw [hro]
 let d:=w.heap.size
 let re:LoopState→Option Code→Loop:=fun st jump=>{ state:=st,pending:=jump,fn:=fn,tmps:=a.tmps,params:=ps,assign:=assign,body:=body,defers:=d }
 let w1:World:=w.alloc (.deferred (some []))
 let w2:World:=w1.alloc (.loop (re .ready none))
 have s1:w1.heap.size=d+1:=World.size_alloc ..
 have s2:w2.heap.size=d+1+1:=by rw [← s1];exact World.size_alloc ..
 have hb:Below d w w2:=((Below.refl d w).alloc (Nat.le_refl _) _).alloc (by rw [s1];exact Nat.le_succ d) _
 have k2:Bk d (re .ready none) w2:=by
  have h1:w2.heap[w1.heap.size]?=some (.loop (re .ready none)):=World.alloc_heap_new w1 _
  have h2:w1.heap[d]?=some (.deferred (some [])):=World.alloc_heap_new w _
  rw [s1] at h1
  exact⟨h1,(Below.heap_alloc _ _ _ (by rw [s1];exact Nat.lt_succ_self d)).trans h2⟩
 have i2:I [] w2:=hI.alloc _ (hI.alloc _ h0)
 refine⟨d+1,_,w2,⟨.fn (.func gf) lb,#[.func (.yield (d+1)) #[] #[]]⟩,w2,gf,#[.func (.yield (d+1)) #[] #[]]++lb,w2,run_enterLoop_outer fn a.tmps ps assign body,by simp only [resolve,hg];simp [go_sem],fun f h=>?_,by simp [invoke,go_sem,en],fun _=>hn,?_⟩
 ·simp only [Target.leads,Option.some.injEq] at h
  exact h ▸ hF
 refine (hT (d+1) (fun xs W=>I xs W∧Bk d (re .ready none) W) (fun xs W=>X xs W∧Bk d (re .done (some .ret)) W) w2 hb (abides_bk (by omega) hI _) (abides_bk (by omega) hX _) ⟨i2,k2⟩ ?_).mono ?_
 ·intro pre x A hA hx hp
  obtain⟨hi,kA⟩:=hA
  refine⟨fn,_,assign,body,run_yield kA.here (hps x),roundIn_of_wpIn hfn (hassign _ x A _ ?_)⟩
  have kB:Bk d (re .busy none) _:=kA.put (re .busy none)
  have pA:Kp A (A.putObj (d+1) (.loop (re .busy none))):=hKb A _ _ _ (Nat.le_succ d) kA.here rfl rfl
  refine⟨_,run_beginRound kA.here rfl,wpIn_mono (hbody _ pre x _ (own_put hI kA _ hi) (own_put hR kA _ hx) hp) fun e a3 C hC=>?_⟩
  cases e with
  | normal =>
   obtain⟨c1,c2,c3⟩:=hC
   have kC:=kB.kept c1
   exact⟨_,_,run_endRound none kC.here,.inl ⟨rfl,⟨own_put hI kC _ c3,kC.put (re .ready none)⟩,hKt pA (hKt c2 (hKb _ _ _ _ (Nat.le_succ d) kC.here rfl rfl))⟩⟩
  | ret =>
   obtain⟨c1,c3⟩:=hC
   have kC:=kB.kept c1
   exact⟨_,_,run_endRound (some .ret) kC.here,.inr ⟨rfl,own_put hX kC _ c3,kC.put (re .done (some .ret))⟩⟩
  | exit _=>exact hC.elim
  | goto _=>exact hC.elim
  | panic _=>exact hC.elim
  | outgrown=>exact hC.elim
 ·intro e B hB
  obtain⟨⟨v,rfl⟩,h⟩:=hB
  rcases h with ⟨xs,hs,hi,kB⟩|⟨pre,hs,hx,kB⟩
  ·exact⟨none,_,run_endLoop kB.here (by intro h;cases h),hdone d xs _ (Nat.le_refl d) hs (own_put hI kB _ hi) (kB.put _).col⟩
  ·exact⟨some .ret,_,run_endLoop kB.here (by intro h;cases h),hstop d pre _ (Nat.le_refl d) hs (own_put hX kB _ hx) (kB.put _).col⟩
end
end Go.Proofs.YtihiggnglmhggaaGreatDoor.L15
end
