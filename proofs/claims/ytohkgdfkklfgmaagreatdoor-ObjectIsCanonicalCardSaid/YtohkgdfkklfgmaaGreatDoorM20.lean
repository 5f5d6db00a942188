/- Lemmas and walks of L5Join, L5Same, L5Itr, L5All, L5Alive: what each theorem states; conditions stand in each theorem. -/
import Derived.Test.YtohkgdfkklfgmaaGreatDoorM19
import Derived.OwnWalk
import Derived.Maps.AppendAt
import Derived.Deep.AppendLies
import Derived.Deep.QuietTactic
import Derived.BigQuiet
import Derived.RangeFuncNested
import Derived.RangeFuncBound
import Derived.RangeFuncCalls
import Derived.RangeFuncLeaves
import Derived.RangeFuncBox
import Derived.Shelf.Abstract
import Derived.Shelf.RegionOpen
import Derived.OwnWalkIn
import Derived.TacticsInMore
import Derived.LoopNIn
import Derived.LoopIn
import Derived.RegionIn
import Derived.Deep.DeepCutAuto
section
set_option maxRecDepth 100000
set_option maxHeartbeats 4000000
namespace Go.Proofs.YtohkgdfkklfgmaaGreatDoor.L5
open Go.RowKit L3 L1 L4
def Ix.f (x:Ix):Int:=frm (ix x.op)
def Ix.err (x:Ix):Int:=chkF x.f x.reg x.dst x.src x.off x.imm
def Ix.bytes (x:Ix):List UInt8:=encL (ix x.op) x.f x.reg x.dst x.src x.off x.imm
def Ix.fits (x:Ix):Prop:=-9223372036854775808≤x.imm∧x.imm≤9223372036854775807
def joinB (l:List Ix):List UInt8:=l.flatMap Ix.bytes
def byL (l:List UInt8):List Value:=l.map fun c=>Value.int .u8 (c.toNat:Int)
theorem byL_append (a b:List UInt8):byL (a++b)=byL a++byL b:=by simp [byL]
theorem byC_list (l:List UInt8):(byC l).toList=byL l:=by simp [byC,byL]
theorem enc_is (x:Ix) (l:List UInt8) (n:Nat) (w:World) (hw:Wid w) (hx:x.fits) (h0:x.err=0) (hl:x.bytes=l) (hn:l.length=n) :
  Calls Tryz.prog 89 #[.agg #[.int .i64 x.op,.bool x.reg,.int .i64 x.dst,.int .i64 x.src,.int .i64 x.off,.int .i64 x.imm]] w fun e w'=>∃ k,w.heap.size≤k∧e=.returned (.tuple #[.slice (some ⟨k,0,none⟩) n n,.int .i64 0])∧w'.heap[k]?=some (.cells (byC l) 5)∧Below w.heap.size w w' :=
 encode_at x.op x.reg x.dst x.src x.off x.imm x.f l n w hw rfl ((chk_ok _ _ _ _ _ _).1 h0) hx.1 hx.2 hl hn
theorem enc_no (x:Ix) (R:Int) (w:World) (hw:Wid w) (h:x.err=R) (hR:(R != 0)=true) :
  Calls Tryz.prog 89 #[.agg #[.int .i64 x.op,.bool x.reg,.int .i64 x.dst,.int .i64 x.src,.int .i64 x.off,.int .i64 x.imm]] w fun e w'=>e=.returned (.tuple #[.slice none 0 0,.int .i64 R])∧Below w.heap.size w w' :=
 encode_no x.op x.reg x.dst x.src x.off x.imm x.f R w hw rfl h hR
theorem bytes_length (x:Ix):x.bytes.length≤16:=by
 unfold Ix.bytes
 rw [encL_length]
 split <;> omega
theorem own_below {w w':World} {base e:TypeId} {size:Nat} {v:Value} {n:Nat} {xs:List Value} (h:w.ownsRow base e size v n xs) (hb:Below w.heap.size w w'):w'.ownsRow base e size v n xs:=by
 refine⟨h.1,?_⟩
 rcases h.2 with h|⟨g,cap,cur,hv,hg,hh,r⟩
 ·exact .inl h
 ·exact .inr ⟨g,cap,cur,hv,hg,(hb.block _ (lt_of_block hh)).trans hh,r⟩
theorem own_base {w:World} {base:Nat} {e:TypeId} {size:Nat} {v:Value} {n:Nat} {xs:List Value} (h:w.ownsRow base e size v n xs):∀ k,v.ownBlock=some k→base≤k:=by
 intro k hk
 rcases h.2 with ⟨rfl,_⟩|⟨g,cap,cur,rfl,hb,_⟩
 ·cases hk
 ·simp [Value.ownBlock] at hk
  omega
theorem byL_len (l:List UInt8):(byL l).length=l.length:=by simp [byL]
theorem byL_one (l:List UInt8):∀ u∈byL l,u.oneCell'=true:=by
 intro u hu
 obtain⟨c,-,rfl⟩:=List.mem_map.1 hu
 rfl
theorem byL_at {w:World} {k:Nat} {l:List UInt8} (h:w.heap[k]?=some (.cells (byC l) 5)):∀ j u,(byL l)[j]?=some u→w.cell? ((⟨k,0,none⟩:Addr).add j)=some u:=by
 rw [← byC_list]
 exact World.news_of_block h
theorem owns_slice' {w:World} {base e:TypeId} {size:Nat} {v:Value} {n:Nat} {xs:List Value} (h:w.ownsRow base e size v n xs):∃ a c,v=.slice a n c:=by
 rcases h.2 with ⟨rfl,rfl⟩|⟨g,cap,cur,rfl,_⟩
 ·exact⟨_,_,rfl⟩
 ·exact⟨_,_,rfl⟩
def Inss (w:World) (k o:Nat) (xs:List Ix):Prop:=∀ i,(h:i<xs.length)→∀ m u,xs[i].cs[m]?=some u→w.cell? ⟨k,o+i*6+m,none⟩=some u
theorem Inss.up {w W:World} {k o:Nat} {xs:List Ix} (h:Inss w k o xs) (hb:Below w.heap.size w W):Inss W k o xs:=fun i hi m u hu=>cell_up hb (h i hi m u hu)
def JoinP (w:World) (xs:List Ix) (e:Ending) (w':World):Prop :=
 ((∃ p x q,xs=p++x::q∧(∀ y∈p,y.err=0)∧x.err≠0∧e=.returned (.tuple #[.slice none 0 0,.int .i64 (p.length:Int),.int .i64 x.err])) ∨
  ((∀ y∈xs,y.err=0)∧∃ v,e=.returned (.tuple #[v,.int .i64 0,.int .i64 0])∧w'.ownsRow w.heap.size 5 1 v (joinB xs).length (byL (joinB xs))))∧Below w.heap.size w w'
theorem join_some (k o n cap:Nat) (xs:List Ix) (w:World) (hw:Wid w) (hn:xs.length=n) (hm:n≤100000) (hi:Inss w k o xs) (hf:∀ x∈xs,x.fits) :
  Calls Tryz.prog 49 #[.slice (some ⟨k,o,none⟩) n cap] w fun e w'=>JoinP w xs e w':=by
 obtain⟨i0,hi0,hz0,hz1,hz2⟩:=info_parts Tryz.info5
 have HW:=Lib.hid hw
 have HI:=Lib.hid hi
 have HF:=Lib.hid hf
 have HN:=Lib.hid hn
 clear hw hi hf hn
 go_enter Tryz.func49,Tryz.ntmps49
 go_wp2
 go_loopw [5,12] (fun b i wr=>∃ (j:Nat) (m:Nat) (l:List UInt8),j≤n∧i=.int .i64 (j:Int)∧wr.ownsRow w.heap.size 5 1 b m (byL l)∧m≤16*j∧Hid (l=joinB (xs.take j))∧Hid (∀ y∈xs.take j,y.err=0)∧Below w.heap.size w wr) (fun _ i _=>n-(intOf i).toNat)
 case atStart=>exact⟨0,0,[],Nat.zero_le _,rfl,World.ownsRow_nil _ _ _ _,by omega,Lib.hid (by simp [joinB]),Lib.hid (by simp),Below.refl _ _⟩
 case round =>
  obtain⟨j,m,l,hj,rfl,hown,hm16,hL,hG,hB⟩:=hrel
  by_cases hlt:j<n
  ·have hjx:j<xs.length:=by rw [HN.out];exact hlt
   obtain⟨x,hx⟩:∃ x,xs[j]=x:=⟨_,rfl⟩
   have hI:=(HI.out.up hB) j hjx
   rw [hx] at hI
   have a0:=hI 0 _ rfl
   have a1:=hI 1 _ rfl
   have a2:=hI 2 _ rfl
   have a3:=hI 3 _ rfl
   have a4:=hI 4 _ rfl
   have a5:=hI 5 _ rfl
   rw [Nat.add_zero] at a0
   have hlt':(j:Int)<(n:Int):=by omega
   have HX:=Lib.hid hx
   clear hI hx
   by_cases h0:x.err=0
   ·have HE:=Lib.hid (fun (W:World) (hb:Below w.heap.size w W)=>enc_is x x.bytes _ W (wid_below HW.out hb) (HF.out x (by rw [← HX.out];exact List.getElem_mem _)) h0 rfl rfl)
    have H0:=Lib.hid h0
    clear h0
    have hBW:=Lib.hid (hB.alloc hB.size (.cells x.cs 92))
    have hsz:=hB.size
    have hb16:=bytes_length x
    go_wp2_with (first|(go_at_call 89;((with_reducible refine (HE.out _ hBW.out).mono ?_);rintro e w2 ⟨kk,hkk,rfl,hck,hb2⟩;have hown2:=own_below hown (bch (bnew wr (.cells x.cs 92)) hb2)))|(at_builtin;refine wpList_append_own _ rfl _ _ 23 rfl w.heap.size 5 i0 (.int .u8 0) 1 1 Tryz.underlying23 hi0 hz0 hz1 hz2 rfl (by decide) _ m _ rfl hown2 ⟨kk,0,none⟩ x.bytes.length x.bytes.length (byL x.bytes) rfl (by rw [byL_len];omega) (byL_at hck) (byL_one _) (by unfold maxLen;omega) (by omega) (by have:=hb2.size;simp at this;omega) ?_;intro v' w3 hown3 hgrow3 _))
    go_roundw
    case rel =>
     have hT:xs.take (j+1)=xs.take j++[x]:=by rw [List.take_succ_eq_append_getElem hjx,HX.out]
     refine⟨j+1,m+x.bytes.length,l++x.bytes,by omega,by go_num,by rw [byL_append];exact hown3,by omega,Lib.hid ?_,Lib.hid ?_,((hBW.out.trans (hb2.mono (by simp;omega)))).grown hgrow3 (by have:=hb2.size;simp at this;omega) (own_base hown)⟩
     ·rw [hT,hL.out]
      simp [joinB]
     ·rw [hT]
      intro y hy
      rcases List.mem_append.1 hy with h|h
      ·exact hG.out y h
      ·rw [List.mem_singleton.1 h];exact H0.out
    case measure=>simp [intOf];omega
   ·have hne:(x.err != 0)=true:=by simpa using h0
    have HE:=Lib.hid (fun (W:World) (hb:Below w.heap.size w W)=>enc_no x x.err W (wid_below HW.out hb) rfl hne)
    have hBW:=Lib.hid (hB.alloc hB.size (.cells x.cs 92))
    have hsz:=hB.size
    have H0:=Lib.hid h0
    clear h0
    go_wp2_with (first|(go_at_call 89;((with_reducible refine (HE.out _ hBW.out).mono ?_);rintro e w2 ⟨rfl,hb2⟩)))
    refine bodyPost_ret (v:=.tuple #[.slice none 0 0,.int .i64 (j:Int),.int .i64 x.err]) (by simp [results,Tryz.results49,go_sem]) rfl ⟨.inl ⟨xs.take j,x,xs.drop (j+1),?_,hG.out,H0.out,?_⟩,hBW.out.trans (hb2.mono (by simp;omega))⟩
    ·rw [← HX.out,← List.drop_eq_getElem_cons hjx,List.take_append_drop]
    ·rw [List.length_take,Nat.min_eq_left (by omega)]
  ·have hge:¬ (j:Int)<(n:Int):=by omega
   have hjn:j=n:=by omega
   have HJ:=Lib.hid hjn
   clear hjn
   obtain⟨va,vc,rfl⟩:=owns_slice' hown
   go_wp2
   have hT:xs.take j=xs:=List.take_of_length_le (by rw [HN.out,HJ.out];exact Nat.le_refl _)
   have hLL:l=joinB xs:=by rw [hL.out,hT]
   have hml:m=(joinB xs).length:=by have:=hown.1;rw [byL_len,hLL] at this;omega
   refine bodyPost_ret (v:=.tuple #[.slice va m vc,.int .i64 0,.int .i64 0]) (by simp [results,Tryz.results49,go_sem]) rfl ⟨.inr ⟨fun y hy=>hG.out y (by rw [hT];exact hy),_,rfl,?_⟩,hB⟩
   rw [← hml,← hLL]
   exact hown
theorem join_none (a:Option Addr) (cap:Nat) (w:World):Calls Tryz.prog 49 #[.slice a 0 cap] w fun e w'=>JoinP w [] e w':=by
 go_enter Tryz.func49,Tryz.ntmps49
 go_wp2
 refine wp_loop_rounds 1 ?_
 rw [rounds_succ]
 go_wp2
 exact bodyPost_ret (v:=.tuple #[.slice none 0 0,.int .i64 0,.int .i64 0]) (by simp [results,Tryz.results49,go_sem]) rfl ⟨.inr ⟨(fun y hy=>by cases hy),_,rfl,World.ownsRow_nil _ _ _ _⟩,Below.refl _ _⟩
def InAt (w:World) (v:Value) (xs:List Ix):Prop :=
 ∃ a cap,v=.slice a xs.length cap∧(xs=[]∨∃ k o,a=some ⟨k,o,none⟩∧Inss w k o xs)
theorem InAt.below {w w':World} {v:Value} {xs:List Ix} (h:InAt w v xs) (hb:Below w.heap.size w w'):InAt w' v xs:=by
 obtain⟨a,cap,rfl,h3⟩:=h
 refine⟨a,cap,rfl,?_⟩
 rcases h3 with h3|⟨k,o,rfl,h3⟩
 ·exact .inl h3
 ·exact .inr ⟨k,o,rfl,h3.up hb⟩
theorem join_at (v:Value) (xs:List Ix) (w:World) (hw:Wid w) (hm:xs.length≤100000) (hv:InAt w v xs) (hf:∀ x∈xs,x.fits):Calls Tryz.prog 49 #[v] w fun e w'=>JoinP w xs e w':=by
 obtain⟨a,cap,rfl,h⟩:=hv
 rcases h with rfl|⟨k,o,rfl,h⟩
 ·exact join_none a cap w
 ·exact join_some k o _ cap xs w hw rfl hm h hf
end Go.Proofs.YtohkgdfkklfgmaaGreatDoor.L5
end
section
namespace Go.Proofs.YtohkgdfkklfgmaaGreatDoor.L5
open Go.RowKit L3 L1 L4
def BsV (w:World) (v:Value) (l:List UInt8):Prop:=∃ a cap,v=.slice a l.length cap∧(l=[]∨∃ k o,a=some ⟨k,o,none⟩∧Bytes w k o l)
theorem BsAt.v {w:World} {v:Value} {l:List UInt8} (h:BsAt w v l):BsV w v l:=by
 obtain⟨a,cap,h1,-,-,h4⟩:=h
 exact⟨a,cap,h1,h4⟩
theorem BsV.below {w w':World} {v:Value} {l:List UInt8} (h:BsV w v l) (hb:Below w.heap.size w w'):BsV w' v l:=by
 obtain⟨a,cap,rfl,h3⟩:=h
 refine⟨a,cap,rfl,?_⟩
 rcases h3 with h3|⟨k,o,rfl,h3⟩
 ·exact .inl h3
 ·exact .inr ⟨k,o,rfl,h3.up hb⟩
theorem own_bytes {w:World} {base:Nat} {v:Value} {n:Nat} {l:List UInt8} (h:w.ownsRow base 5 1 v n (byL l)):BsAt w v l:=by
 have hl:l.length=n:=by have:=h.1;rw [byL_len] at this;omega
 subst hl
 rcases h.2 with ⟨rfl,h0⟩|⟨g,cap,cur,rfl,hb,hg,hnc,hcm,hcs,htk⟩
 ·have:l=[]:=List.eq_nil_of_length_eq_zero h0
  subst this
  exact⟨none,0,rfl,by simp,by unfold maxLen;omega,.inl rfl⟩
 ·refine⟨_,cap,rfl,hnc,hcm,.inr ⟨g,0,rfl,fun j hj=>?_⟩⟩
  have h1:(cur.toList.take (l.length*1))[j]?=some (.int .u8 (l[j].toNat:Int)):=by
   rw [htk];simp [byL,hj]
  rw [List.getElem?_take] at h1
  simp [hj] at h1
  rw [Nat.zero_add]
  exact cell_of hg (by simpa using h1)
end Go.Proofs.YtohkgdfkklfgmaaGreatDoor.L5
end
section
namespace Go.Proofs.YtohkgdfkklfgmaaGreatDoor.L5
open Go.RowKit Go.Shelf L3 L1 L4
attribute [local go_sem] Oper.semAt_some
structure Rdg where
 at':Nat
 x:Ix
 e:Int
abbrev Rdg.cs (r:Rdg):Array Value:=#[.int .i64 r.x.op,.bool r.x.reg,.int .i64 r.x.dst,.int .i64 r.x.src,.int .i64 r.x.off,.int .i64 r.x.imm,.int .i64 r.e]
abbrev Rdg.vs (r:Rdg):Array Value:=#[.int .i64 (r.at':Int),.agg r.cs]
theorem grown_of_below {w w':World} (h:Below w.heap.size w w'):w.grownBy w' none:=⟨h.os,h.tape,h.output,h.size,fun k hk _=>h.block k hk⟩
def BsL (n:Nat) (w:World) (v:Value) (l:List UInt8):Prop :=
 ∃ a cap,v=.slice a l.length cap∧l.length≤cap∧cap≤maxLen∧(l=[]∨∃ k o,a=some ⟨k,o,none⟩∧k<n∧Bytes w k o l)
theorem BsL.at {n:Nat} {w:World} {v:Value} {l:List UInt8} (h:BsL n w v l):BsAt w v l:=by
 obtain⟨a,cap,rfl,h1,h2,h3⟩:=h
 refine⟨a,cap,rfl,h1,h2,?_⟩
 rcases h3 with h3|⟨k,o,rfl,_,h3⟩
 ·exact .inl h3
 ·exact .inr ⟨k,o,rfl,h3⟩
theorem BsL.below {n:Nat} {w w':World} {v:Value} {l:List UInt8} (h:BsL n w v l) (hb:Below n w w'):BsL n w' v l:=by
 obtain⟨a,cap,rfl,h1,h2,h3⟩:=h
 refine⟨a,cap,rfl,h1,h2,?_⟩
 rcases h3 with h3|⟨k,o,rfl,hk,h3⟩
 ·exact .inl h3
 ·exact .inr ⟨k,o,rfl,hk,fun j hj=>(hb.cell (p:=⟨k,o+j,none⟩) hk).trans (h3 j hj)⟩
theorem BsAt.low {w:World} {v:Value} {l:List UInt8} (h:BsAt w v l):BsL w.heap.size w v l:=by
 obtain⟨a,cap,rfl,h1,h2,h3⟩:=h
 refine⟨a,cap,rfl,h1,h2,?_⟩
 rcases h3 with h3|⟨k,o,rfl,h3⟩
 ·exact .inl h3
 ·by_cases h0:l=[]
  ·exact .inl h0
  ·have hp:0<l.length:=List.length_pos_iff.2 h0
   exact .inr ⟨k,o,rfl,World.block_lt_of_cell? w _ (h3 0 hp),h3⟩
end Go.Proofs.YtohkgdfkklfgmaaGreatDoor.L5
end
section
namespace Go.Proofs.YtohkgdfkklfgmaaGreatDoor.L5
open Go.RowKit Go.Shelf L3 L1 L4
attribute [local go_sem] Oper.semAt_some
def la (l:List Rdg):Rdg:=l.getLastD ⟨0,.z,0⟩
theorem cells_own {β:Type} (B:Nat) (t:TypeId) (f:β→Array Value):Own (fun s W=>W.heap[B]?=some (.cells (f s) t)):=fun s X Y row hs hg hrow=>by
 have hs':X.heap[B]?=some (.cells (f s) t):=hs
 exact (hg.block B (lt_of_block hs') (fun e'=>by obtain⟨o,ho,hc⟩:=hrow B e'.symm;rw [hs'] at ho;cases ho;cases hc)).trans hs'
theorem owns_slice {w:World} {base e:TypeId} {size:Nat} {v:Value} {n:Nat} {xs:List Value} (h:w.ownsRow base e size v n xs):∃ a c,v=.slice a n c:=by
 rcases h.2 with ⟨rfl,rfl⟩|⟨g,cap,cur,rfl,_⟩
 ·exact⟨_,_,rfl⟩
 ·exact⟨_,_,rfl⟩
theorem box_putObj {W:World} {B:Nat} {t:TypeId} {v:Value} (h:Boxed W B t v) {l:Nat} {o:Obj} (o':Obj) (hl:W.heap[l]?=some o) (ho:o.isCells=false):Boxed (W.putObj l o') B t v :=
 h.kept (grownBy_putObj' W l o') (fun e=>by
  cases e
  have h':W.heap[B]?=some (.cells #[v] t (0,0)):=h
  rw [h'] at hl;cases hl;cases ho)
end Go.Proofs.YtohkgdfkklfgmaaGreatDoor.L5
end
section
namespace Go.Proofs.YtohkgdfkklfgmaaGreatDoor.L5
open Go.RowKit L3 L1 L4
theorem byL_src {w:World} {k o:Nat} {l:List UInt8} (h:Bytes w k o l):∀ j u,(byL l)[j]?=some u→w.cell? ((⟨k,o,none⟩:Addr).add j)=some u:=fun j u hu=>by
 have hj:j<l.length:=by
  have:=(List.getElem?_eq_some_iff.1 hu).1
  rwa [byL_len] at this
 rw [show (⟨k,o,none⟩:Addr).add j=⟨k,o+j,none⟩ by unfold Addr.add;split <;> simp_all,h j hj]
 simpa [byL,hj] using hu
def insL (l:List Ix):List Value:=l.flatMap fun x=>x.cs.toList
theorem insL_at:∀ (l:List Ix) (i:Nat) (h:i<l.length) (m:Nat) (u:Value),l[i].cs[m]?=some u→(insL l)[i*6+m]?=some u
 | x::l,0,_,m,u,hu=>by
  have hm:m<6:=by
   have:=(Array.getElem?_eq_some_iff.1 hu).1
   simpa using this
  simp only [insL,List.flatMap_cons]
  rw [List.getElem?_append_left (by simpa using hm)]
  simpa using hu
 | x::l,i+1,h,m,u,hu=>by
  have:=insL_at l i (by simpa using h) m u (by simpa using hu)
  simp only [insL,List.flatMap_cons]
  rw [List.getElem?_append_right (by simp;omega)]
  have e:(i+1)*6+m-x.cs.toList.length=i*6+m:=by simp;omega
  rw [e]
  exact this
theorem insL_length:∀ l:List Ix,(insL l).length=6*l.length
 | []=>rfl
 | x::l=>by
  have:=insL_length l
  simp only [insL,List.flatMap_cons,List.length_append,List.length_cons] at this ⊢
  rw [this]
  simp
  omega
theorem own_ins {w:World} {base:Nat} {v:Value} {n:Nat} {l:List Ix} (h:w.ownsRow base 92 6 v n (insL l)):InAt w v l:=by
 have hl:l.length=n:=by have:=h.1;rw [insL_length] at this;omega
 subst hl
 rcases h.2 with ⟨rfl,h0⟩|⟨g,cap,cur,rfl,hb,hg,hnc,hcm,hcs,htk⟩
 ·have:l=[]:=List.eq_nil_of_length_eq_zero h0
  subst this
  exact⟨none,0,rfl,.inl rfl⟩
 ·refine⟨_,cap,rfl,.inr ⟨g,0,rfl,fun i hi m u hu=>?_⟩⟩
  have h1:=insL_at l i hi m u hu
  rw [← htk,List.getElem?_take] at h1
  split at h1
  ·rw [Nat.zero_add]
   exact cell_of hg (by simpa using h1)
  ·cases h1
def bA:List UInt8:=[149,0,0,0,0,0,0,0]
theorem row_up {w w':World} {k:Nat} {cs:Array Value} {t:TypeId} (h:w.heap[k]?=some (.cells cs t)) (hb:Below w.heap.size w w'):w'.heap[k]?=some (.cells cs t):=(hb.block _ (lt_of_block h)).trans h
theorem lit_bytes {w:World} {k n:Nat} {l:List UInt8} {cs:Array Value} (h:w.heap[k]?=some (.cells cs 5)) (hc:cs=byC l) (hn:l.length=n):BsV w (.slice (some ⟨k,0,none⟩) n n) l:=by
 subst hc;subst hn
 exact⟨_,_,rfl,.inr ⟨k,0,rfl,.row h⟩⟩
theorem rowA_at {w:World} {k:Nat} (h:w.heap[k]?=some (.cells (byC bA) 5)):BsV w (.slice (some ⟨k,0,none⟩) 8 8) bA:=lit_bytes h rfl rfl
end Go.Proofs.YtohkgdfkklfgmaaGreatDoor.L5
end
