/- Lemmas and walks of L10Ea, L10Cn: what each theorem states; conditions stand in each theorem. -/
import Derived.Test.YtdgnjhhieemcaaaGreatDoorM9
set_option maxHeartbeats 2000000
set_option maxRecDepth 100000
section
namespace Go.Proofs.YtdgnjhhieemcaaaGreatDoor.L10
open Go.RowKit Go.Maps
attribute [local go_sem] Oper.semAt_some
def NoC (w:World) (o:Option Nat):Prop:=∀ g,o=some g→∀ cs t fr,w.heap[g]?≠some (.cells cs t fr)
theorem gr_cell {w W:World} {o:Option Nat} {p:Addr} {v:Value} (hg:w.grownBy W o) (hn:NoC w o) (h:w.cell? p=some v):W.cell? p=some v:=by
 refine hg.cell h ?_
 intro e
 unfold World.cell? at h
 split at h
 ·exact hn p.block e.symm _ _ _ ‹_›
 ·cases h
theorem gr_row {w W:World} {o:Option Nat} {k:Nat} {cs:Array Value} {t:TypeId} {fr:Nat × Nat} (hg:w.grownBy W o) (hn:NoC w o) (h:w.heap[k]?=some (.cells cs t fr)):W.heap[k]?=some (.cells cs t fr):=by
 refine (hg.block k (Array.getElem?_eq_some_iff.1 h).1 ?_).trans h
 intro e
 exact hn k e.symm _ _ _ h
theorem gr_refl (w:World) (o:Option Nat):w.grownBy w o:=⟨rfl,rfl,rfl,Nat.le_refl _,fun _ _ _=>rfl⟩
theorem gr_of {w W:World} (h:Below w.heap.size w W) (o:Option Nat):w.grownBy W o:=⟨h.os,h.tape,h.output,h.size,fun k hk _=>h.block k hk⟩
theorem gr_to {w W:World} (h:w.grownBy W none):Below w.heap.size w W:=⟨h.os,h.tape,h.output,h.size,fun k hk=>h.block k hk (by simp)⟩
theorem gr_tr {w a b:World} {o:Option Nat} (h:w.grownBy a o) (k:a.grownBy b o):w.grownBy b o:=⟨k.os.trans h.os,k.tape.trans h.tape,k.output.trans h.output,Nat.le_trans h.size k.size,fun x hx hn=>(k.block x (Nat.lt_of_lt_of_le hx h.size) hn).trans (h.block x hx hn)⟩
theorem st_gr {w W:World} {o:Option Nat} {v:Value} {l:List ByteArray} (h:L8.StAt w v l) (hg:w.grownBy W o) (hn:NoC w o):L8.StAt W v l:=by
 rcases h with ⟨b,i,cap,rfl,hlt,hc⟩|h
 ·exact .inl ⟨b,i,cap,rfl,Nat.lt_of_lt_of_le hlt hg.size,fun j hj=>gr_cell hg hn (hc j hj)⟩
 ·exact .inr h
theorem df_form {w:World} {v:Value} {l:List L9.Df} {n:Nat} (hn:l.length=n) (h:DfAt w v l):∃ a c,v=.slice a n c∧(0<n→∃ b o,a=some ⟨b,o,none⟩∧b<w.heap.size∧∀ j,(h:j<l.length)→∀ i u,(dfL l[j])[i]?=some u→w.cell? ⟨b,o+j*4+i,none⟩=some u):=by
 subst hn
 rcases h with ⟨b,o,cap,rfl,hb,hc⟩|⟨rfl,a,cap,rfl⟩
 ·exact⟨_,_,rfl,fun _=>⟨b,o,rfl,hb,hc⟩⟩
 ·exact⟨a,cap,rfl,fun h=>absurd h (by simp)⟩
theorem sm_form {w:World} {v:Value} {l:List Stm} {n:Nat} (hn:l.length=n) (h:SmAt w v l):∃ a c,v=.slice a n c∧(0<n→∃ b o,a=some ⟨b,o,none⟩∧b<w.heap.size∧∀ j,(h:j<l.length)→∃ lv,L8.StAt w lv l[j].labs∧∀ i u,(smL lv l[j])[i]?=some u→w.cell? ⟨b,o+j*9+i,none⟩=some u):=by
 subst hn
 rcases h with ⟨b,o,cap,rfl,hb,hc⟩|⟨rfl,a,cap,rfl⟩
 ·exact⟨_,_,rfl,fun _=>⟨b,o,rfl,hb,hc⟩⟩
 ·exact⟨a,cap,rfl,fun h=>absurd h (by simp)⟩
theorem fe_step {es:List Int} {j n:Nat} (hn:es.length=n) (hj:j<n) (h:feF j (es.drop j)=fe es):(es.getD j 0=0→feF (j+1) (es.drop (j+1))=fe es)∧(es.getD j 0≠0→fe es=(j,es.getD j 0)):=by
 have hjl:j<es.length:=by omega
 have e:es.getD j 0=es[j]:=by simp [List.getD,List.getElem?_eq_getElem hjl]
 rw [feF_step es j hjl] at h
 rw [e]
 exact⟨fun h0=>by rw [if_pos h0] at h;exact h,fun h0=>by rw [if_neg h0] at h;exact h.symm⟩
theorem fe_end {es:List Int} {n:Nat} (hn:es.length=n) (h:feF n (es.drop n)=fe es):fe es=(0,0):=by
 rw [← h,feF_end es n (by omega)]
def EaP (o:Option Nat) (n:Nat) (es:List Int) (Q:Nat→World→Prop) (w:World) (e:Ending) (w':World):Prop :=
 e=.returned (.tuple #[.int .i64 ((fe es).1:Int),.int .i64 (fe es).2])∧w.grownBy w' o∧((fe es).2=0→Q n w')
section
variable (g:Nat) (hg:∀ args w,(callFunc g args).run Tryz.prog w=.ok (.enter g args) w) (o:Option Nat)
include g hg o
theorem each1 (kb kf:Nat) (vm:Value) (l:List L9.Df) (es:List Int) (Q:Nat→World→Prop) (w:World) (hv:DfAt w vm l) (hm:l.length≤100000) (he:es.length=l.length)
  (hb:w.cell? ⟨kb,0,none⟩=some vm) (hf:w.cell? ⟨kf,0,none⟩=some (.func (.func g) #[] #[])) (ho:NoC w o) (h0:Q 0 w)
  (hQ:∀ j W W',Q j W→Below W.heap.size W W'→Q j W')
  (hK:∀ j (h:j<l.length) W,Q j W→Calls Tryz.prog g #[.int .i64 (j:Int),.agg (#[.string l[j].nm,.int .i64 l[j].key,.int .i64 l[j].val,.int .i64 l[j].ent])] W fun e W'=>e=.returned (.int .i64 (es.getD j 0))∧W.grownBy W' o∧(es.getD j 0=0→Q (j+1) W')) :
  Calls Tryz.prog 217 #[.pointer (some ⟨kb,0,none⟩),.pointer (some ⟨kf,0,none⟩)] w fun e w'=>EaP o l.length es Q w e w':=by
 obtain⟨n,hn⟩:∃ n,l.length=n:=⟨_,rfl⟩
 rw [hn] at hm he ⊢
 obtain⟨a,cap,rfl,hc⟩:=df_form hn hv
 have HD:=Lib.hid hc
 have HN:=Lib.hid hn
 have HE:=Lib.hid he
 have HK:=Lib.hid hK
 have HQ:=Lib.hid hQ
 have HO:=Lib.hid ho
 have HF:=Lib.hid hf
 have HI:Hid (w.grownBy w o∧Q 0 w):=Lib.hid ⟨gr_refl w o,h0⟩
 clear hc hn he hK hQ ho hf h0 hv
 go_enter Tryz.func217,Tryz.ntmps217
 go_wp2
 go_loopw [9] (fun i wr=>∃ j:Nat,j≤n∧i=.int .i64 (j:Int)∧Hid (w.grownBy wr o∧Q j wr)∧Hid (feF j (es.drop j)=fe es)) (fun i _=>n-(intOf i).toNat)
 case atStart=>exact⟨0,Nat.zero_le _,rfl,HI,Lib.hid rfl⟩
 case round =>
  obtain⟨j,hj,rfl,hG,hL⟩:=hrel
  by_cases hlt:j<n
  ·have hjl:j<l.length:=by rw [HN.out];exact hlt
   obtain⟨b,o',rfl,hbl,hc⟩:=HD.out (by omega)
   obtain⟨d,hd⟩:∃ d,l[j]=d:=⟨_,rfl⟩
   have hC:=fun i u hu=>gr_cell hG.out.1 HO.out (hc j hjl i u hu)
   have a0:=hC 0 _ rfl
   have a1:=hC 1 _ rfl
   have a2:=hC 2 _ rfl
   have a3:=hC 3 _ rfl
   have hk:=HK.out j hjl
   rw [hd] at a0 a1 a2 a3 hk
   rw [Nat.add_zero] at a0
   clear hC
   have hfc:=gr_cell hG.out.1 HO.out HF.out
   have hkf:kf<wr.heap.size:=World.block_lt_of_cell? wr _ hfc
   have hlt':(j:Int)<(n:Int):=by omega
   obtain⟨ej,hej⟩:∃ ej,es.getD j 0=ej:=⟨_,rfl⟩
   rw [hej] at hk
   obtain⟨hs1,hs2⟩:=fe_step HE.out hlt hL.out
   rw [hej] at hs1 hs2
   have HK2:=Lib.hid (fun W hq=>hk W hq)
   have HS1:=Lib.hid hs1
   have HS2:=Lib.hid hs2
   clear hk hs1 hs2 hej hd hc hL
   by_cases h0:ej=0
   ·subst h0
    go_wp2_with (go_at_fn g;((with_reducible refine (HK2.out _ (HQ.out _ _ _ hG.out.2 (L8.bnew wr _))).mono ?_);rintro e w1 ⟨rfl,g1,q1⟩))
    go_roundw
    case rel=>exact⟨j+1,by omega,by go_num,Lib.hid ⟨gr_tr hG.out.1 (gr_tr (gr_of (L8.bnew wr _) o) g1),q1 (by trivial)⟩,Lib.hid (HS1.out (by trivial))⟩
    case measure=>simp [intOf];omega
   ·go_wp2_with (go_at_fn g;((with_reducible refine (HK2.out _ (HQ.out _ _ _ hG.out.2 (L8.bnew wr _))).mono ?_);rintro e w1 ⟨rfl,g1,q1⟩))
    go_ret2
    unfold EaP
    rw [HS2.out h0]
    exact⟨rfl,gr_tr hG.out.1 (gr_tr (gr_of (L8.bnew wr _) o) g1),fun h=>absurd h h0⟩
  ·obtain rfl:j=n:=by omega
   go_wp2
   go_ret2
   unfold EaP
   rw [fe_end HE.out hL.out]
   exact⟨rfl,hG.out.1,fun _=>hG.out.2⟩
theorem each4 (kb kf k3:Nat) (vm:Value) (l:List L9.Df) (es:List Int) (Q:Nat→World→Prop) (w:World) (hv:DfAt w vm l) (hm:l.length≤100000) (he:es.length=l.length)
  (hb:w.cell? ⟨kb,0,none⟩=some vm) (hf:w.cell? ⟨kf,0,none⟩=some (.func (.func g) #[] #[.pointer (some ⟨k3,0,none⟩)])) (ho:NoC w o) (h0:Q 0 w)
  (hQ:∀ j W W',Q j W→Below W.heap.size W W'→Q j W')
  (hK:∀ j (h:j<l.length) W,Q j W→Calls Tryz.prog g #[.int .i64 (j:Int),.agg (#[.string l[j].nm,.int .i64 l[j].key,.int .i64 l[j].val,.int .i64 l[j].ent]),.pointer (some ⟨k3,0,none⟩)] W fun e W'=>e=.returned (.int .i64 (es.getD j 0))∧W.grownBy W' o∧(es.getD j 0=0→Q (j+1) W')) :
  Calls Tryz.prog 217 #[.pointer (some ⟨kb,0,none⟩),.pointer (some ⟨kf,0,none⟩)] w fun e w'=>EaP o l.length es Q w e w':=by
 obtain⟨n,hn⟩:∃ n,l.length=n:=⟨_,rfl⟩
 rw [hn] at hm he ⊢
 obtain⟨a,cap,rfl,hc⟩:=df_form hn hv
 have HD:=Lib.hid hc
 have HN:=Lib.hid hn
 have HE:=Lib.hid he
 have HK:=Lib.hid hK
 have HQ:=Lib.hid hQ
 have HO:=Lib.hid ho
 have HF:=Lib.hid hf
 have HI:Hid (w.grownBy w o∧Q 0 w):=Lib.hid ⟨gr_refl w o,h0⟩
 clear hc hn he hK hQ ho hf h0 hv
 go_enter Tryz.func217,Tryz.ntmps217
 go_wp2
 go_loopw [9] (fun i wr=>∃ j:Nat,j≤n∧i=.int .i64 (j:Int)∧Hid (w.grownBy wr o∧Q j wr)∧Hid (feF j (es.drop j)=fe es)) (fun i _=>n-(intOf i).toNat)
 case atStart=>exact⟨0,Nat.zero_le _,rfl,HI,Lib.hid rfl⟩
 case round =>
  obtain⟨j,hj,rfl,hG,hL⟩:=hrel
  by_cases hlt:j<n
  ·have hjl:j<l.length:=by rw [HN.out];exact hlt
   obtain⟨b,o',rfl,hbl,hc⟩:=HD.out (by omega)
   obtain⟨d,hd⟩:∃ d,l[j]=d:=⟨_,rfl⟩
   have hC:=fun i u hu=>gr_cell hG.out.1 HO.out (hc j hjl i u hu)
   have a0:=hC 0 _ rfl
   have a1:=hC 1 _ rfl
   have a2:=hC 2 _ rfl
   have a3:=hC 3 _ rfl
   have hk:=HK.out j hjl
   rw [hd] at a0 a1 a2 a3 hk
   rw [Nat.add_zero] at a0
   clear hC
   have hfc:=gr_cell hG.out.1 HO.out HF.out
   have hkf:kf<wr.heap.size:=World.block_lt_of_cell? wr _ hfc
   have hlt':(j:Int)<(n:Int):=by omega
   obtain⟨ej,hej⟩:∃ ej,es.getD j 0=ej:=⟨_,rfl⟩
   rw [hej] at hk
   obtain⟨hs1,hs2⟩:=fe_step HE.out hlt hL.out
   rw [hej] at hs1 hs2
   have HK2:=Lib.hid (fun W hq=>hk W hq)
   have HS1:=Lib.hid hs1
   have HS2:=Lib.hid hs2
   clear hk hs1 hs2 hej hd hc hL
   by_cases h0:ej=0
   ·subst h0
    go_wp2_with (go_at_fn g;((with_reducible refine (HK2.out _ (HQ.out _ _ _ hG.out.2 (L8.bnew wr _))).mono ?_);rintro e w1 ⟨rfl,g1,q1⟩))
    go_roundw
    case rel=>exact⟨j+1,by omega,by go_num,Lib.hid ⟨gr_tr hG.out.1 (gr_tr (gr_of (L8.bnew wr _) o) g1),q1 (by trivial)⟩,Lib.hid (HS1.out (by trivial))⟩
    case measure=>simp [intOf];omega
   ·go_wp2_with (go_at_fn g;((with_reducible refine (HK2.out _ (HQ.out _ _ _ hG.out.2 (L8.bnew wr _))).mono ?_);rintro e w1 ⟨rfl,g1,q1⟩))
    go_ret2
    unfold EaP
    rw [HS2.out h0]
    exact⟨rfl,gr_tr hG.out.1 (gr_tr (gr_of (L8.bnew wr _) o) g1),fun h=>absurd h h0⟩
  ·obtain rfl:j=n:=by omega
   go_wp2
   go_ret2
   unfold EaP
   rw [fe_end HE.out hL.out]
   exact⟨rfl,hG.out.1,fun _=>hG.out.2⟩
theorem each2 (kb kf:Nat) (vm:Value) (l:List Stm) (es:List Int) (Q:Nat→World→Prop) (w:World) (hv:SmAt w vm l) (hm:l.length≤100000) (he:es.length=l.length)
  (hb:w.cell? ⟨kb,0,none⟩=some vm) (hf:w.cell? ⟨kf,0,none⟩=some (.func (.func g) #[] #[])) (ho:NoC w o) (h0:Q 0 w)
  (hQ:∀ j W W',Q j W→Below W.heap.size W W'→Q j W')
  (hK:∀ j (h:j<l.length) lv W,L8.StAt W lv l[j].labs→Q j W→Calls Tryz.prog g #[.int .i64 (j:Int),.agg (smA lv l[j].x.op l[j].x.reg l[j].x.dst l[j].x.src l[j].x.off l[j].x.imm l[j].tg l[j].mp)] W fun e W'=>e=.returned (.int .i64 (es.getD j 0))∧W.grownBy W' o∧(es.getD j 0=0→Q (j+1) W')) :
  Calls Tryz.prog 220 #[.pointer (some ⟨kb,0,none⟩),.pointer (some ⟨kf,0,none⟩)] w fun e w'=>EaP o l.length es Q w e w':=by
 obtain⟨n,hn⟩:∃ n,l.length=n:=⟨_,rfl⟩
 rw [hn] at hm he ⊢
 obtain⟨a,cap,rfl,hc⟩:=sm_form hn hv
 have HD:=Lib.hid hc
 have HN:=Lib.hid hn
 have HE:=Lib.hid he
 have HK:=Lib.hid hK
 have HQ:=Lib.hid hQ
 have HO:=Lib.hid ho
 have HF:=Lib.hid hf
 have HI:Hid (w.grownBy w o∧Q 0 w):=Lib.hid ⟨gr_refl w o,h0⟩
 clear hc hn he hK hQ ho hf h0 hv
 go_enter Tryz.func220,Tryz.ntmps220
 go_wp2
 go_loopw [9] (fun i wr=>∃ j:Nat,j≤n∧i=.int .i64 (j:Int)∧Hid (w.grownBy wr o∧Q j wr)∧Hid (feF j (es.drop j)=fe es)) (fun i _=>n-(intOf i).toNat)
 case atStart=>exact⟨0,Nat.zero_le _,rfl,HI,Lib.hid rfl⟩
 case round =>
  obtain⟨j,hj,rfl,hG,hL⟩:=hrel
  by_cases hlt:j<n
  ·have hjl:j<l.length:=by rw [HN.out];exact hlt
   obtain⟨b,o',rfl,hbl,hc⟩:=HD.out (by omega)
   obtain⟨d,hd⟩:∃ d,l[j]=d:=⟨_,rfl⟩
   obtain⟨lv,hst,hc2⟩:=hc j hjl
   obtain⟨ln,hln⟩:∃ ln,l[j].labs.length=ln:=⟨_,rfl⟩
   obtain⟨la,lc,rfl,-⟩:=st_form hln hst
   have hC:=fun i u hu=>gr_cell hG.out.1 HO.out (hc2 i u hu)
   have a0:=hC 0 _ rfl
   have a1:=hC 1 _ rfl
   have a2:=hC 2 _ rfl
   have a3:=hC 3 _ rfl
   have a4:=hC 4 _ rfl
   have a5:=hC 5 _ rfl
   have a6:=hC 6 _ rfl
   have a7:=hC 7 _ rfl
   have a8:=hC 8 _ rfl
   have hk:=HK.out j hjl (.slice la ln lc)
   rw [hd] at a1 a2 a3 a4 a5 a6 a7 a8 hk hst
   rw [Nat.add_zero] at a0
   have HST:=Lib.hid (st_gr hst hG.out.1 HO.out)
   clear hC hc2 hst hln
   have hfc:=gr_cell hG.out.1 HO.out HF.out
   have hkf:kf<wr.heap.size:=World.block_lt_of_cell? wr _ hfc
   have hlt':(j:Int)<(n:Int):=by omega
   obtain⟨ej,hej⟩:∃ ej,es.getD j 0=ej:=⟨_,rfl⟩
   rw [hej] at hk
   obtain⟨hs1,hs2⟩:=fe_step HE.out hlt hL.out
   rw [hej] at hs1 hs2
   have HK2:=Lib.hid (fun W hq hs=>hk W hs hq)
   have HS1:=Lib.hid hs1
   have HS2:=Lib.hid hs2
   clear hk hs1 hs2 hej hd hc hL
   by_cases h0:ej=0
   ·subst h0
    go_wp2_with (go_at_fn g;((with_reducible refine (HK2.out _ (HQ.out _ _ _ hG.out.2 (L8.bnew wr _)) (HST.out.below (L8.bnew wr _))).mono ?_);rintro e w1 ⟨rfl,g1,q1⟩))
    go_roundw
    case rel=>exact⟨j+1,by omega,by go_num,Lib.hid ⟨gr_tr hG.out.1 (gr_tr (gr_of (L8.bnew wr _) o) g1),q1 (by trivial)⟩,Lib.hid (HS1.out (by trivial))⟩
    case measure=>simp [intOf];omega
   ·go_wp2_with (go_at_fn g;((with_reducible refine (HK2.out _ (HQ.out _ _ _ hG.out.2 (L8.bnew wr _)) (HST.out.below (L8.bnew wr _))).mono ?_);rintro e w1 ⟨rfl,g1,q1⟩))
    go_ret2
    unfold EaP
    rw [HS2.out h0]
    exact⟨rfl,gr_tr hG.out.1 (gr_tr (gr_of (L8.bnew wr _) o) g1),fun h=>absurd h h0⟩
  ·obtain rfl:j=n:=by omega
   go_wp2
   go_ret2
   unfold EaP
   rw [fe_end HE.out hL.out]
   exact⟨rfl,hG.out.1,fun _=>hG.out.2⟩
theorem each5 (kb kf k4:Nat) (vm:Value) (l:List Stm) (es:List Int) (Q:Nat→World→Prop) (w:World) (hv:SmAt w vm l) (hm:l.length≤100000) (he:es.length=l.length)
  (hb:w.cell? ⟨kb,0,none⟩=some vm) (hf:w.cell? ⟨kf,0,none⟩=some (.func (.func g) #[] #[.pointer (some ⟨k4,0,none⟩)])) (ho:NoC w o) (h0:Q 0 w)
  (hQ:∀ j W W',Q j W→Below W.heap.size W W'→Q j W')
  (hK:∀ j (h:j<l.length) lv W,L8.StAt W lv l[j].labs→Q j W→Calls Tryz.prog g #[.int .i64 (j:Int),.agg (smA lv l[j].x.op l[j].x.reg l[j].x.dst l[j].x.src l[j].x.off l[j].x.imm l[j].tg l[j].mp),.pointer (some ⟨k4,0,none⟩)] W fun e W'=>e=.returned (.int .i64 (es.getD j 0))∧W.grownBy W' o∧(es.getD j 0=0→Q (j+1) W')) :
  Calls Tryz.prog 220 #[.pointer (some ⟨kb,0,none⟩),.pointer (some ⟨kf,0,none⟩)] w fun e w'=>EaP o l.length es Q w e w':=by
 obtain⟨n,hn⟩:∃ n,l.length=n:=⟨_,rfl⟩
 rw [hn] at hm he ⊢
 obtain⟨a,cap,rfl,hc⟩:=sm_form hn hv
 have HD:=Lib.hid hc
 have HN:=Lib.hid hn
 have HE:=Lib.hid he
 have HK:=Lib.hid hK
 have HQ:=Lib.hid hQ
 have HO:=Lib.hid ho
 have HF:=Lib.hid hf
 have HI:Hid (w.grownBy w o∧Q 0 w):=Lib.hid ⟨gr_refl w o,h0⟩
 clear hc hn he hK hQ ho hf h0 hv
 go_enter Tryz.func220,Tryz.ntmps220
 go_wp2
 go_loopw [9] (fun i wr=>∃ j:Nat,j≤n∧i=.int .i64 (j:Int)∧Hid (w.grownBy wr o∧Q j wr)∧Hid (feF j (es.drop j)=fe es)) (fun i _=>n-(intOf i).toNat)
 case atStart=>exact⟨0,Nat.zero_le _,rfl,HI,Lib.hid rfl⟩
 case round =>
  obtain⟨j,hj,rfl,hG,hL⟩:=hrel
  by_cases hlt:j<n
  ·have hjl:j<l.length:=by rw [HN.out];exact hlt
   obtain⟨b,o',rfl,hbl,hc⟩:=HD.out (by omega)
   obtain⟨d,hd⟩:∃ d,l[j]=d:=⟨_,rfl⟩
   obtain⟨lv,hst,hc2⟩:=hc j hjl
   obtain⟨ln,hln⟩:∃ ln,l[j].labs.length=ln:=⟨_,rfl⟩
   obtain⟨la,lc,rfl,-⟩:=st_form hln hst
   have hC:=fun i u hu=>gr_cell hG.out.1 HO.out (hc2 i u hu)
   have a0:=hC 0 _ rfl
   have a1:=hC 1 _ rfl
   have a2:=hC 2 _ rfl
   have a3:=hC 3 _ rfl
   have a4:=hC 4 _ rfl
   have a5:=hC 5 _ rfl
   have a6:=hC 6 _ rfl
   have a7:=hC 7 _ rfl
   have a8:=hC 8 _ rfl
   have hk:=HK.out j hjl (.slice la ln lc)
   rw [hd] at a1 a2 a3 a4 a5 a6 a7 a8 hk hst
   rw [Nat.add_zero] at a0
   have HST:=Lib.hid (st_gr hst hG.out.1 HO.out)
   clear hC hc2 hst hln
   have hfc:=gr_cell hG.out.1 HO.out HF.out
   have hkf:kf<wr.heap.size:=World.block_lt_of_cell? wr _ hfc
   have hlt':(j:Int)<(n:Int):=by omega
   obtain⟨ej,hej⟩:∃ ej,es.getD j 0=ej:=⟨_,rfl⟩
   rw [hej] at hk
   obtain⟨hs1,hs2⟩:=fe_step HE.out hlt hL.out
   rw [hej] at hs1 hs2
   have HK2:=Lib.hid (fun W hq hs=>hk W hs hq)
   have HS1:=Lib.hid hs1
   have HS2:=Lib.hid hs2
   clear hk hs1 hs2 hej hd hc hL
   by_cases h0:ej=0
   ·subst h0
    go_wp2_with (go_at_fn g;((with_reducible refine (HK2.out _ (HQ.out _ _ _ hG.out.2 (L8.bnew wr _)) (HST.out.below (L8.bnew wr _))).mono ?_);rintro e w1 ⟨rfl,g1,q1⟩))
    go_roundw
    case rel=>exact⟨j+1,by omega,by go_num,Lib.hid ⟨gr_tr hG.out.1 (gr_tr (gr_of (L8.bnew wr _) o) g1),q1 (by trivial)⟩,Lib.hid (HS1.out (by trivial))⟩
    case measure=>simp [intOf];omega
   ·go_wp2_with (go_at_fn g;((with_reducible refine (HK2.out _ (HQ.out _ _ _ hG.out.2 (L8.bnew wr _)) (HST.out.below (L8.bnew wr _))).mono ?_);rintro e w1 ⟨rfl,g1,q1⟩))
    go_ret2
    unfold EaP
    rw [HS2.out h0]
    exact⟨rfl,gr_tr hG.out.1 (gr_tr (gr_of (L8.bnew wr _) o) g1),fun h=>absurd h h0⟩
  ·obtain rfl:j=n:=by omega
   go_wp2
   go_ret2
   unfold EaP
   rw [fe_end HE.out hL.out]
   exact⟨rfl,hG.out.1,fun _=>hG.out.2⟩
theorem each7 (kb kf k4 k3:Nat) (vm:Value) (l:List Stm) (es:List Int) (Q:Nat→World→Prop) (w:World) (hv:SmAt w vm l) (hm:l.length≤100000) (he:es.length=l.length)
  (hb:w.cell? ⟨kb,0,none⟩=some vm) (hf:w.cell? ⟨kf,0,none⟩=some (.func (.func g) #[] #[.pointer (some ⟨k4,0,none⟩),.pointer (some ⟨k3,0,none⟩)])) (ho:NoC w o) (h0:Q 0 w)
  (hQ:∀ j W W',Q j W→Below W.heap.size W W'→Q j W')
  (hK:∀ j (h:j<l.length) lv W,L8.StAt W lv l[j].labs→Q j W→Calls Tryz.prog g #[.int .i64 (j:Int),.agg (smA lv l[j].x.op l[j].x.reg l[j].x.dst l[j].x.src l[j].x.off l[j].x.imm l[j].tg l[j].mp),.pointer (some ⟨k4,0,none⟩),.pointer (some ⟨k3,0,none⟩)] W fun e W'=>e=.returned (.int .i64 (es.getD j 0))∧W.grownBy W' o∧(es.getD j 0=0→Q (j+1) W')) :
  Calls Tryz.prog 220 #[.pointer (some ⟨kb,0,none⟩),.pointer (some ⟨kf,0,none⟩)] w fun e w'=>EaP o l.length es Q w e w':=by
 obtain⟨n,hn⟩:∃ n,l.length=n:=⟨_,rfl⟩
 rw [hn] at hm he ⊢
 obtain⟨a,cap,rfl,hc⟩:=sm_form hn hv
 have HD:=Lib.hid hc
 have HN:=Lib.hid hn
 have HE:=Lib.hid he
 have HK:=Lib.hid hK
 have HQ:=Lib.hid hQ
 have HO:=Lib.hid ho
 have HF:=Lib.hid hf
 have HI:Hid (w.grownBy w o∧Q 0 w):=Lib.hid ⟨gr_refl w o,h0⟩
 clear hc hn he hK hQ ho hf h0 hv
 go_enter Tryz.func220,Tryz.ntmps220
 go_wp2
 go_loopw [9] (fun i wr=>∃ j:Nat,j≤n∧i=.int .i64 (j:Int)∧Hid (w.grownBy wr o∧Q j wr)∧Hid (feF j (es.drop j)=fe es)) (fun i _=>n-(intOf i).toNat)
 case atStart=>exact⟨0,Nat.zero_le _,rfl,HI,Lib.hid rfl⟩
 case round =>
  obtain⟨j,hj,rfl,hG,hL⟩:=hrel
  by_cases hlt:j<n
  ·have hjl:j<l.length:=by rw [HN.out];exact hlt
   obtain⟨b,o',rfl,hbl,hc⟩:=HD.out (by omega)
   obtain⟨d,hd⟩:∃ d,l[j]=d:=⟨_,rfl⟩
   obtain⟨lv,hst,hc2⟩:=hc j hjl
   obtain⟨ln,hln⟩:∃ ln,l[j].labs.length=ln:=⟨_,rfl⟩
   obtain⟨la,lc,rfl,-⟩:=st_form hln hst
   have hC:=fun i u hu=>gr_cell hG.out.1 HO.out (hc2 i u hu)
   have a0:=hC 0 _ rfl
   have a1:=hC 1 _ rfl
   have a2:=hC 2 _ rfl
   have a3:=hC 3 _ rfl
   have a4:=hC 4 _ rfl
   have a5:=hC 5 _ rfl
   have a6:=hC 6 _ rfl
   have a7:=hC 7 _ rfl
   have a8:=hC 8 _ rfl
   have hk:=HK.out j hjl (.slice la ln lc)
   rw [hd] at a1 a2 a3 a4 a5 a6 a7 a8 hk hst
   rw [Nat.add_zero] at a0
   have HST:=Lib.hid (st_gr hst hG.out.1 HO.out)
   clear hC hc2 hst hln
   have hfc:=gr_cell hG.out.1 HO.out HF.out
   have hkf:kf<wr.heap.size:=World.block_lt_of_cell? wr _ hfc
   have hlt':(j:Int)<(n:Int):=by omega
   obtain⟨ej,hej⟩:∃ ej,es.getD j 0=ej:=⟨_,rfl⟩
   rw [hej] at hk
   obtain⟨hs1,hs2⟩:=fe_step HE.out hlt hL.out
   rw [hej] at hs1 hs2
   have HK2:=Lib.hid (fun W hq hs=>hk W hs hq)
   have HS1:=Lib.hid hs1
   have HS2:=Lib.hid hs2
   clear hk hs1 hs2 hej hd hc hL
   by_cases h0:ej=0
   ·subst h0
    go_wp2_with (go_at_fn g;((with_reducible refine (HK2.out _ (HQ.out _ _ _ hG.out.2 (L8.bnew wr _)) (HST.out.below (L8.bnew wr _))).mono ?_);rintro e w1 ⟨rfl,g1,q1⟩))
    go_roundw
    case rel=>exact⟨j+1,by omega,by go_num,Lib.hid ⟨gr_tr hG.out.1 (gr_tr (gr_of (L8.bnew wr _) o) g1),q1 (by trivial)⟩,Lib.hid (HS1.out (by trivial))⟩
    case measure=>simp [intOf];omega
   ·go_wp2_with (go_at_fn g;((with_reducible refine (HK2.out _ (HQ.out _ _ _ hG.out.2 (L8.bnew wr _)) (HST.out.below (L8.bnew wr _))).mono ?_);rintro e w1 ⟨rfl,g1,q1⟩))
    go_ret2
    unfold EaP
    rw [HS2.out h0]
    exact⟨rfl,gr_tr hG.out.1 (gr_tr (gr_of (L8.bnew wr _) o) g1),fun h=>absurd h h0⟩
  ·obtain rfl:j=n:=by omega
   go_wp2
   go_ret2
   unfold EaP
   rw [fe_end HE.out hL.out]
   exact⟨rfl,hG.out.1,fun _=>hG.out.2⟩
end
end Go.Proofs.YtdgnjhhieemcaaaGreatDoor.L10
end
section
namespace Go.Proofs.YtdgnjhhieemcaaaGreatDoor.L10
open Go.RowKit Go.Maps
attribute [local go_sem] Oper.semAt_some
theorem set_of {w W:World} {g:Nat} {ks:List ByteArray} (h:SetAt w g ks) (e:W.heap[g]?=w.heap[g]?):SetAt W g ks:=by
 obtain⟨es,n,h1,h2⟩:=h
 exact⟨es,n,e.trans h1,h2⟩
theorem set_lt {w:World} {g:Nat} {ks:List ByteArray} (h:SetAt w g ks):g<w.heap.size:=by
 obtain⟨es,n,h1,h2⟩:=h
 exact (Array.getElem?_eq_some_iff.1 h1).1
theorem set_below {w W:World} {g:Nat} {ks:List ByteArray} (h:SetAt w g ks) (hb:Below w.heap.size w W):SetAt W g ks:=set_of h (hb.block _ (set_lt h))
theorem one_text (W:World) (t:ByteArray) (ty:TypeId) (k:Nat) (hk:k=W.heap.size):L8.StAt (W.alloc (.cells #[.string t] ty)) (.slice (some ⟨k,0,none⟩) 1 1) [t]:=by
 subst hk
 refine .inl ⟨W.heap.size,0,1,rfl,by simp,fun j hj=>?_⟩
 obtain rfl:j=0:=by simpa using hj
 have h:=heap_alloc_last W (.cells #[.string t] ty)
 unfold World.cell?
 rw [h]
 rfl
theorem look_run {w:World} {g:Nat} {ks:List ByteArray} {x:ByteArray} {b:Bool} (h:SetAt w g ks) (hx:x.size≤maxLen) (hb:L2.on ks x=b):(Instr.lookup 256 (.map (some g)) (.string x) false).run Tryz.prog w=.ok (.bool b) w:=by
 have hz:(zeroValue 4).run Tryz.prog w=.ok (.bool false) w:=by kernel_rfl
 obtain⟨v,ps,hrun,hv⟩:=World.ownsMap.lookup h L2.law9 Tryz.underlying256 hz (plainElem_bool Tryz.underlying4 false) (key_of hx)
 rw [Sl_at,hb] at hv
 obtain⟨y,rfl,hy⟩:=L2.bool_inv Tryz.underlying4 hv
 simp only [Prod.mk.injEq,DataW.lit.injEq,Lit.bool.injEq] at hy
 rw [hrun,hy.1]
theorem c1_at (i:Int) (d:L9.Df) (r:Int) (w:World) (hT:L2.Regs w) (h:deE d=r):Calls Tryz.prog 172 #[.int .i64 i,.agg #[.string d.nm,.int .i64 d.key,.int .i64 d.val,.int .i64 d.ent]] w fun e w'=>e=.returned (.int .i64 r)∧Below w.heap.size w w':=by
 have HD:=Lib.hid (fun (W:World) (hb:Below w.heap.size w W)=>checkDef_at d r W (hT.below hb) h)
 clear hT h
 go_enter Tryz.func172,Tryz.ntmps172
 go_wp2_with (go_at_call 173;((with_reducible refine (HD.out _ (L8.bnew w _)).mono ?_);rintro e w1 ⟨rfl,b1⟩))
 go_ret
 exact⟨rfl,L2.bch (L8.bnew _ _) b1⟩
theorem c2_at (i:Int) (lv:Value) (s:Stm) (r:Int) (w:World) (hT:L1.Wid w∧L2.Regs w) (hv:L8.StAt w lv s.labs) (hm:s.labs.length≤100000) (h:stE s=r):Calls Tryz.prog 175 #[.int .i64 i,.agg (smA lv s.x.op s.x.reg s.x.dst s.x.src s.x.off s.x.imm s.tg s.mp)] w fun e w'=>e=.returned (.int .i64 r)∧Below w.heap.size w w':=by
 have HD:=Lib.hid (fun (W:World) (hb:Below w.heap.size w W)=>checkStmt_at lv s.labs s.x.op s.x.reg s.x.dst s.x.src s.x.off s.x.imm s.tg s.mp r W ⟨L4.wid_below hT.1 hb,hT.2.below hb⟩ (hv.below hb) hm h)
 obtain⟨ln,hln⟩:∃ ln,s.labs.length=ln:=⟨_,rfl⟩
 obtain⟨la,lc,rfl,-⟩:=st_form hln hv
 clear hT h hv hm hln
 go_enter Tryz.func175,Tryz.ntmps175
 go_wp2_with (go_at_call 176;((with_reducible refine (HD.out _ (L8.bnew w _)).mono ?_);rintro e w1 ⟨rfl,b1⟩))
 go_ret
 exact⟨rfl,L2.bch (L8.bnew _ _) b1⟩
theorem c3_at (j:Nat) (a b c:Int) (t:ByteArray) (r:Int) (w:World) (h:(if j<255 then 0 else 16)=r):Calls Tryz.prog 177 #[.int .i64 (j:Int),.agg #[.string t,.int .i64 a,.int .i64 b,.int .i64 c]] w fun e w'=>e=.returned (.int .i64 r)∧Below w.heap.size w w':=by
 obtain⟨v,hv⟩:∃ v,decide ((j:Int)<255)=v:=⟨_,rfl⟩
 have HU:=Lib.hid (fun W=>unless_at v 16 r W (by rw [← h,← hv];by_cases hj:j<255 <;> simp [hj] <;> omega))
 clear h
 cases v
 all_goals
  have hv':=hv
  simp only [decide_eq_true_eq,decide_eq_false_iff_not] at hv'
  go_enter Tryz.func177,Tryz.ntmps177
  go_wp2_with (go_at_call 178;((with_reducible refine (HU.out _).mono ?_);rintro e w1 ⟨rfl,rfl⟩))
  go_ret
  exact⟨rfl,L8.bnew _ _⟩
theorem c4_at (i:Int) (a b c:Int) (t:ByteArray) (k3 g:Nat) (ks:List ByteArray) (r:Int) (w:World) (hc:w.cell? ⟨k3,0,none⟩=some (.map (some g))) (hs:SetAt w g ks) (hz:t.size≤maxLen) (hm:ks.length+1≤100000) (h:(if addB ks [t] then 0 else 10)=r) :
  Calls Tryz.prog 179 #[.int .i64 i,.agg #[.string t,.int .i64 a,.int .i64 b,.int .i64 c],.pointer (some ⟨k3,0,none⟩)] w fun e w'=>e=.returned (.int .i64 r)∧w.grownBy w' (some g)∧(r=0→SetAt w' g (ks++[t])):=by
 obtain⟨v,hv⟩:∃ v,addB ks [t]=v:=⟨_,rfl⟩
 rw [hv] at h
 have HA:=Lib.hid (fun (W:World) (hb:Below w.heap.size w W) (v':Value) (hl:L8.StAt W v' [t])=>add_at v' g ks [t] W (by simpa using hm) (set_below hs hb) (fun x hx=>by simp at hx;rw [hx];exact hz) hl v hv)
 have HU:=Lib.hid (fun W=>unless_at v 10 r W h)
 have HR:=Lib.hid h
 have hk:=World.block_lt_of_cell? w _ hc
 clear hv h hs
 go_enter Tryz.func179,Tryz.ntmps179
 go_wp2_with (first|(go_at_call 180;((with_reducible refine (HA.out _ (L2.bch (L8.bnew w _) (L8.bnew _ _)) _ (one_text _ t _ _ (by simp))).mono ?_);rintro e w1 ⟨rfl,g1,s1⟩))|(go_at_call 178;((with_reducible refine (HU.out _).mono ?_);rintro e w2 ⟨rfl,rfl⟩)))
 go_ret
 refine⟨rfl,gr_tr (gr_of (L2.bch (L8.bnew w _) (L8.bnew _ _)) _) g1,fun h0=>s1 ?_⟩
 cases v
 ·have:=HR.out;simp at this;omega
 ·rfl
theorem c5_at (i:Int) (lv:Value) (s:Stm) (k4 g:Nat) (ks:List ByteArray) (r:Int) (w:World) (hc:w.cell? ⟨k4,0,none⟩=some (.map (some g))) (hs:SetAt w g ks) (hz:∀ t∈s.labs,t.size≤maxLen) (hm:ks.length+s.labs.length≤100000) (hl:L8.StAt w lv s.labs) (h:(if addB ks s.labs then 0 else 10)=r) :
  Calls Tryz.prog 181 #[.int .i64 i,.agg (smA lv s.x.op s.x.reg s.x.dst s.x.src s.x.off s.x.imm s.tg s.mp),.pointer (some ⟨k4,0,none⟩)] w fun e w'=>e=.returned (.int .i64 r)∧w.grownBy w' (some g)∧(r=0→SetAt w' g (ks++s.labs)):=by
 obtain⟨v,hv⟩:∃ v,addB ks s.labs=v:=⟨_,rfl⟩
 rw [hv] at h
 have HA:=Lib.hid (fun (W:World) (hb:Below w.heap.size w W)=>add_at lv g ks s.labs W hm (set_below hs hb) hz (hl.below hb) v hv)
 have HU:=Lib.hid (fun W=>unless_at v 10 r W h)
 have HR:=Lib.hid h
 have hk:=World.block_lt_of_cell? w _ hc
 obtain⟨ln,hln⟩:∃ ln,s.labs.length=ln:=⟨_,rfl⟩
 obtain⟨la,lc,rfl,-⟩:=st_form hln hl
 clear hv h hs hl hln hm hz
 go_enter Tryz.func181,Tryz.ntmps181
 go_wp2_with (first|(go_at_call 180;((with_reducible refine (HA.out _ (L8.bnew w _)).mono ?_);rintro e w1 ⟨rfl,g1,s1⟩))|(go_at_call 178;((with_reducible refine (HU.out _).mono ?_);rintro e w2 ⟨rfl,rfl⟩)))
 go_ret
 refine⟨rfl,gr_tr (gr_of (L8.bnew w _) _) g1,fun h0=>s1 ?_⟩
 cases v
 ·have:=HR.out;simp at this;omega
 ·rfl
theorem c6_at (k1 n cap:Nat) (a:Option Addr) (r:Int) (w:World) (hc:w.cell? ⟨k1,1,none⟩=some (.slice a n cap)) (h:(if 0<n then 0 else 15)=r) :
  Calls Tryz.prog 182 #[.pointer (some ⟨k1,0,none⟩)] w fun e w'=>e=.returned (.tuple #[.int .i64 0,.int .i64 r])∧w=w':=by
 obtain⟨v,hv⟩:∃ v,decide (0<n)=v:=⟨_,rfl⟩
 have HU:=Lib.hid (fun W=>unless_at v 15 r W (by rw [← h,← hv];by_cases hj:0<n <;> simp [hj] <;> omega))
 clear h
 cases v
 all_goals
  simp only [decide_eq_true_eq,decide_eq_false_iff_not] at hv
  have hv1:(0:Int)<(n:Int)↔0<n:=by omega
  go_enter Tryz.func182,Tryz.ntmps182
  go_wp2_with (go_at_call 178;((with_reducible refine (HU.out _).mono ?_);rintro e w1 ⟨rfl,rfl⟩))
  go_ret2
  exact⟨rfl,rfl⟩
theorem c7_at (i:Int) (la:Option Addr) (ln lc:Nat) (s:Stm) (k4 k3 g4 g3:Nat) (ls ms:List ByteArray) (r:Int) (w:World) (hc4:w.cell? ⟨k4,0,none⟩=some (.map (some g4))) (hc3:w.cell? ⟨k3,0,none⟩=some (.map (some g3))) (hs4:SetAt w g4 ls) (hs3:SetAt w g3 ms) (hz:s.tg.size≤maxLen∧s.mp.size≤maxLen)
  (h:(if (s.tg.toList.isEmpty || L2.on ls s.tg) && (s.mp.toList.isEmpty || L2.on ms s.mp) then 0 else 11)=r) :
  Calls Tryz.prog 183 #[.int .i64 i,.agg (smA (.slice la ln lc) s.x.op s.x.reg s.x.dst s.x.src s.x.off s.x.imm s.tg s.mp),.pointer (some ⟨k4,0,none⟩),.pointer (some ⟨k3,0,none⟩)] w fun e w'=>e=.returned (.int .i64 r)∧Below w.heap.size w w':=by
 obtain⟨labs,x,tg,mp⟩:=s
 simp only at hz h ⊢
 obtain⟨bt,hbt⟩:∃ v,L2.on ls tg=v:=⟨_,rfl⟩
 obtain⟨bm,hbm⟩:∃ v,L2.on ms mp=v:=⟨_,rfl⟩
 rw [hbt,hbm] at h
 have hl4:=look_run (set_below hs4 (L8.bnew w (.cells (smA (.slice la ln lc) x.op x.reg x.dst x.src x.off x.imm tg mp) 65))) hz.1 hbt
 have hl3:=look_run (set_below hs3 (L8.bnew w (.cells (smA (.slice la ln lc) x.op x.reg x.dst x.src x.off x.imm tg mp) 65))) hz.2 hbm
 have hk4:=World.block_lt_of_cell? w _ hc4
 have hk3:=World.block_lt_of_cell? w _ hc3
 have HR:=Lib.hid h
 clear hbt hbm hs4 hs3 h hz
 cases hte:tg.toList.isEmpty <;> cases bt <;> cases hme:mp.toList.isEmpty <;> cases bm
 all_goals
  rw [hte,hme] at HR
  have hR:=HR.out
  simp at hR
  subst hR
  clear HR
  go_enter Tryz.func183,Tryz.ntmps183
  go_wp2
  go_ret
  exact⟨rfl,L8.bnew _ _⟩
theorem c8_at (i:Int) (la:Option Addr) (ln lc:Nat) (s:Stm) (r:Int) (w:World) (h:wrE s=r) :
  Calls Tryz.prog 184 #[.int .i64 i,.agg (smA (.slice la ln lc) s.x.op s.x.reg s.x.dst s.x.src s.x.off s.x.imm s.tg s.mp)] w fun e w'=>e=.returned (.int .i64 r)∧Below w.heap.size w w':=by
 obtain⟨v,hv⟩:∃ v,L4.wri (fmI s.x) s.x.dst=v:=⟨_,rfl⟩
 have HW:=Lib.hid (fun W=>L4.writes_at s.x.op s.x.reg s.x.dst s.x.src s.x.off s.x.imm _ v W rfl hv)
 unfold wrE at h
 rw [hv] at h
 clear hv
 by_cases h10:v=10
 ·subst h10
  have HU:=Lib.hid (fun W=>unless_at false 14 r W (by rw [← h];rfl))
  clear h
  go_enter Tryz.func184,Tryz.ntmps184
  go_wp2_with (go_at_call 144;((with_reducible refine (HW.out _).mono ?_);rintro e w1 ⟨rfl,b1⟩))
  refine Calls.mono (HU.out _) ?_
  rintro e w2 ⟨rfl,rfl⟩
  go_wp2
  go_ret
  exact⟨rfl,L2.bch (L8.bnew _ _) b1⟩
 ·have HU:=Lib.hid (fun W=>unless_at (v != 10) 14 r W (by rw [← h,if_neg h10];simp [h10]))
  clear h
  go_enter Tryz.func184,Tryz.ntmps184
  go_wp2_with (go_at_call 144;((with_reducible refine (HW.out _).mono ?_);rintro e w1 ⟨rfl,b1⟩))
  refine Calls.mono (HU.out _) ?_
  rintro e w2 ⟨rfl,rfl⟩
  go_wp2
  go_ret
  exact⟨rfl,L2.bch (L8.bnew _ _) b1⟩
theorem c9_at (j:Nat) (la:Option Addr) (ln lc:Nat) (s:Stm) (k1 n cap:Nat) (a:Option Addr) (r:Int) (w:World) (hc:w.cell? ⟨k1,1,none⟩=some (.slice a n cap)) (hn:n≤100000) (h:enE n j s=r) :
  Calls Tryz.prog 185 #[.int .i64 (j:Int),.agg (smA (.slice la ln lc) s.x.op s.x.reg s.x.dst s.x.src s.x.off s.x.imm s.tg s.mp),.pointer (some ⟨k1,0,none⟩)] w fun e w'=>e=.returned (.int .i64 r)∧Below w.heap.size w w':=by
 unfold enE at h
 obtain⟨v,hv⟩:∃ v,L4.endF (fmI s.x)=v:=⟨_,rfl⟩
 rw [hv] at h
 have HE:=Lib.hid (fun W=>L4.ends_at s.x.op s.x.reg s.x.dst s.x.src s.x.off s.x.imm _ v W rfl hv)
 have hk:=World.block_lt_of_cell? w _ hc
 have hw:IntKind.i64.wrap ((n:Int)-1)=(n:Int)-1:=IntWalk.i64_in _ (by omega)
 clear hv
 by_cases hj:(j:Int)<(n:Int)-1
 ·obtain rfl:0=r:=by rw [← h];simp [hj]
  clear h
  go_enter Tryz.func185,Tryz.ntmps185
  go_wp2
  go_ret
  exact⟨rfl,L8.bnew _ _⟩
 ·have HU:=Lib.hid (fun W=>unless_at v 15 r W (by rw [← h];simp [hj]))
  clear h
  go_enter Tryz.func185,Tryz.ntmps185
  go_wp2_with (go_at_call 146;((with_reducible refine (HE.out _).mono ?_);rintro e w1 ⟨rfl,b1⟩))
  refine Calls.mono (HU.out _) ?_
  rintro e w2 ⟨rfl,rfl⟩
  go_wp2
  go_ret
  exact⟨rfl,L2.bch (L8.bnew _ _) b1⟩
end Go.Proofs.YtdgnjhhieemcaaaGreatDoor.L10
end
