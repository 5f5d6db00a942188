/- Lemmas and walks of L10Con, L10Fb: what each theorem states; conditions stand in each theorem. -/
import Derived.Test.YtdgnjhhieemcaaaGreatDoorM10
set_option maxHeartbeats 4000000
set_option maxRecDepth 100000
section
namespace Go.Proofs.YtdgnjhhieemcaaaGreatDoor.L10
open Go.RowKit Go.Maps
attribute [local go_sem] Oper.semAt_some
theorem eachD_mk (a:Option Addr) (n cap F:Nat) (caps:Array Value) (w:World):Calls Tryz.prog 171 #[.slice a n cap,.func (.func F) #[] caps] w fun e w' =>
  ∃ kb kf,e=.returned (.func (.func 217) #[] #[.pointer (some ⟨kb,0,none⟩),.pointer (some ⟨kf,0,none⟩)])∧Below w.heap.size w w'∧w'.heap[kb]?=some (.cells #[.slice a n cap] 22)∧w'.heap[kf]?=some (.cells #[.func (.func F) #[] caps] 259):=by
 have hmf:∀ (fn:Fn) (first cap:Array Value) (w:World),(Instr.makeFunc fn first cap).run Tryz.prog w=.ok (.func fn first cap) w:=fun _ _ _ _=>rfl
 go_enter Tryz.func171,Tryz.ntmps171
 go_wp2
 go_ret
 exact⟨_,_,rfl,L2.bch (L8.bnew _ _) (L8.bnew _ _),L8.row_up (heap_alloc_last w _) (L8.bnew _ _),by have:=heap_alloc_last (w.alloc (.cells #[.slice a n cap] 22)) (.cells #[.func (.func F) #[] caps] 259);simpa using this⟩
theorem eachS_mk (a:Option Addr) (n cap F:Nat) (caps:Array Value) (w:World):Calls Tryz.prog 174 #[.slice a n cap,.func (.func F) #[] caps] w fun e w' =>
  ∃ kb kf,e=.returned (.func (.func 220) #[] #[.pointer (some ⟨kb,0,none⟩),.pointer (some ⟨kf,0,none⟩)])∧Below w.heap.size w w'∧w'.heap[kb]?=some (.cells #[.slice a n cap] 56)∧w'.heap[kf]?=some (.cells #[.func (.func F) #[] caps] 262):=by
 have hmf:∀ (fn:Fn) (first cap:Array Value) (w:World),(Instr.makeFunc fn first cap).run Tryz.prog w=.ok (.func fn first cap) w:=fun _ _ _ _=>rfl
 go_enter Tryz.func174,Tryz.ntmps174
 go_wp2
 go_ret
 exact⟨_,_,rfl,L2.bch (L8.bnew _ _) (L8.bnew _ _),L8.row_up (heap_alloc_last w _) (L8.bnew _ _),by have:=heap_alloc_last (w.alloc (.cells #[.slice a n cap] 56)) (.cells #[.func (.func F) #[] caps] 262);simpa using this⟩
def Acc (W:World) (l:List (Nat × Value × TypeId)):Prop:=∀ x∈l,W.heap[x.1]?=some (.cells #[x.2.1] x.2.2)
theorem acc_nil (W:World):Acc W []:=fun x hx=>by cases hx
theorem Acc.below {W W':World} {l:List (Nat × Value × TypeId)} (h:Acc W l) (hb:Below W.heap.size W W'):Acc W' l:=fun x hx=>L8.row_up (h x hx) hb
theorem acc_add {W W':World} {l:List (Nat × Value × TypeId)} {b f:Nat} {u v:Value} {s t:TypeId} (h:Acc W l) (hb:Below W.heap.size W W') (h1:W'.heap[b]?=some (.cells #[u] s)) (h2:W'.heap[f]?=some (.cells #[v] t)):Acc W' (l++[(b,u,s),(f,v,t)]):=fun x hx=>by
 rcases List.mem_append.1 hx with hx|hx
 ·exact h.below hb x hx
 ·simp only [List.mem_cons,List.not_mem_nil,or_false] at hx
  rcases hx with rfl|rfl
  ·exact h1
  ·exact h2
theorem cells2 {w:World} {k:Nat} {a b:Value} {t:TypeId} (h:w.heap[k]?=some (.cells #[a,b] t)):w.cell? ⟨k,0,none⟩=some a∧w.cell? ⟨k,1,none⟩=some b:=by
 simp [World.cell?,h]
theorem made_set (w:World):SetAt (w.alloc (.map #[] 0)) w.heap.size []:=World.ownsMap_made _ _ _ _
theorem acc_at {W:World} {l:List (Nat × Value × TypeId)} (h:Acc W l) (i:Nat) {b:Nat} {v:Value} {t:TypeId} (hx:l[i]?=some (b,v,t)):W.heap[b]?=some (.cells #[v] t):=h _ (List.mem_of_getElem? hx)
def ClD (W:World) (v vm:Value) (F:Nat) (caps:Array Value):Prop:=∃ kb kf,v=.func (.func 217) #[] #[.pointer (some ⟨kb,0,none⟩),.pointer (some ⟨kf,0,none⟩)]∧W.heap[kb]?=some (.cells #[vm] 22)∧W.heap[kf]?=some (.cells #[.func (.func F) #[] caps] 259)
def ClS (W:World) (v vs:Value) (F:Nat) (caps:Array Value):Prop:=∃ kb kf,v=.func (.func 220) #[] #[.pointer (some ⟨kb,0,none⟩),.pointer (some ⟨kf,0,none⟩)]∧W.heap[kb]?=some (.cells #[vs] 56)∧W.heap[kf]?=some (.cells #[.func (.func F) #[] caps] 262)
structure CnS (W:World) (vm vs:Value) (g k1 k3 k4 g3 g4:Nat) (v1 v2 v3 v4 v5 v7 v8 v9:Value):Prop where
 list:W.heap[g]?=some (.cells #[.bool true,v1,.bool false,v2,.bool true,v3,.bool true,v4,.bool false,v5,.bool false,.func (.func 182) #[] #[.pointer (some ⟨k1,0,none⟩)],.bool false,v7,.bool false,v8,.bool false,v9] 194)
 prg:W.heap[k1]?=some (.cells #[vm,vs] 58)
 box3:W.heap[k3]?=some (.cells #[.map (some g3)] 256)
 box4:W.heap[k4]?=some (.cells #[.map (some g4)] 256)
 set3:SetAt W g3 []
 set4:SetAt W g4 []
 ne:g3≠g4
 c1:ClD W v1 vm 172 #[]
 c2:ClS W v2 vs 175 #[]
 c3:ClD W v3 vm 177 #[]
 c4:ClD W v4 vm 179 #[.pointer (some ⟨k3,0,none⟩)]
 c5:ClS W v5 vs 181 #[.pointer (some ⟨k4,0,none⟩)]
 c7:ClS W v7 vs 183 #[.pointer (some ⟨k4,0,none⟩),.pointer (some ⟨k3,0,none⟩)]
 c8:ClS W v8 vs 184 #[]
 c9:ClS W v9 vs 185 #[.pointer (some ⟨k1,0,none⟩)]
theorem five (w:World) (vm vs:Value):∃ (W0:World) (k1 g3 g4 k3 k4:Nat),W0=(((((w.alloc (.cells #[vm,vs] 58)).alloc (.map #[] 0)).alloc (.map #[] 0)).alloc (.cells #[.map (some (w.heap.size+1))] 256)).alloc (.cells #[.map (some (w.heap.size+1+1))] 256))∧k1=w.heap.size∧g3=w.heap.size+1∧g4=w.heap.size+1+1∧k3=w.heap.size+1+1+1∧k4=w.heap.size+1+1+1+1 ∧
  Below w.heap.size w W0∧W0.heap[k1]?=some (.cells #[vm,vs] 58)∧W0.heap[k3]?=some (.cells #[.map (some g3)] 256)∧W0.heap[k4]?=some (.cells #[.map (some g4)] 256)∧SetAt W0 g3 []∧SetAt W0 g4 []∧g3≠g4∧w.heap.size≤g3∧w.heap.size≤g4:=by
 refine⟨_,_,_,_,_,_,rfl,rfl,rfl,rfl,rfl,rfl,L2.bch (L2.bch (L2.bch (L2.bch (L8.bnew w _) (L8.bnew _ _)) (L8.bnew _ _)) (L8.bnew _ _)) (L8.bnew _ _),?_,?_,?_,?_,?_,by omega,by omega,by omega⟩
 ·exact L8.row_up (L8.row_up (L8.row_up (L8.row_up (heap_alloc_last w _) (L8.bnew _ _)) (L8.bnew _ _)) (L8.bnew _ _)) (L8.bnew _ _)
 ·have:=heap_alloc_last (((w.alloc (.cells #[vm,vs] 58)).alloc (.map #[] 0)).alloc (.map #[] 0)) (.cells #[.map (some (w.heap.size+1))] 256)
  have h:=L8.row_up this (L8.bnew _ (.cells #[.map (some (w.heap.size+1+1))] 256))
  simpa using h
 ·have:=heap_alloc_last ((((w.alloc (.cells #[vm,vs] 58)).alloc (.map #[] 0)).alloc (.map #[] 0)).alloc (.cells #[.map (some (w.heap.size+1))] 256)) (.cells #[.map (some (w.heap.size+1+1))] 256)
  simpa using this
 ·have h:=made_set (w.alloc (.cells #[vm,vs] 58))
  have:=set_below (set_below (set_below h (L8.bnew _ (.map #[] 0))) (L8.bnew _ (.cells #[.map (some (w.heap.size+1))] 256))) (L8.bnew _ (.cells #[.map (some (w.heap.size+1+1))] 256))
  rwa [show (w.alloc (.cells #[vm,vs] 58)).heap.size=w.heap.size+1 by simp] at this
 ·have h:=made_set ((w.alloc (.cells #[vm,vs] 58)).alloc (.map #[] 0))
  have:=set_below (set_below h (L8.bnew _ (.cells #[.map (some (w.heap.size+1))] 256))) (L8.bnew _ (.cells #[.map (some (w.heap.size+1+1))] 256))
  rwa [show ((w.alloc (.cells #[vm,vs] 58)).alloc (.map #[] 0)).heap.size=w.heap.size+1+1 by simp] at this
theorem keepP {W0 W W':World} {k1:Nat} {a b:Value} (hb:Below W.heap.size W W') (h:Below W0.heap.size W0 W∧W0.heap[k1]?=some (.cells #[a,b] 58)):Below W0.heap.size W0 W'∧W'.cell? ⟨k1,0,none⟩=some a∧W'.cell? ⟨k1,1,none⟩=some b :=
 ⟨L2.bch h.1 hb,cells2 (L8.row_up h.2 (L2.bch h.1 hb))⟩
theorem conds_at (am at2:Option Addr) (nm cm ns cs:Nat) (w:World) :
  Calls Tryz.prog 126 #[.agg #[.slice am nm cm,.slice at2 ns cs]] w fun e w'=>∃ g k1 k3 k4 g3 g4 v1 v2 v3 v4 v5 v7 v8 v9,e=.returned (.slice (some ⟨g,0,none⟩) 9 9)∧Below w.heap.size w w'∧CnS w' (.slice am nm cm) (.slice at2 ns cs) g k1 k3 k4 g3 g4 v1 v2 v3 v4 v5 v7 v8 v9∧w.heap.size≤g3∧w.heap.size≤g4:=by
 have hmf:∀ (fn:Fn) (first cap:Array Value) (w:World),(Instr.makeFunc fn first cap).run Tryz.prog w=.ok (.func fn first cap) w:=fun _ _ _ _=>rfl
 have hmm:=@run_makeMap Tryz.prog
 go_enter Tryz.func126,Tryz.ntmps126
 go_upto_region 2 with (fail)
 clear hmm
 obtain⟨W0,k1,g3,g4,k3,k4,hW,e1,e3,e4,f3,f4,hB0,r1,r3,r4,s3,s4,hne,lo3,lo4⟩:=five w (.slice am nm cm) (.slice at2 ns cs)
 rw [← hW]
 rw [← f4,← f3,← e4,← e3,← e1]
 have HB:=Lib.hid hB0
 have HL:=Lib.hid (And.intro lo3 lo4)
 clear hW e1 e3 e4 f3 f4 hB0 lo3 lo4
 obtain⟨p0,p1⟩:=cells2 r1
 have R:=Lib.hid (And.intro r1 (And.intro r3 (And.intro r4 (And.intro s3 (And.intro s4 hne)))))
 clear r1 r3 r4 s3 s4 hne
 refine wp_region_noPanic ?_
 refine wp_region_held_drew (S:=fun W=>Below W0.heap.size W0 W∧W.cell? ⟨k1,0,none⟩=some (.slice am nm cm)∧W.cell? ⟨k1,1,none⟩=some (.slice at2 ns cs)) (by kernel_rfl) (keepP (Below.refl _ _).drew ⟨Below.refl _ _,R.out.1⟩) (fun hH=>?_)
 refine zT1 0 7 (.fieldAddr 58 (.tmp 1) 0) (.pointer (some ⟨k1,0,none⟩)) rfl (fun wS hS=>by have d0:=hS.2.1;have d1:=hS.2.2;go_simp) hH ?_
 simp only [zz]
 refine zT1 1 8 (.load 22 (.tmp 7)) (.slice am nm cm) rfl (fun wS hS=>by have d0:=hS.2.1;have d1:=hS.2.2;go_simp) hH ?_
 simp only [zz]
 refine zT1 4 11 (.fieldAddr 58 (.tmp 1) 1) (.pointer (some ⟨k1,1,none⟩)) rfl (fun wS hS=>by have d0:=hS.2.1;have d1:=hS.2.2;go_simp) hH ?_
 simp only [zz]
 refine zT1 5 12 (.load 56 (.tmp 11)) (.slice at2 ns cs) rfl (fun wS hS=>by have d0:=hS.2.1;have d1:=hS.2.2;go_simp) hH ?_
 simp only [zz]
 refine zT1 8 15 (.fieldAddr 58 (.tmp 1) 0) (.pointer (some ⟨k1,0,none⟩)) rfl (fun wS hS=>by have d0:=hS.2.1;have d1:=hS.2.2;go_simp) hH ?_
 simp only [zz]
 refine zT1 9 16 (.load 22 (.tmp 15)) (.slice am nm cm) rfl (fun wS hS=>by have d0:=hS.2.1;have d1:=hS.2.2;go_simp) hH ?_
 simp only [zz]
 refine zT1 12 19 (.fieldAddr 58 (.tmp 1) 0) (.pointer (some ⟨k1,0,none⟩)) rfl (fun wS hS=>by have d0:=hS.2.1;have d1:=hS.2.2;go_simp) hH ?_
 simp only [zz]
 refine zT1 13 20 (.load 22 (.tmp 19)) (.slice am nm cm) rfl (fun wS hS=>by have d0:=hS.2.1;have d1:=hS.2.2;go_simp) hH ?_
 simp only [zz]
 refine zT1 17 24 (.fieldAddr 58 (.tmp 1) 1) (.pointer (some ⟨k1,1,none⟩)) rfl (fun wS hS=>by have d0:=hS.2.1;have d1:=hS.2.2;go_simp) hH ?_
 simp only [zz]
 refine zT1 18 25 (.load 56 (.tmp 24)) (.slice at2 ns cs) rfl (fun wS hS=>by have d0:=hS.2.1;have d1:=hS.2.2;go_simp) hH ?_
 simp only [zz]
 refine zT1 24 31 (.fieldAddr 58 (.tmp 1) 1) (.pointer (some ⟨k1,1,none⟩)) rfl (fun wS hS=>by have d0:=hS.2.1;have d1:=hS.2.2;go_simp) hH ?_
 simp only [zz]
 refine zT1 25 32 (.load 56 (.tmp 31)) (.slice at2 ns cs) rfl (fun wS hS=>by have d0:=hS.2.1;have d1:=hS.2.2;go_simp) hH ?_
 simp only [zz]
 refine zT1 29 36 (.fieldAddr 58 (.tmp 1) 1) (.pointer (some ⟨k1,1,none⟩)) rfl (fun wS hS=>by have d0:=hS.2.1;have d1:=hS.2.2;go_simp) hH ?_
 simp only [zz]
 refine zT1 30 37 (.load 56 (.tmp 36)) (.slice at2 ns cs) rfl (fun wS hS=>by have d0:=hS.2.1;have d1:=hS.2.2;go_simp) hH ?_
 simp only [zz]
 refine zT1 33 40 (.fieldAddr 58 (.tmp 1) 1) (.pointer (some ⟨k1,1,none⟩)) rfl (fun wS hS=>by have d0:=hS.2.1;have d1:=hS.2.2;go_simp) hH ?_
 simp only [zz]
 refine zT1 34 41 (.load 56 (.tmp 40)) (.slice at2 ns cs) rfl (fun wS hS=>by have d0:=hS.2.1;have d1:=hS.2.2;go_simp) hH ?_
 simp only [zz]
 refine zT1 14 21 (.makeFunc (Fn.func 179) #[] #[.tmp 3]) (.func (.func 179) #[] #[.pointer (some ⟨k3,0,none⟩)]) rfl (fun wS hS=>by have d0:=hS.2.1;have d1:=hS.2.2;go_simp) hH ?_
 simp only [zz]
 refine zT1 19 26 (.makeFunc (Fn.func 181) #[] #[.tmp 4]) (.func (.func 181) #[] #[.pointer (some ⟨k4,0,none⟩)]) rfl (fun wS hS=>by have d0:=hS.2.1;have d1:=hS.2.2;go_simp) hH ?_
 simp only [zz]
 refine zT1 22 29 (.makeFunc (Fn.func 182) #[] #[.tmp 1]) (.func (.func 182) #[] #[.pointer (some ⟨k1,0,none⟩)]) rfl (fun wS hS=>by have d0:=hS.2.1;have d1:=hS.2.2;go_simp) hH ?_
 simp only [zz]
 refine zT1 26 33 (.makeFunc (Fn.func 183) #[] #[.tmp 4,.tmp 3]) (.func (.func 183) #[] #[.pointer (some ⟨k4,0,none⟩),.pointer (some ⟨k3,0,none⟩)]) rfl (fun wS hS=>by have d0:=hS.2.1;have d1:=hS.2.2;go_simp) hH ?_
 simp only [zz]
 refine zT1 35 42 (.makeFunc (Fn.func 185) #[] #[.tmp 1]) (.func (.func 185) #[] #[.pointer (some ⟨k1,0,none⟩)]) rfl (fun wS hS=>by have d0:=hS.2.1;have d1:=hS.2.2;go_simp) hH ?_
 simp only [zz]
 refine zT1 23 30 (.build 194 #[(0,.const (.bool false)),(1,.tmp 29)]) (.agg #[.bool false,.func (.func 182) #[] #[.pointer (some ⟨k1,0,none⟩)]]) rfl (fun wS hS=>by have d0:=hS.2.1;have d1:=hS.2.2;go_simp) hH ?_
 simp only [zz]
 refine wpAnyH_ready (rs:=[2]) (by kernel_rfl) (by simp) ?_
 refine AllReadyH.cons (o:=⟨some 9,.call { callee:=.value (.func 171),args:=#[.tmp 8,.func 172],argTypes:=#[22,259] },_,_,_,none⟩) rfl (fun K hK=>?_) AllReadyH.nil
 go_simp
 refine (eachD_mk am nm cm 172 #[] _).mono ?_
 rintro e w9 ⟨b1,f1,rfl,hb9,q1,q2⟩
 refine hK.out _ _ (keepP hb9 ⟨hH.1,R.out.1⟩) (fun hH2=>?_)
 clear hK K
 have A2:=acc_add (acc_nil _) hb9 q1 q2
 clear q1 q2 hb9 hH
 have hH:=hH2
 have A:=A2
 clear hH2 A2
 (try simp only [zz])
 refine zT1 3 10 (.build 194 #[(0,.const (.bool true)),(1,.tmp 9)]) (.agg #[.bool true,.func (.func 217) #[] #[.pointer (some ⟨b1,0,none⟩),.pointer (some ⟨f1,0,none⟩)]]) rfl (fun wS hS=>by have d0:=hS.2.1;have d1:=hS.2.2;go_simp) hH ?_
 simp only [zz]
 refine wpAnyH_ready (rs:=[6]) (by kernel_rfl) (by simp) ?_
 refine AllReadyH.cons (o:=⟨some 13,.call { callee:=.value (.func 174),args:=#[.tmp 12,.func 175],argTypes:=#[56,262] },_,_,_,none⟩) rfl (fun K hK=>?_) AllReadyH.nil
 go_simp
 refine (eachS_mk at2 ns cs 175 #[] _).mono ?_
 rintro e w9 ⟨b2,f2,rfl,hb9,q1,q2⟩
 refine hK.out _ _ (keepP hb9 ⟨hH.1,R.out.1⟩) (fun hH2=>?_)
 clear hK K
 have A2:=acc_add (A) hb9 q1 q2
 clear q1 q2 hb9 hH A
 have hH:=hH2
 have A:=A2
 clear hH2 A2
 (try simp only [zz])
 refine zT1 7 14 (.build 194 #[(0,.const (.bool false)),(1,.tmp 13)]) (.agg #[.bool false,.func (.func 220) #[] #[.pointer (some ⟨b2,0,none⟩),.pointer (some ⟨f2,0,none⟩)]]) rfl (fun wS hS=>by have d0:=hS.2.1;have d1:=hS.2.2;go_simp) hH ?_
 simp only [zz]
 refine wpAnyH_ready (rs:=[10]) (by kernel_rfl) (by simp) ?_
 refine AllReadyH.cons (o:=⟨some 17,.call { callee:=.value (.func 171),args:=#[.tmp 16,.func 177],argTypes:=#[22,259] },_,_,_,none⟩) rfl (fun K hK=>?_) AllReadyH.nil
 go_simp
 refine (eachD_mk am nm cm 177 #[] _).mono ?_
 rintro e w9 ⟨b3,f3,rfl,hb9,q1,q2⟩
 refine hK.out _ _ (keepP hb9 ⟨hH.1,R.out.1⟩) (fun hH2=>?_)
 clear hK K
 have A2:=acc_add (A) hb9 q1 q2
 clear q1 q2 hb9 hH A
 have hH:=hH2
 have A:=A2
 clear hH2 A2
 (try simp only [zz])
 refine zT1 11 18 (.build 194 #[(0,.const (.bool true)),(1,.tmp 17)]) (.agg #[.bool true,.func (.func 217) #[] #[.pointer (some ⟨b3,0,none⟩),.pointer (some ⟨f3,0,none⟩)]]) rfl (fun wS hS=>by have d0:=hS.2.1;have d1:=hS.2.2;go_simp) hH ?_
 simp only [zz]
 refine wpAnyH_ready (rs:=[15]) (by kernel_rfl) (by simp) ?_
 refine AllReadyH.cons (o:=⟨some 22,.call { callee:=.value (.func 171),args:=#[.tmp 20,.tmp 21],argTypes:=#[22,259] },_,_,_,none⟩) rfl (fun K hK=>?_) AllReadyH.nil
 go_simp
 refine (eachD_mk am nm cm 179 #[.pointer (some ⟨k3,0,none⟩)] _).mono ?_
 rintro e w9 ⟨b4,f4,rfl,hb9,q1,q2⟩
 refine hK.out _ _ (keepP hb9 ⟨hH.1,R.out.1⟩) (fun hH2=>?_)
 clear hK K
 have A2:=acc_add (A) hb9 q1 q2
 clear q1 q2 hb9 hH A
 have hH:=hH2
 have A:=A2
 clear hH2 A2
 (try simp only [zz])
 refine zT1 16 23 (.build 194 #[(0,.const (.bool true)),(1,.tmp 22)]) (.agg #[.bool true,.func (.func 217) #[] #[.pointer (some ⟨b4,0,none⟩),.pointer (some ⟨f4,0,none⟩)]]) rfl (fun wS hS=>by have d0:=hS.2.1;have d1:=hS.2.2;go_simp) hH ?_
 simp only [zz]
 refine wpAnyH_ready (rs:=[20]) (by kernel_rfl) (by simp) ?_
 refine AllReadyH.cons (o:=⟨some 27,.call { callee:=.value (.func 174),args:=#[.tmp 25,.tmp 26],argTypes:=#[56,262] },_,_,_,none⟩) rfl (fun K hK=>?_) AllReadyH.nil
 go_simp
 refine (eachS_mk at2 ns cs 181 #[.pointer (some ⟨k4,0,none⟩)] _).mono ?_
 rintro e w9 ⟨b5,f5,rfl,hb9,q1,q2⟩
 refine hK.out _ _ (keepP hb9 ⟨hH.1,R.out.1⟩) (fun hH2=>?_)
 clear hK K
 have A2:=acc_add (A) hb9 q1 q2
 clear q1 q2 hb9 hH A
 have hH:=hH2
 have A:=A2
 clear hH2 A2
 (try simp only [zz])
 refine zT1 21 28 (.build 194 #[(0,.const (.bool false)),(1,.tmp 27)]) (.agg #[.bool false,.func (.func 220) #[] #[.pointer (some ⟨b5,0,none⟩),.pointer (some ⟨f5,0,none⟩)]]) rfl (fun wS hS=>by have d0:=hS.2.1;have d1:=hS.2.2;go_simp) hH ?_
 simp only [zz]
 refine wpAnyH_ready (rs:=[27]) (by kernel_rfl) (by simp) ?_
 refine AllReadyH.cons (o:=⟨some 34,.call { callee:=.value (.func 174),args:=#[.tmp 32,.tmp 33],argTypes:=#[56,262] },_,_,_,none⟩) rfl (fun K hK=>?_) AllReadyH.nil
 go_simp
 refine (eachS_mk at2 ns cs 183 #[.pointer (some ⟨k4,0,none⟩),.pointer (some ⟨k3,0,none⟩)] _).mono ?_
 rintro e w9 ⟨b7,f7,rfl,hb9,q1,q2⟩
 refine hK.out _ _ (keepP hb9 ⟨hH.1,R.out.1⟩) (fun hH2=>?_)
 clear hK K
 have A2:=acc_add (A) hb9 q1 q2
 clear q1 q2 hb9 hH A
 have hH:=hH2
 have A:=A2
 clear hH2 A2
 (try simp only [zz])
 refine zT1 28 35 (.build 194 #[(0,.const (.bool false)),(1,.tmp 34)]) (.agg #[.bool false,.func (.func 220) #[] #[.pointer (some ⟨b7,0,none⟩),.pointer (some ⟨f7,0,none⟩)]]) rfl (fun wS hS=>by have d0:=hS.2.1;have d1:=hS.2.2;go_simp) hH ?_
 simp only [zz]
 refine wpAnyH_ready (rs:=[31]) (by kernel_rfl) (by simp) ?_
 refine AllReadyH.cons (o:=⟨some 38,.call { callee:=.value (.func 174),args:=#[.tmp 37,.func 184],argTypes:=#[56,262] },_,_,_,none⟩) rfl (fun K hK=>?_) AllReadyH.nil
 go_simp
 refine (eachS_mk at2 ns cs 184 #[] _).mono ?_
 rintro e w9 ⟨b8,f8,rfl,hb9,q1,q2⟩
 refine hK.out _ _ (keepP hb9 ⟨hH.1,R.out.1⟩) (fun hH2=>?_)
 clear hK K
 have A2:=acc_add (A) hb9 q1 q2
 clear q1 q2 hb9 hH A
 have hH:=hH2
 have A:=A2
 clear hH2 A2
 (try simp only [zz])
 refine zT1 32 39 (.build 194 #[(0,.const (.bool false)),(1,.tmp 38)]) (.agg #[.bool false,.func (.func 220) #[] #[.pointer (some ⟨b8,0,none⟩),.pointer (some ⟨f8,0,none⟩)]]) rfl (fun wS hS=>by have d0:=hS.2.1;have d1:=hS.2.2;go_simp) hH ?_
 simp only [zz]
 refine wpAnyH_ready (rs:=[36]) (by kernel_rfl) (by simp) ?_
 refine AllReadyH.cons (o:=⟨some 43,.call { callee:=.value (.func 174),args:=#[.tmp 41,.tmp 42],argTypes:=#[56,262] },_,_,_,none⟩) rfl (fun K hK=>?_) AllReadyH.nil
 go_simp
 refine (eachS_mk at2 ns cs 185 #[.pointer (some ⟨k1,0,none⟩)] _).mono ?_
 rintro e w9 ⟨b9,f9,rfl,hb9,q1,q2⟩
 refine hK.out _ _ (keepP hb9 ⟨hH.1,R.out.1⟩) (fun hH2=>?_)
 clear hK K
 have A2:=acc_add (A) hb9 q1 q2
 clear q1 q2 hb9 hH A
 have hH:=hH2
 have A:=A2
 clear hH2 A2
 (try simp only [zz])
 refine zT1 37 44 (.build 194 #[(0,.const (.bool false)),(1,.tmp 43)]) (.agg #[.bool false,.func (.func 220) #[] #[.pointer (some ⟨b9,0,none⟩),.pointer (some ⟨f9,0,none⟩)]]) rfl (fun wS hS=>by have d0:=hS.2.1;have d1:=hS.2.2;go_simp) hH ?_
 simp only [zz]
 refine wpAnyH_ready (rs:=[38]) (by kernel_rfl) (by simp) ?_
 refine AllReadyH.cons (o:=⟨some 45,.buildSlice 191 9 #[(0,.tmp 10),(1,.tmp 14),(2,.tmp 18),(3,.tmp 23),(4,.tmp 28),(5,.tmp 30),(6,.tmp 35),(7,.tmp 39),(8,.tmp 44)],_,_,_,none⟩) rfl (fun K hK=>?_) AllReadyH.nil
 go_simp
 refine hK.out _ _ (keepP (L8.bnew w9 _) ⟨hH.1,R.out.1⟩) (fun hH2=>?_)
 clear hK K
 have hL:=heap_alloc_last w9 (.cells #[.bool true,.func (.func 217) #[] #[.pointer (some ⟨b1,0,none⟩),.pointer (some ⟨f1,0,none⟩)],.bool false,.func (.func 220) #[] #[.pointer (some ⟨b2,0,none⟩),.pointer (some ⟨f2,0,none⟩)],.bool true,.func (.func 217) #[] #[.pointer (some ⟨b3,0,none⟩),.pointer (some ⟨f3,0,none⟩)],.bool true,.func (.func 217) #[] #[.pointer (some ⟨b4,0,none⟩),.pointer (some ⟨f4,0,none⟩)],.bool false,.func (.func 220) #[] #[.pointer (some ⟨b5,0,none⟩),.pointer (some ⟨f5,0,none⟩)],.bool false,.func (.func 182) #[] #[.pointer (some ⟨k1,0,none⟩)],.bool false,.func (.func 220) #[] #[.pointer (some ⟨b7,0,none⟩),.pointer (some ⟨f7,0,none⟩)],.bool false,.func (.func 220) #[] #[.pointer (some ⟨b8,0,none⟩),.pointer (some ⟨f8,0,none⟩)],.bool false,.func (.func 220) #[] #[.pointer (some ⟨b9,0,none⟩),.pointer (some ⟨f9,0,none⟩)]] 194)
 have A2:=A.below (L8.bnew w9 (.cells #[.bool true,.func (.func 217) #[] #[.pointer (some ⟨b1,0,none⟩),.pointer (some ⟨f1,0,none⟩)],.bool false,.func (.func 220) #[] #[.pointer (some ⟨b2,0,none⟩),.pointer (some ⟨f2,0,none⟩)],.bool true,.func (.func 217) #[] #[.pointer (some ⟨b3,0,none⟩),.pointer (some ⟨f3,0,none⟩)],.bool true,.func (.func 217) #[] #[.pointer (some ⟨b4,0,none⟩),.pointer (some ⟨f4,0,none⟩)],.bool false,.func (.func 220) #[] #[.pointer (some ⟨b5,0,none⟩),.pointer (some ⟨f5,0,none⟩)],.bool false,.func (.func 182) #[] #[.pointer (some ⟨k1,0,none⟩)],.bool false,.func (.func 220) #[] #[.pointer (some ⟨b7,0,none⟩),.pointer (some ⟨f7,0,none⟩)],.bool false,.func (.func 220) #[] #[.pointer (some ⟨b8,0,none⟩),.pointer (some ⟨f8,0,none⟩)],.bool false,.func (.func 220) #[] #[.pointer (some ⟨b9,0,none⟩),.pointer (some ⟨f9,0,none⟩)]] 194))
 clear hH A
 have hH:=hH2
 clear hH2
 (try simp only [zz])
 refine zT1 39 2 (.assign (.tmp 45)) (.slice (some ⟨w9.heap.size,0,none⟩) 9 9) rfl (fun wS hS=>by have d0:=hS.2.1;have d1:=hS.2.2;go_simp) hH ?_
 simp only [zz]
 refine wpAnyH_done (by kernel_rfl) ?_ _
 refine NoPanic.normal ?_
 go_wp2
 go_ret
 have hB:=hH.1
 exact⟨_,k1,k3,k4,g3,g4,_,_,_,_,_,_,_,_,rfl,L2.bch HB.out hB,⟨hL,L8.row_up R.out.1 hB,L8.row_up R.out.2.1 hB,L8.row_up R.out.2.2.1 hB,set_below R.out.2.2.2.1 hB,set_below R.out.2.2.2.2.1 hB,R.out.2.2.2.2.2,⟨b1,f1,rfl,acc_at A2 0 rfl,acc_at A2 1 rfl⟩,⟨b2,f2,rfl,acc_at A2 2 rfl,acc_at A2 3 rfl⟩,⟨b3,f3,rfl,acc_at A2 4 rfl,acc_at A2 5 rfl⟩,⟨b4,f4,rfl,acc_at A2 6 rfl,acc_at A2 7 rfl⟩,⟨b5,f5,rfl,acc_at A2 8 rfl,acc_at A2 9 rfl⟩,⟨b7,f7,rfl,acc_at A2 10 rfl,acc_at A2 11 rfl⟩,⟨b8,f8,rfl,acc_at A2 12 rfl,acc_at A2 13 rfl⟩,⟨b9,f9,rfl,acc_at A2 14 rfl,acc_at A2 15 rfl⟩⟩,HL.out⟩
end Go.Proofs.YtdgnjhhieemcaaaGreatDoor.L10
end
section
namespace Go.Proofs.YtdgnjhhieemcaaaGreatDoor.L10
open Go.RowKit Go.Maps
attribute [local go_sem] Oper.semAt_some
structure KC (W1 W:World):Prop where
 size:W1.heap.size≤W.heap.size
 row:∀ (k:Nat) (cs:Array Value) (t:TypeId) (fr:Nat × Nat),W1.heap[k]?=some (.cells cs t fr)→W.heap[k]?=some (.cells cs t fr)
theorem KC.refl (W:World):KC W W:=⟨Nat.le_refl _,fun _ _ _ _ h=>h⟩
theorem KC.cell {W1 W:World} (h:KC W1 W) {p:Addr} {v:Value} (hc:W1.cell? p=some v):W.cell? p=some v:=by
 unfold World.cell? at hc ⊢
 split at hc
 ·rename_i c e f hh
  rw [h.row _ _ _ _ hh]
  exact hc
 ·cases hc
theorem KC.gr {W1 W W':World} {o:Option Nat} (h:KC W1 W) (hg:W.grownBy W' o) (hn:NoC W o):KC W1 W':=⟨Nat.le_trans h.size hg.size,fun k cs t fr hk=>gr_row hg hn (h.row k cs t fr hk)⟩
theorem KC.st {W1 W:World} (h:KC W1 W) {v:Value} {l:List ByteArray} (hv:L8.StAt W1 v l):L8.StAt W v l:=by
 rcases hv with ⟨b,o,cap,rfl,hlt,hc⟩|hv
 ·exact .inl ⟨b,o,cap,rfl,Nat.lt_of_lt_of_le hlt h.size,fun j hj=>h.cell (hc j hj)⟩
 ·exact .inr hv
theorem KC.df {W1 W:World} (h:KC W1 W) {v:Value} {l:List L9.Df} (hv:DfAt W1 v l):DfAt W v l:=by
 rcases hv with ⟨b,o,cap,rfl,hlt,hc⟩|hv
 ·exact .inl ⟨b,o,cap,rfl,Nat.lt_of_lt_of_le hlt h.size,fun j hj i u hu=>h.cell (hc j hj i u hu)⟩
 ·exact .inr hv
theorem KC.sm {W1 W:World} (h:KC W1 W) {v:Value} {l:List Stm} (hv:SmAt W1 v l):SmAt W v l:=by
 rcases hv with ⟨b,o,cap,rfl,hlt,hc⟩|hv
 ·refine .inl ⟨b,o,cap,rfl,Nat.lt_of_lt_of_le hlt h.size,fun j hj=>?_⟩
  obtain⟨lv,h1,h2⟩:=hc j hj
  exact⟨lv,h.st h1,fun i u hu=>h.cell (h2 i u hu)⟩
 ·exact .inr hv
theorem KC.one {W1 W:World} (h:KC W1 W) {k:Nat} {v:Value} {t:TypeId} (hk:W1.heap[k]?=some (.cells #[v] t)):W.cell? ⟨k,0,none⟩=some v:=by
 simp [World.cell?,h.row _ _ _ _ hk]
structure Inv (w W1:World) (g3 g4:Nat) (ms ls:List ByteArray) (W:World):Prop where
 bel:Below w.heap.size w W
 kc:KC W1 W
 tab:L1.Wid W∧L2.Regs W
 s3:SetAt W g3 ms
 s4:SetAt W g4 ls
theorem noC_none (w:World):NoC w none:=fun g h=>by cases h
theorem noC_set {w:World} {g:Nat} {ks:List ByteArray} (h:SetAt w g ks):NoC w (some g):=fun x hx cs t fr e=>by cases hx;exact map_cells h cs t fr e
section
variable {w W1:World} {g3 g4:Nat} {ms ls:List ByteArray} {W W':World}
theorem Inv.below (h:Inv w W1 g3 g4 ms ls W) (hb:Below W.heap.size W W'):Inv w W1 g3 g4 ms ls W' :=
 ⟨L2.bch h.bel hb,h.kc.gr (gr_of hb none) (noC_none _),⟨L4.wid_below h.tab.1 hb,h.tab.2.below hb⟩,set_below h.s3 hb,set_below h.s4 hb⟩
theorem bel_gr (h:Below w.heap.size w W) (hg:W.grownBy W' (some g3)) (lo:w.heap.size≤g3):Below w.heap.size w W':=h.grown hg h.size (fun j hj=>by cases hj;exact lo)
theorem tab_gr (h:L1.Wid W∧L2.Regs W) (hg:W.grownBy W' (some g3)) (hn:NoC W (some g3)):L1.Wid W'∧L2.Regs W':=by
 obtain⟨⟨t,fr,h1⟩,⟨t',fr',h2⟩⟩:=h
 exact⟨⟨t,fr,gr_row hg hn h1⟩,⟨t',fr',gr_row hg hn h2⟩⟩
theorem Inv.gr3 (h:Inv w W1 g3 g4 ms ls W) (hg:W.grownBy W' (some g3)) (lo:w.heap.size≤g3) (hne:g3≠g4) {ms':List ByteArray} (hs:SetAt W' g3 ms'):Inv w W1 g3 g4 ms' ls W' :=
 ⟨bel_gr h.bel hg lo,h.kc.gr hg (noC_set h.s3),tab_gr h.tab hg (noC_set h.s3),hs,set_of h.s4 (hg.block _ (set_lt h.s4) (by simpa using Ne.symm hne))⟩
theorem Inv.gr4 (h:Inv w W1 g3 g4 ms ls W) (hg:W.grownBy W' (some g4)) (lo:w.heap.size≤g4) (hne:g3≠g4) {ls':List ByteArray} (hs:SetAt W' g4 ls'):Inv w W1 g3 g4 ms ls' W' :=
 ⟨bel_gr h.bel hg lo,h.kc.gr hg (noC_set h.s4),tab_gr h.tab hg (noC_set h.s4),set_of h.s3 (hg.block _ (set_lt h.s3) (by simpa using hne)),hs⟩
end
def FnP (w W1:World) (g3 g4:Nat) (ms ls:List ByteArray) (r:Nat × Int) (W:World) (e:Ending) (W':World):Prop :=
 e=.returned (.tuple #[.int .i64 (r.1:Int),.int .i64 r.2])∧Below w.heap.size w W'∧KC W W'∧(r.2=0→Inv w W1 g3 g4 ms ls W')
theorem getD_map {α:Type} (l:List α) (f:α→Int) (j:Nat) (h:j<l.length):(l.map f).getD j 0=f l[j]:=by simp [List.getD,List.getElem?_map,List.getElem?_eq_getElem h]
theorem szE_get (n j:Nat) (h:j<n):(szE n).getD j 0=if j<255 then 0 else 16:=by simp [szE,List.getD,h]
theorem take_snocm (l:List L9.Df) (j:Nat) (h:j<l.length):(l.take (j+1)).map (fun d:L9.Df=>d.nm)=(l.take j).map (fun d:L9.Df=>d.nm)++[l[j].nm]:=by
 rw [List.take_add_one,List.getElem?_eq_getElem h,List.map_append];rfl
theorem take_snocl (l:List Stm) (j:Nat) (h:j<l.length):(l.take (j+1)).flatMap (fun s:Stm=>s.labs)=(l.take j).flatMap (fun s:Stm=>s.labs)++l[j].labs:=by
 rw [List.take_add_one,List.getElem?_eq_getElem h,List.flatMap_append];simp
theorem flat_one (l:List L9.Df):(l.map fun d=>[d.nm]).flatten=l.map (fun d:L9.Df=>d.nm):=by
 induction l with
 | nil=>rfl
 | cons a r ih=>simp [ih]
theorem dp1_get (l:List L9.Df) (j:Nat) (h:j<l.length):(dpE [] (l.map fun d=>[d.nm])).getD j 0=if addB ((l.take j).map (fun d:L9.Df=>d.nm)) [l[j].nm] then 0 else 10:=by
 rw [List.getD,dpE_get _ _ j (by simpa using h),← List.map_take,flat_one]
 simp
theorem dp2_get (l:List Stm) (j:Nat) (h:j<l.length):(dpE [] (l.map (fun s:Stm=>s.labs))).getD j 0=if addB ((l.take j).flatMap (fun s:Stm=>s.labs)) l[j].labs then 0 else 10:=by
 rw [List.getD,dpE_get _ _ j (by simpa using h),← List.map_take,← List.flatMap_def]
 simp
theorem len_flat (l:List Stm) (j:Nat) (h:j<l.length):((l.take j).flatMap (fun s:Stm=>s.labs)).length+l[j].labs.length≤(l.flatMap (fun s:Stm=>s.labs)).length:=by
 have e:l=l.take (j+1)++l.drop (j+1):=(List.take_append_drop _ _).symm
 have h2:(l.flatMap (fun s:Stm=>s.labs)).length=((l.take (j+1)).flatMap (fun s:Stm=>s.labs)).length+((l.drop (j+1)).flatMap (fun s:Stm=>s.labs)).length:=by
  conv=>lhs;rw [e]
  rw [List.flatMap_append,List.length_append]
 rw [h2,take_snocl l j h,List.length_append]
 omega
theorem Fits.lab_sum {p:Pg} (hf:Fits p) (j:Nat) (h:j<p.stmts.length):((p.stmts.take j).flatMap (fun s:Stm=>s.labs)).length+p.stmts[j].labs.length≤100000:=Nat.le_trans (len_flat p.stmts j h) hf.labs
theorem Fits.lab_le {p:Pg} (hf:Fits p) (j:Nat) (h:j<p.stmts.length):p.stmts[j].labs.length≤100000:=by have:=hf.lab_sum j h;omega
section
variable {w W1:World} {vm vs:Value} {g k1 k3 k4 g3 g4:Nat} {v1 v2 v3 v4 v5 v7 v8 v9:Value} {p:Pg}
theorem find1 (hp:PgAt W1 vm vs p) (hf:Fits p) (kb kf:Nat) (hb:W1.heap[kb]?=some (.cells #[vm] 22)) (hk:W1.heap[kf]?=some (.cells #[.func (.func 172) #[] #[]] 259)) (W:World) (hI:Inv w W1 g3 g4 [] [] W) :
  Calls Tryz.prog 217 #[.pointer (some ⟨kb,0,none⟩),.pointer (some ⟨kf,0,none⟩)] W fun e W'=>FnP w W1 g3 g4 [] [] (fe (p.maps.map deE)) W e W' :=
 (each1 172 (enters_of Tryz.func172 (by kernel_rfl) rfl) none kb kf vm p.maps (p.maps.map deE) (fun _ W=>Inv w W1 g3 g4 [] [] W) W (hI.kc.df hp.1) hf.maps (by simp) (hI.kc.one hb) (hI.kc.one hk) (noC_none _) hI (fun _ _ _ h hb=>h.below hb)
  (fun j h W hI=>(c1_at (j:Int) p.maps[j] _ W hI.tab.2 rfl).mono fun e W' ⟨he,hb⟩=>by
   rw [getD_map _ _ _ h]
   exact⟨he,gr_of hb _,fun _=>hI.below hb⟩)).mono fun e W' ⟨he,hg,hq⟩=>⟨he,L2.bch hI.bel (gr_to hg),(KC.refl W).gr hg (noC_none _),fun h0=>hq h0⟩
theorem find2 (hp:PgAt W1 vm vs p) (hf:Fits p) (kb kf:Nat) (hb:W1.heap[kb]?=some (.cells #[vs] 56)) (hk:W1.heap[kf]?=some (.cells #[.func (.func 175) #[] #[]] 262)) (W:World) (hI:Inv w W1 g3 g4 [] [] W) :
  Calls Tryz.prog 220 #[.pointer (some ⟨kb,0,none⟩),.pointer (some ⟨kf,0,none⟩)] W fun e W'=>FnP w W1 g3 g4 [] [] (fe (p.stmts.map stE)) W e W' :=
 (each2 175 (enters_of Tryz.func175 (by kernel_rfl) rfl) none kb kf vs p.stmts (p.stmts.map stE) (fun _ W=>Inv w W1 g3 g4 [] [] W) W (hI.kc.sm hp.2) hf.stmts (by simp) (hI.kc.one hb) (hI.kc.one hk) (noC_none _) hI (fun _ _ _ h hb=>h.below hb)
  (fun j h lv W hl hI=>(c2_at (j:Int) lv p.stmts[j] _ W hI.tab hl (hf.lab_le j h) rfl).mono fun e W' ⟨he,hb⟩=>by
   rw [getD_map _ _ _ h]
   exact⟨he,gr_of hb _,fun _=>hI.below hb⟩)).mono fun e W' ⟨he,hg,hq⟩=>⟨he,L2.bch hI.bel (gr_to hg),(KC.refl W).gr hg (noC_none _),fun h0=>hq h0⟩
theorem find3 (hp:PgAt W1 vm vs p) (hf:Fits p) (kb kf:Nat) (hb:W1.heap[kb]?=some (.cells #[vm] 22)) (hk:W1.heap[kf]?=some (.cells #[.func (.func 177) #[] #[]] 259)) (W:World) (hI:Inv w W1 g3 g4 [] [] W) :
  Calls Tryz.prog 217 #[.pointer (some ⟨kb,0,none⟩),.pointer (some ⟨kf,0,none⟩)] W fun e W'=>FnP w W1 g3 g4 [] [] (fe (szE p.maps.length)) W e W' :=
 (each1 177 (enters_of Tryz.func177 (by kernel_rfl) rfl) none kb kf vm p.maps (szE p.maps.length) (fun _ W=>Inv w W1 g3 g4 [] [] W) W (hI.kc.df hp.1) hf.maps (by simp [szE]) (hI.kc.one hb) (hI.kc.one hk) (noC_none _) hI (fun _ _ _ h hb=>h.below hb)
  (fun j h W hI=>(c3_at j p.maps[j].key p.maps[j].val p.maps[j].ent p.maps[j].nm _ W rfl).mono fun e W' ⟨he,hb⟩=>by
   rw [szE_get _ _ h]
   exact⟨he,gr_of hb _,fun _=>hI.below hb⟩)).mono fun e W' ⟨he,hg,hq⟩=>⟨he,L2.bch hI.bel (gr_to hg),(KC.refl W).gr hg (noC_none _),fun h0=>hq h0⟩
theorem find4 (hC:CnS W1 vm vs g k1 k3 k4 g3 g4 v1 v2 v3 v4 v5 v7 v8 v9) (hp:PgAt W1 vm vs p) (hf:Fits p) (lo3:w.heap.size≤g3) (hne:g3≠g4) (kb kf:Nat) (hb:W1.heap[kb]?=some (.cells #[vm] 22)) (hk:W1.heap[kf]?=some (.cells #[.func (.func 179) #[] #[.pointer (some ⟨k3,0,none⟩)]] 259)) (W:World) (hI:Inv w W1 g3 g4 [] [] W) :
  Calls Tryz.prog 217 #[.pointer (some ⟨kb,0,none⟩),.pointer (some ⟨kf,0,none⟩)] W fun e W'=>FnP w W1 g3 g4 (mpL p) [] (fe (dpE [] (p.maps.map fun d=>[d.nm]))) W e W' :=
 (each4 179 (enters_of Tryz.func179 (by kernel_rfl) rfl) (some g3) kb kf k3 vm p.maps (dpE [] (p.maps.map fun d=>[d.nm])) (fun j W=>Inv w W1 g3 g4 ((p.maps.take j).map (fun d:L9.Df=>d.nm)) [] W) W (hI.kc.df hp.1) hf.maps (by rw [dpE_len,List.length_map]) (hI.kc.one hb) (hI.kc.one hk) (noC_set hI.s3) (by simpa using hI) (fun _ _ _ h hb=>h.below hb)
  (fun j h W hI=>(c4_at (j:Int) p.maps[j].key p.maps[j].val p.maps[j].ent p.maps[j].nm k3 g3 ((p.maps.take j).map (fun d:L9.Df=>d.nm)) _ W (hI.kc.one hC.box3) hI.s3 (hf.nm _ (List.getElem_mem h)) (by have:=hf.maps;rw [List.length_map,List.length_take];omega) rfl).mono fun e W' ⟨he,hg,hs⟩=>by
   rw [dp1_get p.maps j h]
   exact⟨he,hg,fun h0=>hI.gr3 hg lo3 hne (by rw [take_snocm p.maps j h];exact hs h0)⟩)).mono fun e W' ⟨he,hg,hq⟩=>⟨he,bel_gr hI.bel hg lo3,(KC.refl W).gr hg (noC_set hI.s3),fun h0=>by have h2:=hq h0;dsimp only at h2;rwa [List.take_length] at h2⟩
theorem find5 (hC:CnS W1 vm vs g k1 k3 k4 g3 g4 v1 v2 v3 v4 v5 v7 v8 v9) (hp:PgAt W1 vm vs p) (hf:Fits p) (lo4:w.heap.size≤g4) (hne:g3≠g4) (kb kf:Nat) (hb:W1.heap[kb]?=some (.cells #[vs] 56)) (hk:W1.heap[kf]?=some (.cells #[.func (.func 181) #[] #[.pointer (some ⟨k4,0,none⟩)]] 262)) (W:World) (hI:Inv w W1 g3 g4 (mpL p) [] W) :
  Calls Tryz.prog 220 #[.pointer (some ⟨kb,0,none⟩),.pointer (some ⟨kf,0,none⟩)] W fun e W'=>FnP w W1 g3 g4 (mpL p) (alL p) (fe (dpE [] (p.stmts.map (fun s:Stm=>s.labs)))) W e W' :=
 (each5 181 (enters_of Tryz.func181 (by kernel_rfl) rfl) (some g4) kb kf k4 vs p.stmts (dpE [] (p.stmts.map (fun s:Stm=>s.labs))) (fun j W=>Inv w W1 g3 g4 (mpL p) ((p.stmts.take j).flatMap (fun s:Stm=>s.labs)) W) W (hI.kc.sm hp.2) hf.stmts (by rw [dpE_len,List.length_map]) (hI.kc.one hb) (hI.kc.one hk) (noC_set hI.s4) (by simpa using hI) (fun _ _ _ h hb=>h.below hb)
  (fun j h lv W hl hI=>(c5_at (j:Int) lv p.stmts[j] k4 g4 ((p.stmts.take j).flatMap (fun s:Stm=>s.labs)) _ W (hI.kc.one hC.box4) hI.s4 (hf.lb _ (List.getElem_mem h)) (hf.lab_sum j h) hl rfl).mono fun e W' ⟨he,hg,hs⟩=>by
   rw [dp2_get p.stmts j h]
   exact⟨he,hg,fun h0=>hI.gr4 hg lo4 hne (by rw [take_snocl p.stmts j h];exact hs h0)⟩)).mono fun e W' ⟨he,hg,hq⟩=>⟨he,bel_gr hI.bel hg lo4,(KC.refl W).gr hg (noC_set hI.s4),fun h0=>by have h2:=hq h0;dsimp only at h2;rwa [List.take_length] at h2⟩
theorem find6 (hC:CnS W1 vm vs g k1 k3 k4 g3 g4 v1 v2 v3 v4 v5 v7 v8 v9) (hp:PgAt W1 vm vs p) (W:World) (hI:Inv w W1 g3 g4 (mpL p) (alL p) W) :
  Calls Tryz.prog 182 #[.pointer (some ⟨k1,0,none⟩)] W fun e W'=>FnP w W1 g3 g4 (mpL p) (alL p) (0,if 0<p.stmts.length then 0 else 15) W e W':=by
 obtain⟨a,cap,rfl,-⟩:=sm_form rfl hp.2
 have hc:=(cells2 (hI.kc.row _ _ _ _ hC.prg)).2
 exact (c6_at k1 _ cap a _ W hc rfl).mono fun e W' ⟨he,hw⟩=>by
  subst hw
  exact⟨he,hI.bel,KC.refl W,fun _=>hI⟩
theorem find7 (hC:CnS W1 vm vs g k1 k3 k4 g3 g4 v1 v2 v3 v4 v5 v7 v8 v9) (hp:PgAt W1 vm vs p) (hf:Fits p) (kb kf:Nat) (hb:W1.heap[kb]?=some (.cells #[vs] 56)) (hk:W1.heap[kf]?=some (.cells #[.func (.func 183) #[] #[.pointer (some ⟨k4,0,none⟩),.pointer (some ⟨k3,0,none⟩)]] 262)) (W:World) (hI:Inv w W1 g3 g4 (mpL p) (alL p) W) :
  Calls Tryz.prog 220 #[.pointer (some ⟨kb,0,none⟩),.pointer (some ⟨kf,0,none⟩)] W fun e W'=>FnP w W1 g3 g4 (mpL p) (alL p) (fe (p.stmts.map (unE p))) W e W' :=
 (each7 183 (enters_of Tryz.func183 (by kernel_rfl) rfl) none kb kf k4 k3 vs p.stmts (p.stmts.map (unE p)) (fun _ W=>Inv w W1 g3 g4 (mpL p) (alL p) W) W (hI.kc.sm hp.2) hf.stmts (by simp) (hI.kc.one hb) (hI.kc.one hk) (noC_none _) hI (fun _ _ _ h hb=>h.below hb)
  (fun j h lv W hl hI=>by
   obtain⟨la,lc,rfl,-⟩:=st_form rfl hl
   exact (c7_at (j:Int) la _ lc p.stmts[j] k4 k3 g4 g3 (alL p) (mpL p) _ W (hI.kc.one hC.box4) (hI.kc.one hC.box3) hI.s4 hI.s3 (hf.tg _ (List.getElem_mem h)) rfl).mono fun e W' ⟨he,hb⟩=>by
    rw [getD_map _ _ _ h]
    exact⟨he,gr_of hb _,fun _=>hI.below hb⟩)).mono fun e W' ⟨he,hg,hq⟩=>⟨he,L2.bch hI.bel (gr_to hg),(KC.refl W).gr hg (noC_none _),fun h0=>hq h0⟩
theorem find8 (hp:PgAt W1 vm vs p) (hf:Fits p) (kb kf:Nat) (hb:W1.heap[kb]?=some (.cells #[vs] 56)) (hk:W1.heap[kf]?=some (.cells #[.func (.func 184) #[] #[]] 262)) (W:World) (hI:Inv w W1 g3 g4 (mpL p) (alL p) W) :
  Calls Tryz.prog 220 #[.pointer (some ⟨kb,0,none⟩),.pointer (some ⟨kf,0,none⟩)] W fun e W'=>FnP w W1 g3 g4 (mpL p) (alL p) (fe (p.stmts.map wrE)) W e W' :=
 (each2 184 (enters_of Tryz.func184 (by kernel_rfl) rfl) none kb kf vs p.stmts (p.stmts.map wrE) (fun _ W=>Inv w W1 g3 g4 (mpL p) (alL p) W) W (hI.kc.sm hp.2) hf.stmts (by simp) (hI.kc.one hb) (hI.kc.one hk) (noC_none _) hI (fun _ _ _ h hb=>h.below hb)
  (fun j h lv W hl hI=>by
   obtain⟨la,lc,rfl,-⟩:=st_form rfl hl
   exact (c8_at (j:Int) la _ lc p.stmts[j] _ W rfl).mono fun e W' ⟨he,hb⟩=>by
    rw [getD_map _ _ _ h]
    exact⟨he,gr_of hb _,fun _=>hI.below hb⟩)).mono fun e W' ⟨he,hg,hq⟩=>⟨he,L2.bch hI.bel (gr_to hg),(KC.refl W).gr hg (noC_none _),fun h0=>hq h0⟩
theorem find9 (hC:CnS W1 vm vs g k1 k3 k4 g3 g4 v1 v2 v3 v4 v5 v7 v8 v9) (hp:PgAt W1 vm vs p) (hf:Fits p) (kb kf:Nat) (hb:W1.heap[kb]?=some (.cells #[vs] 56)) (hk:W1.heap[kf]?=some (.cells #[.func (.func 185) #[] #[.pointer (some ⟨k1,0,none⟩)]] 262)) (W:World) (hI:Inv w W1 g3 g4 (mpL p) (alL p) W) :
  Calls Tryz.prog 220 #[.pointer (some ⟨kb,0,none⟩),.pointer (some ⟨kf,0,none⟩)] W fun e W'=>FnP w W1 g3 g4 (mpL p) (alL p) (fe (p.stmts.mapIdx (enE p.stmts.length))) W e W':=by
 obtain⟨a,cap,rfl,-⟩:=sm_form rfl hp.2
 exact (each5 185 (enters_of Tryz.func185 (by kernel_rfl) rfl) none kb kf k1 _ p.stmts (p.stmts.mapIdx (enE p.stmts.length)) (fun _ W=>Inv w W1 g3 g4 (mpL p) (alL p) W) W (hI.kc.sm hp.2) hf.stmts (by simp) (hI.kc.one hb) (hI.kc.one hk) (noC_none _) hI (fun _ _ _ h hb=>h.below hb)
  (fun j h lv W hl hI=>by
   obtain⟨la,lc,rfl,-⟩:=st_form rfl hl
   exact (c9_at j la _ lc p.stmts[j] k1 _ cap a _ W (cells2 (hI.kc.row _ _ _ _ hC.prg)).2 hf.stmts rfl).mono fun e W' ⟨he,hb⟩=>by
    rw [show (p.stmts.mapIdx (enE p.stmts.length)).getD j 0=enE p.stmts.length j p.stmts[j] by simp [List.getD,List.getElem?_mapIdx,List.getElem?_eq_getElem h]]
    exact⟨he,gr_of hb _,fun _=>hI.below hb⟩)).mono fun e W' ⟨he,hg,hq⟩=>⟨he,L2.bch hI.bel (gr_to hg),(KC.refl W).gr hg (noC_none _),fun h0=>hq h0⟩
end
end Go.Proofs.YtdgnjhhieemcaaaGreatDoor.L10
end
