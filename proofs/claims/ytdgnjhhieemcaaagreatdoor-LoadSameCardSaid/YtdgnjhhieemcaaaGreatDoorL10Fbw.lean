/- What the program's firstBreach and Check return: the first breach of the nine conditions. Condition: memory holds the program, and the tables read as the program's text lays them. -/
import Derived.Test.YtdgnjhhieemcaaaGreatDoorM12
import Derived.Laws.CopyOwn
set_option maxRecDepth 100000
set_option maxHeartbeats 8000000
namespace Go.Proofs.YtdgnjhhieemcaaaGreatDoor.L10
open Go.RowKit Go.Maps
attribute [local go_sem] Oper.semAt_some
theorem frB_drop (l:List (Bool × Nat × Int)) (j:Nat) (c:Bool × Nat × Int) (hc:l[j]?=some c) (r:Bool × Nat × Int) (h:frB (l.drop j)=r):(c.2.2=0→frB (l.drop (j+1))=r)∧(c.2.2≠0→c=r):=by
 obtain⟨hj,rfl⟩:=List.getElem?_eq_some_iff.1 hc
 rw [List.drop_eq_getElem_cons hj,frB] at h
 exact⟨fun h0=>by rw [if_pos h0] at h;exact h,fun h0=>by rw [if_neg h0] at h;exact h⟩
theorem KC.trans {a b c:World} (h:KC a b) (k:KC b c):KC a c:=⟨Nat.le_trans h.size k.size,fun _ _ _ _ hx=>k.row _ _ _ _ (h.row _ _ _ _ hx)⟩
theorem KC.of {a b:World} (h:Below a.heap.size a b):KC a b:=(KC.refl a).gr (gr_of h none) (noC_none _)
theorem cell_row {w:World} {g i:Nat} {cs:Array Value} {t:TypeId} {v:Value} (h:w.heap[g]?=some (.cells cs t)) (hv:cs[i]?=some v):w.cell? ⟨g,i,none⟩=some v:=by
 unfold World.cell?
 rw [h]
 exact hv
def msJ (p:Pg) (j:Nat):List ByteArray:=if j≤3 then [] else mpL p
def lsJ (p:Pg) (j:Nat):List ByteArray:=if j≤4 then [] else alL p
def BrP (r:Bool × Nat × Int) (w:World) (e:Ending) (w':World):Prop:=e=.returned (.tuple #[.agg #[.bool r.1,.int .i64 (r.2.1:Int)],.int .i64 r.2.2])∧Below w.heap.size w w'
theorem breach_at (vm vs:Value) (p:Pg) (w:World) (hp:PgAt w vm vs p) (hf:Fits p) (hT:L1.Wid w∧L2.Regs w) (rr:Bool × Nat × Int) (hr:brV p=rr) :
  Calls Tryz.prog 92 #[.agg #[vm,vs]] w fun e w'=>BrP rr w e w':=by
 obtain⟨nm,hnm⟩:∃ n,p.maps.length=n:=⟨_,rfl⟩
 obtain⟨am,cm,rfl,-⟩:=df_form hnm hp.1
 obtain⟨ns,hns⟩:∃ n,p.stmts.length=n:=⟨_,rfl⟩
 obtain⟨at2,cs,rfl,-⟩:=sm_form hns hp.2
 clear hnm hns
 have HP:=Lib.hid hp
 have HF:=Lib.hid hf
 have HT:=Lib.hid hT
 have HR:=Lib.hid hr
 have HC:=Lib.hid (fun (W:World)=>conds_at am at2 nm cm ns cs W)
 clear hp hf hT hr
 go_enter Tryz.func92,Tryz.ntmps92
 go_wp2_with (go_at_call 126;((with_reducible refine (HC.out _).mono ?_);rintro e W1 ⟨g,k1,k3,k4,g3,g4,v1,v2,v3,v4,v5,v7,v8,v9,rfl,hB,hC,lo3,lo4⟩))
 have hB0:Below w.heap.size w ((w.alloc (.cells #[.slice am nm cm,.slice at2 ns cs] 58)).alloc (.cells #[.bool false,.int .i64 0] 147)):=L2.bch (L8.bnew w _) (L8.bnew _ _)
 have hS0:W1.heap[w.heap.size+1]?=some (.cells #[.bool false,.int .i64 0] 147):=L8.row_up (by have:=heap_alloc_last (w.alloc (.cells #[.slice am nm cm,.slice at2 ns cs] 58)) (.cells #[.bool false,.int .i64 0] 147);simpa using this) hB
 have hBW:=L2.bch hB0 hB
 have hsz:=hB0.size
 have l3:w.heap.size≤g3:=Nat.le_trans hB0.size lo3
 have l4:w.heap.size≤g4:=Nat.le_trans hB0.size lo4
 have HI:Hid (Inv w W1 g3 g4 (msJ p 0) (lsJ p 0) W1):=Lib.hid ⟨hBW,KC.refl _,⟨L4.wid_below HT.out.1 hBW,HT.out.2.below hBW⟩,hC.set3,hC.set4⟩
 have HPW:=Lib.hid (HP.out.below hBW)
 have HS:=Lib.hid hS0
 have HCC:=Lib.hid hC
 have HLO:=Lib.hid (And.intro l3 (And.intro l4 hC.ne))
 have c1:=hC.c1
 have c2:=hC.c2
 have c3:=hC.c3
 have c4:=hC.c4
 have c5:=hC.c5
 have c7:=hC.c7
 have c8:=hC.c8
 have c9:=hC.c9
 clear hC hB hB0 hS0 hBW lo3 lo4 l3 l4 HT HC HP
 obtain⟨b1,f1,rfl,p1,q1⟩:=c1
 obtain⟨b2,f2,rfl,p2,q2⟩:=c2
 obtain⟨b3,f3,rfl,p3,q3⟩:=c3
 obtain⟨b4,f4,rfl,p4,q4⟩:=c4
 obtain⟨b5,f5,rfl,p5,q5⟩:=c5
 obtain⟨b7,f7,rfl,p7,q7⟩:=c7
 obtain⟨b8,f8,rfl,p8,q8⟩:=c8
 obtain⟨b9,f9,rfl,p9,q9⟩:=c9
 have H0:=Lib.hid (fun W (hI:Inv w W1 g3 g4 [] [] W)=>find1 HPW.out HF.out b1 f1 p1 q1 W hI)
 have H1:=Lib.hid (fun W (hI:Inv w W1 g3 g4 [] [] W)=>find2 HPW.out HF.out b2 f2 p2 q2 W hI)
 have H2:=Lib.hid (fun W (hI:Inv w W1 g3 g4 [] [] W)=>find3 HPW.out HF.out b3 f3 p3 q3 W hI)
 have H3:=Lib.hid (fun W (hI:Inv w W1 g3 g4 [] [] W)=>find4 HCC.out HPW.out HF.out HLO.out.1 HLO.out.2.2 b4 f4 p4 q4 W hI)
 have H4:=Lib.hid (fun W (hI:Inv w W1 g3 g4 (mpL p) [] W)=>find5 HCC.out HPW.out HF.out HLO.out.2.1 HLO.out.2.2 b5 f5 p5 q5 W hI)
 have H5:=Lib.hid (fun W (hI:Inv w W1 g3 g4 (mpL p) (alL p) W)=>find6 HCC.out HPW.out W hI)
 have H6:=Lib.hid (fun W (hI:Inv w W1 g3 g4 (mpL p) (alL p) W)=>find7 HCC.out HPW.out HF.out b7 f7 p7 q7 W hI)
 have H7:=Lib.hid (fun W (hI:Inv w W1 g3 g4 (mpL p) (alL p) W)=>find8 HPW.out HF.out b8 f8 p8 q8 W hI)
 have H8:=Lib.hid (fun W (hI:Inv w W1 g3 g4 (mpL p) (alL p) W)=>find9 HCC.out HPW.out HF.out b9 f9 p9 q9 W hI)
 have HLI:=Lib.hid HCC.out.list
 clear p1 p2 p3 p4 p5 p7 p8 p9 q1 q2 q3 q4 q5 q7 q8 q9 HCC HPW HF
 go_loopw [11] (fun i wr=>∃ j:Nat,j≤9∧i=.int .i64 (j:Int)∧Hid (Inv w W1 g3 g4 (msJ p j) (lsJ p j) wr)∧Hid (frB ((cnd p).drop j)=rr)) (fun i _=>9-(intOf i).toNat)
 case atStart=>exact⟨0,Nat.zero_le _,rfl,HI,Lib.hid HR.out⟩
 case round =>
  obtain⟨j,hj,rfl,hI,hL⟩:=hrel
  clear HI HR
  have hg:=hI.out.kc.row _ _ _ _ HLI.out
  have hcs:j=0∨j=1∨j=2∨j=3∨j=4∨j=5∨j=6∨j=7∨j=8∨j=9:=by omega
  rcases hcs with rfl|rfl|rfl|rfl|rfl|rfl|rfl|rfl|rfl|rfl
  ·have a0:=cell_row (i:=0) (v:=.bool true) hg rfl
   have a1:=cell_row (i:=1) (v:=.func (.func 217) #[] #[.pointer (some ⟨b1,0,none⟩),.pointer (some ⟨f1,0,none⟩)]) hg rfl
   have hq:=frB_drop (cnd p) 0 (true,fe (p.maps.map deE)) rfl _ hL.out
   have HK:=Lib.hid (H0.out (wr.alloc (.cells #[.bool true,.func (.func 217) #[] #[.pointer (some ⟨b1,0,none⟩),.pointer (some ⟨f1,0,none⟩)]] 194)) (hI.out.below (L8.bnew wr _)))
   have hkg:=World.block_lt_of_cell? wr _ a0
   clear hg
   generalize fe (p.maps.map deE)=R at hq HK
   obtain⟨kk,ee⟩:=R
   simp only at hq HK
   have HQ:=Lib.hid hq
   clear hq hL
   by_cases h0:ee=0
   ·subst h0
    go_wp2_with (go_at_call 217;((with_reducible refine (HK.out).mono ?_);rintro e w1 ⟨rfl,b1,kc1,q1⟩))
    go_roundw
    case rel=>exact⟨1,by omega,by go_num,Lib.hid (q1 (by trivial)),Lib.hid (HQ.out.1 (by trivial))⟩
    case measure=>simp [intOf]
   ·obtain rfl:=HQ.out.2 h0
    go_wp2_with (first|(go_at_call 217;((with_reducible refine (HK.out).mono ?_);rintro e w1 ⟨rfl,b1,kc1,q1⟩;obtain⟨y0,y1⟩:=cells2 (kc1.row _ _ _ _ (heap_alloc_last wr _));have hS:=((hI.out.kc.trans (KC.of (L8.bnew wr _))).trans kc1).row _ _ _ _ HS.out;clear a0 a1))|(refine wpList_store_row rfl _ _ _ rfl (w.heap.size+1) #[.bool true,.int .i64 (kk:Int)] rfl rfl 147 _ hS (by kernel_rfl) rfl (by simp [Value.oneCell']) ?_))
    obtain⟨z0,z1⟩:=cells2 (setRow_heap _ _ _ #[.bool true,.int .i64 (kk:Int)] _ _ hS)
    exact bodyPost_ret (v:=.tuple #[.agg #[.bool true,.int .i64 (kk:Int)],.int .i64 ee]) (by simp [results,Tryz.results92,go_sem,z0,z1]) rfl ⟨rfl,below_setRow b1 (by omega) _⟩
  ·have a0:=cell_row (i:=2) (v:=.bool false) hg rfl
   have a1:=cell_row (i:=3) (v:=.func (.func 220) #[] #[.pointer (some ⟨b2,0,none⟩),.pointer (some ⟨f2,0,none⟩)]) hg rfl
   have hq:=frB_drop (cnd p) 1 (false,fe (p.stmts.map stE)) rfl _ hL.out
   have HK:=Lib.hid (H1.out (wr.alloc (.cells #[.bool false,.func (.func 220) #[] #[.pointer (some ⟨b2,0,none⟩),.pointer (some ⟨f2,0,none⟩)]] 194)) (hI.out.below (L8.bnew wr _)))
   have hkg:=World.block_lt_of_cell? wr _ a0
   clear hg
   generalize fe (p.stmts.map stE)=R at hq HK
   obtain⟨kk,ee⟩:=R
   simp only at hq HK
   have HQ:=Lib.hid hq
   clear hq hL
   by_cases h0:ee=0
   ·subst h0
    go_wp2_with (go_at_call 220;((with_reducible refine (HK.out).mono ?_);rintro e w1 ⟨rfl,b1,kc1,q1⟩))
    go_roundw
    case rel=>exact⟨2,by omega,by go_num,Lib.hid (q1 (by trivial)),Lib.hid (HQ.out.1 (by trivial))⟩
    case measure=>simp [intOf]
   ·obtain rfl:=HQ.out.2 h0
    go_wp2_with (first|(go_at_call 220;((with_reducible refine (HK.out).mono ?_);rintro e w1 ⟨rfl,b1,kc1,q1⟩;obtain⟨y0,y1⟩:=cells2 (kc1.row _ _ _ _ (heap_alloc_last wr _));have hS:=((hI.out.kc.trans (KC.of (L8.bnew wr _))).trans kc1).row _ _ _ _ HS.out;clear a0 a1))|(refine wpList_store_row rfl _ _ _ rfl (w.heap.size+1) #[.bool false,.int .i64 (kk:Int)] rfl rfl 147 _ hS (by kernel_rfl) rfl (by simp [Value.oneCell']) ?_))
    obtain⟨z0,z1⟩:=cells2 (setRow_heap _ _ _ #[.bool false,.int .i64 (kk:Int)] _ _ hS)
    exact bodyPost_ret (v:=.tuple #[.agg #[.bool false,.int .i64 (kk:Int)],.int .i64 ee]) (by simp [results,Tryz.results92,go_sem,z0,z1]) rfl ⟨rfl,below_setRow b1 (by omega) _⟩
  ·have a0:=cell_row (i:=4) (v:=.bool true) hg rfl
   have a1:=cell_row (i:=5) (v:=.func (.func 217) #[] #[.pointer (some ⟨b3,0,none⟩),.pointer (some ⟨f3,0,none⟩)]) hg rfl
   have hq:=frB_drop (cnd p) 2 (true,fe (szE p.maps.length)) rfl _ hL.out
   have HK:=Lib.hid (H2.out (wr.alloc (.cells #[.bool true,.func (.func 217) #[] #[.pointer (some ⟨b3,0,none⟩),.pointer (some ⟨f3,0,none⟩)]] 194)) (hI.out.below (L8.bnew wr _)))
   have hkg:=World.block_lt_of_cell? wr _ a0
   clear hg
   generalize fe (szE p.maps.length)=R at hq HK
   obtain⟨kk,ee⟩:=R
   simp only at hq HK
   have HQ:=Lib.hid hq
   clear hq hL
   by_cases h0:ee=0
   ·subst h0
    go_wp2_with (go_at_call 217;((with_reducible refine (HK.out).mono ?_);rintro e w1 ⟨rfl,b1,kc1,q1⟩))
    go_roundw
    case rel=>exact⟨3,by omega,by go_num,Lib.hid (q1 (by trivial)),Lib.hid (HQ.out.1 (by trivial))⟩
    case measure=>simp [intOf]
   ·obtain rfl:=HQ.out.2 h0
    go_wp2_with (first|(go_at_call 217;((with_reducible refine (HK.out).mono ?_);rintro e w1 ⟨rfl,b1,kc1,q1⟩;obtain⟨y0,y1⟩:=cells2 (kc1.row _ _ _ _ (heap_alloc_last wr _));have hS:=((hI.out.kc.trans (KC.of (L8.bnew wr _))).trans kc1).row _ _ _ _ HS.out;clear a0 a1))|(refine wpList_store_row rfl _ _ _ rfl (w.heap.size+1) #[.bool true,.int .i64 (kk:Int)] rfl rfl 147 _ hS (by kernel_rfl) rfl (by simp [Value.oneCell']) ?_))
    obtain⟨z0,z1⟩:=cells2 (setRow_heap _ _ _ #[.bool true,.int .i64 (kk:Int)] _ _ hS)
    exact bodyPost_ret (v:=.tuple #[.agg #[.bool true,.int .i64 (kk:Int)],.int .i64 ee]) (by simp [results,Tryz.results92,go_sem,z0,z1]) rfl ⟨rfl,below_setRow b1 (by omega) _⟩
  ·have a0:=cell_row (i:=6) (v:=.bool true) hg rfl
   have a1:=cell_row (i:=7) (v:=.func (.func 217) #[] #[.pointer (some ⟨b4,0,none⟩),.pointer (some ⟨f4,0,none⟩)]) hg rfl
   have hq:=frB_drop (cnd p) 3 (true,fe (dpE [] (p.maps.map fun d=>[d.nm]))) rfl _ hL.out
   have HK:=Lib.hid (H3.out (wr.alloc (.cells #[.bool true,.func (.func 217) #[] #[.pointer (some ⟨b4,0,none⟩),.pointer (some ⟨f4,0,none⟩)]] 194)) (hI.out.below (L8.bnew wr _)))
   have hkg:=World.block_lt_of_cell? wr _ a0
   clear hg
   generalize fe (dpE [] (p.maps.map fun d=>[d.nm]))=R at hq HK
   obtain⟨kk,ee⟩:=R
   simp only at hq HK
   have HQ:=Lib.hid hq
   clear hq hL
   by_cases h0:ee=0
   ·subst h0
    go_wp2_with (go_at_call 217;((with_reducible refine (HK.out).mono ?_);rintro e w1 ⟨rfl,b1,kc1,q1⟩))
    go_roundw
    case rel=>exact⟨4,by omega,by go_num,Lib.hid (q1 (by trivial)),Lib.hid (HQ.out.1 (by trivial))⟩
    case measure=>simp [intOf]
   ·obtain rfl:=HQ.out.2 h0
    go_wp2_with (first|(go_at_call 217;((with_reducible refine (HK.out).mono ?_);rintro e w1 ⟨rfl,b1,kc1,q1⟩;obtain⟨y0,y1⟩:=cells2 (kc1.row _ _ _ _ (heap_alloc_last wr _));have hS:=((hI.out.kc.trans (KC.of (L8.bnew wr _))).trans kc1).row _ _ _ _ HS.out;clear a0 a1))|(refine wpList_store_row rfl _ _ _ rfl (w.heap.size+1) #[.bool true,.int .i64 (kk:Int)] rfl rfl 147 _ hS (by kernel_rfl) rfl (by simp [Value.oneCell']) ?_))
    obtain⟨z0,z1⟩:=cells2 (setRow_heap _ _ _ #[.bool true,.int .i64 (kk:Int)] _ _ hS)
    exact bodyPost_ret (v:=.tuple #[.agg #[.bool true,.int .i64 (kk:Int)],.int .i64 ee]) (by simp [results,Tryz.results92,go_sem,z0,z1]) rfl ⟨rfl,below_setRow b1 (by omega) _⟩
  ·have a0:=cell_row (i:=8) (v:=.bool false) hg rfl
   have a1:=cell_row (i:=9) (v:=.func (.func 220) #[] #[.pointer (some ⟨b5,0,none⟩),.pointer (some ⟨f5,0,none⟩)]) hg rfl
   have hq:=frB_drop (cnd p) 4 (false,fe (dpE [] (p.stmts.map (fun s=>s.labs)))) rfl _ hL.out
   have HK:=Lib.hid (H4.out (wr.alloc (.cells #[.bool false,.func (.func 220) #[] #[.pointer (some ⟨b5,0,none⟩),.pointer (some ⟨f5,0,none⟩)]] 194)) (hI.out.below (L8.bnew wr _)))
   have hkg:=World.block_lt_of_cell? wr _ a0
   clear hg
   generalize fe (dpE [] (p.stmts.map (fun s=>s.labs)))=R at hq HK
   obtain⟨kk,ee⟩:=R
   simp only at hq HK
   have HQ:=Lib.hid hq
   clear hq hL
   by_cases h0:ee=0
   ·subst h0
    go_wp2_with (go_at_call 220;((with_reducible refine (HK.out).mono ?_);rintro e w1 ⟨rfl,b1,kc1,q1⟩))
    go_roundw
    case rel=>exact⟨5,by omega,by go_num,Lib.hid (q1 (by trivial)),Lib.hid (HQ.out.1 (by trivial))⟩
    case measure=>simp [intOf]
   ·obtain rfl:=HQ.out.2 h0
    go_wp2_with (first|(go_at_call 220;((with_reducible refine (HK.out).mono ?_);rintro e w1 ⟨rfl,b1,kc1,q1⟩;obtain⟨y0,y1⟩:=cells2 (kc1.row _ _ _ _ (heap_alloc_last wr _));have hS:=((hI.out.kc.trans (KC.of (L8.bnew wr _))).trans kc1).row _ _ _ _ HS.out;clear a0 a1))|(refine wpList_store_row rfl _ _ _ rfl (w.heap.size+1) #[.bool false,.int .i64 (kk:Int)] rfl rfl 147 _ hS (by kernel_rfl) rfl (by simp [Value.oneCell']) ?_))
    obtain⟨z0,z1⟩:=cells2 (setRow_heap _ _ _ #[.bool false,.int .i64 (kk:Int)] _ _ hS)
    exact bodyPost_ret (v:=.tuple #[.agg #[.bool false,.int .i64 (kk:Int)],.int .i64 ee]) (by simp [results,Tryz.results92,go_sem,z0,z1]) rfl ⟨rfl,below_setRow b1 (by omega) _⟩
  ·have a0:=cell_row (i:=10) (v:=.bool false) hg rfl
   have a1:=cell_row (i:=11) (v:=.func (.func 182) #[] #[.pointer (some ⟨k1,0,none⟩)]) hg rfl
   have hq:=frB_drop (cnd p) 5 (false,(0,if 0<p.stmts.length then 0 else 15)) rfl _ hL.out
   have HK:=Lib.hid (H5.out (wr.alloc (.cells #[.bool false,.func (.func 182) #[] #[.pointer (some ⟨k1,0,none⟩)]] 194)) (hI.out.below (L8.bnew wr _)))
   have hkg:=World.block_lt_of_cell? wr _ a0
   clear hg
   generalize (if 0<p.stmts.length then (0:Int) else 15)=ee at hq HK
   simp only at hq HK
   have HQ:=Lib.hid hq
   clear hq hL
   by_cases h0:ee=0
   ·subst h0
    go_wp2_with (go_at_call 182;((with_reducible refine (HK.out).mono ?_);rintro e w1 ⟨rfl,b1,kc1,q1⟩))
    go_roundw
    case rel=>exact⟨6,by omega,by go_num,Lib.hid (q1 (by trivial)),Lib.hid (HQ.out.1 (by trivial))⟩
    case measure=>simp [intOf]
   ·obtain rfl:=HQ.out.2 h0
    go_wp2_with (first|(go_at_call 182;((with_reducible refine (HK.out).mono ?_);rintro e w1 ⟨rfl,b1,kc1,q1⟩;obtain⟨y0,y1⟩:=cells2 (kc1.row _ _ _ _ (heap_alloc_last wr _));have hS:=((hI.out.kc.trans (KC.of (L8.bnew wr _))).trans kc1).row _ _ _ _ HS.out;clear a0 a1))|(refine wpList_store_row rfl _ _ _ rfl (w.heap.size+1) #[.bool false,.int .i64 0] rfl rfl 147 _ hS (by kernel_rfl) rfl (by simp [Value.oneCell']) ?_))
    obtain⟨z0,z1⟩:=cells2 (setRow_heap _ _ _ #[.bool false,.int .i64 0] _ _ hS)
    exact bodyPost_ret (v:=.tuple #[.agg #[.bool false,.int .i64 0],.int .i64 ee]) (by simp [results,Tryz.results92,go_sem,z0,z1]) rfl ⟨rfl,below_setRow b1 (by omega) _⟩
  ·have a0:=cell_row (i:=12) (v:=.bool false) hg rfl
   have a1:=cell_row (i:=13) (v:=.func (.func 220) #[] #[.pointer (some ⟨b7,0,none⟩),.pointer (some ⟨f7,0,none⟩)]) hg rfl
   have hq:=frB_drop (cnd p) 6 (false,fe (p.stmts.map (unE p))) rfl _ hL.out
   have HK:=Lib.hid (H6.out (wr.alloc (.cells #[.bool false,.func (.func 220) #[] #[.pointer (some ⟨b7,0,none⟩),.pointer (some ⟨f7,0,none⟩)]] 194)) (hI.out.below (L8.bnew wr _)))
   have hkg:=World.block_lt_of_cell? wr _ a0
   clear hg
   generalize fe (p.stmts.map (unE p))=R at hq HK
   obtain⟨kk,ee⟩:=R
   simp only at hq HK
   have HQ:=Lib.hid hq
   clear hq hL
   by_cases h0:ee=0
   ·subst h0
    go_wp2_with (go_at_call 220;((with_reducible refine (HK.out).mono ?_);rintro e w1 ⟨rfl,b1,kc1,q1⟩))
    go_roundw
    case rel=>exact⟨7,by omega,by go_num,Lib.hid (q1 (by trivial)),Lib.hid (HQ.out.1 (by trivial))⟩
    case measure=>simp [intOf]
   ·obtain rfl:=HQ.out.2 h0
    go_wp2_with (first|(go_at_call 220;((with_reducible refine (HK.out).mono ?_);rintro e w1 ⟨rfl,b1,kc1,q1⟩;obtain⟨y0,y1⟩:=cells2 (kc1.row _ _ _ _ (heap_alloc_last wr _));have hS:=((hI.out.kc.trans (KC.of (L8.bnew wr _))).trans kc1).row _ _ _ _ HS.out;clear a0 a1))|(refine wpList_store_row rfl _ _ _ rfl (w.heap.size+1) #[.bool false,.int .i64 (kk:Int)] rfl rfl 147 _ hS (by kernel_rfl) rfl (by simp [Value.oneCell']) ?_))
    obtain⟨z0,z1⟩:=cells2 (setRow_heap _ _ _ #[.bool false,.int .i64 (kk:Int)] _ _ hS)
    exact bodyPost_ret (v:=.tuple #[.agg #[.bool false,.int .i64 (kk:Int)],.int .i64 ee]) (by simp [results,Tryz.results92,go_sem,z0,z1]) rfl ⟨rfl,below_setRow b1 (by omega) _⟩
  ·have a0:=cell_row (i:=14) (v:=.bool false) hg rfl
   have a1:=cell_row (i:=15) (v:=.func (.func 220) #[] #[.pointer (some ⟨b8,0,none⟩),.pointer (some ⟨f8,0,none⟩)]) hg rfl
   have hq:=frB_drop (cnd p) 7 (false,fe (p.stmts.map wrE)) rfl _ hL.out
   have HK:=Lib.hid (H7.out (wr.alloc (.cells #[.bool false,.func (.func 220) #[] #[.pointer (some ⟨b8,0,none⟩),.pointer (some ⟨f8,0,none⟩)]] 194)) (hI.out.below (L8.bnew wr _)))
   have hkg:=World.block_lt_of_cell? wr _ a0
   clear hg
   generalize fe (p.stmts.map wrE)=R at hq HK
   obtain⟨kk,ee⟩:=R
   simp only at hq HK
   have HQ:=Lib.hid hq
   clear hq hL
   by_cases h0:ee=0
   ·subst h0
    go_wp2_with (go_at_call 220;((with_reducible refine (HK.out).mono ?_);rintro e w1 ⟨rfl,b1,kc1,q1⟩))
    go_roundw
    case rel=>exact⟨8,by omega,by go_num,Lib.hid (q1 (by trivial)),Lib.hid (HQ.out.1 (by trivial))⟩
    case measure=>simp [intOf]
   ·obtain rfl:=HQ.out.2 h0
    go_wp2_with (first|(go_at_call 220;((with_reducible refine (HK.out).mono ?_);rintro e w1 ⟨rfl,b1,kc1,q1⟩;obtain⟨y0,y1⟩:=cells2 (kc1.row _ _ _ _ (heap_alloc_last wr _));have hS:=((hI.out.kc.trans (KC.of (L8.bnew wr _))).trans kc1).row _ _ _ _ HS.out;clear a0 a1))|(refine wpList_store_row rfl _ _ _ rfl (w.heap.size+1) #[.bool false,.int .i64 (kk:Int)] rfl rfl 147 _ hS (by kernel_rfl) rfl (by simp [Value.oneCell']) ?_))
    obtain⟨z0,z1⟩:=cells2 (setRow_heap _ _ _ #[.bool false,.int .i64 (kk:Int)] _ _ hS)
    exact bodyPost_ret (v:=.tuple #[.agg #[.bool false,.int .i64 (kk:Int)],.int .i64 ee]) (by simp [results,Tryz.results92,go_sem,z0,z1]) rfl ⟨rfl,below_setRow b1 (by omega) _⟩
  ·have a0:=cell_row (i:=16) (v:=.bool false) hg rfl
   have a1:=cell_row (i:=17) (v:=.func (.func 220) #[] #[.pointer (some ⟨b9,0,none⟩),.pointer (some ⟨f9,0,none⟩)]) hg rfl
   have hq:=frB_drop (cnd p) 8 (false,fe (p.stmts.mapIdx (enE p.stmts.length))) rfl _ hL.out
   have HK:=Lib.hid (H8.out (wr.alloc (.cells #[.bool false,.func (.func 220) #[] #[.pointer (some ⟨b9,0,none⟩),.pointer (some ⟨f9,0,none⟩)]] 194)) (hI.out.below (L8.bnew wr _)))
   have hkg:=World.block_lt_of_cell? wr _ a0
   clear hg
   generalize fe (p.stmts.mapIdx (enE p.stmts.length))=R at hq HK
   obtain⟨kk,ee⟩:=R
   simp only at hq HK
   have HQ:=Lib.hid hq
   clear hq hL
   by_cases h0:ee=0
   ·subst h0
    go_wp2_with (go_at_call 220;((with_reducible refine (HK.out).mono ?_);rintro e w1 ⟨rfl,b1,kc1,q1⟩))
    go_roundw
    case rel=>exact⟨9,by omega,by go_num,Lib.hid (q1 (by trivial)),Lib.hid (HQ.out.1 (by trivial))⟩
    case measure=>simp [intOf]
   ·obtain rfl:=HQ.out.2 h0
    go_wp2_with (first|(go_at_call 220;((with_reducible refine (HK.out).mono ?_);rintro e w1 ⟨rfl,b1,kc1,q1⟩;obtain⟨y0,y1⟩:=cells2 (kc1.row _ _ _ _ (heap_alloc_last wr _));have hS:=((hI.out.kc.trans (KC.of (L8.bnew wr _))).trans kc1).row _ _ _ _ HS.out;clear a0 a1))|(refine wpList_store_row rfl _ _ _ rfl (w.heap.size+1) #[.bool false,.int .i64 (kk:Int)] rfl rfl 147 _ hS (by kernel_rfl) rfl (by simp [Value.oneCell']) ?_))
    obtain⟨z0,z1⟩:=cells2 (setRow_heap _ _ _ #[.bool false,.int .i64 (kk:Int)] _ _ hS)
    exact bodyPost_ret (v:=.tuple #[.agg #[.bool false,.int .i64 (kk:Int)],.int .i64 ee]) (by simp [results,Tryz.results92,go_sem,z0,z1]) rfl ⟨rfl,below_setRow b1 (by omega) _⟩
  ·have hr:rr=(false,0,0):=by rw [← hL.out];rfl
   subst hr
   have hS:=hI.out.kc.row _ _ _ _ HS.out
   have hb:=hI.out.bel
   clear hg hL
   go_wp2_with (refine wpList_store_row rfl _ _ _ rfl (w.heap.size+1) #[.bool false,.int .i64 0] rfl rfl 147 _ hS (by kernel_rfl) rfl (by simp [Value.oneCell']) ?_)
   obtain⟨z0,z1⟩:=cells2 (setRow_heap _ _ _ #[.bool false,.int .i64 0] _ _ hS)
   exact bodyPost_ret (v:=.tuple #[.agg #[.bool false,.int .i64 0],.int .i64 0]) (by simp [results,Tryz.results92,go_sem,z0,z1]) rfl ⟨rfl,below_setRow hb (by omega) _⟩
theorem check_at (vm vs:Value) (p:Pg) (w:World) (hp:PgAt w vm vs p) (hf:Fits p) (hT:L1.Wid w∧L2.Regs w) (b:Bool) (k:Nat) (er:Int) (hr:brV p=(b,k,er)) :
  Calls Tryz.prog 56 #[.agg #[vm,vs]] w fun e w'=>e=.returned (.tuple #[.int .i64 (k:Int),.int .i64 er])∧Below w.heap.size w w':=by
 have HB:=Lib.hid (fun (W:World) (hb:Below w.heap.size w W)=>breach_at vm vs p W (hp.below hb) hf ⟨L4.wid_below hT.1 hb,hT.2.below hb⟩ _ hr)
 obtain⟨nm,hnm⟩:∃ n,p.maps.length=n:=⟨_,rfl⟩
 obtain⟨am,cm,rfl,-⟩:=df_form hnm hp.1
 obtain⟨ns,hns⟩:∃ n,p.stmts.length=n:=⟨_,rfl⟩
 obtain⟨at2,cs,rfl,-⟩:=sm_form hns hp.2
 clear hp hf hT hr hnm hns
 go_enter Tryz.func56,Tryz.ntmps56
 go_wp2_with (go_at_call 92;((with_reducible refine (HB.out _ (L8.bnew w _)).mono ?_);rintro e w1 ⟨rfl,b1⟩))
 go_ret2
 exact⟨rfl,L2.bch (L2.bch (L8.bnew w _) b1) (L8.bnew _ _)⟩
end Go.Proofs.YtdgnjhhieemcaaaGreatDoor.L10
