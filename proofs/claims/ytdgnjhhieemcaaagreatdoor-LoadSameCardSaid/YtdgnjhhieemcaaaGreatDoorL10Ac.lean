/- What the reader's addCode does. Condition: memory holds the reader, whose rows are the call's own. -/
import Derived.Test.YtdgnjhhieemcaaaGreatDoorM18
set_option maxRecDepth 100000
set_option maxHeartbeats 8000000
namespace Go.Proofs.YtdgnjhhieemcaaaGreatDoor.L10
open Go.RowKit Go.Maps
attribute [local go_sem] Oper.semAt_some
theorem cells8 {w:World} {k:Nat} {a b c d e f g h:Value} {t:TypeId} (hh:w.heap[k]?=some (.cells #[a,b,c,d,e,f,g,h] t)) :
  w.cell? ⟨k,0,none⟩=some a∧w.cell? ⟨k,1,none⟩=some b∧w.cell? ⟨k,2,none⟩=some c∧w.cell? ⟨k,3,none⟩=some d∧w.cell? ⟨k,4,none⟩=some e∧w.cell? ⟨k,5,none⟩=some f∧w.cell? ⟨k,6,none⟩=some g∧w.cell? ⟨k,7,none⟩=some h:=by
 simp [World.cell?,hh]
theorem keep1 {w:World} {kb kr:Nat} {a b c d e f g h i:Value} {cs:Array Value} {t t':TypeId} (hh:w.heap[kb]?=some (.cells #[a,b,c,d,e,f,g,h] t)) (hr:w.heap[kr]?=some (.cells cs t')) (hi:cs[4]?=some i) :
  w.cell? ⟨kb,0,none⟩=some a∧w.cell? ⟨kb,1,none⟩=some b∧w.cell? ⟨kb,2,none⟩=some c∧w.cell? ⟨kb,3,none⟩=some d∧w.cell? ⟨kb,4,none⟩=some e∧w.cell? ⟨kb,5,none⟩=some f∧w.cell? ⟨kb,6,none⟩=some g∧w.cell? ⟨kb,7,none⟩=some h∧w.cell? ⟨kr,4,none⟩=some i:=by
 obtain⟨h0,h1,h2,h3,h4,h5,h6,h7⟩:=cells8 hh
 exact⟨h0,h1,h2,h3,h4,h5,h6,h7,cell_row hr hi⟩
theorem RdR.fresh {B:Nat} {W W':World} {vm vs mv sv lv:Value} {l:List (Value × Stm)} {s:Rd} {k H:Nat} {cs:Array Value} (h:RdR B W vm vs mv sv lv l s) (hg:W.grownBy W' (some k)) (hH:H≤k) (hlt:∀ g,vs.ownBlock=some g→g<H) (hk:W.heap[k]?=some (.cells cs 65)):RdR B W' vm vs mv sv lv l s:=by
 have key:∀ {e:TypeId} {g:Nat} {cur:Array Value} {fr:Nat × Nat},W.heap[g]?=some (.cells cur e fr)→e≠65→some k≠some g:=by
  intro e g cur fr hh he e'
  cases e'
  rw [hk] at hh
  cases hh
  exact he rfl
 refine⟨own_kept h.om hg fun g hv=>?_,own_kept h.os hg fun g hv e=>?_,own_kept h.oml hg fun g hv=>?_,own_kept h.osl hg fun g hv=>?_,own_kept h.ol hg fun g hv=>?_,fun x hx=>(h.lb x hx).kept hg fun g hv=>?_,h.nl,h.ne,h.st⟩
 ·obtain⟨c,hc⟩:=own_ty h.om hv;exact key hc (by decide)
 ·cases e;have:=hlt k hv;omega
 ·obtain⟨c,hc⟩:=own_ty h.oml hv;exact key hc (by decide)
 ·obtain⟨c,hc⟩:=own_ty h.osl hv;exact key hc (by decide)
 ·obtain⟨c,hc⟩:=own_ty h.ol hv;exact key hc (by decide)
 ·obtain⟨c,fr,hc⟩:=(h.lb x hx).2 g hv;exact key hc (by decide)
theorem addCode_at (B kr:Nat) (x:L9.Ins) (tg mp:ByteArray) (l:List (Value × Stm)) (s:Rd) (w:World) (h:RdM B kr w l s) (hB:B≤w.heap.size) (hm:l.length≤100000) (hml:s.sl.length≤100000) :
  Calls Tryz.prog 131 #[.pointer (some ⟨kr,0,none⟩),.agg #[.int .i64 x.op,.bool x.reg,.int .i64 x.dst,.int .i64 x.src,.int .i64 x.off,.int .i64 x.imm,.string tg,.string mp]] w fun e w'=>e=.returned (.tuple #[])∧(∃ lv,RdM B kr w' (l++[(lv,⟨s.labs,x,tg,mp⟩)]) (s.cod x tg mp))∧Fk kr B w w'∧KT w w':=by
 obtain⟨i0,hi,hz0,hz1,hz2⟩:=info_parts infoS
 obtain⟨j0,hj,hy0,hy1,hy2⟩:=info_parts infoI
 obtain⟨vm,vs,mv,sv,lv,hrow,hR⟩:=h
 obtain⟨n,hn⟩:∃ n,s.labs.length=n:=⟨_,rfl⟩
 obtain⟨q,hq⟩:∃ q,l.length=q:=⟨_,rfl⟩
 obtain⟨m,hmm⟩:∃ m,s.sl.length=m:=⟨_,rfl⟩
 rw [hq] at hm
 rw [hmm] at hml
 have hlt:∀ g,vs.ownBlock=some g→g<w.heap.size:=fun g hg=>(hR.os.lt g hg).2
 obtain⟨la,lc,rfl⟩:=L8.owns_slice hR.ol
 obtain⟨sa,sc,rfl⟩:=L8.owns_slice hR.os
 obtain⟨na,nc,rfl⟩:=L8.owns_slice hR.osl
 rw [hn,hq,hmm] at hrow hR
 rw [hq] at hlt
 have hb0:=heap_alloc_last w (.cells #[.int .i64 x.op,.bool x.reg,.int .i64 x.dst,.int .i64 x.src,.int .i64 x.off,.int .i64 x.imm,.string tg,.string mp] 211)
 have hrow0:=L8.row_up hrow (L8.bnew w (.cells #[.int .i64 x.op,.bool x.reg,.int .i64 x.dst,.int .i64 x.src,.int .i64 x.off,.int .i64 x.imm,.string tg,.string mp] 211))
 have hR0:=hR.below (L8.bnew w (.cells #[.int .i64 x.op,.bool x.reg,.int .i64 x.dst,.int .i64 x.src,.int .i64 x.off,.int .i64 x.imm,.string tg,.string mp] 211))
 have hB0:Fk kr B w (w.alloc (.cells #[.int .i64 x.op,.bool x.reg,.int .i64 x.dst,.int .i64 x.src,.int .i64 x.off,.int .i64 x.imm,.string tg,.string mp] 211)):=(Fk.refl kr B w).alloc hB _
 have hT0:=KT.below (L8.bnew w (.cells #[.int .i64 x.op,.bool x.reg,.int .i64 x.dst,.int .i64 x.src,.int .i64 x.off,.int .i64 x.imm,.string tg,.string mp] 211))
 have hsz0:w.heap.size≤(w.alloc (.cells #[.int .i64 x.op,.bool x.reg,.int .i64 x.dst,.int .i64 x.src,.int .i64 x.off,.int .i64 x.imm,.string tg,.string mp] 211)).heap.size:=by simp
 obtain⟨kb,hkb⟩:∃ kb,kb=w.heap.size:=⟨_,rfl⟩
 have hkrb:kr<kb:=by rw [hkb];exact lt_of_block hrow
 go_enter Tryz.func131,Tryz.ntmps131
 go_upto_region 1 with (fail)
 rw [← hkb] at hb0 hlt hsz0 ⊢
 clear hkb hrow hR
 generalize w.alloc (.cells #[.int .i64 x.op,.bool x.reg,.int .i64 x.dst,.int .i64 x.src,.int .i64 x.off,.int .i64 x.imm,.string tg,.string mp] 211)=W at hb0 hrow0 hR0 hB0 hT0 hsz0 ⊢
 have hb1:=L8.row_up hb0 (drew_below W)
 have hrow1:=L8.row_up hrow0 (drew_below W)
 have hR1:=hR0.below (drew_below W)
 have hB1:=hB0.drew
 have hT1:=hT0.trans (KT.below (drew_below W))
 have hsz1:kb≤W.drew.heap.size:=Nat.le_trans hsz0 (drew_below W).size
 clear hb0 hrow0 hR0 hB0 hT0 hsz0
 refine wp_region_noPanic ?_
 refine wp_region_held_drew (S:=fun W=>W.cell? ⟨kb,0,none⟩=some (.int .i64 x.op)∧W.cell? ⟨kb,1,none⟩=some (.bool x.reg)∧W.cell? ⟨kb,2,none⟩=some (.int .i64 x.dst)∧W.cell? ⟨kb,3,none⟩=some (.int .i64 x.src)∧W.cell? ⟨kb,4,none⟩=some (.int .i64 x.off)∧W.cell? ⟨kb,5,none⟩=some (.int .i64 x.imm)∧W.cell? ⟨kb,6,none⟩=some (.string tg)∧W.cell? ⟨kb,7,none⟩=some (.string mp)∧W.cell? ⟨kr,4,none⟩=some (.slice la n lc)) (by kernel_rfl) (keep1 hb1 hrow1 rfl) (fun hH=>?_)
 generalize W.drew=Wd at hb1 hrow1 hR1 hB1 hT1 hH hsz1 ⊢
 refine wpAnyH_take (i:=0) (oi:={ dst:=some 5,op:=Op.move (Operand.tmp 0),type:=198,pos := "reader.go:54",after:=#[],guard:=none }) (v:=.pointer (some ⟨kr,0,none⟩)) rfl (by kernel_rfl) (by kernel_rfl) (by kernel_rfl) (fun _ _ _ h=>h) (Or.inl ⟨by rfl,fun wS hS=>(by go_simp)⟩) hH ?_
 simp only [zz]
 refine wpAnyH_take (i:=1) (oi:={ dst:=some 6,op:=Op.nilCheck (Operand.tmp 5),type:=0,pos := "reader.go:54",after:=#[{ on:=0,ground:=Ground.data }],guard:=none }) (v:=.pointer (some ⟨kr,0,none⟩)) rfl (by kernel_rfl) (by kernel_rfl) (by kernel_rfl) (fun _ _ _ h=>h) (Or.inl ⟨by rfl,fun wS hS=>(by go_simp)⟩) hH ?_
 simp only [zz]
 refine wpAnyH_take (i:=2) (oi:={ dst:=some 7,op:=Op.fieldAddr 151 (Operand.tmp 6) 3,type:=0,pos := "reader.go:54",after:=#[{ on:=1,ground:=Ground.data }],guard:=none }) (v:=.pointer (some ⟨kr,4,none⟩)) rfl (by kernel_rfl) (by kernel_rfl) (by kernel_rfl) (fun _ _ _ h=>h) (Or.inl ⟨by rfl,fun wS hS=>(by go_simp)⟩) hH ?_
 simp only [zz]
 refine wpAnyH_take (i:=3) (oi:={ dst:=some 8,op:=Op.load 63 (Operand.tmp 7),type:=63,pos := "reader.go:54",after:=#[{ on:=2,ground:=Ground.data }],guard:=none }) (v:=.slice la n lc) rfl (by kernel_rfl) (by kernel_rfl) (by kernel_rfl) (fun _ _ _ h=>h) (Or.inl ⟨by rfl,fun wS hS=>(by obtain⟨d0,d1,d2,d3,d4,d5,d6,d7,d8⟩:=hS;go_simp)⟩) hH ?_
 simp only [zz]
 refine wpAnyH_take (i:=4) (oi:={ dst:=some 9,op:=Op.fieldAddr 211 (Operand.tmp 3) 0,type:=0,pos := "reader.go:54",after:=#[],guard:=none }) (v:=.pointer (some ⟨kb,0,none⟩)) rfl (by kernel_rfl) (by kernel_rfl) (by kernel_rfl) (fun _ _ _ h=>h) (Or.inl ⟨by rfl,fun wS hS=>(by go_simp)⟩) hH ?_
 simp only [zz]
 refine wpAnyH_take (i:=5) (oi:={ dst:=some 10,op:=Op.load 45 (Operand.tmp 9),type:=45,pos := "reader.go:54",after:=#[{ on:=4,ground:=Ground.data }],guard:=none }) (v:=.agg #[.int .i64 x.op,.bool x.reg,.int .i64 x.dst,.int .i64 x.src,.int .i64 x.off,.int .i64 x.imm]) rfl (by kernel_rfl) (by kernel_rfl) (by kernel_rfl) (fun _ _ _ h=>h) (Or.inl ⟨by rfl,fun wS hS=>(by obtain⟨d0,d1,d2,d3,d4,d5,d6,d7,d8⟩:=hS;go_simp)⟩) hH ?_
 simp only [zz]
 refine wpAnyH_take (i:=6) (oi:={ dst:=some 11,op:=Op.fieldAddr 211 (Operand.tmp 3) 1,type:=0,pos := "reader.go:54",after:=#[],guard:=none }) (v:=.pointer (some ⟨kb,6,none⟩)) rfl (by kernel_rfl) (by kernel_rfl) (by kernel_rfl) (fun _ _ _ h=>h) (Or.inl ⟨by rfl,fun wS hS=>(by go_simp)⟩) hH ?_
 simp only [zz]
 refine wpAnyH_take (i:=7) (oi:={ dst:=some 12,op:=Op.load 9 (Operand.tmp 11),type:=9,pos := "reader.go:54",after:=#[{ on:=6,ground:=Ground.data }],guard:=none }) (v:=.string tg) rfl (by kernel_rfl) (by kernel_rfl) (by kernel_rfl) (fun _ _ _ h=>h) (Or.inl ⟨by rfl,fun wS hS=>(by obtain⟨d0,d1,d2,d3,d4,d5,d6,d7,d8⟩:=hS;go_simp)⟩) hH ?_
 simp only [zz]
 refine wpAnyH_take (i:=8) (oi:={ dst:=some 13,op:=Op.fieldAddr 211 (Operand.tmp 3) 2,type:=0,pos := "reader.go:54",after:=#[],guard:=none }) (v:=.pointer (some ⟨kb,7,none⟩)) rfl (by kernel_rfl) (by kernel_rfl) (by kernel_rfl) (fun _ _ _ h=>h) (Or.inl ⟨by rfl,fun wS hS=>(by go_simp)⟩) hH ?_
 simp only [zz]
 refine wpAnyH_take (i:=9) (oi:={ dst:=some 14,op:=Op.load 9 (Operand.tmp 13),type:=9,pos := "reader.go:54",after:=#[{ on:=8,ground:=Ground.data }],guard:=none }) (v:=.string mp) rfl (by kernel_rfl) (by kernel_rfl) (by kernel_rfl) (fun _ _ _ h=>h) (Or.inl ⟨by rfl,fun wS hS=>(by obtain⟨d0,d1,d2,d3,d4,d5,d6,d7,d8⟩:=hS;go_simp)⟩) hH ?_
 simp only [zz]
 refine wpAnyH_take (i:=10) (oi:={ dst:=some 15,op:=Op.build 65 #[(0,Operand.tmp 8),(1,Operand.tmp 10),(2,Operand.tmp 12),(3,Operand.tmp 14)],type:=65,pos := "reader.go:54",after:=#[{ on:=3,ground:=Ground.data },{ on:=5,ground:=Ground.data },{ on:=7,ground:=Ground.data },{ on:=9,ground:=Ground.data }],guard:=none }) (v:=.agg #[.slice la n lc,.int .i64 x.op,.bool x.reg,.int .i64 x.dst,.int .i64 x.src,.int .i64 x.off,.int .i64 x.imm,.string tg,.string mp]) rfl (by kernel_rfl) (by kernel_rfl) (by kernel_rfl) (fun _ _ _ h=>h) (Or.inl ⟨by rfl,fun wS hS=>(by go_simp)⟩) hH ?_
 simp only [zz]
 refine wpAnyH_ready (rs:=[11]) (by kernel_rfl) (by simp) ?_
 refine AllReadyH.cons (o:={ dst:=some 4,op:=Op.alloc 65,type:=0,pos := "reader.go:54",after:=#[],guard:=none }) rfl (fun K hK=>?_) AllReadyH.nil
 go_simp
 have hrow2:=L8.row_up hrow1 (L8.bnew Wd (.cells #[.slice none 0 0,.int .i64 0,.bool false,.int .i64 0,.int .i64 0,.int .i64 0,.int .i64 0,.string ⟨#[]⟩,.string ⟨#[]⟩] 65))
 have hR2:=hR1.below (L8.bnew Wd (.cells #[.slice none 0 0,.int .i64 0,.bool false,.int .i64 0,.int .i64 0,.int .i64 0,.int .i64 0,.string ⟨#[]⟩,.string ⟨#[]⟩] 65))
 have hb2:=L8.row_up hb1 (L8.bnew Wd (.cells #[.slice none 0 0,.int .i64 0,.bool false,.int .i64 0,.int .i64 0,.int .i64 0,.int .i64 0,.string ⟨#[]⟩,.string ⟨#[]⟩] 65))
 have hn2:=heap_alloc_last Wd (.cells #[.slice none 0 0,.int .i64 0,.bool false,.int .i64 0,.int .i64 0,.int .i64 0,.int .i64 0,.string ⟨#[]⟩,.string ⟨#[]⟩] 65)
 have hB2:=(hB1.alloc (Nat.le_trans hB hB1.size) (.cells #[.slice none 0 0,.int .i64 0,.bool false,.int .i64 0,.int .i64 0,.int .i64 0,.int .i64 0,.string ⟨#[]⟩,.string ⟨#[]⟩] 65))
 have hT2:=hT1.trans (KT.below (L8.bnew Wd (.cells #[.slice none 0 0,.int .i64 0,.bool false,.int .i64 0,.int .i64 0,.int .i64 0,.int .i64 0,.string ⟨#[]⟩,.string ⟨#[]⟩] 65)))
 refine hK.out _ _ (keep1 hb2 hrow2 rfl) (fun hH2=>?_)
 have hkr4:kr<Wd.heap.size:=lt_of_block hrow1
 have hBk4:B≤Wd.heap.size:=Nat.le_trans hB hB1.size
 have hkb4:kb<Wd.heap.size:=lt_of_block hb1
 clear hK K hb1 hrow1 hR1 hB1 hT1 hH
 obtain⟨k4,hk4⟩:∃ k4,Wd.heap.size=k4:=⟨_,rfl⟩
 rw [hk4] at hn2 hsz1 hkr4 hkb4 hBk4 ⊢
 generalize Wd.alloc (.cells #[.slice none 0 0,.int .i64 0,.bool false,.int .i64 0,.int .i64 0,.int .i64 0,.int .i64 0,.string ⟨#[]⟩,.string ⟨#[]⟩] 65)=W2 at hb2 hrow2 hR2 hn2 hB2 hT2 hH2 ⊢
 clear hk4
 (try simp only [zz])
 refine wpAnyH_ready (rs:=[12]) (by kernel_rfl) (by simp) ?_
 refine AllReadyH.cons (o:={ dst:=none,op:=Op.store 65 (Operand.tmp 4) (Operand.tmp 15),type:=0,pos := "reader.go:54",after:=#[{ on:=11,ground:=Ground.data },{ on:=10,ground:=Ground.data },{ on:=0,ground:=Ground.phase },{ on:=1,ground:=Ground.phase },{ on:=2,ground:=Ground.phase },{ on:=3,ground:=Ground.phase },{ on:=4,ground:=Ground.phase },{ on:=5,ground:=Ground.phase },{ on:=6,ground:=Ground.phase },{ on:=7,ground:=Ground.phase },{ on:=8,ground:=Ground.phase },{ on:=9,ground:=Ground.phase },{ on:=10,ground:=Ground.phase },{ on:=11,ground:=Ground.phase }],guard:=none }) rfl (fun K hK=>?_) AllReadyH.nil
 simp only [Region.wanted,if_true]
 refine wp_store_row _ _ _ rfl k4 #[.slice la n lc,.int .i64 x.op,.bool x.reg,.int .i64 x.dst,.int .i64 x.src,.int .i64 x.off,.int .i64 x.imm,.string tg,.string mp] rfl rfl 65 _ hn2 (by kernel_rfl) rfl (by simp [Value.oneCell']) ?_
 have hg3:W2.grownBy (W2.setRow k4 #[.slice la n lc,.int .i64 x.op,.bool x.reg,.int .i64 x.dst,.int .i64 x.src,.int .i64 x.off,.int .i64 x.imm,.string tg,.string mp]) (some k4):=⟨rfl,rfl,rfl,by simp [World.setRow],fun y _ hne=>setRow_other W2 k4 y _ (fun e=>hne (by rw [e]))⟩
 have hn3:=setRow_heap W2 k4 _ #[.slice la n lc,.int .i64 x.op,.bool x.reg,.int .i64 x.dst,.int .i64 x.src,.int .i64 x.off,.int .i64 x.imm,.string tg,.string mp] _ _ hn2
 have hrow3:(W2.setRow k4 #[.slice la n lc,.int .i64 x.op,.bool x.reg,.int .i64 x.dst,.int .i64 x.src,.int .i64 x.off,.int .i64 x.imm,.string tg,.string mp]).heap[kr]?=_:=(setRow_other W2 k4 kr _ (by omega)).trans hrow2
 have hb3:(W2.setRow k4 #[.slice la n lc,.int .i64 x.op,.bool x.reg,.int .i64 x.dst,.int .i64 x.src,.int .i64 x.off,.int .i64 x.imm,.string tg,.string mp]).heap[kb]?=_:=(setRow_other W2 k4 kb _ (by omega)).trans hb2
 have hR3:=hR2.fresh hg3 hsz1 hlt hn2
 have hB3:=Fk.setRow hB2 hBk4 #[.slice la n lc,.int .i64 x.op,.bool x.reg,.int .i64 x.dst,.int .i64 x.src,.int .i64 x.off,.int .i64 x.imm,.string tg,.string mp]
 have hT3:=hT2.trans (KT.gr hg3 hn2 (by decide))
 refine hK.out _ _ (keep1 hb3 hrow3 rfl) (fun hH3=>?_)
 clear hK K hb2 hrow2 hR2 hn2 hB2 hT2 hH2 hb3 hH3 hg3
 generalize W2.setRow k4 #[.slice la n lc,.int .i64 x.op,.bool x.reg,.int .i64 x.dst,.int .i64 x.src,.int .i64 x.off,.int .i64 x.imm,.string tg,.string mp]=W3 at hn3 hrow3 hR3 hB3 hT3 ⊢
 (try simp only [Act.put])
 refine wpAnyH_done (by kernel_rfl) ?_ _
 refine NoPanic.normal ?_
 go_upto_region 2 with (fail)
 have hn4:=L8.row_up hn3 (drew_below W3)
 have hrow4:=L8.row_up hrow3 (drew_below W3)
 have hR4:=hR3.below (drew_below W3)
 have hB4:=hB3.drew
 have hT4:=hT3.trans (KT.below (drew_below W3))
 clear hn3 hrow3 hR3 hB3 hT3
 refine wp_region_noPanic ?_
 refine wp_region_held_drew (S:=fun W=>W.cell? ⟨k4,0,none⟩=some (.slice la n lc)∧W.cell? ⟨k4,1,none⟩=some (.int .i64 x.op)∧W.cell? ⟨k4,2,none⟩=some (.bool x.reg)∧W.cell? ⟨k4,3,none⟩=some (.int .i64 x.dst)∧W.cell? ⟨k4,4,none⟩=some (.int .i64 x.src)∧W.cell? ⟨k4,5,none⟩=some (.int .i64 x.off)∧W.cell? ⟨k4,6,none⟩=some (.int .i64 x.imm)∧W.cell? ⟨k4,7,none⟩=some (.string tg)∧W.cell? ⟨k4,8,none⟩=some (.string mp)) (by kernel_rfl) (cells9 hn4) (fun hH=>?_)
 generalize W3.drew=Wd at hn4 hrow4 hR4 hB4 hT4 hH ⊢
 refine wpAnyH_take (i:=0) (oi:={ dst:=some 16,op:=Op.move (Operand.tmp 0),type:=198,pos := "reader.go:55",after:=#[],guard:=none }) (v:=.pointer (some ⟨kr,0,none⟩)) rfl (by kernel_rfl) (by kernel_rfl) (by kernel_rfl) (fun _ _ _ h=>h) (Or.inl ⟨by rfl,fun wS hS=>(by go_simp)⟩) hH ?_
 simp only [zz]
 refine wpAnyH_take (i:=1) (oi:={ dst:=some 17,op:=Op.move (Operand.tmp 0),type:=198,pos := "reader.go:55",after:=#[],guard:=none }) (v:=.pointer (some ⟨kr,0,none⟩)) rfl (by kernel_rfl) (by kernel_rfl) (by kernel_rfl) (fun _ _ _ h=>h) (Or.inl ⟨by rfl,fun wS hS=>(by go_simp)⟩) hH ?_
 simp only [zz]
 refine wpAnyH_take (i:=2) (oi:={ dst:=some 18,op:=Op.nilCheck (Operand.tmp 17),type:=0,pos := "reader.go:55",after:=#[{ on:=1,ground:=Ground.data }],guard:=none }) (v:=.pointer (some ⟨kr,0,none⟩)) rfl (by kernel_rfl) (by kernel_rfl) (by kernel_rfl) (fun _ _ _ h=>h) (Or.inl ⟨by rfl,fun wS hS=>(by go_simp)⟩) hH ?_
 simp only [zz]
 refine wpAnyH_take (i:=3) (oi:={ dst:=some 19,op:=Op.fieldAddr 151 (Operand.tmp 18) 0,type:=0,pos := "reader.go:55",after:=#[{ on:=2,ground:=Ground.data }],guard:=none }) (v:=.pointer (some ⟨kr,0,none⟩)) rfl (by kernel_rfl) (by kernel_rfl) (by kernel_rfl) (fun _ _ _ h=>h) (Or.inl ⟨by rfl,fun wS hS=>(by go_simp)⟩) hH ?_
 simp only [zz]
 refine wpAnyH_take (i:=4) (oi:={ dst:=some 20,op:=Op.fieldAddr 58 (Operand.tmp 19) 1,type:=0,pos := "reader.go:55",after:=#[{ on:=3,ground:=Ground.data }],guard:=none }) (v:=.pointer (some ⟨kr,1,none⟩)) rfl (by kernel_rfl) (by kernel_rfl) (by kernel_rfl) (fun _ _ _ h=>h) (Or.inl ⟨by rfl,fun wS hS=>(by go_simp)⟩) hH ?_
 simp only [zz]
 refine wpAnyH_take (i:=6) (oi:={ dst:=some 22,op:=Op.load 65 (Operand.tmp 4),type:=65,pos := "reader.go:55",after:=#[],guard:=none }) (v:=.agg #[.slice la n lc,.int .i64 x.op,.bool x.reg,.int .i64 x.dst,.int .i64 x.src,.int .i64 x.off,.int .i64 x.imm,.string tg,.string mp]) rfl (by kernel_rfl) (by kernel_rfl) (by kernel_rfl) (fun _ _ _ h=>h) (Or.inl ⟨by rfl,fun wS hS=>(by obtain⟨d0,d1,d2,d3,d4,d5,d6,d7,d8⟩:=hS;go_simp)⟩) hH ?_
 simp only [zz]
 refine wpAnyH_ready (rs:=[5,7]) (by kernel_rfl) (by simp) ?_
 refine AllReadyH.cons (o:={ dst:=some 21,op:=Op.load 56 (Operand.tmp 20),type:=56,pos := "reader.go:55",after:=#[{ on:=4,ground:=Ground.data }],guard:=none }) rfl (fun K hK=>?_) (AllReadyH.cons (o:={ dst:=some 23,op:=Op.buildSlice 56 1 #[(0,Operand.tmp 22)],type:=56,pos := "reader.go:55",after:=#[{ on:=6,ground:=Ground.data }],guard:=none }) rfl (fun K hK=>?_) AllReadyH.nil)
 focus
  obtain⟨x0,x1,x2,x3,x4,x5,x6⟩:=cells7 hrow4
  go_simp
  refine hK.out _ _ hH (fun _=>?_)
  clear hK K x0 x1 x2 x3 x4 x5 x6
  (try simp only [zz])
  refine wpAnyH_ready (rs:=[7]) (by kernel_rfl) (by simp) ?_
  refine AllReadyH.cons (o:={ dst:=some 23,op:=Op.buildSlice 56 1 #[(0,Operand.tmp 22)],type:=56,pos := "reader.go:55",after:=#[{ on:=6,ground:=Ground.data }],guard:=none }) rfl (fun K hK=>?_) AllReadyH.nil
  go_simp
  have hn5:=L8.row_up hn4 (L8.bnew Wd (.cells #[.slice la n lc,.int .i64 x.op,.bool x.reg,.int .i64 x.dst,.int .i64 x.src,.int .i64 x.off,.int .i64 x.imm,.string tg,.string mp] 65))
  have hrow5:=L8.row_up hrow4 (L8.bnew Wd (.cells #[.slice la n lc,.int .i64 x.op,.bool x.reg,.int .i64 x.dst,.int .i64 x.src,.int .i64 x.off,.int .i64 x.imm,.string tg,.string mp] 65))
  have hR5:=hR4.below (L8.bnew Wd (.cells #[.slice la n lc,.int .i64 x.op,.bool x.reg,.int .i64 x.dst,.int .i64 x.src,.int .i64 x.off,.int .i64 x.imm,.string tg,.string mp] 65))
  have hw5:=heap_alloc_last Wd (.cells #[.slice la n lc,.int .i64 x.op,.bool x.reg,.int .i64 x.dst,.int .i64 x.src,.int .i64 x.off,.int .i64 x.imm,.string tg,.string mp] 65)
  have hB5:=(hB4.alloc (Nat.le_trans hB hB4.size) (.cells #[.slice la n lc,.int .i64 x.op,.bool x.reg,.int .i64 x.dst,.int .i64 x.src,.int .i64 x.off,.int .i64 x.imm,.string tg,.string mp] 65))
  have hT5:=hT4.trans (KT.below (L8.bnew Wd (.cells #[.slice la n lc,.int .i64 x.op,.bool x.reg,.int .i64 x.dst,.int .i64 x.src,.int .i64 x.off,.int .i64 x.imm,.string tg,.string mp] 65)))
  refine hK.out _ _ (cells9 hn5) (fun hH5=>?_)
  clear hK K hn4 hrow4 hR4 hB4 hT4 hH
  obtain⟨gn,hgn⟩:∃ gn,Wd.heap.size=gn:=⟨_,rfl⟩
  rw [hgn] at hw5 ⊢
  generalize Wd.alloc (.cells #[.slice la n lc,.int .i64 x.op,.bool x.reg,.int .i64 x.dst,.int .i64 x.src,.int .i64 x.off,.int .i64 x.imm,.string tg,.string mp] 65)=W5 at hn5 hrow5 hR5 hw5 hB5 hT5 hH5 ⊢
  clear hgn
  (try simp only [zz])
 rotate_left
 focus
  go_simp
  have hn5:=L8.row_up hn4 (L8.bnew Wd (.cells #[.slice la n lc,.int .i64 x.op,.bool x.reg,.int .i64 x.dst,.int .i64 x.src,.int .i64 x.off,.int .i64 x.imm,.string tg,.string mp] 65))
  have hrow5:=L8.row_up hrow4 (L8.bnew Wd (.cells #[.slice la n lc,.int .i64 x.op,.bool x.reg,.int .i64 x.dst,.int .i64 x.src,.int .i64 x.off,.int .i64 x.imm,.string tg,.string mp] 65))
  have hR5:=hR4.below (L8.bnew Wd (.cells #[.slice la n lc,.int .i64 x.op,.bool x.reg,.int .i64 x.dst,.int .i64 x.src,.int .i64 x.off,.int .i64 x.imm,.string tg,.string mp] 65))
  have hw5:=heap_alloc_last Wd (.cells #[.slice la n lc,.int .i64 x.op,.bool x.reg,.int .i64 x.dst,.int .i64 x.src,.int .i64 x.off,.int .i64 x.imm,.string tg,.string mp] 65)
  have hB5:=(hB4.alloc (Nat.le_trans hB hB4.size) (.cells #[.slice la n lc,.int .i64 x.op,.bool x.reg,.int .i64 x.dst,.int .i64 x.src,.int .i64 x.off,.int .i64 x.imm,.string tg,.string mp] 65))
  have hT5:=hT4.trans (KT.below (L8.bnew Wd (.cells #[.slice la n lc,.int .i64 x.op,.bool x.reg,.int .i64 x.dst,.int .i64 x.src,.int .i64 x.off,.int .i64 x.imm,.string tg,.string mp] 65)))
  refine hK.out _ _ (cells9 hn5) (fun hH5=>?_)
  clear hK K hn4 hrow4 hR4 hB4 hT4 hH
  obtain⟨gn,hgn⟩:∃ gn,Wd.heap.size=gn:=⟨_,rfl⟩
  rw [hgn] at hw5 ⊢
  generalize Wd.alloc (.cells #[.slice la n lc,.int .i64 x.op,.bool x.reg,.int .i64 x.dst,.int .i64 x.src,.int .i64 x.off,.int .i64 x.imm,.string tg,.string mp] 65)=W5 at hn5 hrow5 hR5 hw5 hB5 hT5 hH5 ⊢
  clear hgn
  (try simp only [zz])
  obtain⟨x0,x1,x2,x3,x4,x5,x6⟩:=cells7 hrow5
  refine wpAnyH_ready (rs:=[5]) (by kernel_rfl) (by simp) ?_
  refine AllReadyH.cons (o:={ dst:=some 21,op:=Op.load 56 (Operand.tmp 20),type:=56,pos := "reader.go:55",after:=#[{ on:=4,ground:=Ground.data }],guard:=none }) rfl (fun K hK=>?_) AllReadyH.nil
  go_simp
  refine hK.out _ _ hH5 (fun _=>?_)
  clear hK K x0 x1 x2 x3 x4 x5 x6
  (try simp only [zz])
 all_goals
  refine wpAnyH_ready (rs:=[8]) (by kernel_rfl) (by simp) ?_
  refine AllReadyH.cons (o:={ dst:=some 24,op:=Op.call { callee:=Callee.builtin Builtin.append,args:=#[Operand.tmp 21,Operand.tmp 23],argTypes:=#[56,56] },type:=56,pos := "reader.go:55",after:=#[{ on:=5,ground:=Ground.data },{ on:=7,ground:=Ground.data }],guard:=none }) rfl (fun K hK=>?_) AllReadyH.nil
  have hom:=hR5.os
  rw [hq] at hom
  refine step_append_lies _ (by rfl) _ _ _ (by rfl) B 65 i0 (.agg #[.slice none 0 0,.int .i64 0,.bool false,.int .i64 0,.int .i64 0,.int .i64 0,.int .i64 0,.string ⟨#[]⟩,.string ⟨#[]⟩]) 9 104 Tryz.underlying56 hi hz0 hz1 hz2 rfl (by decide) _ q _ (by rfl) hom ⟨gn,0,none⟩ 1 1 (smL (.slice la n lc) ⟨s.labs,x,tg,mp⟩) (by rfl) (by rfl) (World.news_of_block (cs:=#[.slice la n lc,.int .i64 x.op,.bool x.reg,.int .i64 x.dst,.int .i64 x.src,.int .i64 x.off,.int .i64 x.imm,.string tg,.string mp]) (t:=65) (fr:=(0,0)) hw5) (by simp [Value.oneCell']) (by omega) (by unfold maxLen;omega) (by omega) (Nat.le_trans hB hB5.size) _ rfl ?_
  intro g cap w6 hown6 hgrow6 hat6 hlt6
  have hrow6:=row_own hrow5 hom hgrow6 (by decide)
  have hn6:=own_far hom hlt hn5 hsz1 hgrow6
  have hR6:=hR5.addStm x tg mp (by rw [hq];exact hown6) hgrow6
  rw [hq] at hR6
  have hB6:=hB5.grown hgrow6 (Nat.le_trans hB hB5.size) (own_base2 hom)
  have hT6:=hT5.trans (KT.own hom hgrow6 (by decide))
  refine hK.out _ _ (cells9 hn6) (fun hH6=>?_)
  clear hK K hn5 hrow5 hR5 hw5 hH5 hown6 hgrow6 hat6 hlt6 hom hB5 hT5 hlt
  (try simp only [zz])
  refine wpAnyH_take (i:=9) (oi:={ dst:=some 25,op:=Op.nilCheck (Operand.tmp 16),type:=0,pos := "reader.go:55",after:=#[{ on:=0,ground:=Ground.data },{ on:=0,ground:=Ground.phase },{ on:=1,ground:=Ground.phase },{ on:=2,ground:=Ground.phase },{ on:=3,ground:=Ground.phase },{ on:=4,ground:=Ground.phase },{ on:=5,ground:=Ground.phase },{ on:=6,ground:=Ground.phase },{ on:=7,ground:=Ground.phase },{ on:=8,ground:=Ground.phase }],guard:=none }) (v:=.pointer (some ⟨kr,0,none⟩)) rfl (by kernel_rfl) (by kernel_rfl) (by kernel_rfl) (fun _ _ _ h=>h) (Or.inl ⟨by rfl,fun wS hS=>(by go_simp)⟩) hH6 ?_
  simp only [zz]
  refine wpAnyH_take (i:=10) (oi:={ dst:=some 26,op:=Op.fieldAddr 151 (Operand.tmp 25) 0,type:=0,pos := "reader.go:55",after:=#[{ on:=9,ground:=Ground.data },{ on:=0,ground:=Ground.phase },{ on:=1,ground:=Ground.phase },{ on:=2,ground:=Ground.phase },{ on:=3,ground:=Ground.phase },{ on:=4,ground:=Ground.phase },{ on:=5,ground:=Ground.phase },{ on:=6,ground:=Ground.phase },{ on:=7,ground:=Ground.phase },{ on:=8,ground:=Ground.phase }],guard:=none }) (v:=.pointer (some ⟨kr,0,none⟩)) rfl (by kernel_rfl) (by kernel_rfl) (by kernel_rfl) (fun _ _ _ h=>h) (Or.inl ⟨by rfl,fun wS hS=>(by go_simp)⟩) hH6 ?_
  simp only [zz]
  refine wpAnyH_take (i:=11) (oi:={ dst:=some 27,op:=Op.fieldAddr 58 (Operand.tmp 26) 1,type:=0,pos := "reader.go:55",after:=#[{ on:=10,ground:=Ground.data },{ on:=0,ground:=Ground.phase },{ on:=1,ground:=Ground.phase },{ on:=2,ground:=Ground.phase },{ on:=3,ground:=Ground.phase },{ on:=4,ground:=Ground.phase },{ on:=5,ground:=Ground.phase },{ on:=6,ground:=Ground.phase },{ on:=7,ground:=Ground.phase },{ on:=8,ground:=Ground.phase }],guard:=none }) (v:=.pointer (some ⟨kr,1,none⟩)) rfl (by kernel_rfl) (by kernel_rfl) (by kernel_rfl) (fun _ _ _ h=>h) (Or.inl ⟨by rfl,fun wS hS=>(by go_simp)⟩) hH6 ?_
  simp only [zz]
  obtain⟨x0,x1,x2,x3,x4,x5,x6⟩:=cells7 hrow6
  have fz:=frozen_all hrow6 1
  have hR7:=hR6.rd (gr_setCell w6 kr 1 (.slice (some ⟨g,0,none⟩) (q+1) cap)) hrow6
  have hrow7:=row_set hrow6 1 (.slice (some ⟨g,0,none⟩) (q+1) cap)
  have hB7:=Fk.set hB6 1 (.slice (some ⟨g,0,none⟩) (q+1) cap)
  have hT7:=hT6.trans (KT.gr (gr_setCell w6 kr 1 (.slice (some ⟨g,0,none⟩) (q+1) cap)) hrow6 (by decide))
  have hn7:(w6.setCell ⟨kr,1,none⟩ (.slice (some ⟨g,0,none⟩) (q+1) cap)).heap[k4]?=_:=(Below.heap_setCell _ _ _ _ (show k4≠kr by omega)).trans hn6
  refine wpAnyH_ready (rs:=[12]) (by kernel_rfl) (by simp) ?_
  refine AllReadyH.cons (o:={ dst:=none,op:=Op.store 56 (Operand.tmp 27) (Operand.tmp 24),type:=0,pos := "reader.go:55",after:=#[{ on:=11,ground:=Ground.data },{ on:=8,ground:=Ground.data },{ on:=8,ground:=Ground.chain },{ on:=0,ground:=Ground.phase },{ on:=1,ground:=Ground.phase },{ on:=2,ground:=Ground.phase },{ on:=3,ground:=Ground.phase },{ on:=4,ground:=Ground.phase },{ on:=5,ground:=Ground.phase },{ on:=6,ground:=Ground.phase },{ on:=7,ground:=Ground.phase },{ on:=8,ground:=Ground.phase }],guard:=none }) rfl (fun K hK=>?_) AllReadyH.nil
  go_simp
  refine hK.out _ _ (cells9 hn7) (fun hH7=>?_)
  clear hK K hn6 hrow6 hR6 hB6 hT6 hH6 x0 x1 x2 x3 x4 x5 x6 fz hn7 hH7
  generalize w6.setCell ⟨kr,1,none⟩ (.slice (some ⟨g,0,none⟩) (q+1) cap)=W5 at hrow7 hR7 hB7 hT7 ⊢
  (try simp only [zz])
  refine wpAnyH_done (by kernel_rfl) ?_ _
  refine NoPanic.normal ?_
  go_upto_region 3 with (fail)
  have hrow5:=L8.row_up hrow7 (drew_below W5)
  have hR5:=hR7.below (drew_below W5)
  have hB5:=hB7.drew
  have hT5:=hT7.trans (KT.below (drew_below W5))
  clear hrow7 hR7 hB7 hT7
  refine wp_region_noPanic ?_
  refine wp_region_held_drew (S:=fun W=>W.cell? ⟨kr,6,none⟩=some (.int .i64 s.line)) (by kernel_rfl) ((cells7 hrow5).2.2.2.2.2.2) (fun hH=>?_)
  generalize W5.drew=Wd at hrow5 hR5 hB5 hT5 hH ⊢
  refine wpAnyH_take (i:=0) (oi:={ dst:=some 28,op:=Op.move (Operand.tmp 0),type:=198,pos := "reader.go:56",after:=#[],guard:=none }) (v:=.pointer (some ⟨kr,0,none⟩)) rfl (by kernel_rfl) (by kernel_rfl) (by kernel_rfl) (fun _ _ _ h=>h) (Or.inl ⟨by rfl,fun wS hS=>(by go_simp)⟩) hH ?_
  simp only [zz]
  refine wpAnyH_take (i:=1) (oi:={ dst:=some 29,op:=Op.move (Operand.tmp 0),type:=198,pos := "reader.go:56",after:=#[],guard:=none }) (v:=.pointer (some ⟨kr,0,none⟩)) rfl (by kernel_rfl) (by kernel_rfl) (by kernel_rfl) (fun _ _ _ h=>h) (Or.inl ⟨by rfl,fun wS hS=>(by go_simp)⟩) hH ?_
  simp only [zz]
  refine wpAnyH_take (i:=2) (oi:={ dst:=some 30,op:=Op.nilCheck (Operand.tmp 29),type:=0,pos := "reader.go:56",after:=#[{ on:=1,ground:=Ground.data }],guard:=none }) (v:=.pointer (some ⟨kr,0,none⟩)) rfl (by kernel_rfl) (by kernel_rfl) (by kernel_rfl) (fun _ _ _ h=>h) (Or.inl ⟨by rfl,fun wS hS=>(by go_simp)⟩) hH ?_
  simp only [zz]
  refine wpAnyH_take (i:=3) (oi:={ dst:=some 31,op:=Op.fieldAddr 151 (Operand.tmp 30) 2,type:=0,pos := "reader.go:56",after:=#[{ on:=2,ground:=Ground.data }],guard:=none }) (v:=.pointer (some ⟨kr,3,none⟩)) rfl (by kernel_rfl) (by kernel_rfl) (by kernel_rfl) (fun _ _ _ h=>h) (Or.inl ⟨by rfl,fun wS hS=>(by go_simp)⟩) hH ?_
  simp only [zz]
  refine wpAnyH_take (i:=5) (oi:={ dst:=some 33,op:=Op.move (Operand.tmp 0),type:=198,pos := "reader.go:56",after:=#[],guard:=none }) (v:=.pointer (some ⟨kr,0,none⟩)) rfl (by kernel_rfl) (by kernel_rfl) (by kernel_rfl) (fun _ _ _ h=>h) (Or.inl ⟨by rfl,fun wS hS=>(by go_simp)⟩) hH ?_
  simp only [zz]
  refine wpAnyH_take (i:=6) (oi:={ dst:=some 34,op:=Op.nilCheck (Operand.tmp 33),type:=0,pos := "reader.go:56",after:=#[{ on:=5,ground:=Ground.data }],guard:=none }) (v:=.pointer (some ⟨kr,0,none⟩)) rfl (by kernel_rfl) (by kernel_rfl) (by kernel_rfl) (fun _ _ _ h=>h) (Or.inl ⟨by rfl,fun wS hS=>(by go_simp)⟩) hH ?_
  simp only [zz]
  refine wpAnyH_take (i:=7) (oi:={ dst:=some 35,op:=Op.fieldAddr 151 (Operand.tmp 34) 5,type:=0,pos := "reader.go:56",after:=#[{ on:=6,ground:=Ground.data }],guard:=none }) (v:=.pointer (some ⟨kr,6,none⟩)) rfl (by kernel_rfl) (by kernel_rfl) (by kernel_rfl) (fun _ _ _ h=>h) (Or.inl ⟨by rfl,fun wS hS=>(by go_simp)⟩) hH ?_
  simp only [zz]
  refine wpAnyH_take (i:=8) (oi:={ dst:=some 36,op:=Op.load 3 (Operand.tmp 35),type:=3,pos := "reader.go:56",after:=#[{ on:=7,ground:=Ground.data }],guard:=none }) (v:=.int .i64 s.line) rfl (by kernel_rfl) (by kernel_rfl) (by kernel_rfl) (fun _ _ _ h=>h) (Or.inl ⟨by rfl,fun wS hS=>(by have d0:wS.cell? ⟨kr,6,none⟩=some (.int .i64 s.line):=hS;go_simp)⟩) hH ?_
  simp only [zz]
  refine wpAnyH_ready (rs:=[4,9]) (by kernel_rfl) (by simp) ?_
  refine AllReadyH.cons (o:={ dst:=some 32,op:=Op.load 101 (Operand.tmp 31),type:=101,pos := "reader.go:56",after:=#[{ on:=3,ground:=Ground.data }],guard:=none }) rfl (fun K hK=>?_) (AllReadyH.cons (o:={ dst:=some 37,op:=Op.buildSlice 101 1 #[(0,Operand.tmp 36)],type:=101,pos := "reader.go:56",after:=#[{ on:=8,ground:=Ground.data }],guard:=none }) rfl (fun K hK=>?_) AllReadyH.nil)
  focus
   obtain⟨x0,x1,x2,x3,x4,x5,x6⟩:=cells7 hrow5
   go_simp
   refine hK.out _ _ hH (fun _=>?_)
   clear hK K x0 x1 x2 x3 x4 x5 x6
   (try simp only [zz])
   refine wpAnyH_ready (rs:=[9]) (by kernel_rfl) (by simp) ?_
   refine AllReadyH.cons (o:={ dst:=some 37,op:=Op.buildSlice 101 1 #[(0,Operand.tmp 36)],type:=101,pos := "reader.go:56",after:=#[{ on:=8,ground:=Ground.data }],guard:=none }) rfl (fun K hK=>?_) AllReadyH.nil
   go_simp
   have hrow6:=L8.row_up hrow5 (L8.bnew Wd (.cells #[.int .i64 s.line] 3))
   have hR6:=hR5.below (L8.bnew Wd (.cells #[.int .i64 s.line] 3))
   have hn6:=heap_alloc_last Wd (.cells #[.int .i64 s.line] 3)
   have hB6:=(hB5.alloc (Nat.le_trans hB hB5.size) (.cells #[.int .i64 s.line] 3))
   have hT6:=hT5.trans (KT.below (L8.bnew Wd (.cells #[.int .i64 s.line] 3)))
   refine hK.out _ _ (cells7 hrow6).2.2.2.2.2.2 (fun hH6=>?_)
   clear hK K hrow5 hR5 hB5 hT5 hH
   obtain⟨gn,hgn⟩:∃ gn,Wd.heap.size=gn:=⟨_,rfl⟩
   rw [hgn] at hn6 ⊢
   generalize Wd.alloc (.cells #[.int .i64 s.line] 3)=W6 at hrow6 hR6 hn6 hB6 hT6 hH6 ⊢
   clear hgn
   (try simp only [zz])
  rotate_left
  focus
   go_simp
   have hrow6:=L8.row_up hrow5 (L8.bnew Wd (.cells #[.int .i64 s.line] 3))
   have hR6:=hR5.below (L8.bnew Wd (.cells #[.int .i64 s.line] 3))
   have hn6:=heap_alloc_last Wd (.cells #[.int .i64 s.line] 3)
   have hB6:=(hB5.alloc (Nat.le_trans hB hB5.size) (.cells #[.int .i64 s.line] 3))
   have hT6:=hT5.trans (KT.below (L8.bnew Wd (.cells #[.int .i64 s.line] 3)))
   refine hK.out _ _ (cells7 hrow6).2.2.2.2.2.2 (fun hH6=>?_)
   clear hK K hrow5 hR5 hB5 hT5 hH
   obtain⟨gn,hgn⟩:∃ gn,Wd.heap.size=gn:=⟨_,rfl⟩
   rw [hgn] at hn6 ⊢
   generalize Wd.alloc (.cells #[.int .i64 s.line] 3)=W6 at hrow6 hR6 hn6 hB6 hT6 hH6 ⊢
   clear hgn
   (try simp only [zz])
   obtain⟨x0,x1,x2,x3,x4,x5,x6⟩:=cells7 hrow6
   refine wpAnyH_ready (rs:=[4]) (by kernel_rfl) (by simp) ?_
   refine AllReadyH.cons (o:={ dst:=some 32,op:=Op.load 101 (Operand.tmp 31),type:=101,pos := "reader.go:56",after:=#[{ on:=3,ground:=Ground.data }],guard:=none }) rfl (fun K hK=>?_) AllReadyH.nil
   go_simp
   refine hK.out _ _ hH6 (fun _=>?_)
   clear hK K x0 x1 x2 x3 x4 x5 x6
   (try simp only [zz])
  all_goals
   refine wpAnyH_ready (rs:=[10]) (by kernel_rfl) (by simp) ?_
   refine AllReadyH.cons (o:={ dst:=some 38,op:=Op.call { callee:=Callee.builtin Builtin.append,args:=#[Operand.tmp 32,Operand.tmp 37],argTypes:=#[101,101] },type:=101,pos := "reader.go:56",after:=#[{ on:=4,ground:=Ground.data },{ on:=9,ground:=Ground.data }],guard:=none }) rfl (fun K hK=>?_) AllReadyH.nil
   have hom:=hR6.osl
   have hcn:=hmm
   rw [hcn] at hom
   refine step_append_lies _ (by rfl) _ _ _ (by rfl) B 3 j0 (.int .i64 0) 1 8 Tryz.underlying101 hj hy0 hy1 hy2 rfl (by decide) _ m _ (by rfl) hom ⟨gn,0,none⟩ 1 1 [.int .i64 s.line] (by rfl) (by rfl) (World.news_of_block (cs:=#[.int .i64 s.line]) (t:=3) (fr:=(0,0)) hn6) (by simp [Value.oneCell']) (by omega) (by unfold maxLen;omega) (by omega) (Nat.le_trans hB hB6.size) _ rfl ?_
   intro g7 cap7 w7 hown7 hgrow7 hat7 hlt7
   have hrow7:=row_own hrow6 hom hgrow7 (by decide)
   have hR7:=hR6.addSl s.line (by rw [hcn];exact hown7) hgrow7 hat7
   rw [hcn] at hR7
   have hB7:=hB6.grown hgrow7 (Nat.le_trans hB hB6.size) (own_base2 hom)
   have hT7:=hT6.trans (KT.own hom hgrow7 (by decide))
   refine hK.out _ _ (cells7 hrow7).2.2.2.2.2.2 (fun hH7=>?_)
   clear hK K hrow6 hR6 hn6 hH6 hown7 hgrow7 hat7 hlt7 hom hB6 hT6
   (try simp only [zz])
   refine wpAnyH_take (i:=11) (oi:={ dst:=some 39,op:=Op.nilCheck (Operand.tmp 28),type:=0,pos := "reader.go:56",after:=#[{ on:=0,ground:=Ground.data },{ on:=0,ground:=Ground.phase },{ on:=1,ground:=Ground.phase },{ on:=2,ground:=Ground.phase },{ on:=3,ground:=Ground.phase },{ on:=4,ground:=Ground.phase },{ on:=5,ground:=Ground.phase },{ on:=6,ground:=Ground.phase },{ on:=7,ground:=Ground.phase },{ on:=8,ground:=Ground.phase },{ on:=9,ground:=Ground.phase },{ on:=10,ground:=Ground.phase }],guard:=none }) (v:=.pointer (some ⟨kr,0,none⟩)) rfl (by kernel_rfl) (by kernel_rfl) (by kernel_rfl) (fun _ _ _ h=>h) (Or.inl ⟨by rfl,fun wS hS=>(by go_simp)⟩) hH7 ?_
   simp only [zz]
   refine wpAnyH_take (i:=12) (oi:={ dst:=some 40,op:=Op.fieldAddr 151 (Operand.tmp 39) 2,type:=0,pos := "reader.go:56",after:=#[{ on:=11,ground:=Ground.data },{ on:=0,ground:=Ground.phase },{ on:=1,ground:=Ground.phase },{ on:=2,ground:=Ground.phase },{ on:=3,ground:=Ground.phase },{ on:=4,ground:=Ground.phase },{ on:=5,ground:=Ground.phase },{ on:=6,ground:=Ground.phase },{ on:=7,ground:=Ground.phase },{ on:=8,ground:=Ground.phase },{ on:=9,ground:=Ground.phase },{ on:=10,ground:=Ground.phase }],guard:=none }) (v:=.pointer (some ⟨kr,3,none⟩)) rfl (by kernel_rfl) (by kernel_rfl) (by kernel_rfl) (fun _ _ _ h=>h) (Or.inl ⟨by rfl,fun wS hS=>(by go_simp)⟩) hH7 ?_
   simp only [zz]
   obtain⟨x0,x1,x2,x3,x4,x5,x6⟩:=cells7 hrow7
   have fz:=frozen_all hrow7 3
   have hR8:=hR7.rd (gr_setCell w7 kr 3 (.slice (some ⟨g7,0,none⟩) (m+1) cap7)) hrow7
   have hrow8:=row_set hrow7 3 (.slice (some ⟨g7,0,none⟩) (m+1) cap7)
   have hB8:=Fk.set hB7 3 (.slice (some ⟨g7,0,none⟩) (m+1) cap7)
   have hT8:=hT7.trans (KT.gr (gr_setCell w7 kr 3 (.slice (some ⟨g7,0,none⟩) (m+1) cap7)) hrow7 (by decide))
   refine wpAnyH_ready (rs:=[13]) (by kernel_rfl) (by simp) ?_
   refine AllReadyH.cons (o:={ dst:=none,op:=Op.store 101 (Operand.tmp 40) (Operand.tmp 38),type:=0,pos := "reader.go:56",after:=#[{ on:=12,ground:=Ground.data },{ on:=10,ground:=Ground.data },{ on:=10,ground:=Ground.chain },{ on:=0,ground:=Ground.phase },{ on:=1,ground:=Ground.phase },{ on:=2,ground:=Ground.phase },{ on:=3,ground:=Ground.phase },{ on:=4,ground:=Ground.phase },{ on:=5,ground:=Ground.phase },{ on:=6,ground:=Ground.phase },{ on:=7,ground:=Ground.phase },{ on:=8,ground:=Ground.phase },{ on:=9,ground:=Ground.phase },{ on:=10,ground:=Ground.phase }],guard:=none }) rfl (fun K hK=>?_) AllReadyH.nil
   go_simp
   refine hK.out _ _ (cells7 hrow8).2.2.2.2.2.2 (fun hH8=>?_)
   clear hK K hrow7 hR7 hB7 hT7 hH7 x0 x1 x2 x3 x4 x5 x6 fz hH8
   generalize w7.setCell ⟨kr,3,none⟩ (.slice (some ⟨g7,0,none⟩) (m+1) cap7)=W9 at hrow8 hR8 hB8 hT8 ⊢
   (try simp only [zz])
   refine wpAnyH_done (by kernel_rfl) ?_ _
   refine NoPanic.normal ?_
   obtain⟨x0,x1,x2,x3,x4,x5,x6⟩:=cells7 hrow8
   have fz:=frozen_all hrow8 4
   go_wp2
   go_end0
   exact⟨rfl,⟨_,_,_,_,_,_,row_set hrow8 4 _,hR8.rd (gr_setCell _ kr 4 _) hrow8⟩,Fk.set hB8 4 _,hT8.trans (KT.gr (gr_setCell _ kr 4 _) hrow8 (by decide))⟩
end Go.Proofs.YtdgnjhhieemcaaaGreatDoor.L10
