/- Lemmas and walks of L10It, L10Rl, L8Lin: what each theorem states; conditions stand in each theorem. -/
import Derived.Test.YtdgnjhhieemcaaaGreatDoorL10Ac
import Derived.Test.YtdgnjhhieemcaaaGreatDoorM19
import Derived.Test.YtdgnjhhieemcaaaGreatDoorM4
set_option maxHeartbeats 8000000
set_option maxRecDepth 100000
section
namespace Go.Proofs.YtdgnjhhieemcaaaGreatDoor.L10
open Go.RowKit
def itI (t:ByteArray) (q:List ByteArray):It × Int:=if t=L9.mapT then (.mp (L9.dcV q).1,(L9.dcV q).2) else (.cd (L9.inV t q).1.x (L9.inV t q).1.tg (L9.inV t q).1.mp,(L9.inV t q).2)
theorem itI_itB (t:ByteArray) (q:List ByteArray):L9.itB t q=((itI t q).1.toV,(itI t q).2):=by
 unfold L9.itB itI
 split <;> rfl
def itV (ts:List ByteArray):List It × Int :=
 if (L9.lab [] ts).1≠0 then ([],7) else
 match (L9.lab [] ts).2.2 with
 | []=>((L9.lab [] ts).2.1.map .lb,0)
 | t::q=>if L9.wdB t=false then ([],2) else if (itI t q).2≠0 then ([],(itI t q).2) else ((L9.lab [] ts).2.1.map .lb++[(itI t q).1],0)
def itL (s:ByteArray):List It × Int:=if 0≤L8.bad s then ([],2) else itV (L9.txB s)
theorem map_lb (l:List ByteArray):l.map L9.lbV=(l.map It.lb).map It.toV:=by rw [List.map_map];rfl
theorem prV_itV (ts:List ByteArray):L9.prV ts=((itV ts).1.map It.toV,(itV ts).2):=by
 unfold L9.prV itV
 simp only
 by_cases h1:(L9.lab [] ts).1≠0
 ·rw [if_pos h1,if_pos h1];rfl
 ·rw [if_neg h1,if_neg h1]
  cases h0:(L9.lab [] ts).2.2 with
  | nil=>simp only [map_lb]
  | cons t q =>
   simp only
   rw [itI_itB]
   by_cases h2:L9.wdB t=false
   ·rw [if_pos h2,if_pos h2];rfl
   ·rw [if_neg h2,if_neg h2]
    by_cases h3:(itI t q).2≠0
    ·rw [if_pos h3,if_pos h3];rfl
    ·rw [if_neg h3,if_neg h3,List.map_append,map_lb];rfl
theorem prL_itL (s:ByteArray):L9.prL s=((itL s).1.map It.toV,(itL s).2):=by
 unfold L9.prL itL
 split
 ·rfl
 ·exact prV_itV _
theorem line_it (s:ByteArray) (hs:s.size≤100000) (w:World) (hT:L1.Wid w∧L2.Regs w) (l:List It) (er:Int) (h:itL s=(l,er)):Calls Tryz.prog 128 #[.string s] w fun e w'=>L9.LinP (l.map It.toV) er w e w' :=
 L9.line_at s hs w hT _ _ (by rw [prL_itL,h])
theorem vd_sz {s:ByteArray} (h:L2.vd s=true):s.size≤32:=by
 unfold L2.vd at h
 simp only [Bool.and_eq_true,decide_eq_true_eq] at h
 exact h.1.1.1.2
def It.sz:It→Prop
 | .lb t=>t.size≤32
 | .mp d=>d.nm.size≤32
 | .cd _ tg m=>tg.size≤32∧m.size≤32
theorem vd_or (t:ByteArray):(if L2.vd t then t else L9.eB).size≤32:=by
 split
 ·exact vd_sz ‹_›
 ·decide
theorem stp_sz (k:L9.Rk) (s:L9.St) (h:s.tg.size≤32∧s.mp.size≤32):(L9.stp k s).1.tg.size≤32∧(L9.stp k s).1.mp.size≤32:=by
 cases k <;> unfold L9.stp <;> simp only
 case tgt=>exact⟨vd_or _,h.2⟩
 case mpn=>exact⟨h.1,vd_or _⟩
 case hlp=>split <;> exact h
 case off=>split <;> exact h
 all_goals exact h
theorem runs_sz:∀ (ks:List L9.Rk) (s:L9.St),(s.tg.size≤32∧s.mp.size≤32)→(L9.runs ks s).1.tg.size≤32∧(L9.runs ks s).1.mp.size≤32
 | [],_,h=>h
 | k::r,s,h=>by
  rw [L9.runs]
  split
  ·exact stp_sz k s h
  ·exact runs_sz r _ (stp_sz k s h)
theorem inV_sz (t:ByteArray) (q:List ByteArray):(L9.inV t q).1.tg.size≤32∧(L9.inV t q).1.mp.size≤32:=by
 unfold L9.inV
 split
 ·exact⟨by decide,by decide⟩
 split
 ·exact⟨by decide,by decide⟩
 ·unfold L9.inR
  simp only
  split
  ·exact⟨by show (⟨#[]⟩:ByteArray).size≤32;decide,by show (⟨#[]⟩:ByteArray).size≤32;decide⟩
  ·exact runs_sz _ _ ⟨by show (⟨#[]⟩:ByteArray).size≤32;decide,by show (⟨#[]⟩:ByteArray).size≤32;decide⟩
theorem dcV_sz (ts:List ByteArray):(L9.dcV ts).1.nm.size≤32:=by
 unfold L9.dcV
 split
 ·show (⟨#[]⟩:ByteArray).size≤32;decide
 split
 ·show (⟨#[]⟩:ByteArray).size≤32;decide
 split
 ·show (⟨#[]⟩:ByteArray).size≤32;decide
 split
 ·show (⟨#[]⟩:ByteArray).size≤32;decide
 ·rename_i h _ _
  refine vd_sz ?_
  rcases L9.naV_two (L9.g0 ts 0) with ⟨_,hv⟩|⟨h7,_⟩
  ·exact hv
  ·exact absurd (by rw [h7];decide) h
theorem lab_sz:∀ (ts acc:List ByteArray),(∀ t∈acc,t.size≤32)→∀ t∈(L9.lab acc ts).2.1,t.size≤32
 | [],acc,h=>by rw [L9.lab];exact h
 | [_],acc,h=>by rw [L9.lab];exact h
 | a::b::r,acc,h=>by
  rw [L9.lab]
  split
  ·split
   ·refine lab_sz r (acc++[a]) fun t ht=>?_
    rcases List.mem_append.1 ht with ht|ht
    ·exact h t ht
    ·obtain rfl:t=a:=by simpa using ht
     exact vd_sz ‹_›
   ·exact h
  ·exact h
theorem itI_sz (t:ByteArray) (q:List ByteArray):(itI t q).1.sz:=by
 unfold itI
 split
 ·exact dcV_sz q
 ·exact inV_sz t q
theorem itL_sz (s:ByteArray):(∀ i∈(itL s).1,i.sz)∧(itL s).1.length≤s.size+1:=by
 unfold itL
 split
 ·exact⟨by simp,by simp⟩
 unfold itV
 have hl:∀ i∈(L9.lab [] (L9.txB s)).2.1.map It.lb,i.sz:=fun i hi=>by
  obtain⟨t,ht,rfl⟩:=List.mem_map.1 hi
  exact lab_sz _ [] (by simp) t ht
 have hn:(L9.lab [] (L9.txB s)).2.1.length≤s.size:=by
  have h1:=L9.lab_len (L9.txB s) []
  have h2:=(L9.txB_tok s).1
  simp only [List.length_nil,Nat.zero_add] at h1
  omega
 split
 ·exact⟨by simp,by simp⟩
 split
 ·exact⟨hl,by rw [List.length_map];omega⟩
 ·rename_i t q _
  split
  ·exact⟨by simp,by simp⟩
  split
  ·exact⟨by simp,by simp⟩
  ·refine⟨fun i hi=>?_,by rw [List.length_append,List.length_map];simp;omega⟩
   rcases List.mem_append.1 hi with hi|hi
   ·exact hl i hi
   ·obtain rfl:i=(itI t q).1:=by simpa using hi
    exact itI_sz t q
def foldI:Rd→List It→Rd × Int
 | s,[]=>(s,0)
 | s,.lb t::r=>foldI (s.lab t) r
 | s,.mp d::r=>if s.labs≠[]∨s.stmts≠[] then (s,8) else foldI (s.map d) r
 | s,.cd x tg m::r=>foldI (s.cod x tg m) r
def rdL (s:Rd) (t:ByteArray):Rd × Int:=if (itL t).2≠0 then ({ s with line:=s.line+1 },(itL t).2) else foldI { s with line:=s.line+1 } (itL t).1
structure Rd.Ok (s:Rd) (m:Nat):Prop where
 maps:s.maps.length≤m
 ml:s.ml.length=s.maps.length
 stmts:s.stmts.length≤m
 sl:s.sl.length=s.stmts.length
 labs:(s.stmts.flatMap (fun s=>s.labs)).length+s.labs.length≤m
 nm:∀ d∈s.maps,d.nm.size≤32
 lb:(∀ x∈s.stmts,∀ t∈x.labs,t.size≤32)∧∀ t∈s.labs,t.size≤32
 tg:∀ x∈s.stmts,x.tg.size≤32∧x.mp.size≤32
 asc:s.sl.Pairwise (·≤·)
 le:∀ i∈s.sl,i≤s.line
 line:0≤s.line
theorem Rd.Ok.mono {s:Rd} {m n:Nat} (h:s.Ok m) (hn:m≤n):s.Ok n:=⟨Nat.le_trans h.maps hn,h.ml,Nat.le_trans h.stmts hn,h.sl,Nat.le_trans h.labs hn,h.nm,h.lb,h.tg,h.asc,h.le,h.line⟩
theorem Rd.Ok.z:Rd.z.Ok 0:=⟨Nat.le_refl _,rfl,Nat.le_refl _,rfl,Nat.le_refl _,fun d h=>(by cases h),⟨fun d h=>(by cases h),fun d h=>(by cases h)⟩,fun d h=>(by cases h),List.Pairwise.nil,fun d h=>(by cases h),Int.le_refl _⟩
theorem Rd.Ok.lineUp {s:Rd} {m:Nat} (h:s.Ok m):({ s with line:=s.line+1 }:Rd).Ok m:=⟨h.maps,h.ml,h.stmts,h.sl,h.labs,h.nm,h.lb,h.tg,h.asc,fun i hi=>by have:=h.le i hi;show i≤s.line+1;omega,by have:=h.line;show 0≤s.line+1;omega⟩
theorem Rd.Ok.addLab {s:Rd} {m:Nat} (h:s.Ok m) {t:ByteArray} (ht:t.size≤32):(s.lab t).Ok (m+1) :=
 ⟨Nat.le_succ_of_le h.maps,h.ml,Nat.le_succ_of_le h.stmts,h.sl,by have:=h.labs;show _+(s.labs++[t]).length≤m+1;rw [List.length_append];simp only [List.length_cons,List.length_nil];show (s.stmts.flatMap (fun s=>s.labs)).length+_≤_;omega,h.nm,
  ⟨h.lb.1,fun u hu=>(List.mem_append.1 hu).elim (h.lb.2 u) (fun hu=>by obtain rfl:u=t:=(by simpa using hu);exact ht)⟩,h.tg,h.asc,h.le,h.line⟩
theorem Rd.Ok.addMap {s:Rd} {m:Nat} (h:s.Ok m) {d:L9.Df} (hd:d.nm.size≤32):(s.map d).Ok (m+1) :=
 ⟨by have:=h.maps;show (s.maps++[d]).length≤m+1;simp;omega,by show (s.ml++[s.line]).length=(s.maps++[d]).length;simp [h.ml],Nat.le_succ_of_le h.stmts,h.sl,Nat.le_succ_of_le h.labs,
  fun u hu=>(List.mem_append.1 hu).elim (h.nm u) (fun hu=>by obtain rfl:u=d:=(by simpa using hu);exact hd),h.lb,h.tg,h.asc,h.le,h.line⟩
theorem Rd.Ok.addCod {s:Rd} {m:Nat} (h:s.Ok m) {x:L9.Ins} {tg mp:ByteArray} (ht:tg.size≤32∧mp.size≤32):(s.cod x tg mp).Ok (m+1):=by
 refine⟨Nat.le_succ_of_le h.maps,h.ml,?_,?_,?_,h.nm,⟨fun y hy=>?_,fun t ht=>by cases ht⟩,fun y hy=>?_,?_,?_,h.line⟩
 ·have:=h.stmts;show (s.stmts++[_]).length≤m+1;simp;omega
 ·show (s.sl++[s.line]).length=(s.stmts++[_]).length;simp [h.sl]
 ·have:=h.labs
  show ((s.stmts++[(⟨s.labs,x,tg,mp⟩:Stm)]).flatMap (fun s=>s.labs)).length+0≤m+1
  rw [List.flatMap_append,List.length_append]
  simp only [List.flatMap_cons,List.flatMap_nil,List.append_nil]
  omega
 ·rcases List.mem_append.1 hy with hy|hy
  ·exact h.lb.1 y hy
  ·obtain rfl:y=⟨s.labs,x,tg,mp⟩:=by simpa using hy
   exact h.lb.2
 ·rcases List.mem_append.1 hy with hy|hy
  ·exact h.tg y hy
  ·obtain rfl:y=⟨s.labs,x,tg,mp⟩:=by simpa using hy
   exact ht
 ·show (s.sl++[s.line]).Pairwise (·≤·)
  rw [List.pairwise_append]
  exact⟨h.asc,List.pairwise_singleton _ _,fun a ha b hb=>by obtain rfl:b=s.line:=(by simpa using hb);exact h.le a ha⟩
 ·intro i hi
  rcases List.mem_append.1 hi with hi|hi
  ·exact h.le i hi
  ·obtain rfl:i=s.line:=by simpa using hi
   exact Int.le_refl _
theorem foldI_ok:∀ (l:List It) (s:Rd) (m:Nat),s.Ok m→(∀ i∈l,i.sz)→(foldI s l).1.Ok (m+l.length)
 | [],_,_,h,_=>h
 | .lb t::r,s,m,h,hl=>by
  rw [foldI]
  have:=foldI_ok r _ (m+1) (h.addLab (hl (.lb t) (by simp))) (fun i hi=>hl i (by simp [hi]))
  exact this.mono (by simp only [List.length_cons];omega)
 | .mp d::r,s,m,h,hl=>by
  rw [foldI]
  split
  ·exact h.mono (by simp)
  ·exact (foldI_ok r _ (m+1) (h.addMap (hl (.mp d) (by simp))) (fun i hi=>hl i (by simp [hi]))).mono (by simp only [List.length_cons];omega)
 | .cd x tg m'::r,s,m,h,hl=>by
  rw [foldI]
  exact (foldI_ok r _ (m+1) (h.addCod (hl (.cd x tg m') (by simp))) (fun i hi=>hl i (by simp [hi]))).mono (by simp only [List.length_cons];omega)
theorem rdL_ok (s:Rd) (t:ByteArray) (m:Nat) (h:s.Ok m):(rdL s t).1.Ok (m+(itL t).1.length):=by
 unfold rdL
 have hs:=itL_sz t
 split
 ·exact h.lineUp.mono (by omega)
 ·exact foldI_ok _ _ m h.lineUp hs.1
theorem foldI_line:∀ (l:List It) (s:Rd),(foldI s l).1.line=s.line
 | [],_=>rfl
 | .lb _::r,s=>by rw [foldI];exact foldI_line r _
 | .mp d::r,s=>by
  rw [foldI]
  split
  ·rfl
  ·exact foldI_line r _
 | .cd x tg m::r,s=>by rw [foldI];exact foldI_line r _
theorem rdL_line (s:Rd) (t:ByteArray):(rdL s t).1.line=s.line+1:=by
 unfold rdL
 split
 ·rfl
 ·exact foldI_line _ _
end Go.Proofs.YtdgnjhhieemcaaaGreatDoor.L10
end
section
namespace Go.Proofs.YtdgnjhhieemcaaaGreatDoor.L10
open Go.RowKit Go.Maps
attribute [local go_sem] Oper.semAt_some
theorem ta1 (v:Value) (w:World):(Instr.typeAssert (.iface 205 v) 203 205 true).run Tryz.prog w=.ok (.tuple #[v,.bool true]) w:=by
 simp [Instr.typeAssert,go_sem]
theorem ta1m (v:Value) (w:World):(Instr.typeAssert (.iface 208 v) 203 205 true).run Tryz.prog w=.ok (.tuple #[.agg #[.string ⟨#[]⟩],.bool false]) w:=by
 simp [Instr.typeAssert,go_sem,Tryz.zeroValue205]
theorem ta1c (v:Value) (w:World):(Instr.typeAssert (.iface 211 v) 203 205 true).run Tryz.prog w=.ok (.tuple #[.agg #[.string ⟨#[]⟩],.bool false]) w:=by
 simp [Instr.typeAssert,go_sem,Tryz.zeroValue205]
theorem ta2 (v:Value) (w:World):(Instr.typeAssert (.iface 208 v) 203 208 true).run Tryz.prog w=.ok (.tuple #[v,.bool true]) w:=by
 simp [Instr.typeAssert,go_sem]
theorem ta2c (v:Value) (w:World):(Instr.typeAssert (.iface 211 v) 203 208 true).run Tryz.prog w=.ok (.tuple #[.agg L9.dfZ,.bool false]) w:=by
 simp [Instr.typeAssert,go_sem,Tryz.zeroValue208]
theorem ta3 (v:Value) (w:World):(Instr.typeAssert (.iface 211 v) 203 211 true).run Tryz.prog w=.ok (.tuple #[v,.bool true]) w:=by
 simp [Instr.typeAssert,go_sem]
theorem it_form {w:World} {v:Value} {l:List Value} {n:Nat} (hn:l.length=n) (h:L9.ItAt w v l) (ht:∀ b,v.ownBlock=some b→∃ cs,w.heap[b]?=some (.cells cs 203)):∃ a c,v=.slice a n c∧(0<n→∃ b o cs,a=some ⟨b,o,none⟩∧w.heap[b]?=some (.cells cs 203)∧∀ j,(h:j<l.length)→cs[o+j]?=some l[j]):=by
 subst hn
 rcases h with ⟨b,o,cap,rfl,hb,hc⟩|⟨rfl,a,cap,rfl⟩
 ·obtain⟨cs,hh⟩:=ht b rfl
  refine⟨_,_,rfl,fun _=>⟨b,o,cs,rfl,hh,fun j hj=>?_⟩⟩
  have:=hc j hj
  unfold World.cell? at this
  rw [hh] at this
  exact this
 ·exact⟨a,cap,rfl,fun h=>absurd h (by simp)⟩
def RdE (B kr:Nat) (W:World) (s:Rd):Prop:=∃ l,RdM B kr W l s
theorem RdE.below {B kr:Nat} {W W':World} {s:Rd} (h:RdE B kr W s) (hb:Below W.heap.size W W'):RdE B kr W' s:=by
 obtain⟨l,vm,vs,mv,sv,lv,hr,hR⟩:=h
 exact⟨l,vm,vs,mv,sv,lv,L8.row_up hr hb,hR.below hb⟩
theorem addLabel_e (B kr:Nat) (t:ByteArray) (s:Rd) (w:World) (h:RdE B kr w s) (hB:B≤w.heap.size) (m:Nat) (ho:s.Ok m) (hm:m≤100000) :
  Calls Tryz.prog 129 #[.pointer (some ⟨kr,0,none⟩),.string t] w fun e w'=>e=.returned (.tuple #[])∧RdE B kr w' (s.lab t)∧Fk kr B w w'∧KT w w':=by
 obtain⟨l,hl⟩:=h
 exact (addLabel_at B kr t l s w hl hB (by have:=ho.labs;omega)).mono fun e w' ⟨h1,h2,h3⟩=>⟨h1,⟨l,h2⟩,h3⟩
theorem addMap_e (B kr:Nat) (d:L9.Df) (s:Rd) (w:World) (h:RdE B kr w s) (hB:B≤w.heap.size) (m:Nat) (ho:s.Ok m) (hm:m≤100000) :
  Calls Tryz.prog 130 #[.pointer (some ⟨kr,0,none⟩),.agg #[.string d.nm,.int .i64 d.key,.int .i64 d.val,.int .i64 d.ent]] w fun e w'=>e=.returned (.tuple #[])∧RdE B kr w' (s.map d)∧Fk kr B w w'∧KT w w':=by
 obtain⟨l,hl⟩:=h
 exact (addMap_at B kr d l s w hl hB (by have:=ho.maps;omega) (by have:=ho.maps;rw [ho.ml];omega)).mono fun e w' ⟨h1,h2,h3⟩=>⟨h1,⟨l,h2⟩,h3⟩
theorem addCode_e (B kr:Nat) (x:L9.Ins) (tg mp:ByteArray) (s:Rd) (w:World) (h:RdE B kr w s) (hB:B≤w.heap.size) (m:Nat) (ho:s.Ok m) (hm:m≤100000) :
  Calls Tryz.prog 131 #[.pointer (some ⟨kr,0,none⟩),.agg #[.int .i64 x.op,.bool x.reg,.int .i64 x.dst,.int .i64 x.src,.int .i64 x.off,.int .i64 x.imm,.string tg,.string mp]] w fun e w'=>e=.returned (.tuple #[])∧RdE B kr w' (s.cod x tg mp)∧Fk kr B w w'∧KT w w':=by
 obtain⟨l,hl⟩:=h
 have hln:l.length=s.stmts.length:=by
  obtain⟨vm,vs,mv,sv,lv,_,hR⟩:=hl
  rw [← hR.st,List.length_map]
 exact (addCode_at B kr x tg mp l s w hl hB (by have:=ho.stmts;omega) (by have:=ho.stmts;rw [ho.sl];omega)).mono fun e w' ⟨h1,⟨lv,h2⟩,h3⟩=>⟨h1,⟨_,h2⟩,h3⟩
theorem RdE.parts {B kr:Nat} {W:World} {s:Rd} (h:RdE B kr W s):∃ (va:Option Addr) (vc:Nat) (la:Option Addr) (lc:Nat),W.cell? ⟨kr,1,none⟩=some (.slice va s.stmts.length vc)∧W.cell? ⟨kr,4,none⟩=some (.slice la s.labs.length lc)∧W.cell? ⟨kr,6,none⟩=some (.int .i64 s.line)∧W.frozen? ⟨kr,6,none⟩=false∧kr<W.heap.size:=by
 obtain⟨l,vm,vs,mv,sv,lv,hr,hR⟩:=h
 obtain⟨sa,sc,rfl⟩:=L8.owns_slice hR.os
 obtain⟨la,lc,rfl⟩:=L8.owns_slice hR.ol
 obtain⟨x0,x1,x2,x3,x4,x5,x6⟩:=cells7 hr
 have hln:l.length=s.stmts.length:=by rw [← hR.st,List.length_map]
 exact⟨sa,sc,la,lc,by rw [← hln];exact x1,x4,x6,frozen_all hr 6,lt_of_block hr⟩
theorem RdE.setLine {B kr:Nat} {W:World} {s:Rd} (h:RdE B kr W s) (i:Int):RdE B kr (W.setCell ⟨kr,6,none⟩ (.int .i64 i)) { s with line:=i }:=by
 obtain⟨l,vm,vs,mv,sv,lv,hr,hR⟩:=h
 exact⟨l,vm,vs,mv,sv,lv,row_set hr 6 _,(hR.rd (gr_setCell W kr 6 (.int .i64 i)) hr).lbl s.lbl i⟩
def RdP (B kr:Nat) (r:Rd × Int) (w:World) (e:Ending) (w':World):Prop:=e=.returned (.int .i64 r.2)∧RdE B kr w' r.1∧Fk kr B w w'
theorem tab_fk {kr B:Nat} {w W:World} (h:L1.Wid w∧L2.Regs w) (hb:Fk kr B w W) (hB:3≤B) (hk:3≤kr):L1.Wid W∧L2.Regs W:=by
 obtain⟨⟨t,fr,h0⟩,⟨t',fr',h1⟩⟩:=h
 exact⟨⟨t,fr,(hb.block _ (by omega) (by omega)).trans h0⟩,⟨t',fr',(hb.block _ (by omega) (by omega)).trans h1⟩⟩
section
variable (B kr:Nat) (t:ByteArray) (s:Rd) (w:World) (h:RdE B kr w s) (hB:B≤w.heap.size) (hB3:3≤B) (hk:3≤kr) (hT:L1.Wid w∧L2.Regs w) (ht:t.size≤100000) (hl:0≤s.line∧s.line≤1000000)
include B kr t s w h hB hB3 hk hT ht hl
theorem read_err (hne:(itL t).2≠0) :
  Calls Tryz.prog 94 #[.pointer (some ⟨kr,0,none⟩),.string t] w fun e w'=>RdP B kr (rdL s t) w e w':=by
 unfold rdL
 rw [if_pos hne]
 obtain⟨items,er,hit⟩:∃ a b,itL t=(a,b):=⟨_,_,rfl⟩
 rw [hit] at hne ⊢
 simp only at hne ⊢
 have hE:=h.setLine (s.line+1)
 obtain⟨va,vc,la,lc,x1,x4,x6,fz,hkl⟩:=h.parts
 have hw6:IntKind.i64.wrap (s.line+1)=s.line+1:=IntWalk.i64_in _ (by omega)
 have hb1:=Fk.set (Fk.refl kr B w) 6 (.int .i64 (s.line+1))
 have HL:=Lib.hid (line_it t ht (w.setCell ⟨kr,6,none⟩ (.int .i64 (s.line+1))) (tab_fk hT hb1 hB3 hk) items er hit)
 have HE:=Lib.hid hE
 have HB:=Lib.hid hb1
 clear h hT hit hE hb1
 go_enter Tryz.func94,Tryz.ntmps94
 go_wp2_with (go_at_call 128;((with_reducible refine (HL.out).mono ?_);rintro e w1 ⟨v,rfl,hv,b1,hty⟩))
 go_ret
 exact⟨rfl,HE.out.below b1,HB.out.trans (Fk.of b1 (by simpa [World.setCell] using hB))⟩
theorem read_ok (m:Nat) (ho:s.Ok m) (hm:m+(itL t).1.length≤100000) (hz:(itL t).2=0) :
  Calls Tryz.prog 94 #[.pointer (some ⟨kr,0,none⟩),.string t] w fun e w'=>RdP B kr (rdL s t) w e w':=by
 unfold rdL
 rw [if_neg (by rw [hz];simp)]
 have hsz:=itL_sz t
 obtain⟨items,er,hit⟩:∃ a b,itL t=(a,b):=⟨_,_,rfl⟩
 rw [hit] at hz hsz hm ⊢
 simp only at hz hsz hm ⊢
 subst hz
 have hE:=h.setLine (s.line+1)
 obtain⟨va,vc,la,lc,x1,x4,x6,fz,hkl⟩:=h.parts
 have hw6:IntKind.i64.wrap (s.line+1)=s.line+1:=IntWalk.i64_in _ (by omega)
 have hb1:=Fk.set (Fk.refl kr B w) 6 (.int .i64 (s.line+1))
 have hB1:B≤(w.setCell ⟨kr,6,none⟩ (.int .i64 (s.line+1))).heap.size:=by simpa [World.setCell] using hB
 have HL:=Lib.hid (line_it t ht (w.setCell ⟨kr,6,none⟩ (.int .i64 (s.line+1))) (tab_fk hT hb1 hB3 hk) items 0 hit)
 have HE:=Lib.hid hE
 have HB:=Lib.hid hb1
 have HO:=Lib.hid ho.lineUp
 have HZ:=Lib.hid hsz
 obtain⟨n,hn⟩:∃ n,items.length=n:=⟨_,rfl⟩
 have HN:=Lib.hid hn
 have hnm:m+n≤100000:=by omega
 obtain⟨rr,hrr⟩:∃ rr,foldI { s with line:=s.line+1 } items=rr:=⟨_,rfl⟩
 rw [hrr]
 have HRR:=Lib.hid hrr
 clear h hT hit hE hb1 ho hsz hrr hm
 go_enter Tryz.func94,Tryz.ntmps94
 go_wp2_with (go_at_call 128;((with_reducible refine (HL.out).mono ?_);rintro e w1 ⟨v,rfl,hv,b1,hty⟩;obtain⟨ia,ic,rfl,hform⟩:=it_form (n:=n) (by rw [List.length_map];exact HN.out) hv hty))
 have HF:=Lib.hid hform
 have HS1:Hid (∃ sj,RdE B kr w1 sj∧Fk kr B w w1∧KT w1 w1∧sj.Ok (m+0)∧foldI sj (items.drop 0)=rr∧B≤w1.heap.size):=Lib.hid ⟨_,HE.out.below b1,HB.out.trans (Fk.of b1 hB1),fun _ _ _ hx=>hx,HO.out,HRR.out,Nat.le_trans hB1 b1.size⟩
 clear hv hty hform HE HB HO HRR HL x1 x4 x6 fz hw6 b1 hB1
 go_loopw [29] (fun i wr=>∃ j:Nat,j≤n∧i=.int .i64 (j:Int)∧Hid (∃ sj,RdE B kr wr sj∧Fk kr B w wr∧KT w1 wr∧sj.Ok (m+j)∧foldI sj (items.drop j)=rr∧B≤wr.heap.size)) (fun i _=>n-(intOf i).toNat)
 case atStart=>exact⟨0,Nat.zero_le _,rfl,HS1⟩
 case round =>
  obtain⟨j,hj,rfl,hS⟩:=hrel
  clear HS1
  obtain⟨sj,hE,hBj,hKT,hO,hR,hBs⟩:=hS.out
  clear hS
  by_cases hlt:j<n
  ·have hjl:j<items.length:=by rw [HN.out];exact hlt
   obtain⟨b,o,cs,rfl,hh,hcs⟩:=HF.out (by omega)
   have hrow:=hKT b cs _ hh
   have hc:=hcs j (by rw [List.length_map];exact hjl)
   rw [List.getElem_map] at hc
   have hce:=cell_row hrow hc
   have hbl:=lt_of_block hrow
   have hszj:=HZ.out.1 items[j] (List.getElem_mem hjl)
   rw [List.drop_eq_getElem_cons hjl] at hR
   obtain⟨it,hitj⟩:∃ it,items[j]=it:=⟨_,rfl⟩
   rw [hitj] at hce hszj hR
   clear hrow hc hcs hh hitj
   have HKT:=Lib.hid hKT
   have HBJ:=Lib.hid hBj
   have HOJ:=Lib.hid hO
   have HBS:=Lib.hid hBs
   cases it with
   | lb t' =>
    have hce':wr.cell? ⟨b,o+j,none⟩=some (.iface 205 (.agg #[.string t'])):=hce
    have t1:=ta1 (.agg #[.string t'])
    have HA:=Lib.hid (addLabel_e B kr t' sj (wr.alloc (.cells #[.string t'] 205)) (hE.below (L8.bnew _ _)) (by simp;omega) (m+j) hO (by omega))
    have HSZ:=Lib.hid (show t'.size≤32 from hszj)
    have HR:=Lib.hid (show foldI (sj.lab t') (items.drop (j+1))=rr from hR)
    have HB2:Hid (Fk kr B w (wr.alloc (.cells #[.string t'] 205))):=Lib.hid (hBj.alloc hBs _)
    clear hce hKT hBj hO hBs hszj hR hE
    go_wp2_with (go_at_call 129;((with_reducible refine (HA.out).mono ?_);rintro e w2 ⟨rfl,e2,b2,k2⟩))
    go_roundw
    case rel=>exact⟨j+1,by omega,by go_num,Lib.hid ⟨_,e2,HB2.out.trans b2,HKT.out.trans ((KT.below (L8.bnew wr _)).trans k2),HOJ.out.addLab HSZ.out,HR.out,Nat.le_trans HBS.out (Nat.le_trans (by simp) b2.size)⟩⟩
    case measure=>simp [intOf];omega
   | mp d =>
    have hce':wr.cell? ⟨b,o+j,none⟩=some (.iface 208 (.agg #[.string d.nm,.int .i64 d.key,.int .i64 d.val,.int .i64 d.ent])):=hce
    have t1:=ta1m (.agg #[.string d.nm,.int .i64 d.key,.int .i64 d.val,.int .i64 d.ent])
    have t2:=ta2 (.agg #[.string d.nm,.int .i64 d.key,.int .i64 d.val,.int .i64 d.ent])
    obtain⟨va,vc,la,lc,y1,y4,y6,yz,ykl⟩:=hE.parts
    obtain⟨ln,hln⟩:∃ ln,sj.labs.length=ln:=⟨_,rfl⟩
    obtain⟨sn,hsn⟩:∃ sn,sj.stmts.length=sn:=⟨_,rfl⟩
    rw [hln] at y4
    rw [hsn] at y1
    by_cases hbad:sj.labs≠[]∨sj.stmts≠[]
    ·have hr2:(sj,(8:Int))=rr:=by rw [← hR,foldI,if_pos hbad]
     subst hr2
     have HE2:=Lib.hid (And.intro (hE.below (L8.bnew wr (.cells #[.string d.nm,.int .i64 d.key,.int .i64 d.val,.int .i64 d.ent] 208))) (hBj.alloc hBs (.cells #[.string d.nm,.int .i64 d.key,.int .i64 d.val,.int .i64 d.ent] 208)))
     by_cases hlb:sj.labs=[]
     ·have hst:0<sj.stmts.length:=by
       rcases hbad with h|h
       ·exact absurd hlb h
       ·exact List.length_pos_iff.2 h
      obtain rfl:ln=0:=by rw [← hln,hlb];rfl
      have hs1:0<sn:=by omega
      have hs0:(0:Int)<(sn:Int):=by omega
      clear hst hln hsn
      clear hce hKT hBj hO hBs hszj hR hE hbad hlb
      go_wp2
      go_ret
      exact⟨rfl,HE2.out.1,HE2.out.2⟩
     ·have hl1:0<ln:=by have:=List.length_pos_iff.2 hlb;omega
      have hl0:(0:Int)<(ln:Int):=by omega
      clear hln hsn
      clear hce hKT hBj hO hBs hszj hR hE hbad hlb
      go_wp2
      go_ret
      exact⟨rfl,HE2.out.1,HE2.out.2⟩
    ·have hlb:sj.labs=[]:=Classical.byContradiction fun h=>hbad (.inl h)
     have hst:sj.stmts=[]:=Classical.byContradiction fun h=>hbad (.inr h)
     obtain rfl:ln=0:=by rw [← hln,hlb];rfl
     obtain rfl:sn=0:=by rw [← hsn,hst];rfl
     clear hln hsn
     have HA:=Lib.hid (addMap_e B kr d sj (wr.alloc (.cells #[.string d.nm,.int .i64 d.key,.int .i64 d.val,.int .i64 d.ent] 208)) (hE.below (L8.bnew _ _)) (by simp;omega) (m+j) hO (by omega))
     have HSZ:=Lib.hid (show d.nm.size≤32 from hszj)
     have HR:=Lib.hid (show foldI (sj.map d) (items.drop (j+1))=rr by rw [← hR,foldI,if_neg hbad])
     have HB2:Hid (Fk kr B w (wr.alloc (.cells #[.string d.nm,.int .i64 d.key,.int .i64 d.val,.int .i64 d.ent] 208))):=Lib.hid (hBj.alloc hBs _)
     clear hce hKT hBj hO hBs hszj hR hE hbad hlb hst
     go_wp2_with (go_at_call 130;((with_reducible refine (HA.out).mono ?_);rintro e w2 ⟨rfl,e2,b2,k2⟩))
     go_roundw
     case rel=>exact⟨j+1,by omega,by go_num,Lib.hid ⟨_,e2,HB2.out.trans b2,HKT.out.trans ((KT.below (L8.bnew wr _)).trans k2),HOJ.out.addMap HSZ.out,HR.out,Nat.le_trans HBS.out (Nat.le_trans (by simp) b2.size)⟩⟩
     case measure=>simp [intOf];omega
   | cd x tg m' =>
    have hce':wr.cell? ⟨b,o+j,none⟩=some (.iface 211 (.agg #[.int .i64 x.op,.bool x.reg,.int .i64 x.dst,.int .i64 x.src,.int .i64 x.off,.int .i64 x.imm,.string tg,.string m'])):=hce
    have t1:=ta1c (.agg #[.int .i64 x.op,.bool x.reg,.int .i64 x.dst,.int .i64 x.src,.int .i64 x.off,.int .i64 x.imm,.string tg,.string m'])
    have t2:=ta2c (.agg #[.int .i64 x.op,.bool x.reg,.int .i64 x.dst,.int .i64 x.src,.int .i64 x.off,.int .i64 x.imm,.string tg,.string m'])
    have t3:=ta3 (.agg #[.int .i64 x.op,.bool x.reg,.int .i64 x.dst,.int .i64 x.src,.int .i64 x.off,.int .i64 x.imm,.string tg,.string m'])
    have HA:=Lib.hid (addCode_e B kr x tg m' sj (wr.alloc (.cells #[.int .i64 x.op,.bool x.reg,.int .i64 x.dst,.int .i64 x.src,.int .i64 x.off,.int .i64 x.imm,.string tg,.string m'] 211)) (hE.below (L8.bnew _ _)) (by simp;omega) (m+j) hO (by omega))
    have HSZ:=Lib.hid (show tg.size≤32∧m'.size≤32 from hszj)
    have HR:=Lib.hid (show foldI (sj.cod x tg m') (items.drop (j+1))=rr from hR)
    have HB2:Hid (Fk kr B w (wr.alloc (.cells #[.int .i64 x.op,.bool x.reg,.int .i64 x.dst,.int .i64 x.src,.int .i64 x.off,.int .i64 x.imm,.string tg,.string m'] 211))):=Lib.hid (hBj.alloc hBs _)
    clear hce hKT hBj hO hBs hszj hR hE
    go_wp2_with (go_at_call 131;((with_reducible refine (HA.out).mono ?_);rintro e w2 ⟨rfl,e2,b2,k2⟩))
    go_roundw
    case rel=>exact⟨j+1,by omega,by go_num,Lib.hid ⟨_,e2,HB2.out.trans b2,HKT.out.trans ((KT.below (L8.bnew wr _)).trans k2),HOJ.out.addCod HSZ.out,HR.out,Nat.le_trans HBS.out (Nat.le_trans (by simp) b2.size)⟩⟩
    case measure=>simp [intOf];omega
  ·obtain rfl:j=n:=by omega
   have hr2:(sj,(0:Int))=rr:=by rw [← hR,List.drop_eq_nil_of_le (by rw [HN.out];exact Nat.le_refl _)];rfl
   subst hr2
   have HE2:=Lib.hid (And.intro hE hBj)
   clear hE hBj hKT hO hR hBs
   go_wp2
   go_ret
   exact⟨rfl,HE2.out.1,HE2.out.2⟩
theorem reading_at (m:Nat) (ho:s.Ok m) (hm:m+(itL t).1.length≤100000) :
  Calls Tryz.prog 94 #[.pointer (some ⟨kr,0,none⟩),.string t] w fun e w'=>RdP B kr (rdL s t) w e w':=by
 by_cases hz:(itL t).2=0
 ·exact read_ok B kr t s w h hB hB3 hk hT ht hl m ho hm hz
 ·exact read_err B kr t s w h hB hB3 hk hT ht hl hz
end
end Go.Proofs.YtdgnjhhieemcaaaGreatDoor.L10
end
section
namespace Go.Proofs.YtdgnjhhieemcaaaGreatDoor.L8
open Go.RowKit Go.Shelf L2
attribute [local go_sem] Oper.semAt_some
theorem grown_of_below {w w':World} (h:Below w.heap.size w w'):w.grownBy w' none:=⟨h.os,h.tape,h.output,h.size,fun k hk _=>h.block k hk⟩
def szOf:Value→Nat
 | .string R=>R.size
 | _=>0
theorem lns_some (R:ByteArray) (h:R.data.toList≠[]):(lsx [] R.data.toList).map mkB=mkB (hdl R.data.toList)::(lsx [] (mkB (tll R.data.toList)).data.toList).map mkB:=by
 rw [lsx_step R.data.toList [] (by simpa using h),mkB_list];rfl
theorem lines_in (n:Nat) (hn:2≤n) (lp Bn n₀:Nat) (s:ByteArray) (hs:s.size≤1000000) (J Jx:List ByteArray→World→Prop) (W:World) (hJ:AbidesFrom W.heap.size J)
  (hY:∀ pre x W1,J pre W1→pre.length<(lns s).length→YieldAt Fence.wide (n-1) Tryz.prog lp #[.string x] W1 fun e W' =>
   (e=.returned (.bool true)∧J (pre++[x]) W'∧Below n₀ W1 W')∨(e=.returned (.bool false)∧Jx (pre++[x]) W'))
  (hBn:W.cell? ⟨Bn,0,none⟩=some (.string s)) (h0:J [] W) :
  CallsIn Fence.wide n Tryz.prog 186 #[.func (.yield lp) #[] #[],.pointer (some ⟨Bn,0,none⟩)] W fun e W'=>(∃ v,e=.returned v) ∧
   ((∃ ys,ys=lns s∧J ys W')∨(∃ pre,pre <+: lns s∧Jx pre W')):=by
 refine callsIn_of_wp Tryz.func186 rfl trivial ?_ rfl
 simp only [Tryz.ntmps186,List.size_toArray,List.length_cons,List.length_nil,Nat.reduceAdd,Nat.reduceSub,Array.replicate_succ,Array.replicate_zero,List.push_toArray,List.append_toArray,List.nil_append,List.cons_append]
 gi_wp2
 have h1n:1≤n:=by omega
 gi_loopw [3] (fun r wr=>∃ (pre:List ByteArray) (R:ByteArray),r=.string R∧R.size≤s.size∧Hid (lns s=pre++(lsx [] R.data.toList).map mkB)∧J pre wr) (fun r _=>szOf r)
 case atStart=>exact⟨[],s,rfl,Nat.le_refl _,Lib.hid (by rw [lns_lsx];rfl),h0⟩
 case round =>
  obtain⟨pre,R,rfl,hRs,hR,hJr⟩:=hrel
  by_cases hl0:R.data.toList=[]
  ·have t1:R.toList.isEmpty=true:=by rw [Lib.toList_data,hl0];rfl
   have e1:lns s=pre:=by rw [hR.out,hl0];simp [lsx]
   have E1:=Lib.hid e1
   clear e1 hl0 hR hY hJ
   gi_wp2
   go_end0
   exact⟨⟨_,rfl⟩,.inl ⟨_,rfl,by rw [E1.out];exact hJr⟩⟩
  ·have t1:R.toList.isEmpty=false:=by
    rw [Lib.toList_data]
    cases h:R.data.toList with
    | nil=>exact absurd h hl0
    | cons _ _=>rfl
   have hR1:=hR.out
   rw [lns_some R hl0] at hR1
   have hlt:pre.length<(lns s).length:=by rw [hR1];simp
   have hU:=hdl_le R.data.toList
   have hV:=tll_lt R.data.toList hl0
   have HC:=Lib.hid (callsIn_wide (n:=n-1).2 (cutnl_any R (by omega) wr))
   rw [size_list] at hV
   have hVs:=mkB_size (tll R.data.toList)
   obtain⟨U,hUe⟩:∃ U,mkB (hdl R.data.toList)=U:=⟨_,rfl⟩
   obtain⟨V,hVe⟩:∃ V,mkB (tll R.data.toList)=V:=⟨_,rfl⟩
   rw [hUe,hVe] at HC hR1
   rw [hVe] at hVs
   have hpre:lns s=(pre++[U])++(lsx [] V.data.toList).map mkB:=by rw [hR1];simp
   have HP:=Lib.hid hpre
   have hYn:=Lib.hid (fun (m:Nat)=>hY pre U (wr.drewN m) (hJ _ _ _ none hJr (grown_of_below (bdN (Below.refl _ _) m)) (fun r e=>by cases e)) hlt)
   have hVR:V.size<R.size:=by omega
   clear hR1 hR hU hUe hVe hV hVs hpre hlt hY hJ hl0
   gi_wp2_with (refine⟨trivial,?_⟩;gi_at_call 187;((with_reducible refine (HC.out).mono ?_);rintro e w1 ⟨⟨bb,rfl⟩,m,rfl⟩;obtain⟨fn,tmps,assign,body,hy,hYR⟩:=hYn.out m))
   refine hYR.mono ?_
   rintro e W3 (⟨rfl,hJ3,hk3⟩|⟨rfl,hJx3⟩)
   ·clear hYn hYR HC
    gi_wp2
    go_roundw
    case rel=>exact⟨_,V,rfl,by omega,HP,hJ3⟩
    case measure=>simpa [szOf] using hVR
   ·clear hYn hYR HC
    gi_wp2
    refine bodyPost_ret (results_none rfl _ _ _) rfl ?_
    exact⟨⟨_,rfl⟩,.inr ⟨_,⟨_,HP.out.symm⟩,hJx3⟩⟩
theorem eachLine_at (s:ByteArray) (w:World):Calls Tryz.prog 127 #[.string s] w fun e w'=>e=.returned (.func (.func 186) #[] #[.pointer (some ⟨w.heap.size,0,none⟩)])∧w'=w.alloc (.cells #[.string s] 9):=by
 have hmf:(Instr.makeFunc (.func 186) #[] #[.pointer (some ⟨w.heap.size,0,none⟩)]).run Tryz.prog (w.alloc (.cells #[.string s] 9))=.ok (.func (.func 186) #[] #[.pointer (some ⟨w.heap.size,0,none⟩)]) (w.alloc (.cells #[.string s] 9)):=by rfl
 go_enter Tryz.func127,Tryz.ntmps127
 go_wp2
 go_ret
 exact⟨rfl,rfl⟩
theorem lines_stops (n:Nat) (hn:2≤n) (Bn n₀:Nat) (s:ByteArray) (hs:s.size≤1000000) (w:World) (hBn:Bn<w.heap.size) (hc:w.cell? ⟨Bn,0,none⟩=some (.string s)) :
  SeqStopsK Fence.wide n Tryz.prog 186 #[.pointer (some ⟨Bn,0,none⟩)] (fun x:ByteArray=>#[.string x]) (Below n₀) (fun ys=>ys=lns s) (fun pre=>pre <+: lns s) (lns s).length w:=fun lp J Jx W hW hJ _ hY hj =>
 lines_in n hn lp Bn n₀ s hs J Jx W hJ hY ((hW.cell (p:=⟨Bn,0,none⟩) hBn).trans hc) hj
theorem lns_le (s:ByteArray):(lns s).length≤s.size+1:=by
 have:=ln_len s.data.toList 0 0
 rw [size_list] at this
 simpa [lns,exX] using this
theorem ownsRow_putObj {W:World} {base e:TypeId} {size:Nat} {v:Value} {n:Nat} {xs:List Value} (h:W.ownsRow base e size v n xs) {l:Nat} {o:Obj} (o':Obj) (hl:W.heap[l]?=some o) (ho:o.isCells=false):(W.putObj l o').ownsRow base e size v n xs:=by
 refine h.kept (grownBy_putObj' W l o') ?_
 rcases h.2 with ⟨rfl,_⟩|⟨g,cap,cur,rfl,_,hh,_⟩
 ·exact .inl rfl
 ·refine .inr fun e=>?_
  simp [Value.ownBlock] at e
  subst e
  rw [hh] at hl;cases hl;cases ho
def LinI (w:World) (pre:List ByteArray) (W:World):Prop :=
 (∃ v,Boxed W w.heap.size 63 v∧W.ownsRow w.heap.size 9 1 v pre.length (stC pre)∧True)∧Below w.heap.size w W
theorem linI_own (w:World) (B:Nat) (hB:w.heap.size≤B):OwnFrom B (LinI w) :=
 OwnFrom.and (Own.from (holdsRow_own _ _ _ _ _ (fun pre:List ByteArray=>pre.length) (fun pre=>stC pre) (fun _ _=>True)) _) (ownFrom_below (Nat.le_refl _) hB)
theorem lines8 (s:ByteArray) (w:World) (hs:s.size≤1000000):Calls Tryz.prog 93 #[.string s] w fun e w'=>PS w (lns s) e w':=by
 obtain⟨i0,hi,hz0,hz1,hz2⟩:=info_parts Tryz.info9
 refine (callsIn_wide (n:=6)).1 ?_
 refine callsIn_of_wp_marks Tryz.func93 rfl trivial ?_ rfl
 simp only [Tryz.ntmps93,List.size_toArray,List.length_cons,List.length_nil,Nat.reduceAdd,Nat.reduceSub,Array.replicate_succ,Array.replicate_zero,List.push_toArray,List.append_toArray,List.nil_append,List.cons_append]
 gi_wp2_with (refine⟨trivial,?_⟩;gi_at_call 127;refine (callsIn_wide.2 (eachLine_at s _)).mono ?_;rintro e w1 ⟨rfl,rfl⟩)
 have b0:=(Boxed.new w 63 (.slice none 0 0)).alloc (.cells #[.string s] 9)
 have b1:=Boxed.new (w.alloc (.cells #[.slice none 0 0] 63)) 9 (.string s)
 simp only [World.size_alloc] at b1
 have hB0:Below w.heap.size w ((w.alloc (.cells #[.slice none 0 0] 63)).alloc (.cells #[.string s] 9)):=((Below.refl _ w).alloc (Nat.le_refl _) _).alloc (by simp) _
 have hsz:((w.alloc (.cells #[.slice none 0 0] 63)).alloc (.cells #[.string s] 9)).heap.size=w.heap.size+1+1:=by simp
 obtain⟨W0,hW0⟩:∃ W0,(w.alloc (.cells #[.slice none 0 0] 63)).alloc (.cells #[.string s] 9)=W0:=⟨_,rfl⟩
 rw [hW0] at b0 b1 hB0 hsz
 have hlen:=lns_le s
 simp only [hW0]
 clear hW0
 refine wpIn_rangeFunc_ownF rfl (by omega) (gf:=186) (lb:=#[.pointer (some ⟨w.heap.size+1,0,none⟩)]) rfl trivial (enters_of Tryz.func186 (by kernel_rfl) rfl)
  (lines_stops _ (by omega) (w.heap.size+1) w.heap.size s hs W0 (by omega) b1.cell) belowK_t (belowK_b (by omega)) (Below.refl _ _) (fun _=>rfl)
  (LinI w) (fun _ _ _=>False) (linI_own w _ (by omega)) (fun _ _ _ _ _ hs _ _=>hs)
  ⟨⟨_,b0,World.ownsRow_nil _ _ _ _,trivial⟩,hB0⟩
  (fun x=>{ tmps:=#[.string s,undef,.slice none 0 0,.pointer (some ⟨w.heap.size,0,none⟩),.string x,.string s,.func (.func 186) #[] #[.pointer (some ⟨w.heap.size+1,0,none⟩)],.string x,undef,undef,undef,undef,undef],defers:=[] })
  ?assign ?body ?done ?stop
 case assign =>
  intro l x W K hK
  gi_wp2
  exact hK
 case body =>
  rintro lp pre x W ⟨⟨vv,c3,hrow,-⟩,hB1⟩ hlt
  have d3:=c3.cell
  have hle:w.heap.size≤w.heap.size:=Nat.le_refl _
  gi_wp2_with (gi_at_builtin;refine wpListIn_append_own _ rfl _ _ 63 rfl w.heap.size 9 i0 (.string ⟨#[]⟩) 1 16 Tryz.underlying63 hi hz0 hz1 hz2 rfl (by decide) _ _ _ rfl (hrow.alloc _) ⟨W.heap.size,0,none⟩ 1 1 [.string x] rfl rfl (World.news_of_block (cs:=#[.string x]) (t:=9) (fr:=(0,0)) (heap_alloc_last W _)) (by simp [Value.oneCell']) (by unfold maxLen;omega) (by omega) (by have:=hB1.size;simp;omega) ?_;intro v' w1 hown' hgrow _;obtain⟨g',cap',rfl⟩:=ownsRow_succ hown';obtain⟨hv1,hv2,hr2,hk2,hb2⟩:=c3.appended (by decide) hrow hB1.size hle hown' hgrow;have hc1:=hv1.cell;have hf1:=hv1.frozen)
  refine⟨hk2,hb2,⟨_,hv2,?_,trivial⟩,hB1.trans hb2⟩
  rw [stC_snoc,List.length_append]
  exact hr2
 case done =>
  rintro D ys W hD rfl ⟨⟨vv,c3,hrow,-⟩,hB1⟩ hK
  have d3:=c3.cell
  gi_wp2
  refine⟨by simp,.inl ⟨_,_,rfl,run_takeDeferred hK,?_⟩⟩
  exact⟨vv,by simp [results,Tryz.results93,go_sem],⟨⟨_,rfl,own_st (ownsRow_putObj hrow _ hK rfl)⟩,hB1.trans (belowK_b (w:=w) (Nat.le_refl _) W D _ _ (by omega) hK rfl rfl)⟩⟩
 case stop =>
  rintro D c pre W _ _ h _
  exact h.elim
end Go.Proofs.YtdgnjhhieemcaaaGreatDoor.L8
end
