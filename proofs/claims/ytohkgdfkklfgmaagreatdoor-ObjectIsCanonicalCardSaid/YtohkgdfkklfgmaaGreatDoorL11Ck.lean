/- What a correct program says of its parts: each instruction's fields, each declaration. It speaks of no program. -/
import Derived.Test.YtohkgdfkklfgmaaGreatDoorM13
import Derived.Lib.Strings
namespace Go.Proofs.YtohkgdfkklfgmaaGreatDoor.L11
open L9 (tCom tOpn tShu tPlu tMin tCol eB)
open L10 (Stm Pg)
theorem first0:∀ (l:List (Bool × Int)),(∀ p∈l,p.2≠0)→L4.firstBad l=0→∀ p∈l,p.1=true
 | [],_,_=>by simp
 | (b,e)::r,h,h0=>by
  rw [L4.firstBad] at h0
  cases b
  ·exact absurd h0 (h (false,e) (by simp))
  ·intro p hp
   rcases List.mem_cons.1 hp with rfl|hp
   ·rfl
   ·exact first0 r (fun q hq=>h q (by simp [hq])) h0 p hp
theorem chk_all {f:Int} {reg:Bool} {dst src off imm:Int} (h:L4.chkF f reg dst src off imm=0) :
  f≠-1∧(reg=false∨f=0∨f=4)∧(L4.uD f=true∨dst=0)∧(L4.uS f reg=true∨src=0)∧(L4.uO f=true∨off=0)∧(L4.uI f reg=true∨imm=0)∧L4.isG dst=true∧L4.isG src=true∧L1.sx 16 off=off∧L4.rng f imm=true:=by
 unfold L4.chkF at h
 have k:=first0 _ (by intro p hp;simp only [List.mem_cons,List.not_mem_nil,or_false] at hp;rcases hp with rfl|rfl|rfl|rfl|rfl|rfl|rfl <;> simp) h
 have k1:=k _ (List.mem_cons_self ..)
 have k2:=k _ (List.mem_cons_of_mem _ (List.mem_cons_self ..))
 have k3:=k _ (List.mem_cons_of_mem _ (List.mem_cons_of_mem _ (List.mem_cons_self ..)))
 have k4:=k _ (List.mem_cons_of_mem _ (List.mem_cons_of_mem _ (List.mem_cons_of_mem _ (List.mem_cons_self ..))))
 have k5:=k _ (List.mem_cons_of_mem _ (List.mem_cons_of_mem _ (List.mem_cons_of_mem _ (List.mem_cons_of_mem _ (List.mem_cons_self ..)))))
 have k6:=k _ (List.mem_cons_of_mem _ (List.mem_cons_of_mem _ (List.mem_cons_of_mem _ (List.mem_cons_of_mem _ (List.mem_cons_of_mem _ (List.mem_cons_self ..))))))
 have k7:=k _ (List.mem_cons_of_mem _ (List.mem_cons_of_mem _ (List.mem_cons_of_mem _ (List.mem_cons_of_mem _ (List.mem_cons_of_mem _ (List.mem_cons_of_mem _ (List.mem_cons_self ..)))))))
 simp only [Bool.and_eq_true,Bool.or_eq_true,bne_iff_ne,ne_eq,beq_iff_eq,Bool.not_eq_true'] at k1 k2 k3 k4 k5 k6 k7
 exact⟨k1,by rcases k2 with (k2|k2)|k2 <;> simp [k2],k3.1,k3.2,k4.1,k4.2,k5.1,k5.2,k6,k7⟩
theorem emp {t:ByteArray} (h:t.toList.isEmpty=true):t=eB:=by
 rw [Lib.toList_data] at h
 apply ByteArray.ext
 apply Array.toList_inj.1
 show t.data.toList=[]
 simpa using h
theorem upB_of {g n:Int} (h:L10.upB g n=true):1≤n∧n≤g:=by
 unfold L10.upB at h
 simpa using h
theorem deE_of {d:L9.Df} (h:L10.deE d=0):L2.vd d.nm=true∧(1≤d.key∧d.key≤64)∧(1≤d.val∧d.val≤256)∧1≤d.ent∧d.ent≤1024:=by
 unfold L10.deE at h
 split at h
 ·split at h
  ·rename_i h1 h2
   simp only [Bool.and_eq_true] at h2
   exact⟨h1,upB_of h2.1.1,upB_of h2.1.2,upB_of h2.2⟩
  ·cases h
 ·cases h
theorem fe_zero {l:List Int} (h:(L10.fe l).2=0):∀ e∈l,e=0:=L10.feF_none l 0 h
theorem frB_ok:∀ (l:List (Bool × Nat × Int)),(L10.frB l).2.2=0→∀ c∈l,c.2.2=0
 | [],_=>by simp
 | c::r,h=>by
  rw [L10.frB] at h
  by_cases h0:c.2.2=0
  ·rw [if_pos h0] at h
   intro x hx
   rcases List.mem_cons.1 hx with rfl|hx
   ·exact h0
   ·exact frB_ok r h x hx
  ·rw [if_neg h0] at h;exact absurd h h0
theorem brV_parts {p:Pg} (h:(L10.brV p).2.2=0):(∀ d∈p.maps,L10.deE d=0)∧(∀ s∈p.stmts,L10.stE s=0):=by
 have k:=frB_ok _ h
 refine⟨fun d hd=>?_,fun s hs=>?_⟩
 ·have:=k (true,L10.fe (p.maps.map L10.deE)) (by simp [L10.cnd])
  exact fe_zero this _ (List.mem_map.2 ⟨d,hd,rfl⟩)
 ·have:=k (false,L10.fe (p.stmts.map L10.stE)) (by simp [L10.cnd])
  exact fe_zero this _ (List.mem_map.2 ⟨s,hs,rfl⟩)
end Go.Proofs.YtohkgdfkklfgmaaGreatDoor.L11
