/- Lemmas and walks of L3Rfn, L4Uses: what each theorem states; conditions stand in each theorem. -/
import Derived.Test.YtihiggnglmhggaaGreatDoorM9
set_option maxHeartbeats 40000000
set_option maxRecDepth 100000
section
namespace Go.Proofs.YtihiggnglmhggaaGreatDoor.L3
open Go.RowKit
theorem rform_in (k:Nat) (hk:k<86) (w:World):Calls Tryz.prog 29 #[.int .i64 (k:Int)] w fun e w'=>e=.returned (.int .i64 (fm k))∧w=w':=by
 rcases lt86 hk with rfl|rfl|rfl|rfl|rfl|rfl|rfl|rfl|rfl|rfl|rfl|rfl|rfl|rfl|rfl|rfl|rfl|rfl|rfl|rfl|rfl|rfl|rfl|rfl|rfl|rfl|rfl|rfl|rfl|rfl|rfl|rfl|rfl|rfl|rfl|rfl|rfl|rfl|rfl|rfl|rfl|rfl|rfl|rfl|rfl|rfl|rfl|rfl|rfl|rfl|rfl|rfl|rfl|rfl|rfl|rfl|rfl|rfl|rfl|rfl|rfl|rfl|rfl|rfl|rfl|rfl|rfl|rfl|rfl|rfl|rfl|rfl|rfl|rfl|rfl|rfl|rfl|rfl|rfl|rfl|rfl|rfl|rfl|rfl|rfl|rfl
 all_goals
  clear hk
  go_enter Tryz.func29,Tryz.ntmps29
  go_wp2_with (first|(go_at_call 64;((with_reducible refine (right_at _ true _ (by decide)).mono ?_);rintro e w1 ⟨rfl,rfl⟩)))
  go_ret
  exact⟨rfl,rfl⟩
theorem rform_at (op:Int) (v:Int) (w:World) (hv:frm (ix op)=v):Calls Tryz.prog 29 #[.int .i64 op] w fun e w'=>e=.returned (.int .i64 v)∧w=w':=by
 subst hv
 by_cases h:0≤op∧op<86
 ·have:=rform_in (ix op) (ix_lt h) w
  rw [ix_in h] at this
  rwa [frm,if_pos (ix_lt h)]
 ·have HK:Hid (decide (ix op<86)=false):=Lib.hid (by rw [ix_out h];rfl)
  rw [ix_out h]
  clear h
  go_enter Tryz.func29,Tryz.ntmps29
  go_wp2_with (first|(go_at_call 64;((with_reducible refine (right_at _ false _ HK.out).mono ?_);rintro e w1 ⟨rfl,rfl⟩)))
  go_ret
  exact⟨rfl,rfl⟩
theorem rbits_a (k:Nat) (h:0≤k∧k≤13) (w:World):Calls Tryz.prog 119 #[.int .i64 (k:Int)] w fun e w'=>e=.returned (.int .i64 64)∧Below w.heap.size w w':=by
 have HK:Hid (decide (ix (k:Int)<86)=true):=Lib.hid (by rw [ix_nat (by omega)];exact decide_eq_true (by omega))
 have g0:decide ((35:Int)≤(k:Int))=false:=by rw [decide_eq_false_iff_not];omega
 have g1:decide ((69:Int)≤(k:Int))=false:=by rw [decide_eq_false_iff_not];omega
 have g2:decide ((76:Int)≤(k:Int))=false:=by rw [decide_eq_false_iff_not];omega
 have g3:decide ((14:Int)≤(k:Int))=false:=by rw [decide_eq_false_iff_not];omega
 have g4:decide ((56:Int)≤(k:Int))=false:=by rw [decide_eq_false_iff_not];omega
 have g5:decide ((k:Int)≤43)=true:=by rw [decide_eq_true_iff];omega
 have g6:decide ((k:Int)≤75)=true:=by rw [decide_eq_true_iff];omega
 have g7:decide ((k:Int)≤83)=true:=by rw [decide_eq_true_iff];omega
 have g8:decide ((k:Int)≤27)=true:=by rw [decide_eq_true_iff];omega
 have g9:decide ((k:Int)≤66)=true:=by rw [decide_eq_true_iff];omega
 have g10:((k:Int)==44)=false:=by rw [beq_eq_false_iff_ne];omega
 have g11:((k:Int)==67)=false:=by rw [beq_eq_false_iff_ne];omega
 have g12:((k:Int)==68)=false:=by rw [beq_eq_false_iff_ne];omega
 have g13:((k:Int)==29)=false:=by rw [beq_eq_false_iff_ne];omega
 have g14:((k:Int)==33)=false:=by rw [beq_eq_false_iff_ne];omega
 have g15:((k:Int)==34)=false:=by rw [beq_eq_false_iff_ne];omega
 clear h
 go_enter Tryz.func119,Tryz.ntmps119
 go_wp2_with (first|(go_at_call 64;((with_reducible refine (right_at _ true _ HK.out).mono ?_);rintro e w1 ⟨rfl,rfl⟩)))
 go_ret
 exact⟨rfl,bnew w _⟩
theorem rbits_b (k:Nat) (h:14≤k∧k≤27) (w:World):Calls Tryz.prog 119 #[.int .i64 (k:Int)] w fun e w'=>e=.returned (.int .i64 32)∧Below w.heap.size w w':=by
 have HK:Hid (decide (ix (k:Int)<86)=true):=Lib.hid (by rw [ix_nat (by omega)];exact decide_eq_true (by omega))
 have g0:decide ((35:Int)≤(k:Int))=false:=by rw [decide_eq_false_iff_not];omega
 have g1:decide ((69:Int)≤(k:Int))=false:=by rw [decide_eq_false_iff_not];omega
 have g2:decide ((76:Int)≤(k:Int))=false:=by rw [decide_eq_false_iff_not];omega
 have g3:decide ((14:Int)≤(k:Int))=true:=by rw [decide_eq_true_iff];omega
 have g4:decide ((56:Int)≤(k:Int))=false:=by rw [decide_eq_false_iff_not];omega
 have g5:decide ((k:Int)≤43)=true:=by rw [decide_eq_true_iff];omega
 have g6:decide ((k:Int)≤75)=true:=by rw [decide_eq_true_iff];omega
 have g7:decide ((k:Int)≤83)=true:=by rw [decide_eq_true_iff];omega
 have g8:decide ((k:Int)≤27)=true:=by rw [decide_eq_true_iff];omega
 have g9:decide ((k:Int)≤66)=true:=by rw [decide_eq_true_iff];omega
 have g10:((k:Int)==44)=false:=by rw [beq_eq_false_iff_ne];omega
 have g11:((k:Int)==67)=false:=by rw [beq_eq_false_iff_ne];omega
 have g12:((k:Int)==68)=false:=by rw [beq_eq_false_iff_ne];omega
 have g13:((k:Int)==29)=false:=by rw [beq_eq_false_iff_ne];omega
 have g14:((k:Int)==33)=false:=by rw [beq_eq_false_iff_ne];omega
 have g15:((k:Int)==34)=false:=by rw [beq_eq_false_iff_ne];omega
 clear h
 go_enter Tryz.func119,Tryz.ntmps119
 go_wp2_with (first|(go_at_call 64;((with_reducible refine (right_at _ true _ HK.out).mono ?_);rintro e w1 ⟨rfl,rfl⟩)))
 go_ret
 exact⟨rfl,bnew w _⟩
theorem rbits_c (k:Nat) (h:30≤k∧k≤32) (w:World):Calls Tryz.prog 119 #[.int .i64 (k:Int)] w fun e w'=>e=.returned (.int .i64 64)∧Below w.heap.size w w':=by
 have HK:Hid (decide (ix (k:Int)<86)=true):=Lib.hid (by rw [ix_nat (by omega)];exact decide_eq_true (by omega))
 have g0:decide ((35:Int)≤(k:Int))=false:=by rw [decide_eq_false_iff_not];omega
 have g1:decide ((69:Int)≤(k:Int))=false:=by rw [decide_eq_false_iff_not];omega
 have g2:decide ((76:Int)≤(k:Int))=false:=by rw [decide_eq_false_iff_not];omega
 have g3:decide ((14:Int)≤(k:Int))=true:=by rw [decide_eq_true_iff];omega
 have g4:decide ((56:Int)≤(k:Int))=false:=by rw [decide_eq_false_iff_not];omega
 have g5:decide ((k:Int)≤43)=true:=by rw [decide_eq_true_iff];omega
 have g6:decide ((k:Int)≤75)=true:=by rw [decide_eq_true_iff];omega
 have g7:decide ((k:Int)≤83)=true:=by rw [decide_eq_true_iff];omega
 have g8:decide ((k:Int)≤27)=false:=by rw [decide_eq_false_iff_not];omega
 have g9:decide ((k:Int)≤66)=true:=by rw [decide_eq_true_iff];omega
 have g10:((k:Int)==44)=false:=by rw [beq_eq_false_iff_ne];omega
 have g11:((k:Int)==67)=false:=by rw [beq_eq_false_iff_ne];omega
 have g12:((k:Int)==68)=false:=by rw [beq_eq_false_iff_ne];omega
 have g13:((k:Int)==29)=false:=by rw [beq_eq_false_iff_ne];omega
 have g14:((k:Int)==33)=false:=by rw [beq_eq_false_iff_ne];omega
 have g15:((k:Int)==34)=false:=by rw [beq_eq_false_iff_ne];omega
 clear h
 go_enter Tryz.func119,Tryz.ntmps119
 go_wp2_with (first|(go_at_call 64;((with_reducible refine (right_at _ true _ HK.out).mono ?_);rintro e w1 ⟨rfl,rfl⟩)))
 go_ret
 exact⟨rfl,bnew w _⟩
theorem rbits_d (k:Nat) (h:45≤k∧k≤55) (w:World):Calls Tryz.prog 119 #[.int .i64 (k:Int)] w fun e w'=>e=.returned (.int .i64 64)∧Below w.heap.size w w':=by
 have HK:Hid (decide (ix (k:Int)<86)=true):=Lib.hid (by rw [ix_nat (by omega)];exact decide_eq_true (by omega))
 have g0:decide ((35:Int)≤(k:Int))=true:=by rw [decide_eq_true_iff];omega
 have g1:decide ((69:Int)≤(k:Int))=false:=by rw [decide_eq_false_iff_not];omega
 have g2:decide ((76:Int)≤(k:Int))=false:=by rw [decide_eq_false_iff_not];omega
 have g3:decide ((14:Int)≤(k:Int))=true:=by rw [decide_eq_true_iff];omega
 have g4:decide ((56:Int)≤(k:Int))=false:=by rw [decide_eq_false_iff_not];omega
 have g5:decide ((k:Int)≤43)=false:=by rw [decide_eq_false_iff_not];omega
 have g6:decide ((k:Int)≤75)=true:=by rw [decide_eq_true_iff];omega
 have g7:decide ((k:Int)≤83)=true:=by rw [decide_eq_true_iff];omega
 have g8:decide ((k:Int)≤27)=false:=by rw [decide_eq_false_iff_not];omega
 have g9:decide ((k:Int)≤66)=true:=by rw [decide_eq_true_iff];omega
 have g10:((k:Int)==44)=false:=by rw [beq_eq_false_iff_ne];omega
 have g11:((k:Int)==67)=false:=by rw [beq_eq_false_iff_ne];omega
 have g12:((k:Int)==68)=false:=by rw [beq_eq_false_iff_ne];omega
 have g13:((k:Int)==29)=false:=by rw [beq_eq_false_iff_ne];omega
 have g14:((k:Int)==33)=false:=by rw [beq_eq_false_iff_ne];omega
 have g15:((k:Int)==34)=false:=by rw [beq_eq_false_iff_ne];omega
 clear h
 go_enter Tryz.func119,Tryz.ntmps119
 go_wp2_with (first|(go_at_call 64;((with_reducible refine (right_at _ true _ HK.out).mono ?_);rintro e w1 ⟨rfl,rfl⟩)))
 go_ret
 exact⟨rfl,bnew w _⟩
theorem rbits_e (k:Nat) (h:56≤k∧k≤66) (w:World):Calls Tryz.prog 119 #[.int .i64 (k:Int)] w fun e w'=>e=.returned (.int .i64 32)∧Below w.heap.size w w':=by
 have HK:Hid (decide (ix (k:Int)<86)=true):=Lib.hid (by rw [ix_nat (by omega)];exact decide_eq_true (by omega))
 have g0:decide ((35:Int)≤(k:Int))=true:=by rw [decide_eq_true_iff];omega
 have g1:decide ((69:Int)≤(k:Int))=false:=by rw [decide_eq_false_iff_not];omega
 have g2:decide ((76:Int)≤(k:Int))=false:=by rw [decide_eq_false_iff_not];omega
 have g3:decide ((14:Int)≤(k:Int))=true:=by rw [decide_eq_true_iff];omega
 have g4:decide ((56:Int)≤(k:Int))=true:=by rw [decide_eq_true_iff];omega
 have g5:decide ((k:Int)≤43)=false:=by rw [decide_eq_false_iff_not];omega
 have g6:decide ((k:Int)≤75)=true:=by rw [decide_eq_true_iff];omega
 have g7:decide ((k:Int)≤83)=true:=by rw [decide_eq_true_iff];omega
 have g8:decide ((k:Int)≤27)=false:=by rw [decide_eq_false_iff_not];omega
 have g9:decide ((k:Int)≤66)=true:=by rw [decide_eq_true_iff];omega
 have g10:((k:Int)==44)=false:=by rw [beq_eq_false_iff_ne];omega
 have g11:((k:Int)==67)=false:=by rw [beq_eq_false_iff_ne];omega
 have g12:((k:Int)==68)=false:=by rw [beq_eq_false_iff_ne];omega
 have g13:((k:Int)==29)=false:=by rw [beq_eq_false_iff_ne];omega
 have g14:((k:Int)==33)=false:=by rw [beq_eq_false_iff_ne];omega
 have g15:((k:Int)==34)=false:=by rw [beq_eq_false_iff_ne];omega
 clear h
 go_enter Tryz.func119,Tryz.ntmps119
 go_wp2_with (first|(go_at_call 64;((with_reducible refine (right_at _ true _ HK.out).mono ?_);rintro e w1 ⟨rfl,rfl⟩)))
 go_ret
 exact⟨rfl,bnew w _⟩
theorem rbits_f (k:Nat) (h:84≤k∧k≤85) (w:World):Calls Tryz.prog 119 #[.int .i64 (k:Int)] w fun e w'=>e=.returned (.int .i64 64)∧Below w.heap.size w w':=by
 have HK:Hid (decide (ix (k:Int)<86)=true):=Lib.hid (by rw [ix_nat (by omega)];exact decide_eq_true (by omega))
 have g0:decide ((35:Int)≤(k:Int))=true:=by rw [decide_eq_true_iff];omega
 have g1:decide ((69:Int)≤(k:Int))=true:=by rw [decide_eq_true_iff];omega
 have g2:decide ((76:Int)≤(k:Int))=true:=by rw [decide_eq_true_iff];omega
 have g3:decide ((14:Int)≤(k:Int))=true:=by rw [decide_eq_true_iff];omega
 have g4:decide ((56:Int)≤(k:Int))=true:=by rw [decide_eq_true_iff];omega
 have g5:decide ((k:Int)≤43)=false:=by rw [decide_eq_false_iff_not];omega
 have g6:decide ((k:Int)≤75)=false:=by rw [decide_eq_false_iff_not];omega
 have g7:decide ((k:Int)≤83)=false:=by rw [decide_eq_false_iff_not];omega
 have g8:decide ((k:Int)≤27)=false:=by rw [decide_eq_false_iff_not];omega
 have g9:decide ((k:Int)≤66)=false:=by rw [decide_eq_false_iff_not];omega
 have g10:((k:Int)==44)=false:=by rw [beq_eq_false_iff_ne];omega
 have g11:((k:Int)==67)=false:=by rw [beq_eq_false_iff_ne];omega
 have g12:((k:Int)==68)=false:=by rw [beq_eq_false_iff_ne];omega
 have g13:((k:Int)==29)=false:=by rw [beq_eq_false_iff_ne];omega
 have g14:((k:Int)==33)=false:=by rw [beq_eq_false_iff_ne];omega
 have g15:((k:Int)==34)=false:=by rw [beq_eq_false_iff_ne];omega
 clear h
 go_enter Tryz.func119,Tryz.ntmps119
 go_wp2_with (first|(go_at_call 64;((with_reducible refine (right_at _ true _ HK.out).mono ?_);rintro e w1 ⟨rfl,rfl⟩)))
 go_ret
 exact⟨rfl,bnew w _⟩
theorem bits_split {k:Nat} (h:k<86):((0≤k∧k≤13)∨(14≤k∧k≤27)∨(30≤k∧k≤32)∨(45≤k∧k≤55)∨(56≤k∧k≤66)∨(84≤k∧k≤85))∨k=28∨k=29∨k=33∨k=34∨k=44∨k=67∨k=68∨k=35∨k=36∨k=37∨k=38∨k=39∨k=40∨k=41∨k=42∨k=43∨k=69∨k=70∨k=71∨k=72∨k=73∨k=74∨k=75∨k=76∨k=77∨k=78∨k=79∨k=80∨k=81∨k=82∨k=83:=by omega
theorem bits_vals:∀ k,k<86→((0≤k∧k≤13)∨(30≤k∧k≤32)∨(45≤k∧k≤55)∨(84≤k∧k≤85)→bt k=64)∧((14≤k∧k≤27)∨(56≤k∧k≤66)→bt k=32):=by decide +kernel
theorem rbits_in (k:Nat) (hk:k<86) (w:World):Calls Tryz.prog 119 #[.int .i64 (k:Int)] w fun e w'=>e=.returned (.int .i64 (bt k))∧Below w.heap.size w w':=by
 rcases bits_split hk with (h|h|h|h|h|h)|rfl|rfl|rfl|rfl|rfl|rfl|rfl|rfl|rfl|rfl|rfl|rfl|rfl|rfl|rfl|rfl|rfl|rfl|rfl|rfl|rfl|rfl|rfl|rfl|rfl|rfl|rfl|rfl|rfl|rfl|rfl
 ·rw [(bits_vals k hk).1 (by omega)];exact rbits_a k h w
 ·rw [(bits_vals k hk).2 (by omega)];exact rbits_b k h w
 ·rw [(bits_vals k hk).1 (by omega)];exact rbits_c k h w
 ·rw [(bits_vals k hk).1 (by omega)];exact rbits_d k h w
 ·rw [(bits_vals k hk).2 (by omega)];exact rbits_e k h w
 ·rw [(bits_vals k hk).1 (by omega)];exact rbits_f k h w
 all_goals
  clear hk
  go_enter Tryz.func119,Tryz.ntmps119
  go_wp2_with (first|(go_at_call 64;((with_reducible refine (right_at _ true _ (by decide)).mono ?_);rintro e w1 ⟨rfl,rfl⟩)))
  go_ret
  exact⟨rfl,by first|exact bnew w _|exact bch (bnew w _) (bnew _ _)⟩
theorem rbits_at (op:Int) (v:Int) (w:World) (hv:bt (ix op)=v):Calls Tryz.prog 119 #[.int .i64 op] w fun e w'=>e=.returned (.int .i64 v)∧Below w.heap.size w w':=by
 subst hv
 by_cases h:0≤op∧op<86
 ·have:=rbits_in (ix op) (ix_lt h) w
  rwa [ix_in h] at this
 ·have HK:Hid (decide (ix op<86)=false):=Lib.hid (by rw [ix_out h];rfl)
  rw [ix_out h]
  clear h
  go_enter Tryz.func119,Tryz.ntmps119
  go_wp2_with (first|(go_at_call 64;((with_reducible refine (right_at _ false _ HK.out).mono ?_);rintro e w1 ⟨rfl,rfl⟩)))
  go_ret
  exact⟨rfl,bnew w _⟩
end Go.Proofs.YtihiggnglmhggaaGreatDoor.L3
end
section
namespace Go.Proofs.YtihiggnglmhggaaGreatDoor.L4
open Go.RowKit L3
def uD (f:Int):Bool:=[0,1,2,4,7,8,9,10,11].contains f
def uS (f:Int) (reg:Bool):Bool:=[2,7,9].contains f || (reg && [0,4].contains f)
def uO (f:Int):Bool:=[3,4,7,8,9].contains f
def uI (f:Int) (reg:Bool):Bool:=[5,8,10,11].contains f || (!reg && [0,4].contains f)
def slo (f:Int):Int:=if f<0 then 0 else if 10≤f then 2 else 1
def wri (f dst:Int):Int:=if [0,1,2,7,10,11].contains f then dst else if f==5 then 0 else -1
def IsF (f:Int):Prop:=f=-1∨f=0∨f=1∨f=2∨f=3∨f=4∨f=5∨f=6∨f=7∨f=8∨f=9∨f=10∨f=11
theorem frm_isF (op:Int):IsF (frm (ix op)):=by
 have h:=ix_le op
 generalize ix op=k at h
 unfold IsF
 have:∀ k,k<87→frm k=-1∨frm k=0∨frm k=1∨frm k=2∨frm k=3∨frm k=4∨frm k=5∨frm k=6∨frm k=7∨frm k=8∨frm k=9∨frm k=10∨frm k=11:=by decide +kernel
 exact this k (by omega)
theorem form_at (op v:Int) (w:World) (hv:frm (ix op)=v):Calls Tryz.prog 80 #[.int .i64 op] w fun e w'=>e=.returned (.int .i64 v)∧Below w.heap.size w w':=by
 subst hv
 exact form_any op w
theorem two_blocks {w w1:World} {A B:Array Value} {t:TypeId} (h:Below ((w.alloc (.cells A t)).alloc (.cells B t)).heap.size ((w.alloc (.cells A t)).alloc (.cells B t)) w1) :
  w1.heap[w.heap.size]?=some (.cells A t)∧w1.heap[w.heap.size+1]?=some (.cells B t)∧Below w.heap.size w w1:=by
 refine⟨(h.block _ (by simp;omega)).trans ?_,(h.block _ (by simp)).trans ?_,bch (bch (bnew w _) (bnew _ _)) h⟩
 ·rw [Below.heap_alloc _ _ _ (by simp),heap_alloc_last]
 ·have:=heap_alloc_last (w.alloc (.cells A t)) (.cells B t)
  simpa using this
theorem cells4 {w:World} {k:Nat} {a b c d:Value} {t:TypeId} (h:w.heap[k]?=some (.cells #[a,b,c,d] t)) :
  w.cell? ⟨k,0,none⟩=some a∧w.cell? ⟨k,1,none⟩=some b∧w.cell? ⟨k,2,none⟩=some c∧w.cell? ⟨k,3,none⟩=some d ∧
  w.frozen? ⟨k,0,none⟩=false∧w.frozen? ⟨k,1,none⟩=false∧w.frozen? ⟨k,2,none⟩=false∧w.frozen? ⟨k,3,none⟩=false:=by
 simp [World.cell?,World.frozen?,h]
section
variable (op:Int) (reg:Bool) (w:World)
include op reg w
theorem uses_m (hf:frm (ix op)=(-1)):Calls Tryz.prog 185 #[.int .i64 op,.bool reg] w fun e w' =>
  e=.returned (.agg #[.bool (uD (-1)),.bool (uS (-1) reg),.bool (uO (-1)),.bool (uI (-1) reg)])∧Below w.heap.size w w':=by
 have HF:=Lib.hid hf
 clear hf
 go_enter Tryz.func185,Tryz.ntmps185
 go_wp2_with (first|(go_at_call 80;((with_reducible refine (form_at op _ _ HF.out).mono ?_);rintro e w1 ⟨rfl,hb1⟩;obtain⟨hA,hB,hb⟩:=two_blocks hb1;clear hb1;obtain⟨a0,a1,a2,a3,fa0,fa1,fa2,fa3⟩:=cells4 hA;obtain⟨b0,b1,b2,b3,fb0,fb1,fb2,fb3⟩:=cells4 hB;clear hA hB)))
 refine bodyPost_ret (v:=.agg #[.bool (uD (-1)),.bool (uS (-1) reg),.bool (uO (-1)),.bool (uI (-1) reg)]) ?_ rfl ⟨rfl,?_⟩
 ·simp [results,Tryz.results185,go_sem, *]
  try (cases reg <;> decide)
 ·repeat (with_reducible refine Below.setCell ?_ (by simp) _)
  exact hb
theorem uses_0 (hf:frm (ix op)=0):Calls Tryz.prog 185 #[.int .i64 op,.bool reg] w fun e w' =>
  e=.returned (.agg #[.bool (uD 0),.bool (uS 0 reg),.bool (uO 0),.bool (uI 0 reg)])∧Below w.heap.size w w':=by
 have HF:=Lib.hid hf
 clear hf
 go_enter Tryz.func185,Tryz.ntmps185
 go_wp2_with (first|(go_at_call 80;((with_reducible refine (form_at op _ _ HF.out).mono ?_);rintro e w1 ⟨rfl,hb1⟩;obtain⟨hA,hB,hb⟩:=two_blocks hb1;clear hb1;obtain⟨a0,a1,a2,a3,fa0,fa1,fa2,fa3⟩:=cells4 hA;obtain⟨b0,b1,b2,b3,fb0,fb1,fb2,fb3⟩:=cells4 hB;clear hA hB)))
 refine bodyPost_ret (v:=.agg #[.bool (uD 0),.bool (uS 0 reg),.bool (uO 0),.bool (uI 0 reg)]) ?_ rfl ⟨rfl,?_⟩
 ·simp [results,Tryz.results185,go_sem, *]
  try (cases reg <;> decide)
 ·repeat (with_reducible refine Below.setCell ?_ (by simp) _)
  exact hb
theorem uses_1 (hf:frm (ix op)=1):Calls Tryz.prog 185 #[.int .i64 op,.bool reg] w fun e w' =>
  e=.returned (.agg #[.bool (uD 1),.bool (uS 1 reg),.bool (uO 1),.bool (uI 1 reg)])∧Below w.heap.size w w':=by
 have HF:=Lib.hid hf
 clear hf
 go_enter Tryz.func185,Tryz.ntmps185
 go_wp2_with (first|(go_at_call 80;((with_reducible refine (form_at op _ _ HF.out).mono ?_);rintro e w1 ⟨rfl,hb1⟩;obtain⟨hA,hB,hb⟩:=two_blocks hb1;clear hb1;obtain⟨a0,a1,a2,a3,fa0,fa1,fa2,fa3⟩:=cells4 hA;obtain⟨b0,b1,b2,b3,fb0,fb1,fb2,fb3⟩:=cells4 hB;clear hA hB)))
 refine bodyPost_ret (v:=.agg #[.bool (uD 1),.bool (uS 1 reg),.bool (uO 1),.bool (uI 1 reg)]) ?_ rfl ⟨rfl,?_⟩
 ·simp [results,Tryz.results185,go_sem, *]
  try (cases reg <;> decide)
 ·repeat (with_reducible refine Below.setCell ?_ (by simp) _)
  exact hb
theorem uses_2 (hf:frm (ix op)=2):Calls Tryz.prog 185 #[.int .i64 op,.bool reg] w fun e w' =>
  e=.returned (.agg #[.bool (uD 2),.bool (uS 2 reg),.bool (uO 2),.bool (uI 2 reg)])∧Below w.heap.size w w':=by
 have HF:=Lib.hid hf
 clear hf
 go_enter Tryz.func185,Tryz.ntmps185
 go_wp2_with (first|(go_at_call 80;((with_reducible refine (form_at op _ _ HF.out).mono ?_);rintro e w1 ⟨rfl,hb1⟩;obtain⟨hA,hB,hb⟩:=two_blocks hb1;clear hb1;obtain⟨a0,a1,a2,a3,fa0,fa1,fa2,fa3⟩:=cells4 hA;obtain⟨b0,b1,b2,b3,fb0,fb1,fb2,fb3⟩:=cells4 hB;clear hA hB)))
 refine bodyPost_ret (v:=.agg #[.bool (uD 2),.bool (uS 2 reg),.bool (uO 2),.bool (uI 2 reg)]) ?_ rfl ⟨rfl,?_⟩
 ·simp [results,Tryz.results185,go_sem, *]
  try (cases reg <;> decide)
 ·repeat (with_reducible refine Below.setCell ?_ (by simp) _)
  exact hb
theorem uses_3 (hf:frm (ix op)=3):Calls Tryz.prog 185 #[.int .i64 op,.bool reg] w fun e w' =>
  e=.returned (.agg #[.bool (uD 3),.bool (uS 3 reg),.bool (uO 3),.bool (uI 3 reg)])∧Below w.heap.size w w':=by
 have HF:=Lib.hid hf
 clear hf
 go_enter Tryz.func185,Tryz.ntmps185
 go_wp2_with (first|(go_at_call 80;((with_reducible refine (form_at op _ _ HF.out).mono ?_);rintro e w1 ⟨rfl,hb1⟩;obtain⟨hA,hB,hb⟩:=two_blocks hb1;clear hb1;obtain⟨a0,a1,a2,a3,fa0,fa1,fa2,fa3⟩:=cells4 hA;obtain⟨b0,b1,b2,b3,fb0,fb1,fb2,fb3⟩:=cells4 hB;clear hA hB)))
 refine bodyPost_ret (v:=.agg #[.bool (uD 3),.bool (uS 3 reg),.bool (uO 3),.bool (uI 3 reg)]) ?_ rfl ⟨rfl,?_⟩
 ·simp [results,Tryz.results185,go_sem, *]
  try (cases reg <;> decide)
 ·repeat (with_reducible refine Below.setCell ?_ (by simp) _)
  exact hb
theorem uses_4 (hf:frm (ix op)=4):Calls Tryz.prog 185 #[.int .i64 op,.bool reg] w fun e w' =>
  e=.returned (.agg #[.bool (uD 4),.bool (uS 4 reg),.bool (uO 4),.bool (uI 4 reg)])∧Below w.heap.size w w':=by
 have HF:=Lib.hid hf
 clear hf
 go_enter Tryz.func185,Tryz.ntmps185
 go_wp2_with (first|(go_at_call 80;((with_reducible refine (form_at op _ _ HF.out).mono ?_);rintro e w1 ⟨rfl,hb1⟩;obtain⟨hA,hB,hb⟩:=two_blocks hb1;clear hb1;obtain⟨a0,a1,a2,a3,fa0,fa1,fa2,fa3⟩:=cells4 hA;obtain⟨b0,b1,b2,b3,fb0,fb1,fb2,fb3⟩:=cells4 hB;clear hA hB)))
 refine bodyPost_ret (v:=.agg #[.bool (uD 4),.bool (uS 4 reg),.bool (uO 4),.bool (uI 4 reg)]) ?_ rfl ⟨rfl,?_⟩
 ·simp [results,Tryz.results185,go_sem, *]
  try (cases reg <;> decide)
 ·repeat (with_reducible refine Below.setCell ?_ (by simp) _)
  exact hb
theorem uses_5 (hf:frm (ix op)=5):Calls Tryz.prog 185 #[.int .i64 op,.bool reg] w fun e w' =>
  e=.returned (.agg #[.bool (uD 5),.bool (uS 5 reg),.bool (uO 5),.bool (uI 5 reg)])∧Below w.heap.size w w':=by
 have HF:=Lib.hid hf
 clear hf
 go_enter Tryz.func185,Tryz.ntmps185
 go_wp2_with (first|(go_at_call 80;((with_reducible refine (form_at op _ _ HF.out).mono ?_);rintro e w1 ⟨rfl,hb1⟩;obtain⟨hA,hB,hb⟩:=two_blocks hb1;clear hb1;obtain⟨a0,a1,a2,a3,fa0,fa1,fa2,fa3⟩:=cells4 hA;obtain⟨b0,b1,b2,b3,fb0,fb1,fb2,fb3⟩:=cells4 hB;clear hA hB)))
 refine bodyPost_ret (v:=.agg #[.bool (uD 5),.bool (uS 5 reg),.bool (uO 5),.bool (uI 5 reg)]) ?_ rfl ⟨rfl,?_⟩
 ·simp [results,Tryz.results185,go_sem, *]
  try (cases reg <;> decide)
 ·repeat (with_reducible refine Below.setCell ?_ (by simp) _)
  exact hb
theorem uses_6 (hf:frm (ix op)=6):Calls Tryz.prog 185 #[.int .i64 op,.bool reg] w fun e w' =>
  e=.returned (.agg #[.bool (uD 6),.bool (uS 6 reg),.bool (uO 6),.bool (uI 6 reg)])∧Below w.heap.size w w':=by
 have HF:=Lib.hid hf
 clear hf
 go_enter Tryz.func185,Tryz.ntmps185
 go_wp2_with (first|(go_at_call 80;((with_reducible refine (form_at op _ _ HF.out).mono ?_);rintro e w1 ⟨rfl,hb1⟩;obtain⟨hA,hB,hb⟩:=two_blocks hb1;clear hb1;obtain⟨a0,a1,a2,a3,fa0,fa1,fa2,fa3⟩:=cells4 hA;obtain⟨b0,b1,b2,b3,fb0,fb1,fb2,fb3⟩:=cells4 hB;clear hA hB)))
 refine bodyPost_ret (v:=.agg #[.bool (uD 6),.bool (uS 6 reg),.bool (uO 6),.bool (uI 6 reg)]) ?_ rfl ⟨rfl,?_⟩
 ·simp [results,Tryz.results185,go_sem, *]
  try (cases reg <;> decide)
 ·repeat (with_reducible refine Below.setCell ?_ (by simp) _)
  exact hb
theorem uses_7 (hf:frm (ix op)=7):Calls Tryz.prog 185 #[.int .i64 op,.bool reg] w fun e w' =>
  e=.returned (.agg #[.bool (uD 7),.bool (uS 7 reg),.bool (uO 7),.bool (uI 7 reg)])∧Below w.heap.size w w':=by
 have HF:=Lib.hid hf
 clear hf
 go_enter Tryz.func185,Tryz.ntmps185
 go_wp2_with (first|(go_at_call 80;((with_reducible refine (form_at op _ _ HF.out).mono ?_);rintro e w1 ⟨rfl,hb1⟩;obtain⟨hA,hB,hb⟩:=two_blocks hb1;clear hb1;obtain⟨a0,a1,a2,a3,fa0,fa1,fa2,fa3⟩:=cells4 hA;obtain⟨b0,b1,b2,b3,fb0,fb1,fb2,fb3⟩:=cells4 hB;clear hA hB)))
 refine bodyPost_ret (v:=.agg #[.bool (uD 7),.bool (uS 7 reg),.bool (uO 7),.bool (uI 7 reg)]) ?_ rfl ⟨rfl,?_⟩
 ·simp [results,Tryz.results185,go_sem, *]
  try (cases reg <;> decide)
 ·repeat (with_reducible refine Below.setCell ?_ (by simp) _)
  exact hb
theorem uses_8 (hf:frm (ix op)=8):Calls Tryz.prog 185 #[.int .i64 op,.bool reg] w fun e w' =>
  e=.returned (.agg #[.bool (uD 8),.bool (uS 8 reg),.bool (uO 8),.bool (uI 8 reg)])∧Below w.heap.size w w':=by
 have HF:=Lib.hid hf
 clear hf
 go_enter Tryz.func185,Tryz.ntmps185
 go_wp2_with (first|(go_at_call 80;((with_reducible refine (form_at op _ _ HF.out).mono ?_);rintro e w1 ⟨rfl,hb1⟩;obtain⟨hA,hB,hb⟩:=two_blocks hb1;clear hb1;obtain⟨a0,a1,a2,a3,fa0,fa1,fa2,fa3⟩:=cells4 hA;obtain⟨b0,b1,b2,b3,fb0,fb1,fb2,fb3⟩:=cells4 hB;clear hA hB)))
 refine bodyPost_ret (v:=.agg #[.bool (uD 8),.bool (uS 8 reg),.bool (uO 8),.bool (uI 8 reg)]) ?_ rfl ⟨rfl,?_⟩
 ·simp [results,Tryz.results185,go_sem, *]
  try (cases reg <;> decide)
 ·repeat (with_reducible refine Below.setCell ?_ (by simp) _)
  exact hb
theorem uses_9 (hf:frm (ix op)=9):Calls Tryz.prog 185 #[.int .i64 op,.bool reg] w fun e w' =>
  e=.returned (.agg #[.bool (uD 9),.bool (uS 9 reg),.bool (uO 9),.bool (uI 9 reg)])∧Below w.heap.size w w':=by
 have HF:=Lib.hid hf
 clear hf
 go_enter Tryz.func185,Tryz.ntmps185
 go_wp2_with (first|(go_at_call 80;((with_reducible refine (form_at op _ _ HF.out).mono ?_);rintro e w1 ⟨rfl,hb1⟩;obtain⟨hA,hB,hb⟩:=two_blocks hb1;clear hb1;obtain⟨a0,a1,a2,a3,fa0,fa1,fa2,fa3⟩:=cells4 hA;obtain⟨b0,b1,b2,b3,fb0,fb1,fb2,fb3⟩:=cells4 hB;clear hA hB)))
 refine bodyPost_ret (v:=.agg #[.bool (uD 9),.bool (uS 9 reg),.bool (uO 9),.bool (uI 9 reg)]) ?_ rfl ⟨rfl,?_⟩
 ·simp [results,Tryz.results185,go_sem, *]
  try (cases reg <;> decide)
 ·repeat (with_reducible refine Below.setCell ?_ (by simp) _)
  exact hb
theorem uses_10 (hf:frm (ix op)=10):Calls Tryz.prog 185 #[.int .i64 op,.bool reg] w fun e w' =>
  e=.returned (.agg #[.bool (uD 10),.bool (uS 10 reg),.bool (uO 10),.bool (uI 10 reg)])∧Below w.heap.size w w':=by
 have HF:=Lib.hid hf
 clear hf
 go_enter Tryz.func185,Tryz.ntmps185
 go_wp2_with (first|(go_at_call 80;((with_reducible refine (form_at op _ _ HF.out).mono ?_);rintro e w1 ⟨rfl,hb1⟩;obtain⟨hA,hB,hb⟩:=two_blocks hb1;clear hb1;obtain⟨a0,a1,a2,a3,fa0,fa1,fa2,fa3⟩:=cells4 hA;obtain⟨b0,b1,b2,b3,fb0,fb1,fb2,fb3⟩:=cells4 hB;clear hA hB)))
 refine bodyPost_ret (v:=.agg #[.bool (uD 10),.bool (uS 10 reg),.bool (uO 10),.bool (uI 10 reg)]) ?_ rfl ⟨rfl,?_⟩
 ·simp [results,Tryz.results185,go_sem, *]
  try (cases reg <;> decide)
 ·repeat (with_reducible refine Below.setCell ?_ (by simp) _)
  exact hb
theorem uses_11 (hf:frm (ix op)=11):Calls Tryz.prog 185 #[.int .i64 op,.bool reg] w fun e w' =>
  e=.returned (.agg #[.bool (uD 11),.bool (uS 11 reg),.bool (uO 11),.bool (uI 11 reg)])∧Below w.heap.size w w':=by
 have HF:=Lib.hid hf
 clear hf
 go_enter Tryz.func185,Tryz.ntmps185
 go_wp2_with (first|(go_at_call 80;((with_reducible refine (form_at op _ _ HF.out).mono ?_);rintro e w1 ⟨rfl,hb1⟩;obtain⟨hA,hB,hb⟩:=two_blocks hb1;clear hb1;obtain⟨a0,a1,a2,a3,fa0,fa1,fa2,fa3⟩:=cells4 hA;obtain⟨b0,b1,b2,b3,fb0,fb1,fb2,fb3⟩:=cells4 hB;clear hA hB)))
 refine bodyPost_ret (v:=.agg #[.bool (uD 11),.bool (uS 11 reg),.bool (uO 11),.bool (uI 11 reg)]) ?_ rfl ⟨rfl,?_⟩
 ·simp [results,Tryz.results185,go_sem, *]
  try (cases reg <;> decide)
 ·repeat (with_reducible refine Below.setCell ?_ (by simp) _)
  exact hb
end
theorem uses_at (op f:Int) (reg:Bool) (w:World) (hf:frm (ix op)=f):Calls Tryz.prog 185 #[.int .i64 op,.bool reg] w fun e w' =>
  e=.returned (.agg #[.bool (uD f),.bool (uS f reg),.bool (uO f),.bool (uI f reg)])∧Below w.heap.size w w':=by
 have hF:=frm_isF op
 rw [hf] at hF
 rcases hF with rfl|rfl|rfl|rfl|rfl|rfl|rfl|rfl|rfl|rfl|rfl|rfl|rfl
 ·exact uses_m op reg w hf
 ·exact uses_0 op reg w hf
 ·exact uses_1 op reg w hf
 ·exact uses_2 op reg w hf
 ·exact uses_3 op reg w hf
 ·exact uses_4 op reg w hf
 ·exact uses_5 op reg w hf
 ·exact uses_6 op reg w hf
 ·exact uses_7 op reg w hf
 ·exact uses_8 op reg w hf
 ·exact uses_9 op reg w hf
 ·exact uses_10 op reg w hf
 ·exact uses_11 op reg w hf
end Go.Proofs.YtihiggnglmhggaaGreatDoor.L4
end
