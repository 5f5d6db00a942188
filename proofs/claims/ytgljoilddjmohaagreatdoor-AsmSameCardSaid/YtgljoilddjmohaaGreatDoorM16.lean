/- Lemmas and walks of L8Cut, L8Lin: what each theorem states; conditions stand in each theorem. -/
import Derived.Test.YtgljoilddjmohaaGreatDoorM6
import Derived.Lib.Bytealg
import Derived.Test.YtgljoilddjmohaaGreatDoorM5
import Derived.RangeFuncNested
import Derived.RangeFuncBound
import Derived.RangeFuncCalls
import Derived.RangeFuncLeaves
import Derived.RangeFuncBox
import Derived.Shelf.Abstract
import Derived.Shelf.RegionOpen
import Derived.OwnWalkIn
import Derived.TacticsInMore
import Derived.LoopNIn
import Derived.LoopIn
import Derived.RegionIn
import Derived.Maps.AppendAt
import Derived.Deep.AppendLies
section
set_option maxRecDepth 100000
set_option maxHeartbeats 4000000
namespace Go.Proofs.YtgljoilddjmohaaGreatDoor.L8
open Go.RowKit L2
attribute [local go_sem] Oper.semAt_some
def hdl:List UInt8→List UInt8
 | []=>[]
 | c::r=>if c==10 then [] else c::hdl r
def tll:List UInt8→List UInt8
 | []=>[]
 | c::r=>if c==10 then r else tll r
theorem hdl_le:∀ l,(hdl l).length≤l.length
 | []=>Nat.le_refl _
 | c::r=>by
  have:=hdl_le r
  unfold hdl;split <;> simp <;> omega
theorem tll_lt:∀ l,l≠[]→(tll l).length<l.length
 | [],h=>absurd rfl h
 | c::r,_=>by
  unfold tll
  split
  ·simp
  ·cases r with
   | nil=>simp [tll]
   | cons a r=>have:=tll_lt (a::r) (by simp);simp only [List.length_cons] at this ⊢;omega
def lsx:List UInt8→List UInt8→List (List UInt8)
 | a,[]=>if a=[] then [] else [a]
 | a,c::r=>if c==10 then a::lsx [] r else lsx (a++[c]) r
theorem lsx_step:∀ (l a:List UInt8),a++l≠[]→lsx a l=(a++hdl l)::lsx [] (tll l)
 | [],a,h=>by
  have ha:a≠[]:=by simpa using h
  simp [lsx,hdl,tll,ha]
 | c::r,a,_=>by
  by_cases hc:(c==10)=true
  ·have e1:lsx a (c::r)=a::lsx [] r:=by rw [lsx,if_pos hc]
   have e2:hdl (c::r)=[]:=by rw [hdl,if_pos hc]
   have e3:tll (c::r)=r:=by rw [tll,if_pos hc]
   rw [e1,e2,e3,List.append_nil]
  ·have e1:lsx a (c::r)=lsx (a++[c]) r:=by rw [lsx,if_neg hc]
   have e2:hdl (c::r)=c::hdl r:=by rw [hdl,if_neg hc]
   have e3:tll (c::r)=tll r:=by rw [tll,if_neg hc]
   rw [e1,e2,e3,lsx_step r (a++[c]) (by simp),List.append_assoc];rfl
theorem ln_lsx (L:List UInt8):∀ (l a:List UInt8) (i fr:Nat),L.drop fr=a++l→i=fr+a.length→(ln i fr l).map (fun p=>(L.drop p.1).take (p.2-p.1))=lsx a l
 | [],a,i,fr,h,hi=>by
  rw [List.append_nil] at h
  unfold ln lsx
  by_cases ha:a=[]
  ·subst ha
   rw [if_pos rfl,if_neg (by simp at hi;omega)];rfl
  ·have:0<a.length:=List.length_pos_iff.2 ha
   rw [if_neg ha,if_pos (by omega)]
   simp only [List.map_cons,List.map_nil,h]
   rw [List.take_of_length_le (by omega)]
 | c::r,a,i,fr,h,hi=>by
  unfold ln lsx
  by_cases hc:(c==10)=true
  ·rw [if_pos hc,if_pos hc]
   simp only [List.map_cons,h]
   rw [show i-fr=a.length by omega,List.take_left,ln_lsx L r [] (i+1) (i+1) ?_ (by simp)]
   rw [List.nil_append,hi,Nat.add_assoc,← List.drop_drop,h,← List.drop_drop,List.drop_left];rfl
  ·rw [if_neg hc,if_neg hc]
   exact ln_lsx L r (a++[c]) (i+1) fr (by rw [h];simp) (by simp;omega)
def mkB (l:List UInt8):ByteArray:=⟨l.toArray⟩
theorem mkB_of (s:ByteArray):mkB s.data.toList=s:=by unfold mkB;rw [Array.toArray_toList]
theorem mkB_list (l:List UInt8):(mkB l).data.toList=l:=by simp [mkB]
theorem mkB_size (l:List UInt8):(mkB l).size=l.length:=by rw [← size_list,mkB_list]
theorem lns_lsx (s:ByteArray):lns s=(lsx [] s.data.toList).map mkB:=by
 rw [← ln_lsx s.data.toList s.data.toList [] 0 0 (by simp) rfl,List.map_map]
 unfold lns exX
 refine List.map_congr_left fun p _=>?_
 show _=mkB ((s.data.toList.drop p.1).take (p.2-p.1))
 rw [← ext_list,mkB_of]
theorem ix_cases:∀ l:List UInt8,(Lib.indexByte l 10=-1∧hdl l=l∧tll l=[])∨∃ i:Nat,Lib.indexByte l 10=(i:Int)∧i<l.length∧hdl l=l.take i∧tll l=l.drop (i+1)
 | []=>.inl ⟨rfl,rfl,rfl⟩
 | c::r=>by
  unfold Lib.indexByte hdl tll
  by_cases hc:(c==10)=true
  ·rw [if_pos hc,if_pos hc,if_pos hc]
   exact .inr ⟨0,rfl,by simp,rfl,rfl⟩
  ·rw [if_neg hc,if_neg hc,if_neg hc]
   rcases ix_cases r with ⟨h1,h2,h3⟩|⟨i,h1,h2,h3,h4⟩
   ·left
    rw [h1,h2,h3]
    exact⟨rfl,rfl,rfl⟩
   ·right
    refine⟨i+1,?_,by rw [List.length_cons];omega,by rw [h3,List.take_succ_cons],by rw [h4,List.drop_succ_cons]⟩
    rw [h1,if_neg (by rw [beq_iff_eq];omega)];rfl
theorem indexByte_at (s:ByteArray) (w:World):Calls Tryz.prog 170 #[.string s,.int .u8 10] w fun e w'=>e=.returned (.int .i64 (Lib.indexByte s.data.toList 10))∧w=w':=by
 go_enter Tryz.func170,Tryz.ntmps170
 go_wp2
 rw [run_callFunc_extern Tryz.func204 (by kernel_rfl) (by kernel_rfl) (by kernel_rfl) (e:=Extern.BytealgIndexByte.indexByte) (by kernel_rfl),Lib.run_indexByteString]
 simp only [Result.andThen]
 rw [Oper.upon_value]
 go_wp2
 go_ret
 exact⟨rfl,rfl⟩
theorem index_nl (s:ByteArray) (w:World):Calls Tryz.prog 125 #[.string s,.string ⟨#[10]⟩] w fun e w'=>e=.returned (.int .i64 (Lib.indexByte s.data.toList 10))∧w=w':=by
 have HI:=Lib.hid (fun w=>indexByte_at s w)
 have hix:∀ w,(Instr.index 9 (.string ⟨#[10]⟩) (.int .i64 0)).run Tryz.prog w=.ok (.int .u8 10) w:=fun w=>by
  rw [run_index_string w 9 ⟨#[10]⟩ .i64 0 Tryz.underlying9,dif_pos (by decide)];rfl
 by_cases hs:s.data.toList=[10]
 ·have hx:Lib.indexByte s.data.toList 10=0:=by rw [hs];rfl
  have t1:(([10]:List UInt8)==s.toList)=true:=by rw [Lib.toList_data,hs];rfl
  rw [hx]
  clear hs hx HI
  go_enter Tryz.func125,Tryz.ntmps125
  go_wp2
  go_ret
  exact⟨rfl,rfl⟩
 ·have t1:(([10]:List UInt8)==s.toList)=false:=by
   rw [Lib.toList_data,beq_eq_false_iff_ne]
   exact fun e=>hs e.symm
  clear hs
  generalize Lib.indexByte s.data.toList 10=x at HI ⊢
  go_enter Tryz.func125,Tryz.ntmps125
  go_wp2_with (go_at_call 170;((with_reducible refine (HI.out _).mono ?_);rintro e w1 ⟨rfl,rfl⟩))
  go_ret
  exact⟨rfl,rfl⟩
theorem cutl_any (s:ByteArray) (hs:s.size≤1000000) (w:World):Calls Tryz.prog 195 #[.string s,.string ⟨#[10]⟩] w fun e w'=>(∃ b,e=.returned (.tuple #[.string (mkB (hdl s.data.toList)),.string (mkB (tll s.data.toList)),.bool b]))∧∃ m,w'=w.drewN m:=by
 have HI:=Lib.hid (fun w=>index_nl s w)
 rcases ix_cases s.data.toList with ⟨h1,h2,h3⟩|⟨i,h1,h2,h3,h4⟩
 ·rw [h1] at HI
  rw [h2,h3,mkB_of]
  clear h1 h2 h3
  go_enter Tryz.func195,Tryz.ntmps195
  go_wp2_with (go_at_call 125;((with_reducible refine (HI.out _).mono ?_);rintro e w1 ⟨rfl,rfl⟩))
  refine bodyPost_ret (v:=.tuple #[.string s,.string ⟨#[]⟩,.bool false]) (by simp [results,Tryz.results195,go_sem]) rfl ⟨⟨_,rfl⟩,0,rfl⟩
 ·rw [h1] at HI
  rw [size_list] at h2
  obtain⟨U,hU⟩:∃ U,s.extract 0 i=U:=⟨_,rfl⟩
  obtain⟨V,hV⟩:∃ V,s.extract (i+1) s.size=V:=⟨_,rfl⟩
  have e1:mkB (hdl s.data.toList)=U:=by rw [h3,← hU,← mkB_of (s.extract 0 i),ext_list];rfl
  have e2:mkB (tll s.data.toList)=V:=by rw [h4,← hV,← mkB_of (s.extract (i+1) s.size),ext_rest]
  have hu:∀ w,(Instr.slice 9 (.string s) none (some (.int .i64 (i:Int))) none).run Tryz.prog w=.ok (.string U) w:=fun w=>by
   rw [run_slice_string_to_if w 9 s .i64 i Tryz.underlying9,if_pos (by omega),← hU];rfl
  have hv:∀ w,(Instr.slice 9 (.string s) (some (.int .i64 ((i:Int)+1))) none none).run Tryz.prog w=.ok (.string V) w:=fun w=>by
   rw [run_slice_string_from_if w 9 s .i64 ((i:Int)+1) Tryz.underlying9,if_pos (by omega),← hV];rfl
  rw [e1,e2]
  clear h1 h3 h4 hU hV e1 e2
  go_enter Tryz.func195,Tryz.ntmps195
  go_upto_region 3 with (go_at_call 125;((with_reducible refine (HI.out _).mono ?_);rintro e w1 ⟨rfl,rfl⟩))
  go_quiet (fail)
  go_wp2
  refine bodyPost_ret (v:=.tuple #[.string U,.string V,.bool true]) (by simp [results,Tryz.results195,go_sem]) rfl ⟨⟨_,rfl⟩,_,rfl⟩
theorem cutnl_any (s:ByteArray) (hs:s.size≤1000000) (w:World):Calls Tryz.prog 165 #[.string s,.string ⟨#[10]⟩] w fun e w'=>(∃ b,e=.returned (.tuple #[.string (mkB (hdl s.data.toList)),.string (mkB (tll s.data.toList)),.bool b]))∧∃ m,w'=w.drewN m:=by
 have HC:=Lib.hid (fun w=>cutl_any s hs w)
 generalize mkB (hdl s.data.toList)=U at HC ⊢
 generalize mkB (tll s.data.toList)=V at HC ⊢
 go_enter Tryz.func165,Tryz.ntmps165
 go_wp2_with (go_at_call 195;((with_reducible refine (HC.out _).mono ?_);rintro e w1 ⟨⟨b,rfl⟩,m,rfl⟩))
 refine bodyPost_ret (v:=.tuple #[.string U,.string V,.bool b]) (by simp [results,Tryz.results165,go_sem]) rfl ⟨⟨_,rfl⟩,m,rfl⟩
end Go.Proofs.YtgljoilddjmohaaGreatDoor.L8
end
section
set_option maxRecDepth 100000
set_option maxHeartbeats 4000000
namespace Go.Proofs.YtgljoilddjmohaaGreatDoor.L8
open Go.RowKit Go.Shelf L2
attribute [local go_sem] Oper.semAt_some
theorem grown_of_below {w w':World} (h:Below w.heap.size w w'):w.grownBy w' none:=⟨h.os,h.tape,h.output,h.size,fun k hk _=>h.block k hk⟩
def szOf:Value→Nat
 | .string R=>R.size
 | _=>0
theorem lns_some (R:ByteArray) (h:R.data.toList≠[]):(lsx [] R.data.toList).map mkB=mkB (hdl R.data.toList)::(lsx [] (mkB (tll R.data.toList)).data.toList).map mkB:=by
 rw [lsx_step R.data.toList [] (by simpa using h),mkB_list];rfl
theorem lines_in (n:Nat) (hn:2≤n) (lp Bn n₀:Nat) (s:ByteArray) (hs:s.size≤1000000) (J Jx:List ByteArray→World→Prop) (W:World) (hJ:AbidesFrom W.heap.size J)
  (hY:∀ pre x W1,J pre W1→pre.length<(lns s).length→YieldAt Fence.wide (n-1) Tryz.prog lp #[.string x] W1 fun e W' =>
   (e=.returned (.bool true)∧J (pre++[x]) W'∧Below n₀ W1 W')∨(e=.returned (.bool false)∧Jx (pre++[x]) W'))
  (hBn:W.cell? ⟨Bn,0,none⟩=some (.string s)) (h0:J [] W) :
  CallsIn Fence.wide n Tryz.prog 164 #[.func (.yield lp) #[] #[],.pointer (some ⟨Bn,0,none⟩)] W fun e W'=>(∃ v,e=.returned v) ∧
   ((∃ ys,ys=lns s∧J ys W')∨(∃ pre,pre <+: lns s∧Jx pre W')):=by
 refine callsIn_of_wp Tryz.func164 rfl trivial ?_ rfl
 simp only [Tryz.ntmps164,List.size_toArray,List.length_cons,List.length_nil,Nat.reduceAdd,Nat.reduceSub,Array.replicate_succ,Array.replicate_zero,List.push_toArray,List.append_toArray,List.nil_append,List.cons_append]
 gi_wp2
 have h1n:1≤n:=by omega
 gi_loopw [3] (fun r wr=>∃ (pre:List ByteArray) (R:ByteArray),r=.string R∧R.size≤s.size∧Hid (lns s=pre++(lsx [] R.data.toList).map mkB)∧J pre wr) (fun r _=>szOf r)
 case atStart=>exact⟨[],s,rfl,Nat.le_refl _,Lib.hid (by rw [lns_lsx];rfl),h0⟩
 case round =>
  obtain⟨pre,R,rfl,hRs,hR,hJr⟩:=hrel
  by_cases hl0:R.data.toList=[]
  ·have t1:R.toList.isEmpty=true:=by rw [Lib.toList_data,hl0];rfl
   have e1:lns s=pre:=by rw [hR.out,hl0];simp [lsx]
   have E1:=Lib.hid e1
   clear e1 hl0 hR hY hJ
   gi_wp2
   go_end0
   exact⟨⟨_,rfl⟩,.inl ⟨_,rfl,by rw [E1.out];exact hJr⟩⟩
  ·have t1:R.toList.isEmpty=false:=by
    rw [Lib.toList_data]
    cases h:R.data.toList with
    | nil=>exact absurd h hl0
    | cons _ _=>rfl
   have hR1:=hR.out
   rw [lns_some R hl0] at hR1
   have hlt:pre.length<(lns s).length:=by rw [hR1];simp
   have hU:=hdl_le R.data.toList
   have hV:=tll_lt R.data.toList hl0
   have HC:=Lib.hid (callsIn_wide (n:=n-1).2 (cutnl_any R (by omega) wr))
   rw [size_list] at hV
   have hVs:=mkB_size (tll R.data.toList)
   obtain⟨U,hUe⟩:∃ U,mkB (hdl R.data.toList)=U:=⟨_,rfl⟩
   obtain⟨V,hVe⟩:∃ V,mkB (tll R.data.toList)=V:=⟨_,rfl⟩
   rw [hUe,hVe] at HC hR1
   rw [hVe] at hVs
   have hpre:lns s=(pre++[U])++(lsx [] V.data.toList).map mkB:=by rw [hR1];simp
   have HP:=Lib.hid hpre
   have hYn:=Lib.hid (fun (m:Nat)=>hY pre U (wr.drewN m) (hJ _ _ _ none hJr (grown_of_below (bdN (Below.refl _ _) m)) (fun r e=>by cases e)) hlt)
   have hVR:V.size<R.size:=by omega
   clear hR1 hR hU hUe hVe hV hVs hpre hlt hY hJ hl0
   gi_wp2_with (refine⟨trivial,?_⟩;gi_at_call 165;((with_reducible refine (HC.out).mono ?_);rintro e w1 ⟨⟨bb,rfl⟩,m,rfl⟩;obtain⟨fn,tmps,assign,body,hy,hYR⟩:=hYn.out m))
   refine hYR.mono ?_
   rintro e W3 (⟨rfl,hJ3,hk3⟩|⟨rfl,hJx3⟩)
   ·clear hYn hYR HC
    gi_wp2
    go_roundw
    case rel=>exact⟨_,V,rfl,by omega,HP,hJ3⟩
    case measure=>simpa [szOf] using hVR
   ·clear hYn hYR HC
    gi_wp2
    refine bodyPost_ret (results_none rfl _ _ _) rfl ?_
    exact⟨⟨_,rfl⟩,.inr ⟨_,⟨_,HP.out.symm⟩,hJx3⟩⟩
theorem eachLine_at (s:ByteArray) (w:World):Calls Tryz.prog 117 #[.string s] w fun e w'=>e=.returned (.func (.func 164) #[] #[.pointer (some ⟨w.heap.size,0,none⟩)])∧w'=w.alloc (.cells #[.string s] 9):=by
 have hmf:(Instr.makeFunc (.func 164) #[] #[.pointer (some ⟨w.heap.size,0,none⟩)]).run Tryz.prog (w.alloc (.cells #[.string s] 9))=.ok (.func (.func 164) #[] #[.pointer (some ⟨w.heap.size,0,none⟩)]) (w.alloc (.cells #[.string s] 9)):=by rfl
 go_enter Tryz.func117,Tryz.ntmps117
 go_wp2
 go_ret
 exact⟨rfl,rfl⟩
theorem lines_stops (n:Nat) (hn:2≤n) (Bn n₀:Nat) (s:ByteArray) (hs:s.size≤1000000) (w:World) (hBn:Bn<w.heap.size) (hc:w.cell? ⟨Bn,0,none⟩=some (.string s)) :
  SeqStopsK Fence.wide n Tryz.prog 164 #[.pointer (some ⟨Bn,0,none⟩)] (fun x:ByteArray=>#[.string x]) (Below n₀) (fun ys=>ys=lns s) (fun pre=>pre <+: lns s) (lns s).length w:=fun lp J Jx W hW hJ _ hY hj =>
 lines_in n hn lp Bn n₀ s hs J Jx W hJ hY ((hW.cell (p:=⟨Bn,0,none⟩) hBn).trans hc) hj
theorem lns_le (s:ByteArray):(lns s).length≤s.size+1:=by
 have:=ln_len s.data.toList 0 0
 rw [size_list] at this
 simpa [lns,exX] using this
theorem ownsRow_putObj {W:World} {base e:TypeId} {size:Nat} {v:Value} {n:Nat} {xs:List Value} (h:W.ownsRow base e size v n xs) {l:Nat} {o:Obj} (o':Obj) (hl:W.heap[l]?=some o) (ho:o.isCells=false):(W.putObj l o').ownsRow base e size v n xs:=by
 refine h.kept (grownBy_putObj' W l o') ?_
 rcases h.2 with ⟨rfl,_⟩|⟨g,cap,cur,rfl,_,hh,_⟩
 ·exact .inl rfl
 ·refine .inr fun e=>?_
  simp [Value.ownBlock] at e
  subst e
  rw [hh] at hl;cases hl;cases ho
def LinI (w:World) (pre:List ByteArray) (W:World):Prop :=
 (∃ v,Boxed W w.heap.size 48 v∧W.ownsRow w.heap.size 9 1 v pre.length (stC pre)∧True)∧Below w.heap.size w W
theorem linI_own (w:World) (B:Nat) (hB:w.heap.size≤B):OwnFrom B (LinI w) :=
 OwnFrom.and (Own.from (holdsRow_own _ _ _ _ _ (fun pre:List ByteArray=>pre.length) (fun pre=>stC pre) (fun _ _=>True)) _) (ownFrom_below (Nat.le_refl _) hB)
theorem lines8 (s:ByteArray) (w:World) (hs:s.size≤1000000):Calls Tryz.prog 76 #[.string s] w fun e w'=>PS w (lns s) e w':=by
 obtain⟨i0,hi,hz0,hz1,hz2⟩:=info_parts Tryz.info9
 refine (callsIn_wide (n:=6)).1 ?_
 refine callsIn_of_wp_marks Tryz.func76 rfl trivial ?_ rfl
 simp only [Tryz.ntmps76,List.size_toArray,List.length_cons,List.length_nil,Nat.reduceAdd,Nat.reduceSub,Array.replicate_succ,Array.replicate_zero,List.push_toArray,List.append_toArray,List.nil_append,List.cons_append]
 gi_wp2_with (refine⟨trivial,?_⟩;gi_at_call 117;refine (callsIn_wide.2 (eachLine_at s _)).mono ?_;rintro e w1 ⟨rfl,rfl⟩)
 have b0:=(Boxed.new w 48 (.slice none 0 0)).alloc (.cells #[.string s] 9)
 have b1:=Boxed.new (w.alloc (.cells #[.slice none 0 0] 48)) 9 (.string s)
 simp only [World.size_alloc] at b1
 have hB0:Below w.heap.size w ((w.alloc (.cells #[.slice none 0 0] 48)).alloc (.cells #[.string s] 9)):=((Below.refl _ w).alloc (Nat.le_refl _) _).alloc (by simp) _
 have hsz:((w.alloc (.cells #[.slice none 0 0] 48)).alloc (.cells #[.string s] 9)).heap.size=w.heap.size+1+1:=by simp
 obtain⟨W0,hW0⟩:∃ W0,(w.alloc (.cells #[.slice none 0 0] 48)).alloc (.cells #[.string s] 9)=W0:=⟨_,rfl⟩
 rw [hW0] at b0 b1 hB0 hsz
 have hlen:=lns_le s
 simp only [hW0]
 clear hW0
 refine wpIn_rangeFunc_ownF rfl (by omega) (gf:=164) (lb:=#[.pointer (some ⟨w.heap.size+1,0,none⟩)]) rfl trivial (enters_of Tryz.func164 (by kernel_rfl) rfl)
  (lines_stops _ (by omega) (w.heap.size+1) w.heap.size s hs W0 (by omega) b1.cell) belowK_t (belowK_b (by omega)) (Below.refl _ _) (fun _=>rfl)
  (LinI w) (fun _ _ _=>False) (linI_own w _ (by omega)) (fun _ _ _ _ _ hs _ _=>hs)
  ⟨⟨_,b0,World.ownsRow_nil _ _ _ _,trivial⟩,hB0⟩
  (fun x=>{ tmps:=#[.string s,undef,.slice none 0 0,.pointer (some ⟨w.heap.size,0,none⟩),.string x,.string s,.func (.func 164) #[] #[.pointer (some ⟨w.heap.size+1,0,none⟩)],.string x,undef,undef,undef,undef,undef],defers:=[] })
  ?assign ?body ?done ?stop
 case assign =>
  intro l x W K hK
  gi_wp2
  exact hK
 case body =>
  rintro lp pre x W ⟨⟨vv,c3,hrow,-⟩,hB1⟩ hlt
  have d3:=c3.cell
  have hle:w.heap.size≤w.heap.size:=Nat.le_refl _
  gi_wp2_with (gi_at_builtin;refine wpListIn_append_own _ rfl _ _ 48 rfl w.heap.size 9 i0 (.string ⟨#[]⟩) 1 16 Tryz.underlying48 hi hz0 hz1 hz2 rfl (by decide) _ _ _ rfl (hrow.alloc _) ⟨W.heap.size,0,none⟩ 1 1 [.string x] rfl rfl (World.news_of_block (cs:=#[.string x]) (t:=9) (fr:=(0,0)) (heap_alloc_last W _)) (by simp [Value.oneCell']) (by unfold maxLen;omega) (by omega) (by have:=hB1.size;simp;omega) ?_;intro v' w1 hown' hgrow _;obtain⟨g',cap',rfl⟩:=ownsRow_succ hown';obtain⟨hv1,hv2,hr2,hk2,hb2⟩:=c3.appended (by decide) hrow hB1.size hle hown' hgrow;have hc1:=hv1.cell;have hf1:=hv1.frozen)
  refine⟨hk2,hb2,⟨_,hv2,?_,trivial⟩,hB1.trans hb2⟩
  rw [stC_snoc,List.length_append]
  exact hr2
 case done =>
  rintro D ys W hD rfl ⟨⟨vv,c3,hrow,-⟩,hB1⟩ hK
  have d3:=c3.cell
  gi_wp2
  refine⟨by simp,.inl ⟨_,_,rfl,run_takeDeferred hK,?_⟩⟩
  exact⟨vv,by simp [results,Tryz.results76,go_sem],⟨⟨_,rfl,own_st (ownsRow_putObj hrow _ hK rfl)⟩,hB1.trans (belowK_b (w:=w) (Nat.le_refl _) W D _ _ (by omega) hK rfl rfl)⟩⟩
 case stop =>
  rintro D c pre W _ _ h _
  exact h.elim
end Go.Proofs.YtgljoilddjmohaaGreatDoor.L8
end
