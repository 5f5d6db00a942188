/- Lemmas and walks of L15Wr, L15Se, L15Rd, L15Rg: what each theorem states; conditions stand in each theorem. -/
import Derived.Test.YtihiggnglmhggaaGreatDoorM28
set_option maxHeartbeats 8000000
set_option maxRecDepth 100000
section
namespace Go.Proofs.YtihiggnglmhggaaGreatDoor.L15
open Go.RowKit Go.Shelf L14
attribute [local go_sem] Oper.semAt_some
theorem fw_of {l:List Sc} (hs:Sml l) (h:chkV l=0):Fw l:=⟨(chk0.1 h).1.1,hs.d⟩
theorem box_grown {W w1:World} {n₀ B:Nat} {v v':Value} {k m:Nat} {xs ys:List Value} (hv:Boxed W B 23 v) (hrow:W.ownsRow n₀ 5 1 v k xs) (hn₀:n₀≤W.heap.size) (hB:n₀≤B) (hown:w1.ownsRow n₀ 5 1 v' m ys) (hg:W.grownBy w1 v.ownBlock) :
  Boxed w1 B 23 v∧Boxed (w1.setCell ⟨B,0,none⟩ v') B 23 v'∧(w1.setCell ⟨B,0,none⟩ v').ownsRow n₀ 5 1 v' m ys∧KeepsOthers W (w1.setCell ⟨B,0,none⟩ v')∧KP n₀ W (w1.setCell ⟨B,0,none⟩ v'):=by
 have hv1:Boxed w1 B 23 v:=hv.kept hg (hv.not_row (by decide) hrow)
 have hel:∀ (k:Nat) (cs:Array Value) (t:TypeId) (fr:Nat × Nat),t≠5→t≠23→W.heap[k]?=some (Obj.cells cs t fr)→(w1.setCell ⟨B,0,none⟩ v').heap[k]?=some (Obj.cells cs t fr):=fun k cs t fr ht1 ht2 h=>by
  have h1:w1.heap[k]?=some (Obj.cells cs t fr):=by
   rw [hg.block k (lt_of_block h) fun e=>?_]
   ·exact h
   ·obtain⟨cur,hc⟩:=own_ty hrow e.symm
    rw [h] at hc
    cases hc
    exact ht1 rfl
  rw [Below.heap_setCell _ _ _ _ ?_]
  ·exact h1
  ·show k≠B
   rintro rfl
   rw [show w1.heap[k]?=_ from hv1] at h1
   cases h1
   exact ht2 rfl
 refine⟨hv1,hv1.set v',hown.kept (grownBy_setCell' w1 B v') (.inr (hv1.not_row (by decide) hown).symm),?_,?_,fun k cs fr h=>hel k cs _ fr (by decide) (by decide) h,fun k cs fr h=>hel k cs _ fr (by decide) (by decide) h⟩
 ·refine (KeepsOthers.of_grownBy hg fun j o ej hj=>?_).trans (KeepsOthers.setCell _ _ _)
  obtain⟨cur,hc⟩:=own_ty hrow ej
  rw [hc] at hj;cases hj;rfl
 ·exact ((Below.refl n₀ W).grown hg hn₀ (own_base hrow)).setCell (p:=⟨B,0,none⟩) hB v'
def WrI (w:World) (B:Nat) (pre:List Pa) (W:World):Prop :=
 (∃ v,Boxed W B 23 v∧W.ownsRow w.heap.size 5 1 v (byt pre).flatten.length ((byt pre).flatten.map eB)∧True)∧Below w.heap.size w W
theorem wrI_own (w:World) (B d:Nat) (hd:w.heap.size≤d):OwnFrom d (WrI w B) :=
 OwnFrom.and (Own.from (holdsRow_own _ _ _ _ _ (fun pre:List Pa=>(byt pre).flatten.length) (fun pre=>(byt pre).flatten.map eB) (fun _ _=>True)) _) (ownFrom_below (Nat.le_refl _) hd)
theorem pre_len {l:List Sc} {pre:List Pa} (h:byt pre <+: prt l):(byt pre).flatten.length≤szL l:=by
 obtain⟨r,hr⟩:=h
 have h1:=congrArg (fun x=>(List.flatten x).length) hr
 simp only [prt_wr,List.flatten_append,List.length_append,wr_len] at h1
 omega
theorem write_yes (v:Value) (l:List Sc) (S:Nat) (w:World) (hv:Ss w v l) (hs:Sml l) (hR:chkV l=0) (hS:szL l=S) :
  Calls Tryz.prog 110 #[v] w fun e w'=>(∃ a c,e=.returned (.tuple #[.slice a S c,.int .i64 0])∧Rw eB w' (.slice a S c) (wr l))∧Below w.heap.size w w':=by
 obtain⟨ib,ki,kz0,kz1,kz2⟩:=info_parts infoByte
 have hf:=fw_of hs hR
 have hk:=(chk0.1 hR).2
 have hsz:=hf.sz
 rw [hS] at hsz
 have HC:=Lib.hid (callsIn_wide (n:=6-1).2 (check_at v l 0 w hv hs hR))
 have HZ:=Lib.hid (fun W (hb:Below w.heap.size w W)=>callsIn_wide (n:=6-1).2 (size_at v l S W (hv.below hb) hs hS))
 obtain⟨N,hN⟩:∃ N,l.length=N:=⟨_,rfl⟩
 have HV:=Lib.hid hv
 obtain⟨a,c,rfl,-⟩:=hv.form hN
 have HN:=Lib.hid hN
 have HS:=Lib.hid hS
 have HF:=Lib.hid hf
 have HK:=Lib.hid hk
 clear hR hs hf hk hN hv hS
 refine (callsIn_wide (n:=6)).1 ?_
 refine callsIn_of_wp_marks Tryz.func110 rfl trivial ?_ rfl
 simp only [Tryz.ntmps110,List.size_toArray,List.length_cons,List.length_nil,Nat.reduceAdd,Nat.reduceSub,Array.replicate_succ,Array.replicate_zero,List.push_toArray,List.append_toArray,List.nil_append,List.cons_append]
 gi_wp2_with (first
  | (refine⟨trivial,?_⟩;gi_at_call 147;((with_reducible refine (HC.out).mono ?_);rintro e w1 ⟨rfl,b1⟩))
  | (refine⟨trivial,?_⟩;gi_at_call 148;((with_reducible refine (HZ.out _ b1).mono ?_);rintro e w2 ⟨rfl,b2⟩;have B2:=bch b1 b2))
  | (gi_at_make;refine wpListIn_make_own _ rfl _ _ 23 rfl w.heap.size 5 ib (.int .u8 0) 1 Tryz.underlying23 ki kz0 kz1 .i64 .i64 _ S rfl rfl rfl (by rw [kz2];omega) (by unfold maxLen;omega) B2.size ?_;intro w3 o3 g3;have B3:=B2.grown g3 B2.size (fun k e=>by cases e))
  | (refine⟨trivial,?_⟩;gi_at_call 149;refine (callsIn_wide.2 (parts_fn _ a N c rfl _)).mono ?_;rintro e w4 ⟨rfl,rfl⟩))
 have bx:=(Boxed.new w3 23 (.slice (some ⟨w2.heap.size,0,none⟩) 0 S)).alloc (.cells #[.slice a N c] 150)
 have by':=Boxed.new (w3.alloc (.cells #[.slice (some ⟨w2.heap.size,0,none⟩) 0 S] 23)) 150 (.slice a N c)
 rw [World.size_alloc] at by'
 have o5:=(o3.alloc (.cells #[.slice (some ⟨w2.heap.size,0,none⟩) 0 S] 23)).alloc (.cells #[.slice a N c] 150)
 have B5:=(B3.alloc B3.size (.cells #[.slice (some ⟨w2.heap.size,0,none⟩) 0 S] 23)).alloc (Nat.le_trans B3.size (by simp)) (.cells #[.slice a N c] 150)
 obtain⟨B,hB⟩:∃ B,w3.heap.size=B:=⟨_,rfl⟩
 have hBl:w.heap.size≤B:=by rw [← hB];exact B3.size
 rw [hB] at bx by' ⊢
 obtain⟨W0,hW0⟩:∃ W0,(w3.alloc (.cells #[.slice (some ⟨w2.heap.size,0,none⟩) 0 S] 23)).alloc (.cells #[.slice a N c] 150)=W0:=⟨_,rfl⟩
 rw [hW0] at bx by' o5 B5
 simp only [hW0]
 have HBY:=Lib.hid by'
 have HB5:=Lib.hid B5
 clear hW0 hB o3 g3 B3 b1 b2 B2 HC HZ by'
 refine range_told rfl (by omega) (gf:=178) (lb:=#[.pointer (some ⟨B+1,0,none⟩)]) rfl trivial (enters_of Tryz.func178 (by kernel_rfl) rfl)
  (tells_at _ (by omega) (B+1) w.heap.size a N c l HN.out HF.out HK.out W0 HB5.out.size HBY.out (fun A hA=>HV.out.below (HB5.out.trans hA))) (fun h k=>KP.t h k) (fun W k o o' h1 h2 h3 h4=>KP.p (w:=W0) HB5.out.size W k o o' h1 h2 h3 h4) (fun _=>rfl)
  (relP_own _) (WrI w B) (fun _ _=>False) (wrI_own w B _ HB5.out.size) (ownFrom_pure _ _) ⟨⟨_,bx,by simpa [byt] using o5,trivial⟩,B5⟩
  (fun x=>{ tmps:=#[.slice a N c,undef,.slice none 0 0,.int .i64 0,.int .i64 0,.pointer (some ⟨B,0,none⟩),x.1,.slice a N c,.int .i64 0,.int .i64 0,.bool false,undef,.slice a N c,.int .i64 (S:Int),.slice (some ⟨w2.heap.size,0,none⟩) 0 S,.slice a N c,.func (.func 178) #[] #[.pointer (some ⟨B+1,0,none⟩)],x.1,undef,undef,undef,undef],defers:=[] })
  ?assign ?body ?done ?stop
 case assign =>
  intro lp x W K hK
  obtain⟨xv,xd⟩:=x
  gi_wp2
  exact hK
 case body =>
  rintro lp pre ⟨xv,xd⟩ W ⟨⟨v1,c1,r1,-⟩,hB1⟩ hx hp
  have hx':Rw eB W xv xd:=hx
  obtain⟨pa,pc,rfl,-⟩:=id hx'
  obtain⟨ra,rc,rfl⟩:=owns_slice r1
  have hpl:=pre_len hp
  have hfl:(byt (pre++[((.slice pa xd.length pc,xd):Pa)])).flatten=(byt pre).flatten++xd:=by simp [byt]
  rw [hfl,HS.out,List.length_append] at hpl
  have HFL:=Lib.hid hfl
  have HX:=Lib.hid hx'
  have HP:=Lib.hid hpl
  have hc1:=c1.cell
  have hf1:=c1.frozen
  have hl1:B<W.heap.size:=c1.lt
  obtain⟨k1,hk1⟩:∃ k,(byt pre).flatten.length=k:=⟨_,rfl⟩
  obtain⟨k2,hk2⟩:∃ k,xd.length=k:=⟨_,rfl⟩
  have HK1:=Lib.hid hk1
  have HK2:=Lib.hid hk2
  rw [hk1] at c1 r1 hc1
  rw [hk2] at HX
  simp only [hk2]
  have hsb:k1+k2≤S:=by rw [← hk1,← hk2];exact hpl
  clear hx hx' hp hpl hfl hk1 hk2
  gi_wp2_with (gi_at_builtin;refine wpListIn_append_rw rfl _ _ rfl w.heap.size _ _ _ rfl r1 _ xd rfl HX.out (by have:=HK2.out;omega) hB1.size ?_;intro v' w5 hown hgrow;rw [HK2.out] at hown;obtain⟨na,nc,rfl⟩:=owns_slice hown;obtain⟨d1,d2,d3,d4,d5⟩:=box_grown c1 r1 hB1.size hBl hown hgrow;have hc5:=d1.cell;have hf5:=d1.frozen)
  refine⟨d4.from _,d5,⟨_,d2,?_,trivial⟩,hB1.trans d5.b⟩
  have e:=HFL.out
  rw [HK2.out] at e
  rw [e,List.length_append,HK1.out,HK2.out,List.map_append]
  exact d3
 case done =>
  rintro D xs W hD hS ⟨⟨v1,c1,r1,-⟩,hB1⟩ hK
  obtain⟨ra,rc,rfl⟩:=owns_slice r1
  have hfl:(byt xs).flatten=wr l:=by rw [hS,prt_wr]
  have hln:(byt xs).flatten.length=S:=by rw [hfl,wr_len,HS.out]
  rw [hln] at c1 r1
  rw [hfl] at r1
  have hc1:=c1.cell
  have HR:=Lib.hid r1
  have HKK:=Lib.hid hK
  have HB1:=Lib.hid hB1
  clear hS hfl hln r1 hK hB1
  gi_wp2
  refine⟨by simp,.inl ⟨_,_,rfl,run_takeDeferred HKK.out,?_⟩⟩
  have o9:=ownsRow_putObj HR.out (.deferred none) HKK.out rfl
  have b9:=HB1.out.trans (belowK_b (w:=W0) HB5.out.size W D _ (.deferred none) hD HKK.out rfl rfl)
  exact⟨.tuple #[.slice ra S rc,.int .i64 0],by simp [results,Tryz.results110,go_sem],⟨ra,rc,rfl,by have e:=wr_len l;rw [HS.out] at e;subst e;exact Rw.own o9⟩,b9⟩
 case stop =>
  rintro D pre W _ _ h _
  exact h.elim
def cutV (a:Option Addr) (c i m:Nat):Value:=.slice (if c=i then a else a.map (·.add i)) m (c-i)
theorem cut_rw {w:World} {a:Option Addr} {n c:Nat} {b:List UInt8} (h:Rw eB w (.slice a n c) b) (i m:Nat) (hi:i+m≤n):Rw eB w (cutV a c i m) (sub b i m):=(h.drop i (by omega)).take m (by omega)
theorem cut_form (a:Option Addr) (c i m:Nat):∃ a' c',cutV a c i m=.slice a' m c':=⟨_,_,rfl⟩
theorem part_yes (B i m:Nat) (a:Option Addr) (n c:Nat) (w:World) (hB:w.cell? ⟨B,0,none⟩=some (.slice a n c)) (hn:n≤c) (hi:i+m≤n) (hb:n≤1000000) (I M:Int) (hI:I=(i:Int)) (hM:M=(m:Int)) :
  Calls Tryz.prog 173 #[.int .i64 I,.int .i64 M,.pointer (some ⟨B,0,none⟩)] w fun e w'=>e=.returned (.tuple #[cutV a c i m,.bool true])∧w=w':=by
 subst hI hM
 have hs:=fun W=>run_part und8 size8 a n c i (i+m) (by omega) hi hn W
 rw [show i+m-i=m by omega] at hs
 have e1:((i+m:Nat):Int)=(i:Int)+(m:Int):=by omega
 rw [e1] at hs
 unfold cutV
 generalize (if c=i then a else a.map (·.add i))=a2 at hs ⊢
 generalize c-i=c2 at hs ⊢
 have h1:¬ (n:Int)<(i:Int)+(m:Int):=by omega
 go_enter Tryz.func173,Tryz.ntmps173
 go_wp2
 refine bodyPost_ret (v:=.tuple #[.slice a2 m c2,.bool true]) (by simp [results,Tryz.results173,go_sem]) rfl ⟨rfl,rfl⟩
theorem part_no (B i m:Nat) (a:Option Addr) (n c:Nat) (w:World) (hB:w.cell? ⟨B,0,none⟩=some (.slice a n c)) (hi:n<i+m) (_:i≤1000000000000) (_:m≤1000000000000) (I M:Int) (hI:I=(i:Int)) (hM:M=(m:Int)) :
  Calls Tryz.prog 173 #[.int .i64 I,.int .i64 M,.pointer (some ⟨B,0,none⟩)] w fun e w'=>e=.returned (.tuple #[.slice none 0 0,.bool false])∧w=w':=by
 subst hI hM
 have h1:(n:Int)<(i:Int)+(m:Int):=by omega
 go_enter Tryz.func173,Tryz.ntmps173
 go_wp2
 refine bodyPost_ret (v:=.tuple #[.slice none 0 0,.bool false]) (by simp [results,Tryz.results173,go_sem]) rfl ⟨rfl,rfl⟩
def rdB (b:List UInt8):Prop:=16≤b.length∧∀ i,i<nS b→okR b i
def SeP (b:List UInt8) (w:World) (e:Ending) (w':World):Prop :=
 ((¬ rdB b∧e=.returned (.tuple #[.slice none 0 0,.bool false]))∨(rdB b∧∃ a c ps,e=.returned (.tuple #[.slice a (nS b) c,.bool true])∧w'.ownsRow w.heap.size 199 2 (.slice a (nS b) c) (nS b) (fl ps)∧Fits w ps (rdT b (nS b))))∧Below w.heap.size w w'
theorem sections_at (a:Option Addr) (n c:Nat) (b:List UInt8) (w:World) (hv:Rw eB w (.slice a n c) b) (hb:n≤1000000) :
  Calls Tryz.prog 146 #[.slice a n c] w (SeP b w):=by
 obtain⟨hn,hc,-,-⟩:=hv.at
 have hmf:(Instr.makeFunc (.func 173) #[] #[.pointer (some ⟨w.heap.size,0,none⟩)]).run Tryz.prog (w.alloc (.cells #[.slice a n c] 23))=.ok (.func (.func 173) #[] #[.pointer (some ⟨w.heap.size,0,none⟩)]) (w.alloc (.cells #[.slice a n c] 23)):=by rfl
 have hbx:(w.alloc (.cells #[.slice a n c] 23)).cell? ⟨w.heap.size,0,none⟩=some (.slice a n c):=cell_new w _ _
 have bn:=bnew w (.cells #[.slice a n c] 23)
 by_cases h16:16≤n
 ·obtain⟨i0,hi,hz0,hz1,hz2⟩:=info_parts infoSb
  have HP:=Lib.hid (part_yes w.heap.size 0 16 a n c _ hbx hc (by omega) hb 0 16 rfl rfl)
  have hh:=cut_rw hv 0 16 (by omega)
  obtain⟨ha,hc',he⟩:=cut_form a c 0 16
  rw [he] at HP hh
  have hhs:=fun W=>run_part und8 size8 ha 16 hc' 6 8 (by omega) (by omega) hh.at.2.1 W
  have hhg:=cut_rw hh 6 2 (by omega)
  rw [sub_sub b 0 16 6 2 (by omega)] at hhg
  obtain⟨k,hk⟩:∃ k,nS b=k:=⟨_,rfl⟩
  have HG:=Lib.hid (get2_at (cutV ha hc' 6 2) _ k _ (hhg.below bn) (sub_len _ _ _ (by omega)) hk)
  have hkb:k<65536:=by
   rw [← hk]
   have:=va_lt (sub b 6 2)
   rw [sub_len _ _ _ (by omega)] at this
   exact this
  have hhs':∀ W,(Instr.slice 23 (.slice ha 16 hc') (some (.int .i64 6)) (some (.int .i64 8)) none).run Tryz.prog W=.ok (cutV ha hc' 6 2) W:=hhs
  have HV:=Lib.hid hv
  have HN:=Lib.hid hn
  have HK:=Lib.hid hk
  have HBn:=Lib.hid bn
  have HX:=Lib.hid (show Boxed (w.alloc (.cells #[.slice a n c] 23)) w.heap.size 23 (.slice a n c) from Boxed.new w _ _)
  unfold SeP
  rw [hk]
  clear hv hn hh he hhs hhg hk bn hbx
  go_enter Tryz.func146,Tryz.ntmps146
  go_wp2_with (first
   | (go_at_call 173;((with_reducible refine (HP.out).mono ?_);rintro e w1 ⟨rfl,rfl⟩))
   | (go_at_call 174;((with_reducible refine (HG.out).mono ?_);rintro e w1 ⟨rfl,rfl⟩)))
  clear hhs' HP HG
  go_loopw [7,8,9,10,11,23] (fun lv _ _ _ _ q wr=>∃ (i:Nat) (ps:List (Int × Value)),i≤k∧q=.int .i64 (i:Int)∧Below w.heap.size w wr∧wr.ownsRow w.heap.size 199 2 lv i (fl ps)∧Boxed wr w.heap.size 23 (.slice a n c)∧Hid (Fits w ps (rdT b i)∧∀ j,j<i→okR b j)) (fun _ _ _ _ _ q _=>k-(intOf q).toNat)
  case atStart=>exact⟨0,[],Nat.zero_le _,rfl,HBn.out,World.ownsRow_nil _ _ _ _,HX.out,Lib.hid ⟨Fits.nil w,fun j h=>absurd h (by omega)⟩⟩
  case round =>
   clear HX HBn
   obtain⟨i,ps,hi',rfl,hB,hown,hbx,hI⟩:=hrel
   obtain⟨oa,oc,rfl⟩:=owns_slice hown
   have hcb:=hbx.cell
   have hlb:w.heap.size<wr.heap.size:=hbx.lt
   by_cases hlt:i<k
   ·obtain⟨R,hR⟩:∃ R,16+12*i=R:=⟨_,rfl⟩
    have RS:=Lib.hid (fun W=>rowS_at i (R:Int) W (by omega) (by rw [hR]))
    have hRb:R≤1000000:=by omega
    by_cases hA:n<R+12
    ·have HNO:=Lib.hid (show ¬ rdB b from fun h=>by
      have h1:=(h.2 i (by rw [HK.out];exact hlt)).1
      have h2:=HN.out
      omega)
     have HP:=Lib.hid (part_no w.heap.size R 12 a n c wr hcb hA (by omega) (by omega) (R:Int) 12 rfl rfl)
     clear hI hown hR
     go_wp2_with (first
      | (go_at_call 175;((with_reducible refine (RS.out _).mono ?_);rintro e w2 ⟨rfl,rfl⟩))
      | (go_at_call 173;((with_reducible refine (HP.out).mono ?_);rintro e w3 ⟨rfl,rfl⟩)))
     refine bodyPost_ret (v:=.tuple #[.slice none 0 0,.bool false]) (by simp [results,Tryz.results146,go_sem]) rfl ⟨.inl ⟨HNO.out,rfl⟩,hB⟩
    ·have hn2:=HN.out
     have hrw:=cut_rw HV.out R 12 (by omega)
     have HP:=Lib.hid (part_yes w.heap.size R 12 a n c wr hcb hc (by omega) hb (R:Int) 12 rfl rfl)
     obtain⟨ra,rc,he⟩:=cut_form a c R 12
     rw [he] at HP hrw
     have hcl:=hrw.at.2.1
     have hsK:∀ W,(Instr.slice 23 (.slice ra 12 rc) (some (.int .i64 0)) (some (.int .i64 4)) none).run Tryz.prog W=.ok (cutV ra rc 0 4) W:=fun W=>run_part und8 size8 ra 12 rc 0 4 (by omega) (by omega) hcl W
     have hsA:∀ W,(Instr.slice 23 (.slice ra 12 rc) (some (.int .i64 4)) (some (.int .i64 8)) none).run Tryz.prog W=.ok (cutV ra rc 4 4) W:=fun W=>run_part und8 size8 ra 12 rc 4 8 (by omega) (by omega) hcl W
     have hsL:∀ W,(Instr.slice 23 (.slice ra 12 rc) (some (.int .i64 8)) (some (.int .i64 12)) none).run Tryz.prog W=.ok (cutV ra rc 8 4) W:=fun W=>run_part und8 size8 ra 12 rc 8 12 (by omega) (by omega) hcl W
     have r0:=cut_rw hrw 0 4 (by omega)
     have r4:=cut_rw hrw 4 4 (by omega)
     have r8:=cut_rw hrw 8 4 (by omega)
     rw [sub_sub b R 12 0 4 (by omega)] at r0
     rw [sub_sub b R 12 4 4 (by omega)] at r4
     rw [sub_sub b R 12 8 4 (by omega)] at r8
     obtain⟨K,hK⟩:∃ K,kiN b i=K:=⟨_,rfl⟩
     obtain⟨A,hA'⟩:∃ A,atN b i=A:=⟨_,rfl⟩
     obtain⟨L,hL⟩:∃ L,lnN b i=L:=⟨_,rfl⟩
     have G0:=Lib.hid (fun W (h:Below w.heap.size w W)=>get4_at (cutV ra rc 0 4) _ K W (r0.below h) (sub_len _ _ _ (by omega)) (by rw [← hK,kiN,hR,Nat.add_zero]))
     have G4:=Lib.hid (fun W (h:Below w.heap.size w W)=>get4_at (cutV ra rc 4 4) _ A W (r4.below h) (sub_len _ _ _ (by omega)) (by rw [← hA',atN,show 20+12*i=R+4 by omega]))
     have G8:=Lib.hid (fun W (h:Below w.heap.size w W)=>get4_at (cutV ra rc 8 4) _ L W (r8.below h) (sub_len _ _ _ (by omega)) (by rw [← hL,lnN,show 24+12*i=R+8 by omega]))
     obtain⟨v0,hv0⟩:∃ v,cutV ra rc 0 4=v:=⟨_,rfl⟩
     obtain⟨v4,hv4⟩:∃ v,cutV ra rc 4 4=v:=⟨_,rfl⟩
     obtain⟨v8,hv8⟩:∃ v,cutV ra rc 8 4=v:=⟨_,rfl⟩
     rw [hv0] at G0
     rw [hv4] at G4
     rw [hv8] at G8
     simp only [hv0] at hsK
     simp only [hv4] at hsA
     simp only [hv8] at hsL
     clear hv0 hv4 hv8
     have b4:∀ j,j+4≤n→va (sub b j 4)<4294967296:=fun j hj=>by
      have:=va_lt (sub b j 4)
      rw [sub_len _ _ _ (by omega)] at this
      exact this
     have hAb:A<4294967296:=by rw [← hA'];exact b4 _ (by omega)
     have hLb:L<4294967296:=by rw [← hL];exact b4 _ (by omega)
     have hKb:K<4294967296:=by rw [← hK];exact b4 _ (by omega)
     have HBB:=Lib.hid hB
     by_cases hC:n<A+L
     ·have HNO:=Lib.hid (show ¬ rdB b from fun h=>by
       have h1:=(h.2 i (by rw [HK.out];exact hlt)).2
       have h2:=HN.out
       omega)
      have PN:=Lib.hid (fun W (h:W.cell? ⟨w.heap.size,0,none⟩=some (.slice a n c))=>part_no w.heap.size A L a n c W h hC (by omega) (by omega) (A:Int) (L:Int) rfl rfl)
      clear hI hown hR hrw hcl r0 r4 r8 he hn2 hK hA' hL b4 hsK G0
      go_wp2_with (first
       | (go_at_call 175;((with_reducible refine (RS.out _).mono ?_);rintro e w2 ⟨rfl,rfl⟩))
       | (go_at_call 173;((with_reducible refine (HP.out).mono ?_);rintro e w3 ⟨rfl,rfl⟩)))
      go_quiet ((first|(go_at_call 174;first|(with_reducible refine Calls.quiet_of_same ((G4.out _ ?_).mono fun e w' h=>⟨h.1,h.2.symm⟩);exact bdN HBB.out _)|(with_reducible refine Calls.quiet_of_same ((G8.out _ ?_).mono fun e w' h=>⟨h.1,h.2.symm⟩);exact bdN HBB.out _))|(go_at_call 173;exact Calls.quiet_of_same ((PN.out _ (by exact hcb)).mono fun e w' h=>⟨h.1,h.2.symm⟩))))
      go_wp2
      refine bodyPost_ret (v:=.tuple #[.slice none 0 0,.bool false]) (by simp [results,Tryz.results146,go_sem]) rfl ⟨.inl ⟨HNO.out,rfl⟩,bdN hB _⟩
     ·have PY:=Lib.hid (fun W (h:W.cell? ⟨w.heap.size,0,none⟩=some (.slice a n c))=>part_yes w.heap.size A L a n c W h hc (by omega) hb (A:Int) (L:Int) rfl rfl)
      obtain⟨da,dc,hde⟩:=cut_form a c A L
      have hdr:=cut_rw HV.out A L (by omega)
      rw [hde] at hdr PY
      have hfx:=hI.out
      have hrd:rdT b (i+1)=rdT b i++[((K:Int),sub b A L)]:=by rw [rdT_snoc,rd1,hK,hA',hL]
      have hf2:=hfx.1.snoc (k:=(K:Int)) (v:=.slice da L dc) (s:=((K:Int),sub b A L)) rfl hdr
      rw [← hrd] at hf2
      have HF:=Lib.hid (show Fits w (ps++[((K:Int),.slice da L dc)]) (rdT b (i+1))∧∀ j,j<i+1→okR b j from ⟨hf2,fun j hj=>by
       rcases Nat.lt_succ_iff_lt_or_eq.1 hj with h|rfl
       ·exact hfx.2 j h
       ·exact⟨by omega,by rw [hA',hL];omega⟩⟩)
      clear hI hR hrw hcl r0 r4 r8 he hn2 hK hA' hL b4 hde hdr hfx hrd hf2
      go_wp2_with (first
       | (go_at_call 175;((with_reducible refine (RS.out _).mono ?_);rintro e w2 ⟨rfl,rfl⟩))
       | (go_at_call 173;((with_reducible refine (HP.out).mono ?_);rintro e w3 ⟨rfl,rfl⟩)))
      go_quiet ((first|(go_at_call 174;first|(with_reducible refine Calls.quiet_of_same ((G4.out _ ?_).mono fun e w' h=>⟨h.1,h.2.symm⟩);exact bdN HBB.out _)|(with_reducible refine Calls.quiet_of_same ((G8.out _ ?_).mono fun e w' h=>⟨h.1,h.2.symm⟩);exact bdN HBB.out _))|(go_at_call 173;exact Calls.quiet_of_same ((PY.out _ (by exact hcb)).mono fun e w' h=>⟨h.1,h.2.symm⟩))))
      have hown1:(wr.drewN nq).ownsRow w.heap.size 199 2 (.slice oa i oc) i (fl ps):=hown
      have hbx1:Boxed (wr.drewN nq) w.heap.size 23 (.slice a n c):=hbx
      have HB1:=bdN hB nq
      generalize wr.drewN nq=W1 at hown1 hbx1 HB1 ⊢
      have hsz1:=HB1.size
      clear hown hbx hcb hlb hsA hsL G4 G8 PY HP RS
      go_wp2_with (first
       | (go_at_call 174;((with_reducible refine (G0.out _ HB1).mono ?_);rintro e w4 ⟨rfl,rfl⟩))
       | (at_builtin;refine wpList_append_own _ rfl _ _ 150 rfl w.heap.size 199 i0 (.agg #[.int .i64 0,.slice none 0 0]) 2 32 Tryz.underlying150 hi hz0 hz1 hz2 rfl (by decide) _ i _ rfl (hown1.alloc _) ⟨W1.heap.size,0,none⟩ 1 1 [.int .i64 (K:Int),.slice da L dc] rfl rfl (World.news_of_block (cs:=#[.int .i64 (K:Int),.slice da L dc]) (t:=199) (fr:=(0,0)) (heap_alloc_last W1 _)) (by simp [Value.oneCell']) (by unfold maxLen;omega) (by omega) (by simp;omega) ?_;intro v' w5 hown6 hgrow6 _;have B2:=(HB1.alloc hsz1 _).grown hgrow6 (by simp;omega) (own_base hown1);have bx2:=(hbx1.alloc (.cells #[.int .i64 (K:Int),.slice da L dc] 199)).kept hgrow6 (hbx1.not_row (by decide) hown1)))
      go_roundw
      case rel=>exact⟨i+1,ps++[((K:Int),.slice da L dc)],hlt,by go_num,B2,by rw [fl_snoc];exact hown6,bx2,HF⟩
      case measure=>simp [intOf];omega
   ·obtain rfl:i=k:=by omega
    have hfx:=hI.out
    have HO:=Lib.hid (And.intro hown hfx)
    have HB:=Lib.hid hB
    clear hown hfx hI hB
    go_wp2
    refine bodyPost_ret (v:=.tuple #[.slice oa i oc,.bool true]) (by simp [results,Tryz.results146,go_sem]) rfl ⟨.inr ⟨⟨by rw [HN.out];exact h16,fun j hj=>HO.out.2.2 j (by rw [HK.out] at hj;exact hj)⟩,oa,oc,ps,rfl,HO.out.1,HO.out.2.1⟩,HB.out⟩
 ·have hno:¬ rdB b:=fun h=>h16 (by rw [← hn];exact h.1)
  have HP:=Lib.hid (part_no w.heap.size 0 16 a n c _ hbx (by omega) (by omega) (by omega) 0 16 rfl rfl)
  have HNO:=Lib.hid hno
  clear hno hv hn
  go_enter Tryz.func146,Tryz.ntmps146
  go_wp2_with (go_at_call 173;((with_reducible refine (HP.out).mono ?_);rintro e w1 ⟨rfl,rfl⟩))
  refine bodyPost_ret (v:=.tuple #[.slice none 0 0,.bool false]) (by simp [results,Tryz.results146,go_sem]) rfl ⟨.inl ⟨HNO.out,rfl⟩,bn⟩
def RdP (b:List UInt8) (w:World) (e:Ending) (w':World):Prop :=
 ((¬ rdOk b∧e=.returned (.tuple #[.slice none 0 0,.int .i64 19]))∨(rdOk b∧∃ a c,e=.returned (.tuple #[.slice a (nS b) c,.int .i64 0])∧Ss w' (.slice a (nS b) c) (rdT b (nS b))))∧Below w.heap.size w w'
theorem read_no1 (a:Option Addr) (n c:Nat) (b:List UInt8) (w:World) (hv:Rw eB w (.slice a n c) b) (hb:n≤1000000) (hno:¬ rdB b) :
  Calls Tryz.prog 106 #[.slice a n c] w (RdP b w):=by
 have hB2:Below w.heap.size w ((w.alloc (.cells #[.slice none 0 0] 150)).alloc (.cells #[.int .i64 0] 29)):=bch (bnew _ _) (bnew _ _)
 have HS:=Lib.hid (callsIn_wide (n:=6-1).2 (sections_at a n c b _ (hv.below hB2) hb))
 have hr:¬ rdOk b:=fun h=>hno h.1
 have HR:=Lib.hid hr
 have HNO:=Lib.hid hno
 have b0:=(Boxed.new w 150 (.slice none 0 0)).alloc (.cells #[.int .i64 0] 29)
 have b1:=Boxed.new (w.alloc (.cells #[.slice none 0 0] 150)) 29 (.int .i64 0)
 rw [World.size_alloc] at b1
 have HB2:=Lib.hid hB2
 have HX0:=Lib.hid b0
 have HX1:=Lib.hid b1
 clear hv hr hno hB2 b0 b1
 refine (callsIn_wide (n:=6)).1 ?_
 refine callsIn_of_wp_marks Tryz.func106 rfl trivial ?_ rfl
 simp only [Tryz.ntmps106,List.size_toArray,List.length_cons,List.length_nil,Nat.reduceAdd,Nat.reduceSub,Array.replicate_succ,Array.replicate_zero,List.push_toArray,List.append_toArray,List.nil_append,List.cons_append]
 gi_wp2_with (refine⟨trivial,?_⟩;gi_at_call 146;((with_reducible refine (HS.out).mono ?_);rintro e w1 ⟨h1,b3⟩;obtain⟨-,rfl⟩:=(show _∧_ from h1.elim id (fun h=>absurd h.1 HNO.out))))
 have x0:=(L14.Boxed.below HX0.out b3).alloc (.cells #[.bool false] 4)
 have x1:=(L14.Boxed.below HX1.out b3).alloc (.cells #[.bool false] 4)
 have hb4:=(HB2.out.trans (b3.mono HB2.out.size)).alloc (Nat.le_trans HB2.out.size b3.size) (.cells #[.bool false] 4)
 have c0:=x0.cell
 have c1:=x1.cell
 have f0:=x0.frozen
 have f1:=x1.frozen
 have l0:=x0.lt
 have l1:=x1.lt
 have z1:w.heap.size≤w1.heap.size:=Nat.le_trans HB2.out.size b3.size
 clear HS h1
 refine⟨trivial,?_⟩
 gi_wp2
 refine⟨trivial,?_⟩
 gi_wp2
 have k0:=((x0.set (.slice none 0 0)).other (B':=w.heap.size+1) (by omega) (.int .i64 19)).cell
 have k1:=((x1.other (B':=w.heap.size) (by omega) (.slice none 0 0)).set (.int .i64 19)).cell
 refine⟨.tuple #[.slice none 0 0,.int .i64 19],by simp [results,Tryz.results106,go_sem,k0,k1],.inl ⟨HR.out,rfl⟩,?_⟩
 exact (hb4.setCell (p:=⟨w.heap.size,0,none⟩) (Nat.le_refl _) _).setCell (p:=⟨w.heap.size+1,0,none⟩) (Nat.le_succ _) _
theorem sub_le (b:List UInt8) (i n:Nat):(sub b i n).length≤b.length:=by
 unfold sub
 rw [List.length_take,List.length_drop];omega
theorem rdT_sml (b:List UInt8) (hb:b.length≤1000000):Sml (rdT b (nS b))∧nS b<65536∨¬ rdB b:=by
 by_cases h:rdB b
 ·refine .inl ?_
  have hk:nS b<65536:=by
   have:=va_lt (sub b 6 2)
   rw [sub_len _ _ _ (by have:=h.1;omega)] at this
   exact this
  refine⟨⟨by rw [rdT_len];omega,fun s hs=>?_⟩,hk⟩
  obtain⟨i,hi,rfl⟩:=List.mem_map.1 hs
  exact Nat.le_trans (sub_le _ _ _) hb
 ·exact .inr h
theorem read_no2 (a:Option Addr) (n c:Nat) (b:List UInt8) (w:World) (hv:Rw eB w (.slice a n c) b) (hb:n≤1000000) (hok:rdB b) (hR:chkV (rdT b (nS b))≠0) :
  Calls Tryz.prog 106 #[.slice a n c] w (RdP b w):=by
 have hn:=hv.at.1
 have hB2:Below w.heap.size w ((w.alloc (.cells #[.slice none 0 0] 150)).alloc (.cells #[.int .i64 0] 29)):=bch (bnew _ _) (bnew _ _)
 have HS:=Lib.hid (callsIn_wide (n:=6-1).2 (sections_at a n c b _ (hv.below hB2) hb))
 obtain⟨hsm,hkb⟩:Sml (rdT b (nS b))∧nS b<65536:=(rdT_sml b (by omega)).resolve_right (fun h=>h hok)
 have hr:¬ rdOk b:=fun h=>hR h.2.1
 obtain⟨l,hl⟩:∃ l,rdT b (nS b)=l:=⟨_,rfl⟩
 have hlk:l.length=nS b:=by rw [← hl,rdT_len]
 unfold SeP at HS
 rw [hl] at HS hsm hR
 have HR:=Lib.hid hr
 obtain⟨k,hk⟩:∃ k,nS b=k:=⟨_,rfl⟩
 rw [hk] at HS hlk hkb
 have HO:=Lib.hid hok
 have HLK:=Lib.hid hlk
 have HN:=Lib.hid hn
 obtain⟨R,hRR⟩:∃ R,chkV l=R:=⟨_,rfl⟩
 have HC:=Lib.hid (fun W v (h:Ss W v l)=>callsIn_wide (n:=6-1).2 (check_at v l R W h hsm hRR))
 rw [hRR] at hR
 have hRb:(R != 0)=true:=by simpa using hR
 clear hRR
 have b0:=(Boxed.new w 150 (.slice none 0 0)).alloc (.cells #[.int .i64 0] 29)
 have b1:=Boxed.new (w.alloc (.cells #[.slice none 0 0] 150)) 29 (.int .i64 0)
 rw [World.size_alloc] at b1
 have HB2:=Lib.hid hB2
 have HX0:=Lib.hid b0
 have HX1:=Lib.hid b1
 clear hv hr hok hB2 b0 b1 hl hk hsm hlk hR hn
 refine (callsIn_wide (n:=6)).1 ?_
 refine callsIn_of_wp_marks Tryz.func106 rfl trivial ?_ rfl
 simp only [Tryz.ntmps106,List.size_toArray,List.length_cons,List.length_nil,Nat.reduceAdd,Nat.reduceSub,Array.replicate_succ,Array.replicate_zero,List.push_toArray,List.append_toArray,List.nil_append,List.cons_append]
 gi_wp2_with (first
  | (refine⟨trivial,?_⟩;gi_at_call 146;((with_reducible refine (HS.out).mono ?_);rintro e w1 ⟨h1,b3⟩;obtain⟨-,la,lc,ps,rfl,ho,hf⟩:=h1.resolve_left (fun h=>h.1 HO.out);have hss:=own_ss HLK.out ho (hf.below b3);have hs4:=hss.below (bnew w1 (.cells #[.bool true] 4))))
  | (refine⟨trivial,?_⟩;gi_at_call 147;((with_reducible refine (HC.out _ _ hs4).mono ?_);rintro e w5 ⟨rfl,b5⟩)))
 have x0:=(L14.Boxed.below HX0.out b3).alloc (.cells #[.bool true] 4)
 have x1:=(L14.Boxed.below HX1.out b3).alloc (.cells #[.bool true] 4)
 have hb4:=(HB2.out.trans (b3.mono HB2.out.size)).alloc (Nat.le_trans HB2.out.size b3.size) (.cells #[.bool true] 4)
 have y0:=L14.Boxed.below x0 b5
 have y1:=L14.Boxed.below x1 b5
 have hb5:=hb4.trans (b5.mono hb4.size)
 have c0:=y0.cell
 have c1:=y1.cell
 have f0:=y0.frozen
 have f1:=y1.frozen
 have l0:=y0.lt
 have l1:=y1.lt
 clear HS h1 HC
 refine⟨trivial,?_⟩
 gi_wp2
 have k0:=((y0.set (.slice none 0 0)).other (B':=w.heap.size+1) (by omega) (.int .i64 19)).cell
 have k1:=((y1.other (B':=w.heap.size) (by omega) (.slice none 0 0)).set (.int .i64 19)).cell
 refine⟨.tuple #[.slice none 0 0,.int .i64 19],by simp [results,Tryz.results106,go_sem,k0,k1],.inl ⟨HR.out,rfl⟩,?_⟩
 exact (hb5.setCell (p:=⟨w.heap.size,0,none⟩) (Nat.le_refl _) _).setCell (p:=⟨w.heap.size+1,0,none⟩) (Nat.le_succ _) _
theorem read_no3 (a:Option Addr) (n c:Nat) (b:List UInt8) (w:World) (hv:Rw eB w (.slice a n c) b) (hb:n≤1000000) (hok:rdB b) (hR:chkV (rdT b (nS b))=0) (hsz:szL (rdT b (nS b))≠n) :
  Calls Tryz.prog 106 #[.slice a n c] w (RdP b w):=by
 have hn:=hv.at.1
 have hB2:Below w.heap.size w ((w.alloc (.cells #[.slice none 0 0] 150)).alloc (.cells #[.int .i64 0] 29)):=bch (bnew _ _) (bnew _ _)
 have HS:=Lib.hid (callsIn_wide (n:=6-1).2 (sections_at a n c b _ (hv.below hB2) hb))
 obtain⟨hsm,hkb⟩:Sml (rdT b (nS b))∧nS b<65536:=(rdT_sml b (by omega)).resolve_right (fun h=>h hok)
 have hr:¬ rdOk b:=fun h=>hsz (by rw [← wr_len,h.2.2];exact hn)
 obtain⟨l,hl⟩:∃ l,rdT b (nS b)=l:=⟨_,rfl⟩
 have hlk:l.length=nS b:=by rw [← hl,rdT_len]
 unfold SeP at HS
 rw [hl] at HS hsm hR hsz
 have HR:=Lib.hid hr
 obtain⟨k,hk⟩:∃ k,nS b=k:=⟨_,rfl⟩
 rw [hk] at HS hlk hkb
 have HO:=Lib.hid hok
 have HLK:=Lib.hid hlk
 have HN:=Lib.hid hn
 obtain⟨S,hSS⟩:∃ S,szL l=S:=⟨_,rfl⟩
 have HC:=Lib.hid (fun W v (h:Ss W v l)=>callsIn_wide (n:=6-1).2 (check_at v l 0 W h hsm hR))
 have HZ:=Lib.hid (fun W v (h:Ss W v l)=>callsIn_wide (n:=6-1).2 (size_at v l S W h hsm hSS))
 rw [hSS] at hsz
 have hRb:((S:Int) != (n:Int))=true:=by
  simp only [bne_iff_ne,ne_eq]
  omega
 clear hSS
 have b0:=(Boxed.new w 150 (.slice none 0 0)).alloc (.cells #[.int .i64 0] 29)
 have b1:=Boxed.new (w.alloc (.cells #[.slice none 0 0] 150)) 29 (.int .i64 0)
 rw [World.size_alloc] at b1
 have HB2:=Lib.hid hB2
 have HX0:=Lib.hid b0
 have HX1:=Lib.hid b1
 clear hv hr hok hB2 b0 b1 hl hk hsm hlk hR hn hsz
 refine (callsIn_wide (n:=6)).1 ?_
 refine callsIn_of_wp_marks Tryz.func106 rfl trivial ?_ rfl
 simp only [Tryz.ntmps106,List.size_toArray,List.length_cons,List.length_nil,Nat.reduceAdd,Nat.reduceSub,Array.replicate_succ,Array.replicate_zero,List.push_toArray,List.append_toArray,List.nil_append,List.cons_append]
 gi_wp2_with (first
  | (refine⟨trivial,?_⟩;gi_at_call 146;((with_reducible refine (HS.out).mono ?_);rintro e w1 ⟨h1,b3⟩;obtain⟨-,la,lc,ps,rfl,ho,hf⟩:=h1.resolve_left (fun h=>h.1 HO.out);have hss:=own_ss HLK.out ho (hf.below b3);have hs4:=hss.below (bnew w1 (.cells #[.bool true] 4))))
  | (refine⟨trivial,?_⟩;gi_at_call 147;((with_reducible refine (HC.out _ _ hs4).mono ?_);rintro e w5 ⟨rfl,b5⟩;have hs5:=hs4.below b5))
  | (refine⟨trivial,?_⟩;gi_at_call 148;((with_reducible refine (HZ.out _ _ hs5).mono ?_);rintro e w6 ⟨rfl,b6⟩;have x0:=(L14.Boxed.below HX0.out b3).alloc (.cells #[.bool true] 4);have x1:=(L14.Boxed.below HX1.out b3).alloc (.cells #[.bool true] 4);have hb4:=(HB2.out.trans (b3.mono HB2.out.size)).alloc (Nat.le_trans HB2.out.size b3.size) (.cells #[.bool true] 4);have y0:=L14.Boxed.below (L14.Boxed.below x0 b5) b6;have y1:=L14.Boxed.below (L14.Boxed.below x1 b5) b6;have hb6:=(hb4.trans (b5.mono hb4.size)).trans (b6.mono (Nat.le_trans hb4.size b5.size));have c0:=y0.cell;have c1:=y1.cell;have f0:=y0.frozen;have f1:=y1.frozen;have l0:=y0.lt;have l1:=y1.lt;clear x0 x1 hb4)))
 have k0:=((y0.set (.slice none 0 0)).other (B':=w.heap.size+1) (by omega) (.int .i64 19)).cell
 have k1:=((y1.other (B':=w.heap.size) (by omega) (.slice none 0 0)).set (.int .i64 19)).cell
 refine⟨.tuple #[.slice none 0 0,.int .i64 19],by simp [results,Tryz.results106,go_sem,k0,k1],.inl ⟨HR.out,rfl⟩,?_⟩
 exact (hb6.setCell (p:=⟨w.heap.size,0,none⟩) (Nat.le_refl _) _).setCell (p:=⟨w.heap.size+1,0,none⟩) (Nat.le_succ _) _
def Rx (g:Nat) (W:World) (v:Value) (d:List UInt8):Prop:=Rw eB W v d∧(0<d.length→v.ownBlock≠some g)
def Sg (W:World) (g:Nat) (l:List Sc):Prop :=
 ∃ cur,W.heap[g]?=some (Obj.cells cur 199 (0,0))∧∀ j (h:j<l.length),cur[j*2]?=some (.int .i64 l[j].1)∧∃ dv,cur[j*2+1]?=some dv∧Rx g W dv l[j].2
theorem Rx.below {g:Nat} {W W':World} {v:Value} {d:List UInt8} (h:Rx g W v d) (hb:Below W.heap.size W W'):Rx g W' v d:=⟨h.1.below hb,h.2⟩
theorem Rx.set {g i:Nat} {W:World} {v u:Value} {d:List UInt8} (h:Rx g W v d):Rx g (W.setCell ⟨g,i,none⟩ u) v d:=by
 refine⟨?_,h.2⟩
 obtain⟨a,c,rfl,h1,h2,h3⟩:=h.1
 refine⟨a,c,rfl,h1,h2,fun hp=>?_⟩
 obtain⟨b,o,rfl,hb,hc⟩:=h3 hp
 have hne:b≠g:=fun e=>h.2 hp (by simp [Value.ownBlock,e])
 refine⟨b,o,rfl,by rw [World.size_setCell];exact hb,fun j hj=>?_⟩
 rw [← hc j hj]
 unfold World.cell?
 simp only [Below.heap_setCell W ⟨g,i,none⟩ u b hne]
theorem Sg.below {W W':World} {g:Nat} {l:List Sc} (h:Sg W g l) (hb:Below W.heap.size W W'):Sg W' g l:=by
 obtain⟨cur,hg,hc⟩:=h
 refine⟨cur,(hb.block g (lt_of_block hg)).trans hg,fun j hj=>?_⟩
 obtain⟨h1,dv,h2,h3⟩:=hc j hj
 exact⟨h1,dv,h2,h3.below hb⟩
theorem Sg.set {W:World} {g i:Nat} {l:List Sc} {cv:Value} (h:Sg W g l) (hi:i<l.length) (hc:Rx g W cv l[i].2):Sg (W.setCell ⟨g,i*2+1,none⟩ cv) g l:=by
 obtain⟨cur,hg,hcs⟩:=h
 refine⟨_,cells_set hg,fun j hj=>?_⟩
 obtain⟨h1,dv,h2,h3⟩:=hcs j hj
 refine⟨?_,?_⟩
 ·rw [Array.getElem?_setIfInBounds_ne (by omega)]
  exact h1
 ·by_cases e:j=i
  ·subst e
   refine⟨cv,?_,hc.set⟩
   have hlt:j*2+1<cur.size:=by
    rcases Nat.lt_or_ge (j*2+1) cur.size with h|h
    ·exact h
    ·rw [Array.getElem?_eq_none h] at h2;cases h2
   rw [Array.getElem?_setIfInBounds_self_of_lt hlt]
  ·refine⟨dv,?_,h3.set⟩
   rw [Array.getElem?_setIfInBounds_ne (by omega)]
   exact h2
theorem Sg.ss {W:World} {g k c:Nat} {l:List Sc} (h:Sg W g l) (hk:l.length=k) (hc:k≤c):Ss W (.slice (some ⟨g,0,none⟩) k c) l:=by
 obtain⟨cur,hg,hcs⟩:=h
 refine⟨_,c,by rw [hk],by omega,fun e=>(by cases e),fun _=>⟨g,0,rfl,lt_of_block hg,fun j hj=>?_⟩⟩
 obtain⟨h1,dv,h2,h3⟩:=hcs j hj
 rw [Nat.zero_add]
 refine⟨?_,dv,?_,h3.1⟩
 ·unfold World.cell?
  simp only [hg]
  exact h1
 ·unfold World.cell?
  simp only [hg]
  exact h2
theorem own_sg {w W:World} {g k c:Nat} {ps:List (Int × Value)} {l:List Sc} (_:l.length=k) (h:W.ownsRow w.heap.size 199 2 (.slice (some ⟨g,0,none⟩) k c) k (fl ps)) (hf:Fits w ps l) (hb:Below w.heap.size w W):Sg W g l∧w.heap.size≤g:=by
 rcases h.2 with ⟨h0,-⟩|⟨g',cap,cur,he,hbg,hh,-,-,hcs,htk⟩
 ·cases h0
 ·cases he
  refine⟨⟨cur,hh,fun j hj=>?_⟩,hbg⟩
  have hj2:j<ps.length:=by rw [hf.1];exact hj
  obtain⟨q1,q2⟩:=fl_get ps j hj2
  obtain⟨p1,p2⟩:=hf.2 j hj2 hj
  have key:∀ i u,(fl ps)[i]?=some u→cur[i]?=some u:=fun i u hu=>by
   rw [← htk,List.getElem?_take] at hu
   split at hu
   ·simpa using hu
   ·cases hu
  refine⟨by rw [key _ _ q1,p1],ps[j].2,key _ _ q2,p2.below hb,fun hp e=>?_⟩
  obtain⟨a,c',hv,-,-,h3⟩:=p2
  obtain⟨b,o,ha,hlt,-⟩:=h3 hp
  rw [hv,ha] at e
  simp [Value.ownBlock] at e
  omega
def ReG (w:World) (b:List UInt8) (n:Nat) (pre:List Pa) (v:Value):Prop :=
 (byt pre).flatten <+: b∧∃ a c,v=.slice a (n-(byt pre).flatten.length) c∧Rw eB w v (b.drop (byt pre).flatten.length)
def RgI (w w1:World) (b:List UInt8) (n B5 B6:Nat) (pre:List Pa) (W:World):Prop :=
 Boxed W B5 4 (.bool true)∧(∃ v,Boxed W B6 23 v∧ReG w b n pre v)∧Below w1.heap.size w1 W
def RgX (w:World) (b:List UInt8) (pre:List Pa) (W:World):Prop :=
 (Boxed W w.heap.size 150 (.slice none 0 0)∧Boxed W (w.heap.size+1) 29 (.int .i64 19))∧(¬ (byt pre).flatten <+: b)∧Below w.heap.size w W
theorem boxE_own {β:Type} (B:Nat) (t:TypeId) (G:β→Value→Prop):Own (fun s W=>∃ v,Boxed W B t v∧G s v):=by
 rintro s X Y row ⟨v,hv,hG⟩ hg hrow
 exact⟨v,boxed_own (β:=Unit) B t (fun _=>v) () X Y row hv hg hrow,hG⟩
theorem rgI_own (w w1:World) (b:List UInt8) (n B5 B6 d:Nat) (hd:w1.heap.size≤d):OwnFrom d (RgI w w1 b n B5 B6) :=
 OwnFrom.and (Own.from (boxed_own _ _ _) _) (OwnFrom.and (Own.from (boxE_own _ _ _) _) (ownFrom_below (Nat.le_refl _) hd))
theorem rgX_own (w:World) (b:List UInt8) (d:Nat) (hd:w.heap.size≤d):OwnFrom d (RgX w b) :=
 OwnFrom.and (OwnFrom.and (Own.from (boxed_own _ _ _) _) (Own.from (boxed_own _ _ _) _)) (OwnFrom.and (ownFrom_pure _ _) (ownFrom_below (Nat.le_refl _) hd))
theorem KP.set {n:Nat} {A:World} {B:Nat} {t:TypeId} {u:Value} (hx:Boxed A B t u) (h1:t≠150) (h2:t≠229) (hn:n≤B) (v:Value):KP n A (A.setCell ⟨B,0,none⟩ v):=by
 refine⟨(Below.refl n A).setCell (p:=⟨B,0,none⟩) hn v,fun k cs fr h=>?_,fun k cs fr h=>?_⟩
 all_goals
  rw [Below.heap_setCell _ _ _ _ ?_]
  ·exact h
  ·show k≠B
   rintro rfl
   rw [show A.heap[k]?=_ from hx] at h
   cases h
   first|exact h1 rfl|exact h2 rfl
theorem pre_app {p d b:List UInt8} (h:p <+: b):p++d <+: b↔d <+: b.drop p.length:=by
 obtain⟨r,rfl⟩:=h
 rw [List.drop_left,List.prefix_append_right_inj]
theorem box_cell {W:World} {B i:Nat} {t:TypeId} {u x:Value} (h:Boxed W B t u) (hc:W.cell? ⟨B,i,none⟩=some x):i=0∧x=u:=by
 unfold World.cell? at hc
 simp only [show W.heap[B]?=_ from h] at hc
 cases i with
 | zero=>exact⟨rfl,by simpa using hc.symm⟩
 | succ i=>simp at hc
theorem cell_setc {W:World} {b B i:Nat} (v:Value) (h:b≠B):(W.setCell ⟨B,0,none⟩ v).cell? ⟨b,i,none⟩=W.cell? ⟨b,i,none⟩:=by
 unfold World.cell?
 simp only [Below.heap_setCell W ⟨B,0,none⟩ v b h]
theorem rw_box {W:World} {B:Nat} {t:TypeId} {u v:Value} {d:List UInt8} (h:Rw eB W v d) (hx:Boxed W B t u) (hu:∀ c,u≠.int .u8 c) (x:Value):Rw eB (W.setCell ⟨B,0,none⟩ x) v d:=by
 obtain⟨a,c,rfl,h1,h2,h3⟩:=h
 refine⟨a,c,rfl,h1,h2,fun hp=>?_⟩
 obtain⟨b,o,rfl,hb,hc⟩:=h3 hp
 have hne:b≠B:=by
  rintro rfl
  exact hu _ (box_cell hx (hc 0 hp)).2.symm
 exact⟨b,o,rfl,by rw [World.size_setCell];exact hb,fun j hj=>(cell_setc x hne).trans (hc j hj)⟩
theorem ss_box {W:World} {B:Nat} {t:TypeId} {u v:Value} {l:List Sc} (h:Ss W v l) (hx:Boxed W B t u) (hu:∀ c,u≠.int .u8 c) (x:Value):Ss (W.setCell ⟨B,0,none⟩ x) v l:=by
 obtain⟨a,c,rfl,h1,h2,h3⟩:=h
 refine⟨a,c,rfl,h1,h2,fun hp=>?_⟩
 obtain⟨b,o,rfl,hb,hc⟩:=h3 hp
 have hne:b≠B:=by
  rintro rfl
  obtain⟨-,dv,h4,-⟩:=hc 0 hp
  have:=(box_cell hx h4).1
  omega
 refine⟨b,o,rfl,by rw [World.size_setCell];exact hb,fun j hj=>?_⟩
 obtain⟨h4,dv,h5,h6⟩:=hc j hj
 exact⟨(cell_setc x hne).trans h4,dv,(cell_setc x hne).trans h5,rw_box h6 hx hu x⟩
theorem ss_put {W:World} {D:Nat} {v:Value} {l:List Sc} {o o':Obj} (h:Ss W v l) (hd:W.heap[D]?=some o) (ho:o.isCells=false):Ss (W.putObj D o') v l:=by
 have key:∀ b i x,W.cell? ⟨b,i,none⟩=some x→(W.putObj D o').cell? ⟨b,i,none⟩=some x:=fun b i x hc=>by
  have hne:b≠D:=by
   rintro rfl
   unfold World.cell? at hc
   rw [hd] at hc
   cases o <;> simp_all [Obj.isCells]
  unfold World.cell?
  rw [World.putObj_heap_other hne]
  exact hc
 obtain⟨a,c,rfl,h1,h2,h3⟩:=h
 refine⟨a,c,rfl,h1,h2,fun hp=>?_⟩
 obtain⟨b,o2,rfl,hb,hc⟩:=h3 hp
 refine⟨b,o2,rfl,by rw [World.putObj_size];exact hb,fun j hj=>?_⟩
 obtain⟨h4,dv,h5,h6⟩:=hc j hj
 refine⟨key _ _ _ h4,dv,key _ _ _ h5,?_⟩
 obtain⟨a',c',hv,q1,q2,q3⟩:=h6
 refine⟨a',c',hv,q1,q2,fun hp'=>?_⟩
 obtain⟨b',o3,e,hb',hc'⟩:=q3 hp'
 exact⟨b',o3,e,by rw [World.putObj_size];exact hb',fun i hi=>key _ _ _ (hc' i hi)⟩
theorem box_setg {W:World} {B g i:Nat} {t t':TypeId} {u v:Value} {cur:Array Value} (h:Boxed W B t v) (hg:W.heap[g]?=some (Obj.cells cur t' (0,0))) (ht:t≠t'):Boxed (W.setCell ⟨g,i,none⟩ u) B t v:=by
 show (W.setCell ⟨g,i,none⟩ u).heap[B]?=_
 rw [Below.heap_setCell _ _ _ _ ?_]
 ·exact h
 ·show B≠g
  rintro rfl
  rw [show W.heap[B]?=_ from h] at hg
  cases hg
  exact ht rfl
theorem read_go (a:Option Addr) (n c:Nat) (b:List UInt8) (w:World) (hv:Rw eB w (.slice a n c) b) (hb:n≤1000000) (hok:rdB b) (hR:chkV (rdT b (nS b))=0) (hsz:szL (rdT b (nS b))=n) :
  Calls Tryz.prog 106 #[.slice a n c] w (RdP b w):=by
 have hn:=hv.at.1
 have hB2:Below w.heap.size w ((w.alloc (.cells #[.slice none 0 0] 150)).alloc (.cells #[.int .i64 0] 29)):=bch (bnew _ _) (bnew _ _)
 have HS:=Lib.hid (callsIn_wide (n:=6-1).2 (sections_at a n c b _ (hv.below hB2) hb))
 obtain⟨hsm,hkb⟩:Sml (rdT b (nS b))∧nS b<65536:=(rdT_sml b (by omega)).resolve_right (fun h=>h hok)
 have hro:rdOk b↔wr (rdT b (nS b))=b:=⟨fun h=>h.2.2,fun h=>⟨hok,hR,h⟩⟩
 unfold RdP
 obtain⟨l,hl⟩:∃ l,rdT b (nS b)=l:=⟨_,rfl⟩
 have hlk:l.length=nS b:=by rw [← hl,rdT_len]
 unfold SeP at HS
 rw [hl] at HS hsm hR hsz hro ⊢
 obtain⟨k,hk⟩:∃ k,nS b=k:=⟨_,rfl⟩
 rw [hk] at HS hlk hkb ⊢
 have HFw:=Lib.hid (fw_of hsm hR)
 have HAs:=Lib.hid (chk0.1 hR).2
 have HRO:=Lib.hid hro
 have HO:=Lib.hid hok
 have HLK:=Lib.hid hlk
 have HN:=Lib.hid hn
 have HSZ:=Lib.hid hsz
 have HV:=Lib.hid hv
 have HC:=Lib.hid (fun W v (h:Ss W v l)=>callsIn_wide (n:=6-1).2 (check_at v l 0 W h hsm hR))
 have HZ:=Lib.hid (fun W v (h:Ss W v l)=>callsIn_wide (n:=6-1).2 (size_at v l n W h hsm hsz))
 have b0:=(Boxed.new w 150 (.slice none 0 0)).alloc (.cells #[.int .i64 0] 29)
 have b1:=Boxed.new (w.alloc (.cells #[.slice none 0 0] 150)) 29 (.int .i64 0)
 rw [World.size_alloc] at b1
 have HB2:=Lib.hid hB2
 have HX0:=Lib.hid b0
 have HX1:=Lib.hid b1
 have HDT:=Lib.hid hsm.d
 clear hv hok hB2 b0 b1 hl hk hsm hlk hR hn hsz hro
 refine (callsIn_wide (n:=6)).1 ?_
 refine callsIn_of_wp_marks Tryz.func106 rfl trivial ?_ rfl
 simp only [Tryz.ntmps106,List.size_toArray,List.length_cons,List.length_nil,Nat.reduceAdd,Nat.reduceSub,Array.replicate_succ,Array.replicate_zero,List.push_toArray,List.append_toArray,List.nil_append,List.cons_append]
 gi_wp2_with (first
  | (refine⟨trivial,?_⟩;gi_at_call 146;((with_reducible refine (HS.out).mono ?_);rintro e w1 ⟨h1,b3⟩;obtain⟨-,la,lc,ps,rfl,ho,hf⟩:=h1.resolve_left (fun h=>h.1 HO.out);have hss:=own_ss HLK.out ho (hf.below b3);have hs4:=hss.below (bnew w1 (.cells #[.bool true] 4))))
  | (refine⟨trivial,?_⟩;gi_at_call 147;((with_reducible refine (HC.out _ _ hs4).mono ?_);rintro e w5 ⟨rfl,b5⟩;have hs5:=hs4.below b5))
  | (refine⟨trivial,?_⟩;gi_at_call 148;((with_reducible refine (HZ.out _ _ hs5).mono ?_);rintro e w6 ⟨rfl,b6⟩))
  | (refine⟨trivial,?_⟩;gi_at_call 149;refine (callsIn_wide.2 (parts_fn _ la k lc rfl _)).mono ?_;rintro e w7 ⟨rfl,rfl⟩))
 have bW1:=HB2.out.trans (b3.mono HB2.out.size)
 have bn1:=bnew w1 (.cells #[.bool true] 4)
 have z5:w1.heap.size≤w5.heap.size:=Nat.le_trans bn1.size b5.size
 have z6:w1.heap.size≤w6.heap.size:=Nat.le_trans z5 b6.size
 have B1W:=(((bn1.trans (b5.mono bn1.size)).trans (b6.mono z5)).alloc z6 (.cells #[.slice a n c] 23)).alloc (Nat.le_trans z6 (by simp)) (.cells #[.slice la k lc] 150)
 have x5:=((L14.Boxed.below (L14.Boxed.below (Boxed.new w1 4 (.bool true)) b5) b6).alloc (.cells #[.slice a n c] 23)).alloc (.cells #[.slice la k lc] 150)
 have x6:=(Boxed.new w6 23 (.slice a n c)).alloc (.cells #[.slice la k lc] 150)
 have x7:=Boxed.new (w6.alloc (.cells #[.slice a n c] 23)) 150 (.slice la k lc)
 rw [World.size_alloc] at x7
 have x0:=L14.Boxed.below HX0.out b3
 have x1:=L14.Boxed.below HX1.out b3
 obtain⟨B6,hB6⟩:∃ B,w6.heap.size=B:=⟨_,rfl⟩
 have hB6l:w1.heap.size<B6:=by
  have:w1.heap.size<w5.heap.size:=Nat.lt_of_lt_of_le (by simp) b5.size
  have:=b6.size
  omega
 rw [hB6] at x6 x7 ⊢
 obtain⟨W0,hW0⟩:∃ W0,(w6.alloc (.cells #[.slice a n c] 23)).alloc (.cells #[.slice la k lc] 150)=W0:=⟨_,rfl⟩
 rw [hW0] at x5 x6 x7 B1W
 simp only [hW0]
 have HW1:=Lib.hid bW1
 have HSS:=Lib.hid hss
 have HOF:=Lib.hid (And.intro ho hf)
 have HB3:=Lib.hid b3
 have HBW:=Lib.hid B1W
 have H7:=Lib.hid x7
 have H0:=Lib.hid x0
 have H1:=Lib.hid x1
 have hl01:w.heap.size+1<w1.heap.size:=x1.lt
 have hn1:=HN.out
 clear HS HC HZ h1 hs4 hs5 hW0 hB6 z5 z6 bn1 b5 b6 bW1 hss ho hf b3 x7 x0 x1
 refine range_told rfl (by omega) (gf:=178) (lb:=#[.pointer (some ⟨B6+1,0,none⟩)]) rfl trivial (enters_of Tryz.func178 (by kernel_rfl) rfl)
  (tells_at _ (by omega) (B6+1) w1.heap.size la k lc l HLK.out HFw.out HAs.out W0 HBW.out.size H7.out (fun A hA=>HSS.out.below (HBW.out.trans hA))) (fun h k=>KP.t h k) (fun W k o o' h1 h2 h3 h4=>KP.p (w:=W0) HBW.out.size W k o o' h1 h2 h3 h4) (fun _=>rfl)
  (relP_own _) (RgI w w1 b n w1.heap.size B6) (RgX w b) (rgI_own w w1 b n w1.heap.size B6 _ HBW.out.size) (rgX_own w b _ (Nat.le_trans HW1.out.size HBW.out.size)) ⟨x5,⟨_,x6,by simp [byt],a,c,by simp [byt],by simpa [byt] using HV.out⟩,B1W⟩
  (fun x=>{ tmps:=#[.slice a n c,undef,.pointer (some ⟨w.heap.size,0,none⟩),.pointer (some ⟨w.heap.size+1,0,none⟩),.slice la k lc,.pointer (some ⟨w1.heap.size,0,none⟩),.pointer (some ⟨B6,0,none⟩),x.1,undef,undef,.tuple #[.slice la k lc,.bool true],.slice a n c,.tuple #[.slice la k lc,.bool true],.slice la k lc,.bool true,.bool true,.bool false,.bool false,.slice la k lc,.int .i64 0,.bool false,.bool false,.bool false,.slice la k lc,.int .i64 (n:Int),.slice a n c,.int .i64 (n:Int),.bool false,.bool false,.slice a n c,.slice la k lc,.func (.func 178) #[] #[.pointer (some ⟨B6+1,0,none⟩)],x.1,undef,undef,undef,undef,undef,undef,undef,undef,undef,undef,undef,undef,undef,undef,undef,undef,undef,undef,undef,undef,undef,undef,undef,undef],defers:=[] })
  ?assign ?body ?done ?stop
 case assign =>
  intro lp x W K hK
  obtain⟨xv,xd⟩:=x
  gi_wp2
  exact hK
 case body =>
  rintro lp pre ⟨xv,xd⟩ W ⟨c5,⟨v6,c6,hpf,ra,rc,rfl,hrr⟩,hBw⟩ hx hp
  have hx':Rw eB W xv xd:=hx
  obtain⟨pa,pc,rfl,-⟩:=id hx'
  have hpl:=pre_len hp
  have hfl:(byt (pre++[((.slice pa xd.length pc,xd):Pa)])).flatten=(byt pre).flatten++xd:=by simp [byt]
  rw [hfl,HSZ.out,List.length_append] at hpl
  have hbw:=HW1.out.trans (hBw.mono HW1.out.size)
  have hrW:=hrr.below hbw
  have hap:=pre_app (d:=xd) hpf
  have c0:Boxed W w.heap.size 150 (.slice none 0 0):=(hBw.block _ (H0.out.lt)).trans H0.out
  have c1:Boxed W (w.heap.size+1) 29 (.int .i64 0):=(hBw.block _ (H1.out.lt)).trans H1.out
  obtain⟨m,hm⟩:∃ m,(byt pre).flatten.length=m:=⟨_,rfl⟩
  rw [hm] at hrW c6 hap hpl
  have hdl:(b.drop m).length=n-m:=by rw [List.length_drop,HN.out]
  have f5:=c5.frozen
  have f6:=c6.frozen
  have d5:=c5.cell
  have d6:=c6.cell
  have l5:=c5.lt
  have l6:=c6.lt
  have hne5:¬ w1.heap.size=B6:=by omega
  have hne6:¬ B6=w1.heap.size:=by omega
  have C5:=Lib.hid c5
  have C6:=Lib.hid c6
  have HBW2:=Lib.hid hBw
  have HBw3:=Lib.hid hbw
  have HFL:=Lib.hid hfl
  have HPF:=Lib.hid hpf
  have HM:=Lib.hid hm
  obtain⟨q,hq⟩:∃ q,xd.length=q:=⟨_,rfl⟩
  have HQ:=Lib.hid hq
  rw [hq] at hpl
  by_cases hd:xd <+: b.drop m
  ·have HCP:=Lib.hid (callsIn_wide (n:=3).2 (cutp_yes ra (n-m) rc q _ (b.drop m) xd W (by omega) (by omega) hrW hx' hd hq))
   have HP2:=Lib.hid (hap.2 hd)
   have hdr:=drop_rw (n:=n-m) (c:=rc) (by rw [hm] at hrr;exact hrr) q (by omega)
   rw [List.drop_drop] at hdr
   obtain⟨a',c',hdv⟩:=drop_form ra (n-m) rc q
   rw [hdv] at HCP hdr
   have HDR:=Lib.hid hdr
   simp only [hq]
   rw [hq] at HFL HCP
   clear hx hx' hp hfl hrr hrW hap hpf hdl hd hbw hBw hm hq hdr hdv c5 c6 c0 c1
   gi_wp2_with (refine⟨trivial,?_⟩;(refine (CallsIn.inRound lp (HCP.out)).mono ?_;rintro e w4 ⟨rfl,rfl⟩))
   have e:=HFL.out
   have k5:=(C5.out.other hne5 (.slice a' (n-m-q) c')).set (.bool true)
   have k6:=(C6.out.set (.slice a' (n-m-q) c')).other hne6 (.bool true)
   have kp:=(KP.set C6.out (by decide) (by decide) (Nat.le_of_lt hB6l) (.slice a' (n-m-q) c')).t (KP.set (C5.out.other hne5 (.slice a' (n-m-q) c')) (by decide) (by decide) (Nat.le_refl _) (.bool true))
   refine⟨((KeepsOthers.setCell _ _ _).trans (KeepsOthers.setCell _ _ _)).from _,kp,k5,⟨_,k6,by rw [e];exact HP2.out,a',c',?_,?_⟩,HBW2.out.trans kp.b⟩
   ·rw [e,List.length_append,HM.out,HQ.out,Nat.sub_sub]
   ·rw [e,List.length_append,HM.out,HQ.out]
    exact HDR.out
  ·have HCP:=Lib.hid (callsIn_wide (n:=3).2 (cutp_no ra (n-m) rc _ (b.drop m) xd W (by omega) (by omega) hrW hx' hd))
   have HP2:=Lib.hid (show ¬ ((byt pre).flatten++xd <+: b) from fun h=>hd (hap.1 h))
   simp only [hq]
   rw [hq] at HFL HCP
   have f0:=c0.frozen
   have f1:=c1.frozen
   have d0:=c0.cell
   have d1:=c1.cell
   have l0:=c0.lt
   have l1:=c1.lt
   have hq1:¬ w.heap.size=B6:=by omega
   have hq2:¬ w.heap.size+1=B6:=by omega
   have hq3:¬ w.heap.size=w1.heap.size:=by omega
   have hq4:¬ w.heap.size+1=w1.heap.size:=by omega
   have hr1:¬ B6=w.heap.size:=by omega
   have hr2:¬ B6=w.heap.size+1:=by omega
   have hr3:¬ w1.heap.size=w.heap.size:=by omega
   have hr4:¬ w1.heap.size=w.heap.size+1:=by omega
   have C0:=Lib.hid c0
   have C1:=Lib.hid c1
   clear hx hx' hp hfl hrr hrW hap hpf hdl hd hbw hBw hm hq c5 c6 c0 c1
   gi_wp2_with (refine⟨trivial,?_⟩;(refine (CallsIn.inRound lp (HCP.out)).mono ?_;rintro e w4 ⟨rfl,rfl⟩))
   have e:=HFL.out
   have k0:=(((C0.out.other hq1 (.slice ra (n-m) rc)).other hq3 (.bool false)).set (.slice none 0 0)).other (B':=w.heap.size+1) (by omega) (.int .i64 19)
   have k1:=(((C1.out.other hq2 (.slice ra (n-m) rc)).other hq4 (.bool false)).other (B':=w.heap.size) (by omega) (.slice none 0 0)).set (.int .i64 19)
   refine⟨((((KeepsOthers.setCell _ _ _).trans (KeepsOthers.setCell _ _ _)).trans (KeepsOthers.setCell _ _ _)).trans (KeepsOthers.setCell _ _ _)).from _,⟨k0,k1⟩,by rw [e];exact HP2.out,?_⟩
   exact (((HBw3.out.setCell (p:=⟨B6,0,none⟩) (by show w.heap.size≤B6;omega) _).setCell (p:=⟨w1.heap.size,0,none⟩) (by show w.heap.size≤w1.heap.size;omega) _).setCell (p:=⟨w.heap.size,0,none⟩) (Nat.le_refl _) _).setCell (p:=⟨w.heap.size+1,0,none⟩) (Nat.le_succ _) _
 case done =>
  rintro D xs W hD hS ⟨c5,⟨v6,c6,hpf,-⟩,hBw⟩ hK
  have hbw:=HW1.out.trans (hBw.mono HW1.out.size)
  have c0:Boxed W w.heap.size 150 (.slice none 0 0):=(hBw.block _ (H0.out.lt)).trans H0.out
  have c1:Boxed W (w.heap.size+1) 29 (.int .i64 0):=(hBw.block _ (H1.out.lt)).trans H1.out
  have hwr:wr l=b:=by
   rw [hS,prt_wr] at hpf
   exact hpf.eq_of_length (by rw [wr_len,HSZ.out,HN.out])
  have HOK:=Lib.hid (HRO.out.2 hwr)
  have hssW:=HSS.out.below hBw
  obtain⟨g,hg⟩:∃ g,0<k→la=some ⟨g,0,none⟩∧k≤lc∧w.heap.size≤g∧Sg W g l:=by
   rcases HOF.out.1.2 with ⟨-,h0⟩|⟨g,cap,cur,he,-,-,hle,-⟩
   ·exact⟨0,fun h=>by omega⟩
   ·cases he
    obtain⟨q1,q2⟩:=own_sg HLK.out HOF.out.1 HOF.out.2 HB3.out
    exact⟨g,fun _=>⟨rfl,hle,Nat.le_trans HB2.out.size q2,q1.below hBw⟩⟩
  have hz:w.heap.size≤W0.heap.size:=Nat.le_trans HW1.out.size HBW.out.size
  have H8:=Lib.hid (show (Boxed W w.heap.size 150 (.slice none 0 0)∧Boxed W (w.heap.size+1) 29 (.int .i64 0))∧W.heap[D]?=some (.deferred (some []))∧Below w.heap.size w W∧Ss W (.slice la k lc) l∧(0<k→la=some ⟨g,0,none⟩∧k≤lc∧w.heap.size≤g∧Sg W g l) from ⟨⟨c0,c1⟩,hK,hbw,hssW,hg⟩)
  clear c5 c6 hpf hBw hK hbw c0 c1 hwr hssW hg hS
  gi_wp2
  gi_loopw [8,9,43] (fun _ _ q wr=>∃ j:Nat,j≤k∧q=.int .i64 (j:Int)∧Hid ((Boxed wr w.heap.size 150 (.slice none 0 0)∧Boxed wr (w.heap.size+1) 29 (.int .i64 0))∧wr.heap[D]?=some (.deferred (some []))∧Below w.heap.size w wr∧Ss wr (.slice la k lc) l∧(0<k→la=some ⟨g,0,none⟩∧k≤lc∧w.heap.size≤g∧Sg wr g l))) (fun _ _ q _=>k-(intOf q).toNat)
  case atStart=>exact⟨0,Nat.zero_le _,rfl,H8⟩
  case round =>
   clear H8
   obtain⟨j,hj,rfl,hI⟩:=hrel
   obtain⟨⟨c0,c1⟩,hK,hbw,hss,hg⟩:=hI.out
   by_cases hlt:j<k
   ·obtain⟨rfl,hkc,hwg,hsg⟩:=hg (by omega)
    have hjl:j<l.length:=by rw [HLK.out];exact hlt
    obtain⟨cur,hgc,hcs⟩:=id hsg
    obtain⟨y0,dv,y1,hrx⟩:=hcs j hjl
    have z0:wr.cell? ⟨g,j*2,none⟩=some (.int .i64 l[j].1):=by
     rw [(cell_in hgc).1];exact y0
    have z1:wr.cell? ⟨g,j*2+1,none⟩=some dv:=by
     rw [(cell_in hgc).1];exact y1
    have f1:wr.frozen? ⟨g,j*2+1,none⟩=false:=(cell_in hgc).2
    have lg:g<wr.heap.size:=lt_of_block hgc
    obtain⟨m,hm⟩:∃ m,l[j].2.length=m:=⟨_,rfl⟩
    obtain⟨da,dc,rfl,-⟩:=hrx.1.form hm
    have hml:=HDT.out _ (List.getElem_mem hjl)
    obtain⟨kk,hkk⟩:∃ kk,l[j].1=kk:=⟨_,rfl⟩
    rw [hkk] at z0
    have bn:=bnew wr (.cells #[.int .i64 kk,.slice da m dc] 199)
    have HCL:=Lib.hid (callsIn_wide (n:=6-1).2 (bclone_at (.slice da m dc) l[j].2 (wr.alloc (.cells #[.int .i64 kk,.slice da m dc] 199)) (by omega) (hrx.1.below bn)))
    have HST:=Lib.hid (And.intro hjl (And.intro hsg (And.intro hbw (And.intro hK (And.intro c0 (And.intro c1 (And.intro hm bn)))))))
    have hwl:=hbw.size
    have z1a:(wr.alloc (.cells #[.int .i64 kk,.slice da m dc] 199)).cell? ⟨g,j*2+1,none⟩=some (.slice da m dc):=(bn.cell (p:=⟨g,j*2+1,none⟩) (by exact lg)).trans z1
    have HGC:=Lib.hid (show (wr.alloc (.cells #[.int .i64 kk,.slice da m dc] 199)).heap[g]?=some (Obj.cells cur 199 (0,0)) from (bn.block g lg).trans hgc)
    clear hcs y0 y1 hrx hm hkk bn hI hg hsg hbw hK c0 c1 hss hgc hml
    gi_wp2_with (refine⟨trivial,?_⟩;gi_at_call 151;((with_reducible refine (HCL.out).mono ?_);rintro e w8 ⟨v',rfl,ho8,b8⟩;obtain⟨na,nc,rfl⟩:=owns_slice ho8;have g8:w8.heap[g]?=some (Obj.cells cur 199 (0,0)):=(b8.block g (by simp;omega)).trans HGC.out;have z8:w8.cell? ⟨g,j*2+1,none⟩=some (.slice da m dc):=(b8.cell (p:=⟨g,j*2+1,none⟩) (by show g<_;simp;omega)).trans z1a;have f8:w8.frozen? ⟨g,j*2+1,none⟩=false:=(cell_in g8).2))
    obtain⟨hjl,hsg,hbw,hK,c0,c1,hm,bn⟩:=HST.out
    have hg8:=(hsg.below bn).below b8
    have hrn:Rx g w8 (.slice na l[j].2.length nc) l[j].2:=⟨Rw.own ho8,fun _ e=>by
     have:=own_base ho8 g e
     simp at this
     omega⟩
    have hs9:=hg8.set hjl hrn
    have hdg:D≠g:=fun e=>by
     rw [e] at hK
     have h1:=(b8.block g (by simp;omega)).trans ((bn.block g lg).trans hK)
     rw [g8] at h1
     cases h1
    have hb8:=(hbw.trans (bn.mono hbw.size)).trans (b8.mono (Nat.le_trans hbw.size bn.size))
    have H9:=Lib.hid (show (Boxed (w8.setCell ⟨g,j*2+1,none⟩ (.slice na l[j].2.length nc)) w.heap.size 150 (.slice none 0 0)∧Boxed (w8.setCell ⟨g,j*2+1,none⟩ (.slice na l[j].2.length nc)) (w.heap.size+1) 29 (.int .i64 0))∧(w8.setCell ⟨g,j*2+1,none⟩ (.slice na l[j].2.length nc)).heap[D]?=some (.deferred (some []))∧Below w.heap.size w (w8.setCell ⟨g,j*2+1,none⟩ (.slice na l[j].2.length nc))∧Ss (w8.setCell ⟨g,j*2+1,none⟩ (.slice na l[j].2.length nc)) (.slice (some ⟨g,0,none⟩) k lc) l∧(0<k→(some ⟨g,0,none⟩:Option Addr)=some ⟨g,0,none⟩∧k≤lc∧w.heap.size≤g∧Sg (w8.setCell ⟨g,j*2+1,none⟩ (.slice na l[j].2.length nc)) g l) from
     ⟨⟨box_setg (L14.Boxed.below (L14.Boxed.below c0 bn) b8) g8 (by decide),box_setg (L14.Boxed.below (L14.Boxed.below c1 bn) b8) g8 (by decide)⟩,
      (Below.heap_setCell _ _ _ _ hdg).trans ((b8.block D (Nat.lt_of_lt_of_le (lt_of_block hK) bn.size)).trans ((bn.block D (lt_of_block hK)).trans hK)),hb8.setCell (p:=⟨g,j*2+1,none⟩) hwg _,hs9.ss HLK.out hkc,fun _=>⟨rfl,hkc,hwg,hs9⟩⟩)
    clear hsg hbw hK c0 c1 hm bn hg8 hrn hs9 hb8 ho8 b8
    go_roundw
    case rel=>exact⟨j+1,hlt,by go_num,Lib.hid ⟨H9.out.1,H9.out.2.1,H9.out.2.2.1,H9.out.2.2.2.1,fun h=>⟨trivial,(H9.out.2.2.2.2 h).2⟩⟩⟩
    case measure=>simp [intOf];omega
   ·obtain rfl:j=k:=by omega
    have HI:=Lib.hid (And.intro hK (And.intro hbw hss))
    have f0:=c0.frozen
    have f1:=c1.frozen
    have d0:=c0.cell
    have d1:=c1.cell
    have l0:=c0.lt
    have l1:=c1.lt
    clear hI hK hbw hss hg
    gi_wp2
    have k0:=(c0.set (.slice la j lc)).other (B':=w.heap.size+1) (by omega) (.int .i64 0)
    have k1:=(c1.other (B':=w.heap.size) (by omega) (.slice la j lc)).set (.int .i64 0)
    have s9:=ss_box (ss_box HI.out.2.2 c0 (fun c e=>by cases e) (.slice la j lc)) (c1.other (B':=w.heap.size) (by omega) (.slice la j lc)) (fun c e=>by cases e) (.int .i64 0)
    have hb9:=(HI.out.2.1.setCell (p:=⟨w.heap.size,0,none⟩) (Nat.le_refl _) (.slice la j lc)).setCell (p:=⟨w.heap.size+1,0,none⟩) (Nat.le_succ _) (.int .i64 0)
    have hK9:=((KeepsOthers.setCell wr ⟨w.heap.size,0,none⟩ (.slice la j lc)).trans (KeepsOthers.setCell _ ⟨w.heap.size+1,0,none⟩ (.int .i64 0))).same D _ HI.out.1 rfl
    generalize (wr.setCell ⟨w.heap.size,0,none⟩ _).setCell ⟨w.heap.size+1,0,none⟩ _=E at k0 k1 s9 hb9 hK9 ⊢
    refine⟨by simp,.inl ⟨_,_,rfl,run_takeDeferred hK9,?_⟩⟩
    have q0:=(box_putObj k0 (.deferred none) hK9 rfl).cell
    have q1:=(box_putObj k1 (.deferred none) hK9 rfl).cell
    exact⟨.tuple #[.slice la j lc,.int .i64 0],by simp [results,Tryz.results106,go_sem,q0,q1],.inr ⟨HOK.out,la,lc,rfl,ss_put s9 hK9 rfl⟩,hb9.trans (belowK_b (w:=W0) hz E D _ _ hD hK9 rfl rfl)⟩
 case stop =>
  rintro D pre W hD hpp ⟨⟨c0,c1⟩,hnp,hbw⟩ hK
  have hz:w.heap.size≤W0.heap.size:=Nat.le_trans HW1.out.size HBW.out.size
  gi_wp2
  refine⟨by simp,.inl ⟨_,_,rfl,run_takeDeferred hK,?_⟩⟩
  have k0:=(box_putObj c0 (.deferred none) hK rfl).cell
  have k1:=(box_putObj c1 (.deferred none) hK rfl).cell
  refine⟨.tuple #[.slice none 0 0,.int .i64 19],by simp [results,Tryz.results106,go_sem,k0,k1],.inl ⟨fun h=>hnp ?_,rfl⟩,hbw.trans (belowK_b (w:=W0) hz W D _ _ hD hK rfl rfl)⟩
  obtain⟨r,hr⟩:=hpp
  rw [← HRO.out.1 h,← prt_wr,← hr,List.flatten_append]
  exact List.prefix_append _ _
theorem read_at (a:Option Addr) (n c:Nat) (b:List UInt8) (w:World) (hv:Rw eB w (.slice a n c) b) (hb:n≤1000000) :
  Calls Tryz.prog 106 #[.slice a n c] w (RdP b w):=by
 by_cases h1:rdB b
 ·by_cases h2:chkV (rdT b (nS b))=0
  ·by_cases h3:szL (rdT b (nS b))=n
   ·exact read_go a n c b w hv hb h1 h2 h3
   ·exact read_no3 a n c b w hv hb h1 h2 h3
  ·exact read_no2 a n c b w hv hb h1 h2
 ·exact read_no1 a n c b w hv hb h1
end Go.Proofs.YtihiggnglmhggaaGreatDoor.L15
end
