/- Lemmas and walks of L17Mp, L17Rl: what each theorem states; conditions stand in each theorem. -/
import Derived.Test.YtdgnjhhieemcaaaGreatDoorM27
import Derived.Test.YtdgnjhhieemcaaaGreatDoorShelfk
import Derived.Test.YtdgnjhhieemcaaaGreatDoorShelfm
set_option maxHeartbeats 8000000
set_option maxRecDepth 100000
section
namespace Go.Proofs.YtdgnjhhieemcaaaGreatDoor.L17
open Go.RowKit Go.Maps Go.Sort Go.Shelf L3 L4 L12 L14
attribute [local go_sem] Oper.semAt_some
theorem lawI:Keyed Tryz.prog 3:=int_keyed Tryz.underlying3
abbrev wfI (s:Int):Prop:=(Lit.int .i64 s).wf=true
theorem wf_in {s:Int} (h0:-1000000000≤s) (h1:s≤1000000000):wfI s:=WalkArith.wf_i64 ⟨by omega,by omega⟩
theorem key_of {s:Int} (h:wfI s):keyOf Tryz.prog 3 (.int .i64 s)=some (.int .i64 s):=keyOf_int_mk Tryz.underlying3 h
abbrev Own (W:World) (g n:Nat) (D:DataW Unit):Prop:=W.ownsMap Tryz.prog 3 (plainElem Tryz.prog 4) g n D
structure MpV (D:DataW Unit) (f:Int→Bool):Prop where
 at':∀ s,wfI s→D.atKey (.int .i64 s) (.lit (.bool false))=.lit (.bool (f s))
 has:∀ s,wfI s→has D (.int .i64 s)=f s
theorem mpv_nil:MpV (.map []) (fun _=>false):=⟨fun _ _=>rfl,fun _ _=>rfl⟩
theorem klit (s:Int):WideAt.IsKeyLit (Lit.int .i64 s):=trivial
theorem lit_ne {a b:Int} (h:a≠b):(Lit.int .i64 a)≠(Lit.int .i64 b):=fun e=>h (by injection e)
theorem MpV.put {D:DataW Unit} {f f':Int→Bool} {k:Int} (h:MpV D f) (hD:IsMap D) (hf:∀ s,f' s=if s=k then true else f s):MpV (D.put (.int .i64 k) (.lit (.bool true))) f':=by
 refine⟨fun s hs=>?_,fun s hs=>?_⟩
 ·rw [hf]
  by_cases e:s=k
  ·subst e
   rw [if_pos rfl,atKey_put_same hD (klit s)]
  ·rw [if_neg e,atKey_put_other (lit_ne e),h.at' s hs]
 ·rw [hf]
  by_cases e:s=k
  ·subst e
   rw [if_pos rfl,has_put_same hD (klit s)]
  ·rw [if_neg e,has_put_other (lit_ne e),h.has s hs]
theorem MpV.del {D:DataW Unit} {f f':Int→Bool} {k:Int} (h:MpV D f) (hf:∀ s,f' s=if s=k then false else f s):MpV (D.del (.int .i64 k)) f':=by
 refine⟨fun s hs=>?_,fun s hs=>?_⟩
 ·rw [hf]
  by_cases e:s=k
  ·subst e
   rw [if_pos rfl,atKey_del_same]
  ·rw [if_neg e,atKey_del_other (lit_ne e),h.at' s hs]
 ·rw [hf]
  by_cases e:s=k
  ·subst e
   rw [if_pos rfl,has_del_same]
  ·rw [if_neg e,has_del_other (lit_ne e),h.has s hs]
theorem MpV.congr {D:DataW Unit} {f f':Int→Bool} (h:MpV D f) (hf:∀ s,f' s=f s):MpV D f':=⟨fun s hs=>by rw [hf];exact h.at' s hs,fun s hs=>by rw [hf];exact h.has s hs⟩
theorem own_below {w w':World} {g n:Nat} {D:DataW Unit} (h:Own w g n D) (hb:Below w.heap.size w w'):Own w' g n D:=h.kept (row:=none) ⟨hb.os,hb.tape,hb.output,hb.size,fun k hk _=>hb.block k hk⟩ (by simp)
theorem keys_mem {W:World} {g n:Nat} {D:DataW Unit} {f:Int→Bool} (hown:Own W g n D) (h:MpV D f) (x:Int):x∈intKeys D↔(wfI x∧f x=true):=by
 have hw:=intKeys_wf hown Tryz.underlying3
 obtain⟨es,rfl,hko⟩:=hown.keysOf
 have hk:∀ p∈es,∃ x,p.1=.int .i64 x:=fun p hp=>by
  obtain⟨v,hv⟩:=hko p hp
  obtain⟨y,_,hy,_⟩:=Maps.keyOf_i64 Tryz.underlying3 hv
  exact⟨y,hy⟩
 have key:wfI x→(x∈intKeys (.map es)↔f x=true):=fun hx=>by
  rw [← h.has x hx,has_eq,List.any_eq_true]
  show x∈es.map (fun p=>Go.intOf p.1)↔_
  rw [List.mem_map]
  constructor
  ·rintro ⟨p,hp,rfl⟩
   obtain⟨a,ha⟩:=hk p hp
   exact⟨p,hp,by rw [ha];simp [Lit.sameKey,Go.intOf]⟩
  ·rintro ⟨p,hp,hs⟩
   obtain⟨a,ha⟩:=hk p hp
   rw [ha] at hs
   exact⟨p,hp,by rw [ha];simpa [Lit.sameKey,Go.intOf] using hs⟩
 exact⟨fun hx=>⟨hw x hx,(key (hw x hx)).1 hx⟩,fun hx=>(key hx.1).2 hx.2⟩
theorem keys_size {W:World} {g n:Nat} {D:DataW Unit} (hown:Own W g n D):(intKeys D).length=Maps.size D:=by
 obtain⟨es,rfl,-⟩:=hown.keysOf
 simp [intKeys,Maps.size]
theorem fmin:∀ (l:List Int) (a:Int),(l.foldl min a=a∨l.foldl min a∈l)∧l.foldl min a≤a∧∀ y∈l,l.foldl min a≤y
 | [],a=>⟨.inl rfl,Int.le_refl _,fun y hy=>by cases hy⟩
 | x::r,a=>by
  obtain⟨h1,h2,h3⟩:=fmin r (min a x)
  rw [List.foldl_cons]
  refine⟨?_,by omega,fun y hy=>?_⟩
  ·rcases h1 with h1|h1
   ·rw [h1]
    by_cases h:a≤x
    ·exact .inl (by omega)
    ·exact .inr (by rw [show min a x=x by omega];exact List.mem_cons_self ..)
   ·exact .inr (List.mem_cons_of_mem _ h1)
  ·rcases List.mem_cons.1 hy with rfl|hy
   ·omega
   ·exact h3 y hy
theorem minOf_is (l:List Int) (h:l≠[]):Lib.minOf l∈l∧∀ y∈l,Lib.minOf l≤y:=by
 cases l with
 | nil=>exact absurd rfl h
 | cons a r =>
  have e:Lib.minOf (a::r)=r.foldl min a:=by simp [Lib.minOf]
  obtain⟨h1,h2,h3⟩:=fmin r a
  rw [e]
  refine⟨?_,fun y hy=>?_⟩
  ·rcases h1 with h1|h1
   ·rw [h1];exact List.mem_cons_self ..
   ·exact List.mem_cons_of_mem _ h1
  ·rcases List.mem_cons.1 hy with rfl|hy
   ·exact h2
   ·exact h3 y hy
theorem keys_at (mb:Option Nat) (w:World):Calls Tryz.prog 140 #[.map mb] w fun e w'=>e=.returned (.func (.func 200) #[] #[.pointer (some ⟨w.heap.size,0,none⟩)])∧w'=w.alloc (.cells #[.map mb] 219) :=
 (callsIn_wide (n:=6)).1 (AnyZI.keys_in Tryz.keys98 Fence.wide 6 trivial rfl mb w)
theorem collect_at (b n k:Nat) (D:DataW Unit) (w:World) (hown:Own w b n D) (hm:Maps.size D≤1000000) (hk:k=w.heap.size) :
  Calls Tryz.prog 139 #[.func (.func 200) #[] #[.pointer (some ⟨k,0,none⟩)]] (w.alloc (.cells #[.map (some b)] 219)) fun e w'=>∃ (v:Value) (ss:List Int),e=.returned v∧ss.Perm (intKeys D) ∧
   w'.ownsRow (w.alloc (.cells #[.map (some b)] 219)).heap.size 3 1 v ss.length (ss.map encZ)∧Below (w.alloc (.cells #[.map (some b)] 219)).heap.size (w.alloc (.cells #[.map (some b)] 219)) w':=by
 subst hk
 have hbl:=hown.lt
 refine (callsIn_wide (n:=6)).1 ?_
 have hseq:SeqGives Fence.wide 4 Tryz.prog 200 #[.pointer (some ⟨w.heap.size,0,none⟩)] encZ (fun ss=>ss.Perm (intKeys D)) (Maps.size D) (w.alloc (.cells #[.map (some b)] 219)) :=
  AnyZI.keys_gives (ρ:=Tryz.keys98_ren) { Tryz.keys98 with } Fence.wide _ trivial rfl (by omega) w.heap.size b n D _ (by simp) (by simp) (by
   obtain⟨es,clock,hb,Ft,hs,hD⟩:=hown
   exact⟨es,clock,(Below.heap_alloc _ _ b hbl).trans hb,Ft,hs,hD⟩)
 refine (AnyZI.collect_in Tryz.coll97 Fence.wide 6 trivial trivial rfl (by omega) 200 #[.pointer (some ⟨w.heap.size,0,none⟩)] trivial (enters_of Tryz.func200 (by kernel_rfl) rfl) _ _ (by unfold maxLen;omega) (by omega) _ hseq).mono ?_
 rintro e w' ⟨v,ss,rfl,hS,hrow,-,hb⟩
 exact⟨v,ss,rfl,hS,hrow,hb⟩
theorem min_at (v:Value) (ss:List Int) (B:TypeId) (w:World) (hrow:w.ownsRow B 3 1 v ss.length (ss.map encZ)) (h0:ss≠[]) (hm:ss.length≤1000000) :
  Calls Tryz.prog 138 #[v] w fun e w'=>e=.returned (.int .i64 (Lib.minOf ss))∧w'=w:=by
 have hp:0<ss.length:=List.length_pos_iff.2 h0
 rcases hrow.2 with ⟨rfl,h⟩|⟨g,cap,cur,rfl,hb,hg,_⟩
 ·omega
 ·have:=Tryz.slices_Min_int g 0 ss.length cap ss w hp (Nat.le_refl _) (by omega) (fun j hj=>by
   have:=hrow.cells (g:=g) rfl j (encZ ss[j]) (by simp [List.getElem?_eq_getElem hj])
   rw [Nat.zero_add]
   rw [L8.add0] at this
   rw [List.getD_eq_getElem?_getD,List.getElem?_eq_getElem hj]
   exact this)
  rw [List.take_length] at this
  exact this
end Go.Proofs.YtdgnjhhieemcaaaGreatDoor.L17
end
section
namespace Go.Proofs.YtdgnjhhieemcaaaGreatDoor.L17
open Go.RowKit Go.Maps Go.Shelf L3 L4 L12 L14
open L13 (Ob)
attribute [local go_sem] Oper.semAt_some
theorem hasR_succ (r:List (Int × Int)) (j:Nat) (h:j<r.length) (s:Int):hasR (r.take (j+1)) s=if s=r[j].1 then true else hasR (r.take j) s:=by
 unfold hasR
 rw [List.take_add_one,List.getElem?_eq_getElem h,List.any_append]
 simp only [Option.toList,List.any_cons,List.any_nil,Bool.or_false]
 by_cases e:s=r[j].1
 ·rw [if_pos e,e];simp
 ·have:(r[j].1==s)=false:=by rw [beq_eq_false_iff_ne];exact fun h=>e h.symm
  rw [if_neg e,this,Bool.or_false]
theorem opS_skip {l:List L9.Ins} {r:List (Int × Int)} {k:Nat} (hd:∀ x∈l,1≤slN x) (hk:k<l.length) (h:isRf (atI l k)=false) (s:Int):opS l r (k+1) s=opS l r k s:=by
 rw [opS_succ l r k s hd hk,if_neg (by rw [h];simp)]
theorem opS_on {l:List L9.Ins} {r:List (Int × Int)} {k:Nat} (hd:∀ x∈l,1≤slN x) (hk:k<l.length) (h:isRf (atI l k)=true) (h0:opS l r k (stN l k:Int)=false) (s:Int):opS l r (k+1) s=if s=(stN l k:Int) then true else opS l r k s:=by
 rw [opS_succ l r k s hd hk]
 by_cases e:s=(stN l k:Int)
 ·subst e;rw [if_pos ⟨h,rfl⟩,if_pos rfl,h0];rfl
 ·rw [if_neg (fun k=>e k.2.symm),if_neg e]
theorem opS_off {l:List L9.Ins} {r:List (Int × Int)} {k:Nat} (hd:∀ x∈l,1≤slN x) (hk:k<l.length) (h:isRf (atI l k)=true) (h0:opS l r k (stN l k:Int)=true) (s:Int):opS l r (k+1) s=if s=(stN l k:Int) then false else opS l r k s:=by
 rw [opS_succ l r k s hd hk]
 by_cases e:s=(stN l k:Int)
 ·subst e;rw [if_pos ⟨h,rfl⟩,if_pos rfl,h0];rfl
 ·rw [if_neg (fun k=>e k.2.symm),if_neg e]
theorem open_none {o:Ob} {l:List L9.Ins} {W:World} {g n:Nat} {D:DataW Unit} (hG:Cg o l) (hown:Own W g n D) (hV:MpV D (opS l o.rels l.length)) (hc:o.code.length≤1000000) (h0:Maps.size D=0):rlV o l=(0,0):=by
 refine rlV_none hG fun s=>?_
 cases h:opS l o.rels l.length s with
 | false=>rfl
 | true =>
  have hin:=opS_in hG h
  have:=(keys_mem hown hV s).2 ⟨wf_in (by omega) (by omega),h⟩
  rw [← keys_size hown] at h0
  rw [List.eq_nil_of_length_eq_zero h0] at this
  cases this
theorem open_some {o:Ob} {l:List L9.Ins} {W:World} {g n:Nat} {D:DataW Unit} {ss:List Int} (hG:Cg o l) (hown:Own W g n D) (hV:MpV D (opS l o.rels l.length)) (hc:o.code.length≤1000000) (hS:ss.Perm (intKeys D)) (h0:ss≠[]):rlV o l=(Lib.minOf ss,18):=by
 obtain⟨h1,h2⟩:=minOf_is ss h0
 refine rlV_some hG ((keys_mem hown hV _).1 (hS.mem_iff.1 h1)).2 fun t ht=>h2 t (hS.mem_iff.2 ((keys_mem hown hV t).2 ⟨?_,ht⟩))
 have hin:=opS_in hG ht
 exact wf_in (by omega) (by omega)
theorem perm_ne {ss:List Int} {W:World} {g n:Nat} {D:DataW Unit} (hown:Own W g n D) (hS:ss.Perm (intKeys D)) (h:¬ Maps.size D=0):ss≠[]:=fun e=>h (by rw [← keys_size hown,← hS.length_eq,e];rfl)
theorem perm_le {ss:List Int} {W:World} {g n:Nat} {D:DataW Unit} (hown:Own W g n D) (hS:ss.Perm (intKeys D)):ss.length≤n:=by rw [hS.length_eq,keys_size hown];exact hown.size_le
theorem relocs_at (kc:Nat) (vm vc vr vl vt:Value) (o:Ob) (l:List L9.Ins) (S E:Int) (w:World) (hA:CkA w kc vm vc vr vl vt l) (hr:L13.RoAt w vr o.rels) (hG:Cg o l) (hm:l.length≤100000) (hm3:o.rels.length≤100000) (hc8:o.code.length≤1000000) (hR:rlV o l=(S,E)) :
  Calls Tryz.prog 101 #[.pointer (some ⟨kc,0,none⟩)] w fun e w'=>e=.returned (.tuple #[.int .i64 S,.int .i64 E])∧Below w.heap.size w w':=by
 have hmm:=@run_makeMap Tryz.prog
 obtain⟨n,hn⟩:∃ n,l.length=n:=⟨_,rfl⟩
 obtain⟨m,hmr⟩:∃ m,o.rels.length=m:=⟨_,rfl⟩
 obtain⟨a,cap,rfl,hc⟩:=is_form hn hA.is
 obtain⟨ta,tc,rfl,ht⟩:=L10.in_form (n:=n) (by rw [stZ_len,hn]) hA.st
 obtain⟨ra,rc,rfl,hrc⟩:=L13.ro_form hmr hr
 rw [hn] at hm
 rw [hmr] at hm3
 have HA:=Lib.hid hA
 have HC:=Lib.hid hc
 have HT:=Lib.hid ht
 have HRC:=Lib.hid hrc
 have HN:=Lib.hid (And.intro hn hmr)
 have HR:=Lib.hid (And.intro hR (And.intro hG hc8))
 have hkw:kc<w.heap.size:=(Array.getElem?_eq_some_iff.1 hA.row).1
 clear hc ht hrc hn hmr hR hG hc8 hr
 obtain⟨x0,x1,x2,x3,x4⟩:=cells5c (L8.row_up hA.row (bnew w (.map #[] 0)))
 clear hA x0 x1
 go_enter Tryz.func101,Tryz.ntmps101
 go_wp2
 clear hmm
 go_loopw [17] (fun i wr=>∃ (j:Nat) (D:DataW Unit),j≤m∧i=.int .i64 (j:Int)∧Own wr w.heap.size j D∧Hid (MpV D (hasR (o.rels.take j))∧Below w.heap.size w wr)) (fun i _=>m-(RowKit.intOf i).toNat)
 case atStart=>exact⟨0,.map [],Nat.zero_le _,rfl,World.ownsMap_made _ _ _ _,Lib.hid ⟨mpv_nil.congr fun _=>rfl,bnew w _⟩⟩
 case round =>
  clear x2 x3 x4
  obtain⟨j,D,hj,rfl,hown,hI⟩:=hrel
  by_cases hlt:j<m
  ·have hjl:j<o.rels.length:=by rw [HN.out.2];exact hlt
   obtain⟨b,of,rfl,hbl,hcc⟩:=HRC.out (by omega)
   obtain⟨q0,q1⟩:=hcc j hjl
   have y0:=(hI.out.2.cell (p:=⟨b,of+j*2,none⟩) (by exact hbl)).trans q0
   have y1:=(hI.out.2.cell (p:=⟨b,of+j*2+1,none⟩) (by exact hbl)).trans q1
   have hrg:=HR.out.2.1.rl _ (List.getElem_mem hjl)
   have hc8:=HR.out.2.2
   have HX:=Lib.hid (fun s=>hasR_succ o.rels j hjl s)
   obtain⟨s1,hs1⟩:∃ z,o.rels[j].1=z:=⟨_,rfl⟩
   obtain⟨s2,hs2⟩:∃ z,o.rels[j].2=z:=⟨_,rfl⟩
   rw [hs1] at y0 HX hrg
   rw [hs2] at y1
   have hkey:=key_of (s:=s1) (wf_in (by omega) (by omega))
   clear hcc q0 q1 hs1 hs2 hrg hc8
   go_wp2_with (first
    | (at_mapUpdate;refine wpList_mapUpdate_own _ rfl _ _ _ 219 rfl 3 4 lawI Tryz.underlying219 (plainElem (H:=Unit) Tryz.prog 4) w.heap.size j _ rfl (hown.alloc _) (by unfold maxLen;omega) _ _ _ rfl rfl hkey _ [] (plainElem_bool Tryz.underlying4 true) ?_;intro w1 hown1 hgrow1)
    | go_in)
   go_roundw
   case rel=>exact⟨j+1,_,hlt,by go_num,hown1,Lib.hid ⟨hI.out.1.put hown.isMap HX.out,(hI.out.2.alloc hI.out.2.size _).grown hgrow1 (by have:=hI.out.2.size;simp;omega) (fun q hq=>by cases hq;exact Nat.le_refl _)⟩⟩
   case measure=>simp [RowKit.intOf];omega
  ·obtain rfl:j=m:=by omega
   obtain⟨z0,z1,z2,z3,z4⟩:=cells5c (HA.out.below hI.out.2).row
   clear z0 z1 z2
   have HI:=Lib.hid (show MpV D (opS l o.rels 0) from hI.out.1.congr fun s=>by rw [opS_zero,← HN.out.2,List.take_length])
   have HB:=Lib.hid hI.out.2
   clear hI
   go_wp2
   go_loopw [30] (fun i wx=>∃ (k:Nat) (D:DataW Unit),k≤n∧i=.int .i64 (k:Int)∧Own wx w.heap.size (j+k) D∧Hid (MpV D (opS l o.rels k)∧Below w.heap.size w wx)) (fun i _=>n-(RowKit.intOf i).toNat)
   case atStart=>exact⟨0,D,Nat.zero_le _,rfl,hown,Lib.hid ⟨HI.out,HB.out⟩⟩
   case round =>
    clear z3 z4 hown HI HB
    obtain⟨k,D,hk,rfl,hown,hI⟩:=hrel
    by_cases hlt2:k<n
    ·have hkl:k<l.length:=by rw [HN.out.1];exact hlt2
     obtain⟨b,of,rfl,hbl,hc⟩:=HC.out (by omega)
     obtain⟨tb,tof,rfl,htl,ht⟩:=HT.out (by omega)
     obtain⟨y0,y1,y2,y3,y4,y5⟩:=(hc k hkl).below hbl hI.out.2
     have HTC:=Lib.hid (fun (W:World) (hW:Below wr.heap.size wr W)=>(((bch hI.out.2 hW).cell (p:=⟨tb,tof+k,none⟩) (by exact htl)).trans (ht k (by rw [stZ_len];exact hkl))).trans (by rw [stZ_get]))
     have HX:=Lib.hid (fun (W:World) (hW:Below wr.heap.size wr W)=>cells5c (HA.out.below (bch hI.out.2 hW)).row)
     have hst:=stN_le l k
     rw [HN.out.1] at hst
     obtain⟨t,htn⟩:∃ t,stN l k=t:=⟨_,rfl⟩
     have hkey:=key_of (s:=(t:Int)) (wf_in (by omega) (by omega))
     have hat:=hI.out.1.at' (t:Int) (wf_in (by omega) (by omega))
     obtain⟨v,hv⟩:∃ v,isRf (atI l k)=v:=⟨_,rfl⟩
     obtain⟨c,hcv⟩:∃ c,opS l o.rels k (t:Int)=c:=⟨_,rfl⟩
     rw [hcv] at hat
     have HV:=Lib.hid (And.intro hv (And.intro htn hcv))
     rw [atI_is hkl] at hv
     obtain⟨x,hx⟩:∃ x,l[k]=x:=⟨_,rfl⟩
     rw [hx] at y0 y1 y2 y3 y4 y5 hv
     rw [htn] at HTC
     have HF:=Lib.hid (fun W=>refers_at x.op x.reg x.dst x.src x.off x.imm v W hv)
     have hlt':(k:Int)<(n:Int):=by omega
     have HST:=Lib.hid hst
     clear hc ht hx hv htn hcv hst
     cases v
     ·go_wp2_with (go_at_call 137;((with_reducible refine (HF.out _).mono ?_);rintro e w1 ⟨rfl,b1⟩;have b2:=bch (bnew wr _) b1))
      go_roundw
      case rel=>exact⟨k+1,D,hlt2,by go_num,(own_below hown b2).mono (by omega),Lib.hid ⟨hI.out.1.congr (opS_skip HR.out.2.1.sl hkl HV.out.1),bch hI.out.2 b2⟩⟩
      case measure=>simp [RowKit.intOf];omega
     ·cases c
      ·go_wp2_with (first
        | (go_at_call 137;((with_reducible refine (HF.out _).mono ?_);rintro e w1 ⟨rfl,b1⟩;have b2:=bch (bnew wr _) b1;have hown1:=own_below hown b2;obtain⟨-,-,-,-,z4⟩:=HX.out _ b2;have z5:=HTC.out _ b2))
        | (at_lookup;refine L2.wpList_look_bool _ rfl _ _ 219 rfl 3 4 lawI Tryz.underlying219 Tryz.underlying4 (by kernel_rfl) w.heap.size (j+k) _ rfl hown1 _ _ rfl hkey false hat ?_)
        | (at_mapUpdate;refine wpList_mapUpdate_own _ rfl _ _ _ 219 rfl 3 4 lawI Tryz.underlying219 (plainElem (H:=Unit) Tryz.prog 4) w.heap.size (j+k) _ rfl hown1 (by unfold maxLen;omega) _ _ _ rfl rfl hkey _ [] (plainElem_bool Tryz.underlying4 true) ?_;intro w2 hown2 hgrow2)
        | go_in)
       go_roundw
       case rel =>
        have h3:=opS_on HR.out.2.1.sl hkl HV.out.1 (by rw [HV.out.2.1];exact HV.out.2.2)
        rw [HV.out.2.1] at h3
        exact⟨k+1,_,hlt2,by go_num,hown2,Lib.hid ⟨hI.out.1.put hown.isMap h3,(bch hI.out.2 b2).grown hgrow2 (bch hI.out.2 b2).size (fun q hq=>by cases hq;exact Nat.le_refl _)⟩⟩
       case measure=>simp [RowKit.intOf];omega
      ·go_wp2_with (first
        | (go_at_call 137;((with_reducible refine (HF.out _).mono ?_);rintro e w1 ⟨rfl,b1⟩;have b2:=bch (bnew wr _) b1;have hown1:=own_below hown b2;obtain⟨-,-,-,-,z4⟩:=HX.out _ b2;have z5:=HTC.out _ b2))
        | (at_lookup;refine L2.wpList_look_bool _ rfl _ _ 219 rfl 3 4 lawI Tryz.underlying219 Tryz.underlying4 (by kernel_rfl) w.heap.size (j+k) _ rfl hown1 _ _ rfl hkey true hat ?_)
        | (at_delete;refine wpList_delete_own _ rfl _ _ 219 3 rfl 4 lawI Tryz.underlying219 _ w.heap.size (j+k) _ rfl hown1 _ _ rfl hkey ?_;intro w2 hown2 hturn2)
        | go_in)
       go_roundw
       case rel =>
        have h3:=opS_off HR.out.2.1.sl hkl HV.out.1 (by rw [HV.out.2.1];exact HV.out.2.2)
        rw [HV.out.2.1] at h3
        exact⟨k+1,_,hlt2,by go_num,hown2.mono (by omega),Lib.hid ⟨hI.out.1.del h3,(bch hI.out.2 b2).grown hturn2.grown (bch hI.out.2 b2).size (fun q hq=>by cases hq;exact Nat.le_refl _)⟩⟩
       case measure=>simp [RowKit.intOf];omega
    ·obtain rfl:k=n:=by omega
     have HV:=Lib.hid (show MpV D (opS l o.rels l.length) by rw [HN.out.1];exact hI.out.1)
     have hsl:=hown.size_le
     by_cases hz:Maps.size D=0
     ·have HE:=Lib.hid (show (S,E)=(0,0) by rw [← HR.out.1];exact open_none HR.out.2.1 hown HV.out HR.out.2.2 hz)
      go_wp2_with (first
       | (at_len;refine wpList_len_own _ rfl _ 219 rfl 3 4 Tryz.underlying219 _ w.heap.size (j+k) _ rfl hown ?_)
       | go_in)
      go_ret2
      cases HE.out
      exact⟨rfl,hI.out.2⟩
     ·have hz':(((Maps.size D:Nat):Int)==0)=false:=by rw [beq_eq_false_iff_ne];omega
      have HZ:=Lib.hid hz
      have HP:=Lib.hid (fun (ss:List Int) (hS:ss.Perm (intKeys D))=>show ss≠[]∧ss.length≤1000000∧(S,E)=(Lib.minOf ss,18) from ⟨perm_ne hown hS HZ.out,by have:=perm_le hown hS;omega,by rw [← HR.out.1];exact open_some HR.out.2.1 hown HV.out HR.out.2.2 hS (perm_ne hown hS HZ.out)⟩)
      clear hz
      go_wp2_with (first
       | (at_len;refine wpList_len_own _ rfl _ 219 rfl 3 4 Tryz.underlying219 _ w.heap.size (j+k) _ rfl hown ?_)
       | (go_at_call 140;((with_reducible refine (keys_at _ _).mono ?_);rintro e w1 ⟨rfl,rfl⟩))
       | (go_at_call 139;((with_reducible refine (collect_at w.heap.size _ _ D wr hown (by omega) rfl).mono ?_);rintro e w2 ⟨v,ss,rfl,hS,hrow,b2⟩;have hp:=HP.out ss hS))
       | (go_at_call 138;((with_reducible refine (min_at _ ss _ _ hrow hp.1 hp.2.1).mono ?_);rintro e w3 ⟨rfl,rfl⟩))
       | go_in)
      go_ret2
      cases hp.2.2
      exact⟨rfl,bch hI.out.2 (bch (bnew wr _) b2)⟩
end Go.Proofs.YtdgnjhhieemcaaaGreatDoor.L17
end
