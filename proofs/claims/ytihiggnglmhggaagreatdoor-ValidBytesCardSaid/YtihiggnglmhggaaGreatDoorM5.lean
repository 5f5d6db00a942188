/- Lemmas and walks of L14Mm, L14Lb, L10Opn, L9Rsm, L9Rmem, L5Le, L5Encm: what each theorem states; conditions stand in each theorem. -/
import Derived.WalkSpells
import Derived.Deep.Slices
import Derived.Lib.BytesEntry
import Derived.Test.YtihiggnglmhggaaGreatDoorM12
import Derived.StillTail
set_option maxHeartbeats 4000000
set_option maxRecDepth 100000
section
namespace Go.Proofs.YtihiggnglmhggaaGreatDoor.L14
open Go.RowKit
attribute [local go_sem] Oper.semAt_some
theorem bch {w a b:World} (h:Below w.heap.size w a) (k:Below a.heap.size a b):Below w.heap.size w b:=h.trans (k.mono h.size)
theorem bnew (w:World) (o:Obj):Below w.heap.size w (w.alloc o):=(Below.refl _ _).alloc (Nat.le_refl _) _
theorem bdN {B:Nat} {w w':World} (h:Below B w w') (m:Nat):Below B w (w'.drewN m):=⟨h.1,h.2,h.3,h.4,h.5⟩
theorem add0 (g o j:Nat):(⟨g,o,none⟩:Addr).add j=⟨g,o+j,none⟩:=by
 unfold Addr.add;split <;> simp_all
theorem cell_new (w:World) (v:Value) (t:TypeId):(w.alloc (.cells #[v] t)).cell? ⟨w.heap.size,0,none⟩=some v:=by
 have h:=heap_alloc_new w (.cells #[v] t)
 unfold World.cell?
 simp only [h];rfl
theorem own_below {w w':World} {base e:TypeId} {size:Nat} {v:Value} {n:Nat} {xs:List Value} (h:w.ownsRow base e size v n xs) (hb:Below w.heap.size w w'):w'.ownsRow base e size v n xs:=by
 refine⟨h.1,?_⟩
 rcases h.2 with h|⟨g,cap,cur,hv,hg,hh,r⟩
 ·exact .inl h
 ·exact .inr ⟨g,cap,cur,hv,hg,(hb.block _ (lt_of_block hh)).trans hh,r⟩
theorem txt_ne {a b:ByteArray} (h:¬ a=b):(a.toList==b.toList)=false:=by
 rw [Lib.toList_data,Lib.toList_data,beq_eq_false_iff_ne]
 intro e
 apply h
 cases a;cases b
 simp only [ByteArray.mk.injEq]
 exact Array.toList_inj.1 e
theorem txt_eq {a b:ByteArray} (h:a=b):(a.toList==b.toList)=true:=by
 rw [h];exact beq_self_eq_true _
def mkB (l:List UInt8):ByteArray:=⟨l.toArray⟩
theorem mkB_of (s:ByteArray):mkB s.data.toList=s:=by unfold mkB;rw [Array.toArray_toList]
theorem mkB_list (l:List UInt8):(mkB l).data.toList=l:=by simp [mkB]
theorem mkB_size (l:List UInt8):(mkB l).size=l.length:=by simp [mkB,ByteArray.size]
theorem mkB_inj {a b:List UInt8} (h:mkB a=mkB b):a=b:=by rw [← mkB_list a,h,mkB_list]
abbrev eB (c:UInt8):Value:=.int .u8 (c.toNat:Int)
abbrev eT (t:List UInt8):Value:=.string (mkB t)
abbrev eN (n:Nat):Value:=.int .i64 (n:Int)
theorem byte_ne {c d:UInt8} (h:¬ c=d):((c.toNat:Int)==(d.toNat:Int))=false:=by
 rw [beq_eq_false_iff_ne]
 intro e
 exact h (UInt8.toNat_inj.1 (by omega))
def Rw {α:Type} (enc:α→Value) (w:World) (v:Value) (l:List α):Prop :=
 ∃ a c,v=.slice a l.length c∧l.length≤c∧(a=none→c=0)∧(0<l.length→∃ b o,a=some ⟨b,o,none⟩∧b<w.heap.size∧∀ j,(h:j<l.length)→w.cell? ⟨b,o+j,none⟩=some (enc l[j]))
theorem Rw.below {α:Type} {enc:α→Value} {w w':World} {v:Value} {l:List α} (h:Rw enc w v l) (hb:Below w.heap.size w w'):Rw enc w' v l:=by
 obtain⟨a,c,hv,h1,h2,h3⟩:=h
 refine⟨a,c,hv,h1,h2,fun hp=>?_⟩
 obtain⟨b,o,e,hlt,hc⟩:=h3 hp
 exact⟨b,o,e,Nat.lt_of_lt_of_le hlt hb.size,fun j hj=>(hb.cell (by exact hlt)).trans (hc j hj)⟩
theorem Rw.form {α:Type} {enc:α→Value} {w:World} {v:Value} {l:List α} {n:Nat} (hn:l.length=n) (h:Rw enc w v l):∃ a c,v=.slice a n c∧n≤c∧(a=none→c=0)∧(0<n→∃ b o,a=some ⟨b,o,none⟩∧b<w.heap.size∧∀ j,(h:j<l.length)→w.cell? ⟨b,o+j,none⟩=some (enc l[j])):=by
 subst hn;exact h
theorem Rw.at {α:Type} {enc:α→Value} {w:World} {a:Option Addr} {n c:Nat} {l:List α} (h:Rw enc w (.slice a n c) l):l.length=n∧n≤c∧(a=none→c=0)∧(0<n→∃ b o,a=some ⟨b,o,none⟩∧b<w.heap.size∧∀ j,(h:j<l.length)→w.cell? ⟨b,o+j,none⟩=some (enc l[j])):=by
 obtain⟨a',c',hv,h1,h2,h3⟩:=h
 cases hv
 exact⟨rfl,h1,h2,h3⟩
theorem Rw.nil {α:Type} (enc:α→Value) (w:World):Rw enc w (.slice none 0 0) ([]:List α):=⟨none,0,rfl,Nat.le_refl _,fun _=>rfl,fun h=>absurd h (by simp)⟩
theorem Rw.own {α:Type} {enc:α→Value} {w:World} {B e:TypeId} {v:Value} {l:List α} (h:w.ownsRow B e 1 v l.length (l.map enc)):Rw enc w v l:=by
 rcases h.2 with ⟨rfl,hn⟩|⟨g,cap,cur,rfl,hb,hg,hnc,hcm,hcs,htk⟩
 ·have h0:l=[]:=List.eq_nil_of_length_eq_zero hn
  subst h0
  exact Rw.nil _ _
 ·refine⟨_,_,rfl,by omega,fun h=>(by cases h),fun _=>⟨g,0,rfl,lt_of_block hg,fun j hj=>?_⟩⟩
  have h1:(cur.toList.take (l.length*1))[j]?=some (enc l[j]):=by
   rw [htk];simp [hj]
  rw [List.getElem?_take] at h1
  split at h1
  ·rw [Nat.zero_add]
   simpa [World.cell?,hg] using h1
  ·cases h1
theorem Rw.drop {α:Type} {enc:α→Value} {w:World} {a:Option Addr} {n c:Nat} {l:List α} (h:Rw enc w (.slice a n c) l) (k:Nat) (hk:k≤n):Rw enc w (.slice (if c=k then a else a.map (·.add k)) (n-k) (c-k)) (l.drop k):=by
 obtain⟨h0,h1,h2,h3⟩:=h.at
 refine⟨_,_,by rw [List.length_drop,h0],by rw [List.length_drop];omega,fun e=>?_,fun hp=>?_⟩
 ·split at e
  ·have:=h2 e;omega
  ·have:=h2 (by simpa using e);omega
 ·rw [List.length_drop,h0] at hp
  obtain⟨b,o,rfl,hb,hc⟩:=h3 (by omega)
  rw [if_neg (by omega)]
  refine⟨b,o+k,by simp [add0],hb,fun j hj=>?_⟩
  rw [List.length_drop] at hj
  have:=hc (k+j) (by omega)
  rw [List.getElem_drop,← this,Nat.add_assoc]
theorem Rw.take {α:Type} {enc:α→Value} {w:World} {a:Option Addr} {n c:Nat} {l:List α} (h:Rw enc w (.slice a n c) l) (k:Nat) (hk:k≤n):Rw enc w (.slice a k c) (l.take k):=by
 obtain⟨h0,h1,h2,h3⟩:=h.at
 have hl:(l.take k).length=k:=by rw [List.length_take];omega
 refine⟨_,_,by rw [hl],by omega,h2,fun hp=>?_⟩
 rw [hl] at hp
 obtain⟨b,o,rfl,hb,hc⟩:=h3 (by omega)
 refine⟨b,o,rfl,hb,fun j hj=>?_⟩
 rw [hl] at hj
 rw [hc j (by omega),List.getElem_take]
section
variable {t:TypeId} (ht:Tryz.prog.underlying t=some (.slice (Tryz.prog.elem t))) (hz:∀ w,(Go.sizeOf (Tryz.prog.elem t)).run Tryz.prog w=.ok 1 w) (a:Option Addr)
include t ht hz a
theorem run_from (n c k:Nat) (hk:k≤n) (_:n≤c) (W:World) :
  (Instr.slice t (.slice a n c) (some (.int .i64 (k:Int))) none none).run Tryz.prog W=.ok (.slice (if c=k then a else a.map (·.add k)) (n-k) (c-k)) W:=by
 rw [run_slice_l W t a n c ht .i64 (k:Int) (by omega) (by omega)]
 simp [hz,Result.andThen,sliced]
theorem run_upto (n c k:Nat) (hk:k≤n) (hc:n≤c) (W:World) :
  (Instr.slice t (.slice a n c) none (some (.int .i64 (k:Int))) none).run Tryz.prog W=.ok (.slice a k c) W:=by
 rw [run_slice_h W t a n c ht .i64 (k:Int) (by omega) (by omega)]
 by_cases h:c=0
 ·simp [hz,Result.andThen,sliced,h]
 ·simp [hz,Result.andThen,sliced,h,Addr.add]
theorem run_part (n c k m:Nat) (hk:k≤m) (hm:m≤n) (hc:n≤c) (W:World) :
  (Instr.slice t (.slice a n c) (some (.int .i64 (k:Int))) (some (.int .i64 (m:Int))) none).run Tryz.prog W=.ok (.slice (if c=k then a else a.map (·.add k)) (m-k) (c-k)) W:=by
 rw [run_slice_lh W t a n c ht .i64 .i64 (k:Int) (m:Int) (by omega) (by omega) (by omega)]
 simp [hz,Result.andThen,sliced]
end
theorem size8 (w:World):(Go.sizeOf (Tryz.prog.elem 23)).run Tryz.prog w=.ok 1 w:=by kernel_rfl
theorem und8:Tryz.prog.underlying 23=some (.slice (Tryz.prog.elem 23)):=Tryz.underlying23
theorem conv_at {w:World} {v:Value} {l:List UInt8} (h:Rw eB w v l):(convert 23 9 v).run Tryz.prog w=.ok (.string (mkB l)) w:=by
 obtain⟨a,c,rfl,h1,h2,h3⟩:=h
 by_cases hp:0<l.length
 ·obtain⟨b,o,rfl,hb,hc⟩:=h3 hp
  exact run_convert_bytes_back w 23 9 5 ⟨b,o,none⟩ c l Tryz.underlying23 Tryz.underlying5 Tryz.underlying9 (fun j hj=>by rw [add0];exact hc j hj)
 ·have h0:l=[]:=List.eq_nil_of_length_eq_zero (by omega)
  subst h0
  cases a with
  | none=>exact run_convert_bytes_nil w 23 5 Tryz.underlying23 Tryz.underlying5 _ c 9 Tryz.underlying9
  | some a=>exact run_convert_bytes_back w 23 9 5 a c [] Tryz.underlying23 Tryz.underlying5 Tryz.underlying9 (fun j hj=>by cases hj)
def ixI (l:List UInt8):Int:=match fz l with
 | none=>-1
 | some i=>(i:Int)
theorem ix_is:∀ l:List UInt8,Lib.indexByte l 0=ixI l
 | []=>rfl
 | c::r=>by
  have ih:=ix_is r
  unfold Lib.indexByte ixI fz
  by_cases hc:c=0
  ·rw [if_pos (by simpa using hc),if_pos hc];rfl
  ·rw [if_neg (by simpa using hc),if_neg hc,ih]
   unfold ixI
   cases fz r with
   | none=>rfl
   | some i =>
    simp only [Option.map_some]
    rw [if_neg (by rw [beq_iff_eq];omega)];rfl
theorem run_ix {w:World} {v:Value} {l:List UInt8} (h:Rw eB w v l) (P:Program):(Extern.BytealgIndexByte.indexByte #[v,.int .u8 0]).run P w=.ok (.int .i64 (ixI l)) w:=by
 obtain⟨a,c,rfl,h1,h2,h3⟩:=h
 by_cases hp:0<l.length
 ·obtain⟨b,o,rfl,hb,hc⟩:=h3 hp
  have:=Lib.run_indexByteSlice (P:=P) w b o l.length c (l.map fun x=>(x.toNat:Int)) (by simp) (fun i hi=>by rw [hc i hi];simp [eB,List.getD,hi]) 0
  have e:Lib.bytesOf (l.map fun x=>(x.toNat:Int))=l:=by
   simp [Lib.bytesOf,Function.comp_def]
  rw [e] at this
  rw [← ix_is];exact this
 ·have h0:l=[]:=List.eq_nil_of_length_eq_zero (by omega)
  subst h0
  cases a with
  | none=>exact Lib.run_indexByteNil w _ c 0
  | some a =>
   have hs:=Lib.run_indexByteString (P:=P) .empty 0 w
   exact hs
theorem bix_at (v:Value) (l:List UInt8) (w:World) (h:Rw eB w v l):Calls Tryz.prog 219 #[v,.int .u8 0] w fun e w'=>e=.returned (.int .i64 (ixI l))∧w=w':=by
 have hr:=run_ix h Tryz.prog
 obtain⟨a,c,rfl,-⟩:=h
 go_enter Tryz.func219,Tryz.ntmps219
 go_wp2
 rw [run_callFunc_extern Tryz.func228 (by kernel_rfl) (by kernel_rfl) (by kernel_rfl) (e:=Extern.BytealgIndexByte.indexByte) (by kernel_rfl),hr]
 simp only [Result.andThen]
 rw [Oper.upon_value]
 go_wp2
 go_ret
 exact⟨rfl,rfl⟩
theorem bindex_at (v:Value) (l:List UInt8) (g:Nat) (w:World) (h:Rw eB w v l) (hg:w.cell? ⟨g,0,none⟩=some (.int .u8 0)):Calls Tryz.prog 201 #[v,.slice (some ⟨g,0,none⟩) 1 1] w fun e w'=>e=.returned (.int .i64 (ixI l))∧w=w':=by
 have HI:=Lib.hid (bix_at v l w h)
 obtain⟨a,c,rfl,-⟩:=h
 generalize ixI l=x at HI ⊢
 go_enter Tryz.func201,Tryz.ntmps201
 go_wp2_with (go_at_call 219;((with_reducible refine (HI.out).mono ?_);rintro e w1 ⟨rfl,rfl⟩))
 go_ret
 exact⟨rfl,rfl⟩
theorem ixI_some {l:List UInt8} {i:Nat} (h:fz l=some i):ixI l=(i:Int):=by unfold ixI;rw [h]
theorem ixI_none {l:List UInt8} (h:fz l=none):ixI l=-1:=by unfold ixI;rw [h]
theorem cut_none (a:Option Addr) (n c:Nat) (l:List UInt8) (g:Nat) (w:World) (h:Rw eB w (.slice a n c) l) (hg:w.cell? ⟨g,0,none⟩=some (.int .u8 0)) (hf:fz l=none) :
  Calls Tryz.prog 182 #[.slice a n c,.slice (some ⟨g,0,none⟩) 1 1] w fun e w'=>e=.returned (.tuple #[.slice a n c,.slice none 0 0,.bool false])∧∃ m,w'=w.drewN m:=by
 have HI:=Lib.hid (bindex_at _ l g w h hg)
 rw [ixI_none hf] at HI
 go_enter Tryz.func182,Tryz.ntmps182
 go_wp2_with (go_at_call 201;((with_reducible refine (HI.out).mono ?_);rintro e w1 ⟨rfl,rfl⟩))
 refine bodyPost_ret (v:=.tuple #[.slice a n c,.slice none 0 0,.bool false]) (by simp [results,Tryz.results182,go_sem]) rfl ⟨rfl,0,rfl⟩
theorem cut_some (a:Option Addr) (n c:Nat) (l:List UInt8) (g i:Nat) (w:World) (hn:n≤1000000000) (h:Rw eB w (.slice a n c) l) (hg:w.cell? ⟨g,0,none⟩=some (.int .u8 0)) (hf:fz l=some i) :
  Calls Tryz.prog 182 #[.slice a n c,.slice (some ⟨g,0,none⟩) 1 1] w fun e w'=>(∃ v2,e=.returned (.tuple #[.slice a i c,v2,.bool true]))∧∃ m,w'=w.drewN m:=by
 have HI:=Lib.hid (bindex_at _ l g w h hg)
 rw [ixI_some hf] at HI
 obtain⟨h0,h1,-,-⟩:=h.at
 have hi:=(fz_some hf).1
 have s1:=run_upto und8 size8 a n c i (by omega) h1
 have s2:=run_from und8 size8 a n c (i+1) (by omega) h1
 generalize (if c=i+1 then a else a.map (·.add (i+1)))=a2 at s2
 generalize n-(i+1)=n2 at s2
 generalize c-(i+1)=c2 at s2
 have e1:((i+1:Nat):Int)=(i:Int)+1:=by omega
 rw [e1] at s2
 have hmx:Tryz.prog.follows .mixedOrders=true:=by kernel_rfl
 have hi2:i<1000000000:=by omega
 clear h hf hi h0 e1
 go_enter Tryz.func182,Tryz.ntmps182
 go_upto_region 3 with (go_at_call 201;((with_reducible refine (HI.out).mono ?_);rintro e w1 ⟨rfl,rfl⟩))
 go_quiet (fail)
 go_wp2
 refine bodyPost_ret (v:=.tuple #[.slice a i c,.slice a2 n2 c2,.bool true]) (by simp [results,Tryz.results182,go_sem]) rfl ⟨⟨_,rfl⟩,_,rfl⟩
end Go.Proofs.YtihiggnglmhggaaGreatDoor.L14
end
section
namespace Go.Proofs.YtihiggnglmhggaaGreatDoor.L14
open Go.RowKit
attribute [local go_sem] Oper.semAt_some
theorem bequal_at (v1 v2:Value) (l1 l2:List UInt8) (b:Bool) (w:World) (h1:Rw eB w v1 l1) (h2:Rw eB w v2 l2) (hb:b=true↔l1=l2) :
  Calls Tryz.prog 68 #[v1,v2] w fun e w'=>e=.returned (.bool b)∧w=w':=by
 have k1:=conv_at h1
 have k2:=conv_at h2
 have ht:((mkB l1).toList==(mkB l2).toList)=b:=by
  cases b with
  | true=>exact txt_eq (by rw [hb.1 rfl])
  | false=>exact txt_ne (fun e=>by simpa using hb.2 (mkB_inj e))
 obtain⟨a1,c1,rfl,-⟩:=h1
 obtain⟨a2,c2,rfl,-⟩:=h2
 generalize mkB l1=T1 at k1 ht
 generalize mkB l2=T2 at k2 ht
 generalize l1.length=n1 at k1 ⊢
 generalize l2.length=n2 at k2 ⊢
 clear hb
 go_enter Tryz.func68,Tryz.ntmps68
 go_wp2
 go_ret
 exact⟨rfl,rfl⟩
theorem sixb_at (t:List UInt8) (T:ByteArray) (hT:T=mkB t) (w:World):Calls Tryz.prog 230 #[.string T,.int .u8 0] w fun e w'=>e=.returned (.int .i64 (ixI t))∧w=w':=by
 have hr:=Lib.run_indexByteString (P:=Tryz.prog) T 0
 have e:Lib.indexByte T.data.toList 0=ixI t:=by rw [hT,mkB_list,ix_is]
 go_enter Tryz.func230,Tryz.ntmps230
 go_wp2
 rw [run_callFunc_extern Tryz.func236 (by kernel_rfl) (by kernel_rfl) (by kernel_rfl) (e:=Extern.BytealgIndexByte.indexByte) (by kernel_rfl),Lib.run_indexByteString]
 simp only [Result.andThen]
 rw [Oper.upon_value]
 go_wp2
 go_ret
 exact⟨by rw [← e,hT];rfl,rfl⟩
theorem sindex_at (t:List UInt8) (T:ByteArray) (hT:T=mkB t) (w:World):Calls Tryz.prog 223 #[.string T,.string ⟨#[0]⟩] w fun e w'=>e=.returned (.int .i64 (ixI t))∧w=w':=by
 have HI:=Lib.hid (fun w=>sixb_at t T hT w)
 have hix:∀ w,(Instr.index 9 (.string ⟨#[0]⟩) (.int .i64 0)).run Tryz.prog w=.ok (.int .u8 0) w:=fun w=>by
  rw [run_index_string w 9 ⟨#[0]⟩ .i64 0 Tryz.underlying9,dif_pos (by decide)];rfl
 by_cases hs:T.data.toList=[0]
 ·have hx:ixI t=0:=by
   have:t=[0]:=by rw [← mkB_list t,← hT,hs]
   rw [this];rfl
  have t1:(([0]:List UInt8)==T.toList)=true:=by rw [Lib.toList_data,hs];rfl
  rw [hx]
  clear hs hx HI hT
  go_enter Tryz.func223,Tryz.ntmps223
  go_wp2
  go_ret
  exact⟨rfl,rfl⟩
 ·have t1:(([0]:List UInt8)==T.toList)=false:=by
   rw [Lib.toList_data,beq_eq_false_iff_ne]
   exact fun e=>hs e.symm
  clear hs hT
  generalize ixI t=x at HI ⊢
  go_enter Tryz.func223,Tryz.ntmps223
  go_wp2_with (go_at_call 230;((with_reducible refine (HI.out _).mono ?_);rintro e w1 ⟨rfl,rfl⟩))
  go_ret
  exact⟨rfl,rfl⟩
theorem sindex2_at (t:List UInt8) (T:ByteArray) (hT:T=mkB t) (w:World):Calls Tryz.prog 202 #[.string T,.string ⟨#[0]⟩] w fun e w'=>e=.returned (.int .i64 (ixI t))∧w=w':=by
 have HI:=Lib.hid (fun w=>sindex_at t T hT w)
 generalize ixI t=x at HI ⊢
 clear hT
 go_enter Tryz.func202,Tryz.ntmps202
 go_wp2_with (go_at_call 223;((with_reducible refine (HI.out _).mono ?_);rintro e w1 ⟨rfl,rfl⟩))
 go_ret
 exact⟨rfl,rfl⟩
theorem scont_at (t:List UInt8) (T:ByteArray) (hT:T=mkB t) (b:Bool) (hb:(fz t).isSome=b) (w:World):Calls Tryz.prog 183 #[.string T,.string ⟨#[0]⟩] w fun e w'=>e=.returned (.bool b)∧w=w':=by
 have HI:=Lib.hid (fun w=>sindex2_at t T hT w)
 have h0:decide (0≤ixI t)=b:=by
  rw [← hb]
  unfold ixI
  cases fz t with
  | none=>rfl
  | some i=>simp
 generalize ixI t=x at HI h0
 clear hT hb
 cases b
 ·have h1:¬ (0≤x):=of_decide_eq_false h0
  clear h0
  go_enter Tryz.func183,Tryz.ntmps183
  go_wp2_with (go_at_call 202;((with_reducible refine (HI.out _).mono ?_);rintro e w1 ⟨rfl,rfl⟩))
  go_ret
  exact⟨congrArg Ending.returned (congrArg Value.bool (by simpa using h1)),rfl⟩
 ·have h1:0≤x:=of_decide_eq_true h0
  clear h0
  go_enter Tryz.func183,Tryz.ntmps183
  go_wp2_with (go_at_call 202;((with_reducible refine (HI.out _).mono ?_);rintro e w1 ⟨rfl,rfl⟩))
  go_ret
  exact⟨congrArg Ending.returned (congrArg Value.bool (by simp)),rfl⟩
end Go.Proofs.YtihiggnglmhggaaGreatDoor.L14
end
section
namespace Go.Proofs.YtihiggnglmhggaaGreatDoor.L10
open Go.ChangeShapes Go.WideShapes Go.ChangeAt Go.RowKit Go.Deep
structure DfFit (d:L9.Df):Prop where
 nm:d.nm.size≤maxLen
 key:(Lit.int .i64 d.key).wf=true
 val:(Lit.int .i64 d.val).wf=true
 ent:(Lit.int .i64 d.ent).wf=true
structure SmFit (s:Stm):Prop where
 lb:∀ t∈s.labs,t.size≤maxLen
 tg:s.tg.size≤maxLen
 mp:s.mp.size≤maxLen
 op:(Lit.int .i64 s.x.op).wf=true
 dst:(Lit.int .i64 s.x.dst).wf=true
 src:(Lit.int .i64 s.x.src).wf=true
 off:(Lit.int .i64 s.x.off).wf=true
 imm:(Lit.int .i64 s.x.imm).wf=true
structure PgFit (p:Pg):Prop where
 maps:∀ d∈p.maps,DfFit d
 stmts:∀ s∈p.stmts,SmFit s
theorem cB:Tryz.prog.cellsOf 4=1:=by kernel_rfl
def InAt (w:World) (v:Value) (l:List Int):Prop :=
 (∃ b o cap,v=.slice (some ⟨b,o,none⟩) l.length cap∧b<w.heap.size∧∀ j,(h:j<l.length)→w.cell? ⟨b,o+j,none⟩=some (.int .i64 l[j]))∨(l=[]∧∃ a cap,v=.slice a 0 cap)
theorem cells2p {w:World} {k:Nat} {a b:Value} {t:TypeId} (h:w.heap[k]?=some (.cells #[a,b] t)):w.cell? ⟨k,0,none⟩=some a∧w.cell? ⟨k,1,none⟩=some b:=by
 simp [World.cell?,h]
theorem InAt.below {w w':World} {v:Value} {l:List Int} (h:InAt w v l) (hb:Below w.heap.size w w'):InAt w' v l:=by
 rcases h with ⟨b,o,cap,rfl,hlt,hc⟩|h
 ·exact .inl ⟨b,o,cap,rfl,Nat.lt_of_lt_of_le hlt hb.size,fun j hj=>(hb.cell (by exact hlt)).trans (hc j hj)⟩
 ·exact .inr h
theorem in_form {w:World} {v:Value} {l:List Int} {n:Nat} (hn:l.length=n) (h:InAt w v l):∃ a c,v=.slice a n c∧(0<n→∃ b o,a=some ⟨b,o,none⟩∧b<w.heap.size∧∀ j,(h:j<l.length)→w.cell? ⟨b,o+j,none⟩=some (.int .i64 l[j])):=by
 subst hn
 rcases h with ⟨b,o,cap,rfl,hb,hc⟩|⟨rfl,a,cap,rfl⟩
 ·exact⟨_,_,rfl,fun _=>⟨b,o,rfl,hb,hc⟩⟩
 ·exact⟨a,cap,rfl,fun h=>absurd h (by simp)⟩
section
variable {H:Type} {enc:TypeId × Value→H} {W:World} {base:Nat} {sp:Nat→Bool} {held:Bool}
end
end Go.Proofs.YtihiggnglmhggaaGreatDoor.L10
end
section
namespace Go.Proofs.YtihiggnglmhggaaGreatDoor.L9
open Go.RowKit
attribute [local go_sem] Oper.semAt_some
theorem rsizes_at (d:Df) (b:Bool) (w:World) (h:sizV d=b) :
  Calls Tryz.prog 61 #[.agg #[.string d.nm,.int .i64 d.key,.int .i64 d.val,.int .i64 d.ent]] w fun e w'=>e=.returned (.bool b)∧Below w.heap.size w w':=by
 subst h
 obtain⟨nm,k,v,n⟩:=d
 have b0:=L8.bnew w (.cells #[.string nm,.int .i64 k,.int .i64 v,.int .i64 n] 88)
 go_enter Tryz.func61,Tryz.ntmps61
 go_wp2
 all_goals
  go_ret
  exact⟨L2.ret_bool (by rw [Bool.eq_iff_iff];simp [sizV];try omega),b0⟩
abbrev c6 (op:Int) (reg:Bool) (dst src off imm:Int):Array Value:=#[.int .i64 op,.bool reg,.int .i64 dst,.int .i64 src,.int .i64 off,.int .i64 imm]
end Go.Proofs.YtihiggnglmhggaaGreatDoor.L9
end
section
namespace Go.Proofs.YtihiggnglmhggaaGreatDoor.L5
open Go.RowKit L3 L1 L4
def le:Nat→Int→List UInt8
 | 0,_=>[]
 | n+1,z=>UInt8.ofNat (z % 256).toNat::le n (z / 256)
def va:List UInt8→Int
 | []=>0
 | c::l=>(c.toNat:Int)+256*va l
theorem le_length:∀ (n:Nat) (z:Int),(le n z).length=n
 | 0,_=>rfl
 | n+1,z=>by simp [le,le_length n]
theorem byte_nat (z:Int):((UInt8.ofNat (z % 256).toNat).toNat:Int)=z % 256:=by
 rw [UInt8.toNat_ofNat']
 omega
theorem byte_mk (c:UInt8) (z:Int) (h:z % 256=(c.toNat:Int)):UInt8.ofNat (z % 256).toNat=c:=by
 rw [h]
 simp
theorem emod_256 (z M:Int) (hM:0<M):z % (256*M)=z % 256+256*(z / 256 % M):=by
 have h2:=Int.emod_add_mul_ediv (z / 256) M
 have h3:=Int.emod_nonneg (z / 256) (show M≠0 by omega)
 have h4:=Int.emod_lt_of_pos (z / 256) hM
 have h5:z=(z % 256+256*(z / 256 % M))+(256*M)*(z / 256 / M):=by
  rw [Int.mul_assoc]
  omega
 have h6:((z % 256+256*(z / 256 % M))+(256*M)*(z / 256 / M)) % (256*M)=z % 256+256*(z / 256 % M):=by
  rw [Int.add_mul_emod_self_left,Int.emod_eq_of_lt (by omega) (by omega)]
 rw [← h5] at h6
 exact h6
theorem le_va:∀ (l:List UInt8) (z:Int),z % 256 ^ l.length=va l→le l.length z=l
 | [],_,_=>rfl
 | c::l,z,h=>by
  have hc:=c.toNat_lt
  have e:(256:Int) ^ (l.length+1)=256*256 ^ l.length:=by rw [Int.pow_succ];omega
  have hp:(0:Int)<256 ^ l.length:=Int.pow_pos (by decide)
  simp only [va,List.length_cons,e] at h
  have h1:z % 256=(c.toNat:Int):=by
   have:=emod_256 z _ hp
   omega
  have h2:z / 256 % 256 ^ l.length=va l:=by
   have:z % (256*256 ^ l.length)=z % 256+256*(z / 256 % 256 ^ l.length):=emod_256 z _ hp
   omega
  simp only [le,List.length_cons,byte_mk c z h1,le_va l _ h2]
theorem va_le:∀ (n:Nat) (z:Int),va (le n z)=z % 256 ^ n
 | 0,z=>by simp [le,va,Int.emod_one]
 | n+1,z=>by
  have e:(256:Int) ^ (n+1)=256*256 ^ n:=by rw [Int.pow_succ];omega
  have:z % (256*256 ^ n)=z % 256+256*(z / 256 % 256 ^ n):=emod_256 z _ (Int.pow_pos (by decide))
  simp only [le,va,va_le n,byte_nat,e]
  omega
theorem le_mod {n:Nat} {z y:Int} (h:z % 256 ^ n=y % 256 ^ n):le n z=le n y:=by
 have:=le_va (le n y) z (by rw [le_length,va_le,h])
 rwa [le_length] at this
theorem wrap_i16 (n:Int):IntKind.i16.wrap n=(n+32768) % 65536-32768:=by simp [IntKind.wrap,IntKind.bits,IntKind.signed];omega
def encL (j:Nat) (f:Int) (reg:Bool) (dst src off imm:Int):List UInt8 :=
 UInt8.ofNat (cdV j reg % 256).toNat::UInt8.ofNat ((16*(src+sr j)+dst) % 256).toNat::(le 2 (off+of j)++(le 4 (imm+im j)++if slo f=2 then 0::0::0::0::le 4 (imm / 4294967296) else []))
theorem encL_length (j:Nat) (f:Int) (reg:Bool) (dst src off imm:Int):(encL j f reg dst src off imm).length=if slo f=2 then 16 else 8:=by
 unfold encL
 split <;> simp [le_length]
structure OkI (f:Int) (reg:Bool) (dst src off imm:Int):Prop where
 hop:f≠-1
 hreg:(!reg || f==0 || f==4)=true
 ud:uD f=true∨dst=0
 us:uS f reg=true∨src=0
 uo:uO f=true∨off=0
 ui:uI f reg=true∨imm=0
 gd:0≤dst∧dst≤10
 gs:0≤src∧src≤10
 ro:-32768≤off∧off≤32767
 ri:rng f imm=true
theorem chk_ok (f:Int) (reg:Bool) (dst src off imm:Int):chkF f reg dst src off imm=0↔OkI f reg dst src off imm:=by
 unfold chkF
 constructor
 ·intro h
  simp only [firstBad] at h
  repeat' (split at h)
  all_goals first|(exfalso;revert h;decide)|skip
  rename_i h1 h2 h3 h4 h5 h6 h7
  simp only [Bool.and_eq_true,Bool.or_eq_true,beq_iff_eq,isG,decide_eq_true_eq] at h3 h4 h5 h6
  refine⟨by simpa using h1,h2,h3.1,h3.2,h4.1,h4.2,h5.1,h5.2,?_,h7⟩
  unfold sx at h6
  simp at h6
  omega
 ·intro h
  have h1:(f != -1)=true:=by simpa using h.hop
  have h3:((uD f || dst==0) && (uS f reg || src==0))=true:=by simpa using ⟨h.ud,h.us⟩
  have h4:((uO f || off==0) && (uI f reg || imm==0))=true:=by simpa using ⟨h.uo,h.ui⟩
  have h5:(isG dst && isG src)=true:=by simpa [isG] using ⟨h.gd,h.gs⟩
  have h6:(sx 16 off==off)=true:=by
   have:=h.ro
   unfold sx
   simp
   omega
  simp [firstBad,h1,h.hreg,h3,h4,h5,h6,h.ri]
end Go.Proofs.YtihiggnglmhggaaGreatDoor.L5
end
