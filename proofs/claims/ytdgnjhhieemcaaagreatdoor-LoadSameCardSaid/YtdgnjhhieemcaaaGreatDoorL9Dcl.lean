/- What the program's declaration returns, for the tokens behind the word map. Condition: memory holds the tokens, and the tables read as the program's text lays them. -/
import Derived.Test.YtdgnjhhieemcaaaGreatDoorM16
set_option maxRecDepth 100000
set_option maxHeartbeats 4000000
namespace Go.Proofs.YtdgnjhhieemcaaaGreatDoor.L9
open Go.RowKit
attribute [local go_sem] Oper.semAt_some
abbrev dfA (d:Df):Array Value:=#[.string d.nm,.int .i64 d.key,.int .i64 d.val,.int .i64 d.ent]
abbrev dfZ:Array Value:=#[.string ⟨#[]⟩,.int .i64 0,.int .i64 0,.int .i64 0]
def upB (g n:Int):Bool:=decide (1≤n) && decide (n≤g)
theorem upTo_at (g n:Int) (b:Bool) (w:World) (h:upB g n=b):Calls Tryz.prog 258 #[.int .i64 g,.int .i64 n] w fun e w'=>e=.returned (.bool b)∧w=w':=by
 subst h
 unfold upB
 go_enter Tryz.func258,Tryz.ntmps258
 go_wp2
 all_goals
  go_ret
  exact⟨L2.ret_bool (by simp;try omega),rfl⟩
theorem siz_up (d:Df):sizV d=(upB 64 d.key && upB 256 d.val && upB 1024 d.ent):=by
 unfold sizV upB
 simp only [Bool.and_assoc]
def dcV (ts:List ByteArray):Df × Int :=
 if shpB ts≠⟨#[119,119,119,119]⟩ then (Df.z,2)
 else if naV (g0 ts 0)≠0 then (Df.z,7)
 else if nuE (g0 ts 1) (g0 ts 2) (g0 ts 3)≠0 then (Df.z,nuE (g0 ts 1) (g0 ts 2) (g0 ts 3))
 else if sizV (dfV ts)=false then (Df.z,9)
 else (dfV ts,0)
theorem naV_two (t:ByteArray):(naV t=0∧L2.vd t=true)∨(naV t=7∧L2.vd t=false):=by
 unfold naV
 cases L2.vd t
 ·exact .inr ⟨rfl,rfl⟩
 ·exact .inl ⟨rfl,rfl⟩
theorem decl_shape (v:Value) (xs:L8.Tks) (hm:xs.length≤100000) (hxt:∀ t∈L8.txt xs,L8.TokT t) (w:World) (hv:L8.TksAt w v xs) (hsh:shpB (txs xs)≠⟨#[119,119,119,119]⟩) :
  Calls Tryz.prog 228 #[v] w fun e w'=>e=.returned (.tuple #[.agg dfZ,.int .i64 2])∧Below w.heap.size w w':=by
 have HSH:=Lib.hid (fun (W:World) (hB:Below w.heap.size w W)=>L8.shape8 xs v W hm hxt (hv.below hB))
 obtain⟨S,hS0⟩:∃ S,L8.shB xs=S:=⟨_,rfl⟩
 have t1:(S.toList==([119,119,119,119]:List UInt8))=false:=beqt_ne (by rw [← hS0,shp_txs];exact hsh)
 rw [hS0] at HSH
 clear hv hS0 hsh hxt
 go_enter Tryz.func228,Tryz.ntmps228
 go_wp2_with (first|(go_at_call 226;((with_reducible refine (HSH.out _ (L8.bnew _ _)).mono ?_);rintro e w1 ⟨rfl,b1⟩;have hS:=row_up (heap_alloc_last w (.cells dfZ 208)) b1;have B1:=L2.bch (L8.bnew w (.cells dfZ 208)) b1))|(refine wpList_store_row rfl _ _ _ rfl w.heap.size dfZ rfl rfl 208 _ hS (by kernel_rfl) rfl (by simp [Value.oneCell']) ?_))
 have hR:=setRow_heap _ _ _ dfZ _ _ hS
 obtain⟨x0,x1,x2,x3⟩:=cells4 hR
 exact bodyPost_ret (v:=.tuple #[.agg dfZ,.int .i64 2]) (by simp [results,Tryz.results228,go_sem,x0,x1,x2,x3]) rfl ⟨rfl,below_setRow B1 (Nat.le_refl _) _⟩
theorem own_four {w:World} {base e:TypeId} {v:Value} {a b c d:ByteArray} {n:Nat} (hn:n=4) (h:w.ownsRow base e 1 v n (L8.stC [a,b,c,d])):∃ g cap,v=.slice (some ⟨g,0,none⟩) 4 cap∧4≤cap∧base≤g∧g<w.heap.size∧w.cell? ⟨g,0,none⟩=some (.string a)∧w.cell? ⟨g,1,none⟩=some (.string b)∧w.cell? ⟨g,2,none⟩=some (.string c)∧w.cell? ⟨g,3,none⟩=some (.string d):=by
 subst hn
 rcases h.2 with ⟨rfl,h0⟩|⟨g,cap,cur,rfl,hbg,hh,hcp,_,_,_⟩
 ·cases h0
 ·have k:=fun j x (hx:(L8.stC [a,b,c,d])[j]?=some x)=>h.cells (g:=g) rfl j x hx
  refine⟨g,cap,rfl,hcp,hbg,lt_of_block hh,?_,?_,?_,?_⟩
  ·have:=k 0 _ rfl;rwa [L8.add0] at this
  ·have:=k 1 _ rfl;rwa [L8.add0] at this
  ·have:=k 2 _ rfl;rwa [L8.add0] at this
  ·have:=k 3 _ rfl;rwa [L8.add0] at this
theorem four_words {xs:L8.Tks} (hxt:∀ t∈L8.txt xs,L8.TokT t) (hsh:shpB (txs xs)=⟨#[119,119,119,119]⟩):∃ a b c d,txs xs=[a,b,c,d]∧L8.wdX xs=[a,b,c,d]:=by
 have ht:∀ t∈txs xs,L8.TokT t.data.toList:=fun t h=>hxt _ (by unfold L8.txt;unfold txs at h;rw [List.mem_map] at h ⊢;obtain⟨x,hx,rfl⟩:=h;exact⟨x,hx,rfl⟩)
 have hA:=ats_shape (p:=[119,119,119,119]) ht hsh
 obtain⟨a,r1,e1,ha,k1⟩:=ats_cons hA
 obtain⟨b,r2,e2,hb,k2⟩:=ats_cons k1
 obtain⟨c,r3,e3,hc,k3⟩:=ats_cons k2
 obtain⟨d,r4,e4,hd,k4⟩:=ats_cons k3
 have e5:=ats_nil k4
 subst e5 e4 e3 e2
 refine⟨a,b,c,d,e1,?_⟩
 have hw:∀ x∈xs,L8.isW x.1.data.toList=true:=fun x hx=>by
  have:x.1∈txs xs:=by unfold txs;exact List.mem_map_of_mem hx
  rw [e1] at this
  simp only [List.mem_cons,List.not_mem_nil,or_false] at this
  rcases this with h|h|h|h <;> rw [h]
  ·exact (at_w ha).2.2.1
  ·exact (at_w hb).2.2.1
  ·exact (at_w hc).2.2.1
  ·exact (at_w hd).2.2.1
 unfold L8.wdX
 rw [List.filter_eq_self.2 hw]
 exact e1
theorem decl_name (b o n cap:Nat) (xs:L8.Tks) (hn:xs.length=n) (hm:n≤100000) (hxt:∀ t∈L8.txt xs,L8.TokT t) (w:World) (hT:Tab w) (hb:b<w.heap.size) (hcp:n≤cap) (hc:L8.Tksat w b o xs) (hsh:shpB (txs xs)=⟨#[119,119,119,119]⟩) (h1:naV (g0 (txs xs) 0)≠0) :
  Calls Tryz.prog 228 #[.slice (some ⟨b,o,none⟩) n cap] w fun e w'=>e=.returned (.tuple #[.agg dfZ,.int .i64 7])∧Below w.heap.size w w':=by
 have HSH:=Lib.hid (fun (W:World) (hB:Below w.heap.size w W)=>L8.shape8 xs (.slice (some ⟨b,o,none⟩) n cap) W (by omega) hxt (.inl ⟨b,o,cap,by rw [hn],by omega,Nat.lt_of_lt_of_le hb hB.size,hc.below hb hB⟩))
 have HWD:=Lib.hid (fun (W:World) (hB:Below w.heap.size w W)=>L8.words_some b o n cap xs hn hm hxt W (Nat.lt_of_lt_of_le hb hB.size) (hc.below hb hB))
 rw [shp_txs,hsh] at HSH
 obtain⟨t0,t1,t2,t3,et,ew⟩:=four_words hxt hsh
 rw [ew] at HWD
 unfold L8.StP at HWD
 rw [et] at h1
 have h1':naV t0≠0:=h1
 have h2:=hT.lt
 obtain⟨hx,hv⟩:naV t0=7∧L2.vd t0=false:=by
  rcases naV_two t0 with ⟨h,_⟩|h
  ·exact absurd h h1'
  ·exact h
 have HID:=Lib.hid (fun W (hR:L2.Regs W)=>identifier_at t0 W hR eB 7 (by rw [hv];rfl) hx)
 have HT:=Lib.hid hT
 clear h1 h1' et ew hsh hc hxt hx hv hT
 go_enter Tryz.func228,Tryz.ntmps228
 go_wp2_with (first
  | (go_at_call 226;((with_reducible refine (HSH.out _ (L8.bnew _ _)).mono ?_);rintro e w1 ⟨rfl,b1⟩;have hS:=row_up (heap_alloc_last w (.cells dfZ 208)) b1;have B1:=L2.bch (L8.bnew w (.cells dfZ 208)) b1))
  | (go_at_call 256;((with_reducible refine (HWD.out _ B1).mono ?_);rintro e w2 ⟨⟨v,rfl,hown⟩,b2⟩;obtain⟨g,cp,rfl,hcp4,hbg,hgl,d0,d1,d2,d3⟩:=own_four rfl hown;have hS2:=row_up hS b2;have B2:=L2.bch B1 b2;clear hS hown d1 d2 d3))
  | (go_at_call 227;((with_reducible refine (HID.out _ (HT.out.below B2 h2).reg).mono ?_);rintro e w3 ⟨rfl,b3⟩;have hS3:=row_up hS2 b3;have B3:=L2.bch B2 b3;clear hS2 d0))
  | (refine wpList_store_row rfl _ _ _ rfl w.heap.size dfZ rfl rfl 208 _ hS3 (by kernel_rfl) rfl (by simp [Value.oneCell']) ?_))
 have hR:=setRow_heap _ _ _ dfZ _ _ hS3
 obtain⟨x0,x1,x2,x3⟩:=cells4 hR
 exact bodyPost_ret (v:=.tuple #[.agg dfZ,.int .i64 7]) (by simp [results,Tryz.results228,go_sem,x0,x1,x2,x3]) rfl ⟨rfl,below_setRow B3 (Nat.le_refl _) _⟩
def nuR (t0:ByteArray) (v1 x1 v2 x2 v3 x3:Int):Df × Int :=
 if x1≠0 then (Df.z,x1) else if x2≠0 then (Df.z,x2) else if x3≠0 then (Df.z,x3)
 else if sizV ⟨t0,v1,v2,v3⟩=false then (Df.z,9) else (⟨t0,v1,v2,v3⟩,0)
theorem decl_nums (b o n cap:Nat) (xs:L8.Tks) (hn:xs.length=n) (hm:n≤100000) (hxt:∀ t∈L8.txt xs,L8.TokT t) (w:World) (hT:Tab w) (hb:b<w.heap.size) (hcp:n≤cap) (hc:L8.Tksat w b o xs) (hsh:shpB (txs xs)=⟨#[119,119,119,119]⟩) (t0 t1 t2 t3:ByteArray) (ew:L8.wdX xs=[t0,t1,t2,t3]) (hv:L2.vd t0=true) (v1 x1 v2 x2 v3 x3:Int) (hv1:(nuV t1 32).1=v1) (hx1:(nuV t1 32).2=x1) (hv2:(nuV t2 32).1=v2) (hx2:(nuV t2 32).2=x2) (hv3:(nuV t3 32).1=v3) (hx3:(nuV t3 32).2=x3) (d:Df) (er:Int) (hR:nuR t0 v1 x1 v2 x2 v3 x3=(d,er)) :
  Calls Tryz.prog 228 #[.slice (some ⟨b,o,none⟩) n cap] w fun e w'=>e=.returned (.tuple #[.agg (dfA d),.int .i64 er])∧Below w.heap.size w w':=by
 have HSH:=Lib.hid (fun (W:World) (hB:Below w.heap.size w W)=>L8.shape8 xs (.slice (some ⟨b,o,none⟩) n cap) W (by omega) hxt (.inl ⟨b,o,cap,by rw [hn],by omega,Nat.lt_of_lt_of_le hb hB.size,hc.below hb hB⟩))
 have HWD:=Lib.hid (fun (W:World) (hB:Below w.heap.size w W)=>L8.words_some b o n cap xs hn hm hxt W (Nat.lt_of_lt_of_le hb hB.size) (hc.below hb hB))
 rw [shp_txs,hsh] at HSH
 rw [ew] at HWD
 unfold L8.StP at HWD
 have h2:=hT.lt
 have hx:naV t0=0:=by unfold naV;rw [hv];rfl
 have HID:=Lib.hid (fun W (hR:L2.Regs W)=>identifier_at t0 W hR t0 0 (by rw [hv];rfl) hx)
 have HN1:=Lib.hid (fun W (hW:L1.Wid W)=>pnum_at t1 32 W hW v1 x1 hv1 hx1)
 have HN2:=Lib.hid (fun W (hW:L1.Wid W)=>pnum_at t2 32 W hW v2 x2 hv2 hx2)
 have HN3:=Lib.hid (fun W (hW:L1.Wid W)=>pnum_at t3 32 W hW v3 x3 hv3 hx3)
 have hsl:∀ (g cp:Nat),4≤cp→∀ W,(Instr.slice 63 (.slice (some ⟨g,0,none⟩) 4 cp) (some (.int .i64 1)) none none).run Tryz.prog W=.ok (.slice (some ⟨g,1,none⟩) 3 (cp-1)) W:=fun g cp h W=>by
  have:=st_from g 0 4 cp 1 (by omega) h W
  rw [if_neg (by omega)] at this
  simpa using this
 have HSL:=Lib.hid hsl
 have HT:=Lib.hid hT
 have HRR:=Lib.hid hR
 clear ew hsh hc hxt hx hv hT hv1 hx1 hv2 hx2 hv3 hx3 hsl hR
 go_enter Tryz.func228,Tryz.ntmps228
 go_wp2_with (first
  | (go_at_call 226;((with_reducible refine (HSH.out _ (L8.bnew _ _)).mono ?_);rintro e w1 ⟨rfl,b1⟩;have hS:=row_up (heap_alloc_last w (.cells dfZ 208)) b1;have B1:=L2.bch (L8.bnew w (.cells dfZ 208)) b1))
  | (go_at_call 256;((with_reducible refine (HWD.out _ B1).mono ?_);rintro e w2 ⟨⟨v,rfl,hown⟩,b2⟩;obtain⟨g,cp,rfl,hcp4,hbg,hgl,d0,d1,d2,d3⟩:=own_four rfl hown;have hS2:=row_up hS b2;have B2:=L2.bch B1 b2;have hsl:=HSL.out g cp hcp4;have HD:=Lib.hid (And.intro d1 (And.intro d2 d3));clear hS hown d1 d2 d3))
  | (go_at_call 227;((with_reducible refine (HID.out _ (HT.out.below B2 h2).reg).mono ?_);rintro e w3 ⟨rfl,b3⟩;have hS3:=row_up hS2 b3;have B3:=L2.bch B2 b3;clear hS2 d0)))
 have hgl3:g<w3.heap.size:=Nat.lt_of_lt_of_le hgl b3.size
 have e1:w3.cell? ⟨g,1,none⟩=some (.string t1):=(b3.cell (p:=⟨g,1,none⟩) hgl).trans HD.out.1
 have e2:w3.cell? ⟨g,2,none⟩=some (.string t2):=(b3.cell (p:=⟨g,2,none⟩) hgl).trans HD.out.2.1
 have e3:w3.cell? ⟨g,3,none⟩=some (.string t3):=(b3.cell (p:=⟨g,3,none⟩) hgl).trans HD.out.2.2
 have HE:=Lib.hid (And.intro e1 (And.intro e2 e3))
 have hS4:=row_up hS3 (L8.bnew w3 (.cells #[.int .i64 0,.int .i64 0,.int .i64 0] 322))
 have hA4:=heap_alloc_last w3 (.cells #[.int .i64 0,.int .i64 0,.int .i64 0] 322)
 have B4:=L2.bch B3 (L8.bnew w3 (.cells #[.int .i64 0,.int .i64 0,.int .i64 0] 322))
 have hwg:w.heap.size<w3.heap.size:=Nat.lt_of_lt_of_le (Nat.lt_of_lt_of_le (by simp) b1.size) (Nat.le_trans b2.size b3.size)
 clear e1 e2 e3 HD hS3 B3 b3 b2 b1 B1 B2 hsl HSL HSH HWD HID hgl
 go_loopw [33] (fun a wr=>wr.heap[w.heap.size]?=some (.cells dfZ 208)∧Below w.heap.size w wr∧Hid (wr.cell? ⟨g,1,none⟩=some (.string t1)∧wr.cell? ⟨g,2,none⟩=some (.string t2)∧wr.cell? ⟨g,3,none⟩=some (.string t3))∧w3.heap.size<wr.heap.size∧((a=.int .i64 0∧wr.heap[w3.heap.size]?=some (.cells #[.int .i64 0,.int .i64 0,.int .i64 0] 322))∨(a=.int .i64 1∧Hid (x1=0)∧wr.heap[w3.heap.size]?=some (.cells #[.int .i64 v1,.int .i64 0,.int .i64 0] 322))∨(a=.int .i64 2∧Hid (x1=0)∧Hid (x2=0)∧wr.heap[w3.heap.size]?=some (.cells #[.int .i64 v1,.int .i64 v2,.int .i64 0] 322))∨(a=.int .i64 3∧Hid (x1=0)∧Hid (x2=0)∧Hid (x3=0)∧wr.heap[w3.heap.size]?=some (.cells #[.int .i64 v1,.int .i64 v2,.int .i64 v3] 322)))) (fun a _=>3-(intOf a).toNat)
 case atStart=>exact⟨hS4,B4,Lib.hid (And.intro ((L8.bnew w3 _).cell (p:=⟨g,1,none⟩) hgl3 |>.trans HE.out.1) (And.intro ((L8.bnew w3 _).cell (p:=⟨g,2,none⟩) hgl3 |>.trans HE.out.2.1) ((L8.bnew w3 _).cell (p:=⟨g,3,none⟩) hgl3 |>.trans HE.out.2.2))),by simp,.inl ⟨rfl,hA4⟩⟩
 case round =>
  obtain⟨hS,hB,hC,hlt,hst⟩:=hrel
  clear hS4 hA4 B4 HE
  have hTb:=Lib.hid (HT.out.below hB h2)
  have hgr:g<wr.heap.size:=by omega
  have hgq:g≠w3.heap.size:=by omega
  have hqg:w3.heap.size≠g:=by omega
  rcases hst with ⟨rfl,hA⟩|⟨rfl,q1,hA⟩|⟨rfl,q1,q2,hA⟩|⟨rfl,q1,q2,q3,hA⟩
  ·have y:=hC.out.1
   by_cases hx:x1=0
   ·subst hx
    go_wp2_with (go_at_call 257;((with_reducible refine (HN1.out _ hTb.out.wid).mono ?_);rintro e w5 ⟨rfl,b5⟩;have hA3:=row_up hA b5;have hS5:=row_up hS b5;have B5:=L2.bch hB b5;obtain⟨z0,z1,z2⟩:=cells3 hA3;have f:=frozen_all hA3 0;have hs5:=b5.size))
    go_roundw
    case rel=>exact⟨row_other hS5 0 _ (by omega),B5.setCell (p:=⟨w3.heap.size,0,none⟩) (by show w.heap.size≤w3.heap.size;omega) _,Lib.hid ⟨(World.cell?_of_block (Below.heap_setCell _ _ _ g hgq)).trans ((b5.cell (p:=⟨g,1,none⟩) hgr).trans hC.out.1),(World.cell?_of_block (Below.heap_setCell _ _ _ g hgq)).trans ((b5.cell (p:=⟨g,2,none⟩) hgr).trans hC.out.2.1),(World.cell?_of_block (Below.heap_setCell _ _ _ g hgq)).trans ((b5.cell (p:=⟨g,3,none⟩) hgr).trans hC.out.2.2)⟩,by simp [World.setCell];omega,.inr (.inl ⟨by go_num,Lib.hid trivial,row_set hA3 0 _⟩)⟩
    case measure=>simp [intOf]
   ·obtain⟨rfl,rfl⟩:d=Df.z∧er=x1:=by
     have:=HRR.out
     unfold nuR at this
     simp only [hx,ne_eq,not_false_eq_true,if_true] at this
     cases this;exact⟨rfl,rfl⟩
    go_wp2_with (first|(go_at_call 257;((with_reducible refine (HN1.out _ hTb.out.wid).mono ?_);rintro e w5 ⟨rfl,b5⟩;have hS5:=row_up hS b5;have B5:=L2.bch hB b5))|(refine wpList_store_row rfl _ _ _ rfl w.heap.size dfZ rfl rfl 208 _ hS5 (by kernel_rfl) rfl (by simp [Value.oneCell']) ?_))
    have hR:=setRow_heap _ _ _ dfZ _ _ hS5
    obtain⟨k0,k1,k2,k3⟩:=cells4 hR
    exact bodyPost_ret (v:=.tuple #[.agg dfZ,.int .i64 er]) (by simp [results,Tryz.results228,go_sem,k0,k1,k2,k3]) rfl ⟨rfl,below_setRow B5 (Nat.le_refl _) _⟩
  ·have y:=hC.out.2.1
   by_cases hx:x2=0
   ·subst hx
    go_wp2_with (go_at_call 257;((with_reducible refine (HN2.out _ hTb.out.wid).mono ?_);rintro e w5 ⟨rfl,b5⟩;have hA3:=row_up hA b5;have hS5:=row_up hS b5;have B5:=L2.bch hB b5;obtain⟨z0,z1,z2⟩:=cells3 hA3;have f:=frozen_all hA3 1;have hs5:=b5.size))
    go_roundw
    case rel=>exact⟨row_other hS5 1 _ (by omega),B5.setCell (p:=⟨w3.heap.size,1,none⟩) (by show w.heap.size≤w3.heap.size;omega) _,Lib.hid ⟨(World.cell?_of_block (Below.heap_setCell _ _ _ g hgq)).trans ((b5.cell (p:=⟨g,1,none⟩) hgr).trans hC.out.1),(World.cell?_of_block (Below.heap_setCell _ _ _ g hgq)).trans ((b5.cell (p:=⟨g,2,none⟩) hgr).trans hC.out.2.1),(World.cell?_of_block (Below.heap_setCell _ _ _ g hgq)).trans ((b5.cell (p:=⟨g,3,none⟩) hgr).trans hC.out.2.2)⟩,by simp [World.setCell];omega,.inr (.inr (.inl ⟨by go_num,q1,Lib.hid trivial,row_set hA3 1 _⟩))⟩
    case measure=>simp [intOf]
   ·obtain⟨rfl,rfl⟩:d=Df.z∧er=x2:=by
     have:=HRR.out
     unfold nuR at this
     simp only [q1.out,hx,ne_eq,not_true_eq_false,not_false_eq_true,if_true,if_false] at this
     cases this;exact⟨rfl,rfl⟩
    go_wp2_with (first|(go_at_call 257;((with_reducible refine (HN2.out _ hTb.out.wid).mono ?_);rintro e w5 ⟨rfl,b5⟩;have hS5:=row_up hS b5;have B5:=L2.bch hB b5))|(refine wpList_store_row rfl _ _ _ rfl w.heap.size dfZ rfl rfl 208 _ hS5 (by kernel_rfl) rfl (by simp [Value.oneCell']) ?_))
    have hR:=setRow_heap _ _ _ dfZ _ _ hS5
    obtain⟨k0,k1,k2,k3⟩:=cells4 hR
    exact bodyPost_ret (v:=.tuple #[.agg dfZ,.int .i64 er]) (by simp [results,Tryz.results228,go_sem,k0,k1,k2,k3]) rfl ⟨rfl,below_setRow B5 (Nat.le_refl _) _⟩
  ·have y:=hC.out.2.2
   by_cases hx:x3=0
   ·subst hx
    go_wp2_with (go_at_call 257;((with_reducible refine (HN3.out _ hTb.out.wid).mono ?_);rintro e w5 ⟨rfl,b5⟩;have hA3:=row_up hA b5;have hS5:=row_up hS b5;have B5:=L2.bch hB b5;obtain⟨z0,z1,z2⟩:=cells3 hA3;have f:=frozen_all hA3 2;have hs5:=b5.size))
    go_roundw
    case rel=>exact⟨row_other hS5 2 _ (by omega),B5.setCell (p:=⟨w3.heap.size,2,none⟩) (by show w.heap.size≤w3.heap.size;omega) _,Lib.hid ⟨(World.cell?_of_block (Below.heap_setCell _ _ _ g hgq)).trans ((b5.cell (p:=⟨g,1,none⟩) hgr).trans hC.out.1),(World.cell?_of_block (Below.heap_setCell _ _ _ g hgq)).trans ((b5.cell (p:=⟨g,2,none⟩) hgr).trans hC.out.2.1),(World.cell?_of_block (Below.heap_setCell _ _ _ g hgq)).trans ((b5.cell (p:=⟨g,3,none⟩) hgr).trans hC.out.2.2)⟩,by simp [World.setCell];omega,.inr (.inr (.inr ⟨by go_num,q1,q2,Lib.hid trivial,row_set hA3 2 _⟩))⟩
    case measure=>simp [intOf]
   ·obtain⟨rfl,rfl⟩:d=Df.z∧er=x3:=by
     have:=HRR.out
     unfold nuR at this
     simp only [q1.out,q2.out,hx,ne_eq,not_true_eq_false,not_false_eq_true,if_true,if_false] at this
     cases this;exact⟨rfl,rfl⟩
    go_wp2_with (first|(go_at_call 257;((with_reducible refine (HN3.out _ hTb.out.wid).mono ?_);rintro e w5 ⟨rfl,b5⟩;have hS5:=row_up hS b5;have B5:=L2.bch hB b5))|(refine wpList_store_row rfl _ _ _ rfl w.heap.size dfZ rfl rfl 208 _ hS5 (by kernel_rfl) rfl (by simp [Value.oneCell']) ?_))
    have hR:=setRow_heap _ _ _ dfZ _ _ hS5
    obtain⟨k0,k1,k2,k3⟩:=cells4 hR
    exact bodyPost_ret (v:=.tuple #[.agg dfZ,.int .i64 er]) (by simp [results,Tryz.results228,go_sem,k0,k1,k2,k3]) rfl ⟨rfl,below_setRow B5 (Nat.le_refl _) _⟩
  ·obtain⟨z0,z1,z2⟩:=cells3 hA
   have hR:=HRR.out
   simp only [nuR,q1.out,q2.out,q3.out,ne_eq,not_true_eq_false,if_false] at hR
   rw [siz_up] at hR
   obtain⟨u1,hu1⟩:∃ u,upB 64 v1=u:=⟨_,rfl⟩
   obtain⟨u2,hu2⟩:∃ u,upB 256 v2=u:=⟨_,rfl⟩
   obtain⟨u3,hu3⟩:∃ u,upB 1024 v3=u:=⟨_,rfl⟩
   have HU1:=Lib.hid (fun w=>upTo_at 64 v1 u1 w hu1)
   have HU2:=Lib.hid (fun w=>upTo_at 256 v2 u2 w hu2)
   have HU3:=Lib.hid (fun w=>upTo_at 1024 v3 u3 w hu3)
   simp only [hu1,hu2,hu3] at hR
   clear hu1 hu2 hu3 HRR
   have hS6:=row_up hS (L8.bnew wr (.cells #[.string t0,.int .i64 v1,.int .i64 v2,.int .i64 v3] 83))
   have B6:=L2.bch hB (L8.bnew wr (.cells #[.string t0,.int .i64 v1,.int .i64 v2,.int .i64 v3] 83))
   have B7:=hB.size
   cases u1
   ·obtain⟨rfl,rfl⟩:d=Df.z∧er=9:=by simp at hR;exact⟨hR.1.symm,hR.2.symm⟩
    go_wp2_with (first|(go_at_call 258;((with_reducible refine (HU1.out _).mono ?_);rintro e w7 ⟨rfl,rfl⟩))|(go_at_call 258;((with_reducible refine (HU2.out _).mono ?_);rintro e w7 ⟨rfl,rfl⟩))|(go_at_call 258;((with_reducible refine (HU3.out _).mono ?_);rintro e w7 ⟨rfl,rfl⟩))|(refine wpList_store_row rfl _ _ _ rfl w.heap.size dfZ rfl rfl 208 _ hS6 (by kernel_rfl) rfl (by simp [Value.oneCell']) ?_))
    have hR6:=setRow_heap _ _ _ dfZ _ _ hS6
    obtain⟨k0,k1,k2,k3⟩:=cells4 hR6
    exact bodyPost_ret (v:=.tuple #[.agg dfZ,.int .i64 9]) (by simp [results,Tryz.results228,go_sem,k0,k1,k2,k3]) rfl ⟨rfl,below_setRow B6 (Nat.le_refl _) _⟩
   cases u2
   ·obtain⟨rfl,rfl⟩:d=Df.z∧er=9:=by simp at hR;exact⟨hR.1.symm,hR.2.symm⟩
    go_wp2_with (first|(go_at_call 258;((with_reducible refine (HU1.out _).mono ?_);rintro e w7 ⟨rfl,rfl⟩))|(go_at_call 258;((with_reducible refine (HU2.out _).mono ?_);rintro e w7 ⟨rfl,rfl⟩))|(go_at_call 258;((with_reducible refine (HU3.out _).mono ?_);rintro e w7 ⟨rfl,rfl⟩))|(refine wpList_store_row rfl _ _ _ rfl w.heap.size dfZ rfl rfl 208 _ hS6 (by kernel_rfl) rfl (by simp [Value.oneCell']) ?_))
    have hR6:=setRow_heap _ _ _ dfZ _ _ hS6
    obtain⟨k0,k1,k2,k3⟩:=cells4 hR6
    exact bodyPost_ret (v:=.tuple #[.agg dfZ,.int .i64 9]) (by simp [results,Tryz.results228,go_sem,k0,k1,k2,k3]) rfl ⟨rfl,below_setRow B6 (Nat.le_refl _) _⟩
   cases u3
   ·obtain⟨rfl,rfl⟩:d=Df.z∧er=9:=by simp at hR;exact⟨hR.1.symm,hR.2.symm⟩
    go_wp2_with (first|(go_at_call 258;((with_reducible refine (HU1.out _).mono ?_);rintro e w7 ⟨rfl,rfl⟩))|(go_at_call 258;((with_reducible refine (HU2.out _).mono ?_);rintro e w7 ⟨rfl,rfl⟩))|(go_at_call 258;((with_reducible refine (HU3.out _).mono ?_);rintro e w7 ⟨rfl,rfl⟩))|(refine wpList_store_row rfl _ _ _ rfl w.heap.size dfZ rfl rfl 208 _ hS6 (by kernel_rfl) rfl (by simp [Value.oneCell']) ?_))
    have hR6:=setRow_heap _ _ _ dfZ _ _ hS6
    obtain⟨k0,k1,k2,k3⟩:=cells4 hR6
    exact bodyPost_ret (v:=.tuple #[.agg dfZ,.int .i64 9]) (by simp [results,Tryz.results228,go_sem,k0,k1,k2,k3]) rfl ⟨rfl,below_setRow B6 (Nat.le_refl _) _⟩
   obtain⟨rfl,rfl⟩:d=⟨t0,v1,v2,v3⟩∧er=0:=by simp at hR;exact⟨hR.1.symm,hR.2.symm⟩
   go_wp2_with (first|(go_at_call 258;((with_reducible refine (HU1.out _).mono ?_);rintro e w7 ⟨rfl,rfl⟩))|(go_at_call 258;((with_reducible refine (HU2.out _).mono ?_);rintro e w7 ⟨rfl,rfl⟩))|(go_at_call 258;((with_reducible refine (HU3.out _).mono ?_);rintro e w7 ⟨rfl,rfl⟩))|(refine wpList_store_row rfl _ _ _ rfl w.heap.size #[.string t0,.int .i64 v1,.int .i64 v2,.int .i64 v3] rfl rfl 208 _ hS6 (by kernel_rfl) rfl (by simp [Value.oneCell']) ?_))
   have hR6:=setRow_heap _ _ _ #[.string t0,.int .i64 v1,.int .i64 v2,.int .i64 v3] _ _ hS6
   obtain⟨k0,k1,k2,k3⟩:=cells4 hR6
   exact bodyPost_ret (v:=.tuple #[.agg #[.string t0,.int .i64 v1,.int .i64 v2,.int .i64 v3],.int .i64 0]) (by simp [results,Tryz.results228,go_sem,k0,k1,k2,k3]) rfl ⟨rfl,below_setRow B6 (Nat.le_refl _) _⟩
theorem decl_at (b o n cap:Nat) (xs:L8.Tks) (hn:xs.length=n) (hm:n≤100000) (hxt:∀ t∈L8.txt xs,L8.TokT t) (w:World) (hT:Tab w) (hb:b<w.heap.size) (hcp:n≤cap) (hc:L8.Tksat w b o xs) (d:Df) (er:Int) (h:dcV (txs xs)=(d,er)) :
  Calls Tryz.prog 228 #[.slice (some ⟨b,o,none⟩) n cap] w fun e w'=>e=.returned (.tuple #[.agg (dfA d),.int .i64 er])∧Below w.heap.size w w':=by
 unfold dcV at h
 by_cases h1:shpB (txs xs)=⟨#[119,119,119,119]⟩
 ·rw [if_neg (by simpa using h1)] at h
  obtain⟨t0,t1,t2,t3,et,ew⟩:=four_words hxt h1
  by_cases h2:naV (g0 (txs xs) 0)=0
  ·rw [if_neg (by simpa using h2)] at h
   have hv:L2.vd t0=true:=by
    rw [et] at h2
    rcases naV_two t0 with ⟨_,hv⟩|⟨h7,_⟩
    ·exact hv
    ·have:naV t0=0:=h2
     omega
   refine decl_nums b o n cap xs hn hm hxt w hT hb hcp hc h1 t0 t1 t2 t3 ew hv _ _ _ _ _ _ rfl rfl rfl rfl rfl rfl d er ?_
   rw [← h,et]
   unfold nuR nuE
   show _=(if (if (nuV t1 32).2≠0 then (nuV t1 32).2 else if (nuV t2 32).2≠0 then (nuV t2 32).2 else (nuV t3 32).2)≠0 then (Df.z,(if (nuV t1 32).2≠0 then (nuV t1 32).2 else if (nuV t2 32).2≠0 then (nuV t2 32).2 else (nuV t3 32).2)) else if sizV ⟨t0,(nuV t1 32).1,(nuV t2 32).1,(nuV t3 32).1⟩=false then (Df.z,9) else (⟨t0,(nuV t1 32).1,(nuV t2 32).1,(nuV t3 32).1⟩,0))
   by_cases k1:(nuV t1 32).2=0
   ·by_cases k2:(nuV t2 32).2=0
    ·by_cases k3:(nuV t3 32).2=0 <;> simp [k1,k2,k3]
    ·simp [k1,k2]
   ·simp [k1]
  ·rw [if_pos h2] at h
   cases h
   exact decl_name b o n cap xs hn hm hxt w hT hb hcp hc h1 h2
 ·rw [if_pos h1] at h
  cases h
  exact decl_shape _ xs (by omega) hxt w (.inl ⟨b,o,cap,by rw [hn],by omega,hb,hc⟩) h1
end Go.Proofs.YtdgnjhhieemcaaaGreatDoor.L9
