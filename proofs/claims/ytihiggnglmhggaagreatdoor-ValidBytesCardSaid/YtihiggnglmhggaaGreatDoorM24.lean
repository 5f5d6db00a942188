/- Lemmas and walks of L5Renca, L5Rjoin, L16Op: what each theorem states; conditions stand in each theorem. -/
import Derived.Test.YtihiggnglmhggaaGreatDoorM22
import Derived.Deep.Fields
import Derived.Test.YtihiggnglmhggaaGreatDoorL16Ck
set_option maxHeartbeats 4000000
set_option maxRecDepth 100000
section
namespace Go.Proofs.YtihiggnglmhggaaGreatDoor.L5
open Go.RowKit L3 L1 L4
theorem renc_ok (x:Ix) (w:World) (h0:x.err=0) :
  Calls Tryz.prog 52 #[.agg #[.int .i64 x.op,.bool x.reg,.int .i64 x.dst,.int .i64 x.src,.int .i64 x.off,.int .i64 x.imm]] w fun e w'=>∃ v,e=.returned v∧w'.ownsRow w.heap.size 5 1 v x.bytes.length (byL x.bytes)∧Below w.heap.size w w':=by
 have hc:=(chk_ok _ _ _ _ _ _).1 h0
 have hj:ix x.op<86:=frm_lt hc.hop
 have hfm:fm (ix x.op)=x.f:=(frm_fm hj).symm
 have t1:=tab1 _ hj
 have t3:=tab3 _ hj x.reg
 have t4:=tab4 _ hj
 rw [hfm] at t4
 have gd:=hc.gd
 have gs:=hc.gs
 have ro:=hc.ro
 have ha:cdV (ix x.op) x.reg=((UInt8.ofNat (cdV (ix x.op) x.reg % 256).toNat).toNat:Int):=by rw [byte_nat];omega
 have hb:16*(sr (ix x.op)+x.src)+x.dst=((UInt8.ofNat ((16*(x.src+sr (ix x.op))+x.dst) % 256).toNat).toNat:Int):=by rw [byte_nat];omega
 rcases t4.1 with hs|hs
 ·have hl:x.bytes=[UInt8.ofNat (cdV (ix x.op) x.reg % 256).toNat,UInt8.ofNat ((16*(x.src+sr (ix x.op))+x.dst) % 256).toNat]++le 2 (x.off+of (ix x.op))++le 4 (x.imm+im (ix x.op)):=by
   unfold Ix.bytes encL
   rw [if_neg (by omega)]
   simp
  have hn:x.bytes.length=8:=by unfold Ix.bytes;rw [encL_length,if_neg (by omega)]
  rw [hn,hl]
  exact renc_1 x.op x.reg x.dst x.src x.off x.imm x.f w rfl hs _ _ _ _ _ _ ha rfl rfl rfl rfl hb (by omega) (by omega) (by omega) (by omega)
 ·have hl:x.bytes=[UInt8.ofNat (cdV (ix x.op) x.reg % 256).toNat,UInt8.ofNat ((16*(x.src+sr (ix x.op))+x.dst) % 256).toNat]++le 2 (x.off+of (ix x.op))++le 4 (x.imm+im (ix x.op))++le 4 0++le 4 (x.imm / 4294967296):=by
   unfold Ix.bytes encL
   rw [if_pos hs]
   simp [le4_zero]
  have hn:x.bytes.length=16:=by unfold Ix.bytes;rw [encL_length,if_pos hs]
  rw [hn,hl]
  exact renc_2 x.op x.reg x.dst x.src x.off x.imm x.f w rfl hs _ _ _ _ _ _ ha rfl rfl rfl rfl hb (by omega) (by omega) (by omega) (by omega)
theorem bytes_slots (x:Ix) (h0:x.err=0):∃ n:Nat,slo x.f=(n:Int)∧x.bytes.length=8*n∧1≤n∧n≤2:=by
 have hc:=(chk_ok _ _ _ _ _ _).1 h0
 have hj:ix x.op<86:=frm_lt hc.hop
 have hfm:fm (ix x.op)=x.f:=(frm_fm hj).symm
 have t4:=tab4 _ hj
 rw [hfm] at t4
 have hn:x.bytes.length=if slo x.f=2 then 16 else 8:=encL_length _ _ _ _ _ _ _
 rcases t4.1 with h|h
 ·exact⟨1,h,by rw [hn,if_neg (by omega)],by omega,by omega⟩
 ·exact⟨2,h,by rw [hn,if_pos h],by omega,by omega⟩
theorem joinB_snoc (p:List Ix) (x:Ix):joinB (p++[x])=joinB p++x.bytes:=by simp [joinB]
theorem own_src {w:World} {base:Nat} {v:Value} {n:Nat} {l:List UInt8} (h:w.ownsRow base 5 1 v n (byL l)) (hl:0<l.length) :
  ∃ (ad:Addr) (c:Nat),v=.slice (some ad) l.length c∧∀ j u,(byL l)[j]?=some u→w.cell? (ad.add j)=some u:=by
 obtain⟨a,c,rfl,-,-,h3⟩:=own_bytes h
 rcases h3 with rfl|⟨k,o,rfl,hB⟩
 ·simp at hl
 ·exact⟨_,_,rfl,byL_src hB⟩
theorem rjoin_none (a:Option Addr) (cap:Nat) (w:World):Calls Tryz.prog 26 #[.slice a 0 cap] w fun e w'=>∃ v,e=.returned v∧BsAt w' v []∧Below w.heap.size w w':=by
 go_enter Tryz.func26,Tryz.ntmps26
 go_wp2
 refine wp_loop_rounds 1 ?_
 rw [rounds_succ]
 go_wp2
 go_ret
 exact⟨_,rfl,⟨none,0,rfl,Nat.le_refl _,by simp,.inl rfl⟩,Below.refl _ _⟩
theorem rjoin_some (k o n cap:Nat) (xs:List Ix) (w:World) (hn:xs.length=n) (hm:n≤100000) (hi:Inss w k o xs) (h0:∀ x∈xs,x.err=0) :
  Calls Tryz.prog 26 #[.slice (some ⟨k,o,none⟩) n cap] w fun e w'=>∃ v,e=.returned v∧BsAt w' v (joinB xs)∧Below w.heap.size w w':=by
 obtain⟨i0,hi0,hz0,hz1,hz2⟩:=info_parts Tryz.info5
 have HI:=Lib.hid hi
 have HG:=Lib.hid h0
 have HN:=Lib.hid hn
 clear hi h0 hn
 go_enter Tryz.func26,Tryz.ntmps26
 go_wp2
 go_loopw [3,4] (fun b i wr=>∃ (j:Nat) (m:Nat) (l:List UInt8),j≤n∧i=.int .i64 (j:Int)∧wr.ownsRow w.heap.size 5 1 b m (byL l)∧m≤16*j∧Hid (l=joinB (xs.take j))∧Below w.heap.size w wr) (fun _ i _=>n-(intOf i).toNat)
 case atStart=>exact⟨0,0,[],Nat.zero_le _,rfl,World.ownsRow_nil _ _ _ _,by omega,Lib.hid (by simp [joinB]),Below.refl _ _⟩
 case round =>
  obtain⟨j,m,l,hj,rfl,hown,hm16,hL,hB⟩:=hrel
  by_cases hlt:j<n
  ·have hjx:j<xs.length:=by rw [HN.out];exact hlt
   obtain⟨x,hx⟩:∃ x,xs[j]=x:=⟨_,rfl⟩
   have hI:=(HI.out.up hB) j hjx
   rw [hx] at hI
   have a0:=hI 0 _ rfl
   have a1:=hI 1 _ rfl
   have a2:=hI 2 _ rfl
   have a3:=hI 3 _ rfl
   have a4:=hI 4 _ rfl
   have a5:=hI 5 _ rfl
   rw [Nat.add_zero] at a0
   have hlt':(j:Int)<(n:Int):=by omega
   have hg:x.err=0:=by rw [← hx];exact HG.out _ (List.getElem_mem _)
   have HX:=Lib.hid hx
   have HE:=Lib.hid (fun w=>renc_ok x w hg)
   obtain⟨sl,-,hbl,hs1,hs2⟩:=bytes_slots x hg
   have hpos:0<x.bytes.length:=by omega
   have hb16:=bytes_length x
   have hsz:=hB.size
   clear hI hx hg hbl hs1 hs2
   go_wp2_with (first|(go_at_call 52;((with_reducible refine (HE.out _).mono ?_);rintro e w2 ⟨v4,rfl,h4,b4⟩;have hown2:=own_below hown b4;obtain⟨ad,c4,rfl,hsrc⟩:=own_src h4 hpos;have hs4:=b4.size))|(at_builtin;refine wpList_append_own _ rfl _ _ 23 rfl w.heap.size 5 i0 (.int .u8 0) 1 1 Tryz.underlying23 hi0 hz0 hz1 hz2 rfl (by decide) _ m _ rfl hown2 ad x.bytes.length c4 (byL x.bytes) rfl (by rw [byL_len];omega) hsrc (byL_one _) (by unfold maxLen;omega) (by omega) (by omega) ?_;intro v' w3 hown3 hgrow3 _))
   go_roundw
   case rel =>
    have hT:xs.take (j+1)=xs.take j++[x]:=by rw [List.take_succ_eq_append_getElem hjx,HX.out]
    refine⟨j+1,m+x.bytes.length,l++x.bytes,by omega,by go_num,by rw [byL_append];exact hown3,by omega,Lib.hid ?_,(bch hB b4).grown hgrow3 (by omega) (own_base hown)⟩
    rw [hT,hL.out,joinB_snoc]
   case measure=>simp [intOf];omega
  ·have hge:¬ (j:Int)<(n:Int):=by omega
   have hjn:j=n:=by omega
   have HJ:=Lib.hid hjn
   clear hjn
   go_wp2
   have hT:xs.take j=xs:=List.take_of_length_le (by rw [HN.out,HJ.out];exact Nat.le_refl _)
   have hLL:l=joinB xs:=by rw [hL.out,hT]
   rw [hLL] at hown
   go_ret
   exact⟨_,rfl,own_bytes hown,hB⟩
theorem rjoin_at (v:Value) (xs:List Ix) (w:World) (hm:xs.length≤100000) (hv:InAt w v xs) (h0:∀ x∈xs,x.err=0):Calls Tryz.prog 26 #[v] w fun e w'=>∃ v,e=.returned v∧BsAt w' v (joinB xs)∧Below w.heap.size w w':=by
 obtain⟨a,cap,rfl,h⟩:=hv
 rcases h with rfl|⟨k,o,rfl,h⟩
 ·exact rjoin_none a cap w
 ·exact rjoin_some k o _ cap xs w rfl hm h h0
end Go.Proofs.YtihiggnglmhggaaGreatDoor.L5
end
section
namespace Go.Proofs.YtihiggnglmhggaaGreatDoor.L16
open Go.ChangeShapes Go.WideShapes Go.ChangeAt Go.RowKit Go.Deep L14 L15
open L13 (Ob)
attribute [local go_sem] Oper.semAt_some
section
variable {H:Type} {enc:TypeId × Value→H} {W:World} {base:Nat} {sp:Nat→Bool} {held:Bool}
structure OW (o:Ob):Prop where
 m:o.maps.length≤8796093022208
 c:o.code.length≤maxLen
 r:o.rels.length≤8796093022208
 z:∀ d∈o.maps,d.nm.size≤maxLen
end
end Go.Proofs.YtihiggnglmhggaaGreatDoor.L16
end
