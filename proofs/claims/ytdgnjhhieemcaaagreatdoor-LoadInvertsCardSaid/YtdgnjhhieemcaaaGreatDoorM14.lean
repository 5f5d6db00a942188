/- Lemmas and walks of L9Rspl, L3Fnd, L8Tok, L8Shw, L5Le: what each theorem states; conditions stand in each theorem. -/
import Derived.Test.YtdgnjhhieemcaaaGreatDoorM1
set_option maxHeartbeats 4000000
set_option maxRecDepth 100000
section
namespace Go.Proofs.YtdgnjhhieemcaaaGreatDoor.L9
open Go.RowKit
attribute [local go_sem] Oper.semAt_some
def txs (xs:L8.Tks):List ByteArray:=xs.map (·.1)
theorem eqb {T:ByteArray} {l:List UInt8} (h:T=⟨l.toArray⟩):(T.toList==l)=true:=by
 rw [h,Lib.toList_data];simp
def Bits (T:ByteArray) (b1 b2 b3 b4 b5:Bool):Prop:=(T.toList==[44])=b1∧(T.toList==[91])=b2∧(T.toList==[93])=b3∧(T.toList==[43])=b4∧(T.toList==[45])=b5
theorem brk_bits (T:ByteArray):(brk T=true∧((T≠tMin∧(Bits T true false false false false∨Bits T false true false false false∨Bits T false false true false false∨Bits T false false false true false))∨(T=tMin∧Bits T false false false false true)))∨(brk T=false∧Bits T false false false false false):=by
 by_cases h:T=tCom
 ·exact .inl ⟨by rw [h];decide,.inl ⟨by rw [h];decide,.inl ⟨by rw [h,Lib.toList_data];rfl,by rw [h,Lib.toList_data];rfl,by rw [h,Lib.toList_data];rfl,by rw [h,Lib.toList_data];rfl,by rw [h,Lib.toList_data];rfl⟩⟩⟩
 have n0:=h
 clear h
 by_cases h:T=tOpn
 ·exact .inl ⟨by rw [h];decide,.inl ⟨by rw [h];decide,.inr (.inl ⟨by rw [h,Lib.toList_data];rfl,by rw [h,Lib.toList_data];rfl,by rw [h,Lib.toList_data];rfl,by rw [h,Lib.toList_data];rfl,by rw [h,Lib.toList_data];rfl⟩)⟩⟩
 have n1:=h
 clear h
 by_cases h:T=tShu
 ·exact .inl ⟨by rw [h];decide,.inl ⟨by rw [h];decide,.inr (.inr (.inl ⟨by rw [h,Lib.toList_data];rfl,by rw [h,Lib.toList_data];rfl,by rw [h,Lib.toList_data];rfl,by rw [h,Lib.toList_data];rfl,by rw [h,Lib.toList_data];rfl⟩))⟩⟩
 have n2:=h
 clear h
 by_cases h:T=tPlu
 ·exact .inl ⟨by rw [h];decide,.inl ⟨by rw [h];decide,.inr (.inr (.inr ⟨by rw [h,Lib.toList_data];rfl,by rw [h,Lib.toList_data];rfl,by rw [h,Lib.toList_data];rfl,by rw [h,Lib.toList_data];rfl,by rw [h,Lib.toList_data];rfl⟩))⟩⟩
 have n3:=h
 clear h
 by_cases h:T=tMin
 ·exact .inl ⟨by rw [h];decide,.inr ⟨h,by rw [h,Lib.toList_data];rfl,by rw [h,Lib.toList_data];rfl,by rw [h,Lib.toList_data];rfl,by rw [h,Lib.toList_data];rfl,by rw [h,Lib.toList_data];rfl⟩⟩
 have n4:=h
 clear h
 exact .inr ⟨by simp [brk,n0,n1,n2,n3,n4],beqt_ne n0,beqt_ne n1,beqt_ne n2,beqt_ne n3,beqt_ne n4⟩
end Go.Proofs.YtdgnjhhieemcaaaGreatDoor.L9
end
section
namespace Go.Proofs.YtdgnjhhieemcaaaGreatDoor.L3
open Go.RowKit Go.Maps
def txt (s:ByteArray):Lit:=.string s.data.toList
theorem txt_inj {a b:ByteArray} (h:txt a=txt b):a=b:=by
 cases a;cases b
 simp only [txt,Lit.string.injEq] at h
 rw [Array.toList_inj.1 h]
def fnd (s:ByteArray):Nat→Int × Bool
 | 0=>(0,false)
 | k+1=>if nm k=s then ((k:Int),true) else fnd s k
def Nm {H:Type}:Nat→DataW H
 | 0=>.map []
 | k+1=>(Nm k).put (txt (nm k)) (.lit (.int .i64 (k:Int)))
theorem Nm_map {H:Type}:∀ k,IsMap (Nm (H:=H) k)
 | 0=>isMap_empty
 | k+1=>(Nm_map k).put _ _
theorem Nm_at {H:Type} (s:ByteArray):∀ k,(Nm (H:=H) k).atKey (txt s) (.lit (.int .i64 0))=.lit (.int .i64 (fnd s k).1)
 | 0=>rfl
 | k+1=>by
  by_cases h:nm k=s
  ·rw [fnd,if_pos h,Nm,← h,atKey_put_same (Nm_map k) (show WideAt.IsKeyLit (txt (nm k)) from trivial)]
  ·rw [fnd,if_neg h,Nm,atKey_put_other (fun e=>h (txt_inj e).symm),Nm_at s k]
theorem Nm_has {H:Type} (s:ByteArray):∀ k,Maps.has (Nm (H:=H) k) (txt s)=(fnd s k).2
 | 0=>rfl
 | k+1=>by
  by_cases h:nm k=s
  ·rw [fnd,if_pos h,Nm,← h,has_put_same (Nm_map k) (show WideAt.IsKeyLit (txt (nm k)) from trivial)]
  ·rw [fnd,if_neg h,Nm,has_put_other (fun e=>h (txt_inj e).symm),Nm_has s k]
theorem owns_below {H:Type} {P:Program} {k:TypeId} {R:Value→Option (DataW H × List MemPlace)} {w w':World} {b n:Nat} {D:DataW H} (h:w.ownsMap P k R b n D) (hb:Below w.heap.size w w'):w'.ownsMap P k R b n D:=by
 have hlt:=h.lt
 obtain⟨es,clock,hh,F,hs,hD⟩:=h
 exact⟨es,clock,(hb.block b hlt).trans hh,F,hs,hD⟩
theorem law9:Keyed Tryz.prog 9:=string_keyed Tryz.underlying9
theorem nm_size (k:Nat):(nm k).size≤maxLen:=by
 have h:∀ k,(nmL.getD k []).length≤8:=by
  intro k
  by_cases hk:k<86
  ·have h2:∀ k,k<86→(nmL.getD k []).length≤8:=by decide +kernel
   exact h2 k hk
  ·rw [List.getD,List.getElem?_eq_none (by have:nmL.length=86:=(by kernel_rfl);omega)]
   exact Nat.zero_le _
 have:=h k
 show (nmL.getD k []).toArray.size≤maxLen
 rw [List.size_toArray]
 unfold maxLen
 omega
theorem numbers_any (w:World):Calls Tryz.prog 277 #[] w fun e w'=>∃ b,e=.returned (.map (some b))∧w'.ownsMap Tryz.prog 9 (plainElem Tryz.prog 3) b 86 (Nm (H:=Unit) 86)∧Below w.heap.size w w':=by
 have hmm:∀ w,(Instr.makeMap 274 (some (.int .i64 86))).run Tryz.prog w=.ok (.map (some w.heap.size)) (w.alloc (.map #[] 0)):=fun w=>by kernel_rfl
 go_enter Tryz.func277,Tryz.ntmps277
 go_wp2
 go_loopw [4] (fun i wr=>∃ k:Nat,k≤86∧i=.int .i64 k∧wr.ownsMap Tryz.prog 9 (plainElem Tryz.prog 3) w.heap.size k (Nm (H:=Unit) k)∧Below w.heap.size w wr) (fun i _=>86-(intOf i).toNat)
 case atStart=>exact⟨0,Nat.zero_le _,rfl,World.ownsMap_made _ _ _ _,bnew _ _⟩
 case round =>
  obtain⟨k,hk,rfl,hown,hnx⟩:=hrel
  by_cases hlt:k<86
  ·obtain⟨s,hs⟩:∃ s,nm (ix (k:Int))=s:=⟨_,rfl⟩
   have hsk:s=nm k:=by rw [← hs,ix_nat hlt]
   have hkey:keyOf Tryz.prog 9 (.string s)=some (txt s):=WideMaps.keyOf_string_mk Tryz.underlying9 (by rw [hsk];exact nm_size k)
   have hwf:(Lit.int .i64 (k:Int)).wf=true:=by
    simp [Lit.wf,IntKind.min,IntKind.max,IntKind.bits,IntKind.signed]
    omega
   have HN:Hid (∀ w:World,Calls Tryz.prog 295 #[.int .i64 (k:Int)] w fun e w'=>e=.returned (.string s)∧Below w.heap.size w w'):=Lib.hid (by intro w;rw [← hs];exact name_any _ w)
   have HK:=Lib.hid hsk
   have HL:=Lib.hid hlt
   clear hs hsk
   go_wp2_with (first
    | (go_at_call 295;((with_reducible refine (HN.out _).mono ?_);rintro e w1 ⟨rfl,hb1⟩))
    | (at_mapUpdate;have hown1:=owns_below hown hb1;refine wpList_mapUpdate_own _ rfl _ _ _ 274 rfl 9 3 law9 Tryz.underlying274 (plainElem (H:=Unit) Tryz.prog 3) w.heap.size k _ rfl hown1 (by unfold maxLen;omega) _ _ _ rfl rfl hkey _ [] (plainElem_int Tryz.underlying3 hwf) ?_;intro w2 hown2 hgrow2)
    | go_in)
   go_roundw
   case rel=>exact⟨k+1,HL.out,by go_num,(by rw [Nm,← HK.out];exact hown2),(bch hnx hb1).grown hgrow2 (bch hnx hb1).size (fun j hj=>by cases hj;exact Nat.le_refl _)⟩
   case measure=>simp [intOf];omega
  ·obtain rfl:k=86:=by omega
   go_wp2
   go_ret
   exact⟨_,rfl,hown,hnx⟩
theorem find_at (s:ByteArray) (hs:s.size≤maxLen) (n:Int) (b:Bool) (w:World) (hn:(fnd s 86).1=n) (hb:(fnd s 86).2=b):Calls Tryz.prog 259 #[.string s] w fun e w'=>e=.returned (.tuple #[.int .i64 n,.bool b])∧Below w.heap.size w w':=by
 have hkey:keyOf Tryz.prog 9 (.string s)=some (txt s):=WideMaps.keyOf_string_mk Tryz.underlying9 hs
 have HN:=Lib.hid hn
 have HB:=Lib.hid hb
 clear hn hb hs
 go_enter Tryz.func259,Tryz.ntmps259
 go_wp2_with (first
  | (go_at_call 277;((with_reducible refine (numbers_any _).mono ?_);rintro e w1 ⟨m,rfl,hown,hb1⟩))
  | (at_lookup;refine wpList_lookup_own_ok_int _ rfl _ _ 274 rfl 9 3 .i64 law9 Tryz.underlying274 Tryz.underlying3 (by kernel_rfl) m 86 _ rfl hown _ _ rfl hkey ?_;intro c hat _;have hc:c=n:=by (rw [Nm_at,HN.out] at hat;cases hat;rfl))
  | go_in)
 go_ret2
 exact⟨by rw [Nm_has,HB.out] <;> rfl,hb1⟩
end Go.Proofs.YtdgnjhhieemcaaaGreatDoor.L3
end
section
namespace Go.Proofs.YtdgnjhhieemcaaaGreatDoor.L8
open Go.RowKit L2
attribute [local go_sem] Oper.semAt_some
theorem Tryz.info300:(Tryz.prog.info? 300).map (fun i=>(i.zero,i.size,i.bytes))=some (some (.agg #[.string ⟨#[]⟩,.int .i64 0]),2,24):=by kernel_rfl
theorem own_iter {w:World} {base e:TypeId} {size:Nat} {v:Value} {n:Nat} {xs:List Value} (h:w.ownsRow base e size v n xs) {k:Nat} (hk:k<base) (s:ByteArray) (pos:Nat):(w.iterAt k s pos).ownsRow base e size v n xs:=by
 refine⟨h.1,?_⟩
 rcases h.2 with h|⟨g,cap,cur,hv,hg,hh,r⟩
 ·exact .inl h
 ·exact .inr ⟨g,cap,cur,hv,hg,(Lib.iterAt_other w k g s pos (by omega)).trans hh,r⟩
theorem iter_below {w w':World} {k:Nat} {s:ByteArray} {pos:Nat} (h:w.heap[k]?=some (.stringIter s pos)) (hb:Below w.heap.size w w'):w'.heap[k]?=some (.stringIter s pos):=(hb.block _ (lt_of_block h)).trans h
theorem iter_grown {w w':World} {k:Nat} {s:ByteArray} {pos:Nat} {row:Option Nat} (h:w.heap[k]?=some (.stringIter s pos)) (hg:w.grownBy w' row) (hr:∀ j,row=some j→k+1≤j):w'.heap[k]?=some (.stringIter s pos) :=
 (hg.block k (lt_of_block h) (fun e=>by have:=hr k e.symm;omega)).trans h
theorem wn_in:∀ (l:List UInt8) (k:Nat) (h:k<l.length),k<wn l→wb l[k]=true
 | c::r,0,_,h=>by
  by_cases hc:wb c=true
  ·exact hc
  ·rw [wn_neg hc] at h;omega
 | c::r,k+1,h,hk=>by
  by_cases hc:wb c=true
  ·rw [wn_pos hc] at hk
   exact wn_in r k (by simpa using h) (by omega)
  ·rw [wn_neg hc] at hk;omega
theorem tokens_any (s:ByteArray) (w:World) (hs:s.size≤100000):Calls Tryz.prog 188 #[.string s] w fun e w'=>PT w s e w':=by
 obtain⟨i0,hi,hz0,hz1,hz2⟩:=info_parts Tryz.info300
 go_enter Tryz.func188,Tryz.ntmps188
 go_wp2
 go_loopw [5,6] (fun b ev wr=>∃ (pre:List (Nat × Nat)) (pos en q m fu:Nat),ev=.int .i64 (en:Int)∧pos≤q∧en≤q∧(q=pos∨q=en)∧q≤s.size∧m≤q∧s.size≤q+fu∧wr.ownsRow (w.heap.size+1) 300 2 b m (tkC s pre)∧wr.heap[w.heap.size]?=some (.stringIter s pos)∧Hid (pre.length=m)∧Hid (∀ k (h:k<s.size),pos≤k→k<en→wb (s[k]'h)=true)∧Hid (tk s.size 0 s.data.toList=(pre++(tk fu q (s.data.toList.drop q)).1,(tk fu q (s.data.toList.drop q)).2))∧Below w.heap.size w wr) (fun _ _ wr=>s.size-wr.iterPos w.heap.size)
 case atStart=>exact⟨[],0,0,0,0,s.size,rfl,by omega,by omega,.inl rfl,by omega,by omega,by omega,World.ownsRow_nil _ _ _ _,heap_alloc_new _ _,Lib.hid rfl,Lib.hid (fun k _ h1 h2=>by omega),Lib.hid (by simp),(Below.refl _ _).alloc (Nat.le_refl _) _⟩
 case round =>
  obtain⟨pre,pos,en,q,m,fu,rfl,h1,h2,h3,h4,h5,h6,hown,hit,hP,hW,hR,hB⟩:=hrel
  have hsz:=hB.size
  by_cases hlt:pos<s.size
  ·obtain⟨d,hd⟩:∃ d,(Utf8.decode s pos).2=d:=⟨_,rfl⟩
   obtain⟨r,hr⟩:∃ r,(Utf8.decode s pos).1=r:=⟨_,rfl⟩
   obtain⟨W1,hW1⟩:∃ W1,W1=wr.iterAt w.heap.size s (pos+d):=⟨_,rfl⟩
   have hnx:∀ ty,(Instr.next (.pointer (some ⟨w.heap.size,0,none⟩)) true ty).run Tryz.prog wr=.ok (.tuple #[.bool true,.int .i64 pos,.int .i32 r]) W1:=fun ty=>by
    rw [hW1,← hr,← hd];exact Lib.run_next_any_at wr _ s pos ty hit hlt
   have hi1:W1.heap[w.heap.size]?=some (.stringIter s (pos+d)):=by rw [hW1];exact Lib.iterAt_heap _ _ _ _ _ hit
   have hB1:Below w.heap.size w W1:=by rw [hW1];exact Lib.below_iterAt hB (Nat.le_refl _) _ _
   have hs1:w.heap.size+1≤W1.heap.size:=by rw [hW1,Lib.iterAt_size];exact lt_of_block hit
   have hown1:=own_iter hown (show w.heap.size<w.heap.size+1 by omega) s (pos+d)
   rw [← hW1] at hown1
   have hP1:=iterPos_of hit
   clear hown hit hB hW1
   obtain⟨c,hc⟩:∃ c,s[pos]'hlt=c:=⟨_,rfl⟩
   have hdc:=decode_cl s pos hlt
   obtain⟨k1,k2,k3⟩:=cl_decode s pos hlt
   rw [hc,hr] at k1 k2 k3
   rw [hc,hd] at hdc
   by_cases hin:pos<en
   ·
    have hw:wb c=true:=by rw [← hc];exact hW.out pos hlt (Nat.le_refl _) hin
    have hd1:d=1:=hdc (.inr (.inr hw))
    subst hd1
    have HI:=Lib.hid hi1
    have HP1:=Lib.hid hP1
    have HP2:=Lib.hid (iterPos_of hi1)
    clear hdc k1 k2 k3 hw hc hd hr hi1 hP1
    have t1:(pos:Int)<(en:Int):=by omega
    go_wp2
    go_roundw
    case rel=>exact⟨pre,pos+1,en,q,m,fu,rfl,by omega,by omega,by omega,by omega,by omega,by omega,hown1,HI.out,hP,Lib.hid (fun k hk a b=>hW.out k hk (by omega) b),hR,hB1⟩
    case measure=>rw [HP1.out,HP2.out];omega
   ·obtain rfl:q=pos:=by omega
    have t1:¬ (q:Int)<(en:Int):=by omega
    obtain⟨fu,rfl⟩:∃ f,fu=f+1:=⟨fu-1,by omega⟩
    have hE:=drop_at s q hlt
    rw [hc] at hE
    have hR1:=hR.out
    rw [hE] at hR1
    cases e1:spc c
    ·cases e2:cmt c
     ·
      obtain⟨T,hT⟩:∃ T,s.extract q s.size=T:=⟨_,rfl⟩
      have hTl:T.data.toList=c::s.data.toList.drop (q+1):=by rw [← hT,ext_rest,hE]
      have hsl:∀ w,(Instr.slice 9 (.string s) (some (.int .i64 (q:Int))) none none).run Tryz.prog w=.ok (.string T) w:=fun w=>by
       rw [run_slice_string_from_if w 9 s .i64 q Tryz.underlying9,if_pos (by omega),← hT];rfl
      obtain⟨n,hn⟩:∃ n,wn (c::s.data.toList.drop (q+1))=n:=⟨_,rfl⟩
      have hnl:q+n≤s.size:=by
       have g1:=wn_le (c::s.data.toList.drop (q+1))
       rw [hn,← hE,List.length_drop,size_list] at g1
       omega
      have HWD:=Lib.hid (fun w=>word_at T (n:Int) w (by rw [hTl,hn]))
      have HS:=Lib.hid (k1.trans e1)
      have HC:=Lib.hid (k2.trans e2)
      by_cases hw:wb c=true
      ·have hp:pun c=false:=((byte_cases c).2.2 hw).1
       have HM:=Lib.hid (k3.trans hp)
       have hd1:d=1:=hdc (.inr (.inr hw))
       subst hd1
       rw [tk_word hw,hn] at hR1
       have hn1:1≤n:=by have:=wn_pos (r:=s.data.toList.drop (q+1)) hw;omega
       have HWI:Hid (∀ k (h:k<s.size),q+1≤k→k<q+n→wb (s[k]'h)=true):=Lib.hid (fun k hk a b=>by
        have g1:=wn_in (c::s.data.toList.drop (q+1)) (k-q) (by rw [← hE,List.length_drop,size_list];omega) (by omega)
        have g2:(c::s.data.toList.drop (q+1))[k-q]'(by rw [← hE,List.length_drop,size_list];omega)=s[k]:=by
         simp only [← hE,List.getElem_drop]
         congr 1;omega
        rw [← g2];exact g1)
       have HD:=Lib.hid (show s.data.toList.drop (q+n)=(c::s.data.toList.drop (q+1)).drop n by rw [← hE,List.drop_drop])
       obtain⟨U,hU⟩:∃ U,s.extract q (q+n)=U:=⟨_,rfl⟩
       have hsu:∀ w,(Instr.slice 9 (.string s) (some (.int .i64 (q:Int))) (some (.int .i64 ((q:Int)+n))) none).run Tryz.prog w=.ok (.string U) w:=fun w=>by
        rw [run_slice_string w 9 s .i64 .i64 q ((q:Int)+n) Tryz.underlying9 (by omega) (by omega) (by omega),← hU];rfl
       have HU:=Lib.hid hU
       have HR1:=Lib.hid hR1
       have HP1:=Lib.hid hP1
       have HR:=Lib.hid hr
       clear hdc k1 k2 k3 hc hd hr hR1 hE hT hTl hn hU e1 e2 hw hp hP1
       have t2:¬ (n:Int)=0:=by omega
       go_wp2_with (first
        | (go_at_call 222;((with_reducible refine (isSpace_at _ false _ HS.out).mono ?_);rintro e w2 ⟨rfl,rfl⟩))
        | (go_at_call 223;((with_reducible refine (isCmt_at _ false _ HC.out).mono ?_);rintro e w2 ⟨rfl,rfl⟩))
        | (go_at_call 224;((with_reducible refine (HWD.out _).mono ?_);rintro e w3 ⟨rfl,b3⟩;have B3:=bch hB1 b3;have hown3:=own_below hown1 b3;have hi3:=iter_below hi1 b3;have hs3:=b3.size))
        | (go_at_call 225;((with_reducible refine (isMark_at _ false _ HM.out).mono ?_);rintro e w4 ⟨rfl,rfl⟩))
        | (at_builtin;refine wpList_append_own _ rfl _ _ 267 rfl (w.heap.size+1) 300 i0 (.agg #[.string ⟨#[]⟩,.int .i64 0]) 2 24 Tryz.underlying267 hi hz0 hz1 hz2 rfl (by decide) _ m _ rfl (hown3.alloc _) ⟨w3.heap.size,0,none⟩ 1 1 [.string U,.int .i64 (q:Int)] rfl rfl (World.news_of_block (cs:=#[.string U,.int .i64 (q:Int)]) (t:=300) (fr:=(0,0)) (heap_alloc_last w3 _)) (by simp [Value.oneCell']) (by unfold maxLen;omega) (by omega) (by simp;omega) ?_;intro v' w5 hown5 hgrow5 _))
       go_roundw
       case rel =>
        have hi4:(w3.alloc (.cells #[.string U,.int .i64 (q:Int)] 300)).heap[w.heap.size]?=some (.stringIter s (q+1)):=iter_below hi3 (bnew _ _)
        refine⟨pre++[(q,q+n)],q+1,q+n,q+n,m+1,fu,by go_num,by omega,by omega,by omega,by omega,by omega,by omega,?_,iter_grown hi4 hgrow5 (own_base hown3),Lib.hid ?_,HWI,Lib.hid ?_,?_⟩
        ·rw [tkC_snoc,HU.out];exact hown5
        ·rw [List.length_append,hP.out];rfl
        ·rw [HR1.out,HD.out];simp
        ·exact (bch B3 (bnew _ _)).grown hgrow5 (by simp;omega) (fun k e=>by have:=own_base hown3 k e;omega)
       case measure =>
        have hi4:(w3.alloc (.cells #[.string U,.int .i64 (q:Int)] 300)).heap[w.heap.size]?=some (.stringIter s (q+1)):=iter_below hi3 (bnew _ _)
        rw [HP1.out,iterPos_of (iter_grown hi4 hgrow5 (own_base hown3))];omega
      ·have hw':wb c=false:=by simpa using hw
       have hn0:n=0:=by rw [← hn];exact wn_neg hw
       subst hn0
       cases hp:pun c
       ·
        have HM:=Lib.hid (k3.trans hp)
        rw [tk_bad e2 e1 hw' hp] at hR1
        have hb:bad s=(q:Int):=by unfold bad;rw [hR1]
        have HB:=Lib.hid hb
        clear hdc k1 k2 k3 hc hd hr hR1 hE hT hTl hn hb e1 e2 hw hw' hp hP1
        go_wp2_with (first
         | (go_at_call 222;((with_reducible refine (isSpace_at _ false _ HS.out).mono ?_);rintro e w2 ⟨rfl,rfl⟩))
         | (go_at_call 223;((with_reducible refine (isCmt_at _ false _ HC.out).mono ?_);rintro e w2 ⟨rfl,rfl⟩))
         | (go_at_call 224;((with_reducible refine (HWD.out _).mono ?_);rintro e w3 ⟨rfl,b3⟩;have B3:=bch hB1 b3))
         | (go_at_call 225;((with_reducible refine (isMark_at _ false _ HM.out).mono ?_);rintro e w4 ⟨rfl,rfl⟩)))
        refine bodyPost_ret (v:=.tuple #[.slice none 0 0,.int .i64 (q:Int),.int .i64 2]) (by simp [results,Tryz.results188,go_sem]) rfl ?_
        exact⟨_,_,_,rfl,B3,.inl ⟨by rw [HB.out];omega,by rw [HB.out],rfl,_,_,rfl⟩⟩
       ·have HM:=Lib.hid (k3.trans hp)
        have hd1:d=1:=hdc (.inr (.inl hp))
        subst hd1
        rw [tk_pun hp] at hR1
        obtain⟨U,hU⟩:∃ U,s.extract q (q+1)=U:=⟨_,rfl⟩
        have hsu:∀ w,(Instr.slice 9 (.string s) (some (.int .i64 (q:Int))) (some (.int .i64 ((q:Int)+1))) none).run Tryz.prog w=.ok (.string U) w:=fun w=>by
         rw [run_slice_string w 9 s .i64 .i64 q ((q:Int)+1) Tryz.underlying9 (by omega) (by omega) (by omega),← hU];rfl
        have HU:=Lib.hid hU
        have HR1:=Lib.hid hR1
        have HP1:=Lib.hid hP1
        clear hdc k1 k2 k3 hc hd hr hR1 hE hT hTl hn hU e1 e2 hw hw' hp hP1
        go_wp2_with (first
         | (go_at_call 222;((with_reducible refine (isSpace_at _ false _ HS.out).mono ?_);rintro e w2 ⟨rfl,rfl⟩))
         | (go_at_call 223;((with_reducible refine (isCmt_at _ false _ HC.out).mono ?_);rintro e w2 ⟨rfl,rfl⟩))
         | (go_at_call 224;((with_reducible refine (HWD.out _).mono ?_);rintro e w3 ⟨rfl,b3⟩;have B3:=bch hB1 b3;have hown3:=own_below hown1 b3;have hi3:=iter_below hi1 b3;have hs3:=b3.size))
         | (go_at_call 225;((with_reducible refine (isMark_at _ true _ HM.out).mono ?_);rintro e w4 ⟨rfl,rfl⟩))
         | (at_builtin;refine wpList_append_own _ rfl _ _ 267 rfl (w.heap.size+1) 300 i0 (.agg #[.string ⟨#[]⟩,.int .i64 0]) 2 24 Tryz.underlying267 hi hz0 hz1 hz2 rfl (by decide) _ m _ rfl (hown3.alloc _) ⟨w3.heap.size,0,none⟩ 1 1 [.string U,.int .i64 (q:Int)] rfl rfl (World.news_of_block (cs:=#[.string U,.int .i64 (q:Int)]) (t:=300) (fr:=(0,0)) (heap_alloc_last w3 _)) (by simp [Value.oneCell']) (by unfold maxLen;omega) (by omega) (by simp;omega) ?_;intro v' w5 hown5 hgrow5 _))
        go_roundw
        case rel =>
         have hi4:(w3.alloc (.cells #[.string U,.int .i64 (q:Int)] 300)).heap[w.heap.size]?=some (.stringIter s (q+1)):=iter_below hi3 (bnew _ _)
         refine⟨pre++[(q,q+1)],q+1,q+1,q+1,m+1,fu,by go_num,by omega,by omega,by omega,by omega,by omega,by omega,?_,iter_grown hi4 hgrow5 (own_base hown3),Lib.hid ?_,Lib.hid (fun k _ a b=>by omega),Lib.hid ?_,?_⟩
         ·rw [tkC_snoc,HU.out];exact hown5
         ·rw [List.length_append,hP.out];rfl
         ·rw [HR1.out];simp
         ·exact (bch B3 (bnew _ _)).grown hgrow5 (by simp;omega) (fun k e=>by have:=own_base hown3 k e;omega)
        case measure =>
         have hi4:(w3.alloc (.cells #[.string U,.int .i64 (q:Int)] 300)).heap[w.heap.size]?=some (.stringIter s (q+1)):=iter_below hi3 (bnew _ _)
         rw [HP1.out,iterPos_of (iter_grown hi4 hgrow5 (own_base hown3))];omega
     ·
      have HS:=Lib.hid (k1.trans e1)
      have HC:=Lib.hid (k2.trans e2)
      rw [tk_cmt e2] at hR1
      have hb:bad s=-1:=by unfold bad;rw [hR1]
      have ht:tks s=pre:=by unfold tks;rw [hR1];simp
      have HB:=Lib.hid hb
      have HT:=Lib.hid ht
      clear hdc k1 k2 k3 hc hd hr hR1 hE hb ht e1 e2 hP1
      obtain⟨va,vc,rfl⟩:=owns_slice hown1
      go_wp2_with (first
       | (go_at_call 222;((with_reducible refine (isSpace_at _ false _ HS.out).mono ?_);rintro e w2 ⟨rfl,rfl⟩))
       | (go_at_call 223;((with_reducible refine (isCmt_at _ true _ HC.out).mono ?_);rintro e w2 ⟨rfl,rfl⟩)))
      refine bodyPost_ret (v:=.tuple #[.slice va m vc,.int .i64 0,.int .i64 0]) (by simp [results,Tryz.results188,go_sem]) rfl ?_
      refine⟨_,_,_,rfl,hB1,.inr ⟨HB.out,rfl,rfl,own_tks (base:=w.heap.size+1) (e:=300) ?_⟩⟩
      rw [tkX_len,← xC_tk,HT.out,hP.out];exact hown1
    ·
     have HS:=Lib.hid (k1.trans e1)
     have hd1:d=1:=hdc (.inl e1)
     subst hd1
     rw [tk_spc e1] at hR1
     have HR1:=Lib.hid hR1
     have HI:=Lib.hid hi1
     have HP1:=Lib.hid hP1
     clear hdc k1 k2 k3 hc hd hr hR1 hE e1 hi1 hP1
     go_wp2_with (go_at_call 222;((with_reducible refine (isSpace_at _ true _ HS.out).mono ?_);rintro e w2 ⟨rfl,rfl⟩))
     go_roundw
     case rel=>exact⟨pre,q+1,en,q+1,m,fu,rfl,by omega,by omega,by omega,by omega,by omega,by omega,hown1,HI.out,hP,Lib.hid (fun k hk a b=>by omega),HR1,hB1⟩
     case measure=>rw [HP1.out,iterPos_of HI.out];omega
  ·obtain rfl:q=s.size:=by omega
   have hnx:∀ ty,(Instr.next (.pointer (some ⟨w.heap.size,0,none⟩)) true ty).run Tryz.prog wr=.ok (.tuple #[.bool false]) wr:=fun ty=>Lib.run_next_end_at wr _ s pos ty hit hlt
   have hl:s.data.toList.drop s.size=[]:=List.drop_eq_nil_of_le (by rw [Array.length_toList];exact Nat.le_refl _)
   have hR1:=hR.out
   rw [hl,tk_nil] at hR1
   have hb:bad s=-1:=by unfold bad;rw [hR1]
   have ht:tks s=pre:=by unfold tks;rw [hR1];simp
   have HB:=Lib.hid hb
   have HT:=Lib.hid ht
   clear hR1 hb ht hl hR
   obtain⟨va,vc,rfl⟩:=owns_slice hown
   go_wp2
   refine bodyPost_ret (v:=.tuple #[.slice va m vc,.int .i64 0,.int .i64 0]) (by simp [results,Tryz.results188,go_sem]) rfl ?_
   refine⟨_,_,_,rfl,hB,.inr ⟨HB.out,rfl,rfl,own_tks (base:=w.heap.size+1) (e:=300) ?_⟩⟩
   rw [tkX_len,← xC_tk,HT.out,hP.out] ;exact hown
theorem isW_pos {t:List UInt8} (h:TokT t) (v:Bool) (hv:isW t=v):decide ((0:Int)<(wn t:Int))=v:=by
 obtain⟨h1,h2⟩:=isW_wn h
 have hne:0<t.length:=by
  rcases h with ⟨hne,_⟩|⟨c,rfl,_⟩
  ·exact List.length_pos_iff.2 hne
  ·simp
 cases v
 ·obtain⟨g1,g2⟩:=h2 hv
  have:=wn_le t
  exact decide_eq_false (by omega)
 ·have g1:=h1 hv
  exact decide_eq_true (by omega)
theorem isWord8_at (T:ByteArray) (q:Int) (v:Bool) (ht:TokT T.data.toList) (hv:isW T.data.toList=v) (w:World) :
  Calls Tryz.prog 255 #[.agg #[.string T,.int .i64 q]] w fun e w'=>e=.returned (.bool v)∧Below w.heap.size w w':=by
 have hp:=isW_pos ht v hv
 obtain⟨n,hn⟩:∃ n,wn T.data.toList=n:=⟨_,rfl⟩
 rw [hn] at hp
 have HW:=Lib.hid (fun w=>word_at T (n:Int) w (by rw [hn]))
 have b0:=bnew w (.cells #[.string T,.int .i64 q] 300)
 clear ht hv hn
 cases v
 ·have t1:¬ (0:Int)<(n:Int):=of_decide_eq_false hp
  clear hp
  go_enter Tryz.func255,Tryz.ntmps255
  go_wp2_with (go_at_call 224;((with_reducible refine (HW.out _).mono ?_);rintro e w1 ⟨rfl,b1⟩))
  go_ret
  exact⟨ret_bool (by simp;omega),bch b0 b1⟩
 ·have t1:(0:Int)<(n:Int):=of_decide_eq_true hp
  clear hp
  go_enter Tryz.func255,Tryz.ntmps255
  go_wp2_with (go_at_call 224;((with_reducible refine (HW.out _).mono ?_);rintro e w1 ⟨rfl,b1⟩))
  go_ret
  exact⟨ret_bool (by simp;omega),bch b0 b1⟩
theorem own_string (P:Program) {w:World} {base src e:TypeId} {v:Value} {n:Nat} {l:List UInt8} (hs:P.underlying src=some (.slice e)) (he:P.underlying e=some (.int .u8))
  (h:w.ownsRow base e 1 v n (l.map fun c=>Value.int .u8 (c.toNat:Int))):∀ dst,P.underlying dst=some .string→(convert src dst v).run P w=.ok (.string ⟨l.toArray⟩) w:=by
 intro dst hd
 have hl:l.length=n:=by have:=h.1;simpa using this
 rcases h.2 with ⟨rfl,hn⟩|⟨g,cap,cur,rfl,hb,hg,hnc,hcm,hcs,htk⟩
 ·have h0:l=[]:=List.eq_nil_of_length_eq_zero (by omega)
  subst h0
  exact run_convert_bytes_nil w src e hs he 0 0 dst hd
 ·subst hl
  refine run_convert_bytes_back w src dst e ⟨g,0,none⟩ cap l hs he hd fun j hj=>?_
  have h1:(cur.toList.take (l.length*1))[j]?=some (.int .u8 (l[j].toNat:Int)):=by
   rw [htk];simp [hj]
  rw [List.getElem?_take] at h1
  simp [hj] at h1
  rw [add0]
  simp [World.cell?,hg,h1]
theorem Tryz.info5:(Tryz.prog.info? 5).map (fun i=>(i.zero,i.size,i.bytes))=some (some (.int .u8 0),1,1):=by kernel_rfl
def byC (l:List UInt8):List Value:=l.map fun c=>Value.int .u8 (c.toNat:Int)
theorem shp_snoc (xs:Tks) (j:Nat) (h:j<xs.length):shp (txt (xs.take (j+1)))=shp (txt (xs.take j))++[shl1 xs[j].1.data.toList]:=by
 rw [take_snoc xs j h];unfold shp txt;rw [List.map_append,List.map_append];rfl
theorem shape_some (b o n cap:Nat) (xs:Tks) (hn:xs.length=n) (hm:n≤100000) (hxt:∀ t∈txt xs,TokT t) (w:World) (hb:b<w.heap.size) (hc:Tksat w b o xs) :
  Calls Tryz.prog 226 #[.slice (some ⟨b,o,none⟩) n cap] w fun e w'=>e=.returned (.string (shB xs))∧Below w.heap.size w w':=by
 obtain⟨i0,hi,hz0,hz1,hz2⟩:=info_parts Tryz.info5
 have HC:=Lib.hid hc
 have HN:=Lib.hid hn
 have HXT:=Lib.hid hxt
 clear hc hn hxt
 go_enter Tryz.func226,Tryz.ntmps226
 go_wp2_with (at_make;refine wpList_make_own _ rfl _ _ 23 rfl w.heap.size 5 i0 (.int .u8 0) 1 Tryz.underlying23 hi hz0 hz1 .i64 .i64 (n:Int) n rfl rfl (by omega) (by rw [hz2];omega) (by unfold maxLen;omega) (by simp) ?_;intro w1 hmade hgrow)
 go_loopw [3,11] (fun sv a wr=>∃ (j:Nat) (l:List UInt8),a=.int .i64 (j:Int)∧j≤n∧wr.ownsRow w.heap.size 5 1 sv j (byC l)∧Hid (shp (txt (xs.take j))=l)∧Below w.heap.size w wr) (fun _ a _=>n-(intOf a).toNat)
 case atStart=>exact⟨0,[],rfl,Nat.zero_le _,by simpa [byC] using hmade,Lib.hid rfl,(Below.refl _ _).grown hgrow (Nat.le_refl _) (fun j hj=>by cases hj)⟩
 case round =>
  obtain⟨j,l,rfl,hj,hown,hR,hB⟩:=hrel
  have hsz:=hB.size
  by_cases hlt:j<n
  ·have hjx:j<xs.length:=by rw [HN.out];exact hlt
   obtain⟨T,q,e1,p1,p2⟩:=TksAt.cells (HC.out.below hb hB) j hjx
   have hTt:TokT T.data.toList:=HXT.out _ (by
    unfold txt
    exact List.mem_map.2 ⟨xs[j],List.getElem_mem hjx,by rw [e1]⟩)
   have hst:shp (txt (xs.take (j+1)))=l++[shl1 T.data.toList]:=by rw [shp_snoc xs j hjx,hR.out,e1]
   obtain⟨v,hv⟩:∃ v,isW T.data.toList=v:=⟨_,rfl⟩
   have HW:=Lib.hid (fun w=>isWord8_at T q v hTt hv w)
   cases v
   ·have hTs:T.size=1∧byC (l++[shl1 T.data.toList])=byC l++Lib.strCells T:=by
     rcases isW_one T with ⟨h,c,hc⟩|⟨_,h⟩
     ·refine⟨h,?_⟩
      have e:shl1 T.data.toList=c:=by
       unfold shl1
       rw [if_neg (by rw [hv];exact Bool.false_ne_true),hc];rfl
      rw [e]
      simp [byC,Lib.strCells,hc]
     ·rw [hv] at h;cases h
    obtain⟨hTs,hbc⟩:=hTs
    have HS:=Lib.hid hst
    have HBC:=Lib.hid hbc
    clear hst hbc e1 hv hTt
    go_upto_region 5 with (fail)
    have hx:=heap_alloc_last wr (.cells #[.string T,.int .i64 q] 300)
    have b0:=bnew wr (.cells #[.string T,.int .i64 q] 300)
    obtain⟨x0,x1⟩:=cells2 hx
    have hgl:=lt_of_block hx
    have B0:=bch hB b0
    have hown0:=own_below hown b0
    generalize wr.heap.size=g at x0 x1 hgl ⊢
    generalize wr.alloc (.cells _ 300)=W1 at x0 x1 B0 hown0 hgl ⊢
    clear p1 p2 hx b0 hown
    go_wp2_with (first
     | (go_at_call 255;((with_reducible refine (HW.out _).mono ?_);rintro e w2 ⟨rfl,b2⟩;have y0:=(b2.cell (by exact hgl)).trans x0;have B2:=bch B0 b2;have hown2:=own_below hown0 b2;have hs2:=B2.size))
     | (at_builtin;refine Lib.wpList_append_own_string _ rfl _ _ 23 9 rfl w.heap.size 5 i0 Tryz.underlying23 Tryz.underlying9 hi hz0 hz1 hz2 _ j _ rfl hown2 T rfl (by unfold maxLen;omega) (by omega) (by omega) ?_;intro v' w3 hown3 hgrow3 _))
    go_roundw
    case rel =>
     refine⟨j+1,_,by go_num,by omega,?_,HS,B2.grown hgrow3 hs2 (own_base hown2)⟩
     rw [HBC.out];rw [hTs] at hown3;exact hown3
    case measure=>simp [intOf];omega
   ·have hbc:byC (l++[shl1 T.data.toList])=byC l++[.int .u8 119]:=by
     unfold shl1;rw [if_pos hv];simp [byC]
    have HS:=Lib.hid hst
    have HBC:=Lib.hid hbc
    clear hst hbc e1 hv hTt
    go_upto_region 5 with (fail)
    have hx:=heap_alloc_last wr (.cells #[.string T,.int .i64 q] 300)
    have b0:=bnew wr (.cells #[.string T,.int .i64 q] 300)
    obtain⟨x0,x1⟩:=cells2 hx
    have B0:=bch hB b0
    have hown0:=own_below hown b0
    generalize wr.heap.size=g at x0 x1 ⊢
    generalize wr.alloc (.cells _ 300)=W1 at x0 x1 B0 hown0 ⊢
    clear p1 p2 hx b0 hown
    go_wp2_with (first
     | (go_at_call 255;((with_reducible refine (HW.out _).mono ?_);rintro e w2 ⟨rfl,b2⟩;have B2:=bch B0 b2;have hown2:=own_below hown0 b2;have hs2:=B2.size))
     | (at_builtin;refine wpList_append_own _ rfl _ _ 23 rfl w.heap.size 5 i0 (.int .u8 0) 1 1 Tryz.underlying23 hi hz0 hz1 hz2 rfl (by decide) _ j _ rfl (hown2.alloc _) ⟨w2.heap.size,0,none⟩ 1 1 [.int .u8 119] rfl rfl (World.news_of_block (cs:=#[.int .u8 119]) (t:=5) (fr:=(0,0)) (heap_alloc_last w2 _)) (by simp [Value.oneCell']) (by unfold maxLen;omega) (by omega) (by simp;omega) ?_;intro v' w3 hown3 hgrow3 _))
    go_roundw
    case rel =>
     refine⟨j+1,_,by go_num,by omega,?_,HS,(bch B2 (bnew _ _)).grown hgrow3 (by simp;omega) (own_base hown2)⟩
     rw [HBC.out];exact hown3
    case measure=>simp [intOf];omega
  ·obtain rfl:j=n:=by omega
   have hE:shp (txt xs)=l:=by rw [← hR.out,List.take_of_length_le (by rw [HN.out];exact Nat.le_refl _)]
   have hconv:=own_string Tryz.prog Tryz.underlying23 Tryz.underlying5 (l:=l) hown 9 Tryz.underlying9
   have HE:=Lib.hid (show (⟨l.toArray⟩:ByteArray)=shB xs by unfold shB;rw [hE])
   clear hR hE hown
   go_wp2
   go_ret
   exact⟨by rw [HE.out] <;> rfl,hB⟩
theorem shape_none (a:Option Addr) (cap:Nat) (w:World):Calls Tryz.prog 226 #[.slice a 0 cap] w fun e w'=>e=.returned (.string (shB []))∧Below w.heap.size w w':=by
 obtain⟨i0,hi,hz0,hz1,hz2⟩:=info_parts Tryz.info5
 go_enter Tryz.func226,Tryz.ntmps226
 go_wp2_with (at_make;refine wpList_make_own _ rfl _ _ 23 rfl w.heap.size 5 i0 (.int .u8 0) 1 Tryz.underlying23 hi hz0 hz1 .i64 .i64 0 0 rfl rfl (by omega) (by rw [hz2];omega) (by unfold maxLen;omega) (by simp) ?_;intro w1 hown hgrow)
 refine wp_loop_rounds 1 ?_
 rw [rounds_succ]
 have hbel:Below w.heap.size w w1:=(Below.refl _ _).grown hgrow (Nat.le_refl _) (fun j hj=>by cases hj)
 have hconv:=own_string (l:=[]) Tryz.prog Tryz.underlying23 Tryz.underlying5 (by simpa using hown) 9 Tryz.underlying9
 go_wp2
 go_ret
 exact⟨rfl,hbel⟩
theorem shape8 (xs:Tks) (v:Value) (w:World) (hm:xs.length≤100000) (hxt:∀ t∈txt xs,TokT t) (hv:TksAt w v xs):Calls Tryz.prog 226 #[v] w fun e w'=>e=.returned (.string (shB xs))∧Below w.heap.size w w':=by
 rcases hv with ⟨b,o,cap,rfl,_,hb,hc⟩|⟨rfl,a,cap,rfl⟩
 ·exact shape_some b o _ cap xs rfl hm hxt w hb hc
 ·exact shape_none a cap w
theorem words_some (b o n cap:Nat) (xs:Tks) (hn:xs.length=n) (hm:n≤100000) (hxt:∀ t∈txt xs,TokT t) (w:World) (hb:b<w.heap.size) (hc:Tksat w b o xs) :
  Calls Tryz.prog 256 #[.slice (some ⟨b,o,none⟩) n cap] w fun e w'=>StP w (wdX xs) e w':=by
 obtain⟨i0,hi,hz0,hz1,hz2⟩:=info_parts Tryz.info9
 have HC:=Lib.hid hc
 have HN:=Lib.hid hn
 have HXT:=Lib.hid hxt
 clear hc hn hxt
 go_enter Tryz.func256,Tryz.ntmps256
 go_wp2
 go_loopw [3,8] (fun sv a wr=>∃ (j m:Nat) (l:List ByteArray),a=.int .i64 (j:Int)∧j≤n∧m≤j∧wr.ownsRow w.heap.size 9 1 sv m (stC l)∧Hid (l.length=m)∧Hid (wdX (xs.take j)=l)∧Below w.heap.size w wr) (fun _ a _=>n-(intOf a).toNat)
 case atStart=>exact⟨0,0,[],rfl,Nat.zero_le _,Nat.le_refl _,World.ownsRow_nil _ _ _ _,Lib.hid rfl,Lib.hid rfl,Below.refl _ _⟩
 case round =>
  obtain⟨j,m,l,rfl,hj,hmj,hown,hL,hR,hB⟩:=hrel
  have hsz:=hB.size
  by_cases hlt:j<n
  ·have hjx:j<xs.length:=by rw [HN.out];exact hlt
   obtain⟨T,q,e1,p1,p2⟩:=TksAt.cells (HC.out.below hb hB) j hjx
   have hTt:TokT T.data.toList:=HXT.out _ (by
    unfold txt
    exact List.mem_map.2 ⟨xs[j],List.getElem_mem hjx,by rw [e1]⟩)
   obtain⟨v,hv⟩:∃ v,isW T.data.toList=v:=⟨_,rfl⟩
   have HW:=Lib.hid (fun w=>isWord8_at T q v hTt hv w)
   have hst:wdX (xs.take (j+1))=l++(if v then [T] else []):=by rw [take_snoc xs j hjx,wdX_snoc,hR.out,e1,hv]
   clear hv e1 hTt
   cases v
   ·have HS:=Lib.hid (show wdX (xs.take (j+1))=l by rw [hst];simp)
    clear hst
    go_upto_region 5 with (fail)
    have hx:=heap_alloc_last wr (.cells #[.string T,.int .i64 q] 300)
    have b0:=bnew wr (.cells #[.string T,.int .i64 q] 300)
    obtain⟨x0,x1⟩:=cells2 hx
    have B0:=bch hB b0
    have hown0:=own_below hown b0
    generalize wr.heap.size=g at x0 x1 ⊢
    generalize wr.alloc (.cells _ 300)=W1 at x0 x1 B0 hown0 ⊢
    clear p1 p2 hx b0 hown
    go_wp2_with (go_at_call 255;((with_reducible refine (HW.out _).mono ?_);rintro e w2 ⟨rfl,b2⟩))
    go_roundw
    case rel=>exact⟨j+1,m,l,by go_num,by omega,by omega,own_below hown0 b2,hL,HS,bch B0 b2⟩
    case measure=>simp [intOf];omega
   ·have HS:=Lib.hid (show wdX (xs.take (j+1))=l++[T] by rw [hst];simp)
    clear hst
    go_upto_region 5 with (fail)
    have hx:=heap_alloc_last wr (.cells #[.string T,.int .i64 q] 300)
    have b0:=bnew wr (.cells #[.string T,.int .i64 q] 300)
    obtain⟨x0,x1⟩:=cells2 hx
    have hgl:=lt_of_block hx
    have B0:=bch hB b0
    have hown0:=own_below hown b0
    generalize wr.heap.size=g at x0 x1 hgl ⊢
    generalize wr.alloc (.cells _ 300)=W1 at x0 x1 B0 hown0 hgl ⊢
    clear p1 p2 hx b0 hown
    go_wp2_with (first
     | (go_at_call 255;((with_reducible refine (HW.out _).mono ?_);rintro e w2 ⟨rfl,b2⟩;have y0:=(b2.cell (by exact hgl)).trans x0;have B2:=bch B0 b2;have hown2:=own_below hown0 b2;have hs2:=B2.size))
     | (at_builtin;refine wpList_append_own _ rfl _ _ 63 rfl w.heap.size 9 i0 (.string ⟨#[]⟩) 1 16 Tryz.underlying63 hi hz0 hz1 hz2 rfl (by decide) _ m _ rfl (hown2.alloc _) ⟨w2.heap.size,0,none⟩ 1 1 [.string T] rfl rfl (World.news_of_block (cs:=#[.string T]) (t:=9) (fr:=(0,0)) (heap_alloc_last w2 _)) (by simp [Value.oneCell']) (by unfold maxLen;omega) (by omega) (by simp;omega) ?_;intro v' w3 hown3 hgrow3 _))
    go_roundw
    case rel =>
     refine⟨j+1,m+1,l++[T],by go_num,by omega,by omega,?_,Lib.hid ?_,HS,?_⟩
     ·rw [stC_snoc];exact hown3
     ·rw [List.length_append,hL.out];rfl
     ·exact (bch B2 (bnew _ _)).grown hgrow3 (by simp;omega) (own_base hown2)
    case measure=>simp [intOf];omega
  ·obtain rfl:j=n:=by omega
   have HS:=Lib.hid (show wdX xs=l by rw [← hR.out,List.take_of_length_le (by rw [HN.out];exact Nat.le_refl _)])
   clear hR
   obtain⟨va,vc,rfl⟩:=owns_slice hown
   go_wp2
   go_ret
   refine⟨⟨_,rfl,?_⟩,hB⟩
   rw [HS.out,hL.out];exact hown
end Go.Proofs.YtdgnjhhieemcaaaGreatDoor.L8
end
section
namespace Go.Proofs.YtdgnjhhieemcaaaGreatDoor.L5
open Go.RowKit L3 L1 L4
def le:Nat→Int→List UInt8
 | 0,_=>[]
 | n+1,z=>UInt8.ofNat (z % 256).toNat::le n (z / 256)
def va:List UInt8→Int
 | []=>0
 | c::l=>(c.toNat:Int)+256*va l
theorem le_length:∀ (n:Nat) (z:Int),(le n z).length=n
 | 0,_=>rfl
 | n+1,z=>by simp [le,le_length n]
theorem byte_nat (z:Int):((UInt8.ofNat (z % 256).toNat).toNat:Int)=z % 256:=by
 rw [UInt8.toNat_ofNat']
 omega
theorem byte_mk (c:UInt8) (z:Int) (h:z % 256=(c.toNat:Int)):UInt8.ofNat (z % 256).toNat=c:=by
 rw [h]
 simp
theorem emod_256 (z M:Int) (hM:0<M):z % (256*M)=z % 256+256*(z / 256 % M):=by
 have h2:=Int.emod_add_mul_ediv (z / 256) M
 have h3:=Int.emod_nonneg (z / 256) (show M≠0 by omega)
 have h4:=Int.emod_lt_of_pos (z / 256) hM
 have h5:z=(z % 256+256*(z / 256 % M))+(256*M)*(z / 256 / M):=by
  rw [Int.mul_assoc]
  omega
 have h6:((z % 256+256*(z / 256 % M))+(256*M)*(z / 256 / M)) % (256*M)=z % 256+256*(z / 256 % M):=by
  rw [Int.add_mul_emod_self_left,Int.emod_eq_of_lt (by omega) (by omega)]
 rw [← h5] at h6
 exact h6
theorem le_va:∀ (l:List UInt8) (z:Int),z % 256 ^ l.length=va l→le l.length z=l
 | [],_,_=>rfl
 | c::l,z,h=>by
  have hc:=c.toNat_lt
  have e:(256:Int) ^ (l.length+1)=256*256 ^ l.length:=by rw [Int.pow_succ];omega
  have hp:(0:Int)<256 ^ l.length:=Int.pow_pos (by decide)
  simp only [va,List.length_cons,e] at h
  have h1:z % 256=(c.toNat:Int):=by
   have:=emod_256 z _ hp
   omega
  have h2:z / 256 % 256 ^ l.length=va l:=by
   have:z % (256*256 ^ l.length)=z % 256+256*(z / 256 % 256 ^ l.length):=emod_256 z _ hp
   omega
  simp only [le,List.length_cons,byte_mk c z h1,le_va l _ h2]
theorem va_le:∀ (n:Nat) (z:Int),va (le n z)=z % 256 ^ n
 | 0,z=>by simp [le,va,Int.emod_one]
 | n+1,z=>by
  have e:(256:Int) ^ (n+1)=256*256 ^ n:=by rw [Int.pow_succ];omega
  have:z % (256*256 ^ n)=z % 256+256*(z / 256 % 256 ^ n):=emod_256 z _ (Int.pow_pos (by decide))
  simp only [le,va,va_le n,byte_nat,e]
  omega
theorem le_mod {n:Nat} {z y:Int} (h:z % 256 ^ n=y % 256 ^ n):le n z=le n y:=by
 have:=le_va (le n y) z (by rw [le_length,va_le,h])
 rwa [le_length] at this
end Go.Proofs.YtdgnjhhieemcaaaGreatDoor.L5
end
