/- Lemmas and walks of L14Rf, L14Rb, L14Rp, L14It: what each theorem states; conditions stand in each theorem. -/
import Derived.Test.YtohkgdfkklfgmaaGreatDoorM40
import Derived.Deep.WholeRow
import Derived.Maps.AppendAt
import Derived.Deep.AppendLies
import Derived.Lib.AppendStr
import Derived.Laws.OwnMore
import Derived.RangeFuncNested
import Derived.RangeFuncBound
import Derived.RangeFuncCalls
import Derived.RangeFuncLeaves
import Derived.RangeFuncBox
import Derived.Shelf.Abstract
import Derived.Shelf.RegionOpen
import Derived.OwnWalkIn
import Derived.TacticsInMore
import Derived.LoopNIn
import Derived.LoopIn
import Derived.RegionIn
section
namespace Go.Proofs.YtohkgdfkklfgmaaGreatDoor.L14
set_option maxRecDepth 100000
open Go.RowKit
attribute [local go_sem] Oper.semAt_some
def tot (l:List (List UInt8)):Nat:=(l.map List.length).sum
theorem tot_le:∀ (l:List (List UInt8)) (k:Nat),tot (l.take k)≤tot l
 | [],k=>by simp [tot]
 | x::r,0=>by simp [tot]
 | x::r,k+1=>by
  have:=tot_le r k
  simp only [tot,List.take_succ_cons,List.map_cons,List.sum_cons] at this ⊢
  omega
theorem tot_step (l:List (List UInt8)) (k:Nat) (h:k<l.length):tot (l.take (k+1))=tot (l.take k)+l[k].length:=by
 unfold tot
 rw [List.take_add_one,List.getElem?_eq_getElem h,List.map_append,List.sum_append]
 simp [-List.map_take]
theorem bd_len:∀ l:List (List UInt8),(bd l).length=tot l+l.length
 | []=>rfl
 | x::r=>by
  rw [bd_cons]
  have:=bd_len r
  simp only [tot,List.map_cons,List.sum_cons,List.length_append,List.length_cons] at this ⊢
  omega
theorem tb_len (l:List (List UInt8)):(tb l).length=1+tot l+l.length:=by
 unfold tb
 rw [List.length_cons,bd_len];omega
end Go.Proofs.YtohkgdfkklfgmaaGreatDoor.L14
end
section
set_option maxRecDepth 100000
set_option maxHeartbeats 4000000
namespace Go.Proofs.YtohkgdfkklfgmaaGreatDoor.L14
set_option maxRecDepth 100000
open Go.RowKit
attribute [local go_sem] Oper.semAt_some
theorem owns_slice {w:World} {base e:TypeId} {size:Nat} {v:Value} {n:Nat} {xs:List Value} (h:w.ownsRow base e size v n xs):∃ a c,v=.slice a n c:=by
 rcases h.2 with ⟨rfl,rfl⟩|⟨g,cap,cur,rfl,_⟩
 ·exact⟨_,_,rfl⟩
 ·exact⟨_,_,rfl⟩
theorem own_base {w:World} {base:Nat} {e:TypeId} {size:Nat} {v:Value} {n:Nat} {xs:List Value} (h:w.ownsRow base e size v n xs):∀ k,v.ownBlock=some k→base≤k:=by
 intro k hk
 rcases h.2 with ⟨rfl,_⟩|⟨g,cap,cur,rfl,hb,_⟩
 ·cases hk
 ·simp [Value.ownBlock] at hk
  omega
theorem own_ty {w:World} {base e:TypeId} {size:Nat} {v:Value} {n:Nat} {xs:List Value} {g:Nat} (h:w.ownsRow base e size v n xs) (hg:v.ownBlock=some g):∃ cur,w.heap[g]?=some (.cells cur e (0,0)):=by
 rcases h.2 with ⟨rfl,_⟩|⟨g',cap,cur,rfl,_,hh,_⟩
 ·cases hg
 ·obtain rfl:g'=g:=by simpa [Value.ownBlock] using hg
  exact⟨cur,hh⟩
theorem own_two {W W':World} {B B' eA eB n m:Nat} {vA vB:Value} {xs ys:List Value} (hA:W.ownsRow B eA 1 vA n xs) (hB:W.ownsRow B' eB 1 vB m ys) (he:eA≠eB) (hg:W.grownBy W' vB.ownBlock):W'.ownsRow B eA 1 vA n xs:=by
 refine hA.kept hg ?_
 cases hv:vA.ownBlock with
 | none=>exact .inl rfl
 | some g =>
  refine .inr fun e=>?_
  obtain⟨c1,h1⟩:=own_ty hA hv
  obtain⟨c2,h2⟩:=own_ty hB e.symm
  rw [h1] at h2
  cases h2
  exact he rfl
theorem infoInt:(Tryz.prog.info? 3).map (fun i=>(i.zero,i.size,i.bytes))=some (some (.int .i64 0),1,8):=by kernel_rfl
theorem infoByte:(Tryz.prog.info? 5).map (fun i=>(i.zero,i.size,i.bytes))=some (some (.int .u8 0),1,1):=by kernel_rfl
theorem infoText:(Tryz.prog.info? 9).map (fun i=>(i.zero,i.size,i.bytes))=some (some (.string ⟨#[]⟩),1,16):=by kernel_rfl
theorem ofs_snoc:∀ (l:List (List UInt8)) (st:Nat) (t:List UInt8),ofs st (l++[t])=ofs st l++[st+(bd l).length]
 | [],st,t=>by simp [ofs,bd]
 | x::r,st,t=>by
  rw [List.cons_append,ofs,ofs,ofs_snoc r,bd_cons,List.cons_append]
  congr 3
  simp only [List.length_append,List.length_cons];omega
theorem take_snoc {α:Type} (l:List α) (k:Nat) (h:k<l.length):l.take (k+1)=l.take k++[l[k]]:=by
 rw [List.take_add_one,List.getElem?_eq_getElem h];rfl
theorem tb_snoc (l:List (List UInt8)) (t:List UInt8):tb (l++[t])=tb l++t++[0]:=by
 unfold tb
 rw [bd_snoc];simp
theorem strCells_is (t:List UInt8):Lib.strCells (mkB t)=t.map eB:=by
 unfold Lib.strCells
 rw [mkB_list]
theorem rbuild_at (v:Value) (l:List (List UInt8)) (w:World) (h:Rw eT w v l) (hl:l.length≤100000) (ht:tot l≤1000000) :
  Calls Tryz.prog 32 #[v] w fun e w'=>(∃ a1 c1 a2 c2,e=.returned (.tuple #[.slice a1 (tb l).length c1,.slice a2 l.length c2])∧Rw eB w' (.slice a1 (tb l).length c1) (tb l)∧Rw eN w' (.slice a2 l.length c2) (ofs 1 l))∧Below w.heap.size w w':=by
 obtain⟨ii,hi,hz0,hz1,hz2⟩:=info_parts infoInt
 obtain⟨ib,ki,kz0,kz1,kz2⟩:=info_parts infoByte
 obtain⟨n,hn⟩:∃ n,l.length=n:=⟨_,rfl⟩
 obtain⟨a,c,rfl,-,-,hc⟩:=h.form hn
 rw [hn] at hl
 have HN:=Lib.hid hn
 have HC:=Lib.hid hc
 have HT:=Lib.hid ht
 have hr0:(w.alloc (.cells #[.int .u8 0] 5)).ownsRow w.heap.size 5 1 (.slice (some ⟨w.heap.size,0,none⟩) 1 1) 1 [.int .u8 0]:=World.ownsRow_lit w #[.int .u8 0] 1 (Nat.le_refl _) (by unfold maxLen;omega) rfl
 have HR0:=Lib.hid hr0
 have b0:=Lib.hid (bnew w (.cells #[.int .u8 0] 5))
 clear hn hc h ht hr0
 go_enter Tryz.func32,Tryz.ntmps32
 go_wp2
 go_loopw [4,5,6] (fun b f i wr=>∃ (k L:Nat),k≤n∧L≤1+1000000+k∧i=.int .i64 (k:Int)∧wr.ownsRow w.heap.size 5 1 b L ((tb (l.take k)).map eB)∧wr.ownsRow w.heap.size 3 1 f k ((ofs 1 (l.take k)).map eN)∧Hid ((tb (l.take k)).length=L)∧Below w.heap.size w wr) (fun _ _ i _=>n-(intOf i).toNat)
 case atStart=>exact⟨0,1,Nat.zero_le _,by omega,rfl,by rw [List.take_zero];exact HR0.out,by rw [List.take_zero];exact World.ownsRow_nil _ _ _ _,Lib.hid (by simp [tb,bd]),b0.out⟩
 case round =>
  obtain⟨k,L,hk,hL,rfl,hb,hf,hLen,hBw⟩:=hrel
  have hsz:=hBw.size
  by_cases hlt:k<n
  ·have hkl:k<l.length:=by rw [HN.out];exact hlt
   obtain⟨bb,o,rfl,hbb,hcc⟩:=HC.out (by omega)
   have hx0:=hcc k hkl
   unfold eT at hx0
   have hTs:=mkB_size l[k]
   have hst:=tot_step l k hkl
   have hto:=tot_le l (k+1)
   have ht:=HT.out
   have hLk:=hLen.out
   rw [tb_len,List.length_take,HN.out,Nat.min_eq_left hk] at hLk
   have hsn:=take_snoc l k hkl
   have htb:=tb_snoc (l.take k) l[k]
   have hof:=ofs_snoc (l.take k) 1 l[k]
   rw [← hsn] at htb hof
   have hbl:1+(bd (l.take k)).length=L:=by rw [← hLen.out,tb,List.length_cons];omega
   rw [hbl] at hof
   have hsc:=strCells_is l[k]
   obtain⟨T,hT⟩:∃ T,mkB l[k]=T:=⟨_,rfl⟩
   rw [hT] at hx0 hTs hsc
   have hLL:L+T.size+1≤1+1000000+(k+1):=by omega
   have hLen2:(tb (l.take (k+1))).length=L+T.size+1:=by
    rw [htb,List.length_append,List.length_append,hLen.out,hTs];rfl
   have hc1:(tb (l.take k)).map eB++Lib.strCells T++[.int .u8 0]=(tb (l.take (k+1))).map eB:=by
    rw [htb,hsc];simp [eB]
   have hc2:(ofs 1 (l.take k)).map eN++[.int .i64 (L:Int)]=(ofs 1 (l.take (k+1))).map eN:=by
    rw [hof];simp [eN]
   have H1:=Lib.hid hLen2
   have H2:=Lib.hid hc1
   have H3:=Lib.hid hc2
   have hxW:wr.cell? ⟨bb,o+k,none⟩=some (.string T):=(hBw.cell (by exact hbb)).trans hx0
   have hx1:(wr.alloc (.cells #[.int .i64 (L:Int)] 3)).cell? ⟨bb,o+k,none⟩=some (.string T):=((bnew wr _).cell (by exact Nat.lt_of_lt_of_le hbb hsz)).trans hxW
   obtain⟨ba,bc,rfl⟩:=owns_slice hb
   have hbbw:bb<w.heap.size:=hbb
   have HXc:=Lib.hid hx0
   clear hcc hx0 hTs hst hto ht hLk hsn htb hof hbl hsc hT hLen2 hc1 hc2 hxW hx1
   go_wp2_with (first
    | (at_builtin;refine wpList_append_own _ rfl _ _ 70 rfl w.heap.size 3 ii (.int .i64 0) 1 8 Tryz.underlying70 hi hz0 hz1 hz2 rfl (by decide) _ k _ rfl (hf.alloc _) ⟨wr.heap.size,0,none⟩ 1 1 [.int .i64 (L:Int)] rfl rfl (World.news_of_block (cs:=#[.int .i64 (L:Int)]) (t:=3) (fr:=(0,0)) (heap_alloc_last wr _)) (by simp [Value.oneCell']) (by unfold maxLen;omega) (by omega) (by simp;omega) ?_;intro v1 w1 h1 g1 _;have hb1:=own_two (hb.alloc _) (hf.alloc _) (by decide) g1;have z1:wr.heap.size≤w1.heap.size:=(Nat.le_trans (by simp) g1.size);have B1:=(hBw.alloc hsz _).grown g1 (by simp;omega) (own_base hf);have hx:=(B1.cell (p:=⟨bb,o+k,none⟩) (by exact hbbw)).trans HXc.out)
    | (at_builtin;refine Lib.wpList_append_own_string _ rfl _ _ 23 9 rfl w.heap.size 5 ib Tryz.underlying23 Tryz.underlying9 ki kz0 kz1 kz2 _ L _ rfl hb1 T rfl (by unfold maxLen;omega) (by omega) (by omega) ?_;intro v2 w2 h2 g2 _;have hn2:=own_two h1 hb1 (by decide) g2;have z2:w1.heap.size≤w2.heap.size:=g2.size;have B2:=B1.grown g2 (by omega) (own_base hb1))
    | (at_builtin;refine wpList_append_own _ rfl _ _ 23 rfl w.heap.size 5 ib (.int .u8 0) 1 1 Tryz.underlying23 ki kz0 kz1 kz2 rfl (by decide) _ (L+T.size) _ rfl (h2.alloc _) ⟨w2.heap.size,0,none⟩ 1 1 [.int .u8 0] rfl rfl (World.news_of_block (cs:=#[.int .u8 0]) (t:=5) (fr:=(0,0)) (heap_alloc_last w2 _)) (by simp [Value.oneCell']) (by unfold maxLen;omega) (by omega) (by simp;omega) ?_;intro v3 w3 h3 g3 _;have hn3:=own_two (hn2.alloc _) (h2.alloc _) (by decide) g3;have B3:=(B2.alloc B2.size _).grown g3 (by simp;omega) (own_base h2)))
   go_roundw
   case rel =>
    rw [H2.out] at h3
    rw [H3.out] at hn3
    exact⟨k+1,L+T.size+1,by omega,hLL,by go_num,h3,hn3,H1,B3⟩
   case measure=>simp [intOf];omega
  ·obtain rfl:k=n:=by omega
   obtain⟨ba,bc,rfl⟩:=owns_slice hb
   obtain⟨fa,fc,rfl⟩:=owns_slice hf
   have e:l.take k=l:=List.take_of_length_le (by rw [HN.out];exact Nat.le_refl _)
   rw [e] at hb hf hLen
   have hlen:=hLen.out
   have hk2:=HN.out
   have HB:=Lib.hid (show Rw eB wr (.slice ba (tb l).length bc) (tb l) by rw [hlen];subst hlen;exact Rw.own hb)
   have HF:=Lib.hid (show Rw eN wr (.slice fa l.length fc) (ofs 1 l) by rw [hk2];have:=ofs_len l 1;rw [hk2] at this;subst this;exact Rw.own hf)
   have HQ:=Lib.hid (And.intro hlen hk2)
   clear e hlen hk2 hb hf
   go_wp2
   refine bodyPost_ret (v:=.tuple #[.slice ba L bc,.slice fa k fc]) (by simp [results,Tryz.results32,go_sem]) rfl ⟨⟨ba,bc,fa,fc,by rw [HQ.out.1,HQ.out.2],HB.out,HF.out⟩,hBw⟩
end Go.Proofs.YtohkgdfkklfgmaaGreatDoor.L14
end
section
set_option maxRecDepth 100000
set_option maxHeartbeats 4000000
namespace Go.Proofs.YtohkgdfkklfgmaaGreatDoor.L14
set_option maxRecDepth 100000
open Go.RowKit
attribute [local go_sem] Oper.semAt_some
def RpP (l:List UInt8) (e:Ending) (w':World):Prop :=
 (prV l=none∧e=.returned (.tuple #[.slice none 0 0,.bool false]))∨∃ ts a c,prV l=some ts∧e=.returned (.tuple #[.slice a ts.length c,.bool true])∧Rw eT w' (.slice a ts.length c) ts
theorem rgE_gtx (l:List UInt8) (p:Nat):rgE l (p:Int)=match gtx l p with
  | none=>.returned (.tuple #[.string ⟨#[]⟩,.bool false])
  | some t=>.returned (.tuple #[.string (mkB t),.bool true]):=by
 unfold rgE gtI
 rw [if_pos (by omega),Int.toNat_natCast]
 cases gtx l p <;> rfl
theorem rparse_at (v:Value) (l:List UInt8) (w:World) (h:Rw eB w v l) (hl:l.length≤100000) :
  Calls Tryz.prog 38 #[v] w fun e w'=>RpP l e w'∧Below w.heap.size w w':=by
 obtain⟨ii,hi,hz0,hz1,hz2⟩:=info_parts infoText
 obtain⟨n,hn⟩:∃ n,l.length=n:=⟨_,rfl⟩
 obtain⟨a,c,rfl,hc1,-,hc⟩:=h.form hn
 have HG:=Lib.hid (fun (p:Nat) (W:World) (hb:Below w.heap.size w W)=>rget_at _ l (p:Int) W (by omega) (h.below hb))
 rw [hn] at hl
 have HN:=Lib.hid hn
 by_cases h0:n=0
 ·subst h0
  have hnil:l=[]:=List.eq_nil_of_length_eq_zero hn
  have HR:=Lib.hid (show prV l=none by rw [hnil];rfl)
  clear h hn hc hnil HG
  go_enter Tryz.func38,Tryz.ntmps38
  go_wp2
  refine bodyPost_ret (v:=.tuple #[.slice none 0 0,.bool false]) (by simp [results,Tryz.results38,go_sem]) rfl ⟨.inl ⟨HR.out,rfl⟩,Below.refl _ _⟩
 obtain⟨b,o,rfl,hb,hcc⟩:=hc (by omega)
 obtain⟨d,r,rfl⟩:∃ d r,l=d::r:=by
  cases l with
  | nil=>simp at hn;omega
  | cons d r=>exact⟨d,r,rfl⟩
 have hx:=hcc 0 (by rw [hn];omega)
 replace hx:w.cell? ⟨b,o,none⟩=some (.int .u8 (d.toNat:Int)):=hx
 have hne0:((n:Int)==0)=false:=by rw [beq_eq_false_iff_ne];omega
 have hpos:(0:Int)<(n:Int):=by omega
 by_cases hd:d=0
 ·subst hd
  replace hx:w.cell? ⟨b,o,none⟩=some (.int .u8 0):=hx
  have HP:Hid (prV (0::r)=pr [] r):=Lib.hid (by show (if (0:UInt8)=0 then pr [] r else none)=_;rw [if_pos rfl])
  clear h hn hc hcc
  go_enter Tryz.func38,Tryz.ntmps38
  go_wp2
  go_loopw [4,5,6,7] (fun v at' _ _ wr=>∃ (pre:List (List UInt8)) (p m:Nat),at'=.int .i64 (p:Int)∧1≤p∧p≤n∧m≤p∧wr.ownsRow w.heap.size 9 1 v m (pre.map eT)∧Hid (pre.length=m)∧Hid (pr [] r=(pr [] ((0::r).drop p)).map (pre++·))∧Below w.heap.size w wr) (fun _ at' _ _ _=>n-(intOf at').toNat)
  case atStart=>exact⟨[],1,0,rfl,Nat.le_refl _,by omega,by omega,World.ownsRow_nil _ _ _ _,Lib.hid rfl,Lib.hid (by simp),Below.refl _ _⟩
  case round =>
   obtain⟨pre,p,m,rfl,hp1,hpn,hm,hown,hPL,hPR,hBw⟩:=hrel
   have hsz:=hBw.size
   by_cases hlt:p<n
   ·have hlt':(p:Int)<(n:Int):=by omega
    have HGp:=Lib.hid (HG.out p wr hBw)
    have hR:=hPR.out
    have hlne:(0::r).drop p≠[]:=by
     intro e
     have:=congrArg List.length e
     rw [List.length_drop,HN.out] at this
     simp at this;omega
    rw [rgE_gtx] at HGp
    unfold gtx at HGp
    cases hf:fz ((0::r).drop p) with
    | none =>
     have hpr:=pr_none ((0::r).drop p) [] hf (by simpa using hlne)
     rw [hpr] at hR
     have HR:=Lib.hid (show prV (0::r)=none by rw [HP.out,hR];rfl)
     rw [hf] at HGp
     simp only [Option.map_none] at HGp
     clear hpr hR hlne hf hPR
     go_wp2_with (go_at_call 72;((with_reducible refine (HGp.out).mono ?_);rintro e w1 ⟨rfl,rfl⟩))
     refine bodyPost_ret (v:=.tuple #[.slice none 0 0,.bool false]) (by simp [results,Tryz.results38,go_sem]) rfl ⟨.inl ⟨HR.out,rfl⟩,hBw⟩
    | some i =>
     have hpr:=pr_some ((0::r).drop p) i [] hf
     rw [List.nil_append] at hpr
     obtain⟨h1,h2,h3⟩:=fz_some hf
     rw [List.length_drop,HN.out] at h1
     have htl:(((0::r).drop p).take i).length=i:=by rw [List.length_take,List.length_drop,HN.out];omega
     rw [hf] at HGp
     simp only [Option.map_some] at HGp
     have hTs:=mkB_size (((0::r).drop p).take i)
     rw [htl] at hTs
     by_cases hi0:i=0
     ·subst hi0
      rw [List.take_zero,if_pos rfl] at hpr
      rw [hpr] at hR
      have HR:=Lib.hid (show prV (0::r)=none by rw [HP.out,hR];rfl)
      have em:mkB (((0::r).drop p).take 0)=⟨#[]⟩:=by rw [List.take_zero];rfl
      rw [em] at HGp
      clear hpr hR hlne hf hPR h1 h2 h3 htl hTs em
      go_wp2_with (go_at_call 72;((with_reducible refine (HGp.out).mono ?_);rintro e w1 ⟨rfl,rfl⟩))
      refine bodyPost_ret (v:=.tuple #[.slice none 0 0,.bool false]) (by simp [results,Tryz.results38,go_sem]) rfl ⟨.inl ⟨HR.out,rfl⟩,hBw⟩
     ·have hnn:¬ ((0::r).drop p).take i=[]:=fun e=>by
       have:=congrArg List.length e
       rw [htl] at this
       exact hi0 this
      rw [if_neg hnn] at hpr
      rw [hpr,Option.map_map,List.drop_drop] at hR
      obtain⟨t,htt⟩:∃ t,((0::r).drop p).take i=t:=⟨_,rfl⟩
      rw [htt] at hR HGp hTs htl
      have hR2:pr [] r=(pr [] ((0::r).drop (p+(i+1)))).map ((pre++[t])++·):=by
       rw [hR]
       congr 1
       funext us
       simp
      have HR2:=Lib.hid hR2
      have hcells:pre.map eT++[.string (mkB t)]=(pre++[t]).map eT:=by simp [eT]
      obtain⟨T,hT⟩:∃ T,mkB t=T:=⟨_,rfl⟩
      rw [hT] at HGp hTs hcells
      have HCL:=Lib.hid hcells
      have hte:T.toList.isEmpty=false:=by
       rw [Lib.toList_data,← hT,mkB_list]
       cases t with
       | nil=>simp at htl;omega
       | cons _ _=>rfl
      clear hpr hR hlne hf hPR h2 h3 htl htt hnn hR2 hcells hT
      go_wp2_with (first
       | (go_at_call 72;((with_reducible refine (HGp.out).mono ?_);rintro e w1 ⟨rfl,rfl⟩))
       | (at_builtin;refine wpList_append_own _ rfl _ _ 65 rfl w.heap.size 9 ii (.string ⟨#[]⟩) 1 16 Tryz.underlying65 hi hz0 hz1 hz2 rfl (by decide) _ m _ rfl (hown.alloc _) ⟨wr.heap.size,0,none⟩ 1 1 [.string T] rfl rfl (World.news_of_block (cs:=#[.string T]) (t:=9) (fr:=(0,0)) (heap_alloc_last wr _)) (by simp [Value.oneCell']) (by unfold maxLen;omega) (by omega) (by simp;omega) ?_;intro v' w3 hown3 hgrow3 _))
      go_roundw
      case rel =>
       rw [HCL.out] at hown3
       exact⟨pre++[_],p+(i+1),m+1,by go_num,by omega,by omega,by omega,hown3,Lib.hid (by rw [List.length_append,hPL.out];rfl),HR2,(hBw.alloc hsz _).grown hgrow3 (by simp;omega) (own_base hown)⟩
      case measure=>simp [intOf];omega
   ·obtain rfl:p=n:=by omega
    obtain⟨va,vc,rfl⟩:=owns_slice hown
    have hz0':(0::r).drop p=[]:=List.drop_eq_nil_of_le (by rw [HN.out];exact Nat.le_refl _)
    have hR:=hPR.out
    rw [hz0'] at hR
    have hR:pr [] r=some pre:=by rw [hR];simp [pr]
    have hpl:=hPL.out
    have HW:Hid (Rw eT wr (.slice va pre.length vc) pre):=Lib.hid (by rw [← hpl] at hown;rw [hpl] at hown ⊢;subst hpl;exact Rw.own hown)
    have HR:=Lib.hid hR
    clear hz0' hR hpl hPR
    go_wp2
    refine bodyPost_ret (v:=.tuple #[.slice va m vc,.bool true]) (by simp [results,Tryz.results38,go_sem]) rfl ⟨.inr ⟨pre,va,vc,by rw [HP.out,HR.out],by rw [hPL.out],HW.out⟩,hBw⟩
 ·have hnd:((d.toNat:Int)==0)=false:=byte_ne (d:=0) hd
  have HR:=Lib.hid (show prV (d::r)=none by show (if d=0 then pr [] r else none)=none;rw [if_neg hd])
  obtain⟨x,hx2⟩:∃ x:Int,(d.toNat:Int)=x:=⟨_,rfl⟩
  rw [hx2] at hx hnd
  clear h hn hc hcc HG hd hx2
  go_enter Tryz.func38,Tryz.ntmps38
  go_wp2
  refine bodyPost_ret (v:=.tuple #[.slice none 0 0,.bool false]) (by simp [results,Tryz.results38,go_sem]) rfl ⟨.inl ⟨HR.out,rfl⟩,Below.refl _ _⟩
end Go.Proofs.YtohkgdfkklfgmaaGreatDoor.L14
end
section
set_option maxRecDepth 100000
set_option maxHeartbeats 2000000
namespace Go.Proofs.YtohkgdfkklfgmaaGreatDoor.L14
set_option maxRecDepth 100000
open Go.RowKit Go.Shelf
attribute [local go_sem] Oper.semAt_some
abbrev Pt (l:List UInt8):Type:={ x:Sg // x∈sg 0 [] l }
def pts (l:List UInt8):List (Pt l):=(sg 0 [] l).attach
abbrev ptV (b o c:Nat) (l:List UInt8) (x:Pt l):Array Value:=#[.int .i64 (x.1.at':Int),.slice (some ⟨b,o+x.1.at',none⟩) x.1.t.length (c-x.1.at')]
theorem pts_len (l:List UInt8):(pts l).length=(sg 0 [] l).length:=by simp [pts]
theorem pts_map {β:Type} (l:List UInt8) (f:Sg→β):(pts l).map (fun x=>f x.1)=(sg 0 [] l).map f:=by
 unfold pts
 rw [List.attach_map_val]
theorem pt_in {l:List UInt8} (x:Pt l):x.1.at'+x.1.t.length<l.length∧∀ j (h:j<x.1.t.length) (h2:x.1.at'+j<l.length),x.1.t[j]=l[x.1.at'+j]:=by
 obtain⟨k,h1,h2,h3⟩:=sg_in l 0 [] x.1 x.2
 rw [Nat.zero_add] at h1
 refine⟨by rw [h1];simpa using h2,fun j h hj=>?_⟩
 have:=h3 j h
 rw [List.nil_append,← h1,List.getElem?_eq_getElem h,List.getElem?_eq_getElem hj] at this
 exact Option.some.inj this
structure Lo (n₀:Nat) (w:World) (a:Option Addr) (c b o:Nat) (l:List UInt8):Prop where
 cap:l.length≤c
 nil:a=none→c=0
 adr:0<l.length→a=some ⟨b,o,none⟩∧b<n₀
 cel:∀ j,(h:j<l.length)→w.cell? ⟨b,o+j,none⟩=some (eB l[j])
theorem Lo.below {n₀:Nat} {w w':World} {a:Option Addr} {c b o:Nat} {l:List UInt8} (h:Lo n₀ w a c b o l) (hb:Below n₀ w w'):Lo n₀ w' a c b o l :=
 ⟨h.cap,h.nil,h.adr,fun j hj=>(hb.cell (by exact (h.adr (by omega)).2)).trans (h.cel j hj)⟩
theorem Lo.rw {n₀:Nat} {w:World} {a:Option Addr} {c b o:Nat} {l:List UInt8} (h:Lo n₀ w a c b o l) (hn:n₀≤w.heap.size):Rw eB w (.slice a l.length c) l :=
 ⟨a,c,rfl,h.cap,h.nil,fun hp=>⟨b,o,(h.adr hp).1,Nat.lt_of_lt_of_le (h.adr hp).2 hn,h.cel⟩⟩
theorem Rw.lo {w:World} {a:Option Addr} {n c:Nat} {l:List UInt8} (h:Rw eB w (.slice a n c) l):∃ b o,Lo w.heap.size w a c b o l:=by
 obtain⟨h0,h1,h2,h3⟩:=h.at
 by_cases hp:0<n
 ·obtain⟨b,o,e,hb,hc⟩:=h3 hp
  exact⟨b,o,by omega,h2,fun _=>⟨e,hb⟩,hc⟩
 ·exact⟨0,0,by omega,h2,fun h=>by omega,fun j hj=>by omega⟩
theorem Lo.pt {n₀:Nat} {w:World} {a:Option Addr} {c b o:Nat} {l:List UInt8} (h:Lo n₀ w a c b o l) (hn:n₀≤w.heap.size) (x:Pt l):Rw eB w (.slice (some ⟨b,o+x.1.at',none⟩) x.1.t.length (c-x.1.at')) x.1.t:=by
 obtain⟨h1,h2⟩:=pt_in x
 have hc:=h.cap
 refine⟨_,_,rfl,by omega,fun e=>(by cases e),fun hp=>⟨b,o+x.1.at',rfl,Nat.lt_of_lt_of_le (h.adr (by omega)).2 hn,fun j hj=>?_⟩⟩
 rw [h2 j hj (by omega),Nat.add_assoc]
 exact h.cel _ (by omega)
theorem grown_of_below {w w':World} (h:Below w.heap.size w w'):w.grownBy w' none:=⟨h.os,h.tape,h.output,h.size,fun k hk _=>h.block k hk⟩
theorem keeps_below {W W':World} (h:Below W.heap.size W W'):KeepsOthers W W':=⟨h.size,fun k _ hk _=>(h.block k (lt_of_block hk)).trans hk⟩
theorem Boxed.below {W W':World} {B:Nat} {t:TypeId} {v:Value} (h:Boxed W B t v) (hb:Below W.heap.size W W'):Boxed W' B t v:=(hb.block B h.lt).trans h
theorem box_putObj {W:World} {B:Nat} {t:TypeId} {v:Value} (h:Boxed W B t v) {l:Nat} {o:Obj} (o':Obj) (hl:W.heap[l]?=some o) (ho:o.isCells=false):Boxed (W.putObj l o') B t v :=
 h.kept (grownBy_putObj' W l o') (fun e=>by
  cases e
  have h':W.heap[B]?=some (.cells #[v] t (0,0)):=h
  rw [h'] at hl;cases hl;cases ho)
def Kq (n Bn:Nat) (v:Value) (A B:World):Prop:=Below n A B∧(Boxed A Bn 23 v→Boxed B Bn 23 v)
theorem Kq.t {n Bn:Nat} {v:Value} {A B C:World} (h:Kq n Bn v A B) (k:Kq n Bn v B C):Kq n Bn v A C:=⟨h.1.trans k.1,fun x=>k.2 (h.2 x)⟩
theorem Kq.b {n Bn:Nat} {v:Value} {w:World} (hn:n≤w.heap.size) (W:World) (l:Nat) (o o':Obj) (hl:w.heap.size≤l) (h:W.heap[l]?=some o) (ho:o.isCells=false) (hw:o.isWalk=false):Kq n Bn v W (W.putObj l o'):=⟨belowK_b hn W l o o' hl h ho hw,fun x=>box_putObj x o' h ho⟩
theorem pts_step (l:List UInt8) (k p i:Nat) (h:(sg 0 [] l).drop k=⟨p,(l.drop p).take i⟩::sg (p+i+1) [] (l.drop (p+i+1))) :
  ∃ x:Pt l,x.1=⟨p,(l.drop p).take i⟩∧(pts l).take (k+1)=(pts l).take k++[x]∧k<(pts l).length∧(sg 0 [] l).drop (k+1)=sg (p+i+1) [] (l.drop (p+i+1)):=by
 have hk:k<(sg 0 [] l).length:=by
  rcases Nat.lt_or_ge k (sg 0 [] l).length with h'|h'
  ·exact h'
  ·rw [List.drop_eq_nil_of_le h'] at h;cases h
 have hk2:k<(pts l).length:=by rw [pts_len];exact hk
 rw [List.drop_eq_getElem_cons hk] at h
 injection h with h1 h2
 refine⟨(pts l)[k],?_,take_snoc _ _ hk2,hk2,h2⟩
 rw [← h1]
 simp [pts]
theorem parts_in (n:Nat) (hn:2≤n) (lp Bn n₀:Nat) (a:Option Addr) (N c b o:Nat) (l:List UInt8) (hN:l.length=N) (hl:N≤1000000) (J Jx:List (Pt l)→World→Prop) (W:World) (hJ:AbidesFrom W.heap.size J)
  (hY:∀ pre x W1,J pre W1→pre.length<(pts l).length→YieldAt Fence.wide (n-1) Tryz.prog lp (ptV b o c l x) W1 fun e W' =>
   (e=.returned (.bool true)∧J (pre++[x]) W'∧Kq n₀ Bn (.slice a N c) W1 W')∨(e=.returned (.bool false)∧Jx (pre++[x]) W'))
  (hBn:Boxed W Bn 23 (.slice a N c)) (hv:Lo n₀ W a c b o l) (hn₀:n₀≤W.heap.size) (h0:J [] W) :
  CallsIn Fence.wide n Tryz.prog 141 #[.func (.yield lp) #[] #[],.pointer (some ⟨Bn,0,none⟩)] W fun e W'=>(∃ v,e=.returned v) ∧
   ((∃ ys,ys=pts l∧J ys W')∨(∃ pre,pre <+: pts l∧Jx pre W')):=by
 have HN:=Lib.hid hN
 have HV:=Lib.hid hv
 have HY:=Lib.hid hY
 have HJ:=Lib.hid hJ
 have hc:N≤c:=by have:=hv.cap;omega
 clear hv hN hY hJ
 refine callsIn_of_wp Tryz.func141 rfl trivial ?_ rfl
 simp only [Tryz.ntmps141,List.size_toArray,List.length_cons,List.length_nil,Nat.reduceAdd,Nat.reduceSub,Array.replicate_succ,Array.replicate_zero,List.push_toArray,List.append_toArray,List.nil_append,List.cons_append]
 gi_wp2
 have h1n:1≤n:=by omega
 gi_loopw [3] (fun r wr=>∃ p k:Nat,p≤N∧r=.int .i64 (p:Int)∧Boxed wr Bn 23 (.slice a N c)∧Hid ((sg 0 [] l).drop k=sg p [] (l.drop p))∧Hid (Below n₀ W wr∧W.heap.size≤wr.heap.size∧J ((pts l).take k) wr)) (fun r _=>N-(intOf r).toNat)
 case atStart=>exact⟨0,0,Nat.zero_le _,rfl,hBn,Lib.hid (by simp),Lib.hid ⟨Below.refl _ _,Nat.le_refl _,by simpa using h0⟩⟩
 case round =>
  obtain⟨p,k,hp,rfl,hbx,hS,hr⟩:=hrel
  obtain⟨hB,hz,hJr⟩:=hr.out
  have hcell:=hbx.cell
  have hrw:=(HV.out.below hB).rw (Nat.le_trans hn₀ hz)
  rw [HN.out] at hrw
  have hd:=hrw.drop p hp
  have hs:=run_from und8 size8 a N c p hp hc
  have b0:=bnew wr (.cells #[.int .u8 0] 5)
  have hg:(wr.alloc (.cells #[.int .u8 0] 5)).cell? ⟨wr.heap.size,0,none⟩=some (.int .u8 0):=cell_new wr _ _
  cases hf:fz (l.drop p) with
  | none =>
   have e1:(pts l).take k=pts l:=by
    have h1:=hS.out
    rw [sg_none _ _ _ hf,List.drop_eq_nil_iff] at h1
    exact List.take_of_length_le (by rw [pts_len];exact h1)
   have HJ2:=Lib.hid (show ∀ m,J (pts l) ((wr.alloc (.cells #[.int .u8 0] 5)).drewN m) from fun m=>by
    rw [← e1]
    exact HJ.out _ _ _ none hJr (grown_of_below (bdN b0 m)) (fun r e=>by cases e))
   have HC:=Lib.hid (callsIn_wide (n:=n-1).2 (cut_none _ _ _ (l.drop p) wr.heap.size _ (hd.below b0) hg hf))
   generalize (if c=p then a else a.map (·.add p))=a2 at hs HC
   generalize c-p=c2 at hs HC
   generalize N-p=n2 at hs HC
   clear hrw hd hg hf e1 hB hz hJr hr hS
   gi_wp2_with (refine⟨trivial,?_⟩;gi_at_call 142;((with_reducible refine (HC.out).mono ?_);rintro e w1 ⟨rfl,m,rfl⟩))
   refine⟨fun f h=>(by cases h),?_⟩
   gi_wp2
   refine bodyPost_ret (results_none rfl _ _ _) rfl ?_
   exact⟨⟨_,rfl⟩,.inl ⟨_,rfl,HJ2.out m⟩⟩
  | some i =>
   obtain⟨hi1,-,-⟩:=fz_some hf
   rw [List.length_drop,HN.out] at hi1
   have hpi:p+i+1≤N:=by omega
   have hS1:=hS.out
   rw [sg_some _ _ _ _ hf,List.nil_append,List.length_nil,Nat.add_zero,List.drop_drop,← Nat.add_assoc] at hS1
   obtain⟨x,hx,hpre,hkl,hS2⟩:=pts_step l k p i hS1
   have htl:((l.drop p).take i).length=i:=by rw [List.length_take,List.length_drop,HN.out];omega
   have ha:(if c=p then a else a.map (·.add p))=some ⟨b,o+p,none⟩:=by
    rw [if_neg (by omega),(HV.out.adr (by rw [HN.out];omega)).1]
    simp [add0]
   rw [ha] at hs hd
   have HC:=Lib.hid (callsIn_wide (n:=n-1).2 (cut_some _ _ _ (l.drop p) wr.heap.size i _ (by omega) (hd.below b0) hg hf))
   have HJn:=Lib.hid (fun m=>HJ.out ((pts l).take k) wr ((wr.alloc (.cells #[.int .u8 0] 5)).drewN m) none hJr (grown_of_below (bdN b0 m)) (fun r e=>by cases e))
   have HYn:=Lib.hid (fun (m:Nat)=>by
    have:=HY.out ((pts l).take k) x _ (HJn.out m) (by rw [List.length_take];omega)
    unfold ptV at this
    rw [hx] at this
    simp only [htl] at this
    rw [← hpre] at this
    exact this)
   have HS:=Lib.hid hS2
   have HB:=Lib.hid (And.intro hB hz)
   have hbm:=Lib.hid (fun m=>Boxed.below hbx (bdN b0 m))
   generalize c-p=c2 at hs HC HYn
   generalize N-p=n2 at hs HC hi1
   clear hrw hd hg hf hB hz hJr hr hS hS1 hx hpre hkl hS2 htl ha
   gi_wp2_with (refine⟨trivial,?_⟩;gi_at_call 142;((with_reducible refine (HC.out).mono ?_);rintro e w1 ⟨⟨v2,rfl⟩,m,rfl⟩;obtain⟨fn,tmps,assign,body,hy,hYR⟩:=HYn.out m))
   refine hYR.mono ?_
   rintro e W3 (⟨rfl,hJ3,hk3,hb3⟩|⟨rfl,hJx3⟩)
   ·have hbx3:=hb3 (hbm.out m)
    have HK:=Lib.hid (HB.out.1.trans (((bdN b0 m).mono (Nat.le_trans hn₀ HB.out.2)).trans hk3))
    have HZ:=Lib.hid (show W.heap.size≤W3.heap.size from Nat.le_trans HB.out.2 (Nat.le_trans (by simp) hk3.size))
    have HJ3:=Lib.hid hJ3
    clear HYn hYR HC hb3 hk3 hJ3
    gi_wp2
    go_roundw
    case rel=>exact⟨p+i+1,k+1,by omega,by go_num,hbx3,HS,Lib.hid ⟨HK.out,HZ.out,HJ3.out⟩⟩
    case measure=>simp [intOf];omega
   ·have HJX:=Lib.hid hJx3
    have HT:=Lib.hid (show (pts l).take (k+1) <+: pts l from List.take_prefix _ _)
    clear HYn hYR HC hJx3
    gi_wp2
    refine bodyPost_ret (results_none rfl _ _ _) rfl ?_
    exact⟨⟨_,rfl⟩,.inr ⟨_,HT.out,HJX.out⟩⟩
theorem parts_fn (v:Value) (a:Option Addr) (n c:Nat) (hv:v=.slice a n c) (w:World):Calls Tryz.prog 96 #[v] w fun e w'=>e=.returned (.func (.func 141) #[] #[.pointer (some ⟨w.heap.size,0,none⟩)])∧w'=w.alloc (.cells #[v] 23):=by
 subst hv
 have hmf:(Instr.makeFunc (.func 141) #[] #[.pointer (some ⟨w.heap.size,0,none⟩)]).run Tryz.prog (w.alloc (.cells #[.slice a n c] 23))=.ok (.func (.func 141) #[] #[.pointer (some ⟨w.heap.size,0,none⟩)]) (w.alloc (.cells #[.slice a n c] 23)):=by rfl
 go_enter Tryz.func96,Tryz.ntmps96
 go_wp2
 go_ret
 exact⟨rfl,rfl⟩
theorem stops_at (n:Nat) (hn:2≤n) (Bn n₀:Nat) (a:Option Addr) (N c b o:Nat) (l:List UInt8) (hN:l.length=N) (hl:N≤1000000) (w:World) (hn₀:n₀≤w.heap.size) (hc:∀ W,Below w.heap.size w W→Boxed W Bn 23 (.slice a N c)) (hv:Lo n₀ w a c b o l) :
  SeqStopsK Fence.wide n Tryz.prog 141 #[.pointer (some ⟨Bn,0,none⟩)] (ptV b o c l) (Kq n₀ Bn (.slice a N c)) (fun ys=>ys=pts l) (fun pre=>pre <+: pts l) (pts l).length w:=fun lp J Jx W hW hJ _ hY hj =>
 parts_in n hn lp Bn n₀ a N c b o l hN hl J Jx W hJ hY (hc W hW) (hv.below (hW.mono hn₀)) (Nat.le_trans hn₀ hW.size) hj
end Go.Proofs.YtohkgdfkklfgmaaGreatDoor.L14
end
