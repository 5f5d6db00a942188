/- Lemmas and walks of L16Sm, L14Sm, L14Mm, L14Gt, L14Rb, L15Fn, L15Ck, L15Sa, L15Mv, L14Rp, L14Lw, L16Ob, L15Rw, L17Vc, L14Op, L16Rn, L16Rp, L16Qf, L15Rr, L16Rq, L16Ry, L16Rz, L17Lb: what each theorem states; conditions stand in each theorem. -/
import Derived.Test.YtihiggnglmhggaaGreatDoorMQ
set_option maxHeartbeats 16000000
set_option maxRecDepth 100000
section
section
namespace Go.Proofs.YtihiggnglmhggaaGreatDoor.L16
open L15
theorem ndA_lt (d:List UInt8) (i:Nat):0≤ndA d i∧ndA d i<4294967296:=by
 have h1:=va_lt (sub d i 4)
 have h2:(sub d i 4).length≤4:=by unfold sub;rw [List.length_take];omega
 have h3:256 ^ (sub d i 4).length≤256 ^ 4:=Nat.pow_le_pow_right (by decide) h2
 unfold ndA
 omega
end Go.Proofs.YtihiggnglmhggaaGreatDoor.L16
end
section
namespace Go.Proofs.YtihiggnglmhggaaGreatDoor.L14
def gtx (l:List UInt8) (off:Nat):Option (List UInt8):=(fz (l.drop off)).map fun i=>(l.drop off).take i
theorem pr_none:∀ (l a:List UInt8),fz l=none→a++l≠[]→pr a l=none
 | [],a,_,h=>by
  have:a≠[]:=by simpa using h
  rw [pr,if_neg this]
 | c::r,a,hf,_=>by
  unfold fz at hf
  by_cases hc:c=0
  ·rw [if_pos hc] at hf;cases hf
  ·rw [if_neg hc] at hf
   rw [pr,if_neg hc,pr_none r (a++[c]) (by simpa using hf) (by simp)]
theorem pr_some:∀ (l:List UInt8) (i:Nat) (a:List UInt8),fz l=some i→pr a l=if a++l.take i=[] then none else (pr [] (l.drop (i+1))).map ((a++l.take i)::·)
 | [],i,_,h=>by simp [fz] at h
 | c::r,i,a,h=>by
  unfold fz at h
  by_cases hc:c=0
  ·rw [if_pos hc] at h
   cases h
   rw [pr,if_pos hc]
   simp
  ·rw [if_neg hc] at h
   cases hf:fz r with
   | none=>rw [hf] at h;cases h
   | some j =>
    rw [hf] at h
    cases h
    rw [pr,if_neg hc,pr_some r j (a++[c]) hf,List.take_succ_cons,List.drop_succ_cons,List.append_assoc]
    rfl
end Go.Proofs.YtihiggnglmhggaaGreatDoor.L14
end
section
namespace Go.Proofs.YtihiggnglmhggaaGreatDoor.L14
open Go.RowKit
attribute [local go_sem] Oper.semAt_some
theorem mkB_app (a b:List UInt8):mkB a++mkB b=mkB (a++b):=by
 apply ByteArray.ext;simp [mkB]
end Go.Proofs.YtihiggnglmhggaaGreatDoor.L14
end
section
namespace Go.Proofs.YtihiggnglmhggaaGreatDoor.L14
open Go.RowKit
attribute [local go_sem] Oper.semAt_some
def gtI (l:List UInt8) (off:Int):Option (List UInt8):=if 0≤off then gtx l off.toNat else none
theorem gtx_some {l:List UInt8} {k:Nat} {t:List UInt8} (h:gtx l k=some t):∃ i,fz (l.drop k)=some i∧t=(l.drop k).take i:=by
 unfold gtx at h
 cases hf:fz (l.drop k) with
 | none=>rw [hf] at h;cases h
 | some i=>rw [hf] at h;cases h;exact⟨i,rfl,rfl⟩
theorem gtx_lt {l:List UInt8} {k:Nat} {t:List UInt8} (h:gtx l k=some t):k<l.length:=by
 obtain⟨i,hi,-⟩:=gtx_some h
 have:=(fz_some hi).1
 rw [List.length_drop] at this;omega
def rgE (l:List UInt8) (off:Int):Ending:=match gtI l off with
 | none=>.returned (.tuple #[.string ⟨#[]⟩,.bool false])
 | some t=>.returned (.tuple #[.string (mkB t),.bool true])
theorem fz_cons0 (r:List UInt8):fz (0::r)=some 0:=by rw [fz,if_pos rfl]
theorem fz_consN {c:UInt8} (h:¬ c=0) (r:List UInt8):fz (c::r)=(fz r).map (·+1):=by rw [fz,if_neg h]
theorem rget_at (v:Value) (l:List UInt8) (off:Int) (w:World) (hl:l.length≤1000000000) (h:Rw eB w v l) :
  Calls Tryz.prog 114 #[v,.int .i64 off] w fun e w'=>e=rgE l off∧w=w':=by
 obtain⟨n,hn⟩:∃ n,l.length=n:=⟨_,rfl⟩
 obtain⟨a,c,rfl,hc,-,hcl⟩:=h.form hn
 obtain⟨R,hR⟩:∃ R,rgE l off=R:=⟨_,rfl⟩
 rw [hR]
 unfold rgE gtI at hR
 by_cases h0:0≤off
 ·obtain⟨k,rfl⟩:∃ k:Nat,off=(k:Int):=⟨off.toNat,by omega⟩
  rw [if_pos h0,Int.toNat_natCast] at hR
  by_cases hk:k<n
  ·have HG:Hid (gtx l k=(fz (l.drop (k+0))).map fun i=>(l.drop k).take (0+i)):=Lib.hid (by simp [gtx])
   have HL:=Lib.hid h
   have HCL:=Lib.hid hcl
   have HN:=Lib.hid hn
   have HR:=Lib.hid hR
   rw [hn] at hl
   clear h hcl hn hR
   go_enter Tryz.func114,Tryz.ntmps114
   go_wp2
   go_loop [6,7] (fun s i=>∃ q:Nat,k+q≤n∧i=.int .i64 ((k:Int)+(q:Int))∧Hid (gtx l k=(fz (l.drop (k+q))).map fun i=>(l.drop k).take (q+i))∧∃ T:ByteArray,s=.string T∧T.size=q∧Hid (T=mkB ((l.drop k).take q))) (fun _ i=>n-(RowKit.intOf i).toNat)
   case atStart=>exact⟨0,by omega,by simp,HG,⟨#[]⟩,rfl,rfl,Lib.hid (by simp [mkB])⟩
   case round =>
    obtain⟨q,hq,rfl,hG,T,rfl,hTs,hT⟩:=hrel
    clear HG
    by_cases hlt:k+q<n
    ·have hkl:k+q<l.length:=by rw [HN.out];exact hlt
     obtain⟨b,o,rfl,hb,hcc⟩:=HCL.out (by omega)
     have hx:=hcc (k+q) hkl
     have hd:l.drop (k+q)=l[k+q]::l.drop (k+q+1):=List.drop_eq_getElem_cons hkl
     have hG1:=hG.out
     rw [hd] at hG1
     have hlt':(k:Int)+(q:Int)<(n:Int):=by omega
     have hx2:w.cell? ⟨b,o+(k+q),none⟩=some (.int .u8 (l[k+q].toNat:Int)):=hx
     by_cases hz:l[k+q]=0
     ·rw [hz,fz_cons0] at hG1
      rw [hz] at hx2
      have HT:Hid (R=.returned (.tuple #[.string T,.bool true])):=Lib.hid (by rw [← HR.out,hG1,hT.out];rfl)
      have e0:((0:UInt8).toNat:Int)=0:=rfl
      rw [e0] at hx2
      clear hx hcc hd hG1 hG hz hT
      go_wp2
      refine bodyPost_ret (v:=.tuple #[.string T,.bool true]) (by simp [results,Tryz.results114,go_sem]) rfl ⟨HT.out.symm,rfl⟩
     ·rw [fz_consN hz,Option.map_map] at hG1
      have hne:((l[k+q].toNat:Int)==0)=false:=byte_ne (d:=0) hz
      have hs1:=run_part und8 size8 (some ⟨b,o,none⟩) n c (k+q) (k+q+1) (by omega) (by omega) hc
      have hv1:=(HL.out.drop (k+q) (by omega)).take 1 (by omega)
      rw [hd] at hv1
      have hcv:=conv_at hv1
      rw [show k+q+1-(k+q)=1 by omega] at hs1
      generalize (if c=k+q then some (⟨b,o,none⟩:Addr) else (some (⟨b,o,none⟩:Addr)).map (·.add (k+q)))=a2 at hs1 hcv
      generalize c-(k+q)=c2 at hs1 hcv
      have e1:((k+q:Nat):Int)=(k:Int)+(q:Int):=by omega
      have e2:((k+q+1:Nat):Int)=(k:Int)+(q:Int)+1:=by omega
      rw [e1,e2] at hs1
      obtain⟨U,hU⟩:∃ U,mkB ((l[k+q]::l.drop (k+q+1)).take 1)=U:=⟨_,rfl⟩
      rw [hU] at hcv
      have hTU:T++U=mkB ((l.drop k).take (q+1)):=by
       rw [hT.out,← hU,mkB_app]
       congr 1
       rw [List.take_add_one (i:=q),List.getElem?_drop,List.getElem?_eq_getElem hkl];rfl
      have hUs:U.size=1:=by rw [← hU,mkB_size];rfl
      have hG2:gtx l k=(fz (l.drop (k+(q+1)))).map fun i=>(l.drop k).take (q+1+i):=by
       rw [hG1,Nat.add_assoc]
       congr 1
       funext i
       show (l.drop k).take (q+(i+1))=_
       congr 1;omega
      have HG2:=Lib.hid hG2
      have HTU:=Lib.hid hTU
      have hT1:T.size+U.size≤9223372036854775807:=by omega
      have hT2:T.size+U.size≤maxLen:=by unfold maxLen;omega
      obtain⟨d,hd2⟩:∃ d:Int,(l[k+q].toNat:Int)=d:=⟨_,rfl⟩
      rw [hd2] at hx2 hne
      have hx3:w.cell? ⟨b,o+((k:Int)+(q:Int)).toNat,none⟩=some (.int .u8 d):=by rw [← hx2];congr 2
      clear hx hcc hd hG1 hG hz hT hTU hU hG2 hv1 e1 e2 hd2
      go_wp2
      go_round
      case rel=>exact⟨q+1,by omega,by go_num,HG2,T++U,rfl,by rw [ByteArray.size_append];omega,HTU⟩
      case measure=>simp [RowKit.intOf];omega
    ·obtain rfl:n=k+q:=by omega
     have hG1:=hG.out
     have hz0:l.drop (k+q)=[]:=List.drop_eq_nil_of_le (by rw [HN.out];exact Nat.le_refl _)
     rw [hz0] at hG1
     have HT:Hid (R=.returned (.tuple #[.string ⟨#[]⟩,.bool false])):=Lib.hid (by rw [← HR.out,hG1];rfl)
     have hge:¬ ((k:Int)+(q:Int)<((k+q:Nat):Int)):=by omega
     clear hG hG1 hT hz0
     go_wp2
     refine bodyPost_ret (v:=.tuple #[.string ⟨#[]⟩,.bool false]) (by simp [results,Tryz.results114,go_sem]) rfl ⟨HT.out.symm,rfl⟩
  ·have hgt:gtx l k=none:=by
    cases hq:gtx l k with
    | none=>rfl
    | some t=>have:=gtx_lt hq;omega
   rw [hgt] at hR
   have hR:=hR.symm
   subst hR
   have hge:¬ ((k:Int)<(n:Int)):=by omega
   clear h hn hgt hcl
   go_enter Tryz.func114,Tryz.ntmps114
   go_wp2
   refine wp_loop_rounds 1 ?_
   rw [rounds_succ]
   go_wp2
   refine bodyPost_ret (v:=.tuple #[.string ⟨#[]⟩,.bool false]) (by simp [results,Tryz.results114,go_sem]) rfl ⟨rfl,rfl⟩
 ·rw [if_neg h0] at hR
  have hR:=hR.symm
  subst hR
  have hneg:off<0:=by omega
  clear h hn hcl
  go_enter Tryz.func114,Tryz.ntmps114
  go_wp2
  refine bodyPost_ret (v:=.tuple #[.string ⟨#[]⟩,.bool false]) (by simp [results,Tryz.results114,go_sem]) rfl ⟨rfl,rfl⟩
end Go.Proofs.YtihiggnglmhggaaGreatDoor.L14
end
section
namespace Go.Proofs.YtihiggnglmhggaaGreatDoor.L14
open Go.RowKit
attribute [local go_sem] Oper.semAt_some
theorem strCells_is (t:List UInt8):Lib.strCells (mkB t)=t.map eB:=by
 unfold Lib.strCells
 rw [mkB_list]
theorem rbuild_at (v:Value) (l:List (List UInt8)) (w:World) (h:Rw eT w v l) (hl:l.length≤100000) (ht:tot l≤1000000) :
  Calls Tryz.prog 115 #[v] w fun e w'=>(∃ a1 c1 a2 c2,e=.returned (.tuple #[.slice a1 (tb l).length c1,.slice a2 l.length c2])∧Rw eB w' (.slice a1 (tb l).length c1) (tb l)∧Rw eN w' (.slice a2 l.length c2) (ofs 1 l))∧Below w.heap.size w w':=by
 obtain⟨ii,hi,hz0,hz1,hz2⟩:=info_parts infoInt
 obtain⟨ib,ki,kz0,kz1,kz2⟩:=info_parts infoByte
 obtain⟨n,hn⟩:∃ n,l.length=n:=⟨_,rfl⟩
 obtain⟨a,c,rfl,-,-,hc⟩:=h.form hn
 rw [hn] at hl
 have HN:=Lib.hid hn
 have HC:=Lib.hid hc
 have HT:=Lib.hid ht
 have hr0:(w.alloc (.cells #[.int .u8 0] 5)).ownsRow w.heap.size 5 1 (.slice (some ⟨w.heap.size,0,none⟩) 1 1) 1 [.int .u8 0]:=World.ownsRow_lit w #[.int .u8 0] 1 (Nat.le_refl _) (by unfold maxLen;omega) rfl
 have HR0:=Lib.hid hr0
 have b0:=Lib.hid (bnew w (.cells #[.int .u8 0] 5))
 clear hn hc h ht hr0
 go_enter Tryz.func115,Tryz.ntmps115
 go_wp2
 go_loopw [4,5,6] (fun b f i wr=>∃ (k L:Nat),k≤n∧L≤1+1000000+k∧i=.int .i64 (k:Int)∧wr.ownsRow w.heap.size 5 1 b L ((tb (l.take k)).map eB)∧wr.ownsRow w.heap.size 3 1 f k ((ofs 1 (l.take k)).map eN)∧Hid ((tb (l.take k)).length=L)∧Below w.heap.size w wr) (fun _ _ i _=>n-(RowKit.intOf i).toNat)
 case atStart=>exact⟨0,1,Nat.zero_le _,by omega,rfl,by rw [List.take_zero];exact HR0.out,by rw [List.take_zero];exact World.ownsRow_nil _ _ _ _,Lib.hid (by simp [tb,bd]),b0.out⟩
 case round =>
  obtain⟨k,L,hk,hL,rfl,hb,hf,hLen,hBw⟩:=hrel
  have hsz:=hBw.size
  by_cases hlt:k<n
  ·have hkl:k<l.length:=by rw [HN.out];exact hlt
   obtain⟨bb,o,rfl,hbb,hcc⟩:=HC.out (by omega)
   have hx0:=hcc k hkl
   unfold eT at hx0
   have hTs:=mkB_size l[k]
   have hst:=tot_step l k hkl
   have hto:=tot_le l (k+1)
   have ht:=HT.out
   have hLk:=hLen.out
   rw [tb_len,List.length_take,HN.out,Nat.min_eq_left hk] at hLk
   have hsn:=take_snoc l k hkl
   have htb:=tb_snoc (l.take k) l[k]
   have hof:=ofs_snoc (l.take k) 1 l[k]
   rw [← hsn] at htb hof
   have hbl:1+(bd (l.take k)).length=L:=by rw [← hLen.out,tb,List.length_cons];omega
   rw [hbl] at hof
   have hsc:=strCells_is l[k]
   obtain⟨T,hT⟩:∃ T,mkB l[k]=T:=⟨_,rfl⟩
   rw [hT] at hx0 hTs hsc
   have hLL:L+T.size+1≤1+1000000+(k+1):=by omega
   have hLen2:(tb (l.take (k+1))).length=L+T.size+1:=by
    rw [htb,List.length_append,List.length_append,hLen.out,hTs];rfl
   have hc1:(tb (l.take k)).map eB++Lib.strCells T++[.int .u8 0]=(tb (l.take (k+1))).map eB:=by
    rw [htb,hsc];simp [eB]
   have hc2:(ofs 1 (l.take k)).map eN++[.int .i64 (L:Int)]=(ofs 1 (l.take (k+1))).map eN:=by
    rw [hof];simp [eN]
   have H1:=Lib.hid hLen2
   have H2:=Lib.hid hc1
   have H3:=Lib.hid hc2
   have hxW:wr.cell? ⟨bb,o+k,none⟩=some (.string T):=(hBw.cell (by exact hbb)).trans hx0
   have hx1:(wr.alloc (.cells #[.int .i64 (L:Int)] 3)).cell? ⟨bb,o+k,none⟩=some (.string T):=((bnew wr _).cell (by exact Nat.lt_of_lt_of_le hbb hsz)).trans hxW
   obtain⟨ba,bc,rfl⟩:=owns_slice hb
   have hbbw:bb<w.heap.size:=hbb
   have HXc:=Lib.hid hx0
   clear hcc hx0 hTs hst hto ht hLk hsn htb hof hbl hsc hT hLen2 hc1 hc2 hxW hx1
   go_wp2_with (first
    | (at_builtin;refine wpList_append_own _ rfl _ _ 46 rfl w.heap.size 3 ii (.int .i64 0) 1 8 Tryz.underlying46 hi hz0 hz1 hz2 rfl (by decide) _ k _ rfl (hf.alloc _) ⟨wr.heap.size,0,none⟩ 1 1 [.int .i64 (L:Int)] rfl rfl (World.news_of_block (cs:=#[.int .i64 (L:Int)]) (t:=3) (fr:=(0,0)) (heap_alloc_last wr _)) (by simp [Value.oneCell']) (by unfold maxLen;omega) (by omega) (by simp;omega) ?_;intro v1 w1 h1 g1 _;have hb1:=own_two (hb.alloc _) (hf.alloc _) (by decide) g1;have z1:wr.heap.size≤w1.heap.size:=(Nat.le_trans (by simp) g1.size);have B1:=(hBw.alloc hsz _).grown g1 (by simp;omega) (own_base hf);have hx:=(B1.cell (p:=⟨bb,o+k,none⟩) (by exact hbbw)).trans HXc.out)
    | (at_builtin;refine Lib.wpList_append_own_string _ rfl _ _ 23 9 rfl w.heap.size 5 ib Tryz.underlying23 Tryz.underlying9 ki kz0 kz1 kz2 _ L _ rfl hb1 T rfl (by unfold maxLen;omega) (by omega) (by omega) ?_;intro v2 w2 h2 g2 _;have hn2:=own_two h1 hb1 (by decide) g2;have z2:w1.heap.size≤w2.heap.size:=g2.size;have B2:=B1.grown g2 (by omega) (own_base hb1))
    | (at_builtin;refine wpList_append_own _ rfl _ _ 23 rfl w.heap.size 5 ib (.int .u8 0) 1 1 Tryz.underlying23 ki kz0 kz1 kz2 rfl (by decide) _ (L+T.size) _ rfl (h2.alloc _) ⟨w2.heap.size,0,none⟩ 1 1 [.int .u8 0] rfl rfl (World.news_of_block (cs:=#[.int .u8 0]) (t:=5) (fr:=(0,0)) (heap_alloc_last w2 _)) (by simp [Value.oneCell']) (by unfold maxLen;omega) (by omega) (by simp;omega) ?_;intro v3 w3 h3 g3 _;have hn3:=own_two (hn2.alloc _) (h2.alloc _) (by decide) g3;have B3:=(B2.alloc B2.size _).grown g3 (by simp;omega) (own_base h2)))
   go_roundw
   case rel =>
    rw [H2.out] at h3
    rw [H3.out] at hn3
    exact⟨k+1,L+T.size+1,by omega,hLL,by go_num,h3,hn3,H1,B3⟩
   case measure=>simp [RowKit.intOf];omega
  ·obtain rfl:k=n:=by omega
   obtain⟨ba,bc,rfl⟩:=owns_slice hb
   obtain⟨fa,fc,rfl⟩:=owns_slice hf
   have e:l.take k=l:=List.take_of_length_le (by rw [HN.out];exact Nat.le_refl _)
   rw [e] at hb hf hLen
   have hlen:=hLen.out
   have hk2:=HN.out
   have HB:=Lib.hid (show Rw eB wr (.slice ba (tb l).length bc) (tb l) by rw [hlen];subst hlen;exact Rw.own hb)
   have HF:=Lib.hid (show Rw eN wr (.slice fa l.length fc) (ofs 1 l) by rw [hk2];have:=ofs_len l 1;rw [hk2] at this;subst this;exact Rw.own hf)
   have HQ:=Lib.hid (And.intro hlen hk2)
   clear e hlen hk2 hb hf
   go_wp2
   refine bodyPost_ret (v:=.tuple #[.slice ba L bc,.slice fa k fc]) (by simp [results,Tryz.results115,go_sem]) rfl ⟨⟨ba,bc,fa,fc,by rw [HQ.out.1,HQ.out.2],HB.out,HF.out⟩,hBw⟩
end Go.Proofs.YtihiggnglmhggaaGreatDoor.L14
end
section
namespace Go.Proofs.YtihiggnglmhggaaGreatDoor.L15
open Go.RowKit L14
attribute [local go_sem] Oper.semAt_some
theorem rup_at (n N:Nat) (w:World) (hn:n≤1000000000000) (hN:up n=N) :
  Calls Tryz.prog 163 #[.int .i64 (n:Int)] w fun e w'=>e=.returned (.int .i64 (N:Int))∧w=w':=by
 have e1:((n:Int)+7).tdiv 8*8=(N:Int):=by
  rw [← hN,Int.tdiv_eq_ediv_of_nonneg (by omega)];unfold up;omega
 have b1:=up_le n
 have HE:=Lib.hid e1
 go_enter Tryz.func163,Tryz.ntmps163
 go_wp2
 go_ret
 exact⟨rfl,rfl⟩
theorem va_drop (l:List UInt8) (j:Nat) (h:j<l.length):va (l.drop j)=l[j].toNat+256*va (l.drop (j+1)):=by
 rw [List.drop_eq_getElem_cons h,va]
theorem sub_get (b:List UInt8) (i n j:Nat) (h:j<n) (h2:i+n≤b.length):∃ (k1:j<(sub b i n).length) (k2:i+j<b.length),(sub b i n)[j]=b[i+j]:=by
 refine⟨by rw [sub_len _ _ _ h2];exact h,by omega,?_⟩
 unfold sub
 rw [List.getElem_take,List.getElem_drop]
theorem rget_at (v:Value) (b:List UInt8) (i n V:Nat) (w:World) (h:Rw eB w v b) (hn:n≤4) (hl:i+n≤b.length) (hb:b.length≤1000000000) (hV:va (sub b i n)=V) :
  Calls Tryz.prog 71 #[v,.int .i64 (i:Int),.int .i64 (n:Int)] w fun e w'=>e=.returned (.int .u64 (V:Int))∧w=w':=by
 obtain⟨N,hN⟩:∃ N,b.length=N:=⟨_,rfl⟩
 obtain⟨a,c,rfl,-,-,hc⟩:=h.form hN
 rw [hN] at hl hb
 have HN:=Lib.hid hN
 have HC:=Lib.hid hc
 have HV:Hid (va ((sub b i n).drop 0)=V):=Lib.hid (by simpa using hV)
 have HL:=Lib.hid hl
 have HS:Hid ((sub b i n).length=n):=Lib.hid (sub_len b i n (by omega))
 clear hN hc hV h
 go_enter Tryz.func71,Tryz.ntmps71
 go_wp2
 go_loop [7,8] (fun x q=>∃ j:Nat,j≤n∧q=.int .i64 ((j:Int)-1)∧∃ X:Nat,x=.int .u64 (X:Int)∧X<4294967296∧Hid (va ((sub b i n).drop j)=X)) (fun _ q=>(RowKit.intOf q+1).toNat)
 case atStart=>exact⟨n,Nat.le_refl _,by go_num,0,rfl,by decide,Lib.hid (by rw [List.drop_eq_nil_of_le (by rw [HS.out];exact Nat.le_refl _)];rfl)⟩
 case round =>
  obtain⟨j,hj,rfl,X,rfl,hX,hE⟩:=hrel
  cases j with
  | zero =>
   have e0:((0:Nat):Int)-1=-1:=rfl
   rw [e0]
   have hr:X=V:=hE.out.symm.trans HV.out
   subst hr
   go_wp2
   go_ret
   exact⟨rfl,rfl⟩
  | succ j =>
   have e1:((j+1:Nat):Int)-1=(j:Int):=by omega
   rw [e1]
   obtain⟨k1,k2,hg⟩:=sub_get b i n j (by omega) (by rw [HN.out];exact HL.out)
   obtain⟨bb,o,rfl,hbb,hcc⟩:=HC.out (by omega)
   have hx:=hcc (i+j) k2
   have hst:=va_drop (sub b i n) j k1
   rw [hg,hE.out] at hst
   have hlt:=va_lt ((sub b i n).drop j)
   have hln:((sub b i n).drop j).length≤4:=by rw [List.length_drop,HS.out];omega
   have h4:(256:Nat) ^ ((sub b i n).drop j).length≤256 ^ 4:=Nat.pow_le_pow_right (by decide) hln
   rw [hst] at hlt
   obtain⟨d,hd⟩:∃ d,b[i+j].toNat=d:=⟨_,rfl⟩
   unfold eB at hx
   rw [hd] at hx hst hlt
   have hb4:d+256*X<4294967296:=by omega
   have hb3:d<256:=by rw [← hd];exact UInt8.toNat_lt _
   have HST:=Lib.hid hst
   have hin:i+j<N:=by have:=HL.out;omega
   have hx':w.cell? ⟨bb,o+(i+j),none⟩=some (.int .u8 (d:Int)):=hx
   have hx2:w.cell? ⟨bb,o+(i+j:Int).toNat,none⟩=some (.int .u8 (d:Int)):=by
    rw [show (i+j:Int).toNat=i+j by omega];exact hx
   clear hcc hd hst hlt hln h4 hg hE k1 k2 e1 hx
   go_wp2
   go_round
   case rel=>exact⟨j,by omega,by go_num,d+256*X,by go_num,hb4,HST⟩
   case measure=>simp [RowKit.intOf]
end Go.Proofs.YtihiggnglmhggaaGreatDoor.L15
end
section
namespace Go.Proofs.YtihiggnglmhggaaGreatDoor.L15
open Go.RowKit L14
attribute [local go_sem] Oper.semAt_some
theorem rsize_at (v:Value) (l:List Sc) (S:Nat) (w:World) (hv:Ss w v l) (hs:Sml l) (hS:szL l=S) :
  Calls Tryz.prog 161 #[v] w fun e w'=>e=.returned (.int .i64 (S:Int))∧w=w':=by
 obtain⟨n,hn⟩:∃ n,l.length=n:=⟨_,rfl⟩
 obtain⟨a,c,rfl,-,-,hc⟩:=hv.form hn
 have hnl:=hs.n
 have htt:=hs.tot
 have hhd:=hs.hd
 rw [hn] at hnl hhd
 obtain⟨H,hH⟩:∃ H,hd n=H:=⟨_,rfl⟩
 rw [hH] at hhd
 have hD:=fun w=>rup_at (16+12*n) H w (by omega) hH
 have e1:((16+12*n:Nat):Int)=16+12*(n:Int):=by omega
 rw [e1] at hD
 have HD:=Lib.hid hD
 have HC:=Lib.hid hc
 have HN:=Lib.hid hn
 have HS:=Lib.hid (show H+tot (l.take n)=S by rw [← hS,← hH,← hn,List.take_length];rfl)
 have HT:=Lib.hid htt
 have HM:=Lib.hid hs.d
 clear hn hc hv hs htt hH hS hD e1
 go_enter Tryz.func161,Tryz.ntmps161
 go_wp2_with (go_at_call 163;((with_reducible refine (HD.out _).mono ?_);rintro e w1 ⟨rfl,rfl⟩))
 go_loop [3,4] (fun s q=>∃ j:Nat,j≤n∧q=.int .i64 (j:Int)∧s=.int .i64 ((H+tot (l.take j):Nat):Int)) (fun _ q=>n-(RowKit.intOf q).toNat)
 case atStart=>exact⟨0,Nat.zero_le _,rfl,by simp [tot]⟩
 case round =>
  obtain⟨j,hj,rfl,rfl⟩:=hrel
  by_cases hlt:j<n
  ·have hjl:j<l.length:=by rw [HN.out];exact hlt
   obtain⟨b,o,rfl,hbl,hcc⟩:=HC.out (by omega)
   obtain⟨x0,dv,x1,hr⟩:=hcc j hjl
   obtain⟨m,hm⟩:∃ m,l[j].2.length=m:=⟨_,rfl⟩
   obtain⟨da,dc,rfl,-⟩:=hr.form hm
   have hml:=HM.out _ (List.getElem_mem hjl)
   have hst:=tot_step l j hjl
   have hle:=tot_le l (j+1)
   have htt:=HT.out
   rw [hm] at hml hst
   obtain⟨u,hu⟩:∃ u,up m=u:=⟨_,rfl⟩
   have HP:=Lib.hid (fun w=>rup_at m u w (by omega) hu)
   rw [hu] at hst
   obtain⟨t,ht⟩:∃ t,tot (l.take j)=t:=⟨_,rfl⟩
   rw [ht] at hst ⊢
   have HST:=Lib.hid hst
   have hbd:t+u≤100001000000:=by omega
   clear hcc x0 hr hm hst hle htt hu ht
   go_wp2_with (go_at_call 163;((with_reducible refine (HP.out _).mono ?_);rintro e w2 ⟨rfl,rfl⟩))
   go_round
   case rel=>exact⟨j+1,hlt,by go_num,by rw [HST.out];go_num⟩
   case measure=>simp [RowKit.intOf];omega
  ·obtain rfl:j=n:=by omega
   go_wp2
   go_ret
   exact⟨congrArg (fun (z:Nat)=>Ending.returned (.int .i64 (z:Int))) HS.out,rfl⟩
theorem rcheck_at (v:Value) (l:List Sc) (R:Int) (w:World) (hv:Ss w v l) (hs:Sml l) (hR:chkV l=R) :
  Calls Tryz.prog 112 #[v] w fun e w'=>e=.returned (.int .i64 R)∧∃ m,w'=w.drewN m:=by
 obtain⟨S,hS⟩:∃ S,szL l=S:=⟨_,rfl⟩
 have HZ:=Lib.hid (rsize_at v l S w hv hs hS)
 obtain⟨n,hn⟩:∃ n,l.length=n:=⟨_,rfl⟩
 obtain⟨a,c,rfl,-,-,hc⟩:=hv.form hn
 have hnl:=hs.n
 rw [hn] at hnl
 unfold chkV at hR
 rw [hS,hn] at hR
 by_cases h1:16<n
 ·rw [if_pos (.inl h1)] at hR
  have h1':(16:Int)<(n:Int):=by omega
  subst hR
  clear hc hS hn h1 hv
  go_enter Tryz.func112,Tryz.ntmps112
  go_wp2
  go_ret
  exact⟨rfl,0,rfl⟩
 have h1':¬ (16:Int)<(n:Int):=by omega
 by_cases h2:1073741824<S
 ·rw [if_pos (.inr h2)] at hR
  have h2':(1073741824:Int)<(S:Int):=by omega
  subst hR
  clear hc hS hn h1 h2 hv
  go_enter Tryz.func112,Tryz.ntmps112
  go_wp2_with (go_at_call 161;((with_reducible refine (HZ.out).mono ?_);rintro e w1 ⟨rfl,rfl⟩))
  go_ret
  exact⟨rfl,0,rfl⟩
 have h2':¬ (1073741824:Int)<(S:Int):=by omega
 rw [if_neg (by omega)] at hR
 have HC:=Lib.hid hc
 have HN:=Lib.hid hn
 have HR:Hid ((if asc 0 (l.drop 0)=true then (0:Int) else 4)=R):=Lib.hid (by simpa using hR)
 clear hc hS hn h1 h2 hv hR hs
 go_enter Tryz.func112,Tryz.ntmps112
 go_wp2_with (go_at_call 161;((with_reducible refine (HZ.out).mono ?_);rintro e w1 ⟨rfl,rfl⟩))
 go_loopw [3] (fun q wr=>∃ (j q':Nat),j≤n∧q=.int .i64 (j:Int)∧wr=w.drewN q'∧Hid (∃ K:Int,((j=0∧K=0)∨(1≤K∧∃ h:j-1<l.length,0<j∧l[j-1].1=K))∧(if asc K (l.drop j)=true then (0:Int) else 4)=R)) (fun q _=>n-(RowKit.intOf q).toNat)
 case atStart=>exact⟨0,0,Nat.zero_le _,rfl,rfl,Lib.hid ⟨0,.inl ⟨rfl,rfl⟩,HR.out⟩⟩
 case round =>
  obtain⟨j,q',hj,rfl,rfl,hA⟩:=hrel
  clear HR
  by_cases hlt:j<n
  ·have hjl:j<l.length:=by rw [HN.out];exact hlt
   obtain⟨b,o,rfl,hbl,hcc⟩:=HC.out (by omega)
   obtain⟨y0,-⟩:=hcc j hjl
   obtain⟨K,hK,hE⟩:=hA.out
   rw [List.drop_eq_getElem_cons hjl,asc_cons] at hE
   obtain⟨kk,hkk⟩:∃ kk,l[j].1=kk:=⟨_,rfl⟩
   rw [hkk] at y0 hE
   have hlt':(j:Int)<(n:Int):=by omega
   by_cases k0:kk<1
   ·have hRR:(4:Int)=R:=by
     have:¬ K<kk:=by rcases hK with ⟨_,rfl⟩|⟨h,_⟩ <;> omega
     simpa [this] using hE
    subst hRR
    clear hcc hA hE hK hkk
    go_wp2
    refine wp_region_held_drew (S:=fun W=>W=(w.drewN q').drew) (by kernel_rfl) rfl (fun hH=>?_)
    refine zT0 0 18 (.move (.tmp 0)) (.slice (some ⟨b,o,none⟩) n c) rfl hH ?_
    simp only [zz]
    refine zT0 1 19 (.move (.tmp 3)) (.int .i64 (j:Int)) rfl hH ?_
    simp only [zz]
    refine zT2 2 20 (.indexAddr 107 (.tmp 18) (.tmp 19)) (.pointer (some ⟨b,o+j*2,none⟩)) rfl hH ?_
    simp only [zz]
    refine zT2 3 21 (.fieldAddr 111 (.tmp 20) 0) (.pointer (some ⟨b,o+j*2,none⟩)) rfl hH ?_
    simp only [zz]
    refine zT2 4 22 (.load 3 (.tmp 21)) (.int .i64 kk) rfl hH ?_
    simp only [zz]
    refine zT2 5 23 (.binOp .lss 3 (.tmp 22) (.const (.int .i64 1)) 3) (.bool true) rfl hH ?_
    simp only [zz]
    refine zT0 6 24 (.move (.tmp 23)) (.bool true) rfl hH ?_
    simp only [zz]
    refine zTn 7 25 (.move (.tmp 0)) rfl hH ?_
    simp only [zz]
    refine zTn 8 26 (.move (.tmp 3)) rfl hH ?_
    simp only [zz]
    refine zTn 9 27 (.indexAddr 107 (.tmp 25) (.tmp 26)) rfl hH ?_
    simp only [zz]
    refine zTn 10 28 (.fieldAddr 111 (.tmp 27) 0) rfl hH ?_
    simp only [zz]
    refine zTn 11 29 (.load 3 (.tmp 28)) rfl hH ?_
    simp only [zz]
    refine zTn 12 30 (.binOp .gtr 3 (.tmp 29) (.const (.int .i64 65535)) 3) rfl hH ?_
    simp only [zz]
    refine zT0 13 31 (.pick (.tmp 24) (.const (.bool true)) (.tmp 30)) (.bool true) rfl hH ?_
    simp only [zz]
    refine zT0 14 32 (.move (.tmp 31)) (.bool true) rfl hH ?_
    simp only [zz]
    refine zTn 15 33 (.move (.tmp 3)) rfl hH ?_
    simp only [zz]
    refine zTn 16 34 (.binOp .gtr 3 (.tmp 33) (.const (.int .i64 0)) 3) rfl hH ?_
    simp only [zz]
    refine zTn 17 35 (.move (.tmp 34)) rfl hH ?_
    simp only [zz]
    refine zTn 18 36 (.move (.tmp 0)) rfl hH ?_
    simp only [zz]
    refine zTn 19 37 (.move (.tmp 3)) rfl hH ?_
    simp only [zz]
    refine zTn 20 38 (.indexAddr 107 (.tmp 36) (.tmp 37)) rfl hH ?_
    simp only [zz]
    refine zTn 21 39 (.fieldAddr 111 (.tmp 38) 0) rfl hH ?_
    simp only [zz]
    refine zTn 22 40 (.load 3 (.tmp 39)) rfl hH ?_
    simp only [zz]
    refine zTn 23 41 (.move (.tmp 0)) rfl hH ?_
    simp only [zz]
    refine zTn 24 42 (.move (.tmp 3)) rfl hH ?_
    simp only [zz]
    refine zTn 25 43 (.binOp .sub 3 (.tmp 42) (.const (.int .i64 1)) 3) rfl hH ?_
    simp only [zz]
    refine zTn 26 44 (.indexAddr 107 (.tmp 41) (.tmp 43)) rfl hH ?_
    simp only [zz]
    refine zTn 27 45 (.fieldAddr 111 (.tmp 44) 0) rfl hH ?_
    simp only [zz]
    refine zTn 28 46 (.load 3 (.tmp 45)) rfl hH ?_
    simp only [zz]
    refine zTn 29 47 (.binOp .leq 3 (.tmp 40) (.tmp 46) 3) rfl hH ?_
    simp only [zz]
    refine zTn 30 48 (.pick (.tmp 35) (.tmp 47) (.const (.bool false))) rfl hH ?_
    simp only [zz]
    refine zT0 31 49 (.pick (.tmp 32) (.const (.bool true)) (.tmp 48)) (.bool true) rfl hH ?_
    simp only [zz]
    refine wpAnyH_done (by kernel_rfl) ?_ _
    go_wp2
    go_ret
    exact⟨rfl,_,rfl⟩
   by_cases k2:(65535:Int)<kk
   ·have hRR:(4:Int)=R:=by
     have:¬ kk≤65535:=by omega
     simpa [this] using hE
    subst hRR
    clear hcc hA hE hK hkk
    go_wp2
    refine wp_region_held_drew (S:=fun W=>W=(w.drewN q').drew) (by kernel_rfl) rfl (fun hH=>?_)
    refine zT0 0 18 (.move (.tmp 0)) (.slice (some ⟨b,o,none⟩) n c) rfl hH ?_
    simp only [zz]
    refine zT0 1 19 (.move (.tmp 3)) (.int .i64 (j:Int)) rfl hH ?_
    simp only [zz]
    refine zT2 2 20 (.indexAddr 107 (.tmp 18) (.tmp 19)) (.pointer (some ⟨b,o+j*2,none⟩)) rfl hH ?_
    simp only [zz]
    refine zT2 3 21 (.fieldAddr 111 (.tmp 20) 0) (.pointer (some ⟨b,o+j*2,none⟩)) rfl hH ?_
    simp only [zz]
    refine zT2 4 22 (.load 3 (.tmp 21)) (.int .i64 kk) rfl hH ?_
    simp only [zz]
    refine zT2 5 23 (.binOp .lss 3 (.tmp 22) (.const (.int .i64 1)) 3) (.bool false) rfl hH ?_
    simp only [zz]
    refine zT0 6 24 (.move (.tmp 23)) (.bool false) rfl hH ?_
    simp only [zz]
    refine zT0 7 25 (.move (.tmp 0)) (.slice (some ⟨b,o,none⟩) n c) rfl hH ?_
    simp only [zz]
    refine zT0 8 26 (.move (.tmp 3)) (.int .i64 (j:Int)) rfl hH ?_
    simp only [zz]
    refine zT2 9 27 (.indexAddr 107 (.tmp 25) (.tmp 26)) (.pointer (some ⟨b,o+j*2,none⟩)) rfl hH ?_
    simp only [zz]
    refine zT2 10 28 (.fieldAddr 111 (.tmp 27) 0) (.pointer (some ⟨b,o+j*2,none⟩)) rfl hH ?_
    simp only [zz]
    refine zT2 11 29 (.load 3 (.tmp 28)) (.int .i64 kk) rfl hH ?_
    simp only [zz]
    refine zT2 12 30 (.binOp .gtr 3 (.tmp 29) (.const (.int .i64 65535)) 3) (.bool true) rfl hH ?_
    simp only [zz]
    refine zT0 13 31 (.pick (.tmp 24) (.const (.bool true)) (.tmp 30)) (.bool true) rfl hH ?_
    simp only [zz]
    refine zT0 14 32 (.move (.tmp 31)) (.bool true) rfl hH ?_
    simp only [zz]
    refine zTn 15 33 (.move (.tmp 3)) rfl hH ?_
    simp only [zz]
    refine zTn 16 34 (.binOp .gtr 3 (.tmp 33) (.const (.int .i64 0)) 3) rfl hH ?_
    simp only [zz]
    refine zTn 17 35 (.move (.tmp 34)) rfl hH ?_
    simp only [zz]
    refine zTn 18 36 (.move (.tmp 0)) rfl hH ?_
    simp only [zz]
    refine zTn 19 37 (.move (.tmp 3)) rfl hH ?_
    simp only [zz]
    refine zTn 20 38 (.indexAddr 107 (.tmp 36) (.tmp 37)) rfl hH ?_
    simp only [zz]
    refine zTn 21 39 (.fieldAddr 111 (.tmp 38) 0) rfl hH ?_
    simp only [zz]
    refine zTn 22 40 (.load 3 (.tmp 39)) rfl hH ?_
    simp only [zz]
    refine zTn 23 41 (.move (.tmp 0)) rfl hH ?_
    simp only [zz]
    refine zTn 24 42 (.move (.tmp 3)) rfl hH ?_
    simp only [zz]
    refine zTn 25 43 (.binOp .sub 3 (.tmp 42) (.const (.int .i64 1)) 3) rfl hH ?_
    simp only [zz]
    refine zTn 26 44 (.indexAddr 107 (.tmp 41) (.tmp 43)) rfl hH ?_
    simp only [zz]
    refine zTn 27 45 (.fieldAddr 111 (.tmp 44) 0) rfl hH ?_
    simp only [zz]
    refine zTn 28 46 (.load 3 (.tmp 45)) rfl hH ?_
    simp only [zz]
    refine zTn 29 47 (.binOp .leq 3 (.tmp 40) (.tmp 46) 3) rfl hH ?_
    simp only [zz]
    refine zTn 30 48 (.pick (.tmp 35) (.tmp 47) (.const (.bool false))) rfl hH ?_
    simp only [zz]
    refine zT0 31 49 (.pick (.tmp 32) (.const (.bool true)) (.tmp 48)) (.bool true) rfl hH ?_
    simp only [zz]
    refine wpAnyH_done (by kernel_rfl) ?_ _
    go_wp2
    go_ret
    exact⟨rfl,_,rfl⟩
   have h65:kk≤65535:=by omega
   by_cases j0:j=0
   ·have hK0:K=0:=by rcases hK with ⟨_,h⟩|⟨_,_,h,_⟩;exact h;omega
    have HE:Hid (∃ K:Int,((j+1=0∧K=0)∨(1≤K∧∃ h:j+1-1<l.length,0<j+1∧l[j+1-1].1=K))∧(if asc K (l.drop (j+1))=true then (0:Int) else 4)=R) :=
     Lib.hid ⟨kk,.inr ⟨by omega,hjl,by omega,hkk⟩,by
      have h1:K<kk:=by omega
      simpa [h1,h65] using hE⟩
    have HF:=Lib.hid j0
    clear hcc hA hE hK hkk hK0 h65 j0
    go_wp2
    refine wp_region_held_drew (S:=fun W=>W=(w.drewN q').drew) (by kernel_rfl) rfl (fun hH=>?_)
    refine zT0 0 18 (.move (.tmp 0)) (.slice (some ⟨b,o,none⟩) n c) rfl hH ?_
    simp only [zz]
    refine zT0 1 19 (.move (.tmp 3)) (.int .i64 (j:Int)) rfl hH ?_
    simp only [zz]
    refine zT2 2 20 (.indexAddr 107 (.tmp 18) (.tmp 19)) (.pointer (some ⟨b,o+j*2,none⟩)) rfl hH ?_
    simp only [zz]
    refine zT2 3 21 (.fieldAddr 111 (.tmp 20) 0) (.pointer (some ⟨b,o+j*2,none⟩)) rfl hH ?_
    simp only [zz]
    refine zT2 4 22 (.load 3 (.tmp 21)) (.int .i64 kk) rfl hH ?_
    simp only [zz]
    refine zT2 5 23 (.binOp .lss 3 (.tmp 22) (.const (.int .i64 1)) 3) (.bool false) rfl hH ?_
    simp only [zz]
    refine zT0 6 24 (.move (.tmp 23)) (.bool false) rfl hH ?_
    simp only [zz]
    refine zT0 7 25 (.move (.tmp 0)) (.slice (some ⟨b,o,none⟩) n c) rfl hH ?_
    simp only [zz]
    refine zT0 8 26 (.move (.tmp 3)) (.int .i64 (j:Int)) rfl hH ?_
    simp only [zz]
    refine zT2 9 27 (.indexAddr 107 (.tmp 25) (.tmp 26)) (.pointer (some ⟨b,o+j*2,none⟩)) rfl hH ?_
    simp only [zz]
    refine zT2 10 28 (.fieldAddr 111 (.tmp 27) 0) (.pointer (some ⟨b,o+j*2,none⟩)) rfl hH ?_
    simp only [zz]
    refine zT2 11 29 (.load 3 (.tmp 28)) (.int .i64 kk) rfl hH ?_
    simp only [zz]
    refine zT2 12 30 (.binOp .gtr 3 (.tmp 29) (.const (.int .i64 65535)) 3) (.bool false) rfl hH ?_
    simp only [zz]
    refine zT0 13 31 (.pick (.tmp 24) (.const (.bool true)) (.tmp 30)) (.bool false) rfl hH ?_
    simp only [zz]
    refine zT0 14 32 (.move (.tmp 31)) (.bool false) rfl hH ?_
    simp only [zz]
    refine zT0 15 33 (.move (.tmp 3)) (.int .i64 (j:Int)) rfl hH ?_
    simp only [zz]
    refine zT1 16 34 (.binOp .gtr 3 (.tmp 33) (.const (.int .i64 0)) 3) (.bool false) rfl (fun wS hS=>by subst hS;have f:=HF.out;go_simp) hH ?_
    simp only [zz]
    refine zT0 17 35 (.move (.tmp 34)) (.bool false) rfl hH ?_
    simp only [zz]
    refine zTn 18 36 (.move (.tmp 0)) rfl hH ?_
    simp only [zz]
    refine zTn 19 37 (.move (.tmp 3)) rfl hH ?_
    simp only [zz]
    refine zTn 20 38 (.indexAddr 107 (.tmp 36) (.tmp 37)) rfl hH ?_
    simp only [zz]
    refine zTn 21 39 (.fieldAddr 111 (.tmp 38) 0) rfl hH ?_
    simp only [zz]
    refine zTn 22 40 (.load 3 (.tmp 39)) rfl hH ?_
    simp only [zz]
    refine zTn 23 41 (.move (.tmp 0)) rfl hH ?_
    simp only [zz]
    refine zTn 24 42 (.move (.tmp 3)) rfl hH ?_
    simp only [zz]
    refine zTn 25 43 (.binOp .sub 3 (.tmp 42) (.const (.int .i64 1)) 3) rfl hH ?_
    simp only [zz]
    refine zTn 26 44 (.indexAddr 107 (.tmp 41) (.tmp 43)) rfl hH ?_
    simp only [zz]
    refine zTn 27 45 (.fieldAddr 111 (.tmp 44) 0) rfl hH ?_
    simp only [zz]
    refine zTn 28 46 (.load 3 (.tmp 45)) rfl hH ?_
    simp only [zz]
    refine zTn 29 47 (.binOp .leq 3 (.tmp 40) (.tmp 46) 3) rfl hH ?_
    simp only [zz]
    refine zT0 30 48 (.pick (.tmp 35) (.tmp 47) (.const (.bool false))) (.bool false) rfl hH ?_
    simp only [zz]
    refine zT0 31 49 (.pick (.tmp 32) (.const (.bool true)) (.tmp 48)) (.bool false) rfl hH ?_
    simp only [zz]
    refine wpAnyH_done (by kernel_rfl) ?_ _
    go_wp2
    go_roundw
    case rel=>exact⟨j+1,_,hlt,by go_num,rfl,HE⟩
    case measure=>simp [RowKit.intOf];omega
   ·obtain⟨hK1,hj1,-,hKv⟩:1≤K∧∃ h:j-1<l.length,0<j∧l[j-1].1=K:=by
     rcases hK with ⟨h,_⟩|h
     ·exact absurd h j0
     ·exact h
    obtain⟨z0,-⟩:=hcc (j-1) hj1
    rw [hKv] at z0
    have HF:=Lib.hid (show (0<j∧IntKind.i64.wrap ((j:Int)-1)=(j:Int)-1∧¬ (j:Int)<1∧(j:Int)-1<(n:Int))∧w.cell? ⟨b,o+(j-1)*2,none⟩=some (.int .i64 K) from ⟨⟨by omega,by (rw [IntKind.wrap_i64];omega),by omega,by omega⟩,z0⟩)
    by_cases k1:kk≤K
    ·have hRR:(4:Int)=R:=by
      have:¬ K<kk:=by omega
      simpa [this] using hE
     subst hRR
     clear hcc hA hE hK hkk hKv z0
     go_wp2
     refine wp_region_held_drew (S:=fun W=>W=(w.drewN q').drew) (by kernel_rfl) rfl (fun hH=>?_)
     refine zT0 0 18 (.move (.tmp 0)) (.slice (some ⟨b,o,none⟩) n c) rfl hH ?_
     simp only [zz]
     refine zT0 1 19 (.move (.tmp 3)) (.int .i64 (j:Int)) rfl hH ?_
     simp only [zz]
     refine zT1 2 20 (.indexAddr 107 (.tmp 18) (.tmp 19)) (.pointer (some ⟨b,o+j*2,none⟩)) rfl (fun wS hS=>by subst hS;have f:=HF.out;go_simp) hH ?_
     simp only [zz]
     refine zT1 3 21 (.fieldAddr 111 (.tmp 20) 0) (.pointer (some ⟨b,o+j*2,none⟩)) rfl (fun wS hS=>by subst hS;have f:=HF.out;go_simp) hH ?_
     simp only [zz]
     refine zT1 4 22 (.load 3 (.tmp 21)) (.int .i64 kk) rfl (fun wS hS=>by subst hS;have f:=HF.out;go_simp) hH ?_
     simp only [zz]
     refine zT1 5 23 (.binOp .lss 3 (.tmp 22) (.const (.int .i64 1)) 3) (.bool false) rfl (fun wS hS=>by subst hS;have f:=HF.out;go_simp) hH ?_
     simp only [zz]
     refine zT0 6 24 (.move (.tmp 23)) (.bool false) rfl hH ?_
     simp only [zz]
     refine zT0 7 25 (.move (.tmp 0)) (.slice (some ⟨b,o,none⟩) n c) rfl hH ?_
     simp only [zz]
     refine zT0 8 26 (.move (.tmp 3)) (.int .i64 (j:Int)) rfl hH ?_
     simp only [zz]
     refine zT1 9 27 (.indexAddr 107 (.tmp 25) (.tmp 26)) (.pointer (some ⟨b,o+j*2,none⟩)) rfl (fun wS hS=>by subst hS;have f:=HF.out;go_simp) hH ?_
     simp only [zz]
     refine zT1 10 28 (.fieldAddr 111 (.tmp 27) 0) (.pointer (some ⟨b,o+j*2,none⟩)) rfl (fun wS hS=>by subst hS;have f:=HF.out;go_simp) hH ?_
     simp only [zz]
     refine zT1 11 29 (.load 3 (.tmp 28)) (.int .i64 kk) rfl (fun wS hS=>by subst hS;have f:=HF.out;go_simp) hH ?_
     simp only [zz]
     refine zT1 12 30 (.binOp .gtr 3 (.tmp 29) (.const (.int .i64 65535)) 3) (.bool false) rfl (fun wS hS=>by subst hS;have f:=HF.out;go_simp) hH ?_
     simp only [zz]
     refine zT0 13 31 (.pick (.tmp 24) (.const (.bool true)) (.tmp 30)) (.bool false) rfl hH ?_
     simp only [zz]
     refine zT0 14 32 (.move (.tmp 31)) (.bool false) rfl hH ?_
     simp only [zz]
     refine zT0 15 33 (.move (.tmp 3)) (.int .i64 (j:Int)) rfl hH ?_
     simp only [zz]
     refine zT1 16 34 (.binOp .gtr 3 (.tmp 33) (.const (.int .i64 0)) 3) (.bool true) rfl (fun wS hS=>by subst hS;have f:=HF.out;go_simp) hH ?_
     simp only [zz]
     refine zT0 17 35 (.move (.tmp 34)) (.bool true) rfl hH ?_
     simp only [zz]
     refine zT0 18 36 (.move (.tmp 0)) (.slice (some ⟨b,o,none⟩) n c) rfl hH ?_
     simp only [zz]
     refine zT0 19 37 (.move (.tmp 3)) (.int .i64 (j:Int)) rfl hH ?_
     simp only [zz]
     refine zT1 20 38 (.indexAddr 107 (.tmp 36) (.tmp 37)) (.pointer (some ⟨b,o+j*2,none⟩)) rfl (fun wS hS=>by subst hS;have f:=HF.out;go_simp) hH ?_
     simp only [zz]
     refine zT1 21 39 (.fieldAddr 111 (.tmp 38) 0) (.pointer (some ⟨b,o+j*2,none⟩)) rfl (fun wS hS=>by subst hS;have f:=HF.out;go_simp) hH ?_
     simp only [zz]
     refine zT1 22 40 (.load 3 (.tmp 39)) (.int .i64 kk) rfl (fun wS hS=>by subst hS;have f:=HF.out;go_simp) hH ?_
     simp only [zz]
     refine zT0 23 41 (.move (.tmp 0)) (.slice (some ⟨b,o,none⟩) n c) rfl hH ?_
     simp only [zz]
     refine zT0 24 42 (.move (.tmp 3)) (.int .i64 (j:Int)) rfl hH ?_
     simp only [zz]
     refine zT1 25 43 (.binOp .sub 3 (.tmp 42) (.const (.int .i64 1)) 3) (.int .i64 ((j:Int)-1)) rfl (fun wS hS=>by subst hS;have f:=HF.out;go_simp) hH ?_
     simp only [zz]
     refine zT1 26 44 (.indexAddr 107 (.tmp 41) (.tmp 43)) (.pointer (some ⟨b,o+(j-1)*2,none⟩)) rfl (fun wS hS=>by subst hS;have f:=HF.out;go_simp) hH ?_
     simp only [zz]
     refine zT1 27 45 (.fieldAddr 111 (.tmp 44) 0) (.pointer (some ⟨b,o+(j-1)*2,none⟩)) rfl (fun wS hS=>by subst hS;have f:=HF.out;go_simp) hH ?_
     simp only [zz]
     refine zT1 28 46 (.load 3 (.tmp 45)) (.int .i64 K) rfl (fun wS hS=>by subst hS;have f:=HF.out;go_simp) hH ?_
     simp only [zz]
     refine zT1 29 47 (.binOp .leq 3 (.tmp 40) (.tmp 46) 3) (.bool true) rfl (fun wS hS=>by subst hS;have f:=HF.out;go_simp) hH ?_
     simp only [zz]
     refine zT0 30 48 (.pick (.tmp 35) (.tmp 47) (.const (.bool false))) (.bool true) rfl hH ?_
     simp only [zz]
     refine zT0 31 49 (.pick (.tmp 32) (.const (.bool true)) (.tmp 48)) (.bool true) rfl hH ?_
     simp only [zz]
     refine wpAnyH_done (by kernel_rfl) ?_ _
     go_wp2
     go_ret
     exact⟨rfl,_,rfl⟩
    ·have HE:Hid (∃ K:Int,((j+1=0∧K=0)∨(1≤K∧∃ h:j+1-1<l.length,0<j+1∧l[j+1-1].1=K))∧(if asc K (l.drop (j+1))=true then (0:Int) else 4)=R) :=
      Lib.hid ⟨kk,.inr ⟨by omega,hjl,by omega,hkk⟩,by
       have h1:K<kk:=by omega
       simpa [h1,h65] using hE⟩
     clear hcc hA hE hK hkk hKv z0 h65
     go_wp2
     refine wp_region_held_drew (S:=fun W=>W=(w.drewN q').drew) (by kernel_rfl) rfl (fun hH=>?_)
     refine zT0 0 18 (.move (.tmp 0)) (.slice (some ⟨b,o,none⟩) n c) rfl hH ?_
     simp only [zz]
     refine zT0 1 19 (.move (.tmp 3)) (.int .i64 (j:Int)) rfl hH ?_
     simp only [zz]
     refine zT1 2 20 (.indexAddr 107 (.tmp 18) (.tmp 19)) (.pointer (some ⟨b,o+j*2,none⟩)) rfl (fun wS hS=>by subst hS;have f:=HF.out;go_simp) hH ?_
     simp only [zz]
     refine zT1 3 21 (.fieldAddr 111 (.tmp 20) 0) (.pointer (some ⟨b,o+j*2,none⟩)) rfl (fun wS hS=>by subst hS;have f:=HF.out;go_simp) hH ?_
     simp only [zz]
     refine zT1 4 22 (.load 3 (.tmp 21)) (.int .i64 kk) rfl (fun wS hS=>by subst hS;have f:=HF.out;go_simp) hH ?_
     simp only [zz]
     refine zT1 5 23 (.binOp .lss 3 (.tmp 22) (.const (.int .i64 1)) 3) (.bool false) rfl (fun wS hS=>by subst hS;have f:=HF.out;go_simp) hH ?_
     simp only [zz]
     refine zT0 6 24 (.move (.tmp 23)) (.bool false) rfl hH ?_
     simp only [zz]
     refine zT0 7 25 (.move (.tmp 0)) (.slice (some ⟨b,o,none⟩) n c) rfl hH ?_
     simp only [zz]
     refine zT0 8 26 (.move (.tmp 3)) (.int .i64 (j:Int)) rfl hH ?_
     simp only [zz]
     refine zT1 9 27 (.indexAddr 107 (.tmp 25) (.tmp 26)) (.pointer (some ⟨b,o+j*2,none⟩)) rfl (fun wS hS=>by subst hS;have f:=HF.out;go_simp) hH ?_
     simp only [zz]
     refine zT1 10 28 (.fieldAddr 111 (.tmp 27) 0) (.pointer (some ⟨b,o+j*2,none⟩)) rfl (fun wS hS=>by subst hS;have f:=HF.out;go_simp) hH ?_
     simp only [zz]
     refine zT1 11 29 (.load 3 (.tmp 28)) (.int .i64 kk) rfl (fun wS hS=>by subst hS;have f:=HF.out;go_simp) hH ?_
     simp only [zz]
     refine zT1 12 30 (.binOp .gtr 3 (.tmp 29) (.const (.int .i64 65535)) 3) (.bool false) rfl (fun wS hS=>by subst hS;have f:=HF.out;go_simp) hH ?_
     simp only [zz]
     refine zT0 13 31 (.pick (.tmp 24) (.const (.bool true)) (.tmp 30)) (.bool false) rfl hH ?_
     simp only [zz]
     refine zT0 14 32 (.move (.tmp 31)) (.bool false) rfl hH ?_
     simp only [zz]
     refine zT0 15 33 (.move (.tmp 3)) (.int .i64 (j:Int)) rfl hH ?_
     simp only [zz]
     refine zT1 16 34 (.binOp .gtr 3 (.tmp 33) (.const (.int .i64 0)) 3) (.bool true) rfl (fun wS hS=>by subst hS;have f:=HF.out;go_simp) hH ?_
     simp only [zz]
     refine zT0 17 35 (.move (.tmp 34)) (.bool true) rfl hH ?_
     simp only [zz]
     refine zT0 18 36 (.move (.tmp 0)) (.slice (some ⟨b,o,none⟩) n c) rfl hH ?_
     simp only [zz]
     refine zT0 19 37 (.move (.tmp 3)) (.int .i64 (j:Int)) rfl hH ?_
     simp only [zz]
     refine zT1 20 38 (.indexAddr 107 (.tmp 36) (.tmp 37)) (.pointer (some ⟨b,o+j*2,none⟩)) rfl (fun wS hS=>by subst hS;have f:=HF.out;go_simp) hH ?_
     simp only [zz]
     refine zT1 21 39 (.fieldAddr 111 (.tmp 38) 0) (.pointer (some ⟨b,o+j*2,none⟩)) rfl (fun wS hS=>by subst hS;have f:=HF.out;go_simp) hH ?_
     simp only [zz]
     refine zT1 22 40 (.load 3 (.tmp 39)) (.int .i64 kk) rfl (fun wS hS=>by subst hS;have f:=HF.out;go_simp) hH ?_
     simp only [zz]
     refine zT0 23 41 (.move (.tmp 0)) (.slice (some ⟨b,o,none⟩) n c) rfl hH ?_
     simp only [zz]
     refine zT0 24 42 (.move (.tmp 3)) (.int .i64 (j:Int)) rfl hH ?_
     simp only [zz]
     refine zT1 25 43 (.binOp .sub 3 (.tmp 42) (.const (.int .i64 1)) 3) (.int .i64 ((j:Int)-1)) rfl (fun wS hS=>by subst hS;have f:=HF.out;go_simp) hH ?_
     simp only [zz]
     refine zT1 26 44 (.indexAddr 107 (.tmp 41) (.tmp 43)) (.pointer (some ⟨b,o+(j-1)*2,none⟩)) rfl (fun wS hS=>by subst hS;have f:=HF.out;go_simp) hH ?_
     simp only [zz]
     refine zT1 27 45 (.fieldAddr 111 (.tmp 44) 0) (.pointer (some ⟨b,o+(j-1)*2,none⟩)) rfl (fun wS hS=>by subst hS;have f:=HF.out;go_simp) hH ?_
     simp only [zz]
     refine zT1 28 46 (.load 3 (.tmp 45)) (.int .i64 K) rfl (fun wS hS=>by subst hS;have f:=HF.out;go_simp) hH ?_
     simp only [zz]
     refine zT1 29 47 (.binOp .leq 3 (.tmp 40) (.tmp 46) 3) (.bool false) rfl (fun wS hS=>by subst hS;have f:=HF.out;go_simp) hH ?_
     simp only [zz]
     refine zT0 30 48 (.pick (.tmp 35) (.tmp 47) (.const (.bool false))) (.bool false) rfl hH ?_
     simp only [zz]
     refine zT0 31 49 (.pick (.tmp 32) (.const (.bool true)) (.tmp 48)) (.bool false) rfl hH ?_
     simp only [zz]
     refine wpAnyH_done (by kernel_rfl) ?_ _
     go_wp2
     go_roundw
     case rel=>exact⟨j+1,_,hlt,by go_num,rfl,HE⟩
     case measure=>simp [RowKit.intOf];omega
  ·obtain rfl:j=n:=by omega
   obtain⟨K,-,hE⟩:=hA.out
   rw [List.drop_eq_nil_of_le (by rw [HN.out];exact Nat.le_refl _)] at hE
   have hRR:(0:Int)=R:=by simpa [asc] using hE
   subst hRR
   clear hE hA
   go_wp2
   go_ret
   exact⟨rfl,_,rfl⟩
end Go.Proofs.YtihiggnglmhggaaGreatDoor.L15
end
section
namespace Go.Proofs.YtihiggnglmhggaaGreatDoor.L15
open Go.RowKit L14
attribute [local go_sem] Oper.semAt_some
theorem take_eq {α:Type} {l m:List α} {k:Nat} (h1:k<l.length) (h2:k<m.length) (h:l.take k=m.take k) (e:l[k]=m[k]):l.take (k+1)=m.take (k+1):=by
 rw [List.take_add_one,List.take_add_one,h,List.getElem?_eq_getElem h1,List.getElem?_eq_getElem h2,e]
theorem take_all {α:Type} {l m:List α} {n:Nat} (h1:l.length=n) (h2:m.length=n) (h:l.take n=m.take n):l=m:=by
 rwa [List.take_of_length_le (by omega),List.take_of_length_le (by omega)] at h
theorem off_len {α:Type} {l m:List α} {b:Bool} {n n':Nat} (hn:l.length=n) (hn':m.length=n') (hne:¬ n=n') (hb:b=true↔l=m):b=false:=by
 cases b with
 | false=>rfl
 | true =>
  have:=hb.1 rfl
  subst this
  omega
theorem at_ne {α:Type} {l m:List α} {b:Bool} {k:Nat} (hk1:k<l.length) (hk2:k<m.length) (he:¬ l[k]=m[k]) (hb:b=true↔l=m):b=false:=by
 cases b with
 | false=>rfl
 | true =>
  have:=hb.1 rfl
  subst this
  exact absurd rfl he
theorem byte_ne2 {x y:UInt8} (h:x≠y):((x.toNat:Int)==(y.toNat:Int))=false∧¬ (x.toNat:Int)=(y.toNat:Int):=by
 have:¬ (x.toNat:Int)=(y.toNat:Int):=fun e=>h (UInt8.toNat_inj.1 (by omega))
 exact⟨by simpa using this,this⟩
theorem rsameB_at (v v':Value) (l m:List UInt8) (b:Bool) (w:World) (hl:l.length≤1000000000) (hm:m.length≤1000000000) (hv:Rw eB w v l) (hv':Rw eB w v' m) (hb:b=true↔l=m) :
  Calls Tryz.prog 72 #[v,v'] w fun e w'=>e=.returned (.bool b)∧∃ q,w'=w.drewN q:=by
 obtain⟨n,hn⟩:∃ n,l.length=n:=⟨_,rfl⟩
 obtain⟨n',hn'⟩:∃ n,m.length=n:=⟨_,rfl⟩
 obtain⟨a,c,rfl,-,-,hc⟩:=hv.form hn
 obtain⟨a',c',rfl,-,-,hc'⟩:=hv'.form hn'
 rw [hn] at hl
 rw [hn'] at hm
 by_cases hne:n=n'
 ·subst hne
  have HN:=Lib.hid hn
  have HM:=Lib.hid hn'
  have HC:=Lib.hid hc
  have HC':=Lib.hid hc'
  have HB:=Lib.hid hb
  clear hn hn' hc hc' hb hv hv'
  go_enter Tryz.func72,Tryz.ntmps72
  go_wp2
  go_loopw [5] (fun i wr=>∃ k q:Nat,k≤n∧i=.int .i64 (k:Int)∧wr=w.drewN q∧Hid (l.take k=m.take k)) (fun i _=>n-(RowKit.intOf i).toNat)
  case atStart=>exact⟨0,0,Nat.zero_le _,rfl,rfl,Lib.hid rfl⟩
  case round =>
   obtain⟨k,q,hk,rfl,rfl,hT⟩:=hrel
   by_cases hlt:k<n
   ·have hk1:k<l.length:=by rw [HN.out];exact hlt
    have hk2:k<m.length:=by rw [HM.out];exact hlt
    obtain⟨b1,o1,rfl,hb1,hc1⟩:=HC.out (by omega)
    obtain⟨b2,o2,rfl,hb2,hc2⟩:=HC'.out (by omega)
    have hx:=hc1 k hk1
    have hy:=hc2 k hk2
    clear hc1 hc2
    have hlt':(k:Int)<(n:Int):=by omega
    by_cases he:l[k]=m[k]
    ·have HT:=Lib.hid (take_eq hk1 hk2 hT.out he)
     rw [← he] at hy
     obtain⟨d,hd⟩:∃ d,l[k].toNat=d:=⟨_,rfl⟩
     unfold eB at hx hy
     rw [hd] at hx hy
     clear he hd hT
     go_wp2
     go_quiet (fail)
     go_wp2
     go_roundw
     case rel=>exact⟨k+1,q+nq,by omega,by go_num,rfl,HT⟩
     case measure=>simp [RowKit.intOf];omega
    ·have HB2:=Lib.hid (at_ne hk1 hk2 he HB.out)
     obtain⟨n1,n2⟩:=byte_ne2 he
     unfold eB at hx hy
     obtain⟨d,hd⟩:∃ d,l[k].toNat=d:=⟨_,rfl⟩
     obtain⟨d',hd'⟩:∃ d,m[k].toNat=d:=⟨_,rfl⟩
     rw [hd] at hx n1 n2
     rw [hd'] at hy n1 n2
     clear he hd hd' hT
     go_wp2
     go_quiet (fail)
     go_wp2
     go_ret
     rw [HB2.out]
     exact⟨rfl,q+nq,World.drewN_drewN ..⟩
   ·obtain rfl:k=n:=by omega
    have HB2:Hid (b=true):=Lib.hid (HB.out.2 (take_all HN.out HM.out hT.out))
    clear hT
    go_wp2
    go_ret
    rw [HB2.out]
    exact⟨rfl,q,rfl⟩
 ·obtain rfl:=off_len hn hn' hne hb
  have h1:¬ (n:Int)=(n':Int):=by omega
  have h2:((n:Int)==(n':Int))=false:=by simpa using h1
  clear hn hn' hc hc' hb hv hv'
  go_enter Tryz.func72,Tryz.ntmps72
  go_wp2
  go_ret
  exact⟨rfl,0,rfl⟩
end Go.Proofs.YtihiggnglmhggaaGreatDoor.L15
end
section
namespace Go.Proofs.YtihiggnglmhggaaGreatDoor.L15
open Go.RowKit L14
attribute [local go_sem] Oper.semAt_some
theorem infoSr:(Tryz.prog.info? 111).map (fun i=>(i.zero,i.size,i.bytes))=some (some (.agg #[.int .i64 0,.slice none 0 0]),2,32):=by kernel_rfl
end Go.Proofs.YtihiggnglmhggaaGreatDoor.L15
end
section
namespace Go.Proofs.YtihiggnglmhggaaGreatDoor.L14
open Go.RowKit
attribute [local go_sem] Oper.semAt_some
def RpP (l:List UInt8) (e:Ending) (w':World):Prop :=
 (prV l=none∧e=.returned (.tuple #[.slice none 0 0,.bool false]))∨∃ ts a c,prV l=some ts∧e=.returned (.tuple #[.slice a ts.length c,.bool true])∧Rw eT w' (.slice a ts.length c) ts
theorem rgE_gtx (l:List UInt8) (p:Nat):rgE l (p:Int)=match gtx l p with
  | none=>.returned (.tuple #[.string ⟨#[]⟩,.bool false])
  | some t=>.returned (.tuple #[.string (mkB t),.bool true]):=by
 unfold rgE gtI
 rw [if_pos (by omega),Int.toNat_natCast]
 all_goals (cases gtx l p <;> rfl)
theorem rparse_at (v:Value) (l:List UInt8) (w:World) (h:Rw eB w v l) (hl:l.length≤100000) :
  Calls Tryz.prog 70 #[v] w fun e w'=>RpP l e w'∧Below w.heap.size w w':=by
 obtain⟨ii,hi,hz0,hz1,hz2⟩:=info_parts infoText
 obtain⟨n,hn⟩:∃ n,l.length=n:=⟨_,rfl⟩
 obtain⟨a,c,rfl,hc1,-,hc⟩:=h.form hn
 have HG:=Lib.hid (fun (p:Nat) (W:World) (hb:Below w.heap.size w W)=>rget_at _ l (p:Int) W (by omega) (h.below hb))
 rw [hn] at hl
 have HN:=Lib.hid hn
 by_cases h0:n=0
 ·subst h0
  have hnil:l=[]:=List.eq_nil_of_length_eq_zero hn
  have HR:=Lib.hid (show prV l=none by rw [hnil];rfl)
  clear h hn hc hnil HG
  go_enter Tryz.func70,Tryz.ntmps70
  go_wp2
  refine bodyPost_ret (v:=.tuple #[.slice none 0 0,.bool false]) (by simp [results,Tryz.results70,go_sem]) rfl ⟨.inl ⟨HR.out,rfl⟩,Below.refl _ _⟩
 obtain⟨b,o,rfl,hb,hcc⟩:=hc (by omega)
 obtain⟨d,r,rfl⟩:∃ d r,l=d::r:=by
  cases l with
  | nil=>simp at hn;omega
  | cons d r=>exact⟨d,r,rfl⟩
 have hx:=hcc 0 (by rw [hn];omega)
 replace hx:w.cell? ⟨b,o,none⟩=some (.int .u8 (d.toNat:Int)):=hx
 have hne0:((n:Int)==0)=false:=by rw [beq_eq_false_iff_ne];omega
 have hpos:(0:Int)<(n:Int):=by omega
 by_cases hd:d=0
 ·subst hd
  replace hx:w.cell? ⟨b,o,none⟩=some (.int .u8 0):=hx
  have HP:Hid (prV (0::r)=pr [] r):=Lib.hid (by show (if (0:UInt8)=0 then pr [] r else none)=_;rw [if_pos rfl])
  clear h hn hc hcc
  go_enter Tryz.func70,Tryz.ntmps70
  go_wp2
  go_loopw [4,5,6,7] (fun v at' _ _ wr=>∃ (pre:List (List UInt8)) (p m:Nat),at'=.int .i64 (p:Int)∧1≤p∧p≤n∧m≤p∧wr.ownsRow w.heap.size 9 1 v m (pre.map eT)∧Hid (pre.length=m)∧Hid (pr [] r=(pr [] ((0::r).drop p)).map (pre++·))∧Below w.heap.size w wr) (fun _ at' _ _ _=>n-(RowKit.intOf at').toNat)
  case atStart=>exact⟨[],1,0,rfl,Nat.le_refl _,by omega,by omega,World.ownsRow_nil _ _ _ _,Lib.hid rfl,Lib.hid (by simp),Below.refl _ _⟩
  case round =>
   obtain⟨pre,p,m,rfl,hp1,hpn,hm,hown,hPL,hPR,hBw⟩:=hrel
   have hsz:=hBw.size
   by_cases hlt:p<n
   ·have hlt':(p:Int)<(n:Int):=by omega
    have HGp:=Lib.hid (HG.out p wr hBw)
    have hR:=hPR.out
    have hlne:(0::r).drop p≠[]:=by
     intro e
     have:=congrArg List.length e
     rw [List.length_drop,HN.out] at this
     simp at this;omega
    rw [rgE_gtx] at HGp
    unfold gtx at HGp
    cases hf:fz ((0::r).drop p) with
    | none =>
     have hpr:=pr_none ((0::r).drop p) [] hf (by simpa using hlne)
     rw [hpr] at hR
     have HR:=Lib.hid (show prV (0::r)=none by rw [HP.out,hR];rfl)
     rw [hf] at HGp
     simp only [Option.map_none] at HGp
     clear hpr hR hlne hf hPR
     go_wp2_with (go_at_call 114;((with_reducible refine (HGp.out).mono ?_);rintro e w1 ⟨rfl,rfl⟩))
     refine bodyPost_ret (v:=.tuple #[.slice none 0 0,.bool false]) (by simp [results,Tryz.results70,go_sem]) rfl ⟨.inl ⟨HR.out,rfl⟩,hBw⟩
    | some i =>
     have hpr:=pr_some ((0::r).drop p) i [] hf
     rw [List.nil_append] at hpr
     obtain⟨h1,h2,h3⟩:=fz_some hf
     rw [List.length_drop,HN.out] at h1
     have htl:(((0::r).drop p).take i).length=i:=by rw [List.length_take,List.length_drop,HN.out];omega
     rw [hf] at HGp
     simp only [Option.map_some] at HGp
     have hTs:=mkB_size (((0::r).drop p).take i)
     rw [htl] at hTs
     by_cases hi0:i=0
     ·subst hi0
      rw [List.take_zero,if_pos rfl] at hpr
      rw [hpr] at hR
      have HR:=Lib.hid (show prV (0::r)=none by rw [HP.out,hR];rfl)
      have em:mkB (((0::r).drop p).take 0)=⟨#[]⟩:=by rw [List.take_zero];rfl
      rw [em] at HGp
      clear hpr hR hlne hf hPR h1 h2 h3 htl hTs em
      go_wp2_with (go_at_call 114;((with_reducible refine (HGp.out).mono ?_);rintro e w1 ⟨rfl,rfl⟩))
      refine bodyPost_ret (v:=.tuple #[.slice none 0 0,.bool false]) (by simp [results,Tryz.results70,go_sem]) rfl ⟨.inl ⟨HR.out,rfl⟩,hBw⟩
     ·have hnn:¬ ((0::r).drop p).take i=[]:=fun e=>by
       have:=congrArg List.length e
       rw [htl] at this
       exact hi0 this
      rw [if_neg hnn] at hpr
      rw [hpr,Option.map_map,List.drop_drop] at hR
      obtain⟨t,htt⟩:∃ t,((0::r).drop p).take i=t:=⟨_,rfl⟩
      rw [htt] at hR HGp hTs htl
      have hR2:pr [] r=(pr [] ((0::r).drop (p+(i+1)))).map ((pre++[t])++·):=by
       rw [hR]
       congr 1
       funext us
       simp
      have HR2:=Lib.hid hR2
      have hcells:pre.map eT++[.string (mkB t)]=(pre++[t]).map eT:=by simp [eT]
      obtain⟨T,hT⟩:∃ T,mkB t=T:=⟨_,rfl⟩
      rw [hT] at HGp hTs hcells
      have HCL:=Lib.hid hcells
      have hte:T.toList.isEmpty=false:=by
       rw [Lib.toList_data,← hT,mkB_list]
       cases t with
       | nil=>simp at htl;omega
       | cons _ _=>rfl
      clear hpr hR hlne hf hPR h2 h3 htl htt hnn hR2 hcells hT
      go_wp2_with (first
       | (go_at_call 114;((with_reducible refine (HGp.out).mono ?_);rintro e w1 ⟨rfl,rfl⟩))
       | (at_builtin;refine wpList_append_own _ rfl _ _ 78 rfl w.heap.size 9 ii (.string ⟨#[]⟩) 1 16 Tryz.underlying78 hi hz0 hz1 hz2 rfl (by decide) _ m _ rfl (hown.alloc _) ⟨wr.heap.size,0,none⟩ 1 1 [.string T] rfl rfl (World.news_of_block (cs:=#[.string T]) (t:=9) (fr:=(0,0)) (heap_alloc_last wr _)) (by simp [Value.oneCell']) (by unfold maxLen;omega) (by omega) (by simp;omega) ?_;intro v' w3 hown3 hgrow3 _))
      go_roundw
      case rel =>
       rw [HCL.out] at hown3
       exact⟨pre++[_],p+(i+1),m+1,by go_num,by omega,by omega,by omega,hown3,Lib.hid (by rw [List.length_append,hPL.out];rfl),HR2,(hBw.alloc hsz _).grown hgrow3 (by simp;omega) (own_base hown)⟩
      case measure=>simp [RowKit.intOf];omega
   ·obtain rfl:p=n:=by omega
    obtain⟨va,vc,rfl⟩:=owns_slice hown
    have hz0':(0::r).drop p=[]:=List.drop_eq_nil_of_le (by rw [HN.out];exact Nat.le_refl _)
    have hR:=hPR.out
    rw [hz0'] at hR
    have hR:pr [] r=some pre:=by rw [hR];simp [pr]
    have hpl:=hPL.out
    have HW:Hid (Rw eT wr (.slice va pre.length vc) pre):=Lib.hid (by rw [← hpl] at hown;rw [hpl] at hown ⊢;subst hpl;exact Rw.own hown)
    have HR:=Lib.hid hR
    clear hz0' hR hpl hPR
    go_wp2
    refine bodyPost_ret (v:=.tuple #[.slice va m vc,.bool true]) (by simp [results,Tryz.results70,go_sem]) rfl ⟨.inr ⟨pre,va,vc,by rw [HP.out,HR.out],by rw [hPL.out],HW.out⟩,hBw⟩
 ·have hnd:((d.toNat:Int)==0)=false:=byte_ne (d:=0) hd
  have HR:=Lib.hid (show prV (d::r)=none by show (if d=0 then pr [] r else none)=none;rw [if_neg hd])
  obtain⟨x,hx2⟩:∃ x:Int,(d.toNat:Int)=x:=⟨_,rfl⟩
  rw [hx2] at hx hnd
  clear h hn hc hcc HG hd hx2
  go_enter Tryz.func70,Tryz.ntmps70
  go_wp2
  refine bodyPost_ret (v:=.tuple #[.slice none 0 0,.bool false]) (by simp [results,Tryz.results70,go_sem]) rfl ⟨.inl ⟨HR.out,rfl⟩,Below.refl _ _⟩
end Go.Proofs.YtihiggnglmhggaaGreatDoor.L14
end
section
namespace Go.Proofs.YtihiggnglmhggaaGreatDoor.L14
open Go.RowKit
attribute [local go_sem] Oper.semAt_some
theorem rparse_none (v:Value) (l:List UInt8) (w:World) (h:Rw eB w v l) (hl:l.length≤100000) (hp:prV l=none) :
  Calls Tryz.prog 70 #[v] w fun e w'=>e=.returned (.tuple #[.slice none 0 0,.bool false])∧Below w.heap.size w w':=by
 refine (rparse_at v l w h hl).mono fun e w' hP=>?_
 obtain⟨⟨-,he⟩|⟨ts,_,_,hq,-⟩,hb⟩:=hP
 ·exact⟨he,hb⟩
 ·rw [hp] at hq;cases hq
theorem rparse_some (v:Value) (l:List UInt8) (ts:List (List UInt8)) (n:Nat) (w:World) (h:Rw eB w v l) (hl:l.length≤100000) (hp:prV l=some ts) (hn:ts.length=n) :
  Calls Tryz.prog 70 #[v] w fun e w'=>(∃ a c,e=.returned (.tuple #[.slice a n c,.bool true])∧Rw eT w' (.slice a n c) ts)∧Below w.heap.size w w':=by
 subst hn
 refine (rparse_at v l w h hl).mono fun e w' hP=>?_
 obtain⟨⟨hq,-⟩|⟨us,a,c,hq,he,h1⟩,hb⟩:=hP
 ·rw [hp] at hq;cases hq
 ·rw [hp] at hq;cases hq
  exact⟨⟨a,c,he,h1⟩,hb⟩
theorem rbuild_n (v:Value) (l:List (List UInt8)) (n N:Nat) (w:World) (h:Rw eT w v l) (hl:l.length≤100000) (ht:tot l≤1000000) (hn:l.length=n) (hN:(tb l).length=N) :
  Calls Tryz.prog 115 #[v] w fun e w'=>(∃ a1 c1 a2 c2,e=.returned (.tuple #[.slice a1 N c1,.slice a2 n c2])∧Rw eB w' (.slice a1 N c1) (tb l)∧Rw eN w' (.slice a2 n c2) (ofs 1 l))∧Below w.heap.size w w':=by
 subst hn hN
 exact rbuild_at v l w h hl ht
end Go.Proofs.YtihiggnglmhggaaGreatDoor.L14
end
section
namespace Go.Proofs.YtihiggnglmhggaaGreatDoor.L16
open L15
open L13 (Ob)
theorem is16_one {b:List UInt8} {o q:Ob} (h:Is16 b o) (k:Is16 b q):o=q:=by
 have e:secs o=secs q:=by rw [← (is16_rd h).2,(is16_rd k).2]
 have go:=gd_of h.1
 have gq:=gd_of k.1
 simp only [secs,List.cons.injEq,Prod.mk.injEq,true_and,and_true] at e
 obtain⟨e1,e2,e3,e4,e5⟩:=e
 have e6:nmL o.maps=nmL q.maps:=by
  have h1:=prV_secs go
  rw [e5,prV_secs gq] at h1
  exact (Option.some.inj h1).symm
 rw [← obT_secs go,← obT_secs gq,e1,e2,e4,e6]
end Go.Proofs.YtihiggnglmhggaaGreatDoor.L16
end
section
namespace Go.Proofs.YtihiggnglmhggaaGreatDoor.L15
open Go.RowKit L14
attribute [local go_sem] Oper.semAt_some
theorem byte_val (z:Nat):eB (UInt8.ofNat (z % 256))=.int .u8 ((z % 256:Nat):Int):=by
 unfold eB
 rw [UInt8.toNat_ofNat']
 congr 2
 omega
def Gr (f:Prop) (w:World) (B:Nat) (v:Value) (n:Nat) (xs:List Value):Prop :=
 w.ownsRow B 5 1 v n xs∨(f∧∃ g,v=.slice (some ⟨g,0,none⟩) n n∧B≤g∧g<w.heap.size∧xs.length=n∧∀ j u,xs[j]?=some u→w.cell? ⟨g,j,none⟩=some u)
theorem Gr.slice {f:Prop} {w:World} {B:Nat} {v:Value} {n:Nat} {xs:List Value} (h:Gr f w B v n xs):∃ a c,v=.slice a n c:=by
 rcases h with h|⟨-,g,rfl,-⟩
 ·exact owns_slice h
 ·exact⟨_,_,rfl⟩
theorem Gr.base {f:Prop} {w:World} {B:Nat} {v:Value} {n:Nat} {xs:List Value} (h:Gr f w B v n xs):∀ k,v.ownBlock=some k→B≤k:=by
 rcases h with h|⟨-,g,rfl,hb,-⟩
 ·exact own_base h
 ·intro k hk
  simp [Value.ownBlock] at hk
  omega
theorem Gr.alloc {f:Prop} {w:World} {B:Nat} {v:Value} {n:Nat} {xs:List Value} (h:Gr f w B v n xs) (o:Obj):Gr f (w.alloc o) B v n xs:=by
 rcases h with h|⟨hf,g,rfl,hb,hl,hx,hc⟩
 ·exact .inl (h.alloc o)
 ·exact .inr ⟨hf,g,rfl,hb,Nat.lt_of_lt_of_le hl (by simp),hx,fun j u hu=>((bnew w o).cell (by exact hl)).trans (hc j u hu)⟩
theorem run_append_full {w:World} (B:Nat) (ty:TypeId) (g n:Nat) (xs:List Value) (hxs:xs.length=n) (hc:∀ j u,xs[j]?=some u→w.cell? ⟨g,j,none⟩=some u) (ad:Addr) (c:Nat) (x:Value) (hx:w.cell? (ad.add 0)=some x) (hn:n≤2000000000) (hB:B≤w.heap.size) :
  ∃ v' w',(Builtin.append_ #[23,23] ty #[.slice (some ⟨g,0,none⟩) n n,.slice (some ad) 1 c]).run Tryz.prog w=.ok v' w'∧w'.ownsRow B 5 1 v' (n+1) (xs++[x])∧∀ row,w.grownBy w' row:=by
 obtain⟨ib,ki,kz0,kz1,kz2⟩:=info_parts infoByte
 have hr:=run_append_grow (P:=Tryz.prog) w 23 ty 5 ib (.int .u8 0) Tryz.underlying23 ki kz0 ⟨g,0,none⟩ n n xs (by rw [kz1,hxs];omega) (fun j u hu=>by rw [add0,Nat.zero_add];exact hc j u hu) ad 1 c [x] (by rw [kz1];rfl)
  (fun j u hu=>by
   cases j with
   | zero=>simp only [List.getElem?_cons_zero,Option.some.injEq] at hu;rw [← hu];exact hx
   | succ j=>simp at hu) (by omega) (by omega) (growslice_fits (by omega) (by rw [kz2];omega))
 refine⟨_,_,hr,⟨by simp [hxs],.inr ⟨w.heap.size,_,_,rfl,hB,heap_alloc_new w.drew _,grownCap_ge w (n+1) n 5,grownCap_le_maxLen w (n+1) n 5 (by unfold maxLen;omega),?_,?_⟩⟩,fun row=>⟨rfl,rfl,rfl,by simp,fun k hk _=>heap_alloc_old w.drew _ hk⟩⟩
 ·have hge:=grownCap_ge w (n+1) n 5
  simp [size_zeroCells,hxs,Value.cells]
  omega
 ·simp only [Array.toList_append]
  rw [List.take_append_of_le_length (by simp [hxs]),List.take_of_length_le (by simp [hxs])]
theorem wpList_append_gr {f:Prop} {w:World} {ops:Array Oper} {rest:List Oper} {o:Oper} {a:Act} {Q:Exit→Act→World→Prop} (hgd:o.guard=none) (s x:Operand)
  (ho:o.op=.call { callee:=.builtin .append,args:=#[s,x],argTypes:=#[23,23] }) (base:Nat)
  (v:Value) (n:Nat) (xs:List Value) (hs:a.eval s=v) (hown:Gr f w base v n xs) (g:Nat) (y:Value) (hx:a.eval x=.slice (some ⟨g,0,none⟩) 1 1) (hy:w.cell? ⟨g,0,none⟩=some y) (h1:y.oneCell'=true) (hn:n≤2000000000) (hbase:base≤w.heap.size)
  (h:∀ v' w',w'.ownsRow base 5 1 v' (n+1) (xs++[y])→w.grownBy w' v.ownBlock→wpList Tryz.prog ops Q rest (a.put o.dst v') w'):wpList Tryz.prog ops Q (o::rest) a w:=by
 obtain⟨ib,ki,kz0,kz1,kz2⟩:=info_parts infoByte
 rcases hown with hown|⟨-,g',rfl,-,-,hxs,hc⟩
 ·refine wpList_append_own w hgd s x 23 ho base 5 ib (.int .u8 0) 1 1 Tryz.underlying23 ki kz0 kz1 kz2 rfl (by decide) v n xs hs hown ⟨g,0,none⟩ 1 1 [y] hx (by simp) (fun j u hu=>?_) (by simpa using h1) (by unfold maxLen;omega) (by omega) hbase (fun v' w' q1 q2 _=>h v' w' q1 q2)
  cases j with
  | zero=>simp only [List.getElem?_cons_zero,Option.some.injEq] at hu;rw [← hu];exact hy
  | succ j=>simp at hu
 ·obtain⟨v',w',hr,q1,q2⟩:=run_append_full (w:=w) base o.type g' n xs hxs hc ⟨g,0,none⟩ 1 y hy hn hbase
  refine wpList_plain hgd fun K hK=>?_
  unfold Oper.wp execOp
  simp only [ho,resolve,invoke,builtin,Sem.run_bind,Sem.run_pure,Result.andThen_ok,List.map_toArray,List.map_cons,List.map_nil,hs,hx,hr]
  exact hK _ _ (h v' w' q1 (q2 _))
theorem number_at (v:Value) (xs:List UInt8) (B N x m:Nat) (w:World) (hB:B≤w.heap.size) (hv:Gr True w B v N (xs.map eB)) (hN:N≤1000000000) (hm:m≤4) (hm0:0<m) (hx:x<4294967296) :
  Calls Tryz.prog 162 #[v,.int .i64 (x:Int),.int .i64 (m:Int)] w fun e w'=>(∃ v',e=.returned v'∧w'.ownsRow B 5 1 v' (N+m) ((xs++le m x).map eB))∧Below B w w':=by
 obtain⟨a,c,rfl⟩:=hv.slice
 have HV:=Lib.hid hv
 clear hv
 go_enter Tryz.func162,Tryz.ntmps162
 go_wp2
 go_loopw [0,1,7] (fun ov y q wr=>∃ j:Nat,j≤m∧q=.int .i64 (j:Int)∧y=.int .i64 ((x / 256 ^ j:Nat):Int)∧Gr (j=0) wr B ov (N+j) ((xs++le j x).map eB)∧B≤wr.heap.size∧Below B w wr) (fun _ _ q _=>m-(RowKit.intOf q).toNat)
 case atStart=>exact⟨0,Nat.zero_le _,rfl,by simp,by simpa [le,Gr] using HV.out,hB,Below.refl _ _⟩
 case round =>
  obtain⟨j,hj,rfl,rfl,hown,hBw,hBe⟩:=hrel
  obtain⟨oa,oc,rfl⟩:=hown.slice
  by_cases hlt:j<m
  ·have hdv:x / 256 ^ j≤x:=Nat.div_le_self _ _
   have hnext:x / 256 ^ (j+1)=x / 256 ^ j / 256:=by rw [Nat.div_div_eq_div_mul,Nat.pow_succ]
   have hcs:(xs++le j x).map eB++[.int .u8 ((x / 256 ^ j % 256:Nat):Int)]=(xs++le (j+1) x).map eB:=by
    rw [le_snoc,← List.append_assoc,List.map_append (l₁:=xs++le j x),← byte_val];rfl
   obtain⟨y,hy⟩:∃ y,x / 256 ^ j=y:=⟨_,rfl⟩
   rw [hy] at hdv hnext hcs ⊢
   have HC:=Lib.hid hcs
   have HY:=Lib.hid hnext
   have hy4:y<4294967296:=by omega
   have e1:((y % 256:Nat):Int)=(y:Int) % 256:=by omega
   rw [e1] at HC
   clear hdv hnext hcs hy e1
   go_wp2_with (at_builtin;refine wpList_append_gr rfl _ _ rfl B _ (N+j) _ rfl (hown.alloc _) wr.heap.size (.int .u8 ((y:Int) % 256)) rfl (cell_new wr _ _) rfl (by omega) (by simp;omega) ?_;intro v' w5 hown6 hgrow6;have B2:=(hBe.alloc hBw _).grown hgrow6 (by simp;omega) hown.base;have z5:B≤w5.heap.size:=Nat.le_trans hBw (Nat.le_trans (by simp) hgrow6.size))
   go_roundw
   case rel=>exact⟨j+1,hlt,by go_num,by rw [HY.out];go_num,.inl (by rw [← HC.out];exact hown6),z5,B2⟩
   case measure=>simp [RowKit.intOf];omega
  ·obtain rfl:j=m:=by omega
   have hown2:wr.ownsRow B 5 1 (.slice oa (N+j) oc) (N+j) ((xs++le j x).map eB):=by
    rcases hown with h|⟨h,-⟩
    ·exact h
    ·omega
   have HO:=Lib.hid hown2
   clear hown hown2
   go_wp2
   go_ret
   exact⟨⟨_,rfl,HO.out⟩,hBe⟩
theorem pad_at (v:Value) (xs:List UInt8) (B N:Nat) (w:World) (hB:B≤w.heap.size) (hv:w.ownsRow B 5 1 v N (xs.map eB)) (hN:N≤1000000000) :
  Calls Tryz.prog 164 #[v] w fun e w'=>(∃ v',e=.returned v'∧w'.ownsRow B 5 1 v' (up N) ((xs++zs N).map eB))∧Below B w w':=by
 obtain⟨ib,ki,kz0,kz1,kz2⟩:=info_parts infoByte
 obtain⟨a,c,rfl⟩:=owns_slice hv
 obtain⟨U,hU⟩:∃ U,up N=U:=⟨_,rfl⟩
 have hU1:=up_ge N
 have hU2:=up_le N
 have hU3:U % 8=0:=by rw [← hU];unfold up;omega
 unfold zs
 rw [hU] at hU1 hU2 ⊢
 have HV:=Lib.hid hv
 clear hv hU
 go_enter Tryz.func164,Tryz.ntmps164
 go_wp2
 go_loopw [0] (fun ov wr=>∃ j:Nat,N+j≤U∧wr.ownsRow B 5 1 ov (N+j) ((xs++List.replicate j 0).map eB)∧B≤wr.heap.size∧Below B w wr) (fun ov _=>U-(match ov with | .slice _ n _=>n|_=>0))
 case atStart=>exact⟨0,by omega,by simpa using HV.out,hB,Below.refl _ _⟩
 case round =>
  obtain⟨j,hj,hown,hBw,hBe⟩:=hrel
  obtain⟨oa,oc,rfl⟩:=owns_slice hown
  by_cases hlt:N+j<U
  ·have hne:(((N+j:Nat):Int) % 8 != 0)=true:=by
    simp only [bne_iff_ne,ne_eq];omega
   have hcs:(xs++List.replicate j 0).map eB++[.int .u8 0]=(xs++List.replicate (j+1) 0).map eB:=by
    rw [List.replicate_succ',← List.append_assoc,List.map_append (l₁:=xs++List.replicate j 0)];rfl
   obtain⟨M,hM⟩:∃ M,N+j=M:=⟨_,rfl⟩
   have HC:=Lib.hid hcs
   have HM:=Lib.hid hM
   rw [hM] at hown hne ⊢
   have hMb:M≤2000000000:=by omega
   have hMU:M<U:=by omega
   clear hcs hM
   go_wp2_with (at_builtin;refine wpList_append_own _ rfl _ _ 23 rfl B 5 ib (.int .u8 0) 1 1 Tryz.underlying23 ki kz0 kz1 kz2 rfl (by decide) _ M _ rfl (hown.alloc _) ⟨wr.heap.size,0,none⟩ 1 1 [.int .u8 0] rfl rfl (World.news_of_block (cs:=#[.int .u8 0]) (t:=5) (fr:=(0,0)) (heap_alloc_last wr _)) (by simp [Value.oneCell']) (by unfold maxLen;omega) (by omega) (by simp;omega) ?_;intro v' w5 hown6 hgrow6 _;have B2:=(hBe.alloc hBw _).grown hgrow6 (by simp;omega) (own_base hown);have z5:B≤w5.heap.size:=Nat.le_trans hBw (Nat.le_trans (by simp) hgrow6.size);obtain⟨na,nc,hvs⟩:=owns_slice hown6;subst hvs)
   go_roundw
   case rel=>exact⟨j+1,by have:=HM.out;omega,by rw [← HC.out,← Nat.add_assoc,HM.out];exact hown6,z5,B2⟩
   case measure=>simp;omega
  ·obtain⟨M,hM⟩:∃ M,N+j=M:=⟨_,rfl⟩
   obtain rfl:M=U:=by omega
   have hej:j=M-N:=by omega
   have hz:(((N+j:Nat):Int) % 8 != 0)=false:=by
    simp only [bne_eq_false_iff_eq];omega
   subst hej
   rw [hM] at hown hz ⊢
   have HO:=Lib.hid hown
   clear hown hM
   go_wp2
   go_ret
   exact⟨⟨_,rfl,HO.out⟩,hBe⟩
theorem body_snoc (l:List Sc) (k:Nat) (h:k<l.length):body (l.take (k+1))=body (l.take k)++l[k].2++zs l[k].2.length:=by
 rw [take_snoc l k h,body_app,body,body,List.append_nil,List.append_assoc]
theorem tot_8:∀ l:List Sc,tot l % 8=0
 | []=>rfl
 | s::r=>by
  have:=tot_8 r
  rw [tot];unfold up;omega
def NuP (B:Nat) (xs:List UInt8) (N:Nat) (e:Ending) (w':World) (w:World):Prop:=(∃ a c,e=.returned (.slice a N c)∧w'.ownsRow B 5 1 (.slice a N c) N (xs.map eB))∧Below B w w'∧w.heap.size≤w'.heap.size
theorem number_is (v:Value) (xs ys:List UInt8) (B N M x m:Nat) (X Mi:Int) (w:World) (hB:B≤w.heap.size) (hv:Gr True w B v N (xs.map eB)) (hN:N≤1000000000) (hm:m≤4∧0<m) (hx:x<4294967296) (hX:X=(x:Int)) (hM:Mi=(m:Int)) (hys:ys=xs++le m x) (hNM:M=N+m) :
  Calls Tryz.prog 162 #[v,.int .i64 X,.int .i64 Mi] w fun e w'=>NuP B ys M e w' w:=by
 subst hX hM hys hNM
 refine (number_at v xs B N x m w hB hv hN hm.1 hm.2 hx).mono fun e w' h=>?_
 obtain⟨⟨v',he,ho⟩,hb⟩:=h
 obtain⟨a,c,rfl⟩:=owns_slice ho
 exact⟨⟨a,c,he,ho⟩,hb,hb.size⟩
theorem pad_is (v:Value) (xs ys:List UInt8) (B N M:Nat) (w:World) (hB:B≤w.heap.size) (hv:w.ownsRow B 5 1 v N (xs.map eB)) (hN:N≤1000000000) (hys:ys=xs++zs N) (hNM:M=up N) :
  Calls Tryz.prog 164 #[v] w fun e w'=>NuP B ys M e w' w:=by
 subst hys hNM
 refine (pad_at v xs B N w hB hv hN).mono fun e w' h=>?_
 obtain⟨⟨v',he,ho⟩,hb⟩:=h
 obtain⟨a,c,rfl⟩:=owns_slice ho
 exact⟨⟨a,c,he,ho⟩,hb,hb.size⟩
theorem rwrite_at (v:Value) (l:List Sc) (w:World) (hv:Ss w v l) (hs:Fw l) (hk:asc 0 l=true) (S:Nat) (hS:szL l=S) :
  Calls Tryz.prog 113 #[v] w fun e w'=>NuP w.heap.size (wr l) S e w' w:=by
 obtain⟨n,hn⟩:∃ n,l.length=n:=⟨_,rfl⟩
 obtain⟨a,c,rfl,-,-,hc⟩:=hv.form hn
 have hnl:=hs.n
 have htt:=hs.tot
 have hsz:=hs.sz
 rw [hn] at hnl
 rw [hS] at hsz
 have hS2:S=hd n+tot l:=by rw [← hS,← hn];rfl
 obtain⟨H,hH⟩:∃ H,hd n=H:=⟨_,rfl⟩
 have hHb:H≤300:=by
  have:=up_le (16+12*n)
  rw [← hH];unfold hd;omega
 rw [hH] at hS2
 have HZ:=Lib.hid (fun W (hb:Below w.heap.size w W)=>rsize_at (.slice a n c) l S W (hv.below hb) hs.sml hS)
 have HU:=Lib.hid (show ∀ W,Calls Tryz.prog 163 #[.int .i64 (16+12*(n:Int))] W fun e w'=>e=.returned (.int .i64 (H:Int))∧W=w' from fun W=>rup_at (16+12*n) H W (by omega) hH)
 have hkc:=Lib.run_convert_bytes_const (P:=Tryz.prog) w 23 5 #[.int .u8 83,.int .u8 76,.int .u8 67,.int .u8 49] 4 4 Tryz.underlying23 Tryz.underlying5
 have hr0:Gr True (w.alloc (.cells #[.int .u8 83,.int .u8 76,.int .u8 67,.int .u8 49] 5 (4,5))) w.heap.size (.slice (some ⟨w.heap.size,0,none⟩) 4 4) 4 (([83,76,67,49]:List UInt8).map eB):=by
  refine .inr ⟨trivial,w.heap.size,rfl,Nat.le_refl _,by simp,rfl,fun j u hu=>?_⟩
  have hn:(w.alloc (.cells #[.int .u8 83,.int .u8 76,.int .u8 67,.int .u8 49] 5 (4,5))).heap[w.heap.size]?=some (.cells #[.int .u8 83,.int .u8 76,.int .u8 67,.int .u8 49] 5 (4,5)):=heap_alloc_new w _
  unfold World.cell?
  simp only [hn]
  rw [← hu]
  simp [eB]
 have HR0:=Lib.hid hr0
 have b0:=Lib.hid (bnew w (.cells #[.int .u8 83,.int .u8 76,.int .u8 67,.int .u8 49] 5 (4,5)))
 have HN1:=Lib.hid (fun W v (hB:w.heap.size≤W.heap.size) (h:Gr True W w.heap.size v 4 (([83,76,67,49]:List UInt8).map eB))=>number_is v _ ([83,76,67,49]++le 2 1) w.heap.size 4 6 1 2 1 2 W hB h (by omega) (by omega) (by omega) rfl rfl rfl rfl)
 have HN2:=Lib.hid (fun W v (hB:w.heap.size≤W.heap.size) (h:W.ownsRow w.heap.size 5 1 v 6 (([83,76,67,49]++le 2 1:List UInt8).map eB))=>number_is v _ ([83,76,67,49]++le 2 1++le 2 n) w.heap.size 6 8 n 2 (n:Int) 2 W hB (.inl h) (by omega) (by omega) (by omega) rfl rfl rfl rfl)
 have HN3:=Lib.hid (fun W v (hB:w.heap.size≤W.heap.size) (h:W.ownsRow w.heap.size 5 1 v 8 (([83,76,67,49]++le 2 1++le 2 n:List UInt8).map eB))=>number_is v _ ([83,76,67,49]++le 2 1++le 2 n++le 4 S) w.heap.size 8 12 S 4 (S:Int) 4 W hB (.inl h) (by omega) (by omega) (by omega) rfl rfl rfl rfl)
 have HN4:=Lib.hid (fun W v (hB:w.heap.size≤W.heap.size) (h:W.ownsRow w.heap.size 5 1 v 12 (([83,76,67,49]++le 2 1++le 2 n++le 4 S:List UInt8).map eB))=>number_is v _ (hea l) w.heap.size 12 16 0 4 0 4 W hB (.inl h) (by omega) (by omega) (by omega) rfl rfl (by rw [hea,hn,hS]) rfl)
 have HC:=Lib.hid hc
 have HN:=Lib.hid hn
 have HS2:=Lib.hid hS2
 have HT:=Lib.hid htt
 have HH:=Lib.hid hH
 have HM:=Lib.hid hs.d
 have HK:=Lib.hid hk
 clear hn hc hv hs hk hS hS2 htt hr0 hH
 go_enter Tryz.func113,Tryz.ntmps113
 go_wp2_with (first
  | (go_at_call 162;((with_reducible refine (HN1.out _ _ (by simp) HR0.out).mono ?_);rintro e w1 ⟨⟨a1,c1,rfl,o1⟩,b1,z1⟩;have B1:=b0.out.trans b1))
  | (go_at_call 162;((with_reducible refine (HN2.out _ _ B1.size o1).mono ?_);rintro e w2 ⟨⟨a2,c2,rfl,o2⟩,b2,z2⟩;have B2:=B1.trans b2))
  | (go_at_call 161;((with_reducible refine (HZ.out _ B2).mono ?_);rintro e w3 ⟨rfl,rfl⟩))
  | (go_at_call 162;((with_reducible refine (HN3.out _ _ B2.size o2).mono ?_);rintro e w4 ⟨⟨a4,c4,rfl,o4⟩,b4,z4⟩;have B4:=B2.trans b4))
  | (go_at_call 162;((with_reducible refine (HN4.out _ _ B4.size o4).mono ?_);rintro e w5 ⟨⟨a5,c5,rfl,o5⟩,b5,z5⟩;have B5:=B4.trans b5))
  | (go_at_call 163;((with_reducible refine (HU.out _).mono ?_);rintro e w6 ⟨rfl,rfl⟩)))
 have H5:=Lib.hid (And.intro o5 B5)
 clear o1 o2 o4 o5 b1 b2 b4 b5 B1 B2 B4 B5 z1 z2 z4 z5 HN1 HN2 HN3 HN4
 go_loopw [3,4,5] (fun ov at' q wr=>∃ j:Nat,j≤n∧q=.int .i64 (j:Int)∧at'=.int .i64 ((H+tot (l.take j):Nat):Int)∧wr.ownsRow w.heap.size 5 1 ov (16+12*j) ((hea l++rows H (l.take j)).map eB)∧Below w.heap.size w wr) (fun _ _ q _=>n-(RowKit.intOf q).toNat)
 case atStart=>exact⟨0,Nat.zero_le _,rfl,by simp [tot],by simpa [rows] using H5.out.1,H5.out.2⟩
 case round =>
  clear H5
  obtain⟨j,hj,rfl,rfl,hown,hB⟩:=hrel
  obtain⟨oa,oc,rfl⟩:=owns_slice hown
  by_cases hlt:j<n
  ·have hjl:j<l.length:=by rw [HN.out];exact hlt
   obtain⟨bb,o,rfl,hbl,hcc⟩:=HC.out (by omega)
   obtain⟨x0,dv,x1,hr⟩:=hcc j hjl
   obtain⟨m,hm⟩:∃ m,l[j].2.length=m:=⟨_,rfl⟩
   obtain⟨da,dc,rfl,-⟩:=hr.form hm
   have hk:=asc_lt l 0 l[j] HK.out (List.getElem_mem hjl)
   obtain⟨kn,hkn⟩:∃ kn:Nat,l[j].1=(kn:Int):=⟨l[j].1.toNat,by omega⟩
   rw [hkn] at x0 hk
   have hml:=HM.out _ (List.getElem_mem hjl)
   rw [hm] at hml
   have hst:=tot_step l j hjl
   have hle:=tot_le l (j+1)
   have htt:=HT.out
   rw [hm] at hst
   obtain⟨u,hu⟩:∃ u,up m=u:=⟨_,rfl⟩
   have HP:=Lib.hid (fun W=>rup_at m u W (by omega) hu)
   rw [hu] at hst
   have hrw:=rows_snoc l j H hjl
   have hro:row l[j] (H+tot (l.take j))=le 4 kn++le 4 (H+tot (l.take j))++le 4 m:=by
    unfold row
    rw [hkn,hm,Int.toNat_natCast]
   rw [hro] at hrw
   obtain⟨t,ht⟩:∃ t,tot (l.take j)=t:=⟨_,rfl⟩
   rw [ht] at hst hrw ⊢
   have htb:t≤17000000:=by omega
   have hub:u≤17000000:=by omega
   obtain⟨A,hA⟩:∃ A,H+t=A:=⟨_,rfl⟩
   rw [hA] at hrw ⊢
   have hAb:A≤17000300:=by omega
   have HA1:=Lib.hid (show H+tot (l.take (j+1))=A+u by omega)
   have hap:hea l++rows H (l.take (j+1))=hea l++rows H (l.take j)++le 4 kn++le 4 A++le 4 m:=by
    rw [hrw];simp only [List.append_assoc]
   have HAP:=Lib.hid hap
   have HOwn:=Lib.hid hown
   have M1:=Lib.hid (fun W v (hB:w.heap.size≤W.heap.size) (h:W.ownsRow w.heap.size 5 1 v (16+12*j) ((hea l++rows H (l.take j)).map eB))=>number_is v _ (hea l++rows H (l.take j)++le 4 kn) w.heap.size (16+12*j) (16+12*j+4) kn 4 (kn:Int) 4 W hB (.inl h) (by omega) (by omega) (by omega) rfl rfl rfl rfl)
   have M2:=Lib.hid (fun W v (hB:w.heap.size≤W.heap.size) (h:W.ownsRow w.heap.size 5 1 v (16+12*j+4) ((hea l++rows H (l.take j)++le 4 kn).map eB))=>number_is v _ (hea l++rows H (l.take j)++le 4 kn++le 4 A) w.heap.size (16+12*j+4) (16+12*j+8) A 4 (A:Int) 4 W hB (.inl h) (by omega) (by omega) (by omega) rfl rfl rfl (by omega))
   have M3:=Lib.hid (fun W v (hB:w.heap.size≤W.heap.size) (h:W.ownsRow w.heap.size 5 1 v (16+12*j+8) ((hea l++rows H (l.take j)++le 4 kn++le 4 A).map eB))=>number_is v _ (hea l++rows H (l.take j)++le 4 kn++le 4 A++le 4 m) w.heap.size (16+12*j+8) (16+12*(j+1)) m 4 (m:Int) 4 W hB (.inl h) (by omega) (by omega) (by omega) rfl rfl rfl (by omega))
   have y0:=(hB.cell (p:=⟨bb,o+j*2,none⟩) (by exact hbl)).trans x0
   have y1:=(hB.cell (p:=⟨bb,o+j*2+1,none⟩) (by exact hbl)).trans x1
   have HX1:=Lib.hid x1
   have HBL:=Lib.hid hbl
   have hsz1:=hB.size
   clear hcc x0 x1 hr hm hkn hk hst hle htt hu hrw hro ht hA hap hown
   go_wp2_with (first
    | (go_at_call 162;((with_reducible refine (M1.out _ _ hB.size HOwn.out).mono ?_);rintro e w1 ⟨⟨a1,c1,rfl,o1⟩,b1,z1⟩;have B1:=hB.trans b1))
    | (go_at_call 162;((with_reducible refine (M2.out _ _ B1.size o1).mono ?_);rintro e w2 ⟨⟨a2,c2,rfl,o2⟩,b2,z2⟩;have B2:=B1.trans b2;have y2:=(B2.cell (p:=⟨bb,o+j*2+1,none⟩) (by exact HBL.out)).trans HX1.out;have hs2:=B2.size))
    | (go_at_call 162;((with_reducible refine (M3.out _ _ B2.size o2).mono ?_);rintro e w3 ⟨⟨a3,c3,rfl,o3⟩,b3,z3⟩;have B3:=B2.trans b3;have y3:=(B3.cell (p:=⟨bb,o+j*2+1,none⟩) (by exact HBL.out)).trans HX1.out;have hs3:=B3.size))
    | (go_at_call 163;((with_reducible refine (HP.out _).mono ?_);rintro e w6 ⟨rfl,rfl⟩)))
   go_roundw
   case rel=>exact⟨j+1,hlt,by go_num,by rw [HA1.out];go_num,by rw [HAP.out];exact o3,B3⟩
   case measure=>simp [RowKit.intOf];omega
  ·obtain rfl:j=n:=by omega
   have hto:l.take j=l:=List.take_of_length_le (by rw [HN.out];exact Nat.le_refl _)
   rw [hto] at hown
   have HP:=Lib.hid (fun W v (hB:w.heap.size≤W.heap.size) (h:W.ownsRow w.heap.size 5 1 v (16+12*j) ((hea l++rows H l).map eB))=>pad_is v _ (frt l++body (l.take 0)) w.heap.size (16+12*j) (H+tot (l.take 0)) W hB h (by omega) (by rw [List.take_zero,body,List.append_nil,frt,tab,HN.out,HH.out]) (by rw [List.take_zero,tot,← HH.out];rfl))
   have HOwn:=Lib.hid hown
   have HBB:=Lib.hid hB
   clear hown hto hB
   go_wp2_with (go_at_call 164;((with_reducible refine (HP.out _ _ HBB.out.size HOwn.out).mono ?_);rintro e w1 ⟨⟨a1,c1,rfl,o1⟩,b1,z1⟩;have B1:=HBB.out.trans b1))
   have H6:=Lib.hid (And.intro o1 B1)
   clear o1 b1 z1 B1 HBB HOwn HP
   go_loopw [3,6] (fun ov q wr=>∃ i:Nat,i≤j∧q=.int .i64 (i:Int)∧wr.ownsRow w.heap.size 5 1 ov (H+tot (l.take i)) ((frt l++body (l.take i)).map eB)∧Below w.heap.size w wr) (fun _ q _=>j-(RowKit.intOf q).toNat)
   case atStart=>exact⟨0,Nat.zero_le _,rfl,H6.out.1,H6.out.2⟩
   case round =>
    clear H6
    obtain⟨i,hi,rfl,hown,hB⟩:=hrel
    obtain⟨oa,oc,rfl⟩:=owns_slice hown
    by_cases hlt2:i<j
    ·have hjl:i<l.length:=by rw [HN.out];exact hlt2
     obtain⟨bb,o,rfl,hbl,hcc⟩:=HC.out (by omega)
     obtain⟨x0,dv,x1,hr⟩:=hcc i hjl
     obtain⟨m,hm⟩:∃ m,l[i].2.length=m:=⟨_,rfl⟩
     have hml:=HM.out _ (List.getElem_mem hjl)
     rw [hm] at hml
     have hst:=tot_step l i hjl
     have hle:=tot_le l (i+1)
     have htt:=HT.out
     rw [hm] at hst
     have hbs:=body_snoc l i hjl
     rw [hm] at hbs
     have hrb:=hr.below hB
     obtain⟨da,dc,rfl,-⟩:=hr.form hm
     have y0:=(hB.cell (p:=⟨bb,o+i*2,none⟩) (by exact hbl)).trans x0
     have y1:=(hB.cell (p:=⟨bb,o+i*2+1,none⟩) (by exact hbl)).trans x1
     obtain⟨t,ht⟩:∃ t,tot (l.take i)=t:=⟨_,rfl⟩
     rw [ht] at hst hown ⊢
     have hH8:H % 8=0:=by rw [← HH.out];unfold hd up;omega
     have ht8:t % 8=0:=by rw [← ht];exact tot_8 _
     have hup:H+tot (l.take (i+1))=up (H+t+m):=by
      rw [hst];unfold up;omega
     have hzs:zs (H+t+m)=zs m:=by
      unfold zs
      congr 1
      unfold up;omega
     have hbd:H+t+m≤20000000:=by omega
     have hap:frt l++body (l.take (i+1))=frt l++body (l.take i)++l[i].2++zs (H+t+m):=by
      rw [hbs,hzs];simp only [List.append_assoc]
     have HR:=Lib.hid hrb
     have HM2:=Lib.hid hm
     have HP:=Lib.hid (fun W v (hB:w.heap.size≤W.heap.size) (h:W.ownsRow w.heap.size 5 1 v (H+t+m) ((frt l++body (l.take i)).map eB++l[i].2.map eB))=>pad_is v _ (frt l++body (l.take (i+1))) w.heap.size (H+t+m) (H+tot (l.take (i+1))) W hB (by rw [← List.map_append] at h;exact h) (by omega) hap hup)
     have hsz1:=hB.size
     obtain⟨N,hNN⟩:∃ N,H+t=N:=⟨_,rfl⟩
     have hNb:N≤20000000:=by omega
     rw [hNN] at hown HP ⊢
     generalize l[i].1=kk at y0
     obtain⟨D,hD⟩:∃ D,l[i].2=D:=⟨_,rfl⟩
     rw [hD] at HR HP HM2
     clear hcc x0 x1 hr hm hst hle htt hbs hrb hup hzs hap hD hH8 ht8
     go_wp2_with (first
      | (at_builtin;refine wpList_append_rw rfl _ _ rfl w.heap.size _ _ _ rfl hown _ D rfl HR.out (by have:=HM2.out;omega) hB.size ?_;intro v' w5 hown6 hgrow6;rw [HM2.out] at hown6;have B2:=hB.grown hgrow6 hB.size (own_base hown);obtain⟨na,nc,hvs⟩:=owns_slice hown6;subst hvs)
      | (go_at_call 164;((with_reducible refine (HP.out _ _ B2.size hown6).mono ?_);rintro e w1 ⟨⟨a1,c1,rfl,o1⟩,b1,z1⟩;have B3:=B2.trans b1)))
     go_roundw
     case rel=>exact⟨i+1,hlt2,by go_num,o1,B3⟩
     case measure=>simp [RowKit.intOf];omega
    ·obtain rfl:i=j:=by omega
     have hto:l.take i=l:=List.take_of_length_le (by rw [HN.out];exact Nat.le_refl _)
     rw [hto,← HS2.out] at hown
     rw [hto,← HS2.out]
     have HO:=Lib.hid hown
     clear hown hto
     go_wp2
     go_ret
     exact⟨⟨_,_,rfl,HO.out⟩,hB,hB.size⟩
end Go.Proofs.YtihiggnglmhggaaGreatDoor.L15
end
section
namespace Go.Proofs.YtihiggnglmhggaaGreatDoor.L17
open Go.RowKit L3 L4 L12 L14
open L13 (Ob)
open L16 (chE OA OS Tb tb_below Is16)
attribute [local go_sem] Oper.semAt_some
theorem btV_some (l:List UInt8):∃ S E,BtV l S E:=by
 by_cases h:∃ o,Is16 l o
 ·obtain⟨o,ho⟩:=h
  exact⟨(vE o).1,(vE o).2,fun hn=>absurd ho (hn o),fun q hq=>by rw [L16.is16_one hq ho]⟩
 ·exact⟨0,19,fun _=>⟨rfl,rfl⟩,fun o ho=>absurd ⟨o,ho⟩ h⟩
end Go.Proofs.YtihiggnglmhggaaGreatDoor.L17
end
section
namespace Go.Proofs.YtihiggnglmhggaaGreatDoor.L14
open Go.ChangeShapes Go.WideShapes Go.ChangeAt Go.RowKit Go.Deep
section
variable {H:Type} {enc:TypeId × Value→H} {W:World} {base:Nat} {sp:Nat→Bool} {held:Bool} {r:Reach} {b0:Nat} {v:Value} {d:DataW H} {ps:List MemPlace}
theorem open_bs (hval:Value.okWide Tryz.prog W r b0 23 v) (hd:DataW.Trod enc Tryz.prog W base sp held 23 v d ps):∃ l,Rw eB W v l:=by
 obtain⟨a0,len,cap,rfl⟩:=okWide_slice Tryz.underlying23 hval
 obtain⟨fuel,hf⟩:=hd
 rcases open_ints Tryz.underlying23 Tryz.underlying5 cells5 hf with ⟨hcs,hx⟩|⟨a,len',cap',zs,hcs,_,hl,hm,hz,hx,hcell,hwz⟩
 ·simp [Value.cells] at hcs
  obtain⟨rfl,rfl,rfl⟩:=hcs
  exact⟨[],Rw.nil _ _⟩
 ·simp [Value.cells] at hcs
  obtain⟨rfl,rfl,rfl⟩:=hcs
  obtain⟨l,hle⟩:∃ l:List UInt8,l=(zs.take len).map fun z=>UInt8.ofNat z.toNat:=⟨_,rfl⟩
  have hzl:len≤zs.length:=by split at hz <;> omega
  have hll:l.length=len:=by rw [hle,List.length_map,List.length_take];omega
  refine⟨l,some a,cap,by rw [hll],by omega,fun e=>(by cases e),fun hp=>?_⟩
  obtain⟨b,off,spot⟩:=a
  have hspot:spot=none:=by simpa [Addr.add] using World.cell?_spot (hcell 0 (by omega))
  subst hspot
  refine⟨b,off,rfl,World.block_lt_of_cell? W _ (hcell 0 (by omega)),fun j hj=>?_⟩
  have hjl:j<len:=by omega
  have h1:(l[j].toNat:Int)=zs.getD j 0:=by
   have e:l[j]=UInt8.ofNat (zs[j]'(by omega)).toNat:=by simp [hle]
   rw [e,byte_of (hwz _ (List.getElem_mem _))]
   simp [List.getD,show j<zs.length by omega]
  unfold eB
  rw [h1,← Go.WideShapes.add_plain]
  exact hcell j (by omega)
end
end Go.Proofs.YtihiggnglmhggaaGreatDoor.L14
end
section
namespace Go.Proofs.YtihiggnglmhggaaGreatDoor.L16
open Go.RowKit L14 L15
open L13 (Ob)
attribute [local go_sem] Oper.semAt_some
def At (w:World) (v ov:Value):Prop:=ov.ownBlock=v.ownBlock∨∃ k,ov.ownBlock=some k∧w.heap.size≤k
theorem gr_al (w:World) (x:Obj) (o:Option Nat):w.grownBy (w.alloc x) o:=L10.gr_of (bnew w x) o
theorem gr_at {w W W':World} {v ov:Value} (h:w.grownBy W v.ownBlock) (ha:At w v ov) (hg:W.grownBy W' ov.ownBlock):w.grownBy W' v.ownBlock:=by
 refine⟨hg.os.trans h.os,hg.tape.trans h.tape,hg.output.trans h.output,Nat.le_trans h.size hg.size,fun k hk hn=>?_⟩
 refine (hg.block k (Nat.lt_of_lt_of_le hk h.size) fun e=>?_).trans (h.block k hk hn)
 rcases ha with ha|⟨x,hx,hl⟩
 ·exact hn (by rw [e,ha])
 ·rw [hx] at e
  cases e
  omega
theorem At.step {w W:World} {v ov v':Value} (hs:w.heap.size≤W.heap.size) (ha:At w v ov) (h:v'.ownBlock=ov.ownBlock∨v'.ownBlock=some W.heap.size):At w v v':=by
 rcases h with h|h
 ·rcases ha with ha|⟨k,hk,hl⟩
  ·exact .inl (by rw [h,ha])
  ·exact .inr ⟨k,by rw [h,hk],hl⟩
 ·exact .inr ⟨_,h,hs⟩
def FoP (B M:Nat) (ys:List UInt8) (v:Value) (w:World) (e:Ending) (w':World):Prop :=
 (∃ a c,e=.returned (.slice a M c)∧w'.ownsRow B 5 1 (.slice a M c) M (ys.map eB)∧At w v (.slice a M c))∧Below B w w'∧w.grownBy w' v.ownBlock
theorem four_at (v:Value) (xs:List UInt8) (B N x:Nat) (w:World) (hB:B≤w.heap.size) (hv:w.ownsRow B 5 1 v N (xs.map eB)) (hN:N≤1000000000) (hx:x<4294967296) :
  Calls Tryz.prog 116 #[v,.int .i64 (x:Int)] w (FoP B (N+4) (xs++le 4 x) v w):=by
 obtain⟨ib,ki,kz0,kz1,kz2⟩:=info_parts infoByte
 obtain⟨a,c,rfl⟩:=owns_slice hv
 have HV:=Lib.hid hv
 clear hv
 go_enter Tryz.func116,Tryz.ntmps116
 go_wp2
 go_loopw [0,1,5] (fun ov y q wr=>∃ j:Nat,j≤4∧q=.int .i64 (j:Int)∧y=.int .i64 ((x / 256 ^ j:Nat):Int)∧Hid (wr.ownsRow B 5 1 ov (N+j) ((xs++le j x).map eB)∧Below B w wr∧w.grownBy wr (Value.slice a N c).ownBlock∧At w (.slice a N c) ov)) (fun _ _ q _=>4-(RowKit.intOf q).toNat)
 case atStart=>exact⟨0,Nat.zero_le _,rfl,by simp,Lib.hid ⟨by simpa [le] using HV.out,Below.refl _ _,⟨rfl,rfl,rfl,Nat.le_refl _,fun _ _ _=>rfl⟩,.inl rfl⟩⟩
 case round =>
  obtain⟨j,hj,rfl,rfl,hI⟩:=hrel
  obtain⟨oa,oc,rfl⟩:=owns_slice hI.out.1
  by_cases hlt:j<4
  ·have hdv:x / 256 ^ j≤x:=Nat.div_le_self _ _
   have hnext:x / 256 ^ (j+1)=x / 256 ^ j / 256:=by rw [Nat.div_div_eq_div_mul,Nat.pow_succ]
   have hcs:(xs++le j x).map eB++[.int .u8 ((x / 256 ^ j % 256:Nat):Int)]=(xs++le (j+1) x).map eB:=by
    rw [le_snoc,← List.append_assoc,List.map_append (l₁:=xs++le j x),← byte_val];rfl
   obtain⟨y,hy⟩:∃ y,x / 256 ^ j=y:=⟨_,rfl⟩
   rw [hy] at hdv hnext hcs ⊢
   have HC:=Lib.hid hcs
   have HY:=Lib.hid hnext
   have hy4:y<4294967296:=by omega
   have e1:((y % 256:Nat):Int)=(y:Int) % 256:=by omega
   rw [e1] at HC
   obtain⟨hown,hBe,hgr,hat⟩:=hI.out
   have hwr:w.heap.size≤wr.heap.size:=hgr.size
   have HG:=Lib.hid (And.intro hBe (And.intro hgr hat))
   clear hdv hnext hcs hy e1 hI hBe hgr hat
   go_wp2_with (at_builtin;refine wpList_append_own_at _ rfl _ _ 23 rfl B 5 ib (.int .u8 0) 1 1 Tryz.underlying23 ki kz0 kz1 kz2 rfl (by decide) _ (N+j) _ rfl (hown.alloc _) ⟨wr.heap.size,0,none⟩ 1 1 [.int .u8 ((y:Int) % 256)] rfl rfl (World.news_of_block (cs:=#[.int .u8 ((y:Int) % 256)]) (t:=5) (fr:=(0,0)) (heap_alloc_last wr _)) (by simp [Value.oneCell']) (by unfold maxLen;omega) (by omega) (by simp;omega) ?_;intro v' w5 hown6 hgrow6 _ hat6;obtain⟨na,nc,hvn⟩:=owns_slice hown6;subst hvn;have HF:=Lib.hid (And.intro ((HG.out.1.alloc (by omega) _).grown hgrow6 (by simp;omega) (own_base hown)) (And.intro (gr_at (gr_at HG.out.2.1 HG.out.2.2 (gr_al wr _ _)) HG.out.2.2 hgrow6) (HG.out.2.2.step (by simp;omega) hat6))))
   go_roundw
   case rel=>exact⟨j+1,hlt,by go_num,by rw [HY.out];go_num,Lib.hid ⟨by rw [← HC.out];exact hown6,HF.out⟩⟩
   case measure=>simp [RowKit.intOf];omega
  ·obtain rfl:j=4:=by omega
   have HO:=Lib.hid hI.out
   clear hI
   go_wp2
   go_ret
   exact⟨⟨_,_,rfl,HO.out.1,HO.out.2.2.2⟩,HO.out.2.1,HO.out.2.2.1⟩
end Go.Proofs.YtihiggnglmhggaaGreatDoor.L16
end
section
namespace Go.Proofs.YtihiggnglmhggaaGreatDoor.L16
open Go.RowKit L14 L15
open L13 (Ob)
attribute [local go_sem] Oper.semAt_some
theorem row_away {W W':World} {kr:Nat} {cs:Array Value} {t B e:TypeId} {size:Nat} {v:Value} {n:Nat} {xs:List Value} (hk:W.heap[kr]?=some (.cells cs t)) (ho:W.ownsRow B e size v n xs) (hg:W.grownBy W' v.ownBlock) (he:t≠e):W'.heap[kr]?=some (.cells cs t):=by
 refine (hg.block kr (lt_of_block hk) fun h=>?_).trans hk
 obtain⟨c,hc⟩:=L10.own_ty ho h.symm
 exact L10.ty_ne hk hc he rfl
theorem four_is (v:Value) (xs ys:List UInt8) (B N M:Nat) (X:Int) (w:World) (hB:B≤w.heap.size) (hv:w.ownsRow B 5 1 v N (xs.map eB)) (hN:N≤1000000000) (hX:0≤X∧X<4294967296) (hys:ys=xs++e4 X) (hM:M=N+4) :
  Calls Tryz.prog 116 #[v,.int .i64 X] w (FoP B M ys v w):=by
 subst hys hM
 have h:=four_at v xs B N X.toNat w hB hv hN (by omega)
 rwa [show ((X.toNat:Nat):Int)=X by omega] at h
structure Tw (B:Nat) (W:World) (u:Value) (n:Nat) (ys:List UInt8) (v:Value):Prop where
 own:W.ownsRow B 5 1 u n (ys.map eB)
 dj:u.ownBlock=none∨u.ownBlock≠v.ownBlock
theorem Tw.next {B n:Nat} {W W':World} {u v v':Value} {ys:List UInt8} (h:Tw B W u n ys v) (hg:W.grownBy W' v.ownBlock) (ha:At W v v'):Tw B W' u n ys v':=by
 refine⟨h.own.kept hg h.dj,?_⟩
 rcases ha with ha|⟨k,hk,hl⟩
 ·rw [ha];exact h.dj
 ·rcases hu:u.ownBlock with _|g
  ·exact .inl rfl
  ·refine .inr ?_
   rw [hk]
   obtain⟨c,hc⟩:=L10.own_ty h.own hu
   have:=lt_of_block hc
   intro e
   cases e
   omega
theorem Tw.below {B n:Nat} {W W':World} {u v:Value} {ys:List UInt8} (h:Tw B W u n ys v) (hb:Below W.heap.size W W'):Tw B W' u n ys v:=⟨own_below h.own hb,h.dj⟩
theorem Tw.symm {B n m:Nat} {W:World} {u v:Value} {ys zs:List UInt8} (h:Tw B W u n ys v) (hv:W.ownsRow B 5 1 v m (zs.map eB)):Tw B W v m zs u:=by
 refine⟨hv,?_⟩
 rcases h.dj with h|h
 ·rcases hv':v.ownBlock with _|g
  ·exact .inl rfl
  ·exact .inr (by rw [h];simp)
 ·exact .inr fun e=>h e.symm
theorem tw_nil {B n:Nat} {W:World} {u:Value} {ys:List UInt8} (h:W.ownsRow B 5 1 u n (ys.map eB)):Tw B W u n ys (.slice none 0 0):=by
 refine⟨h,?_⟩
 rcases hu:u.ownBlock with _|g
 ·exact .inl rfl
 ·exact .inr (by simp [Value.ownBlock])
theorem nB4 (a b c d:Int) (P:List UInt8):P++nB [a,b,c,d]=P++e4 a++e4 b++e4 c++e4 d:=by simp [nB]
theorem nB2 (a b:Int) (P:List UInt8):P++nB [a,b]=P++e4 a++e4 b:=by simp [nB]
theorem fw_secs {o:Ob} (h:Gd o):Fw (secs o):=⟨by simp [secs],(secs_sml h).d⟩
theorem rpack16_at (vm vc vr:Value) (o:Ob) (N:Nat) (w:World) (ho:OA w vm vc vr o) (hs:OS o) (hR:chE o=0) (hNN:(pkB o).length=N) :
  Calls Tryz.prog 73 #[.agg #[vm,vc,vr]] w fun e w'=>(∃ a c,e=.returned (.slice a N c)∧Rw eB w' (.slice a N c) (pkB o))∧Below w.heap.size w w':=by
 have hg:=gd_of hR
 obtain⟨n1,hn1⟩:∃ n,o.maps.length=n:=⟨_,rfl⟩
 obtain⟨n2,hn2⟩:∃ n,o.code.length=n:=⟨_,rfl⟩
 obtain⟨n3,hn3⟩:∃ n,o.rels.length=n:=⟨_,rfl⟩
 obtain⟨NT,hNT⟩:∃ n,(tb (nmL o.maps)).length=n:=⟨_,rfl⟩
 have hq1:=hg.n
 have hq2:=hg.tot
 have hq3:=hg.rln
 rw [hn1] at hq1
 rw [hn3] at hq3
 have hnl:(nmL o.maps).length=n1:=by rw [nmL_len,hn1]
 have hol:(ofs 1 (nmL o.maps)).length=n1:=by rw [ofs_len,hnl]
 have HNm:=Lib.hid (fun X (hX:Below w.heap.size w X)=>rnames_at _ _ _ o n1 X (ho.below hX) hs hn1)
 have HBu:=Lib.hid (fun (X:World) (v:Value) (h:Rw eT X v (nmL o.maps))=>rbuild_n v (nmL o.maps) n1 NT X h (by omega) (by omega) hnl hNT)
 have HW:=Lib.hid (fun (X:World) (v:Value) (h:Ss X v (secs o))=>rwrite_at v (secs o) X h (fw_secs hg) (secs_asc o) N (by rw [← hNN,pkB,wr_len]))
 have HLN:=Lib.hid hNN
 have HG:=Lib.hid (And.intro hg.df (And.intro hg.rels (fun x (hx:x∈ofs 1 (nmL o.maps))=>show (x:Int)<4294967296 by have:=ofs_lt (nmL o.maps) 1 x hx;omega)))
 have HCo:=Lib.hid (fun (X:World) (hX:Below w.heap.size w X)=>ho.c.below hX)
 obtain⟨a1,c1,rfl,hd⟩:=L10.df_form4 hn1 ho.m
 obtain⟨a2,c2,rfl,-⟩:=ho.c.form hn2
 obtain⟨a3,c3,rfl,hr⟩:=L13.ro_form hn3 ho.r
 have HM:=Lib.hid hd
 have HRl:=Lib.hid hr
 have HN:=Lib.hid (And.intro hn1 (And.intro hn3 (And.intro hnl hol)))
 have K0:=Lib.hid (heap_alloc_last w (.cells #[.slice a1 n1 c1,.slice a2 n2 c2,.slice a3 n3 c3] 26))
 have HB:=Lib.hid (bnew w (.cells #[.slice a1 n1 c1,.slice a2 n2 c2,.slice a3 n3 c3] 26))
 clear ho hs hR hg hn1 hn2 hn3 hd hr hNN hNT hnl hol hq2
 go_enter Tryz.func73,Tryz.ntmps73
 go_upto_region 1 with (fail)
 obtain⟨k0,hk0⟩:∃ k,w.heap.size=k:=⟨_,rfl⟩
 have HK0:=Lib.hid hk0
 rw [hk0] at K0 ⊢
 generalize w.alloc (.cells #[.slice a1 n1 c1,.slice a2 n2 c2,.slice a3 n3 c3] 26)=W0 at K0 HB ⊢
 clear hk0
 obtain⟨x0,x1,x2⟩:=L13.cells3 K0.out
 go_wp2_with (first
  | (go_at_call 63;((with_reducible refine (HNm.out _ HB.out).mono ?_);rintro e w1 ⟨⟨na,nc,rfl,no⟩,b1⟩;have B1:=bch HB.out b1))
  | (go_at_call 115;((with_reducible refine (HBu.out _ _ (Rw.own (by rw [HN.out.2.2.1];exact no))).mono ?_);rintro e w2 ⟨⟨ta,tc,oa,oc,rfl,rt,ro⟩,b2⟩;have B2:=bch B1 b2)))
 have HK2:=Lib.hid (L8.row_up (L8.row_up K0.out b1) b2)
 have HB2:=Lib.hid B2
 have HTb:=Lib.hid rt
 have HOf:=Lib.hid ro
 clear no b1 b2 B1 B2 rt ro HNm HBu x0 x1 x2 K0 HB
 have HI:Hid (w2.ownsRow w2.heap.size 5 1 (.slice none 0 0) (16*0) ((rwB ((r2 o.maps).take 0)).map eB)∧Tw w2.heap.size w2 (.slice none 0 0) (8*0) (rwB ((r3 (ofs 1 (nmL o.maps))).take 0)) (.slice none 0 0)∧Below w2.heap.size w2 w2) :=
  Lib.hid ⟨World.ownsRow_nil _ _ _ _,⟨World.ownsRow_nil _ _ _ _,.inl rfl⟩,Below.refl _ _⟩
 go_loopw [5,6,8] (fun mv sv q wr=>∃ j:Nat,j≤n1∧q=.int .i64 (j:Int)∧Hid (wr.ownsRow w2.heap.size 5 1 mv (16*j) ((rwB ((r2 o.maps).take j)).map eB)∧Tw w2.heap.size wr sv (8*j) (rwB ((r3 (ofs 1 (nmL o.maps))).take j)) mv∧Below w2.heap.size w2 wr)) (fun _ _ q _=>n1-(RowKit.intOf q).toNat)
 case atStart=>exact⟨0,Nat.zero_le _,rfl,HI⟩
 case round =>
  clear HI
  obtain⟨j,hj,rfl,hI⟩:=hrel
  obtain⟨ma,mc,rfl⟩:=owns_slice hI.out.1
  obtain⟨sa,sc,rfl⟩:=owns_slice hI.out.2.1.own
  have hrow:=L8.row_up HK2.out hI.out.2.2
  obtain⟨x0,x1,x2⟩:=L13.cells3 hrow
  have lx:=World.block_lt_of_cell? _ _ x0
  simp only at lx
  by_cases hlt:j<n1
  ·have hjl:j<o.maps.length:=by rw [HN.out.1];exact hlt
   have hjo:j<(ofs 1 (nmL o.maps)).length:=by rw [HN.out.2.2.2];exact hlt
   obtain⟨bb,of,rfl,hbl,hcc⟩:=HM.out (by omega)
   obtain⟨q0,q1,q2,q3⟩:=hcc j hjl
   have hB0:=bch HB2.out hI.out.2.2
   have y0:=(hB0.cell (p:=⟨bb,of+j*4,none⟩) (by exact hbl)).trans q0
   have y1:=(hB0.cell (p:=⟨bb,of+j*4+1,none⟩) (by exact hbl)).trans q1
   have y2:=(hB0.cell (p:=⟨bb,of+j*4+2,none⟩) (by exact hbl)).trans q2
   have y3:=(hB0.cell (p:=⟨bb,of+j*4+3,none⟩) (by exact hbl)).trans q3
   obtain⟨-,-,-,hoc⟩:=HOf.out.at
   obtain⟨ob,oo,rfl,hobl,hocc⟩:=hoc (by omega)
   have HO0:=Lib.hid (And.intro hobl (hocc j hjo))
   have hox:=HG.out.2.2 _ (List.getElem_mem hjo)
   have hm2:rwB ((r2 o.maps).take (j+1))=rwB ((r2 o.maps).take j)++e4 o.maps[j].key++e4 o.maps[j].val++e4 o.maps[j].ent++e4 0:=by
    rw [rwB_snoc _ j (by simpa [r2] using hjl),← nB4]
    congr 2
    simp [r2]
   have hs2:rwB ((r3 (ofs 1 (nmL o.maps))).take (j+1))=rwB ((r3 (ofs 1 (nmL o.maps))).take j)++e4 (((ofs 1 (nmL o.maps))[j]:Nat):Int)++e4 ((j:Nat):Int):=by
    rw [rwB_snoc _ j (by simpa [r3] using hjo),← nB2]
    congr 2
    simp [r3]
   obtain⟨-,hk1,hv1,he1⟩:=L11.deE_of (HG.out.1 _ (List.getElem_mem hjl))
   obtain⟨d,hd⟩:∃ d,o.maps[j]=d:=⟨_,rfl⟩
   rw [hd] at y0 y1 y2 y3 hm2 hk1 hv1 he1
   obtain⟨ox,hoxe⟩:∃ x,(ofs 1 (nmL o.maps))[j]=x:=⟨_,rfl⟩
   rw [hoxe] at HO0 hox hs2
   obtain⟨P,hP⟩:∃ P,rwB ((r2 o.maps).take j)=P:=⟨_,rfl⟩
   obtain⟨Q,hQ⟩:∃ P,rwB ((r3 (ofs 1 (nmL o.maps))).take j)=P:=⟨_,rfl⟩
   rw [hP] at hI hm2
   rw [hQ] at hI hs2
   have HM2:=Lib.hid hm2
   have HS2:=Lib.hid hs2
   have F1:=Lib.hid (fun X v (hB:w2.heap.size≤X.heap.size) (h:X.ownsRow w2.heap.size 5 1 v (16*j) (P.map eB))=>four_is v P (P++e4 d.key) w2.heap.size (16*j) (16*j+4) d.key X hB h (by omega) (by omega) rfl rfl)
   have F2:=Lib.hid (fun X v (hB:w2.heap.size≤X.heap.size) (h:X.ownsRow w2.heap.size 5 1 v (16*j+4) ((P++e4 d.key).map eB))=>four_is v (P++e4 d.key) (P++e4 d.key++e4 d.val) w2.heap.size (16*j+4) (16*j+8) d.val X hB h (by omega) (by omega) rfl rfl)
   have F3:=Lib.hid (fun X v (hB:w2.heap.size≤X.heap.size) (h:X.ownsRow w2.heap.size 5 1 v (16*j+8) ((P++e4 d.key++e4 d.val).map eB))=>four_is v (P++e4 d.key++e4 d.val) (P++e4 d.key++e4 d.val++e4 d.ent) w2.heap.size (16*j+8) (16*j+12) d.ent X hB h (by omega) (by omega) rfl rfl)
   have F4:=Lib.hid (fun X v (hB:w2.heap.size≤X.heap.size) (h:X.ownsRow w2.heap.size 5 1 v (16*j+12) ((P++e4 d.key++e4 d.val++e4 d.ent).map eB))=>four_is v (P++e4 d.key++e4 d.val++e4 d.ent) (P++e4 d.key++e4 d.val++e4 d.ent++e4 0) w2.heap.size (16*j+12) (16*(j+1)) 0 X hB h (by omega) (by omega) rfl (by omega))
   have G1:=Lib.hid (fun X v (hB:w2.heap.size≤X.heap.size) (h:X.ownsRow w2.heap.size 5 1 v (8*j) (Q.map eB))=>four_is v Q (Q++e4 ((ox:Nat):Int)) w2.heap.size (8*j) (8*j+4) ((ox:Nat):Int) X hB h (by omega) (by omega) rfl rfl)
   have G2:=Lib.hid (fun X v (hB:w2.heap.size≤X.heap.size) (h:X.ownsRow w2.heap.size 5 1 v (8*j+4) ((Q++e4 ((ox:Nat):Int)).map eB))=>four_is v (Q++e4 ((ox:Nat):Int)) (Q++e4 ((ox:Nat):Int)++e4 ((j:Nat):Int)) w2.heap.size (8*j+4) (8*(j+1)) ((j:Nat):Int) X hB h (by omega) (by omega) rfl (by omega))
   obtain⟨hm,hs,hB⟩:=hI.out
   have HH:=Lib.hid (And.intro hm (And.intro hs hB))
   have hsz:=hB.size
   clear hI hcc q0 q1 q2 q3 hB0 hoc hocc hm2 hs2 hd hoxe hP hQ hm hs hB hrow hbl hobl hjo hk1 hv1 he1 hox
   go_upto_region 9 with (fail)
   obtain⟨kx,hkx⟩:∃ k,wr.heap.size=k:=⟨_,rfl⟩
   have hD:=(bnew wr (.cells #[.string d.nm,.int .i64 d.key,.int .i64 d.val,.int .i64 d.ent] 88)).drew
   have hR0:=heap_alloc_last wr (.cells #[.string d.nm,.int .i64 d.key,.int .i64 d.val,.int .i64 d.ent] 88)
   have hm1:=own_below HH.out.1 hD
   have hs1:=HH.out.2.1.below hD
   have hB1:Below w2.heap.size w2 _:=HH.out.2.2.trans (hD.mono hsz)
   rw [hkx] at hR0
   (try rw [hkx])
   generalize wr.alloc (.cells #[.string d.nm,.int .i64 d.key,.int .i64 d.val,.int .i64 d.ent] 88)=Wa at hR0 hm1 hs1 hB1 hD ⊢
   refine wp_region_held_drew (S:=fun X=>X.heap[kx]?=some (.cells #[.string d.nm,.int .i64 d.key,.int .i64 d.val,.int .i64 d.ent] 88)) (by kernel_rfl) hR0 (fun hH=>?_)
   generalize Wa.drew=Wd at hm1 hs1 hB1 hH ⊢
   clear hR0 hD hkx HH x0 x1 x2 y0 y1 y2 y3 lx
   refine zT0 0 29 (.move (.tmp 5)) (.slice ma (16*j) mc) rfl hH ?_
   simp only [zz]
   refine zT3 1 30 (.fieldAddr 88 (.tmp 9) 1) (.pointer (some ⟨kx,1,none⟩)) rfl hH ?_
   simp only [zz]
   refine zT1 2 31 (.load 3 (.tmp 30)) (.int .i64 d.key) rfl (fun wS hS=>by obtain⟨d0,d1,d2,d3⟩:=L10.cells4 hS;go_simp) hH ?_
   simp only [zz]
   refine zT3 4 33 (.fieldAddr 88 (.tmp 9) 2) (.pointer (some ⟨kx,2,none⟩)) rfl hH ?_
   simp only [zz]
   refine zT1 5 34 (.load 3 (.tmp 33)) (.int .i64 d.val) rfl (fun wS hS=>by obtain⟨d0,d1,d2,d3⟩:=L10.cells4 hS;go_simp) hH ?_
   simp only [zz]
   refine zT3 7 36 (.fieldAddr 88 (.tmp 9) 3) (.pointer (some ⟨kx,3,none⟩)) rfl hH ?_
   simp only [zz]
   refine zT1 8 37 (.load 3 (.tmp 36)) (.int .i64 d.ent) rfl (fun wS hS=>by obtain⟨d0,d1,d2,d3⟩:=L10.cells4 hS;go_simp) hH ?_
   simp only [zz]
   refine wpAnyH_ready (rs:=[3]) (by kernel_rfl) (by simp) ?_
   refine AllReadyH.cons (o:=⟨some 32,.call ⟨.value (.func 116),#[.tmp 29,.tmp 31],#[23,3]⟩,_,_,_,none⟩) rfl (fun K hK=>?_) AllReadyH.nil
   go_simp
   refine (F1.out _ _ hB1.size hm1).mono ?_
   rintro e wz5 ⟨⟨a5,c5,rfl,om5,at5⟩,bb5,gg5⟩
   have hs5:=hs1.next gg5 at5
   have hB5:=hB1.trans bb5
   refine hK.out _ _ (row_away hH hm1 gg5 (by decide)) (fun hH5=>?_)
   clear hK K hm1 hs1 hB1 hH gg5 at5 bb5 F1
   (try simp only [zz])
   refine wpAnyH_ready (rs:=[6]) (by kernel_rfl) (by simp) ?_
   refine AllReadyH.cons (o:=⟨some 35,.call ⟨.value (.func 116),#[.tmp 32,.tmp 34],#[23,3]⟩,_,_,_,none⟩) rfl (fun K hK=>?_) AllReadyH.nil
   go_simp
   refine (F2.out _ _ hB5.size om5).mono ?_
   rintro e wz6 ⟨⟨a6,c6,rfl,om6,at6⟩,bb6,gg6⟩
   have hs6:=hs5.next gg6 at6
   have hB6:=hB5.trans bb6
   refine hK.out _ _ (row_away hH5 om5 gg6 (by decide)) (fun hH6=>?_)
   clear hK K om5 hs5 hB5 hH5 gg6 at6 bb6 F2
   (try simp only [zz])
   refine wpAnyH_ready (rs:=[9]) (by kernel_rfl) (by simp) ?_
   refine AllReadyH.cons (o:=⟨some 38,.call ⟨.value (.func 116),#[.tmp 35,.tmp 37],#[23,3]⟩,_,_,_,none⟩) rfl (fun K hK=>?_) AllReadyH.nil
   go_simp
   refine (F3.out _ _ hB6.size om6).mono ?_
   rintro e wz7 ⟨⟨a7,c7,rfl,om7,at7⟩,bb7,gg7⟩
   have hs7:=hs6.next gg7 at7
   have hB7:=hB6.trans bb7
   refine hK.out _ _ (row_away hH6 om6 gg7 (by decide)) (fun hH7=>?_)
   clear hK K om6 hs6 hB6 hH6 gg7 at7 bb7 F3
   (try simp only [zz])
   refine wpAnyH_ready (rs:=[10]) (by kernel_rfl) (by simp) ?_
   refine AllReadyH.cons (o:=⟨some 39,.call ⟨.value (.func 116),#[.tmp 38,.const (.int .i64 0)],#[23,3]⟩,_,_,_,none⟩) rfl (fun K hK=>?_) AllReadyH.nil
   go_simp
   refine (F4.out _ _ hB7.size om7).mono ?_
   rintro e wz8 ⟨⟨a8,c8,rfl,om8,at8⟩,bb8,gg8⟩
   have hs8:=hs7.next gg8 at8
   have hB8:=hB7.trans bb8
   refine hK.out _ _ (row_away hH7 om7 gg8 (by decide)) (fun hH8=>?_)
   clear hK K om7 hs7 hB7 hH7 gg8 at8 bb8 F4
   (try simp only [zz])
   refine zT0 11 5 (.assign (.tmp 39)) (.slice a8 (16*(j+1)) c8) rfl hH8 ?_
   simp only [zz]
   refine wpAnyH_done (by kernel_rfl) ?_ _
   have HH:=Lib.hid (And.intro om8 (And.intro hs8 hB8))
   have o0:=(hB8.cell (p:=⟨ob,oo+j,none⟩) (by exact HO0.out.1)).trans HO0.out.2
   have lo:=World.block_lt_of_cell? _ _ o0
   simp only at lo
   have hsz8:=hB8.size
   clear om8 hs8 hB8 hH8
   go_wp2_with (first
    | (go_at_call 116;((with_reducible refine (G1.out _ _ HH.out.2.2.size HH.out.2.1.own).mono ?_);rintro e w5 ⟨⟨g5,h5,rfl,os5,at5⟩,bb5,gg5⟩;have hm5:=(HH.out.2.1.symm HH.out.1).next gg5 at5;have hB5:=HH.out.2.2.trans bb5))
    | (go_at_call 116;((with_reducible refine (G2.out _ _ hB5.size os5).mono ?_);rintro e w6 ⟨⟨g6,h6,rfl,os6,at6⟩,bb6,gg6⟩;have hm6:=hm5.next gg6 at6;have hB6:=hB5.trans bb6)))
   go_roundw
   case rel=>exact⟨j+1,hlt,by go_num,Lib.hid ⟨by rw [HM2.out];exact hm6.own,by rw [HS2.out];exact hm6.symm os6,hB6⟩⟩
   case measure=>simp [RowKit.intOf];omega
  ·obtain rfl:j=n1:=by omega
   have hh:=hI.out
   rw [List.take_of_length_le (show (r2 o.maps).length≤j by simp [r2,HN.out.1]),List.take_of_length_le (show (r3 (ofs 1 (nmL o.maps))).length≤j by simp [r3,HN.out.2.2.2])] at hh
   have HI:Hid (wr.ownsRow w2.heap.size 5 1 (.slice none 0 0) (8*0) ((rwB ((r4 o.rels).take 0)).map eB)∧Tw w2.heap.size wr (.slice ma (16*j) mc) (16*j) (rwB (r2 o.maps)) (.slice none 0 0)∧Tw w2.heap.size wr (.slice sa (8*j) sc) (8*j) (rwB (r3 (ofs 1 (nmL o.maps)))) (.slice none 0 0)∧Below w2.heap.size w2 wr) :=
    Lib.hid ⟨World.ownsRow_nil _ _ _ _,tw_nil hh.1,tw_nil hh.2.1.own,hh.2.2⟩
   clear hI hh hrow
   go_wp2
   go_loopw [7,10] (fun rv q wr=>∃ i:Nat,i≤n3∧q=.int .i64 (i:Int)∧Hid (wr.ownsRow w2.heap.size 5 1 rv (8*i) ((rwB ((r4 o.rels).take i)).map eB)∧Tw w2.heap.size wr (.slice ma (16*j) mc) (16*j) (rwB (r2 o.maps)) rv∧Tw w2.heap.size wr (.slice sa (8*j) sc) (8*j) (rwB (r3 (ofs 1 (nmL o.maps)))) rv∧Below w2.heap.size w2 wr)) (fun _ q _=>n3-(RowKit.intOf q).toNat)
   case atStart=>exact⟨0,Nat.zero_le _,rfl,HI⟩
   case round =>
    clear HI x0 x1 x2 lx
    obtain⟨i,hi,rfl,hI⟩:=hrel
    obtain⟨va,vc,rfl⟩:=owns_slice hI.out.1
    have hrow:=L8.row_up HK2.out hI.out.2.2.2
    obtain⟨x0,x1,x2⟩:=L13.cells3 hrow
    have lx:=World.block_lt_of_cell? _ _ x0
    simp only at lx
    by_cases hlt2:i<n3
    ·have hil:i<o.rels.length:=by rw [HN.out.2.1];exact hlt2
     obtain⟨bb,of,rfl,hbl,hcc⟩:=HRl.out (by omega)
     obtain⟨q0,q1⟩:=hcc i hil
     have p0:=(HB2.out.cell (p:=⟨bb,of+i*2,none⟩) (by exact hbl)).trans q0
     have p1:=(HB2.out.cell (p:=⟨bb,of+i*2+1,none⟩) (by exact hbl)).trans q1
     have hbl2:bb<w2.heap.size:=by
      have:=World.block_lt_of_cell? _ _ p0
      exact this
     have hz:=HG.out.2.1 _ (List.getElem_mem hil)
     have hm2:rwB ((r4 o.rels).take (i+1))=rwB ((r4 o.rels).take i)++e4 o.rels[i].1++e4 o.rels[i].2:=by
      rw [rwB_snoc _ i (by simpa [r4] using hil),← nB2]
      congr 2
      simp [r4]
     obtain⟨z1,hz1⟩:∃ z,o.rels[i].1=z:=⟨_,rfl⟩
     obtain⟨z2,hz2⟩:∃ z,o.rels[i].2=z:=⟨_,rfl⟩
     rw [hz1] at p0 hz hm2
     rw [hz2] at p1 hz hm2
     obtain⟨hk1,hk2⟩:=hz
     obtain⟨P,hP⟩:∃ P,rwB ((r4 o.rels).take i)=P:=⟨_,rfl⟩
     rw [hP] at hI hm2
     have HM2:=Lib.hid hm2
     have HP0:=Lib.hid (And.intro hbl2 (And.intro p0 p1))
     have F1:=Lib.hid (fun X v (hB:w2.heap.size≤X.heap.size) (h:X.ownsRow w2.heap.size 5 1 v (8*i) (P.map eB))=>four_is v P (P++e4 z1) w2.heap.size (8*i) (8*i+4) z1 X hB h (by omega) (by omega) rfl rfl)
     have F2:=Lib.hid (fun X v (hB:w2.heap.size≤X.heap.size) (h:X.ownsRow w2.heap.size 5 1 v (8*i+4) ((P++e4 z1).map eB))=>four_is v (P++e4 z1) (P++e4 z1++e4 z2) w2.heap.size (8*i+4) (8*(i+1)) z2 X hB h (by omega) (by omega) rfl (by omega))
     obtain⟨hm,hs,hs',hB⟩:=hI.out
     have HH:=Lib.hid (And.intro hm (And.intro hs (And.intro hs' hB)))
     clear hI hcc q0 q1 p0 p1 hm2 hz1 hz2 hP hm hs hs' hB hrow hbl hbl2 hil hk1 hk2
     go_upto_region 14 with (fail)
     have hD:=(Below.refl wr.heap.size wr).drew
     have hm1:=own_below HH.out.1 hD
     have hs1:=HH.out.2.1.below hD
     have ht1:=HH.out.2.2.1.below hD
     refine wp_region_held_drew (S:=fun X=>Below w2.heap.size w2 X) (by kernel_rfl) HH.out.2.2.2.drew (fun hH=>?_)
     generalize wr.drew=Wd at hm1 hs1 ht1 hH ⊢
     clear hD HH x0 x1 x2 lx
     refine zT0 0 55 (.move (.tmp 7)) (.slice va (8*i) vc) rfl hH ?_
     simp only [zz]
     refine zT3 1 56 (.fieldAddr 26 (.tmp 1) 2) (.pointer (some ⟨k0,2,none⟩)) rfl hH ?_
     simp only [zz]
     refine zT1 2 57 (.load 24 (.tmp 56)) (.slice (some ⟨bb,of,none⟩) n3 c3) rfl (fun wS hS=>by obtain⟨d0,d1,d2⟩:=L13.cells3 (L8.row_up HK2.out hS);go_simp) hH ?_
     simp only [zz]
     refine zT0 3 58 (.move (.tmp 10)) (.int .i64 (i:Int)) rfl hH ?_
     simp only [zz]
     refine zT3 4 59 (.indexAddr 24 (.tmp 57) (.tmp 58)) (.pointer (some ⟨bb,of+i*2,none⟩)) rfl hH ?_
     simp only [zz]
     refine zT3 5 60 (.fieldAddr 101 (.tmp 59) 0) (.pointer (some ⟨bb,of+i*2,none⟩)) rfl hH ?_
     simp only [zz]
     refine zT1 6 61 (.load 3 (.tmp 60)) (.int .i64 z1) rfl (fun wS hS=>by have e0:=(hS.cell (p:=⟨bb,of+i*2,none⟩) HP0.out.1).trans HP0.out.2.1;go_simp) hH ?_
     simp only [zz]
     refine zT3 8 63 (.fieldAddr 26 (.tmp 1) 2) (.pointer (some ⟨k0,2,none⟩)) rfl hH ?_
     simp only [zz]
     refine zT1 9 64 (.load 24 (.tmp 63)) (.slice (some ⟨bb,of,none⟩) n3 c3) rfl (fun wS hS=>by obtain⟨d0,d1,d2⟩:=L13.cells3 (L8.row_up HK2.out hS);go_simp) hH ?_
     simp only [zz]
     refine zT0 10 65 (.move (.tmp 10)) (.int .i64 (i:Int)) rfl hH ?_
     simp only [zz]
     refine zT3 11 66 (.indexAddr 24 (.tmp 64) (.tmp 65)) (.pointer (some ⟨bb,of+i*2,none⟩)) rfl hH ?_
     simp only [zz]
     refine zT3 12 67 (.fieldAddr 101 (.tmp 66) 1) (.pointer (some ⟨bb,of+i*2+1,none⟩)) rfl hH ?_
     simp only [zz]
     refine zT1 13 68 (.load 3 (.tmp 67)) (.int .i64 z2) rfl (fun wS hS=>by have e0:=(hS.cell (p:=⟨bb,of+i*2+1,none⟩) HP0.out.1).trans HP0.out.2.2;go_simp) hH ?_
     simp only [zz]
     refine wpAnyH_ready (rs:=[7]) (by kernel_rfl) (by simp) ?_
     refine AllReadyH.cons (o:=⟨some 62,.call ⟨.value (.func 116),#[.tmp 55,.tmp 61],#[23,3]⟩,_,_,_,none⟩) rfl (fun K hK=>?_) AllReadyH.nil
     go_simp
     refine (F1.out _ _ hH.size hm1).mono ?_
     rintro e wz5 ⟨⟨a5,c5,rfl,om5,at5⟩,bb5,gg5⟩
     have hs5:=hs1.next gg5 at5
     have ht5:=ht1.next gg5 at5
     refine hK.out _ _ (hH.trans bb5) (fun hH5=>?_)
     clear hK K hm1 hs1 ht1 hH gg5 at5 bb5 F1
     (try simp only [zz])
     refine wpAnyH_ready (rs:=[14]) (by kernel_rfl) (by simp) ?_
     refine AllReadyH.cons (o:=⟨some 69,.call ⟨.value (.func 116),#[.tmp 62,.tmp 68],#[23,3]⟩,_,_,_,none⟩) rfl (fun K hK=>?_) AllReadyH.nil
     go_simp
     refine (F2.out _ _ hH5.size om5).mono ?_
     rintro e wz6 ⟨⟨a6,c6,rfl,om6,at6⟩,bb6,gg6⟩
     have hs6:=hs5.next gg6 at6
     have ht6:=ht5.next gg6 at6
     refine hK.out _ _ (hH5.trans bb6) (fun hH6=>?_)
     clear hK K om5 hs5 ht5 hH5 gg6 at6 bb6 F2
     (try simp only [zz])
     refine zT0 15 7 (.assign (.tmp 69)) (.slice a6 (8*(i+1)) c6) rfl hH6 ?_
     simp only [zz]
     refine wpAnyH_done (by kernel_rfl) ?_ _
     go_wp2
     go_roundw
     case rel=>exact⟨i+1,hlt2,by go_num,Lib.hid ⟨by rw [HM2.out];exact om6,hs6,ht6,hH6⟩⟩
     case measure=>simp [RowKit.intOf];omega
    ·obtain rfl:i=n3:=by omega
     have hh:=hI.out
     rw [List.take_of_length_le (show (r4 o.rels).length≤i by simp [r4,HN.out.2.1])] at hh
     obtain⟨hm,hs,hs',hB⟩:=hh
     have R4:=Lib.hid (show Rw eB wr (.slice va (8*i) vc) (rwB (r4 o.rels)) from Rw.own (by rw [r4_len,HN.out.2.1];exact hm))
     have R2:=Lib.hid (show Rw eB wr (.slice ma (16*j) mc) (rwB (r2 o.maps)) from Rw.own (by rw [r2_len,HN.out.1];exact hs.own))
     have R3:=Lib.hid (show Rw eB wr (.slice sa (8*j) sc) (rwB (r3 (ofs 1 (nmL o.maps)))) from Rw.own (by rw [r3_len,HN.out.2.2.2];exact hs'.own))
     have R5:=Lib.hid (HTb.out.below hB)
     have R1:=Lib.hid (HCo.out _ (bch HB2.out hB))
     have HBB:=Lib.hid (bch HB2.out hB)
     clear hI hm hs hs' hB hrow
     go_wp2_with (go_at_call 113;((with_reducible refine (HW.out _ _ (ss_five _ _ rfl _ _ _ _ _ _ _ _ _ _ _ _ rfl (R1.out.below (bnew _ _)) (R2.out.below (bnew _ _)) (R3.out.below (bnew _ _)) (R4.out.below (bnew _ _)) (R5.out.below (bnew _ _)))).mono ?_);rintro e w9 ⟨⟨ra,rc,rfl,r9⟩,b9,-⟩;have HF:=Lib.hid (And.intro r9 (bch (bch HBB.out (bnew _ _)) b9))))
     go_ret
     exact⟨⟨_,_,rfl,Rw.own (by rw [HLN.out];exact HF.out.1)⟩,HF.out.2⟩
end Go.Proofs.YtihiggnglmhggaaGreatDoor.L16
end
section
namespace Go.Proofs.YtihiggnglmhggaaGreatDoor.L16
open Go
section
variable {P:Program} {ops:Array Oper} {Q:Exit→Act→World→Prop} {md:Region.Mode} {S:World→Prop}
structure Qt (P:Program) (ops:Array Oper) (Q:Exit→Act→World→Prop) (S:World→Prop) (o:Oper) (v:Value) (a:Act):Prop where
 wanted:Region.wanted o (yielded ops a.tmps)=true
 step:∀ w,S w→∀ (K:Act→World→Prop) (b:Act),execOp b.eval o=execOp a.eval o→K (b.put o.dst v) w→o.wp P b w K Q
theorem Qt.same {o:Oper} {v:Value} {a b:Act} (h:Qt P ops Q S o v a) (he:execOp b.eval o=execOp a.eval o) (hw:Region.wanted o (yielded ops b.tmps)=Region.wanted o (yielded ops a.tmps)):Qt P ops Q S o v b :=
 ⟨by rw [hw];exact h.wanted,fun w hS K c hc hK=>h.step w hS K c (by rw [hc,he]) hK⟩
theorem Qt.op {i:Nat} {o:Oper} {v:Value} {a:Act} (hi:ops[i]?=some o) (h:Qt P ops Q S o v a) {K:Act→World→Prop} {w:World} (hS:S w) (hK:K (a.put o.dst v) w):wpOp P ops Q i K a w:=by
 unfold wpOp
 simp only [hi,h.wanted,if_true]
 exact .inl (h.step w hS K a rfl hK)
theorem qt_other {j:Nat} {oi oj:Oper} {v:Value} (hj:ops[j]?=some oj) (hap:oi.apart ops oj=true) (hsi:∀ cs b,oi.op≠.select cs b) (hsj:∀ cs b,oj.op≠.select cs b)
  (hQ:∀ c a w,Q (.panic c) (a.put oi.dst v) w→Q (.panic c) a w) {K:Act→World→Prop} {a:Act} {w:World} (hy:Qt P ops Q S oi v a) (h:wpOp P ops Q j K (a.put oi.dst v) w) :
  wpOp P ops Q j (fun b w'=>Qt P ops Q S oi v b∧K (b.put oi.dst v) w') a w:=by
 obtain⟨h1,h2,h3⟩:=Oper.apart_spec hap
 have out:∀ (c:Act) (u:Value) (w':World),Qt P ops Q S oi v c→K ((c.put oi.dst v).put oj.dst u) w'→Qt P ops Q S oi v (c.put oj.dst u)∧K ((c.put oj.dst u).put oi.dst v) w':=fun c u w' hc hk =>
  ⟨hc.same (execOp_put oi hsi c oj.dst u h3) (wanted_put oi c oj.dst u h3),by rw [← Act.put_comm c v u h2];exact hk⟩
 have e:=execOp_put oj hsj a oi.dst v h1
 unfold wpOp at h ⊢
 simp only [hj] at h ⊢
 rw [wanted_put oj a oi.dst v h1] at h
 by_cases hw:Region.wanted oj (yielded ops a.tmps)=true
 ·rw [if_pos hw] at h ⊢
  rcases h with h|⟨h,hl⟩
  ·refine .inl ?_
   unfold Oper.wp at h ⊢
   rw [e] at h
   cases hr:(execOp a.eval oj).run P w with
   | ok n w' =>
    rw [hr] at h
    cases n with
    | value u=>exact out a u w' hy h
    | skip=>exact out a undef w' hy h
    | defer d=>exact out { a with defers:=d::a.defers } undef w' (hy.same rfl rfl) (by rw [← Act.put_defers];exact h)
    | enter f args =>
     refine Calls.mono h fun x w'' hx=>?_
     cases x with
     | returned u=>exact out a u w'' hy hx
     | panicked c=>exact hQ _ _ _ hx
     | outgrown=>exact hx
    | row r args=>exact Rows.mono h fun u w'' hx=>out a u w'' hy hx
    | _=>exact h
   | halt x w' =>
    rw [hr] at h
    cases x with
    | panic u=>exact hQ _ _ _ h
    | _=>exact h
  ·exact .inr ⟨by unfold Oper.asks at h ⊢;rw [e] at h;exact h,hl⟩
 ·rw [if_neg hw] at h ⊢
  exact out a undef w hy h
theorem qt_first {i:Nat} {oi:Oper} {v:Value} (hi:ops[i]?=some oi) (hsel:∀ (j:Nat) (o:Oper) cs b,ops[j]?=some o→o.op≠.select cs b) (hQ:∀ c a w,Q (.panic c) (a.put oi.dst v) w→Q (.panic c) a w) :
  ∀ (fuel:Nat) (listed:Array Bool) (a:Act) (w:World),(∀ j oj,ops[j]?=some oj→j≠i→listed.getD j true=false→(∀ e∈oj.after,Region.binds md e=true→e.on≠i)→oi.apart ops oj=true) →
   i∈Region.ready md ops listed→Qt P ops Q S oi v a→S w→wpAnyH P md ops Q S fuel (listed.setIfInBounds i true) (a.put oi.dst v) w→wpAnyH P md ops Q S (fuel+1) listed a w
 | fuel,listed,a,w,hfree,hr,hy,hS,H=>by
  refine⟨fun h=>(by rw [h] at hr;cases hr),fun j hj=>?_⟩
  by_cases hji:j=i
  ·subst hji
   exact hy.op hi hS ⟨hS,H⟩
  ·cases fuel with
   | zero =>
    have:=ready_mono hj hji
    rw [H.1] at this
    cases this
   | succ fuel =>
    obtain⟨hun,oj,hoj,hall⟩:=mem_ready.1 hj
    have hno:∀ e∈oj.after,Region.binds md e=true→e.on≠i:=fun e he hb h=>by
     have h1:=hall e he hb
     have h0:=(mem_ready.1 hr).1
     rw [h] at h1
     rcases Nat.lt_or_ge i listed.size with h'|h'
     ·simp [h'] at h0 h1
      rw [h0] at h1;cases h1
     ·simp [Array.getElem?_eq_none h'] at h1
    refine wpOp_mono (fun b w' h=>⟨h.2.1,?_⟩) (qt_other hoj (hfree j oj hoj hji hun hno) (fun cs b=>hsel i oi cs b hi) (fun cs b=>hsel j oj cs b hoj) hQ hy (H.2 j (ready_mono hj hji)))
    refine qt_first hi hsel hQ fuel _ b w' (fun k ok hk hki hku hkn=>hfree k ok hk hki ?_ hkn) (ready_mono hr (Ne.symm hji)) h.1 h.2.1 ?_
    ·by_cases hjk:j=k
     ·subst hjk;exact hun
     ·rwa [getD_set_ne true hjk] at hku
    ·rw [Array.setIfInBounds_comm _ _ hji]
     exact h.2.2
theorem take_call {i:Nat} {oi:Oper} {v:Value} {f:FuncId} {args:Array Value} {fuel:Nat} {listed:Array Bool} {a:Act} {w:World} (hi:ops[i]?=some oi)
  (hs:Region.noSelect ops=true) (hf:Region.free md ops listed i=true) (hr:(Region.ready md ops listed).contains i=true) (hQ:∀ c a w,Q (.panic c) (a.put oi.dst v) w→Q (.panic c) a w)
  (hw:Region.wanted oi (yielded ops a.tmps)=true) (he:∀ w,(execOp a.eval oi).run P w=.ok (.enter f args) w) (hc:∀ w,S w→Calls P f args w fun e w'=>e=.returned v∧w=w') (hS:S w)
  (h:wpAnyH P md ops Q S fuel (listed.setIfInBounds i true) (a.put oi.dst v) w):wpAnyH P md ops Q S (fuel+1) listed a w :=
 qt_first hi (Region.noSelect_spec hs) hQ fuel listed a w (Region.free_spec hi hf) (by simpa using hr)
  ⟨hw,fun x hx K b hb hK=>by
   unfold Oper.wp
   rw [hb,he x]
   refine (hc x hx).mono fun e w' hh=>?_
   obtain⟨rfl,rfl⟩:=hh
   exact hK⟩ hS h
end
end Go.Proofs.YtihiggnglmhggaaGreatDoor.L16
end
section
namespace Go.Proofs.YtihiggnglmhggaaGreatDoor.L15
open Go.RowKit Go.Shelf L14
attribute [local go_sem] Oper.semAt_some
theorem rget_is (v:Value) (b:List UInt8) (i n V:Nat) (I M:Int) (w:World) (h:Rw eB w v b) (hn:n≤4) (hl:i+n≤b.length) (hb:b.length≤1000000000) (hV:va (sub b i n)=V) (hI:I=(i:Int)) (hM:M=(n:Int)) :
  Calls Tryz.prog 71 #[v,.int .i64 I,.int .i64 M] w fun e w'=>e=.returned (.int .u64 (V:Int))∧w=w':=by
 subst hI hM
 exact rget_at v b i n V w h hn hl hb hV
def FitO (W:World) (B:Nat) (ps:List (Int × Value)) (l:List Sc):Prop:=ps.length=l.length∧∀ j (h1:j<ps.length) (h2:j<l.length),ps[j].1=l[j].1∧W.ownsRow B 5 1 ps[j].2 l[j].2.length (l[j].2.map eB)
theorem FitO.fits {W:World} {B:Nat} {ps:List (Int × Value)} {l:List Sc} (h:FitO W B ps l):Fits W ps l:=⟨h.1,fun j h1 h2=>⟨(h.2 j h1 h2).1,Rw.own (h.2 j h1 h2).2⟩⟩
theorem FitO.nil (W:World) (B:Nat):FitO W B [] []:=⟨rfl,fun j h=>absurd h (by simp)⟩
theorem FitO.map {W W':World} {B:Nat} {ps:List (Int × Value)} {l:List Sc} (h:FitO W B ps l) (hk:∀ v n xs,W.ownsRow B 5 1 v n xs→W'.ownsRow B 5 1 v n xs):FitO W' B ps l:=⟨h.1,fun j h1 h2=>⟨(h.2 j h1 h2).1,hk _ _ _ (h.2 j h1 h2).2⟩⟩
theorem FitO.snoc {w:World} {B:Nat} {ps:List (Int × Value)} {l:List Sc} {k:Int} {v:Value} {s:Sc} (h:FitO w B ps l) (hk:k=s.1) (hv:w.ownsRow B 5 1 v s.2.length (s.2.map eB)):FitO w B (ps++[(k,v)]) (l++[s]):=by
 refine⟨by rw [List.length_append,List.length_append,h.1];rfl,fun j h1 h2=>?_⟩
 by_cases hj:j<ps.length
 ·have hj2:j<l.length:=by rw [← h.1];exact hj
  rw [List.getElem_append_left hj,List.getElem_append_left hj2]
  exact h.2 j hj hj2
 ·have e1:j=ps.length:=by
   rw [List.length_append] at h1
   simp only [List.length_cons,List.length_nil] at h1
   omega
  subst e1
  have e2:ps.length=l.length:=h.1
  rw [List.getElem_append_right (Nat.le_refl _),List.getElem_append_right (by omega)]
  simp only [Nat.sub_self,e2,List.getElem_cons_zero]
  exact⟨hk,hv⟩
def RrP (b:List UInt8) (w:World) (e:Ending) (w':World):Prop :=
 ((¬ rdOk b∧e=.returned (.tuple #[.slice none 0 0,.bool false]))∨(rdOk b∧∃ a c,e=.returned (.tuple #[.slice a (nS b) c,.bool true])∧Ss w' (.slice a (nS b) c) (rdT b (nS b))))∧Below w.heap.size w w'
theorem rread_no (a:Option Addr) (n c:Nat) (b:List UInt8) (w:World) (hv:Rw eB w (.slice a n c) b) (hb:n≤1000000) (hno:n<16∨(16≤n∧(16<nS b∨n<16+12*nS b))) :
  Calls Tryz.prog 69 #[.slice a n c] w (RrP b w):=by
 have hn:=hv.at.1
 have hr:¬ rdOk b:=fun h=>by
  have h1:=h.1.1
  rcases hno with h2|⟨-,h2|h2⟩
  ·omega
  ·have:=(chk0.1 h.2.1).1.1
   rw [rdT_len] at this
   omega
  ·have h3:=(h.1.2 (nS b-1) (by omega)).1
   omega
 have HR:=Lib.hid hr
 by_cases h16:n<16
 ·have h16':(n:Int)<16:=by omega
  clear hr hno hv hn h16
  go_enter Tryz.func69,Tryz.ntmps69
  go_wp2
  refine bodyPost_ret (v:=.tuple #[.slice none 0 0,.bool false]) (by simp [results,Tryz.results69,go_sem]) rfl ⟨.inl ⟨HR.out,rfl⟩,Below.refl _ _⟩
 ·have h16':¬ (n:Int)<16:=by omega
  obtain⟨k,hk⟩:∃ k,nS b=k:=⟨_,rfl⟩
  have hkb:k<65536:=by
   rw [← hk]
   have:=va_lt (sub b 6 2)
   rw [sub_len _ _ _ (by omega)] at this
   exact this
  have HG:=Lib.hid (rget_is (.slice a n c) b 6 2 k 6 2 w hv (by omega) (by omega) (by omega) hk rfl rfl)
  rw [hk] at hno
  have hwr:IntKind.i64.wrap (k:Int)=(k:Int):=by rw [IntKind.wrap_i64];omega
  by_cases h17:16<k
  ·have h17':(16:Int)<(k:Int):=by omega
   clear hr hno hv hn h16 hk h17
   go_enter Tryz.func69,Tryz.ntmps69
   go_wp2_with (go_at_call 71;((with_reducible refine (HG.out).mono ?_);rintro e w1 ⟨rfl,rfl⟩))
   refine bodyPost_ret (v:=.tuple #[.slice none 0 0,.bool false]) (by simp [results,Tryz.results69,go_sem]) rfl ⟨.inl ⟨HR.out,rfl⟩,Below.refl _ _⟩
  ·have h17':¬ (16:Int)<(k:Int):=by omega
   have h18:(n:Int)<16+12*(k:Int):=by omega
   clear hr hno hv hn h16 hk h17
   go_enter Tryz.func69,Tryz.ntmps69
   go_wp2_with (go_at_call 71;((with_reducible refine (HG.out).mono ?_);rintro e w1 ⟨rfl,rfl⟩))
   refine bodyPost_ret (v:=.tuple #[.slice none 0 0,.bool false]) (by simp [results,Tryz.results69,go_sem]) rfl ⟨.inl ⟨HR.out,rfl⟩,Below.refl _ _⟩
theorem own_far {W W':World} {B e:TypeId} {size n g:Nat} {v:Value} {xs:List Value} (h:W.ownsRow B e size v n xs) (hg:W.grownBy W' (some g)) (hl:∀ k,v.ownBlock=some k→k≠g):W'.ownsRow B e size v n xs:=by
 refine h.kept hg ?_
 cases ho:v.ownBlock with
 | none=>exact .inl rfl
 | some k=>exact .inr fun e=>hl k ho (by simpa using e)
theorem own_apart {W W':World} {B B' eA eB sA sB n m:Nat} {vA vB:Value} {xs ys:List Value} (hA:W.ownsRow B eA sA vA n xs) (hB:W.ownsRow B' eB sB vB m ys) (he:eA≠eB) (hg:W.grownBy W' vB.ownBlock):W'.ownsRow B eA sA vA n xs:=by
 refine hA.kept hg ?_
 cases hv:vA.ownBlock with
 | none=>exact .inl rfl
 | some g =>
  refine .inr fun e=>?_
  obtain⟨c1,h1⟩:=own_ty hA hv
  obtain⟨c2,h2⟩:=own_ty hB e.symm
  rw [h1] at h2
  cases h2
  exact he rfl
theorem rread_yes (a:Option Addr) (n c:Nat) (b:List UInt8) (w:World) (hv:Rw eB w (.slice a n c) b) (hb:n≤1000000) (h16:16≤n) (hkk:nS b≤16∧16+12*nS b≤n) :
  Calls Tryz.prog 69 #[.slice a n c] w (RrP b w):=by
 obtain⟨i0,hi,hz0,hz1,hz2⟩:=info_parts infoSr
 obtain⟨hn,hc,-,-⟩:=hv.at
 obtain⟨k,hk⟩:∃ k,nS b=k:=⟨_,rfl⟩
 rw [hk] at hkk
 obtain⟨hk16,hkn⟩:=hkk
 have HG:=Lib.hid (rget_is (.slice a n c) b 6 2 k 6 2 w hv (by omega) (by omega) (by omega) hk rfl rfl)
 have h16':¬ (n:Int)<16:=by omega
 have h17':¬ (16:Int)<(k:Int):=by omega
 have h18':¬ (n:Int)<16+12*(k:Int):=by omega
 have hwr:IntKind.i64.wrap (k:Int)=(k:Int):=by rw [IntKind.wrap_i64];omega
 unfold RrP
 rw [hk]
 have HV:=Lib.hid hv
 have HN:=Lib.hid hn
 have HK:=Lib.hid hk
 clear hv hn hk
 go_enter Tryz.func69,Tryz.ntmps69
 go_wp2_with (go_at_call 71;((with_reducible refine (HG.out).mono ?_);rintro e w1 ⟨rfl,rfl⟩))
 clear HG
 go_loopw [5,6,7,8,9] (fun lv q _ _ _ wr=>∃ (i:Nat) (ps:List (Int × Value)),i≤k∧q=.int .i64 (i:Int)∧Below w.heap.size w wr∧wr.ownsRow w.heap.size 111 2 lv i (fl ps)∧Hid (FitO wr w.heap.size ps (rdT b i)∧∀ j,j<i→okR b j)) (fun _ q _ _ _ _=>k-(RowKit.intOf q).toNat)
 case atStart=>exact⟨0,[],Nat.zero_le _,rfl,Below.refl _ _,World.ownsRow_nil _ _ _ _,Lib.hid ⟨FitO.nil _ _,fun j h=>absurd h (by omega)⟩⟩
 case round =>
  obtain⟨i,ps,hi',rfl,hB,hown,hI⟩:=hrel
  obtain⟨oa,oc,rfl⟩:=owns_slice hown
  by_cases hlt:i<k
  ·have hn2:=HN.out
   have hvr:=HV.out.below hB
   obtain⟨K,hK⟩:∃ K,kiN b i=K:=⟨_,rfl⟩
   obtain⟨A,hA⟩:∃ A,atN b i=A:=⟨_,rfl⟩
   obtain⟨L,hL⟩:∃ L,lnN b i=L:=⟨_,rfl⟩
   have b4:∀ j,j+4≤n→va (sub b j 4)<4294967296:=fun j hj=>by
    have:=va_lt (sub b j 4)
    rw [sub_len _ _ _ (by omega)] at this
    exact this
   have hAb:A<4294967296:=by rw [← hA];exact b4 _ (by omega)
   have hLb:L<4294967296:=by rw [← hL];exact b4 _ (by omega)
   have hKb:K<4294967296:=by rw [← hK];exact b4 _ (by omega)
   have G0:=Lib.hid (fun W (h:Below w.heap.size w W)=>rget_is (.slice a n c) b (16+12*i) 4 K (16+12*(i:Int)) 4 W (HV.out.below h) (by omega) (by omega) (by omega) hK (by omega) rfl)
   have G4:=Lib.hid (fun W (h:Below w.heap.size w W)=>rget_is (.slice a n c) b (20+12*i) 4 A (20+12*(i:Int)) 4 W (HV.out.below h) (by omega) (by omega) (by omega) hA (by omega) rfl)
   have G8:=Lib.hid (fun W (h:Below w.heap.size w W)=>rget_is (.slice a n c) b (24+12*i) 4 L (24+12*(i:Int)) 4 W (HV.out.below h) (by omega) (by omega) (by omega) hL (by omega) rfl)
   have wK:IntKind.i64.wrap (K:Int)=(K:Int):=by rw [IntKind.wrap_i64];omega
   have wA:IntKind.i64.wrap (A:Int)=(A:Int):=by rw [IntKind.wrap_i64];omega
   have wL:IntKind.i64.wrap (L:Int)=(L:Int):=by rw [IntKind.wrap_i64];omega
   by_cases hC:n<A+L
   ·have HNO:=Lib.hid (show ¬ rdOk b from fun h=>by
     have h1:=(h.1.2 i (by rw [HK.out];exact hlt)).2
     omega)
    have hC':(n:Int)<(A:Int)+(L:Int):=by omega
    have HBB:=Lib.hid hB
    clear hI hown hvr hK hA hL b4 hn2
    go_wp2_with (first
     | (go_at_call 71;((with_reducible refine (G0.out _ HBB.out).mono ?_);rintro e w1 ⟨rfl,rfl⟩))
     | (go_at_call 71;((with_reducible refine (G4.out _ HBB.out).mono ?_);rintro e w1 ⟨rfl,rfl⟩))
     | (go_at_call 71;((with_reducible refine (G8.out _ HBB.out).mono ?_);rintro e w1 ⟨rfl,rfl⟩)))
    refine bodyPost_ret (v:=.tuple #[.slice none 0 0,.bool false]) (by simp [results,Tryz.results69,go_sem]) rfl ⟨.inl ⟨HNO.out,rfl⟩,HBB.out⟩
   ·have hC':¬ (n:Int)<(A:Int)+(L:Int):=by omega
    have HBB:=Lib.hid hB
    have hdr:=cut_rw hvr A L (by omega)
    have hhs:=fun W=>run_part und8 size8 a n c A (A+L) (by omega) (by omega) hc W
    rw [show A+L-A=L by omega] at hhs
    have e1:((A+L:Nat):Int)=(A:Int)+(L:Int):=by omega
    rw [e1] at hhs
    have hhs':∀ W,(Instr.slice 23 (.slice a n c) (some (.int .i64 (A:Int))) (some (.int .i64 ((A:Int)+(L:Int)))) none).run Tryz.prog W=.ok (cutV a c A L) W:=hhs
    obtain⟨da,dc,hde⟩:=cut_form a c A L
    rw [hde] at hdr
    simp only [hde] at hhs'
    have hrd:rdT b (i+1)=rdT b i++[((K:Int),sub b A L)]:=by rw [rdT_snoc,rd1,hK,hA,hL]
    have HRD:=Lib.hid hrd
    have HOK:=Lib.hid (show okR b i from ⟨by omega,by rw [hA,hL];omega⟩)
    have HDR:=Lib.hid (hdr.below (bnew wr (.cells #[] 5)))
    have hdl:(sub b A L).length=L:=sub_len _ _ _ (by omega)
    have HDL:=Lib.hid hdl
    have hL2:L≤n:=by omega
    have hown1:=hown.alloc (.cells #[] 5)
    have HI:=Lib.hid hI.out
    have hwsz:=hB.size
    clear hI hvr hK hA hL b4 hn2 hdr hhs e1 hde hrd hdl
    go_wp2_with (first
     | (go_at_call 71;((with_reducible refine (G0.out _ HBB.out).mono ?_);rintro e w1 ⟨rfl,rfl⟩))
     | (go_at_call 71;((with_reducible refine (G4.out _ HBB.out).mono ?_);rintro e w1 ⟨rfl,rfl⟩))
     | (go_at_call 71;((with_reducible refine (G8.out _ HBB.out).mono ?_);rintro e w1 ⟨rfl,rfl⟩))
     | (at_builtin;refine wpList_append_rw rfl _ _ rfl w.heap.size _ 0 [] rfl (World.ownsRow_made wr #[] 0 hwsz (Nat.zero_le _) rfl) _ (sub b A L) rfl HDR.out (by have:=HDL.out;omega) (by simp;omega) ?_;intro v' w5 ho5 hg5;rw [Nat.zero_add,HDL.out,List.nil_append] at ho5;obtain⟨na,nc,rfl⟩:=owns_slice ho5;have hg5':(wr.alloc (.cells #[] 5)).grownBy w5 (some wr.heap.size):=hg5;have B5:=(HBB.out.alloc hwsz (.cells #[] 5)).grown hg5' (by simp;omega) (fun q e=>by (cases e;exact hwsz));have hown5:=own_far hown1 hg5' (fun q e=>by (have:=(World.ownsRow.lt hown q e).2;omega));have F5:=HI.out.1.map (fun v n xs h=>own_far (h.alloc (.cells #[] 5)) hg5' (fun q e=>by (have:=(World.ownsRow.lt h q e).2;omega)));have z5:=B5.size)
     | (at_builtin;refine wpList_append_own _ rfl _ _ 107 rfl w.heap.size 111 i0 (.agg #[.int .i64 0,.slice none 0 0]) 2 32 Tryz.underlying107 hi hz0 hz1 hz2 rfl (by decide) _ i _ rfl (hown5.alloc _) ⟨w5.heap.size,0,none⟩ 1 1 [.int .i64 (K:Int),.slice na L nc] rfl rfl (World.news_of_block (cs:=#[.int .i64 (K:Int),.slice na L nc]) (t:=111) (fr:=(0,0)) (heap_alloc_last w5 _)) (by simp [Value.oneCell']) (by unfold maxLen;omega) (by omega) (by simp;omega) ?_;intro v6 w6 hown6 hgrow6 _;have B6:=(B5.alloc z5 _).grown hgrow6 (by simp;omega) (own_base hown5)))
    have hg6:(w5.alloc (.cells #[.int .i64 (K:Int),.slice na L nc] 111)).grownBy w6 (Value.slice oa i oc).ownBlock:=hgrow6
    have hown7:=hown5.alloc (.cells #[.int .i64 (K:Int),.slice na L nc] 111)
    have F6:FitO w6 w.heap.size (ps++[((K:Int),.slice na L nc)]) (rdT b (i+1)):=by
     rw [HRD.out]
     refine FitO.snoc (F5.map fun v n xs h=>own_apart (h.alloc _) hown7 (by decide) hg6) rfl ?_
     have:=own_apart (ho5.alloc (.cells #[.int .i64 (K:Int),.slice na L nc] 111)) hown7 (by decide) hg6
     show w6.ownsRow w.heap.size 5 1 (.slice na L nc) (sub b A L).length _
     rw [HDL.out]
     exact this
    have HF:=Lib.hid (show FitO w6 w.heap.size (ps++[((K:Int),.slice na L nc)]) (rdT b (i+1))∧∀ j,j<i+1→okR b j from ⟨F6,fun j hj=>by
     rcases Nat.lt_succ_iff_lt_or_eq.1 hj with h|rfl
     ·exact HI.out.2 j h
     ·exact HOK.out⟩)
    clear F5 F6 ho5 hg5 hg5' hown5 B5 hown1 hg6 hown7
    go_roundw
    case rel=>exact⟨i+1,ps++[((K:Int),.slice na L nc)],hlt,by go_num,B6,by rw [fl_snoc];exact hown6,HF⟩
    case measure=>simp [RowKit.intOf];omega
  ·obtain rfl:i=k:=by omega
   have hfo:=hI.out
   have hrd:rdB b:=⟨by rw [HN.out];exact h16,fun j hj=>hfo.2 j (by rw [HK.out] at hj;exact hj)⟩
   obtain⟨l,hl⟩:∃ l,rdT b i=l:=⟨_,rfl⟩
   have hli:l.length=i:=by rw [← hl,rdT_len]
   rw [hl] at hfo
   have hss:=own_ss hli hown hfo.1.fits
   have hro:rdOk b↔chkV l=0∧L15.wr l=b:=⟨fun h=>by
    have:=h.2
    rw [HK.out,hl] at this
    exact this,fun h=>⟨hrd,by rw [HK.out,hl];exact h⟩⟩
   have hsm:Sml l:=by
    have:=((rdT_sml b (by rw [HN.out];exact hb)).resolve_right (fun h=>h hrd)).1
    rw [HK.out,hl] at this
    exact this
   have HL:=Lib.hid hl
   obtain⟨R,hR⟩:∃ R,chkV l=R:=⟨_,rfl⟩
   have HC:=Lib.hid (rcheck_at (.slice oa i oc) l R wr hss hsm hR)
   have HSS:=Lib.hid hss
   have HBw:=Lib.hid hB
   have HRO:=Lib.hid hro
   by_cases h0:R=0
   ·subst h0
    have hf:=fw_of hsm hR
    have ha:=(chk0.1 hR).2
    obtain⟨S,hS⟩:∃ S,szL l=S:=⟨_,rfl⟩
    have hSb:=hf.sz
    rw [hS] at hSb
    have HW:=Lib.hid (fun q=>rwrite_at (.slice oa i oc) l (wr.drewN q) (hss.below (bdN (Below.refl _ _) q)) hf ha S hS)
    have HWL:=Lib.hid (show (L15.wr l).length=S by rw [wr_len,hS])
    have HV2:=Lib.hid (fun W (h:Below w.heap.size w W)=>HV.out.below h)
    by_cases he:L15.wr l=b
    ·have HS:=Lib.hid (fun W v (h:Rw eB W v (L15.wr l)) (h2:Rw eB W (.slice a n c) b)=>rsameB_at v (.slice a n c) (L15.wr l) b true W (by rw [HWL.out];omega) (by rw [HN.out];omega) h h2 (by simpa using he))
     have HOK:=Lib.hid (HRO.out.2 ⟨hR,he⟩)
     clear hown hB hI hfo hrd hl hli hss hro hsm hR hf ha hS he
     go_wp2_with (first
      | (go_at_call 112;((with_reducible refine (HC.out).mono ?_);rintro e w1 ⟨rfl,q,rfl⟩))
      | (go_at_call 113;((with_reducible refine (HW.out _).mono ?_);rintro e w2 ⟨⟨a2,c2,rfl,o2⟩,b2,z2⟩;have B2:=(bdN HBw.out q).trans (b2.mono HBw.out.size);have r2:Rw eB w2 (.slice a2 S c2) (L15.wr l):=(by have e:=HWL.out;subst e;exact Rw.own o2)))
      | (go_at_call 72;((with_reducible refine (HS.out _ _ r2 (HV2.out _ B2)).mono ?_);rintro e w3 ⟨rfl,q3,rfl⟩)))
     refine bodyPost_ret (v:=.tuple #[.slice oa i oc,.bool true]) (by simp [results,Tryz.results69,go_sem]) rfl ⟨.inr ⟨HOK.out,oa,oc,rfl,?_⟩,bdN B2 _⟩
     rw [HL.out]
     exact HSS.out.below (bdN ((bdN (Below.refl _ _) q).trans b2) q3)
    ·have HS:=Lib.hid (fun W v (h:Rw eB W v (L15.wr l)) (h2:Rw eB W (.slice a n c) b)=>rsameB_at v (.slice a n c) (L15.wr l) b false W (by rw [HWL.out];omega) (by rw [HN.out];omega) h h2 (by simpa using he))
     have HNO:=Lib.hid (show ¬ rdOk b from fun h=>he (HRO.out.1 h).2)
     clear hown hB hI hfo hrd hl hli hss hro hsm hR hf ha hS he
     go_wp2_with (first
      | (go_at_call 112;((with_reducible refine (HC.out).mono ?_);rintro e w1 ⟨rfl,q,rfl⟩))
      | (go_at_call 113;((with_reducible refine (HW.out _).mono ?_);rintro e w2 ⟨⟨a2,c2,rfl,o2⟩,b2,z2⟩;have B2:=(bdN HBw.out q).trans (b2.mono HBw.out.size);have r2:Rw eB w2 (.slice a2 S c2) (L15.wr l):=(by have e:=HWL.out;subst e;exact Rw.own o2)))
      | (go_at_call 72;((with_reducible refine (HS.out _ _ r2 (HV2.out _ B2)).mono ?_);rintro e w3 ⟨rfl,q3,rfl⟩)))
     refine bodyPost_ret (v:=.tuple #[.slice none 0 0,.bool false]) (by simp [results,Tryz.results69,go_sem]) rfl ⟨.inl ⟨HNO.out,rfl⟩,bdN B2 _⟩
   ·have HNO:=Lib.hid (show ¬ rdOk b from fun h=>h0 (by rw [← hR];exact (HRO.out.1 h).1))
    have hRb:(R != 0)=true:=by simpa using h0
    clear hown hB hI hfo hrd hl hli hss hro hsm hR h0
    go_wp2_with (go_at_call 112;((with_reducible refine (HC.out).mono ?_);rintro e w1 ⟨rfl,q,rfl⟩))
    refine bodyPost_ret (v:=.tuple #[.slice none 0 0,.bool false]) (by simp [results,Tryz.results69,go_sem]) rfl ⟨.inl ⟨HNO.out,rfl⟩,bdN HBw.out _⟩
theorem rread_at (a:Option Addr) (n c:Nat) (b:List UInt8) (w:World) (hv:Rw eB w (.slice a n c) b) (hb:n≤1000000) :
  Calls Tryz.prog 69 #[.slice a n c] w (RrP b w):=by
 by_cases h1:16≤n
 ·by_cases h2:nS b≤16∧16+12*nS b≤n
  ·exact rread_yes a n c b w hv hb h1 h2
  ·exact rread_no a n c b w hv hb (.inr ⟨h1,by omega⟩)
 ·exact rread_no a n c b w hv hb (.inl (by omega))
end Go.Proofs.YtihiggnglmhggaaGreatDoor.L15
end
section
namespace Go.Proofs.YtihiggnglmhggaaGreatDoor.L16
open Go.RowKit L14 L15
open L13 (Ob)
attribute [local go_sem] Oper.semAt_some
def RqN (w:World) (e:Ending) (w':World):Prop:=e=.returned (.tuple #[.agg #[.slice none 0 0,.slice none 0 0,.slice none 0 0],.bool false])∧Below w.heap.size w w'
def RqY (o:Ob) (w:World) (e:Ending) (w':World):Prop:=(∃ vm vc vr,e=.returned (.tuple #[.agg #[vm,vc,vr],.bool true])∧OA w' vm vc vr o)∧Below w.heap.size w w'
theorem rread_not (a:Option Addr) (n c:Nat) (b:List UInt8) (w:World) (hv:Rw eB w (.slice a n c) b) (hb:n≤1000000) (h:¬ rdOk b) :
  Calls Tryz.prog 69 #[.slice a n c] w fun e w'=>e=.returned (.tuple #[.slice none 0 0,.bool false])∧Below w.heap.size w w':=by
 refine (rread_at a n c b w hv hb).mono fun e w' hP=>?_
 obtain⟨⟨-,he⟩|⟨h1,-⟩,hb⟩:=hP
 ·exact⟨he,hb⟩
 ·exact absurd h1 h
theorem rread_is (a:Option Addr) (n c L:Nat) (b:List UInt8) (l:List Sc) (w:World) (hv:Rw eB w (.slice a n c) b) (hb:n≤1000000) (h:rdOk b) (hL:nS b=L) (hl:rdT b (nS b)=l) :
  Calls Tryz.prog 69 #[.slice a n c] w fun e w'=>(∃ a' c',e=.returned (.tuple #[.slice a' L c',.bool true])∧Ss w' (.slice a' L c') l)∧Below w.heap.size w w':=by
 subst hL hl
 refine (rread_at a n c b w hv hb).mono fun e w' hP=>?_
 obtain⟨⟨h1,-⟩|⟨-,h2⟩,hb⟩:=hP
 ·exact absurd h h1
 ·exact⟨h2,hb⟩
abbrev two0 (w:World):World:=(w.alloc (.cells nil3 26)).alloc (.cells nil3 26)
theorem two_facts (w:World):(two0 w).heap[w.heap.size]?=some (.cells nil3 26)∧(two0 w).heap[w.heap.size+1]?=some (.cells nil3 26)∧Below w.heap.size w (two0 w):=L13.two_ob w _ _
theorem five_of {b:List UInt8} {q:Ob} (h:Is16 b q):rdT b (nS b)=secs q∧nS b=5:=by
 have e:=(is16_rd h).2
 refine⟨e,?_⟩
 have:=congrArg List.length e
 rw [rdT_len] at this
 exact this
section
variable (a:Option Addr) (n c:Nat) (b:List UInt8) (w:World) (hv:Rw eB w (.slice a n c) b) (hb:n≤100000)
include hv hb
theorem rq_not (h:¬ rdOk b):Calls Tryz.prog 37 #[.slice a n c] w (RqN w):=by
 obtain⟨k1,k2,hB⟩:=two_facts w
 have HR:=Lib.hid (rread_not a n c b _ (hv.below hB) (by omega) h)
 have K1:=Lib.hid k1
 have K2:=Lib.hid k2
 have HB:=Lib.hid hB
 clear hv h k1 k2 hB
 go_enter Tryz.func37,Tryz.ntmps37
 go_upto_region 4 with (go_at_call 69;((with_reducible refine (HR.out).mono ?_);rintro e w1 ⟨rfl,b1⟩))
 have q1:=L8.row_up K1.out b1
 have q2:=L8.row_up K2.out b1
 have B1:=bch HB.out b1
 obtain⟨x0,x1,x2⟩:=L13.cells3 q2
 have lx:=World.block_lt_of_cell? _ _ x0
 simp only at lx
 go_wp2_with (refine wpList_store_row rfl _ _ _ rfl w.heap.size nil3 rfl rfl 26 _ q1 (by kernel_rfl) rfl (by simp [Value.oneCell']) ?_)
 obtain⟨z0,z1,z2⟩:=L13.cells3 (setRow_heap _ _ _ nil3 _ _ q1)
 exact bodyPost_ret (v:=.tuple #[.agg nil3,.bool false]) (by simp [results,Tryz.results37,go_sem,z0,z1,z2]) rfl ⟨rfl,below_setRow B1 (Nat.le_refl _) _⟩
theorem rq_len (h:rdOk b) (h5:nS b≠5):Calls Tryz.prog 37 #[.slice a n c] w (RqN w):=by
 obtain⟨k1,k2,hB⟩:=two_facts w
 obtain⟨L,hL⟩:∃ L,nS b=L:=⟨_,rfl⟩
 have HR:=Lib.hid (rread_is a n c L b _ _ (hv.below hB) (by omega) h hL rfl)
 have K1:=Lib.hid k1
 have K2:=Lib.hid k2
 have HB:=Lib.hid hB
 have h5':((L:Int) != 5)=true:=by rw [bne_iff_ne];omega
 clear hv h k1 k2 hB hL h5
 go_enter Tryz.func37,Tryz.ntmps37
 go_upto_region 4 with (go_at_call 69;((with_reducible refine (HR.out).mono ?_);rintro e w1 ⟨⟨ra,rc,rfl,-⟩,b1⟩))
 have q1:=L8.row_up K1.out b1
 have q2:=L8.row_up K2.out b1
 have B1:=bch HB.out b1
 obtain⟨x0,x1,x2⟩:=L13.cells3 q2
 have lx:=World.block_lt_of_cell? _ _ x0
 simp only at lx
 go_wp2_with (refine wpList_store_row rfl _ _ _ rfl w.heap.size nil3 rfl rfl 26 _ q1 (by kernel_rfl) rfl (by simp [Value.oneCell']) ?_)
 obtain⟨z0,z1,z2⟩:=L13.cells3 (setRow_heap _ _ _ nil3 _ _ q1)
 exact bodyPost_ret (v:=.tuple #[.agg nil3,.bool false]) (by simp [results,Tryz.results37,go_sem,z0,z1,z2]) rfl ⟨rfl,below_setRow B1 (Nat.le_refl _) _⟩
end
theorem ss_at {w:World} {a:Option Addr} {L c:Nat} {l:List Sc} (h:Ss w (.slice a L c) l) (hl:l.length=L) (j:Nat) (hj:j<L):∃ b o,a=some ⟨b,o,none⟩∧b<w.heap.size∧w.cell? ⟨b,o+j*2,none⟩=some (.int .i64 (l[j]'(by omega)).1)∧∃ dv,w.cell? ⟨b,o+j*2+1,none⟩=some dv∧Rw eB w dv (l[j]'(by omega)).2:=by
 obtain⟨-,-,-,hc⟩:=h.form' hl
 obtain⟨b,o,e,hb,hcc⟩:=hc (by omega)
 obtain⟨h1,dv,h2,h3⟩:=hcc j (by omega)
 exact⟨b,o,e,hb,h1,dv,h2,h3⟩
section
variable (a:Option Addr) (n c:Nat) (b:List UInt8) (w:World) (hv:Rw eB w (.slice a n c) b) (hb:n≤100000) (s0 s1 s2 s3 s4:Sc) (h:rdOk b) (h5:nS b=5) (hl:rdT b (nS b)=[s0,s1,s2,s3,s4])
include hv hb h h5 hl
theorem rq_kind (hk:s4.1≠5):Calls Tryz.prog 37 #[.slice a n c] w (RqN w):=by
 obtain⟨k1,k2,hB⟩:=two_facts w
 have HR:=Lib.hid (rread_is a n c 5 b _ _ (hv.below hB) (by omega) h h5 hl)
 have K1:=Lib.hid k1
 have K2:=Lib.hid k2
 have HB:=Lib.hid hB
 obtain⟨kk,d4⟩:=s4
 have hk':(kk != 5)=true:=by simpa using hk
 clear hv h k1 k2 hB h5 hk
 go_enter Tryz.func37,Tryz.ntmps37
 go_upto_region 4 with (go_at_call 69;((with_reducible refine (HR.out).mono ?_);rintro e w1 ⟨⟨ra,rc,rfl,rs⟩,b1⟩;obtain⟨bb,o,rfl,hlb,y0,-⟩:=ss_at rs rfl 4 (by decide);simp only [List.getElem_cons_succ,List.getElem_cons_zero] at y0))
 have q1:=L8.row_up K1.out b1
 have q2:=L8.row_up K2.out b1
 have B1:=bch HB.out b1
 obtain⟨x0,x1,x2⟩:=L13.cells3 q2
 have lx:=World.block_lt_of_cell? _ _ x0
 simp only at lx
 go_wp2_with (refine wpList_store_row rfl _ _ _ rfl w.heap.size nil3 rfl rfl 26 _ q1 (by kernel_rfl) rfl (by simp [Value.oneCell']) ?_)
 obtain⟨z0,z1,z2⟩:=L13.cells3 (setRow_heap _ _ _ nil3 _ _ q1)
 exact bodyPost_ret (v:=.tuple #[.agg nil3,.bool false]) (by simp [results,Tryz.results37,go_sem,z0,z1,z2]) rfl ⟨rfl,below_setRow B1 (Nat.le_refl _) _⟩
theorem rq_tab (hk:s4.1=5) (hp:L14.prV s4.2=none) (hlen:s4.2.length≤100000):Calls Tryz.prog 37 #[.slice a n c] w (RqN w):=by
 obtain⟨k1,k2,hB⟩:=two_facts w
 have HR:=Lib.hid (rread_is a n c 5 b _ _ (hv.below hB) (by omega) h h5 hl)
 have K1:=Lib.hid k1
 have K2:=Lib.hid k2
 have HB:=Lib.hid hB
 obtain⟨kk,d5⟩:=s4
 obtain⟨kk1,d2⟩:=s1
 obtain⟨kk3,d4⟩:=s3
 simp only at hk hp hlen
 subst hk
 obtain⟨D5,hD5⟩:∃ D,d5.length=D:=⟨_,rfl⟩
 obtain⟨D2,hD2⟩:∃ D,d2.length=D:=⟨_,rfl⟩
 obtain⟨D4,hD4⟩:∃ D,d4.length=D:=⟨_,rfl⟩
 have HP:=Lib.hid (fun (X:World) (v:Value) (hr:Rw eB X v d5)=>rparse_none v d5 X hr (by omega) hp)
 have HL:=Lib.hid (And.intro hD5 (And.intro hD2 hD4))
 clear hv h k1 k2 hB h5 hp hD5 hD2 hD4 hlen
 go_enter Tryz.func37,Tryz.ntmps37
 go_upto_region 9 with (first
  | (go_at_call 69;((with_reducible refine (HR.out).mono ?_);rintro e w1 ⟨⟨ra,rc,rfl,rs⟩,b1⟩;obtain⟨bb,o,rfl,hlb,y0,dv4,y4,r4⟩:=ss_at rs rfl 4 (by decide);obtain⟨bb1,o1,hq1,-,-,dv1,y1,r1⟩:=ss_at rs rfl 1 (by decide);obtain⟨bb3,o3,hq3,-,-,dv3,y3,r3⟩:=ss_at rs rfl 3 (by decide);cases hq1;cases hq3;simp only [List.getElem_cons_succ,List.getElem_cons_zero] at y0 r1 r3 r4;obtain⟨e4,g4,rfl,-⟩:=r4.form HL.out.1;obtain⟨e1,g1,rfl,-⟩:=r1.form HL.out.2.1;obtain⟨e3,g3,rfl,-⟩:=r3.form HL.out.2.2))
  | (go_at_call 70;((with_reducible refine (HP.out _ _ r4).mono ?_);rintro e w2 ⟨rfl,b2⟩)))
 have q1:=L8.row_up (L8.row_up K1.out b1) b2
 have q2:=L8.row_up (L8.row_up K2.out b1) b2
 have B1:=bch (bch HB.out b1) b2
 obtain⟨x0,x1,x2⟩:=L13.cells3 q2
 have lx:=World.block_lt_of_cell? _ _ x0
 simp only at lx
 go_wp2_with (refine wpList_store_row rfl _ _ _ rfl w.heap.size nil3 rfl rfl 26 _ q1 (by kernel_rfl) rfl (by simp [Value.oneCell']) ?_)
 obtain⟨z0,z1,z2⟩:=L13.cells3 (setRow_heap _ _ _ nil3 _ _ q1)
 exact bodyPost_ret (v:=.tuple #[.agg nil3,.bool false]) (by simp [results,Tryz.results37,go_sem,z0,z1,z2]) rfl ⟨rfl,below_setRow B1 (Nat.le_refl _) _⟩
theorem rq_maps (ts:List (List UInt8)) (hk:s4.1=5) (hp:L14.prV s4.2=some ts) (hlen:s4.2.length≤100000) (hne:s1.2.length≠16*ts.length):Calls Tryz.prog 37 #[.slice a n c] w (RqN w):=by
 obtain⟨k1,k2,hB⟩:=two_facts w
 have HR:=Lib.hid (rread_is a n c 5 b _ _ (hv.below hB) (by omega) h h5 hl)
 have K1:=Lib.hid k1
 have K2:=Lib.hid k2
 have HB:=Lib.hid hB
 obtain⟨kk,d5⟩:=s4
 obtain⟨kk1,d2⟩:=s1
 obtain⟨kk3,d4⟩:=s3
 simp only at hk hp hlen hne
 subst hk
 obtain⟨D5,hD5⟩:∃ D,d5.length=D:=⟨_,rfl⟩
 obtain⟨D2,hD2⟩:∃ D,d2.length=D:=⟨_,rfl⟩
 obtain⟨D4,hD4⟩:∃ D,d4.length=D:=⟨_,rfl⟩
 obtain⟨T,hT⟩:∃ D,ts.length=D:=⟨_,rfl⟩
 have hTb:=(L14.prV_few hp).1
 rw [hD2,hT] at hne
 rw [hT] at hTb
 have hTb2:T≤100000:=by omega
 have hne':((D2:Int) != 16*(T:Int))=true:=by rw [bne_iff_ne];omega
 have HP:=Lib.hid (fun (X:World) (v:Value) (hr:Rw eB X v d5)=>rparse_some v d5 ts T X hr (by omega) hp hT)
 have HL:=Lib.hid (And.intro hD5 (And.intro hD2 hD4))
 clear hv h k1 k2 hB h5 hp hD5 hD2 hD4 hlen hT hTb hne
 go_enter Tryz.func37,Tryz.ntmps37
 go_upto_region 9 with (first
  | (go_at_call 69;((with_reducible refine (HR.out).mono ?_);rintro e w1 ⟨⟨ra,rc,rfl,rs⟩,b1⟩;obtain⟨bb,o,rfl,hlb,y0,dv4,y4,r4⟩:=ss_at rs rfl 4 (by decide);obtain⟨bb1,o1,hq1,-,-,dv1,y1,r1⟩:=ss_at rs rfl 1 (by decide);obtain⟨bb3,o3,hq3,-,-,dv3,y3,r3⟩:=ss_at rs rfl 3 (by decide);cases hq1;cases hq3;simp only [List.getElem_cons_succ,List.getElem_cons_zero] at y0 r1 r3 r4;obtain⟨e4,g4,rfl,-⟩:=r4.form HL.out.1;obtain⟨e1,g1,rfl,-⟩:=r1.form HL.out.2.1;obtain⟨e3,g3,rfl,-⟩:=r3.form HL.out.2.2))
  | (go_at_call 70;((with_reducible refine (HP.out _ _ r4).mono ?_);rintro e w2 ⟨⟨pa,pc,rfl,-⟩,b2⟩)))
 have q1:=L8.row_up (L8.row_up K1.out b1) b2
 have q2:=L8.row_up (L8.row_up K2.out b1) b2
 have B1:=bch (bch HB.out b1) b2
 obtain⟨x0,x1,x2⟩:=L13.cells3 q2
 have lx:=World.block_lt_of_cell? _ _ x0
 simp only at lx
 go_wp2_with (refine wpList_store_row rfl _ _ _ rfl w.heap.size nil3 rfl rfl 26 _ q1 (by kernel_rfl) rfl (by simp [Value.oneCell']) ?_)
 obtain⟨z0,z1,z2⟩:=L13.cells3 (setRow_heap _ _ _ nil3 _ _ q1)
 exact bodyPost_ret (v:=.tuple #[.agg nil3,.bool false]) (by simp [results,Tryz.results37,go_sem,z0,z1,z2]) rfl ⟨rfl,below_setRow B1 (Nat.le_refl _) _⟩
theorem rq_rels (ts:List (List UInt8)) (hk:s4.1=5) (hp:L14.prV s4.2=some ts) (hlen:s4.2.length≤100000) (heq:s1.2.length=16*ts.length) (hne:s3.2.length % 8≠0):Calls Tryz.prog 37 #[.slice a n c] w (RqN w):=by
 obtain⟨k1,k2,hB⟩:=two_facts w
 have HR:=Lib.hid (rread_is a n c 5 b _ _ (hv.below hB) (by omega) h h5 hl)
 have K1:=Lib.hid k1
 have K2:=Lib.hid k2
 have HB:=Lib.hid hB
 obtain⟨kk,d5⟩:=s4
 obtain⟨kk1,d2⟩:=s1
 obtain⟨kk3,d4⟩:=s3
 simp only at hk hp hlen hne
 subst hk
 obtain⟨D5,hD5⟩:∃ D,d5.length=D:=⟨_,rfl⟩
 obtain⟨D2,hD2⟩:∃ D,d2.length=D:=⟨_,rfl⟩
 obtain⟨D4,hD4⟩:∃ D,d4.length=D:=⟨_,rfl⟩
 obtain⟨T,hT⟩:∃ D,ts.length=D:=⟨_,rfl⟩
 have hTb:=(L14.prV_few hp).1
 simp only at heq
 rw [hD2,hT] at heq
 rw [hD4] at hne
 rw [hT] at hTb
 have hTb2:T≤100000:=by omega
 have heq':((D2:Int) != 16*(T:Int))=false:=by rw [bne_eq_false_iff_eq];omega
 have hne':((D4:Int) % 8 != 0)=true:=by rw [bne_iff_ne];omega
 have HP:=Lib.hid (fun (X:World) (v:Value) (hr:Rw eB X v d5)=>rparse_some v d5 ts T X hr (by omega) hp hT)
 have HL:=Lib.hid (And.intro hD5 (And.intro hD2 hD4))
 clear hv h k1 k2 hB h5 hp hD5 hD2 hD4 hlen hT hTb hne heq
 go_enter Tryz.func37,Tryz.ntmps37
 go_upto_region 9 with (first
  | (go_at_call 69;((with_reducible refine (HR.out).mono ?_);rintro e w1 ⟨⟨ra,rc,rfl,rs⟩,b1⟩;obtain⟨bb,o,rfl,hlb,y0,dv4,y4,r4⟩:=ss_at rs rfl 4 (by decide);obtain⟨bb1,o1,hq1,-,-,dv1,y1,r1⟩:=ss_at rs rfl 1 (by decide);obtain⟨bb3,o3,hq3,-,-,dv3,y3,r3⟩:=ss_at rs rfl 3 (by decide);cases hq1;cases hq3;simp only [List.getElem_cons_succ,List.getElem_cons_zero] at y0 r1 r3 r4;obtain⟨e4,g4,rfl,-⟩:=r4.form HL.out.1;obtain⟨e1,g1,rfl,-⟩:=r1.form HL.out.2.1;obtain⟨e3,g3,rfl,-⟩:=r3.form HL.out.2.2))
  | (go_at_call 70;((with_reducible refine (HP.out _ _ r4).mono ?_);rintro e w2 ⟨⟨pa,pc,rfl,-⟩,b2⟩)))
 have q1:=L8.row_up (L8.row_up K1.out b1) b2
 have q2:=L8.row_up (L8.row_up K2.out b1) b2
 have B1:=bch (bch HB.out b1) b2
 obtain⟨x0,x1,x2⟩:=L13.cells3 q2
 have lx:=World.block_lt_of_cell? _ _ x0
 simp only at lx
 go_wp2_with (refine wpList_store_row rfl _ _ _ rfl w.heap.size nil3 rfl rfl 26 _ q1 (by kernel_rfl) rfl (by simp [Value.oneCell']) ?_)
 obtain⟨z0,z1,z2⟩:=L13.cells3 (setRow_heap _ _ _ nil3 _ _ q1)
 exact bodyPost_ret (v:=.tuple #[.agg nil3,.bool false]) (by simp [results,Tryz.results37,go_sem,z0,z1,z2]) rfl ⟨rfl,below_setRow B1 (Nat.le_refl _) _⟩
end
end Go.Proofs.YtihiggnglmhggaaGreatDoor.L16
end
section
namespace Go.Proofs.YtihiggnglmhggaaGreatDoor.L16
open Go.RowKit L14 L15
open L13 (Ob)
attribute [local go_sem] Oper.semAt_some
def RqF (o:Ob) (b:List UInt8) (w:World) (e:Ending) (w':World):Prop:=(chE o=0∧pkB o=b∧RqY o w e w')∨(¬ (chE o=0∧pkB o=b)∧RqN w e w')
theorem rowA_getD (m:Nat) (d:List UInt8) (k i:Nat) (h:i<m):(rowA m d k).getD i 0=ndA d (4*m*k+4*i):=by
 have hl:i<(rowA m d k).length:=by rw [rowA_len];exact h
 rw [← rowA_at m d k i hl]
 simp [List.getD,hl]
theorem wrap_small {z:Int} (h:0≤z∧z<9223372036854775808):IntKind.i64.wrap z=z:=by simp [IntKind.wrap,IntKind.bits,IntKind.signed];omega
theorem nd_get (d:List UInt8) (i:Nat):∃ V:Nat,ndA d i=(V:Int)∧va (sub d i 4)=V∧V<4294967296:=⟨_,rfl,rfl,by have:=ndA_lt d i;unfold ndA at this;omega⟩
section
variable (a:Option Addr) (n c:Nat) (b:List UInt8) (w:World) (hv:Rw eB w (.slice a n c) b) (hb:n≤100000) (s0 s1 s2 s3 s4:Sc) (h:rdOk b) (h5:nS b=5) (hl:rdT b (nS b)=[s0,s1,s2,s3,s4])
include hv hb h h5 hl
theorem rq_yes (ts:List (List UInt8)) (hk:s4.1=5) (hp:L14.prV s4.2=some ts) (hlen:s4.2.length≤100000) (heq:s1.2.length=16*ts.length) (hme:s3.2.length % 8=0) (hl3:s3.2.length≤100000) (o:Ob) (hoe:obT s0.2 s1.2 s3.2 ts=o) (hos:OS o) :
  Calls Tryz.prog 37 #[.slice a n c] w (RqF o b w):=by
 obtain⟨idf,di,dz0,dz1,dz2⟩:=info_parts infoDef
 obtain⟨irl,ri,rz0,rz1,rz2⟩:=info_parts infoRel
 obtain⟨k1,k2,hB⟩:=two_facts w
 have hbl:=hv.at.1
 have HR:=Lib.hid (rread_is a n c 5 b _ _ (hv.below hB) (by omega) h h5 hl)
 have HV:=Lib.hid hv
 have K1:=Lib.hid k1
 have K2:=Lib.hid k2
 have HB:=Lib.hid hB
 obtain⟨kk,d5⟩:=s4
 obtain⟨kk0,d1⟩:=s0
 obtain⟨kk1,d2⟩:=s1
 obtain⟨kk3,d4⟩:=s3
 simp only at hk hp hlen heq hme hl3 hoe
 subst hk
 obtain⟨D5,hD5⟩:∃ D,d5.length=D:=⟨_,rfl⟩
 obtain⟨D1,hD1⟩:∃ D,d1.length=D:=⟨_,rfl⟩
 obtain⟨D2,hD2⟩:∃ D,d2.length=D:=⟨_,rfl⟩
 obtain⟨D4,hD4⟩:∃ D,d4.length=D:=⟨_,rfl⟩
 obtain⟨T,hT⟩:∃ D,ts.length=D:=⟨_,rfl⟩
 have hTb:=(L14.prV_few hp).1
 rw [hD2,hT] at heq
 rw [hD4] at hme hl3
 rw [hT] at hTb
 have hTb2:T≤100000:=by omega
 have heq':((D2:Int) != 16*(T:Int))=false:=by rw [bne_eq_false_iff_eq];omega
 have hme':((D4:Int) % 8 != 0)=false:=by rw [bne_eq_false_iff_eq];omega
 obtain⟨K4,hK4⟩:∃ K,D4 / 8=K:=⟨_,rfl⟩
 have hK4':(D4:Int) / 8=(K4:Int):=by omega
 have hKb:K4≤100000:=by omega
 have hr2:(rdR 4 d2).length=T:=by rw [rdR_len,hD2];omega
 have hr4:(rdR 2 d4).length=K4:=by rw [rdR_len,hD4];omega
 have HP:=Lib.hid (fun (X:World) (v:Value) (hr:Rw eB X v d5)=>rparse_some v d5 ts T X hr (by omega) hp hT)
 have HCk:=Lib.hid (fun (X:World) (vm vc vr:Value) (hX:OA X vm vc vr o)=>rcheck16_at vm vc vr o (chE o) X hX hos rfl)
 have HPk:=Lib.hid (fun (hR:chE o=0) (X:World) (vm vc vr:Value) (hX:OA X vm vc vr o)=>rpack16_at vm vc vr o (pkB o).length X hX hos hR rfl)
 have HPl:=Lib.hid (fun (hR:chE o=0)=>show (pkB o).length≤1000000000 by
  have hg:=gd_of hR
  have h1:=(fw_secs hg).sz
  rw [pkB,wr_len];omega)
 have HL:=Lib.hid (And.intro hD5 (And.intro hD2 (And.intro hD4 (And.intro hT (And.intro hr2 (And.intro hr4 (And.intro hD1 hbl)))))))
 have HE:=Lib.hid (And.intro heq hK4)
 have HO:=Lib.hid hoe
 clear hv h k1 k2 hB h5 hp hD5 hD2 hD4 hD1 hlen hT hTb heq hme hl3 hr2 hr4 hoe hos hK4 hbl
 go_enter Tryz.func37,Tryz.ntmps37
 go_upto_region 10 with (first
  | (go_at_call 69;((with_reducible refine (HR.out).mono ?_);rintro e w1 ⟨⟨ra,rc,rfl,rs⟩,b1⟩;obtain⟨bb,o',rfl,hlb,y0,dv4,y4,r4⟩:=ss_at rs rfl 4 (by decide);obtain⟨bb0,o0,hq0,-,-,dv0,yy0,r0⟩:=ss_at rs rfl 0 (by decide);obtain⟨bb1,o1,hq1,-,-,dv1,y1,r1⟩:=ss_at rs rfl 1 (by decide);obtain⟨bb3,o3,hq3,-,-,dv3,y3,r3⟩:=ss_at rs rfl 3 (by decide);cases hq0;cases hq1;cases hq3;simp only [List.getElem_cons_succ,List.getElem_cons_zero] at y0 r0 r1 r3 r4;obtain⟨e4,g4,rfl,-⟩:=r4.form HL.out.1;obtain⟨e0,g0,rfl,-⟩:=r0.form HL.out.2.2.2.2.2.2.1;obtain⟨e1,g1,rfl,-⟩:=r1.form HL.out.2.1;obtain⟨e3,g3,rfl,-⟩:=r3.form HL.out.2.2.1))
  | (go_at_call 70;((with_reducible refine (HP.out _ _ r4).mono ?_);rintro e w4 ⟨⟨pa,pc,rfl,rn⟩,b2⟩;have yy0':=(b2.cell (p:=⟨bb,o'+0*2+1,none⟩) (by exact hlb)).trans yy0;have hlb2:=Nat.lt_of_lt_of_le hlb b2.size)))
 have HQ1:=Lib.hid (L8.row_up (L8.row_up K1.out b1) b2)
 have HQ2:=Lib.hid (L8.row_up (L8.row_up K2.out b1) b2)
 have HB4:=Lib.hid (bch (bch HB.out b1) b2)
 have HNm:=Lib.hid rn
 have HC:=Lib.hid (r0.below b2)
 have H2:=Lib.hid (r1.below b2)
 have H4:=Lib.hid (r3.below b2)
 clear rs r0 r1 r3 r4 rn y0 y1 y3 y4 yy0 hlb b1 b2 HR HP K1 K2 HB
 go_wp2
 obtain⟨kb,hkb⟩:∃ k,w4.heap.size=k:=⟨_,rfl⟩
 have HKB:=Lib.hid hkb
 have hk5:=heap_alloc_last w4 (.cells #[.slice none 0 0,.slice e0 D1 g0,.slice none 0 0] 26)
 have hb5:=bnew w4 (.cells #[.slice none 0 0,.slice e0 D1 g0,.slice none 0 0] 26)
 rw [hkb] at hk5
 (try rw [hkb])
 generalize w4.alloc (.cells #[.slice none 0 0,.slice e0 D1 g0,.slice none 0 0] 26)=w5 at hk5 hb5 ⊢
 have HI:Hid (w5.heap[kb]?=some (.cells #[.slice none 0 0,.slice e0 D1 g0,.slice none 0 0] 26)∧w5.ownsRow w4.heap.size 88 4 (.slice none 0 0) 0 (((List.zipWith mkD ts (rdR 4 d2)).take 0).flatMap L10.dfL)∧Below w4.heap.size w4 w5):=Lib.hid ⟨hk5,World.ownsRow_nil _ _ _ _,hb5⟩
 clear hk5 hb5 hkb yy0' hlb2
 go_loopw [11] (fun q wr=>∃ (k:Nat) (ma:Option Addr) (mc:Nat),k≤T∧q=.int .i64 (k:Int)∧Hid (wr.heap[kb]?=some (.cells #[.slice ma k mc,.slice e0 D1 g0,.slice none 0 0] 26)∧wr.ownsRow w4.heap.size 88 4 (.slice ma k mc) k (((List.zipWith mkD ts (rdR 4 d2)).take k).flatMap L10.dfL)∧Below w4.heap.size w4 wr)) (fun q _=>T-(RowKit.intOf q).toNat)
 case atStart=>exact⟨0,none,0,Nat.zero_le _,rfl,HI⟩
 case round =>
  clear HI
  obtain⟨k,ma,mc,hk,rfl,hI⟩:=hrel
  by_cases hlt:k<T
  ·have hkt:k<ts.length:=by rw [HL.out.2.2.2.1];exact hlt
   have hkr:k<(rdR 4 d2).length:=by rw [HL.out.2.2.2.2.1];exact hlt
   obtain⟨-,-,-,hnc⟩:=HNm.out.at
   obtain⟨nb,no,rfl,hnb,hnn⟩:=hnc (by omega)
   have hnn0:=hnn k hkt
   unfold eT at hnn0
   have hsn:=zw_snoc ts (rdR 4 d2) k hkt hkr
   rw [rdR_at,rowA_getD 4 d2 k 0 (by decide),rowA_getD 4 d2 k 1 (by decide),rowA_getD 4 d2 k 2 (by decide)] at hsn
   obtain⟨V0,v0,u0,l0'⟩:=nd_get d2 (4*4*k+4*0)
   obtain⟨V1,v1,u1,l1'⟩:=nd_get d2 (4*4*k+4*1)
   obtain⟨V2,v2,u2,l2'⟩:=nd_get d2 (4*4*k+4*2)
   rw [v0,v1,v2] at hsn
   generalize mkB ts[k]=nm at hsn hnn0
   have HSN:=Lib.hid hsn
   have HNM:=Lib.hid (And.intro hnb hnn0)
   have hd2l:d2.length=16*T:=by rw [HL.out.2.1,HE.out.1]
   have G0:=Lib.hid (fun (X:World) (hX:Below w4.heap.size w4 X)=>rget_is (.slice e1 D2 g1) d2 (4*4*k+4*0) 4 V0 (16*(k:Int)) 4 X (H2.out.below hX) (by decide) (by omega) (by omega) u0 (by omega) rfl)
   have G1:=Lib.hid (fun (X:World) (hX:Below w4.heap.size w4 X)=>rget_is (.slice e1 D2 g1) d2 (4*4*k+4*1) 4 V1 (16*(k:Int)+4) 4 X (H2.out.below hX) (by decide) (by omega) (by omega) u1 (by omega) rfl)
   have G2:=Lib.hid (fun (X:World) (hX:Below w4.heap.size w4 X)=>rget_is (.slice e1 D2 g1) d2 (4*4*k+4*2) 4 V2 (16*(k:Int)+8) 4 X (H2.out.below hX) (by decide) (by omega) (by omega) u2 (by omega) rfl)
   have t0:=wrap_small (z:=16*(k:Int)) (by omega)
   have t1:=wrap_small (z:=16*(k:Int)+4) (by omega)
   have t2:=wrap_small (z:=16*(k:Int)+8) (by omega)
   have t3:=wrap_small (z:=(V0:Int)) (by omega)
   have t4:=wrap_small (z:=(V1:Int)) (by omega)
   have t5:=wrap_small (z:=(V2:Int)) (by omega)
   obtain⟨hrow,hown,hB⟩:=hI.out
   obtain⟨x0,x1,x2⟩:=L13.cells3 hrow
   have l0:=World.block_lt_of_cell? _ _ x0
   simp only at l0
   have HRW:=Lib.hid hrow
   have HOW:=Lib.hid hown
   have HBW:=Lib.hid hB
   have hsz:=hB.size
   clear hI hnc hnn hsn hrow hown hB hkt hkr hnb hnn0 v0 v1 v2 u0 u1 u2 hd2l
   go_upto_region 14 with (fail)
   refine wp_region_held_drew (S:=fun X=>Below w4.heap.size w4 X) (by kernel_rfl) HBW.out.drew (fun hH=>?_)
   have hrow1:=L8.row_up HRW.out ((Below.refl wr.heap.size wr).drew)
   have hown1:=own_below HOW.out ((Below.refl wr.heap.size wr).drew)
   clear HRW HOW HBW x0 x1 x2 l0 hsz
   generalize wr.drew=Wd at hrow1 hown1 hH ⊢
   refine zT3 0 77 (.fieldAddr 26 (.tmp 10) 0) (.pointer (some ⟨kb,0,none⟩)) rfl hH ?_
   simp only [zz]
   refine zT0 2 79 (.move (.tmp 9)) (.slice (some ⟨nb,no,none⟩) T pc) rfl hH ?_
   simp only [zz]
   refine zT0 3 80 (.move (.tmp 11)) (.int .i64 (k:Int)) rfl hH ?_
   simp only [zz]
   refine zT3 4 81 (.indexAddr 78 (.tmp 79) (.tmp 80)) (.pointer (some ⟨nb,no+k,none⟩)) rfl hH ?_
   simp only [zz]
   refine zT1 5 82 (.load 9 (.tmp 81)) (.string nm) rfl (fun wS hS=>by have d0:=(hS.cell (p:=⟨nb,no+k,none⟩) HNM.out.1).trans HNM.out.2;go_simp) hH ?_
   simp only [zz]
   refine zT0 6 83 (.move (.tmp 7)) (.slice e1 D2 g1) rfl hH ?_
   simp only [zz]
   refine zT0 7 84 (.move (.tmp 11)) (.int .i64 (k:Int)) rfl hH ?_
   simp only [zz]
   refine zT3 8 85 (.binOp .mul 3 (.const (.int .i64 16)) (.tmp 84) 3) (.int .i64 (16*(k:Int))) rfl hH ?_
   simp only [zz]
   refine take_call (i:=9) (oi:=⟨some 86,.call ⟨.value (.func 71),#[.tmp 83,.tmp 85,.const (.int .i64 4)],#[23,3,3]⟩,_,_,_,none⟩) (v:=.int .u64 (V0:Int)) rfl (by kernel_rfl) (by kernel_rfl) (by kernel_rfl) (fun _ _ _ h=>h) (by rfl) (fun X=>by (first|rfl|go_simp)) (fun X hX=>G0.out X hX) hH ?_
   simp only [zz]
   refine zT3 10 87 (.convert 114 3 (.tmp 86)) (.int .i64 (V0:Int)) rfl hH ?_
   simp only [zz]
   refine zT0 11 88 (.move (.tmp 7)) (.slice e1 D2 g1) rfl hH ?_
   simp only [zz]
   refine zT0 12 89 (.move (.tmp 11)) (.int .i64 (k:Int)) rfl hH ?_
   simp only [zz]
   refine zT3 13 90 (.binOp .mul 3 (.const (.int .i64 16)) (.tmp 89) 3) (.int .i64 (16*(k:Int))) rfl hH ?_
   simp only [zz]
   refine zT3 14 91 (.binOp .add 3 (.tmp 90) (.const (.int .i64 4)) 3) (.int .i64 (16*(k:Int)+4)) rfl hH ?_
   simp only [zz]
   refine take_call (i:=15) (oi:=⟨some 92,.call ⟨.value (.func 71),#[.tmp 88,.tmp 91,.const (.int .i64 4)],#[23,3,3]⟩,_,_,_,none⟩) (v:=.int .u64 (V1:Int)) rfl (by kernel_rfl) (by kernel_rfl) (by kernel_rfl) (fun _ _ _ h=>h) (by rfl) (fun X=>by (first|rfl|go_simp)) (fun X hX=>G1.out X hX) hH ?_
   simp only [zz]
   refine zT3 16 93 (.convert 114 3 (.tmp 92)) (.int .i64 (V1:Int)) rfl hH ?_
   simp only [zz]
   refine zT0 17 94 (.move (.tmp 7)) (.slice e1 D2 g1) rfl hH ?_
   simp only [zz]
   refine zT0 18 95 (.move (.tmp 11)) (.int .i64 (k:Int)) rfl hH ?_
   simp only [zz]
   refine zT3 19 96 (.binOp .mul 3 (.const (.int .i64 16)) (.tmp 95) 3) (.int .i64 (16*(k:Int))) rfl hH ?_
   simp only [zz]
   refine zT3 20 97 (.binOp .add 3 (.tmp 96) (.const (.int .i64 8)) 3) (.int .i64 (16*(k:Int)+8)) rfl hH ?_
   simp only [zz]
   refine take_call (i:=21) (oi:=⟨some 98,.call ⟨.value (.func 71),#[.tmp 94,.tmp 97,.const (.int .i64 4)],#[23,3,3]⟩,_,_,_,none⟩) (v:=.int .u64 (V2:Int)) rfl (by kernel_rfl) (by kernel_rfl) (by kernel_rfl) (fun _ _ _ h=>h) (by rfl) (fun X=>by (first|rfl|go_simp)) (fun X hX=>G2.out X hX) hH ?_
   simp only [zz]
   refine zT3 22 99 (.convert 114 3 (.tmp 98)) (.int .i64 (V2:Int)) rfl hH ?_
   simp only [zz]
   refine zT3 23 100 (.build 88 #[(0,.tmp 82),(1,.tmp 87),(2,.tmp 93),(3,.tmp 99)]) (.agg #[.string nm,.int .i64 (V0:Int),.int .i64 (V1:Int),.int .i64 (V2:Int)]) rfl hH ?_
   simp only [zz]
   refine wpAnyH_ready (rs:=[1,24]) (by kernel_rfl) (by simp) ?_
   refine AllReadyH.cons (o:=⟨some 78,.load 22 (.tmp 77),_,_,_,none⟩) rfl (fun K hK=>?_) (AllReadyH.cons (o:=⟨some 101,.buildSlice 22 1 #[(0,.tmp 100)],_,_,_,none⟩) rfl (fun K hK=>?_) AllReadyH.nil)
   focus
    obtain⟨x0,x1,x2⟩:=L13.cells3 hrow1
    go_simp
    refine hK.out _ _ hH (fun _=>?_)
    clear hK K x0 x1 x2
    (try simp only [zz])
    refine wpAnyH_ready (rs:=[24]) (by kernel_rfl) (by simp) ?_
    refine AllReadyH.cons (o:=⟨some 101,.buildSlice 22 1 #[(0,.tmp 100)],_,_,_,none⟩) rfl (fun K hK=>?_) AllReadyH.nil
    go_simp
    have hrow2:=L8.row_up hrow1 (bnew Wd (.cells #[.string nm,.int .i64 (V0:Int),.int .i64 (V1:Int),.int .i64 (V2:Int)] 88))
    have hown2:=own_below hown1 (bnew Wd (.cells #[.string nm,.int .i64 (V0:Int),.int .i64 (V1:Int),.int .i64 (V2:Int)] 88))
    have hn2:=heap_alloc_last Wd (.cells #[.string nm,.int .i64 (V0:Int),.int .i64 (V1:Int),.int .i64 (V2:Int)] 88)
    refine hK.out _ _ (hH.alloc hH.size _) (fun hH2=>?_)
    clear hK K
    (try simp only [zz])
    obtain⟨gn,hgn⟩:∃ gn,Wd.heap.size=gn:=⟨_,rfl⟩
    rw [hgn] at hn2 ⊢
    generalize Wd.alloc (.cells #[.string nm,.int .i64 (V0:Int),.int .i64 (V1:Int),.int .i64 (V2:Int)] 88)=W2 at hrow2 hown2 hn2 hH2 ⊢
    clear hgn hrow1 hown1 hH
   rotate_left
   focus
    go_simp
    have hrow2:=L8.row_up hrow1 (bnew Wd (.cells #[.string nm,.int .i64 (V0:Int),.int .i64 (V1:Int),.int .i64 (V2:Int)] 88))
    have hown2:=own_below hown1 (bnew Wd (.cells #[.string nm,.int .i64 (V0:Int),.int .i64 (V1:Int),.int .i64 (V2:Int)] 88))
    have hn2:=heap_alloc_last Wd (.cells #[.string nm,.int .i64 (V0:Int),.int .i64 (V1:Int),.int .i64 (V2:Int)] 88)
    refine hK.out _ _ (hH.alloc hH.size _) (fun hH2=>?_)
    clear hK K
    (try simp only [zz])
    obtain⟨x0,x1,x2⟩:=L13.cells3 hrow2
    refine wpAnyH_ready (rs:=[1]) (by kernel_rfl) (by simp) ?_
    refine AllReadyH.cons (o:=⟨some 78,.load 22 (.tmp 77),_,_,_,none⟩) rfl (fun K hK=>?_) AllReadyH.nil
    go_simp
    refine hK.out _ _ hH2 (fun _=>?_)
    clear hK K x0 x1 x2
    (try simp only [zz])
    obtain⟨gn,hgn⟩:∃ gn,Wd.heap.size=gn:=⟨_,rfl⟩
    rw [hgn] at hn2 ⊢
    generalize Wd.alloc (.cells #[.string nm,.int .i64 (V0:Int),.int .i64 (V1:Int),.int .i64 (V2:Int)] 88)=W2 at hrow2 hown2 hn2 hH2 ⊢
    clear hgn hrow1 hown1 hH
   all_goals
    refine wpAnyH_ready (rs:=[25]) (by kernel_rfl) (by simp) ?_
    refine AllReadyH.cons (o:=⟨some 102,.call ⟨.builtin .append,#[.tmp 78,.tmp 101],#[22,22]⟩,_,_,_,none⟩) rfl (fun K hK=>?_) AllReadyH.nil
    refine step_append_lies _ (by rfl) _ _ _ (by rfl) w4.heap.size 88 idf (.agg #[.string ⟨#[]⟩,.int .i64 0,.int .i64 0,.int .i64 0]) 4 40 Tryz.underlying22 di dz0 dz1 dz2 rfl (by decide) _ k _ (by rfl) hown2 ⟨gn,0,none⟩ 1 1 [.string nm,.int .i64 (V0:Int),.int .i64 (V1:Int),.int .i64 (V2:Int)] (by rfl) (by rfl) (World.news_of_block (cs:=#[.string nm,.int .i64 (V0:Int),.int .i64 (V1:Int),.int .i64 (V2:Int)]) (t:=88) (fr:=(0,0)) hn2) (by simp [Value.oneCell']) (by omega) (by unfold maxLen;omega) (by omega) hH2.size _ rfl ?_
    intro g cap w8 hown3 hgrow3 _ _
    have hrow3:=row_far hrow2 hown2 hgrow3 (by decide)
    have hB3:=hH2.grown hgrow3 hH2.size (own_base hown2)
    refine hK.out _ _ hB3 (fun hH3=>?_)
    clear hK K hrow2 hown2 hn2 hH2 hgrow3
    (try simp only [zz])
    refine zT3 26 103 (.fieldAddr 26 (.tmp 10) 0) (.pointer (some ⟨kb,0,none⟩)) rfl hH3 ?_
    simp only [zz]
    obtain⟨x0,x1,x2⟩:=L13.cells3 hrow3
    have fz:=frz hrow3 0
    refine wpAnyH_ready (rs:=[27]) (by kernel_rfl) (by simp) ?_
    refine AllReadyH.cons (o:=⟨none,.store 22 (.tmp 103) (.tmp 102),_,_,_,none⟩) rfl (fun K hK=>?_) AllReadyH.nil
    go_simp
    refine hK.out _ _ (hH3.setCell (by rw [HKB.out];exact Nat.le_refl _) _) (fun hH4=>?_)
    clear hK K x0 x1 x2 fz
    (try simp only [zz])
    refine wpAnyH_done (by kernel_rfl) ?_ _
    go_wp2
    go_roundw
    case rel=>exact⟨k+1,_,_,hlt,by go_num,Lib.hid ⟨cells_set hrow3,by rw [HSN.out];exact own_cell hown3 hrow3 (by decide),hH4⟩⟩
    case measure=>simp [RowKit.intOf];omega
  ·obtain rfl:k=T:=by omega
   have hto:(List.zipWith mkD ts (rdR 4 d2)).take k=List.zipWith mkD ts (rdR 4 d2):=List.take_of_length_le (by rw [List.length_zipWith,HL.out.2.2.2.1];omega)
   obtain⟨hrow,hown,hB⟩:=hI.out
   rw [hto] at hown
   have HI:Hid (wr.heap[kb]?=some (.cells #[.slice ma k mc,.slice e0 D1 g0,.slice none 0 0] 26)∧wr.ownsRow w4.heap.size 101 2 (.slice none 0 0) 0 ((((rdR 2 d4).map mkR).take 0).flatMap L13.roL)∧Below w4.heap.size w4 wr∧wr.ownsRow w4.heap.size 88 4 (.slice ma k mc) k ((List.zipWith mkD ts (rdR 4 d2)).flatMap L10.dfL)) :=
    Lib.hid ⟨hrow,World.ownsRow_nil _ _ _ _,hB,hown⟩
   clear hI hto hrow hown hB
   go_wp2
   go_loopw [12] (fun q wr=>∃ (m:Nat) (fa:Option Addr) (fc:Nat),m≤K4∧q=.int .i64 (m:Int)∧Hid (wr.heap[kb]?=some (.cells #[.slice ma k mc,.slice e0 D1 g0,.slice fa m fc] 26)∧wr.ownsRow w4.heap.size 101 2 (.slice fa m fc) m ((((rdR 2 d4).map mkR).take m).flatMap L13.roL)∧Below w4.heap.size w4 wr∧wr.ownsRow w4.heap.size 88 4 (.slice ma k mc) k ((List.zipWith mkD ts (rdR 4 d2)).flatMap L10.dfL))) (fun q _=>K4-(RowKit.intOf q).toNat)
   case atStart=>exact⟨0,none,0,Nat.zero_le _,rfl,HI⟩
   case round =>
    clear HI
    obtain⟨m,fa,fc,hm,rfl,hI⟩:=hrel
    by_cases hlt2:m<K4
    ·have hkr:m<(rdR 2 d4).length:=by rw [HL.out.2.2.2.2.2.1];exact hlt2
     have hsn:=rl_snoc (rdR 2 d4) m hkr
     rw [rdR_at,rowA_getD 2 d4 m 0 (by decide),rowA_getD 2 d4 m 1 (by decide)] at hsn
     obtain⟨V0,v0,u0,l0'⟩:=nd_get d4 (4*2*m+4*0)
     obtain⟨V1,v1,u1,l1'⟩:=nd_get d4 (4*2*m+4*1)
     rw [v0,v1] at hsn
     have HSN:=Lib.hid hsn
     have hd4l:8*m+8≤d4.length:=by rw [HL.out.2.2.1];have:=HE.out.2;omega
     have hd4m:d4.length≤1000000000:=by rw [HL.out.2.2.1];have:=HE.out.2;omega
     have G0:=Lib.hid (fun (X:World) (hX:Below w4.heap.size w4 X)=>rget_is (.slice e3 D4 g3) d4 (4*2*m+4*0) 4 V0 (8*(m:Int)) 4 X (H4.out.below hX) (by decide) (by omega) hd4m u0 (by omega) rfl)
     have G1:=Lib.hid (fun (X:World) (hX:Below w4.heap.size w4 X)=>rget_is (.slice e3 D4 g3) d4 (4*2*m+4*1) 4 V1 (8*(m:Int)+4) 4 X (H4.out.below hX) (by decide) (by omega) hd4m u1 (by omega) rfl)
     have t0:=wrap_small (z:=8*(m:Int)) (by omega)
     have t1:=wrap_small (z:=8*(m:Int)+4) (by omega)
     have t3:=wrap_small (z:=(V0:Int)) (by omega)
     have t4:=wrap_small (z:=(V1:Int)) (by omega)
     obtain⟨hrow,hown,hB,hdf⟩:=hI.out
     obtain⟨x0,x1,x2⟩:=L13.cells3 hrow
     have l0:=World.block_lt_of_cell? _ _ x0
     simp only at l0
     have HRW:=Lib.hid hrow
     have HOW:=Lib.hid hown
     have HBW:=Lib.hid hB
     have HKP:=Lib.hid hdf
     have hsz:=hB.size
     clear hI hrow hown hB hdf hsn hkr v0 v1 u0 u1 hd4l hd4m
     go_upto_region 18 with (fail)
     refine wp_region_held_drew (S:=fun X=>Below w4.heap.size w4 X) (by kernel_rfl) HBW.out.drew (fun hH=>?_)
     have hrow1:=L8.row_up HRW.out ((Below.refl wr.heap.size wr).drew)
     have hown1:=own_below HOW.out ((Below.refl wr.heap.size wr).drew)
     have hoth1:=own_below HKP.out ((Below.refl wr.heap.size wr).drew)
     clear HRW HOW HBW x0 x1 x2 l0 hsz HKP
     generalize wr.drew=Wd at hrow1 hown1 hH hoth1 ⊢
     refine zT3 0 111 (.fieldAddr 26 (.tmp 10) 2) (.pointer (some ⟨kb,2,none⟩)) rfl hH ?_
     simp only [zz]
     refine zT0 2 113 (.move (.tmp 8)) (.slice e3 D4 g3) rfl hH ?_
     simp only [zz]
     refine zT0 3 114 (.move (.tmp 12)) (.int .i64 (m:Int)) rfl hH ?_
     simp only [zz]
     refine zT3 4 115 (.binOp .mul 3 (.const (.int .i64 8)) (.tmp 114) 3) (.int .i64 (8*(m:Int))) rfl hH ?_
     simp only [zz]
     refine take_call (i:=5) (oi:=⟨some 116,.call ⟨.value (.func 71),#[.tmp 113,.tmp 115,.const (.int .i64 4)],#[23,3,3]⟩,_,_,_,none⟩) (v:=.int .u64 (V0:Int)) rfl (by kernel_rfl) (by kernel_rfl) (by kernel_rfl) (fun _ _ _ h=>h) (by rfl) (fun X=>by (first|rfl|go_simp)) (fun X hX=>G0.out X hX) hH ?_
     simp only [zz]
     refine zT3 6 117 (.convert 114 3 (.tmp 116)) (.int .i64 (V0:Int)) rfl hH ?_
     simp only [zz]
     refine zT0 7 118 (.move (.tmp 8)) (.slice e3 D4 g3) rfl hH ?_
     simp only [zz]
     refine zT0 8 119 (.move (.tmp 12)) (.int .i64 (m:Int)) rfl hH ?_
     simp only [zz]
     refine zT3 9 120 (.binOp .mul 3 (.const (.int .i64 8)) (.tmp 119) 3) (.int .i64 (8*(m:Int))) rfl hH ?_
     simp only [zz]
     refine zT3 10 121 (.binOp .add 3 (.tmp 120) (.const (.int .i64 4)) 3) (.int .i64 (8*(m:Int)+4)) rfl hH ?_
     simp only [zz]
     refine take_call (i:=11) (oi:=⟨some 122,.call ⟨.value (.func 71),#[.tmp 118,.tmp 121,.const (.int .i64 4)],#[23,3,3]⟩,_,_,_,none⟩) (v:=.int .u64 (V1:Int)) rfl (by kernel_rfl) (by kernel_rfl) (by kernel_rfl) (fun _ _ _ h=>h) (by rfl) (fun X=>by (first|rfl|go_simp)) (fun X hX=>G1.out X hX) hH ?_
     simp only [zz]
     refine zT3 12 123 (.convert 114 3 (.tmp 122)) (.int .i64 (V1:Int)) rfl hH ?_
     simp only [zz]
     refine zT3 13 124 (.build 101 #[(0,.tmp 117),(1,.tmp 123)]) (.agg #[.int .i64 (V0:Int),.int .i64 (V1:Int)]) rfl hH ?_
     simp only [zz]
     refine wpAnyH_ready (rs:=[1,14]) (by kernel_rfl) (by simp) ?_
     refine AllReadyH.cons (o:=⟨some 112,.load 24 (.tmp 111),_,_,_,none⟩) rfl (fun K hK=>?_) (AllReadyH.cons (o:=⟨some 125,.buildSlice 24 1 #[(0,.tmp 124)],_,_,_,none⟩) rfl (fun K hK=>?_) AllReadyH.nil)
     focus
      obtain⟨x0,x1,x2⟩:=L13.cells3 hrow1
      go_simp
      refine hK.out _ _ hH (fun _=>?_)
      clear hK K x0 x1 x2
      (try simp only [zz])
      refine wpAnyH_ready (rs:=[14]) (by kernel_rfl) (by simp) ?_
      refine AllReadyH.cons (o:=⟨some 125,.buildSlice 24 1 #[(0,.tmp 124)],_,_,_,none⟩) rfl (fun K hK=>?_) AllReadyH.nil
      go_simp
      have hrow2:=L8.row_up hrow1 (bnew Wd (.cells #[.int .i64 (V0:Int),.int .i64 (V1:Int)] 101))
      have hown2:=own_below hown1 (bnew Wd (.cells #[.int .i64 (V0:Int),.int .i64 (V1:Int)] 101))
      have hoth2:=own_below hoth1 (bnew Wd (.cells #[.int .i64 (V0:Int),.int .i64 (V1:Int)] 101))
      have hn2:=heap_alloc_last Wd (.cells #[.int .i64 (V0:Int),.int .i64 (V1:Int)] 101)
      refine hK.out _ _ (hH.alloc hH.size _) (fun hH2=>?_)
      clear hK K
      (try simp only [zz])
      obtain⟨gn,hgn⟩:∃ gn,Wd.heap.size=gn:=⟨_,rfl⟩
      rw [hgn] at hn2 ⊢
      generalize Wd.alloc (.cells #[.int .i64 (V0:Int),.int .i64 (V1:Int)] 101)=W2 at hrow2 hown2 hn2 hH2 hoth2 ⊢
      clear hgn hrow1 hown1 hH hoth1
     rotate_left
     focus
      go_simp
      have hrow2:=L8.row_up hrow1 (bnew Wd (.cells #[.int .i64 (V0:Int),.int .i64 (V1:Int)] 101))
      have hown2:=own_below hown1 (bnew Wd (.cells #[.int .i64 (V0:Int),.int .i64 (V1:Int)] 101))
      have hoth2:=own_below hoth1 (bnew Wd (.cells #[.int .i64 (V0:Int),.int .i64 (V1:Int)] 101))
      have hn2:=heap_alloc_last Wd (.cells #[.int .i64 (V0:Int),.int .i64 (V1:Int)] 101)
      refine hK.out _ _ (hH.alloc hH.size _) (fun hH2=>?_)
      clear hK K
      (try simp only [zz])
      obtain⟨x0,x1,x2⟩:=L13.cells3 hrow2
      refine wpAnyH_ready (rs:=[1]) (by kernel_rfl) (by simp) ?_
      refine AllReadyH.cons (o:=⟨some 112,.load 24 (.tmp 111),_,_,_,none⟩) rfl (fun K hK=>?_) AllReadyH.nil
      go_simp
      refine hK.out _ _ hH2 (fun _=>?_)
      clear hK K x0 x1 x2
      (try simp only [zz])
      obtain⟨gn,hgn⟩:∃ gn,Wd.heap.size=gn:=⟨_,rfl⟩
      rw [hgn] at hn2 ⊢
      generalize Wd.alloc (.cells #[.int .i64 (V0:Int),.int .i64 (V1:Int)] 101)=W2 at hrow2 hown2 hn2 hH2 hoth2 ⊢
      clear hgn hrow1 hown1 hH hoth1
     all_goals
      refine wpAnyH_ready (rs:=[15]) (by kernel_rfl) (by simp) ?_
      refine AllReadyH.cons (o:=⟨some 126,.call ⟨.builtin .append,#[.tmp 112,.tmp 125],#[24,24]⟩,_,_,_,none⟩) rfl (fun K hK=>?_) AllReadyH.nil
      refine step_append_lies _ (by rfl) _ _ _ (by rfl) w4.heap.size 101 irl (.agg #[.int .i64 0,.int .i64 0]) 2 16 Tryz.underlying24 ri rz0 rz1 rz2 rfl (by decide) _ m _ (by rfl) hown2 ⟨gn,0,none⟩ 1 1 [.int .i64 (V0:Int),.int .i64 (V1:Int)] (by rfl) (by rfl) (World.news_of_block (cs:=#[.int .i64 (V0:Int),.int .i64 (V1:Int)]) (t:=101) (fr:=(0,0)) hn2) (by simp [Value.oneCell']) (by omega) (by unfold maxLen;omega) (by omega) hH2.size _ rfl ?_
      intro g cap w8 hown3 hgrow3 _ _
      have hrow3:=row_far hrow2 hown2 hgrow3 (by decide)
      have hoth3:=own_apart hoth2 hown2 hgrow3 (by decide)
      have hB3:=hH2.grown hgrow3 hH2.size (own_base hown2)
      refine hK.out _ _ hB3 (fun hH3=>?_)
      clear hK K hrow2 hown2 hn2 hH2 hgrow3 hoth2
      (try simp only [zz])
      refine zT3 16 127 (.fieldAddr 26 (.tmp 10) 2) (.pointer (some ⟨kb,2,none⟩)) rfl hH3 ?_
      simp only [zz]
      obtain⟨x0,x1,x2⟩:=L13.cells3 hrow3
      have fz:=frz hrow3 2
      refine wpAnyH_ready (rs:=[17]) (by kernel_rfl) (by simp) ?_
      refine AllReadyH.cons (o:=⟨none,.store 24 (.tmp 127) (.tmp 126),_,_,_,none⟩) rfl (fun K hK=>?_) AllReadyH.nil
      go_simp
      refine hK.out _ _ (hH3.setCell (by rw [HKB.out];exact Nat.le_refl _) _) (fun hH4=>?_)
      clear hK K x0 x1 x2 fz
      (try simp only [zz])
      refine wpAnyH_done (by kernel_rfl) ?_ _
      go_wp2
      go_roundw
      case rel=>exact⟨m+1,_,_,hlt2,by go_num,Lib.hid ⟨cells_set hrow3,by rw [HSN.out];exact own_cell hown3 hrow3 (by decide),hH4,own_cell hoth3 hrow3 (by decide)⟩⟩
      case measure=>simp [RowKit.intOf];omega
    ·obtain rfl:m=K4:=by omega
     have hto:((rdR 2 d4).map mkR).take m=(rdR 2 d4).map mkR:=List.take_of_length_le (by rw [List.length_map,HL.out.2.2.2.2.2.1];exact Nat.le_refl _)
     obtain⟨hrow,hown,hB,hdf⟩:=hI.out
     rw [hto] at hown
     have hoa:OA wr (.slice ma k mc) (.slice e0 D1 g0) (.slice fa m fc) o:=by
      rw [← HO.out]
      exact⟨L13.own_df (by show (List.zipWith mkD ts (rdR 4 d2)).length=k;rw [List.length_zipWith,HL.out.2.2.2.1,HL.out.2.2.2.2.1];exact Nat.min_self _) hdf,HC.out.below hB,own_ro (by show ((rdR 2 d4).map mkR).length=m;rw [List.length_map];exact HL.out.2.2.2.2.2.1) hown⟩
     have q1:=L8.row_up HQ1.out hB
     have q2:=L8.row_up HQ2.out hB
     have HBB:=Lib.hid (bch HB4.out hB)
     have HOA:=Lib.hid hoa
     have HRW:=Lib.hid hrow
     have hvb:=HV.out.below HBB.out
     obtain⟨x0,x1,x2⟩:=L13.cells3 hrow
     obtain⟨y0,y1,y2⟩:=L13.cells3 q2
     have l0:=World.block_lt_of_cell? _ _ x0
     have l1:=World.block_lt_of_cell? _ _ y0
     simp only at l0 l1
     have HVB:=Lib.hid hvb
     have HQ1w:=Lib.hid q1
     have HQ2w:=Lib.hid q2
     clear hI hto hown hB hdf hrow hoa hvb q1 q2 HC H2 H4
     by_cases hR:chE o=0
     case neg =>
      have hR':(chE o != 0)=true:=by simpa using hR
      have HNG:=Lib.hid (fun (h:chE o=0∧pkB o=b)=>hR h.1)
      generalize chE o=R at HCk hR'
      go_upto_region 20 with (go_at_call 28;((with_reducible refine (HCk.out _ _ _ _ HOA.out).mono ?_);rintro e w6 ⟨rfl,b6⟩))
      have q1:=L8.row_up HQ1w.out b6
      obtain⟨y0,y1,y2⟩:=L13.cells3 (L8.row_up HQ2w.out b6)
      have l1:=World.block_lt_of_cell? _ _ y0
      simp only at l1
      go_wp2_with (refine wpList_store_row rfl _ _ _ rfl w.heap.size nil3 rfl rfl 26 _ q1 (by kernel_rfl) rfl (by simp [Value.oneCell']) ?_)
      obtain⟨z0,z1,z2⟩:=L13.cells3 (setRow_heap _ _ _ nil3 _ _ q1)
      exact bodyPost_ret (v:=.tuple #[.agg nil3,.bool false]) (by simp [results,Tryz.results37,go_sem,z0,z1,z2]) rfl (.inr ⟨HNG.out,rfl,below_setRow (bch HBB.out b6) (Nat.le_refl _) _⟩)
     have HP1:=Lib.hid (HPk.out hR)
     rw [hR] at HCk
     have hpl:=HPl.out hR
     by_cases he:pkB o=b
     case neg =>
      have HNG:=Lib.hid (fun (h:chE o=0∧pkB o=b)=>he h.2)
      have HS:=Lib.hid (fun (X:World) (v:Value) (hv1:Rw eB X v (pkB o)) (hv2:Rw eB X (.slice a n c) b)=>rsameB_at v (.slice a n c) (pkB o) b false X hpl (by rw [HL.out.2.2.2.2.2.2.2];omega) hv1 hv2 (by simpa using he))
      generalize (pkB o).length=N at HP1
      go_upto_region 20 with (first
       | (go_at_call 28;((with_reducible refine (HCk.out _ _ _ _ HOA.out).mono ?_);rintro e w6 ⟨rfl,b6⟩;obtain⟨u0,u1,u2⟩:=L13.cells3 (L8.row_up HRW.out b6);have l3:=World.block_lt_of_cell? _ _ u0;simp only at l3))
       | (go_at_call 73;((with_reducible refine (HP1.out _ _ _ _ (HOA.out.below b6)).mono ?_);rintro e w7 ⟨⟨ea,ec,rfl,er⟩,b7⟩))
       | (go_at_call 72;((with_reducible refine (HS.out _ _ er ((HVB.out.below b6).below b7)).mono ?_);rintro e w8 ⟨rfl,q8,hw8⟩;have b8:Below w7.heap.size w7 w8:=(by rw [hw8];exact bdN (Below.refl _ _) q8);clear hw8)))
      have q1:=L8.row_up (L8.row_up (L8.row_up HQ1w.out b6) b7) b8
      obtain⟨y0,y1,y2⟩:=L13.cells3 (L8.row_up (L8.row_up (L8.row_up HQ2w.out b6) b7) b8)
      have l1:=World.block_lt_of_cell? _ _ y0
      simp only at l1
      go_wp2_with (refine wpList_store_row rfl _ _ _ rfl w.heap.size nil3 rfl rfl 26 _ q1 (by kernel_rfl) rfl (by simp [Value.oneCell']) ?_)
      obtain⟨z0,z1,z2⟩:=L13.cells3 (setRow_heap _ _ _ nil3 _ _ q1)
      exact bodyPost_ret (v:=.tuple #[.agg nil3,.bool false]) (by simp [results,Tryz.results37,go_sem,z0,z1,z2]) rfl (.inr ⟨HNG.out,rfl,below_setRow (bch (bch (bch HBB.out b6) b7) b8) (Nat.le_refl _) _⟩)
     have HYE:=Lib.hid (And.intro hR he)
     have HS:=Lib.hid (fun (X:World) (v:Value) (hv1:Rw eB X v (pkB o)) (hv2:Rw eB X (.slice a n c) b)=>rsameB_at v (.slice a n c) (pkB o) b true X hpl (by rw [HL.out.2.2.2.2.2.2.2];omega) hv1 hv2 (by simpa using he))
     generalize (pkB o).length=N at HP1
     go_upto_region 21 with (first
      | (go_at_call 28;((with_reducible refine (HCk.out _ _ _ _ HOA.out).mono ?_);rintro e w6 ⟨rfl,b6⟩;obtain⟨u0,u1,u2⟩:=L13.cells3 (L8.row_up HRW.out b6);have l3:=World.block_lt_of_cell? _ _ u0;simp only at l3))
      | (go_at_call 73;((with_reducible refine (HP1.out _ _ _ _ (HOA.out.below b6)).mono ?_);rintro e w7 ⟨⟨ea,ec,rfl,er⟩,b7⟩))
      | (go_at_call 72;((with_reducible refine (HS.out _ _ er ((HVB.out.below b6).below b7)).mono ?_);rintro e w8 ⟨rfl,q8,hw8⟩;have b8:Below w7.heap.size w7 w8:=(by rw [hw8];exact bdN (Below.refl _ _) q8);clear hw8)))
     have q1:=L8.row_up (L8.row_up (L8.row_up HQ1w.out b6) b7) b8
     obtain⟨y0,y1,y2⟩:=L13.cells3 (L8.row_up (L8.row_up (L8.row_up HRW.out b6) b7) b8)
     have l1:=World.block_lt_of_cell? _ _ y0
     simp only at l1
     have hoa8:=((HOA.out.below b6).below b7).below b8
     go_wp2_with (refine wpList_store_row rfl _ _ _ rfl w.heap.size #[.slice ma k mc,.slice e0 D1 g0,.slice fa m fc] rfl rfl 26 _ q1 (by kernel_rfl) rfl (by simp [Value.oneCell']) ?_)
     obtain⟨z0,z1,z2⟩:=L13.cells3 (setRow_heap _ _ _ #[.slice ma k mc,.slice e0 D1 g0,.slice fa m fc] _ _ q1)
     exact bodyPost_ret (v:=.tuple #[.agg #[.slice ma k mc,.slice e0 D1 g0,.slice fa m fc],.bool true]) (by simp [results,Tryz.results37,go_sem,z0,z1,z2]) rfl (.inl ⟨HYE.out.1,HYE.out.2,⟨_,_,_,rfl,oa_setRow hoa8 q1⟩,below_setRow (bch (bch (bch HBB.out b6) b7) b8) (Nat.le_refl _) _⟩)
end
end Go.Proofs.YtihiggnglmhggaaGreatDoor.L16
end
section
namespace Go.Proofs.YtihiggnglmhggaaGreatDoor.L16
open Go.RowKit L14 L15
open L13 (Ob)
theorem list5 {α:Type}:∀ l:List α,l.length=5→∃ a b c d e,l=[a,b,c,d,e]
 | [a,b,c,d,e],_=>⟨a,b,c,d,e,rfl⟩
theorem os_obT {c d2 d4:List UInt8} {ts:List (List UInt8)} {p:List UInt8} (hc:c.length≤100000) (h4:d4.length≤100000) (hp:p.length≤100000) (h:L14.prV p=some ts):OS (obT c d2 d4 ts):=by
 have hf:=L14.prV_few h
 refine⟨?_,hc,?_,?_⟩
 ·show (List.zipWith mkD ts _).length≤_
  rw [List.length_zipWith];omega
 ·show ((rdR 2 d4).map mkR).length≤_
  rw [List.length_map,rdR_len];omega
 ·intro d hd
  obtain⟨t,ht,hn⟩:=zip_nm ts _ d hd
  rw [hn,mkB_size]
  have:=tot_mem ts t ht
  unfold maxLen;omega
theorem rd_short {b:List UInt8} {s:Sc} (h:s∈rdT b (nS b)):s.2.length≤b.length:=by
 obtain⟨i,hi,rfl⟩:=List.mem_iff_getElem.1 h
 rw [rdT_at]
 exact sub_le _ _ _
theorem rparse16_at (a:Option Addr) (n c:Nat) (b:List UInt8) (w:World) (hv:Rw eB w (.slice a n c) b) (hb:n≤100000) :
  ((∀ q,¬ Is16 b q)∧Calls Tryz.prog 37 #[.slice a n c] w (RqN w))∨∃ o,Is16 b o∧OS o∧Calls Tryz.prog 37 #[.slice a n c] w (RqY o w):=by
 by_cases h:rdOk b
 ·by_cases h5:nS b=5
  ·obtain⟨s0,s1,s2,s3,s4,hl⟩:=list5 (rdT b (nS b)) (by rw [rdT_len];exact h5)
   have hbl:=hv.at.1
   have l0:s0.2.length≤100000:=by have:=rd_short (b:=b) (s:=s0) (by rw [hl];simp);omega
   have l3:s3.2.length≤100000:=by have:=rd_short (b:=b) (s:=s3) (by rw [hl];simp);omega
   have l4:s4.2.length≤100000:=by have:=rd_short (b:=b) (s:=s4) (by rw [hl];simp);omega
   have key:∀ q,Is16 b q→s4.1=5∧L14.prV s4.2=some (nmL q.maps)∧s1.2.length=16*(nmL q.maps).length∧s3.2.length % 8=0∧obT s0.2 s1.2 s3.2 (nmL q.maps)=q:=by
    intro q hq
    have e:=(five_of hq).1
    have hg:=gd_of hq.1
    rw [hl] at e
    simp only [secs,List.cons.injEq,and_true] at e
    obtain⟨rfl,rfl,rfl,rfl,rfl⟩:=e
    refine⟨rfl,prV_secs hg,?_,?_,obT_secs hg⟩
    ·show (rwB (r2 q.maps)).length=_
     rw [r2_len,nmL_len]
    ·show (rwB (r4 q.rels)).length % 8=0
     rw [r4_len];omega
   by_cases hk:s4.1=5
   ·cases hp:L14.prV s4.2 with
    | none=>exact .inl ⟨fun q hq=>(by have k:=(key q hq).2.1;rw [hp] at k;cases k),rq_tab a n c b w hv hb s0 s1 s2 s3 s4 h h5 hl hk hp l4⟩
    | some ts =>
     have kts:∀ q,Is16 b q→nmL q.maps=ts:=fun q hq=>by
      have k:=(key q hq).2.1
      rw [hp] at k
      exact (Option.some.inj k).symm
     by_cases heq:s1.2.length=16*ts.length
     ·by_cases hme:s3.2.length % 8=0
      ·have hos:=os_obT (d2:=s1.2) l0 l3 l4 hp
       have hF:=rq_yes a n c b w hv hb s0 s1 s2 s3 s4 h h5 hl ts hk hp l4 heq hme l3 _ rfl hos
       by_cases hi:Is16 b (obT s0.2 s1.2 s3.2 ts)
       ·refine .inr ⟨_,hi,hos,hF.mono fun e w' hh=>?_⟩
        rcases hh with ⟨_,_,k⟩|⟨k,_⟩
        ·exact k
        ·exact absurd hi k
       ·refine .inl ⟨fun q hq=>hi ?_,hF.mono fun e w' hh=>?_⟩
        ·have k:=(key q hq).2.2.2.2
         rw [kts q hq] at k
         rw [k];exact hq
        ·rcases hh with ⟨k1,k2,_⟩|⟨_,k⟩
         ·exact absurd ⟨k1,k2⟩ hi
         ·exact k
      ·exact .inl ⟨fun q hq=>hme (key q hq).2.2.2.1,rq_rels a n c b w hv hb s0 s1 s2 s3 s4 h h5 hl ts hk hp l4 heq hme⟩
     ·exact .inl ⟨fun q hq=>heq (by rw [← kts q hq];exact (key q hq).2.2.1),rq_maps a n c b w hv hb s0 s1 s2 s3 s4 h h5 hl ts hk hp l4 heq⟩
   ·exact .inl ⟨fun q hq=>hk (key q hq).1,rq_kind a n c b w hv hb s0 s1 s2 s3 s4 h h5 hl hk⟩
  ·exact .inl ⟨fun q hq=>h5 (five_of hq).2,rq_len a n c b w hv hb h h5⟩
 ·exact .inl ⟨fun q hq=>h (is16_rd hq).1,rq_not a n c b w hv hb h⟩
end Go.Proofs.YtihiggnglmhggaaGreatDoor.L16
end
section
namespace Go.Proofs.YtihiggnglmhggaaGreatDoor.L17
open Go.RowKit L3 L4 L12 L14
open L13 (Ob)
open L16 (chE OA OS Tb tb_below Is16)
attribute [local go_sem] Oper.semAt_some
theorem rbytes_at (v:Value) (l:List UInt8) (S E:Int) (w:World) (hv:Rw eB w v l) (hm:l.length≤100000) (hR:BtV l S E) :
  Calls Tryz.prog 14 #[v] w fun e w'=>e=.returned (.tuple #[.int .i64 S,.int .i64 E])∧Below w.heap.size w w':=by
 obtain⟨a,c,rfl,-⟩:=hv.form rfl
 rcases L16.rparse16_at a _ c l w hv hm with ⟨hno,hC⟩|⟨o,hi,hs,hC⟩
 ·obtain⟨rfl,rfl⟩:=hR.1 hno
  have HC:=Lib.hid hC
  clear hv hm hR hno hC
  go_enter Tryz.func14,Tryz.ntmps14
  go_wp2_with (go_at_call 37;((with_reducible refine (HC.out).mono ?_);rintro e w1 ⟨rfl,b1⟩))
  go_ret2
  exact⟨rfl,bch b1 (bnew w1 _)⟩
 ·have hv2:=hR.2 o hi
  have HC:=Lib.hid hC
  have HK:=Lib.hid (fun (W:World) (vm vc vr:Value) (h:OA W vm vc vr o)=>rcheck17_at vm vc vr o S E W h hs hv2)
  clear hv hm hR hi hs hC hv2
  go_enter Tryz.func14,Tryz.ntmps14
  go_wp2_with (first
   | (go_at_call 37;((with_reducible refine (HC.out).mono ?_);rintro e w1 ⟨⟨vm,vc,vr,rfl,ho⟩,b1⟩;obtain⟨a1,c1,a2,c2,a3,c3,rfl,rfl,rfl⟩:=oa_form ho;have HO:=Lib.hid ho;have HB:=Lib.hid b1;clear ho b1))
   | (go_at_call 12;((with_reducible refine (HK.out _ _ _ _ (HO.out.below (bnew w1 _))).mono ?_);rintro e w2 ⟨rfl,b2⟩)))
  go_ret2
  exact⟨rfl,bch HB.out (bch (bnew w1 _) b2)⟩
section
variable (v:Value) (l:List UInt8) (w:World) (hv:Rw eB w v l) (hT:Tb w)
include hv hT
theorem bytes_walk:Calls Tryz.prog 4 #[v] w fun e w'=>e=.returned (.bool true)∧Below w.heap.size w w':=by
 obtain⟨n,hn⟩:∃ n,l.length=n:=⟨_,rfl⟩
 obtain⟨S,E,hE⟩:=btV_some l
 obtain⟨a,c,rfl,-⟩:=hv.form hn
 have HA:=Lib.hid (fun (W:World) (h:Below w.heap.size w W)=>alive17 W (tb_below hT h))
 by_cases hs:n≤6000
 ·have hd:=L16.gt_f (a:=(n:Int)) (b:=6000) (by omega)
  have H1:=Lib.hid (vbytes_at (.slice a n c) l S E w hv (by omega) hT hE)
  have H2:=Lib.hid (fun (W:World) (h:Below w.heap.size w W)=>rbytes_at (.slice a n c) l S E W (hv.below h) (by omega) hE)
  clear hv hT hE hn
  go_enter Tryz.func4,Tryz.ntmps4
  go_wp2_with (first
   | (go_at_call 13;((with_reducible refine (H1.out).mono ?_);rintro e w1 ⟨rfl,b1⟩))
   | (go_at_call 14;((with_reducible refine (H2.out _ b1).mono ?_);rintro e w2 ⟨rfl,b2⟩;have B2:=bch b1 b2))
   | (go_at_call 10;((with_reducible refine (HA.out _ B2).mono ?_);rintro e w3 ⟨rfl,b3⟩)))
  go_ret
  exact⟨rfl,bch B2 b3⟩
 ·have hd:=L16.gt_t (a:=(n:Int)) (b:=6000) (by omega)
  clear hv hT hE
  go_enter Tryz.func4,Tryz.ntmps4
  go_wp2_with (go_at_call 10;((with_reducible refine (HA.out _ (Below.refl _ _)).mono ?_);rintro e w3 ⟨rfl,b3⟩))
  go_ret
  exact⟨rfl,b3⟩
end
end Go.Proofs.YtihiggnglmhggaaGreatDoor.L17
end
end
