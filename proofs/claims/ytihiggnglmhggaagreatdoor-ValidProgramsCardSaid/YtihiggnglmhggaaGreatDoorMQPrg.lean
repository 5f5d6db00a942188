/- Lemmas and walks of L8Tk, L8Rtok, L8Rshp, L9Ln, L10Opn, L10Sam, L10Lb, L9Rspl, L10Rd, L10Ad, L10Opw, L10Few, L10Chl, L12Sl, L12Cod, L12Ref, L12Rrf, L12Lp, L5Join, L5Same, L13Sa, L13Sb, L11Ck, L13Pl, L13Stp, L13Jmp, L13Res, L10Cln, L13Asm, L16Ch, L5Rjoin, L17Pv, L13Rrs, L13Ras, L17Lp: what each theorem states; conditions stand in each theorem. -/
import Derived.Test.YtihiggnglmhggaaGreatDoorMQS
import Derived.Test.YtihiggnglmhggaaGreatDoorM32
set_option maxHeartbeats 16000000
set_option maxRecDepth 100000
section
section
namespace Go.Proofs.YtihiggnglmhggaaGreatDoor.L8
open L2
def isW (t:List UInt8):Bool:=match t with|[c]=>!pun c|_=>true
theorem size_list (s:ByteArray):s.data.toList.length=s.size:=by rw [Array.length_toList];rfl
end Go.Proofs.YtihiggnglmhggaaGreatDoor.L8
end
section
namespace Go.Proofs.YtihiggnglmhggaaGreatDoor.L8
open Go.RowKit L2
attribute [local go_sem] Oper.semAt_some
theorem own_base {w:World} {base:Nat} {e:TypeId} {size:Nat} {v:Value} {n:Nat} {xs:List Value} (h:w.ownsRow base e size v n xs):∀ k,v.ownBlock=some k→base≤k:=by
 intro k hk
 rcases h.2 with ⟨rfl,_⟩|⟨g,cap,cur,rfl,hb,_⟩
 ·cases hk
 ·simp [Value.ownBlock] at hk
  omega
theorem owns_slice {w:World} {base e:TypeId} {size:Nat} {v:Value} {n:Nat} {xs:List Value} (h:w.ownsRow base e size v n xs):∃ a c,v=.slice a n c:=by
 rcases h.2 with ⟨rfl,rfl⟩|⟨g,cap,cur,rfl,_⟩
 ·exact⟨_,_,rfl⟩
 ·exact⟨_,_,rfl⟩
end Go.Proofs.YtihiggnglmhggaaGreatDoor.L8
end
section
namespace Go.Proofs.YtihiggnglmhggaaGreatDoor.L8
open Go.RowKit L2
attribute [local go_sem] Oper.semAt_some
def stC (l:List ByteArray):List Value:=l.map Value.string
theorem stC_snoc (l:List ByteArray) (t:ByteArray):stC (l++[t])=stC l++[.string t]:=by simp [stC]
theorem own_st {w:World} {base e:TypeId} {v:Value} {l:List ByteArray} (h:w.ownsRow base e 1 v l.length (stC l)):StAt w v l:=by
 rcases h.2 with ⟨rfl,h0⟩|⟨g,cap,cur,rfl,_,hh,hcp,_,_,_⟩
 ·exact .inr ⟨List.eq_nil_of_length_eq_zero h0,_,_,rfl⟩
 ·refine .inl ⟨g,0,cap,rfl,lt_of_block hh,fun j hj=>?_⟩
  have k1:=h.cells (g:=g) rfl j (.string (l.getD j ByteArray.empty)) (by simp [stC,List.getD,List.getElem?_eq_getElem hj])
  rw [Nat.zero_add];rwa [add0] at k1
end Go.Proofs.YtihiggnglmhggaaGreatDoor.L8
end
section
namespace Go.Proofs.YtihiggnglmhggaaGreatDoor.L9
def tCol:ByteArray:=⟨#[58]⟩
def wdB (t:ByteArray):Bool:=L8.isW t.data.toList
def lab:List ByteArray→List ByteArray→Int × List ByteArray × List ByteArray
 | acc,a::b::r=>if wdB a=true∧b=tCol then (if L2.vd a then lab (acc++[a]) r else (7,acc,a::b::r)) else (0,acc,a::b::r)
 | acc,[a]=>(0,acc,[a])
 | acc,[]=>(0,acc,[])
end Go.Proofs.YtihiggnglmhggaaGreatDoor.L9
end
section
namespace Go.Proofs.YtihiggnglmhggaaGreatDoor.L10
open Go.ChangeShapes Go.WideShapes Go.ChangeAt Go.RowKit Go.Deep
theorem cS:Tryz.prog.cellsOf 80=9:=by kernel_rfl
theorem cP:Tryz.prog.cellsOf 53=2:=by kernel_rfl
theorem cTs:Tryz.prog.cellsOf 78=1:=by kernel_rfl
theorem cSs:Tryz.prog.cellsOf 51=1:=by kernel_rfl
section
variable {H:Type} {enc:TypeId × Value→H} {W:World} {base:Nat} {sp:Nat→Bool} {held:Bool}
end
end Go.Proofs.YtihiggnglmhggaaGreatDoor.L10
end
section
namespace Go.Proofs.YtihiggnglmhggaaGreatDoor.L10
open Go.RowKit Go.Maps
attribute [local go_sem] Oper.semAt_some
structure Sml (p:Pg):Prop where
 maps:p.maps.length≤100000
 stmts:p.stmts.length≤100000
 labs:∀ s∈p.stmts,s.labs.length≤100000
end Go.Proofs.YtihiggnglmhggaaGreatDoor.L10
end
section
section
namespace Go.Proofs.YtihiggnglmhggaaGreatDoor.L10
open Go.RowKit Go.Maps
def labsAt (l:List Stm) (k:Nat):List ByteArray:=(l[k]?.map (fun s=>s.labs)).getD []
theorem labsAt_get (l:List Stm) (k:Nat) (h:k<l.length):labsAt l k=l[k].labs:=by simp [labsAt,List.getElem?_eq_getElem h]
def lbK (l:List Stm) (s:ByteArray):Nat→Int
 | 0=>-1
 | k+1=>if L2.on (labsAt l k) s then (k:Int) else lbK l s k
theorem lbK_lt (l:List Stm) (s:ByteArray):∀ k,-1≤lbK l s k∧lbK l s k<k
 | 0=>by simp [lbK]
 | k+1=>by
  have:=lbK_lt l s k
  rw [lbK]
  split <;> omega
theorem lbK_in (l:List Stm) (s:ByteArray):∀ n k,k<n→L2.on (labsAt l k) s=true→∃ m,m<n∧lbK l s n=(m:Int)∧L2.on (labsAt l m) s=true
 | 0,k,h,_=>by omega
 | n+1,k,h,hon=>by
  rw [lbK]
  by_cases hn:L2.on (labsAt l n) s=true
  ·rw [if_pos hn];exact⟨n,by omega,rfl,hn⟩
  ·rw [if_neg hn]
   have:k≠n:=by rintro rfl;exact hn hon
   obtain⟨m,h1,h2,h3⟩:=lbK_in l s n k (by omega) hon
   exact⟨m,by omega,h2,h3⟩
def prs:Nat→List Stm→List (ByteArray × Nat)
 | _,[]=>[]
 | i,s::r=>s.labs.map (fun x=>(x,i))++prs (i+1) r
theorem prs_app:∀ (a b:List Stm) (i:Nat),prs i (a++b)=prs i a++prs (i+a.length) b
 | [],b,i=>by simp [prs]
 | s::r,b,i=>by
  rw [List.cons_append,prs,prs,prs_app r b (i+1),List.append_assoc,List.length_cons,show i+1+r.length=i+(r.length+1) by omega]
theorem prs_snoc (l:List Stm) (k:Nat) (h:k<l.length):prs 0 (l.take (k+1))=prs 0 (l.take k)++(labsAt l k).map (fun x=>(x,k)):=by
 rw [List.take_add_one,List.getElem?_eq_getElem h,Option.toList,prs_app,labsAt_get l k h]
 simp only [prs,List.append_nil,List.length_take,Nat.zero_add]
 rw [Nat.min_eq_left (by omega)]
theorem txk (x:ByteArray):WideAt.IsKeyLit (L2.txt x):=trivial
def mpF (m:DataW Unit) (y:ByteArray × Nat):DataW Unit:=m.put (L2.txt y.1) (.lit (.int .i64 (y.2:Int)))
def Mp (L:List (ByteArray × Nat)):DataW Unit:=L.foldl mpF (.map [])
theorem Mp_snoc (L:List (ByteArray × Nat)) (y:ByteArray × Nat):Mp (L++[y])=(Mp L).put (L2.txt y.1) (.lit (.int .i64 (y.2:Int))):=by simp [Mp,mpF,List.foldl_append]
theorem tidy_mpF:∀ (L:List (ByteArray × Nat)) (m:DataW Unit),Tidy m→Tidy (L.foldl mpF m)
 | [],_,h=>h
 | _::r,_,h=>tidy_mpF r _ (h.put (txk _) _)
theorem on_cons (x s:ByteArray) (r:List ByteArray):L2.on (x::r) s=(decide (x=s) || L2.on r s):=rfl
theorem fold_labs (k:Nat) (s:ByteArray):∀ (labs:List ByteArray) (m:DataW Unit),Tidy m →
  has ((labs.map (fun x=>(x,k))).foldl mpF m) (L2.txt s)=(has m (L2.txt s) || L2.on labs s) ∧
  ∀ z,((labs.map (fun x=>(x,k))).foldl mpF m).atKey (L2.txt s) z=if L2.on labs s then .lit (.int .i64 (k:Int)) else m.atKey (L2.txt s) z
 | [],m,_=>by simp [L2.on]
 | x::r,m,h=>by
  obtain⟨h1,h2⟩:=fold_labs k s r (mpF m (x,k)) (h.put (txk _) _)
  rw [List.map_cons,List.foldl_cons]
  refine⟨?_,fun z=>?_⟩
  ·rw [h1,on_cons]
   by_cases e:x=s
   ·subst e
    rw [mpF,has_put_same h.isMap (txk _)]
    simp
   ·rw [mpF,has_put_other (by intro e';exact e (L2.txt_inj e').symm)]
    simp [e]
  ·rw [h2,on_cons]
   by_cases hr:L2.on r s=true
   ·rw [if_pos hr,hr,Bool.or_true,if_pos rfl]
   ·rw [if_neg hr]
    have hr:L2.on r s=false:=by simpa using hr
    rw [hr,Bool.or_false]
    by_cases e:x=s
    ·subst e
     rw [mpF,atKey_put_same h.isMap (txk _)]
     simp
    ·rw [mpF,atKey_put_other (by intro e';exact e (L2.txt_inj e').symm)]
     simp [e]
theorem Mp_at (l:List Stm) (s:ByteArray):∀ k,k≤l.length→has (Mp (prs 0 (l.take k))) (L2.txt s)=decide (0≤lbK l s k)∧(0≤lbK l s k→∀ z,(Mp (prs 0 (l.take k))).atKey (L2.txt s) z=.lit (.int .i64 (lbK l s k)))
 | 0,_=>by simp [lbK,Mp,prs,has]
 | k+1,hk=>by
  obtain⟨h1,h2⟩:=Mp_at l s k (by omega)
  rw [prs_snoc l k (by omega),Mp,List.foldl_append]
  obtain⟨h3,h4⟩:=fold_labs k s (labsAt l k) (Mp (prs 0 (l.take k))) (tidy_mpF _ _ tidy_empty)
  unfold Mp at h1 h2 h3 h4
  rw [lbK]
  refine⟨?_,fun hp z=>?_⟩
  ·rw [h3,h1]
   by_cases ho:L2.on (labsAt l k) s=true
   ·rw [if_pos ho,ho];simp
   ·rw [if_neg ho]
    have ho:L2.on (labsAt l k) s=false:=by simpa using ho
    rw [ho,Bool.or_false]
  ·rw [h4]
   by_cases ho:L2.on (labsAt l k) s=true
   ·rw [if_pos ho,if_pos ho]
   ·rw [if_neg ho] at hp ⊢
    rw [if_neg ho]
    exact h2 hp z
end Go.Proofs.YtihiggnglmhggaaGreatDoor.L10
end
section
namespace Go.Proofs.YtihiggnglmhggaaGreatDoor.L10
open Go.RowKit Go.Maps
attribute [local go_sem] Oper.semAt_some
abbrev MapAt (w:World) (g n:Nat) (L:List (ByteArray × Nat)):Prop:=w.ownsMap Tryz.prog 9 (plainElem Tryz.prog 3) g n (Mp L)
theorem zeroI (w:World):(zeroValue 3).run Tryz.prog w=.ok (.int .i64 0) w:=by kernel_rfl
theorem MapAt.below {w w':World} {g n:Nat} {L:List (ByteArray × Nat)} (h:MapAt w g n L) (hb:Below w.heap.size w w'):MapAt w' g n L:=h.kept (gr_of hb none) (by simp)
def LI (w W:World) (m:Nat) (L:List (ByteArray × Nat)):Prop:=∃ n,n≤m∧MapAt W (w.heap.size+1) n L∧Below w.heap.size w W
theorem LI.up {w W W':World} {m:Nat} {L:List (ByteArray × Nat)} (h:LI w W m L) (hb:Below W.heap.size W W'):LI w W' m L:=by
 obtain⟨n,h1,h2,h3⟩:=h
 exact⟨n,h1,h2.below hb,L2.bch h3 hb⟩
theorem LI.le {w W:World} {m m':Nat} {L:List (ByteArray × Nat)} (h:LI w W m L) (hm:m≤m'):LI w W m' L:=by
 obtain⟨n,h1,h2⟩:=h
 exact⟨n,Nat.le_trans h1 hm,h2⟩
theorem pl_snoc (PL:List (ByteArray × Nat)) (l:List ByteArray) (k j:Nat) (h:j<l.length):PL++(l.take (j+1)).map (fun x=>(x,k))=(PL++(l.take j).map (fun x=>(x,k)))++[(l[j],k)]:=by
 rw [List.take_add_one,List.getElem?_eq_getElem h,Option.toList,List.map_append,List.append_assoc]
 rfl
theorem wf_nat {k:Nat} (h:k≤100000):(Lit.int .i64 (k:Int)).wf=true:=by
 simp [Lit.wf,IntKind.min,IntKind.max,IntKind.bits,IntKind.signed]
 omega
theorem labels_at (vm vs:Value) (p:Pg) (w:World) (hp:PgAt w vm vs p) (hs:Sml p) (hz:∀ s∈p.stmts,∀ t∈s.labs,t.size≤maxLen) :
  Calls Tryz.prog 133 #[.agg #[vm,vs]] w fun e w'=>∃ g n,e=.returned (.map (some g))∧MapAt w' g n (prs 0 p.stmts)∧Below w.heap.size w w':=by
 obtain⟨n1,hn1⟩:∃ n,p.maps.length=n:=⟨_,rfl⟩
 obtain⟨n2,hn2⟩:∃ n,p.stmts.length=n:=⟨_,rfl⟩
 obtain⟨a1,c1,rfl,-⟩:=df_form hn1 hp.1
 obtain⟨a2,c2,rfl,hc⟩:=sm_form hn2 hp.2
 have hm2:=hs.stmts
 rw [hn2] at hm2
 have HC:=Lib.hid hc
 have HN:=Lib.hid hn2
 have HZ:=Lib.hid hz
 have HL:=Lib.hid hs.labs
 have hmm:=@run_makeMap Tryz.prog
 have hb0:Below w.heap.size w ((w.alloc (.cells #[.slice a1 n1 c1,.slice a2 n2 c2] 53)).alloc (.map #[] 0)):=L2.bch (L8.bnew w _) (L8.bnew _ _)
 have hown:=World.ownsMap_made (w.alloc (.cells #[.slice a1 n1 c1,.slice a2 n2 c2] 53)) Tryz.prog 9 (plainElem (H:=Unit) Tryz.prog 3)
 have hi:Hid (LI w ((w.alloc (.cells #[.slice a1 n1 c1,.slice a2 n2 c2] 53)).alloc (.map #[] 0)) (0*100000) (prs 0 (p.stmts.take 0))):=Lib.hid ⟨0,by omega,by unfold MapAt;simpa [prs,Mp] using hown,hb0⟩
 have hrow:Hid (((w.alloc (.cells #[.slice a1 n1 c1,.slice a2 n2 c2] 53)).alloc (.map #[] 0)).heap[w.heap.size]?=some (.cells #[.slice a1 n1 c1,.slice a2 n2 c2] 53)):=Lib.hid (L8.row_up (heap_alloc_last w _) (L8.bnew _ _))
 clear hp hs hz hn1 hn2 hc hb0 hown
 go_enter Tryz.func133,Tryz.ntmps133
 go_upto_region 2 with (fail)
 obtain⟨x0,x1⟩:=cells2p hrow.out
 generalize ((w.alloc (.cells #[.slice a1 n1 c1,.slice a2 n2 c2] 53)).alloc (.map #[] 0))=W at hi hrow x0 x1 ⊢
 clear hrow
 go_wp2
 go_loopw [4,5,12] (fun _ _ i wr=>∃ k:Nat,k≤n2∧i=.int .i64 (k:Int)∧Hid (LI w wr (k*100000) (prs 0 (p.stmts.take k)))) (fun _ _ i _=>n2-(RowKit.intOf i).toNat)
 case atStart=>exact⟨0,Nat.zero_le _,rfl,hi⟩
 case round =>
  obtain⟨k,hk,rfl,hI⟩:=hrel
  clear hi x0 x1
  by_cases hlt:k<n2
  ·have hkl:k<p.stmts.length:=by rw [HN.out];exact hlt
   obtain⟨b,o,rfl,hbl,hc⟩:=HC.out (by omega)
   obtain⟨lv,hst,hx⟩:=hc k hkl
   obtain⟨n0,hn0,hm0,hbw⟩:=hI.out
   have hX:=fun i u hu=>(hbw.cell (by exact hbl)).trans (hx i u hu)
   have x0:=hX 0 _ rfl
   have x1:=hX 1 _ rfl
   have x2:=hX 2 _ rfl
   have x3:=hX 3 _ rfl
   have x4:=hX 4 _ rfl
   have x5:=hX 5 _ rfl
   have x6:=hX 6 _ rfl
   have x7:=hX 7 _ rfl
   have x8:=hX 8 _ rfl
   rw [Nat.add_zero] at x0
   have hw1:=World.block_lt_of_cell? wr _ x0
   simp only at hw1
   have hz:=HZ.out _ (List.getElem_mem hkl)
   have hll:=HL.out _ (List.getElem_mem hkl)
   have hpr:=prs_snoc p.stmts k hkl
   rw [labsAt_get _ _ hkl] at hpr
   have HB:=Lib.hid hbw
   obtain⟨s,hs⟩:∃ s,p.stmts[k]=s:=⟨_,rfl⟩
   rw [hs] at x1 x2 x3 x4 x5 x6 x7 x8 hst hz hll hpr
   obtain⟨ln,hln⟩:∃ ln,s.labs.length=ln:=⟨_,rfl⟩
   obtain⟨la,lc,rfl,hla⟩:=st_form hln hst
   rw [hln] at hll
   obtain⟨PL,hPL⟩:∃ PL,prs 0 (p.stmts.take k)=PL:=⟨_,rfl⟩
   rw [hPL] at hI hpr
   have HI:=Lib.hid (hI.out.up (L8.bnew wr (.cells #[.slice la ln lc,.int .i64 s.x.op,.bool s.x.reg,.int .i64 s.x.dst,.int .i64 s.x.src,.int .i64 s.x.off,.int .i64 s.x.imm,.string s.tg,.string s.mp] 80)))
   have HLA:=Lib.hid hla
   have HPR:=Lib.hid hpr
   have HZ2:=Lib.hid hz
   have HLN:=Lib.hid hln
   have R5:=heap_alloc_last wr (.cells #[.slice la ln lc,.int .i64 s.x.op,.bool s.x.reg,.int .i64 s.x.dst,.int .i64 s.x.src,.int .i64 s.x.off,.int .i64 s.x.imm,.string s.tg,.string s.mp] 80)
   clear hx hX hc hst hs hPL hla hpr hz hln hI hn0 hm0 hbw
   go_upto_region 5 with (fail)
   clear x0 x1 x2 x3 x4 x5 x6 x7 x8 hw1
   obtain⟨y0,-⟩:=cells9 R5
   clear R5
   generalize hWk:(wr.alloc (.cells #[.slice la ln lc,.int .i64 s.x.op,.bool s.x.reg,.int .i64 s.x.dst,.int .i64 s.x.src,.int .i64 s.x.off,.int .i64 s.x.imm,.string s.tg,.string s.mp] 80))=wk at HI y0 ⊢
   clear hWk
   have HJ:Hid (LI w wk (k*100000+0) (PL++(s.labs.take 0).map (fun x=>(x,k)))):=Lib.hid (by rw [List.take_zero,List.map_nil,List.append_nil];exact HI.out.le (Nat.le_add_right _ 0))
   clear HI
   go_wp2
   go_loopw [7,20] (fun _ i wi=>∃ j:Nat,j≤ln∧i=.int .i64 (j:Int)∧Hid (LI w wi (k*100000+j) (PL++(s.labs.take j).map (fun x=>(x,k))))) (fun _ i _=>ln-(RowKit.intOf i).toNat)
   case atStart=>exact⟨0,Nat.zero_le _,rfl,HJ⟩
   case round =>
    obtain⟨j,hj,rfl,hJ⟩:=hrel
    clear HJ y0
    by_cases hjn:j<ln
    ·have hjl:j<s.labs.length:=by rw [HLN.out];exact hjn
     obtain⟨bb,oo,rfl,hbb,hcc⟩:=HLA.out (by omega)
     obtain⟨n0,hn0,hown,hbw⟩:=hJ.out
     have z0:=(hbw.cell (by exact hbb)).trans (hcc j hjl)
     have hkey:=key_of (HZ2.out s.labs[j] (List.getElem_mem hjl))
     have hsn:PL++(s.labs.take (j+1)).map (fun x=>(x,k))=(PL++(s.labs.take j).map (fun x=>(x,k)))++[(s.labs[j],k)]:=pl_snoc PL s.labs k j hjl
     obtain⟨x,hx⟩:∃ x,s.labs[j]=x:=⟨_,rfl⟩
     obtain⟨Q,hQ⟩:∃ Q,PL++(s.labs.take j).map (fun x=>(x,k))=Q:=⟨_,rfl⟩
     rw [hx] at z0 hkey hsn
     rw [hQ] at hown hsn
     have HS:=Lib.hid hsn
     have HBW:=Lib.hid hbw
     have HN0:=Lib.hid hn0
     have hwf:(Lit.int .i64 (k:Int)).wf=true:=wf_nat (by omega)
     have hn1:n0+1≤maxLen:=by unfold maxLen;omega
     clear hx hQ hsn hbw hn0 hJ hcc
     unfold MapAt at hown
     go_wp2_with (first
      | (at_mapUpdate;refine wpList_mapUpdate_own _ rfl _ _ _ 175 rfl 9 3 L2.law9 Tryz.underlying175 (plainElem (H:=Unit) Tryz.prog 3) (w.heap.size+1) _ _ rfl hown (by omega) _ _ _ rfl rfl hkey _ [] (plainElem_int Tryz.underlying3 hwf) ?_;intro w1 hown1 hgrow1)
      | go_in)
     go_roundw
     case rel =>
      refine⟨j+1,by omega,by go_num,Lib.hid ?_⟩
      rw [HS.out]
      refine⟨n0+1,by have:=HN0.out;omega,?_,bel_gr HBW.out hgrow1 (by omega)⟩
      unfold MapAt
      rw [Mp_snoc]
      exact hown1
     case measure=>simp [RowKit.intOf];omega
    ·obtain rfl:j=ln:=by omega
     have HJ2:Hid (LI w wr ((k+1)*100000) (prs 0 (p.stmts.take (k+1)))):=Lib.hid (by
      have h:=hJ.out
      rw [List.take_of_length_le (by rw [HLN.out];exact Nat.le_refl _),← HPR.out] at h
      exact h.le (by omega))
     clear hJ
     go_wp2
     go_roundw
     case rel=>exact⟨k+1,by omega,by go_num,HJ2⟩
     case measure=>simp [RowKit.intOf];omega
  ·obtain rfl:k=n2:=by omega
   have HI2:=Lib.hid hI.out
   clear hI
   go_wp2
   go_ret
   obtain⟨n,h1,h2,h3⟩:=HI2.out
   rw [List.take_of_length_le (by rw [HN.out];exact Nat.le_refl _)] at h2
   exact⟨_,_,rfl,h2,h3⟩
end Go.Proofs.YtihiggnglmhggaaGreatDoor.L10
end
section
namespace Go.Proofs.YtihiggnglmhggaaGreatDoor.L10
open Go.RowKit
attribute [local go_sem] Oper.semAt_some
theorem on_snoc (l:List ByteArray) (x:ByteArray) (j:Nat) (h:j<l.length) (hn:L2.on (l.take j) x=false) (hx:l[j]≠x):L2.on (l.take (j+1)) x=false:=by
 rw [List.take_add_one,List.getElem?_eq_getElem h,Option.toList]
 simp only [L2.on,List.any_append,List.any_cons,List.any_nil,Bool.or_false] at hn ⊢
 rw [hn]
 simp [hx]
theorem lbK_hit (l:List Stm) (x:ByteArray) (k:Nat) (h:k<l.length) (hm:x∈l[k].labs):lbK l x (k+1)=(k:Int):=by
 rw [lbK,labsAt_get l k h,if_pos ((L2.on_mem _ _).2 hm)]
theorem lbK_miss (l:List Stm) (x:ByteArray) (k:Nat) (h:k<l.length) (hm:L2.on l[k].labs x=false):lbK l x (k+1)=lbK l x k:=by
 rw [lbK,labsAt_get l k h,if_neg (by simp [hm])]
theorem rlabel_at (vm vs:Value) (p:Pg) (x:ByteArray) (w:World) (hp:PgAt w vm vs p) (hs:Sml p) :
  Calls Tryz.prog 51 #[.agg #[vm,vs],.string x] w fun e w'=>e=.returned (.int .i64 (lbK p.stmts x p.stmts.length))∧Below w.heap.size w w':=by
 obtain⟨n1,hn1⟩:∃ n,p.maps.length=n:=⟨_,rfl⟩
 obtain⟨n2,hn2⟩:∃ n,p.stmts.length=n:=⟨_,rfl⟩
 obtain⟨a1,c1,rfl,-⟩:=df_form hn1 hp.1
 obtain⟨a2,c2,rfl,hc⟩:=sm_form hn2 hp.2
 have hm2:=hs.stmts
 rw [hn2] at hm2
 have HC:=Lib.hid hc
 have HN:=Lib.hid hn2
 have HL:=Lib.hid hs.labs
 obtain⟨R,hR⟩:∃ R,lbK p.stmts x p.stmts.length=R:=⟨_,rfl⟩
 rw [hR]
 have hV:Hid (lbK p.stmts x n2=R):=Lib.hid (by rw [← hn2];exact hR)
 have HB:=Lib.hid (L8.bnew w (.cells #[.slice a1 n1 c1,.slice a2 n2 c2] 53))
 have K0:=Lib.hid (heap_alloc_last w (.cells #[.slice a1 n1 c1,.slice a2 n2 c2] 53))
 have x1:=(cells2p K0.out).2
 have hlt1:=World.block_lt_of_cell? _ _ x1
 simp only at hlt1
 clear hp hs hn1 hn2 hc hR
 go_enter Tryz.func51,Tryz.ntmps51
 go_upto_region 1 with (fail)
 generalize w.alloc (.cells #[.slice a1 n1 c1,.slice a2 n2 c2] 53)=W0 at K0 x1 hlt1 HB ⊢
 have HI:=Lib.hid (Below.refl W0.heap.size W0)
 go_wp2
 go_loopw [5,6] (fun i _ wr=>∃ k:Nat,k≤n2∧i=.int .i64 ((k:Int)-1)∧Hid (Below W0.heap.size W0 wr)∧Hid (lbK p.stmts x k=R)) (fun i _ _=>(RowKit.intOf i+1).toNat)
 case atStart=>exact⟨n2,Nat.le_refl _,rfl,HI,hV⟩
 case round =>
  obtain⟨k,hk,rfl,hB,hT⟩:=hrel
  clear HI hV x1 hlt1
  have x1:=(cells2p (L8.row_up K0.out hB.out)).2
  have hlt1:=World.block_lt_of_cell? _ _ x1
  simp only at hlt1
  by_cases h0:1≤k
  ·obtain⟨m,rfl⟩:∃ m,k=m+1:=⟨k-1,by omega⟩
   have e1:((m+1:Nat):Int)-1=(m:Int):=by omega
   rw [e1]
   have g2:(0:Int)≤(m:Int):=by omega
   have hkl:m<p.stmts.length:=by rw [HN.out];omega
   obtain⟨b,o,rfl,hbl,hc⟩:=HC.out (by omega)
   obtain⟨lv,hst,hx⟩:=hc m hkl
   have hX0:=hx 0 _ rfl
   rw [Nat.add_zero] at hX0
   have HX0:=Lib.hid hX0
   have hll:=HL.out _ (List.getElem_mem hkl)
   have HH:=Lib.hid (lbK_hit p.stmts x m hkl)
   have HMI:=Lib.hid (lbK_miss p.stmts x m hkl)
   obtain⟨s,hs⟩:∃ s,p.stmts[m]=s:=⟨_,rfl⟩
   rw [hs] at hst hll HH HMI
   obtain⟨ln,hln⟩:∃ ln,s.labs.length=ln:=⟨_,rfl⟩
   obtain⟨la,lc,rfl,hla⟩:=st_form hln hst
   rw [hln] at hll
   have HLA:=Lib.hid hla
   have HLN:=Lib.hid hln
   have hm3:m<n2:=by omega
   have HJ:Hid (L2.on (s.labs.take 0) x=false):=Lib.hid rfl
   clear hx hX0 hc hst hs hla hln e1
   go_wp2
   go_loopw [6] (fun i wi=>∃ j:Nat,j≤ln∧i=.int .i64 (j:Int)∧Hid (Below W0.heap.size W0 wi)∧Hid (L2.on (s.labs.take j) x=false)) (fun i _=>ln-(RowKit.intOf i).toNat)
   case atStart=>exact⟨0,Nat.zero_le _,rfl,hB,HJ⟩
   case round =>
    obtain⟨j,hj,rfl,hB2,hJ⟩:=hrel
    clear HJ x1 hlt1 hB
    have x1:=(cells2p (L8.row_up K0.out hB2.out)).2
    have hlt1:=World.block_lt_of_cell? _ _ x1
    simp only at hlt1
    have hBw:=L2.bch HB.out hB2.out
    have x0:=(hBw.cell (by exact hbl)).trans HX0.out
    have hw1:=World.block_lt_of_cell? _ _ x0
    simp only at hw1
    by_cases hjn:j<ln
    ·have hjl:j<s.labs.length:=by rw [HLN.out];exact hjn
     obtain⟨bb,oo,rfl,hbb,hcc⟩:=HLA.out (by omega)
     have z0:=(hBw.cell (by exact hbb)).trans (hcc j hjl)
     have hw2:=World.block_lt_of_cell? _ _ z0
     simp only at hw2
     have HSN:=Lib.hid (on_snoc s.labs x j hjl hJ.out)
     have HME:=Lib.hid (List.getElem_mem hjl)
     have HBW:=Lib.hid hBw
     obtain⟨y,hy⟩:∃ y,s.labs[j]=y:=⟨_,rfl⟩
     rw [hy] at z0 HSN HME
     have hjI:(j:Int)<(ln:Int):=by omega
     clear hcc hy hJ hBw
     by_cases he:y=x
     ·subst he
      have ht:(y.toList==y.toList)=true:=by simp
      have HV:Hid (R=(m:Int)):=Lib.hid (by rw [← hT.out];exact HH.out HME.out)
      go_wp2
      go_ret
      rw [HV.out]
      exact⟨rfl,HBW.out⟩
     ·have ht:(y.toList==x.toList)=false:=L2.txt_ne he
      have HS2:=Lib.hid (HSN.out he)
      clear he
      go_wp2
      go_roundw
      case rel=>exact⟨j+1,by omega,by go_num,hB2,HS2⟩
      case measure=>simp [RowKit.intOf];omega
    ·obtain rfl:j=ln:=by omega
     have HV:Hid (lbK p.stmts x m=R):=Lib.hid (by
      have h:=hJ.out
      rw [List.take_of_length_le (by rw [HLN.out];exact Nat.le_refl _)] at h
      rw [← hT.out];exact (HMI.out h).symm)
     clear hJ hBw
     go_wp2
     go_roundw
     case rel=>exact⟨m,by omega,rfl,hB2,HV⟩
     case measure=>simp [RowKit.intOf]
  ·obtain rfl:k=0:=by omega
   have HBW:=Lib.hid (L2.bch HB.out hB.out)
   have e1:((0:Nat):Int)-1=-1:=by omega
   rw [e1]
   clear e1
   go_wp2
   go_ret
   rw [← hT.out]
   exact⟨rfl,HBW.out⟩
end Go.Proofs.YtihiggnglmhggaaGreatDoor.L10
end
end
section
namespace Go.Proofs.YtihiggnglmhggaaGreatDoor.L9
open Go.RowKit
attribute [local go_sem] Oper.semAt_some
theorem Tryz.info9:(Tryz.prog.info? 9).map (fun i=>(i.zero,i.size,i.bytes))=some (some (.string ⟨#[]⟩),1,16):=by kernel_rfl
end Go.Proofs.YtihiggnglmhggaaGreatDoor.L9
end
section
namespace Go.Proofs.YtihiggnglmhggaaGreatDoor.L10
open Go.RowKit Go.Maps
attribute [local go_sem] Oper.semAt_some
abbrev inI (l:List Int):List Value:=l.map (Value.int .i64)
section
variable {B:Nat} {W W':World} {vm vs mv sv lv:Value} {l:List (Value × Stm)} {s:Rd}
end
end Go.Proofs.YtihiggnglmhggaaGreatDoor.L10
end
section
namespace Go.Proofs.YtihiggnglmhggaaGreatDoor.L10
open Go.RowKit Go.Maps
attribute [local go_sem] Oper.semAt_some
theorem bel_set {B:Nat} {w W:World} (h:Below B w W) {k:Nat} (hk:B≤k) (i:Nat) (v:Value):Below B w (W.setCell ⟨k,i,none⟩ v):=h.setCell (p:=⟨k,i,none⟩) hk v
theorem infoD:(Tryz.prog.info? 88).map (fun i=>(i.zero,i.size,i.bytes))=some (some (.agg #[.string ⟨#[]⟩,.int .i64 0,.int .i64 0,.int .i64 0]),4,40):=by kernel_rfl
end Go.Proofs.YtihiggnglmhggaaGreatDoor.L10
end
section
namespace Go.Proofs.YtihiggnglmhggaaGreatDoor.L10
open Go.ChangeShapes Go.WideShapes Go.ChangeAt Go.RowKit Go.Deep
theorem mem_wAll {H:Type} {P:Program} {e:TypeId} {n:Nat}:∀ (ds:List (DataW H)) (d:DataW H),d∈ds→n∈d.weights P e→n∈DataW.weightsAll P e ds
 | a::r,d,h,hn=>by
  rw [DataW.weightsAll,List.mem_append]
  rcases List.mem_cons.1 h with rfl|h
  ·exact .inl hn
  ·exact .inr (mem_wAll r d h hn)
theorem bT:Tryz.prog.bytesOf 9=16:=by kernel_rfl
section
variable {H:Type} {enc:TypeId × Value→H} {W:World} {base:Nat} {sp:Nat→Bool} {held:Bool}
theorem open_textsw {fuel:Nat} {cs:List Value} {x:DataW H × List MemPlace} (h:DataW.trod enc Tryz.prog W base sp held fuel 78 cs=some x) :
  ∃ v l,cs=[v]∧L8.StAt W v l∧(∀ t∈l,t.size≤maxLen)∧(Wt 78 x.1→TxRoom l):=by
 rcases open_strings Tryz.underlying78 Tryz.underlying9 cT h with ⟨hcs,-⟩|⟨a,len,cap,ss,hcs,-,hl,-,hz,hx,hcell,hws⟩
 ·exact⟨_,[],hcs,.inr ⟨rfl,none,0,rfl⟩,by simp,fun _=>⟨by simp,by simp⟩⟩
 ·have hsl:len≤ss.length:=by rw [hz];split <;> omega
  have hll:(ss.take len).length=len:=by rw [List.length_take];omega
  refine⟨_,ss.take len,hcs,?_,fun s hs=>hws s (List.mem_of_mem_take hs),fun hw=>?_⟩
  ·by_cases hl0:len=0
   ·exact .inr ⟨List.eq_nil_of_length_eq_zero (by omega),some a,cap,by rw [hl0]⟩
   ·obtain⟨b,off,spot⟩:=a
    have hspot:spot=none:=by simpa [Addr.add] using World.cell?_spot (hcell 0 (by omega))
    subst hspot
    have hb:=World.block_lt_of_cell? W _ (hcell 0 (by omega))
    refine .inl ⟨b,off,cap,by rw [hll],hb,fun j hj=>?_⟩
    rw [hll] at hj
    have e:(ss.take len).getD j ByteArray.empty=ss.getD j ByteArray.empty:=by simp [List.getD,hj]
    rw [e,← add_plain]
    exact hcell j (by omega)
  ·subst hx
   unfold Wt at hw
   simp only [DataW.weights,Tryz.underlying78,bT] at hw
   have hlen:∀ l:List ByteArray,(strs (H:=H) l).length=l.length:=fun l=>by simp [strs]
   refine⟨?_,fun t ht=>?_⟩
   ·have:=hw _ (List.mem_cons_self ..)
    rw [hlen,hlen,hll] at this
    rw [hll]
    unfold reachBytes at this
    omega
   ·have hm:(DataW.lit (.string t.data.toList):DataW H)∈strs (ss.take len):=by
     unfold strs
     exact List.mem_map.2 ⟨t,ht,rfl⟩
    have:=hw t.data.toList.length (List.mem_cons_of_mem _ (List.mem_append_left _ (mem_wAll _ _ hm (by simp [DataW.weights]))))
    rw [L8.size_list] at this
    exact this
theorem open_stmw {fuel:Nat} {cs:List Value} {x:DataW H × List MemPlace} (h:DataW.trod enc Tryz.prog W base sp held fuel 80 cs=some x) :
  ∃ (lv:Value) (s:Stm),cs=smL lv s∧L8.StAt W lv s.labs∧SmFit s∧(Wt 80 x.1→TxRoom s.labs):=by
 obtain⟨xs,n,_,hx,hcl,hlen,hg⟩:=DataW.trod_struct Tryz.underlying80 h
 rw [cS] at hcl
 match cs,hcl,xs,hlen with
 | [c0,c1,c2,c3,c4,c5,c6,c7,c8],_,[y0,y1,y2,y3],_ =>
  have g0:DataW.trod enc Tryz.prog W base sp held n 78 [c0]=some y0:=by simpa [cTs] using hg 0 _ rfl
  have g1:DataW.trod enc Tryz.prog W base sp held n 45 [c1,c2,c3,c4,c5,c6]=some y1:=by simpa [cI] using hg 1 _ rfl
  have g2:DataW.trod enc Tryz.prog W base sp held n 9 [c7]=some y2:=by simpa [cT] using hg 2 _ rfl
  have g3:DataW.trod enc Tryz.prog W base sp held n 9 [c8]=some y3:=by simpa [cT] using hg 3 _ rfl
  obtain⟨lv,l,e0,hl,hz,hr⟩:=open_textsw g0
  obtain⟨d,e1,k0,k1,k2,k3,k4⟩:=open_insC g1
  obtain⟨s2,e2,-,z2⟩:=DataW.trod_string Tryz.underlying9 g2
  obtain⟨s3,e3,-,z3⟩:=DataW.trod_string Tryz.underlying9 g3
  simp only [List.cons.injEq,and_true] at e0 e1 e2 e3
  obtain⟨rfl,rfl,rfl,rfl,rfl,rfl⟩:=e1
  subst e0 e2 e3
  refine⟨c0,⟨l,d,s2,s3⟩,rfl,hl,⟨hz,z2,z3,k0,k1,k2,k3,k4⟩,fun hw=>hr fun n hn=>hw n ?_⟩
  rw [hx]
  simp only [DataW.weights,Tryz.underlying80,List.map_cons,DataW.weightsEach]
  exact List.mem_append_left _ hn
theorem open_stmsw {fuel:Nat} {cs:List Value} {x:DataW H × List MemPlace} (h:DataW.trod enc Tryz.prog W base sp held fuel 51 cs=some x) :
  ∃ v l,cs=[v]∧SmAt W v l∧(∀ d∈l,SmFit d)∧(Wt 51 x.1→∀ d∈l,TxRoom d.labs):=by
 rcases open_slice Tryz.underlying51 h with ⟨hcs,-⟩|⟨a,len,cap,m,n,D,Pl,hcs,-,hl,-,hmm,hx,hi⟩
 ·exact⟨_,[],hcs,.inr ⟨rfl,none,0,rfl⟩,by simp,by simp⟩
 ·rw [cS] at hi
  have each:∀ i,i<len→∃ s:Stm,(SmFit s∧(Wt 80 (D i)→TxRoom s.labs))∧∃ lv,L8.StAt W lv s.labs∧∀ k u,(smL lv s)[k]?=some u→W.cell? (a.add (i*9+k))=some u:=by
   intro i hil
   obtain⟨cs',hc,ht⟩:=hi i (by split at hmm <;> omega)
   obtain⟨lv,d,hd,hst,hfit,hrm⟩:=open_stmw ht
   obtain⟨_,hcl,hat⟩:=World.cells?_some hc
   refine⟨d,⟨hfit,hrm⟩,lv,hst,fun k u hu=>?_⟩
   have hk:k<9:=by
    have:=(List.getElem?_eq_some_iff.1 hu).1
    simpa using this
   rw [← Go.Deep.add_add,hat k hk,hd];exact hu
  obtain⟨l,hll,hp⟩:=list_of len each
  subst hll
  refine⟨_,l,hcs,?_,fun d hd=>?_,fun hw d hd=>?_⟩
  ·by_cases h0:l=[]
   ·exact .inr ⟨h0,some a,cap,by rw [h0];rfl⟩
   ·have hpos:0<l.length:=List.length_pos_iff.2 h0
    obtain⟨lv0,_,hq0⟩:=(hp 0 hpos).2
    have hc0:=hq0 0 _ rfl
    obtain⟨b,off,spot⟩:=a
    have hspot:spot=none:=by simpa [Addr.add] using World.cell?_spot hc0
    subst hspot
    have hb:=World.block_lt_of_cell? W _ hc0
    refine .inl ⟨b,off,cap,rfl,hb,fun j hj=>?_⟩
    obtain⟨lv,hst,hq⟩:=(hp j hj).2
    refine⟨lv,hst,fun i u hu=>?_⟩
    rw [Nat.add_assoc,← add_plain]
    exact hq i u hu
  ·obtain⟨i,hi,rfl⟩:=List.mem_iff_getElem.1 hd
   exact (hp i hi).1.1
  ·obtain⟨i,hi,rfl⟩:=List.mem_iff_getElem.1 hd
   refine (hp i hi).1.2 fun n hn=>hw n ?_
   rw [hx]
   simp only [DataW.weights,Tryz.underlying51]
   exact List.mem_cons_of_mem _ (List.mem_append_left _ (mem_wAll _ _ (List.mem_map.2 ⟨i,List.mem_range.2 hi,rfl⟩) hn))
theorem open_pgw {r:Reach} {b0:Nat} {v:Value} {d:DataW H} {ps:List MemPlace} (hval:Value.okWide Tryz.prog W r b0 53 v) (hd:DataW.Trod enc Tryz.prog W base sp held 53 v d ps) :
  ∃ (vm vs:Value) (p:Pg),v=.agg #[vm,vs]∧PgAt W vm vs p∧PgFit p∧(Wt 53 d→∀ s∈p.stmts,TxRoom s.labs):=by
 obtain⟨cs,rfl,hsz⟩:=okWide_struct Tryz.underlying53 hval
 rw [cP] at hsz
 obtain⟨l⟩:=cs
 obtain⟨fuel,hf⟩:=hd
 obtain⟨xs,n,_,hx,_,hlen,hg⟩:=DataW.trod_struct Tryz.underlying53 hf
 match l,hsz,xs,hlen with
 | [c0,c1],_,[y0,y1],_ =>
  have g0:DataW.trod enc Tryz.prog W base sp held n 22 [c0]=some y0:=by simpa [Value.cells,cDs] using hg 0 _ rfl
  have g1:DataW.trod enc Tryz.prog W base sp held n 51 [c1]=some y1:=by simpa [Value.cells,cSs] using hg 1 _ rfl
  obtain⟨v0,l0,e0,h0,f0⟩:=open_defs g0
  obtain⟨v1,l1,e1,h1,f1,r1⟩:=open_stmsw g1
  simp only [List.cons.injEq,and_true] at e0 e1
  subst e0 e1
  refine⟨c0,c1,⟨l0,l1⟩,rfl,⟨h0,h1⟩,⟨f0,f1⟩,fun hw=>r1 fun n hn=>hw n ?_⟩
  have hx1:=congrArg Prod.fst hx
  simp only at hx1
  rw [hx1]
  simp only [DataW.weights,Tryz.underlying53,List.map_cons,DataW.weightsEach]
  exact List.mem_append_right _ (List.mem_append_left _ hn)
end
end Go.Proofs.YtihiggnglmhggaaGreatDoor.L10
end
section
namespace Go.Proofs.YtihiggnglmhggaaGreatDoor.L10
open Go.RowKit
attribute [local go_sem] Oper.semAt_some
def lsum:List Stm→Nat
 | []=>0
 | s::r=>s.labs.length+lsum r
theorem lsum_snoc (l:List Stm) (k:Nat) (h:k<l.length):lsum (l.take (k+1))=lsum (l.take k)+l[k].labs.length:=by
 have e:∀ (a:List Stm) (s:Stm),lsum (a++[s])=lsum a+s.labs.length:=fun a s=>by
  induction a with
  | nil=>simp [lsum]
  | cons x r ih=>simp only [List.cons_append,lsum,ih];omega
 rw [List.take_add_one,List.getElem?_eq_getElem h,Option.toList,e]
theorem lsum_le (l:List Stm) (R:Nat) (h:∀ s∈l,s.labs.length≤R):∀ k,lsum (l.take k)≤k*R:=by
 intro k
 induction k with
 | zero=>simp [lsum]
 | succ k ih =>
  by_cases hk:k<l.length
  ·rw [lsum_snoc l k hk,Nat.add_mul]
   have:=h l[k] (List.getElem_mem hk)
   omega
  ·rw [List.take_of_length_le (by omega)] at ih ⊢
   rw [Nat.add_mul];omega
theorem lsum_flat (l:List Stm):(l.flatMap (fun s=>s.labs)).length=lsum l:=by
 induction l with
 | nil=>rfl
 | cons s r ih=>rw [List.flatMap_cons,List.length_append,ih,lsum]
theorem lsum_mem:∀ (l:List Stm) (s:Stm),s∈l→s.labs.length≤lsum l
 | a::r,s,h=>by
  rw [lsum]
  rcases List.mem_cons.1 h with rfl|h
  ·omega
  ·have:=lsum_mem r s h;omega
theorem few_at (vm vs:Value) (p:Pg) (w:World) (hp:PgAt w vm vs p) (hr:∀ s∈p.stmts,TxRoom s.labs) (b1 b2 b3:Bool) (h1:decide (p.maps.length≤300)=b1) (h2:decide (p.stmts.length≤60)=b2) (h3:decide (lsum (p.stmts.take 61)≤200)=b3) :
  Calls Tryz.prog 21 #[.agg #[vm,vs]] w fun e w'=>e=.returned (.bool ((b1 && b2) && b3))∧Below w.heap.size w w':=by
 obtain⟨n1,hn1⟩:∃ n,p.maps.length=n:=⟨_,rfl⟩
 obtain⟨n2,hn2⟩:∃ n,p.stmts.length=n:=⟨_,rfl⟩
 obtain⟨a1,c1,rfl,-⟩:=df_form hn1 hp.1
 obtain⟨a2,c2,rfl,hc⟩:=sm_form hn2 hp.2
 rw [hn1] at h1
 rw [hn2] at h2
 have hle:=lsum_le p.stmts 8796093022208 (fun s hs=>(hr s hs).1)
 have HC:=Lib.hid hc
 have HN:=Lib.hid hn2
 have HR:=Lib.hid hr
 have HLE:=Lib.hid hle
 have H3:=Lib.hid h3
 have hb0:=L8.bnew w (.cells #[.slice a1 n1 c1,.slice a2 n2 c2] 53)
 have HB:=Lib.hid hb0
 have g1:decide ((n1:Int)≤300)=b1:=by rw [← h1,decide_eq_decide];omega
 have g2:decide ((n2:Int)≤60)=b2:=by rw [← h2,decide_eq_decide];omega
 have G1:=Lib.hid g1
 have G2:=Lib.hid g2
 clear hp hr hn1 hn2 hc hle h1 h2 h3 g1 g2 hb0
 go_enter Tryz.func21,Tryz.ntmps21
 go_wp2
 go_loop [3,4] (fun n i=>∃ k:Nat,k≤n2∧k≤61∧i=.int .i64 (k:Int)∧n=.int .i64 (lsum (p.stmts.take k):Int)) (fun _ i=>61-(RowKit.intOf i).toNat)
 case atStart=>exact⟨0,Nat.zero_le _,by omega,rfl,rfl⟩
 case round =>
  obtain⟨k,hk,hk2,rfl,rfl⟩:=hrel
  have hle:=HLE.out k
  by_cases hlt:k<n2∧k≤60
  ·obtain⟨hlt,hl6⟩:=hlt
   have hkl:k<p.stmts.length:=by rw [HN.out];exact hlt
   obtain⟨b,o,rfl,hbl,hc⟩:=HC.out (by omega)
   obtain⟨lv,hst,hx⟩:=hc k hkl
   obtain⟨ln,hln⟩:∃ ln,p.stmts[k].labs.length=ln:=⟨_,rfl⟩
   have hrm:=(HR.out _ (List.getElem_mem hkl)).1
   rw [hln] at hrm
   obtain⟨la,lc,rfl,-⟩:=st_form hln hst
   have x0:=hx 0 _ rfl
   rw [Nat.add_zero] at x0
   have hs:=lsum_snoc p.stmts k hkl
   rw [hln] at hs
   have HS:=Lib.hid hs
   obtain⟨m,hm⟩:∃ m,lsum (p.stmts.take k)=m:=⟨_,rfl⟩
   rw [hm] at hle HS ⊢
   have hmb:m≤60*8796093022208:=Nat.le_trans hle (Nat.mul_le_mul_right _ hl6)
   clear hx hc hst hln hs hm hle
   go_wp2
   go_round
   case rel=>exact⟨k+1,by omega,by omega,by go_num,by rw [HS.out];go_num⟩
   case measure=>simp [RowKit.intOf];omega
  ·have hk61:p.stmts.take k=p.stmts.take 61:=by
    by_cases hlt2:k<n2
    ·have:k=61:=by omega
     rw [this]
    ·rw [List.take_of_length_le (by rw [HN.out];omega),List.take_of_length_le (by rw [HN.out];omega)]
   rw [hk61] at hle ⊢
   have g3:decide ((lsum (p.stmts.take 61):Int)≤200)=b3:=by rw [← H3.out,decide_eq_decide];omega
   obtain⟨m,hm⟩:∃ m,lsum (p.stmts.take 61)=m:=⟨_,rfl⟩
   rw [hm] at g3 ⊢
   have g1:=G1.out
   have g2:=G2.out
   clear hk61 hm hle
   by_cases hlt2:k<n2
   ·have h6:¬ (k:Int)≤60:=by omega
    clear hlt
    cases b1 <;> cases b2 <;> cases b3
    all_goals
     go_wp2
     go_ret
     exact⟨rfl,HB.out⟩
   ·clear hlt
    cases b1 <;> cases b2 <;> cases b3
    all_goals
     go_wp2
     go_ret
     exact⟨rfl,HB.out⟩
theorem few_ex (vm vs:Value) (p:Pg) (w:World) (hp:PgAt w vm vs p) (hr:∀ s∈p.stmts,TxRoom s.labs) :
  ∃ b:Bool,(b=true→p.maps.length≤300∧p.stmts.length≤60∧lsum p.stmts≤200)∧∀ W,Below w.heap.size w W→Calls Tryz.prog 21 #[.agg #[vm,vs]] W fun e w'=>e=.returned (.bool b)∧Below W.heap.size W w':=by
 refine⟨_,fun h=>?_,fun W hb=>few_at vm vs p W (hp.below hb) hr _ _ _ rfl rfl rfl⟩
 simp only [Bool.and_eq_true,decide_eq_true_eq] at h
 obtain⟨⟨h1,h2⟩,h3⟩:=h
 rw [List.take_of_length_le (by omega)] at h3
 exact⟨h1,h2,h3⟩
theorem sml_few {p:Pg} (h:p.maps.length≤300∧p.stmts.length≤60∧lsum p.stmts≤200):Sml p :=
 ⟨by omega,by omega,fun s hs=>by have:=lsum_mem p.stmts s hs;omega⟩
end Go.Proofs.YtihiggnglmhggaaGreatDoor.L10
end
section
section
namespace Go.Proofs.YtihiggnglmhggaaGreatDoor.L4
open Go.RowKit L3 L1
end Go.Proofs.YtihiggnglmhggaaGreatDoor.L4
end
section
namespace Go.Proofs.YtihiggnglmhggaaGreatDoor.L10
open Go.RowKit Go.Maps
attribute [local go_sem] Oper.semAt_some
theorem kinds4 (f:Int):f=3∨f=4∨f=11∨((f==3)=false∧(f==4)=false∧(f==11)=false∧(f != 11)=true):=by
 by_cases h3:f=3
 ·exact .inl h3
 by_cases h4:f=4
 ·exact .inr (.inl h4)
 by_cases h11:f=11
 ·exact .inr (.inr (.inl h11))
 ·exact .inr (.inr (.inr (by simp [h3,h4,h11])))
theorem rstmt_at (lv:Value) (labs:List ByteArray) (op:Int) (reg:Bool) (dst src off imm:Int) (tg mp:ByteArray) (r:Int) (w:World) (hv:L8.StAt w lv labs) (hm:labs.length≤100000)
  (hz:∀ t∈labs,t.size≤maxLen) (hzt:tg.size≤maxLen) (hzm:mp.size≤maxLen) (hi0:-9223372036854775808≤imm) (hi1:imm≤9223372036854775807) (h:stE ⟨labs,⟨op,reg,dst,src,off,imm⟩,tg,mp⟩=r) :
  Calls Tryz.prog 87 #[.agg (smA lv op reg dst src off imm tg mp)] w fun e w'=>e=.returned (.int .i64 r)∧Below w.heap.size w w':=by
 obtain⟨n,hn⟩:∃ n,labs.length=n:=⟨_,rfl⟩
 obtain⟨f,hf⟩:∃ f,L3.frm (L3.ix op)=f:=⟨_,rfl⟩
 obtain⟨c,hcc⟩:∃ c,L4.chkF f reg dst src off imm=c:=⟨_,rfl⟩
 rw [stE_eq labs op reg dst src off imm tg mp f c _ _ hf hcc rfl rfl] at h
 have hrc:=L4.chk_eq f (hf ▸ L4.frm_isF op) reg dst src off imm hi0 hi1
 rw [hcc] at hrc
 have HR:=Lib.hid h
 have HZ:=Lib.hid hz
 have HV:=Lib.hid (fun (t:ByteArray) (W:World) (hs:t.size≤maxLen) (v:Bool) (hv:L2.vd t=v)=>L2.rvalid_at t v W (Nat.le_trans hs (by decide)) hv)
 have HT:=Lib.hid hzt
 have HM:=Lib.hid hzm
 have HC:=Lib.hid (fun (W:World)=>L4.rcheck_is op reg dst src off imm f c W hf hrc.symm)
 have HF:=Lib.hid (fun W=>L3.rform_at op f W hf)
 have HA:=Lib.hid (st_form hn hv)
 have HN:=Lib.hid hn
 clear hv h hf hcc hn hz hzt hzm hrc hi0 hi1
 obtain⟨a,cap,rfl,hc⟩:=HA.out
 have HD:=Lib.hid hc
 clear hc HA
 have hS:=heap_alloc_last w (.cells (smA (.slice a n cap) op reg dst src off imm tg mp) 80)
 have hB0:=L8.bnew w (.cells (smA (.slice a n cap) op reg dst src off imm tg mp) 80)
 obtain⟨g,hg⟩:∃ g,g=w.heap.size:=⟨_,rfl⟩
 go_enter Tryz.func87,Tryz.ntmps87
 go_upto_region 1 with (fail)
 rw [← hg] at hS ⊢
 clear hg
 generalize w.alloc (.cells (smA (.slice a n cap) op reg dst src off imm tg mp) 80)=W0 at hS hB0 ⊢
 have HW:=Lib.hid (show Below w.heap.size w W0 from hB0)
 clear hB0
 obtain⟨x0,x1,x2,x3,x4,x5,x6,x7,x8⟩:=cells9 hS
 have hg0:=World.block_lt_of_cell? _ _ x0
 simp only at hg0
 have hI:Hid ((labs.drop 0).all L2.vd=labs.all L2.vd):=Lib.hid rfl
 go_wp2
 go_loop [3] (fun i=>∃ j:Nat,j≤n∧i=.int .i64 (j:Int)∧Hid ((labs.drop j).all L2.vd=labs.all L2.vd)) (fun i=>n-(RowKit.intOf i).toNat)
 case atStart=>exact⟨0,Nat.zero_le _,rfl,hI⟩
 case round =>
  obtain⟨j,hj,rfl,hL⟩:=hrel
  clear hI
  by_cases hlt:j<n
  ·have hjl:j<labs.length:=by rw [HN.out];exact hlt
   obtain⟨b,o,rfl,hb,hc⟩:=HD.out (by omega)
   have hz:=HZ.out _ (List.getElem_mem hjl)
   obtain⟨x,hx⟩:∃ x,labs[j]=x:=⟨_,rfl⟩
   have hcx:W0.cell? ⟨b,o+j,none⟩=some (.string x):=(HW.out.cell (by exact hb)).trans (by rw [hc j hjl,hx])
   have hb1:=World.block_lt_of_cell? _ _ hcx
   simp only at hb1
   have hst:labs.all L2.vd=(L2.vd x && (labs.drop (j+1)).all L2.vd):=by rw [← hL.out,List.drop_eq_getElem_cons hjl,List.all_cons,hx]
   obtain⟨v,hv⟩:∃ v,L2.vd x=v:=⟨_,rfl⟩
   rw [hv] at hst
   rw [hx] at hz
   have HVV:=Lib.hid (HV.out x W0 hz v hv)
   have HS:=Lib.hid hst
   have hjI:(j:Int)<(n:Int):=by omega
   clear hc hx hst hv hL
   cases v
   ·obtain rfl:r=7:=by rw [← HR.out,HS.out];rfl
    go_wp2_with (go_at_call 60;((with_reducible refine (HVV.out).mono ?_);rintro e w1 ⟨rfl,rfl⟩))
    go_ret
    exact⟨rfl,HW.out⟩
   ·go_wp2_with (go_at_call 60;((with_reducible refine (HVV.out).mono ?_);rintro e w1 ⟨rfl,rfl⟩))
    go_round
    case rel=>exact⟨j+1,by omega,by go_num,Lib.hid (by rw [HS.out];rfl)⟩
    case measure=>simp [RowKit.intOf];omega
  ·obtain rfl:j=n:=by omega
   have hall:labs.all L2.vd=true:=by rw [← hL.out,List.drop_eq_nil_of_le (by rw [HN.out];exact Nat.le_refl _)];rfl
   have hr:=HR.out
   rw [hall,if_pos rfl] at hr
   clear hall HR hL HD HN
   by_cases hc0:c=0
   ·subst hc0
    rw [if_pos rfl] at hr
    have HR:=Lib.hid hr
    clear hr
    go_upto_region 9 with (go_at_call 77;((with_reducible refine (HC.out _).mono ?_);rintro e w1 ⟨rfl,b1⟩))
    have hS2:=L8.row_up hS b1
    have B2:=Lib.hid (L2.bch HW.out b1)
    clear x0 x1 x2 x3 x4 x5 x6 x7 x8 hg0 hS b1
    obtain⟨x0,x1,x2,x3,x4,x5,x6,x7,x8⟩:=cells9 hS2
    have hg0:=World.block_lt_of_cell? _ _ x0
    simp only at hg0
    go_upto_region 10 with (go_at_call 29;((with_reducible refine (HF.out _).mono ?_);rintro e w2 ⟨rfl,rfl⟩))
    rcases kinds4 f with rfl|rfl|rfl|⟨e3,e4,e11,n11⟩
    ·by_cases ho:off=0
     ·subst ho
      cases hme:mp.toList.isEmpty
      ·obtain rfl:r=12:=by rw [← HR.out];simp [L4.jmpF,hme]
       clear HR
       go_wp2
       go_ret
       exact⟨rfl,B2.out⟩
      ·obtain⟨v,hv⟩:∃ v,L2.vd tg=v:=⟨_,rfl⟩
       have HVV:=Lib.hid (HV.out tg w1 HT.out v hv)
       cases v
       ·obtain rfl:r=7:=by rw [← HR.out];simp [L4.jmpF,hme,hv]
        clear HR hv
        go_wp2_with (go_at_call 60;((with_reducible refine (HVV.out).mono ?_);rintro e w3 ⟨rfl,rfl⟩))
        go_ret
        exact⟨rfl,B2.out⟩
       ·obtain rfl:r=0:=by rw [← HR.out];simp [L4.jmpF,hme,hv]
        clear HR hv
        go_wp2_with (go_at_call 60;((with_reducible refine (HVV.out).mono ?_);rintro e w3 ⟨rfl,rfl⟩))
        go_ret
        exact⟨rfl,B2.out⟩
     ·obtain rfl:r=12:=by rw [← HR.out];simp [L4.jmpF,ho]
      clear HR
      go_wp2
      go_ret
      exact⟨rfl,B2.out⟩
    ·by_cases ho:off=0
     ·subst ho
      cases hme:mp.toList.isEmpty
      ·obtain rfl:r=12:=by rw [← HR.out];simp [L4.jmpF,hme]
       clear HR
       go_wp2
       go_ret
       exact⟨rfl,B2.out⟩
      ·obtain⟨v,hv⟩:∃ v,L2.vd tg=v:=⟨_,rfl⟩
       have HVV:=Lib.hid (HV.out tg w1 HT.out v hv)
       cases v
       ·obtain rfl:r=7:=by rw [← HR.out];simp [L4.jmpF,hme,hv]
        clear HR hv
        go_wp2_with (go_at_call 60;((with_reducible refine (HVV.out).mono ?_);rintro e w3 ⟨rfl,rfl⟩))
        go_ret
        exact⟨rfl,B2.out⟩
       ·obtain rfl:r=0:=by rw [← HR.out];simp [L4.jmpF,hme,hv]
        clear HR hv
        go_wp2_with (go_at_call 60;((with_reducible refine (HVV.out).mono ?_);rintro e w3 ⟨rfl,rfl⟩))
        go_ret
        exact⟨rfl,B2.out⟩
     ·obtain rfl:r=12:=by rw [← HR.out];simp [L4.jmpF,ho]
      clear HR
      go_wp2
      go_ret
      exact⟨rfl,B2.out⟩
    ·by_cases ho:imm=0
     ·subst ho
      cases hme:tg.toList.isEmpty
      ·obtain rfl:r=12:=by rw [← HR.out];simp [L4.jmpF,hme]
       clear HR
       go_wp2
       go_ret
       exact⟨rfl,B2.out⟩
      ·obtain⟨v,hv⟩:∃ v,L2.vd mp=v:=⟨_,rfl⟩
       have HVV:=Lib.hid (HV.out mp w1 HM.out v hv)
       cases v
       ·obtain rfl:r=7:=by rw [← HR.out];simp [L4.jmpF,hme,hv]
        clear HR hv
        go_wp2_with (go_at_call 60;((with_reducible refine (HVV.out).mono ?_);rintro e w3 ⟨rfl,rfl⟩))
        go_ret
        exact⟨rfl,B2.out⟩
       ·obtain rfl:r=0:=by rw [← HR.out];simp [L4.jmpF,hme,hv]
        clear HR hv
        go_wp2_with (go_at_call 60;((with_reducible refine (HVV.out).mono ?_);rintro e w3 ⟨rfl,rfl⟩))
        go_ret
        exact⟨rfl,B2.out⟩
     ·obtain rfl:r=12:=by rw [← HR.out];simp [L4.jmpF,ho]
      clear HR
      go_wp2
      go_ret
      exact⟨rfl,B2.out⟩
    ·cases hte:tg.toList.isEmpty
     ·obtain rfl:r=12:=by rw [← HR.out];simp [L4.jmpF,e3,e4,e11,hte]
      clear HR
      go_wp2
      go_ret
      exact⟨rfl,B2.out⟩
     ·cases hme:mp.toList.isEmpty
      ·obtain rfl:r=12:=by rw [← HR.out];simp [L4.jmpF,e3,e4,e11,hte,hme]
       clear HR
       go_wp2
       go_ret
       exact⟨rfl,B2.out⟩
      ·obtain rfl:r=0:=by rw [← HR.out];simp [L4.jmpF,e3,e4,e11,hte,hme]
       clear HR
       go_wp2
       go_ret
       exact⟨rfl,B2.out⟩
   ·rw [if_neg hc0] at hr
    subst hr
    go_wp2_with (go_at_call 77;((with_reducible refine (HC.out _).mono ?_);rintro e w1 ⟨rfl,b1⟩))
    go_ret
    exact⟨rfl,L2.bch HW.out b1⟩
def mpI:Nat→List L9.Df→ByteArray→Int
 | _,[],_=>-1
 | k,d::r,x=>if d.nm=x then (k:Int) else mpI (k+1) r x
theorem mpI_on:∀ (l:List L9.Df) (k:Nat) (x:ByteArray),decide (mpI k l x<0)=!L2.on (l.map (·.nm)) x
 | [],k,x=>rfl
 | d::r,k,x=>by
  rw [mpI,List.map_cons,on_cons]
  by_cases h:d.nm=x
  ·rw [if_pos h];simp [h]
  ·rw [if_neg h,mpI_on r (k+1) x];simp [h]
theorem rmap_at (vm vs:Value) (p:Pg) (x:ByteArray) (w:World) (hp:PgAt w vm vs p) (hs:Sml p) :
  Calls Tryz.prog 83 #[.agg #[vm,vs],.string x] w fun e w'=>e=.returned (.int .i64 (mpI 0 p.maps x))∧Below w.heap.size w w':=by
 obtain⟨n1,hn1⟩:∃ n,p.maps.length=n:=⟨_,rfl⟩
 obtain⟨n2,hn2⟩:∃ n,p.stmts.length=n:=⟨_,rfl⟩
 obtain⟨a1,c1,rfl,hc⟩:=df_form4 hn1 hp.1
 obtain⟨a2,c2,rfl,-⟩:=sm_form hn2 hp.2
 have hm1:=hs.maps
 rw [hn1] at hm1
 have HC:=Lib.hid hc
 have HN:=Lib.hid hn1
 obtain⟨R,hR⟩:∃ R,mpI 0 p.maps x=R:=⟨_,rfl⟩
 rw [hR]
 have hV:Hid (mpI 0 (p.maps.drop 0) x=R):=Lib.hid hR
 have HB:=Lib.hid (L8.bnew w (.cells #[.slice a1 n1 c1,.slice a2 n2 c2] 53))
 have x0:=(cells2p (heap_alloc_last w (.cells #[.slice a1 n1 c1,.slice a2 n2 c2] 53))).1
 have hlt0:=World.block_lt_of_cell? _ _ x0
 simp only at hlt0
 clear hp hs hn1 hn2 hc hR
 go_enter Tryz.func83,Tryz.ntmps83
 go_upto_region 1 with (fail)
 generalize w.alloc (.cells #[.slice a1 n1 c1,.slice a2 n2 c2] 53)=W0 at x0 hlt0 HB ⊢
 go_wp2
 go_loop [5] (fun i=>∃ k:Nat,k≤n1∧i=.int .i64 (k:Int)∧Hid (mpI k (p.maps.drop k) x=R)) (fun i=>n1-(RowKit.intOf i).toNat)
 case atStart=>exact⟨0,Nat.zero_le _,rfl,hV⟩
 case round =>
  obtain⟨k,hk,rfl,hT⟩:=hrel
  clear hV
  by_cases hlt:k<n1
  ·have hkl:k<p.maps.length:=by rw [HN.out];exact hlt
   obtain⟨b,o,rfl,hbl,hc⟩:=HC.out (by omega)
   have y0:=(HB.out.cell (by exact hbl)).trans (hc k hkl).1
   have hw1:=World.block_lt_of_cell? _ _ y0
   simp only at hw1
   have hst:=hT.out
   rw [List.drop_eq_getElem_cons hkl,mpI] at hst
   obtain⟨y,hy⟩:∃ y,p.maps[k].nm=y:=⟨_,rfl⟩
   rw [hy] at y0 hst
   clear hc hy hT
   by_cases he:y=x
   ·subst he
    rw [if_pos rfl] at hst
    have ht:(y.toList==y.toList)=true:=by simp
    subst hst
    go_wp2
    go_ret
    exact⟨rfl,HB.out⟩
   ·rw [if_neg he] at hst
    have ht:(y.toList==x.toList)=false:=L2.txt_ne he
    have HS:=Lib.hid hst
    clear he hst
    go_wp2
    go_round
    case rel=>exact⟨k+1,by omega,by go_num,HS⟩
    case measure=>simp [RowKit.intOf];omega
  ·obtain rfl:k=n1:=by omega
   have hst:=hT.out
   rw [List.drop_eq_nil_of_le (by rw [HN.out];exact Nat.le_refl _)] at hst
   have hst:-1=R:=hst
   subst hst
   clear hT
   go_wp2
   go_ret
   exact⟨rfl,HB.out⟩
end Go.Proofs.YtihiggnglmhggaaGreatDoor.L10
end
section
namespace Go.Proofs.YtihiggnglmhggaaGreatDoor.L10
open Go.RowKit
theorem fe_en (n:Nat) (l:List Stm) (hn:l.length=n) (h0:0<n):fe (l.mapIdx (enE n))=if L4.endF (fmI (l[n-1]'(by omega)).x) then (0,0) else (n-1,15):=by
 unfold fe
 have hb:∀ i,(hi:i<l.length)→i<n-1→(l.mapIdx (enE n))[i]'(by simpa using hi)=0:=fun i hi hlt=>by
  rw [List.getElem_mapIdx,enE]
  have:decide ((i:Int)<(n:Int)-1)=true:=by simp;omega
  rw [this,Bool.true_or,if_pos rfl]
 have hl:(l.mapIdx (enE n))[n-1]'(by rw [List.length_mapIdx];omega)=if L4.endF (fmI (l[n-1]'(by omega)).x) then 0 else 15:=by
  rw [List.getElem_mapIdx,enE]
  have:decide (((n-1:Nat):Int)<(n:Int)-1)=false:=by simp;omega
  rw [this,Bool.false_or]
 split
 ·rename_i h
  rw [if_pos h] at hl
  refine feF_zero _ _ fun e he=>?_
  obtain⟨i,hi,rfl⟩:=List.mem_iff_getElem.1 he
  have hi':i<l.length:=by simpa using hi
  by_cases hlt:i<n-1
  ·exact hb i hi' hlt
  ·obtain rfl:i=n-1:=by omega
   exact hl
 ·rename_i h
  rw [if_neg h] at hl
  have:=feF_first (l.mapIdx (enE n)) 0 (n-1) (by rw [List.length_mapIdx];omega) (fun i hi=>hb i (by omega) hi) (by rw [hl];decide)
  rw [this,hl];simp
theorem prs_pG:∀ (l:List Stm) (i:Nat),prs i l=pG i (l.map (·.labs))
 | [],_=>rfl
 | s::r,i=>by rw [prs,List.map_cons,pG,prs_pG r]
theorem dp_labs (l:List Stm):(L2.rp ((prs 0 l).map (·.1))=-1∧fe (dpE [] (l.map (·.labs)))=(0,0))∨∃ m,∃ h:m<(prs 0 l).length,L2.rp ((prs 0 l).map (·.1))=(m:Int)∧fe (dpE [] (l.map (·.labs)))=((prs 0 l)[m].2,10):=by
 have:=dp_rp (l.map (·.labs))
 simp only [← prs_pG] at this
 exact this
theorem prs_fst:∀ (l:List Stm) (i:Nat),(prs i l).map (·.1)=l.flatMap (·.labs)
 | [],_=>rfl
 | s::r,i=>by
  rw [prs,List.map_append,List.map_map,List.flatMap_cons,prs_fst r]
  congr 1
  exact List.map_id' _
theorem lbK_back (l:List Stm) (s:ByteArray):∀ n,0≤lbK l s n→∃ m,m<n∧L2.on (labsAt l m) s=true
 | 0,h=>by simp [lbK] at h
 | n+1,h=>by
  rw [lbK] at h
  by_cases hn:L2.on (labsAt l n) s=true
  ·exact⟨n,by omega,hn⟩
  ·rw [if_neg hn] at h
   obtain⟨m,h1,h2⟩:=lbK_back l s n h
   exact⟨m,by omega,h2⟩
theorem lbK_on (l:List Stm) (x:ByteArray):decide (lbK l x l.length<0)=!L2.on (l.flatMap (·.labs)) x:=by
 cases h:L2.on (l.flatMap (·.labs)) x
 ·simp only [Bool.not_false,decide_eq_true_eq]
  refine Int.not_le.1 fun hn=>?_
  obtain⟨m,h1,h2⟩:=lbK_back l x _ hn
  rw [labsAt_get l m h1] at h2
  have:L2.on (l.flatMap (·.labs)) x=true:=(L2.on_mem _ _).2 (List.mem_flatMap.2 ⟨l[m],List.getElem_mem h1,(L2.on_mem _ _).1 h2⟩)
  rw [h] at this
  cases this
 ·simp only [Bool.not_true,decide_eq_false_iff_not]
  obtain⟨s,hs,hx⟩:=List.mem_flatMap.1 ((L2.on_mem _ _).1 h)
  obtain⟨k,hk,rfl⟩:=List.mem_iff_getElem.1 hs
  obtain⟨m,h1,h2,_⟩:=lbK_in l x l.length k hk (by rw [labsAt_get l k hk];exact (L2.on_mem _ _).2 hx)
  rw [h2];omega
end Go.Proofs.YtihiggnglmhggaaGreatDoor.L10
end
section
namespace Go.Proofs.YtihiggnglmhggaaGreatDoor.L10
open Go.RowKit
attribute [local go_sem] Oper.semAt_some
theorem own_two {W W':World} {B eA eB n m:Nat} {vA vB:Value} {xs ys:List Value} (hA:W.ownsRow B eA 1 vA n xs) (hB:W.ownsRow B eB 1 vB m ys) (he:eA≠eB) (hg:W.grownBy W' vB.ownBlock):W'.ownsRow B eA 1 vA n xs :=
 own_kept hA hg fun g hg' e=>by
  obtain⟨c1,h1⟩:=own_ty hA hg'
  obtain⟨c2,h2⟩:=own_ty hB e
  rw [h1] at h2
  cases h2
  exact he rfl
theorem own_inat {W:World} {B e:TypeId} {v:Value} {xs:List Int} (h:W.ownsRow B e 1 v xs.length (inI xs)):InAt W v xs:=by
 rcases h.2 with ⟨rfl,h0⟩|⟨g,cap,cur,rfl,_,hh,_⟩
 ·exact .inr ⟨List.eq_nil_of_length_eq_zero h0,none,0,rfl⟩
 ·refine .inl ⟨g,0,cap,rfl,lt_of_block hh,fun k hk=>?_⟩
  have:=h.cells (g:=g) rfl k (.int .i64 xs[k]) (by simp [inI,List.getElem?_eq_getElem hk])
  rw [Nat.zero_add]
  rwa [L8.add0] at this
structure LJ (W0 W:World) (vn vw:Value) (q:Nat) (L:List (ByteArray × Nat)):Prop where
 n:W.ownsRow W0.heap.size 9 1 vn q (L8.stC (L.map (·.1)))
 w:W.ownsRow W0.heap.size 3 1 vw q (inI (L.map (fun y=>(y.2:Int))))
 len:L.length=q
 bel:Below W0.heap.size W0 W
theorem infoInt:(Tryz.prog.info? 3).map (fun i=>(i.zero,i.size,i.bytes))=some (some (.int .i64 0),1,8):=by kernel_rfl
theorem rlabels_at (vm vs:Value) (p:Pg) (w:World) (hp:PgAt w vm vs p) (hs:Sml p) :
  Calls Tryz.prog 88 #[.agg #[vm,vs]] w fun e w'=>∃ a1 c1 a2 c2,e=.returned (.tuple #[.slice a1 (prs 0 p.stmts).length c1,.slice a2 (prs 0 p.stmts).length c2])∧L8.StAt w' (.slice a1 (prs 0 p.stmts).length c1) ((prs 0 p.stmts).map (·.1))∧InAt w' (.slice a2 (prs 0 p.stmts).length c2) ((prs 0 p.stmts).map (fun y=>(y.2:Int)))∧Below w.heap.size w w':=by
 obtain⟨i0,hi,hz0,hz1,hz2⟩:=info_parts L9.Tryz.info9
 obtain⟨j0,hj,hy0,hy1,hy2⟩:=info_parts infoInt
 obtain⟨n1,hn1⟩:∃ n,p.maps.length=n:=⟨_,rfl⟩
 obtain⟨n2,hn2⟩:∃ n,p.stmts.length=n:=⟨_,rfl⟩
 obtain⟨a1,c1,rfl,-⟩:=df_form hn1 hp.1
 obtain⟨a2,c2,rfl,hc⟩:=sm_form hn2 hp.2
 have hm2:=hs.stmts
 rw [hn2] at hm2
 have HC:=Lib.hid hc
 have HN:=Lib.hid hn2
 have HL:=Lib.hid hs.labs
 have HB:=Lib.hid (L8.bnew w (.cells #[.slice a1 n1 c1,.slice a2 n2 c2] 53))
 have K0:=Lib.hid (heap_alloc_last w (.cells #[.slice a1 n1 c1,.slice a2 n2 c2] 53))
 clear hp hs hn1 hn2 hc
 go_enter Tryz.func88,Tryz.ntmps88
 go_upto_region 1 with (fail)
 have x1:=(cells2p K0.out).2
 have hlt1:=World.block_lt_of_cell? _ _ x1
 simp only at hlt1
 generalize w.alloc (.cells #[.slice a1 n1 c1,.slice a2 n2 c2] 53)=W0 at K0 x1 hlt1 HB ⊢
 have HI:Hid (LJ W0 W0 (.slice none 0 0) (.slice none 0 0) 0 (prs 0 (p.stmts.take 0))):=Lib.hid ⟨World.ownsRow_nil _ _ _ _,World.ownsRow_nil _ _ _ _,rfl,Below.refl _ _⟩
 go_wp2
 go_loopw [4,5,6,7] (fun vn vw i _ wr=>∃ k q:Nat,k≤n2∧i=.int .i64 (k:Int)∧q≤k*100000∧Hid (LJ W0 wr vn vw q (prs 0 (p.stmts.take k)))) (fun _ _ i _ _=>n2-(RowKit.intOf i).toNat)
 case atStart=>exact⟨0,0,Nat.zero_le _,rfl,Nat.zero_le _,HI⟩
 case round =>
  obtain⟨k,q,hk,rfl,hq,hI⟩:=hrel
  clear HI x1 hlt1
  have x1:=(cells2p (L8.row_up K0.out hI.out.bel)).2
  have hlt1:=World.block_lt_of_cell? _ _ x1
  simp only at hlt1
  by_cases hlt:k<n2
  ·have hkl:k<p.stmts.length:=by rw [HN.out];exact hlt
   obtain⟨b,o,rfl,hbl,hc⟩:=HC.out (by omega)
   obtain⟨lv,hst,hx⟩:=hc k hkl
   have hX0:=hx 0 _ rfl
   rw [Nat.add_zero] at hX0
   have HX0:=Lib.hid hX0
   have hll:=HL.out _ (List.getElem_mem hkl)
   have hpr:=prs_snoc p.stmts k hkl
   rw [labsAt_get _ _ hkl] at hpr
   obtain⟨s,hs⟩:∃ s,p.stmts[k]=s:=⟨_,rfl⟩
   rw [hs] at hst hll hpr
   obtain⟨ln,hln⟩:∃ ln,s.labs.length=ln:=⟨_,rfl⟩
   obtain⟨la,lc,rfl,hla⟩:=st_form hln hst
   rw [hln] at hll
   obtain⟨PL,hPL⟩:∃ PL,prs 0 (p.stmts.take k)=PL:=⟨_,rfl⟩
   rw [hPL] at hI hpr
   have HLA:=Lib.hid hla
   have HLN:=Lib.hid hln
   have HPR:=Lib.hid hpr
   have HJ:Hid (LJ W0 wr _ _ q (PL++(s.labs.take 0).map (fun x=>(x,k)))):=Lib.hid (by rw [List.take_zero,List.map_nil,List.append_nil];exact hI.out)
   clear hx hX0 hc hst hs hPL hla hpr hln hI
   go_wp2
   go_loopw [4,5,7] (fun vn vw i wi=>∃ j q:Nat,j≤ln∧i=.int .i64 (j:Int)∧q≤k*100000+j∧Hid (LJ W0 wi vn vw q (PL++(s.labs.take j).map (fun x=>(x,k))))) (fun _ _ i _=>ln-(RowKit.intOf i).toNat)
   case atStart=>exact⟨0,q,Nat.zero_le _,rfl,Nat.le_trans hq (Nat.le_add_right _ _),HJ⟩
   case round =>
    obtain⟨j,q,hj2,rfl,hq,hJ⟩:=hrel
    clear HJ x1 hlt1
    have x1:=(cells2p (L8.row_up K0.out hJ.out.bel)).2
    have hlt1:=World.block_lt_of_cell? _ _ x1
    simp only at hlt1
    have hbw:=L2.bch HB.out hJ.out.bel
    have x0:=(hbw.cell (by exact hbl)).trans HX0.out
    have hw1:=World.block_lt_of_cell? _ _ x0
    simp only at hw1
    by_cases hjn:j<ln
    ·have hjl:j<s.labs.length:=by rw [HLN.out];exact hjn
     obtain⟨bb,oo,rfl,hbb,hcc⟩:=HLA.out (by omega)
     have z0:=(hbw.cell (by exact hbb)).trans (hcc j hjl)
     have hw2:=World.block_lt_of_cell? _ _ z0
     simp only at hw2
     have hsn:=pl_snoc PL s.labs k j hjl
     obtain⟨T,hT⟩:∃ T,s.labs[j]=T:=⟨_,rfl⟩
     obtain⟨Q,hQ⟩:∃ Q,PL++(s.labs.take j).map (fun x=>(x,k))=Q:=⟨_,rfl⟩
     rw [hT] at z0 hsn
     rw [hQ] at hJ hsn
     have HS:=Lib.hid hsn
     have hown:=hJ.out.n
     have howh:=hJ.out.w
     have HLq:=Lib.hid hJ.out.len
     have HBl:=Lib.hid hJ.out.bel
     have hszW:=HBl.out.size
     have hjI:(j:Int)<(ln:Int):=by omega
     clear hT hQ hsn hbw hcc hJ
     go_wp2_with (first
      | (at_builtin;refine wpList_append_own _ rfl _ _ 78 rfl W0.heap.size 9 i0 (.string ⟨#[]⟩) 1 16 Tryz.underlying78 hi hz0 hz1 hz2 rfl (by decide) _ q _ rfl (hown.alloc _) ⟨wr.heap.size,0,none⟩ 1 1 [.string T] rfl rfl (World.news_of_block (cs:=#[.string T]) (t:=9) (fr:=(0,0)) (heap_alloc_last wr _)) (by simp [Value.oneCell']) (by unfold maxLen;omega) (by omega) (by simp;omega) ?_;intro v' w3 hown3 hgrow3 _;have howh3:=own_two (howh.alloc _) (hown.alloc _) (by decide) hgrow3;have B3:=(HBl.out.alloc hszW (.cells #[.string T] 9)).grown hgrow3 (by simp;omega) (L8.own_base hown);have hsz3:=B3.size)
      | (at_builtin;refine wpList_append_own _ rfl _ _ 46 rfl W0.heap.size 3 j0 (.int .i64 0) 1 8 Tryz.underlying46 hj hy0 hy1 hy2 rfl (by decide) _ q _ rfl (howh3.alloc _) ⟨w3.heap.size,0,none⟩ 1 1 [.int .i64 (k:Int)] rfl rfl (World.news_of_block (cs:=#[.int .i64 (k:Int)]) (t:=3) (fr:=(0,0)) (heap_alloc_last w3 _)) (by simp [Value.oneCell']) (by unfold maxLen;omega) (by omega) (by simp;omega) ?_;intro v'' w5 howh5 hgrow5 _;have hown5:=own_two (hown3.alloc _) (howh3.alloc _) (by decide) hgrow5;have B5:=(B3.alloc hsz3 (.cells #[.int .i64 (k:Int)] 3)).grown hgrow5 (by simp;omega) (L8.own_base howh3))
      | go_in)
     go_roundw
     case rel =>
      refine⟨j+1,q+1,by omega,by go_num,by omega,Lib.hid ?_⟩
      rw [HS.out]
      refine⟨?_,?_,?_,B5⟩
      ·rw [List.map_append,List.map_cons,List.map_nil,L8.stC_snoc];exact hown5
      ·rw [List.map_append,List.map_cons,List.map_nil,inI,List.map_append];exact howh5
      ·rw [List.length_append,HLq.out];rfl
     case measure=>simp [RowKit.intOf];omega
    ·obtain rfl:j=ln:=by omega
     have HJ2:Hid (LJ W0 wr _ _ q (prs 0 (p.stmts.take (k+1)))):=Lib.hid (by
      have h:=hJ.out
      rw [List.take_of_length_le (by rw [HLN.out];exact Nat.le_refl _),← HPR.out] at h
      exact h)
     clear hJ
     go_wp2
     go_roundw
     case rel=>exact⟨k+1,q,by omega,by go_num,by omega,HJ2⟩
     case measure=>simp [RowKit.intOf];omega
  ·obtain rfl:k=n2:=by omega
   have hJ:=hI.out
   rw [List.take_of_length_le (by rw [HN.out];exact Nat.le_refl _)] at hJ
   obtain⟨va,vc,rfl⟩:=L8.owns_slice hJ.n
   obtain⟨ua,uc,rfl⟩:=L8.owns_slice hJ.w
   have HJ2:=Lib.hid hJ
   clear hI hJ
   go_wp2
   go_ret2
   have hJ:=HJ2.out
   have hl:=hJ.len
   subst hl
   refine⟨_,_,_,_,rfl,L8.own_st (by rw [List.length_map];exact hJ.n),own_inat (by rw [List.length_map];exact hJ.w),L2.bch HB.out hJ.bel⟩
end Go.Proofs.YtihiggnglmhggaaGreatDoor.L10
end
section
namespace Go.Proofs.YtihiggnglmhggaaGreatDoor.L10
open Go.RowKit
attribute [local go_sem] Oper.semAt_some
theorem fr_hit {c b:Bool} {x:Nat × Int} {r:List (Bool × Nat × Int)} {k i:Nat} {er e:Int} (h:frB ((c,x)::r)=(b,k,er)) (hx:x=(i,e)) (he:e≠0):k=i∧er=e:=by
 subst hx
 rw [frB,if_neg (by simpa using he)] at h
 simp only [Prod.mk.injEq] at h
 exact⟨h.2.1.symm,h.2.2.symm⟩
theorem fr_miss {c b:Bool} {x:Nat × Int} {r:List (Bool × Nat × Int)} {k i:Nat} {er:Int} (h:frB ((c,x)::r)=(b,k,er)) (hx:x=(i,0)):frB r=(b,k,er):=by
 subst hx
 rwa [frB,if_pos rfl] at h
theorem feS (l:List Stm) (g:Stm→Int) (j:Nat) (h:j<l.length):feF j ((l.map g).drop j)=if g l[j]=0 then feF (j+1) ((l.map g).drop (j+1)) else (j,g l[j]):=by
 have:=feF_step (l.map g) j (by simpa using h)
 simpa using this
theorem unE_lb (p:Pg) (s:Stm):unE p s=if (s.tg.toList.isEmpty || !decide (lbK p.stmts s.tg p.stmts.length<0)) && (s.mp.toList.isEmpty || !decide (mpI 0 p.maps s.mp<0)) then 0 else 11:=by
 rw [lbK_on,mpI_on,Bool.not_not,Bool.not_not]
 rfl
theorem wf_imm {x:Int} (h:(Lit.int .i64 x).wf=true):-9223372036854775808≤x∧x≤9223372036854775807:=by
 simpa [Lit.wf,IntKind.min,IntKind.max,IntKind.bits,IntKind.signed] using h
theorem rcheck10_at (vm vs:Value) (p:Pg) (w:World) (hp:PgAt w vm vs p) (hf:PgFit p) (hfew:p.maps.length≤300∧p.stmts.length≤60∧lsum p.stmts≤200) (b:Bool) (K:Nat) (er:Int) (hr:brV p=(b,K,er)) :
  Calls Tryz.prog 48 #[.agg #[vm,vs]] w fun e w'=>e=.returned (.tuple #[.int .i64 (K:Int),.int .i64 er])∧Below w.heap.size w w':=by
 obtain⟨i0,hi,hz0,hz1,hz2⟩:=info_parts L9.Tryz.info9
 have hs:=sml_few hfew
 obtain⟨n1,hn1⟩:∃ n,p.maps.length=n:=⟨_,rfl⟩
 obtain⟨n2,hn2⟩:∃ n,p.stmts.length=n:=⟨_,rfl⟩
 obtain⟨a1,c1,rfl,hd⟩:=df_form4 hn1 hp.1
 obtain⟨a2,c2,rfl,hc⟩:=sm_form hn2 hp.2
 have hm1:n1≤300:=hn1 ▸ hfew.1
 have hm2:n2≤60:=hn2 ▸ hfew.2.1
 have HP:=Lib.hid hp
 have HS0:=Lib.hid hs
 have HFW:=Lib.hid hfew
 have HFT:=Lib.hid hf
 have HD:=Lib.hid hd
 have HC:=Lib.hid hc
 have HN1:=Lib.hid hn1
 have HN2:=Lib.hid hn2
 have HR:=Lib.hid hr
 have HB:=Lib.hid (L8.bnew w (.cells #[.slice a1 n1 c1,.slice a2 n2 c2] 53))
 have K0:=Lib.hid (heap_alloc_last w (.cells #[.slice a1 n1 c1,.slice a2 n2 c2] 53))
 clear hp hs hf hfew hd hc hn1 hn2 hr
 go_enter Tryz.func48,Tryz.ntmps48
 go_upto_region 1 with (fail)
 obtain⟨k0,hk0⟩:∃ k,w.heap.size=k:=⟨_,rfl⟩
 rw [hk0] at K0 ⊢
 have HK0:=Lib.hid hk0
 obtain⟨x0,x1⟩:=cells2p K0.out
 have hlt0:=World.block_lt_of_cell? _ _ x0
 simp only at hlt0
 clear hk0
 generalize w.alloc (.cells #[.slice a1 n1 c1,.slice a2 n2 c2] 53)=W0 at K0 x0 x1 hlt0 HB ⊢
 have HI:Hid (W0.ownsRow W0.heap.size 9 1 (.slice none 0 0) 0 (L8.stC ((p.maps.take 0).map (·.nm)))∧Below W0.heap.size W0 W0∧feF 0 ((p.maps.map deE).drop 0)=fe (p.maps.map deE)):=Lib.hid ⟨World.ownsRow_nil _ _ _ _,Below.refl _ _,rfl⟩
 go_wp2
 go_loopw [4,5] (fun vn i wr=>∃ k:Nat,k≤n1∧i=.int .i64 (k:Int)∧Hid (wr.ownsRow W0.heap.size 9 1 vn k (L8.stC ((p.maps.take k).map (·.nm)))∧Below W0.heap.size W0 wr∧feF k ((p.maps.map deE).drop k)=fe (p.maps.map deE))) (fun _ i _=>n1-(RowKit.intOf i).toNat)
 case atStart=>exact⟨0,Nat.zero_le _,rfl,HI⟩
 case round =>
  obtain⟨k,hk,rfl,hI⟩:=hrel
  clear HI x0 x1 hlt0
  obtain⟨x0,x1⟩:=cells2p (L8.row_up K0.out hI.out.2.1)
  have hlt0:=World.block_lt_of_cell? _ _ x0
  simp only at hlt0
  by_cases hlt:k<n1
  ·have hkl:k<p.maps.length:=by rw [HN1.out];exact hlt
   obtain⟨b1,o1,rfl,hb1,hcc⟩:=HD.out (by omega)
   obtain⟨z0,z1,z2,z3⟩:=hcc k hkl
   have hfit:=HFT.out.maps _ (List.getElem_mem hkl)
   have hstep:=feM p.maps deE k hkl
   rw [hI.out.2.2,deE_siz] at hstep
   have hown:=hI.out.1
   have HBW:=Lib.hid hI.out.2.1
   have hsz:=HBW.out.size
   have HTK:Hid ((p.maps.take (k+1)).map (·.nm)=(p.maps.take k).map (·.nm)++[p.maps[k].nm]):=Lib.hid (by rw [List.take_add_one,List.getElem?_eq_getElem hkl,Option.toList,List.map_append];rfl)
   obtain⟨d,hd⟩:∃ d,p.maps[k]=d:=⟨_,rfl⟩
   rw [hd] at z0 z1 z2 z3 hfit hstep HTK
   have HZ:=Lib.hid (And.intro z0 (And.intro z1 (And.intro z2 z3)))
   have hcw:=fun (W:World) (o:Nat) (v:Value) (hB:Below w.heap.size w W) (h:w.cell? ⟨b1,o,none⟩=some v)=>(hB.cell (p:=⟨b1,o,none⟩) hb1).trans h
   have HCW:=Lib.hid hcw
   have y0:=hcw wr _ _ (L2.bch HB.out HBW.out) z0
   have hw1:=World.block_lt_of_cell? _ _ y0
   simp only at hw1
   obtain⟨v,hv⟩:∃ v,L2.vd d.nm=v:=⟨_,rfl⟩
   obtain⟨s,hss⟩:∃ s,L9.sizV d=s:=⟨_,rfl⟩
   have HV:=Lib.hid (fun W=>L2.rvalid_at d.nm v W (Nat.le_trans hfit.nm (by decide)) hv)
   have HSZ:=Lib.hid (fun W=>L9.rsizes_at d s W hss)
   rw [hv,hss] at hstep
   have HST:=Lib.hid hstep
   clear hcw z0 z1 z2 z3 hcc hfit hstep hd hv hss hI
   cases v
   ·obtain⟨rfl,rfl⟩:K=k∧er=7:=fr_hit HR.out HST.out (by decide)
    go_wp2_with (first
     | (at_builtin;refine wpList_append_own _ rfl _ _ 78 rfl W0.heap.size 9 i0 (.string ⟨#[]⟩) 1 16 Tryz.underlying78 hi hz0 hz1 hz2 rfl (by decide) _ K _ rfl (hown.alloc _) ⟨wr.heap.size,0,none⟩ 1 1 [.string d.nm] rfl rfl (World.news_of_block (cs:=#[.string d.nm]) (t:=9) (fr:=(0,0)) (heap_alloc_last wr _)) (by simp [Value.oneCell']) (by unfold maxLen;omega) (by omega) (by simp;omega) ?_;intro v' w3 hown3 hgrow3 _;have B3:=(HBW.out.alloc hsz (.cells #[.string d.nm] 9)).grown hgrow3 (by simp;omega) (L8.own_base hown);have u0:=(cells2p (L8.row_up K0.out B3)).1;have ul:=World.block_lt_of_cell? _ _ u0;have t0:=HCW.out w3 _ _ (L2.bch HB.out B3) HZ.out.1;have tl:=World.block_lt_of_cell? _ _ t0;simp only at ul tl)
     | (go_at_call 60;((with_reducible refine (HV.out _).mono ?_);rintro e w4 ⟨rfl,rfl⟩))
     | go_in)
    go_ret2
    exact⟨rfl,L2.bch HB.out B3⟩
   cases s
   ·obtain⟨rfl,rfl⟩:K=k∧er=9:=fr_hit HR.out HST.out (by decide)
    go_wp2_with (first
     | (at_builtin;refine wpList_append_own _ rfl _ _ 78 rfl W0.heap.size 9 i0 (.string ⟨#[]⟩) 1 16 Tryz.underlying78 hi hz0 hz1 hz2 rfl (by decide) _ K _ rfl (hown.alloc _) ⟨wr.heap.size,0,none⟩ 1 1 [.string d.nm] rfl rfl (World.news_of_block (cs:=#[.string d.nm]) (t:=9) (fr:=(0,0)) (heap_alloc_last wr _)) (by simp [Value.oneCell']) (by unfold maxLen;omega) (by omega) (by simp;omega) ?_;intro v' w3 hown3 hgrow3 _;have B3:=(HBW.out.alloc hsz (.cells #[.string d.nm] 9)).grown hgrow3 (by simp;omega) (L8.own_base hown);have u0:=(cells2p (L8.row_up K0.out B3)).1;have ul:=World.block_lt_of_cell? _ _ u0;have t0:=HCW.out w3 _ _ (L2.bch HB.out B3) HZ.out.1;have t1:=HCW.out w3 _ _ (L2.bch HB.out B3) HZ.out.2.1;have t2:=HCW.out w3 _ _ (L2.bch HB.out B3) HZ.out.2.2.1;have t3:=HCW.out w3 _ _ (L2.bch HB.out B3) HZ.out.2.2.2;have tl:=World.block_lt_of_cell? _ _ t0;simp only at ul tl)
     | (go_at_call 60;((with_reducible refine (HV.out _).mono ?_);rintro e w4 ⟨rfl,rfl⟩))
     | (go_at_call 61;((with_reducible refine (HSZ.out _).mono ?_);rintro e w5 ⟨rfl,b5⟩))
     | go_in)
    go_ret2
    exact⟨rfl,L2.bch HB.out (L2.bch B3 b5)⟩
   ·go_wp2_with (first
     | (at_builtin;refine wpList_append_own _ rfl _ _ 78 rfl W0.heap.size 9 i0 (.string ⟨#[]⟩) 1 16 Tryz.underlying78 hi hz0 hz1 hz2 rfl (by decide) _ k _ rfl (hown.alloc _) ⟨wr.heap.size,0,none⟩ 1 1 [.string d.nm] rfl rfl (World.news_of_block (cs:=#[.string d.nm]) (t:=9) (fr:=(0,0)) (heap_alloc_last wr _)) (by simp [Value.oneCell']) (by unfold maxLen;omega) (by omega) (by simp;omega) ?_;intro v' w3 hown3 hgrow3 _;have B3:=(HBW.out.alloc hsz (.cells #[.string d.nm] 9)).grown hgrow3 (by simp;omega) (L8.own_base hown);have u0:=(cells2p (L8.row_up K0.out B3)).1;have ul:=World.block_lt_of_cell? _ _ u0;have t0:=HCW.out w3 _ _ (L2.bch HB.out B3) HZ.out.1;have t1:=HCW.out w3 _ _ (L2.bch HB.out B3) HZ.out.2.1;have t2:=HCW.out w3 _ _ (L2.bch HB.out B3) HZ.out.2.2.1;have t3:=HCW.out w3 _ _ (L2.bch HB.out B3) HZ.out.2.2.2;have tl:=World.block_lt_of_cell? _ _ t0;simp only at ul tl)
     | (go_at_call 60;((with_reducible refine (HV.out _).mono ?_);rintro e w4 ⟨rfl,rfl⟩))
     | (go_at_call 61;((with_reducible refine (HSZ.out _).mono ?_);rintro e w5 ⟨rfl,b5⟩))
     | go_in)
    go_roundw
    case rel=>exact⟨k+1,by omega,by go_num,Lib.hid ⟨by rw [HTK.out,L8.stC_snoc];exact L8.own_below hown3 b5,L2.bch B3 b5,HST.out.symm⟩⟩
    case measure=>simp [RowKit.intOf];omega
  ·obtain rfl:k=n1:=by omega
   have hI':=hI.out
   rw [List.take_of_length_le (by rw [HN1.out];exact Nat.le_refl _),feF_end _ _ (by rw [List.length_map,HN1.out];exact Nat.le_refl _)] at hI'
   obtain⟨va,vc,rfl⟩:=L8.owns_slice hI'.1
   have HNM:Hid (L8.StAt wr (.slice va k vc) (p.maps.map (·.nm))):=Lib.hid (by
    have h:=hI'.1
    rw [← HN1.out] at h ⊢
    have:=L8.own_st (l:=p.maps.map (·.nm)) (by rw [List.length_map];exact h)
    exact this)
   have HBW:=Lib.hid hI'.2.1
   have HR1:=Lib.hid (fr_miss HR.out hI'.2.2.symm)
   have HJ:Hid (Below wr.heap.size wr wr∧feF 0 ((p.stmts.map stE).drop 0)=fe (p.stmts.map stE)):=Lib.hid ⟨Below.refl _ _,rfl⟩
   clear hI hI' HR
   obtain⟨w1,rfl⟩:∃ w1,w1=wr:=⟨_,rfl⟩
   go_upto_region 10 with (fail)
   go_wp2
   go_loopw [6,7] (fun i _ wi=>∃ k2:Nat,k2≤n2∧i=.int .i64 (k2:Int)∧Hid (Below w1.heap.size w1 wi∧feF k2 ((p.stmts.map stE).drop k2)=fe (p.stmts.map stE))) (fun i _ _=>n2-(RowKit.intOf i).toNat)
   case atStart=>exact⟨0,Nat.zero_le _,rfl,HJ⟩
   case round =>
    obtain⟨k2,hk2,rfl,hJ⟩:=hrel
    clear HJ x0 x1 hlt0
    obtain⟨x0,x1⟩:=cells2p (L8.row_up (L8.row_up K0.out HBW.out) hJ.out.1)
    have hlt0:=World.block_lt_of_cell? _ _ x0
    simp only at hlt0
    have HB2:=Lib.hid (L2.bch (L2.bch HB.out HBW.out) hJ.out.1)
    by_cases hlt2:k2<n2
    ·have hkl:k2<p.stmts.length:=by rw [HN2.out];exact hlt2
     obtain⟨b2,o2,rfl,hb2,hcc⟩:=HC.out (by omega)
     obtain⟨lv,hst,hx⟩:=hcc k2 hkl
     have hX:=fun i u hu=>(HB2.out.cell (by exact hb2)).trans (hx i u hu)
     have y0:=hX 0 _ rfl
     have y1:=hX 1 _ rfl
     have y2:=hX 2 _ rfl
     have y3:=hX 3 _ rfl
     have y4:=hX 4 _ rfl
     have y5:=hX 5 _ rfl
     have y6:=hX 6 _ rfl
     have y7:=hX 7 _ rfl
     have y8:=hX 8 _ rfl
     rw [Nat.add_zero] at y0
     have hw1:=World.block_lt_of_cell? _ _ y0
     simp only at hw1
     have hfit:=HFT.out.stmts _ (List.getElem_mem hkl)
     have hll:=HS0.out.labs _ (List.getElem_mem hkl)
     have hstep:=feS p.stmts stE k2 hkl
     rw [hJ.out.2] at hstep
     obtain⟨s,hs⟩:∃ s,p.stmts[k2]=s:=⟨_,rfl⟩
     rw [hs] at y1 y2 y3 y4 y5 y6 y7 y8 hst hfit hll hstep
     obtain⟨e,he⟩:∃ e,stE s=e:=⟨_,rfl⟩
     have HS:=Lib.hid (rstmt_at lv s.labs s.x.op s.x.reg s.x.dst s.x.src s.x.off s.x.imm s.tg s.mp e wr (hst.below HB2.out) hll hfit.lb hfit.tg hfit.mp (wf_imm hfit.imm).1 (wf_imm hfit.imm).2 he)
     rw [he] at hstep
     have HST:=Lib.hid hstep
     clear hx hX hcc hst hfit hll hs he hstep
     by_cases he0:e=0
     ·subst he0
      have HS2:=Lib.hid (show fe (p.stmts.map stE)=feF (k2+1) ((p.stmts.map stE).drop (k2+1)) by rw [HST.out,if_pos rfl])
      go_wp2_with (go_at_call 87;((with_reducible refine (HS.out).mono ?_);rintro e w4 ⟨rfl,b4⟩))
      go_roundw
      case rel=>exact⟨k2+1,by omega,by go_num,Lib.hid ⟨L2.bch hJ.out.1 b4,HS2.out.symm⟩⟩
      case measure=>simp [RowKit.intOf];omega
     ·obtain⟨rfl,rfl⟩:K=k2∧er=e:=fr_hit HR1.out (by rw [HST.out,if_neg he0]) he0
      go_wp2_with (go_at_call 87;((with_reducible refine (HS.out).mono ?_);rintro e w4 ⟨rfl,b4⟩))
      go_ret2
      exact⟨rfl,L2.bch HB2.out b4⟩
    ·obtain rfl:k2=n2:=by omega
     have hJ':=hJ.out.2
     rw [feF_end _ _ (by rw [List.length_map,HN2.out];exact Nat.le_refl _)] at hJ'
     have HR2:=Lib.hid (fr_miss HR1.out hJ'.symm)
     have HNM2:=Lib.hid (HNM.out.below hJ.out.1)
     have HPR:=Lib.hid (L8.row_up (L8.row_up K0.out HBW.out) hJ.out.1)
     clear hJ hJ' HR1 HNM
     have hsz:=fe_sz p.maps.length
     rw [HN1.out] at hsz
     by_cases h255:k≤255
     ·rw [if_pos h255] at hsz
      have HR3:=Lib.hid (fr_miss HR2.out (by rw [HN1.out];exact hsz))
      clear HR2 hsz
      have HG:=Lib.hid (fun (W:World) (hb:Below w.heap.size w W)=>rlabels_at (.slice a1 k c1) (.slice a2 k2 c2) p W (HP.out.below hb) HS0.out)
      have hRP1:=rrep10 wr (.slice va k vc) (p.maps.map (·.nm)) (by rw [List.length_map,HN1.out];omega) HNM2.out
      rcases dp_maps p.maps with ⟨hrp,hfe⟩|⟨m,hrp,hfe⟩
      ·rw [hrp] at hRP1
       have HRP1:=Lib.hid hRP1
       have HR4:=Lib.hid (fr_miss HR3.out hfe)
       clear hRP1 hrp hfe HR3
       have HPL:Hid (((prs 0 p.stmts).map (·.1)).length≤1000):=Lib.hid (by
        rw [prs_fst,lsum_flat]
        have:=HFW.out.2.2
        omega)
       obtain⟨nl,hnl⟩:∃ nl,(prs 0 p.stmts).length=nl:=⟨_,rfl⟩
       simp only [hnl] at HG
       have HNL:=Lib.hid hnl
       clear hnl
       rcases dp_labs p.stmts with ⟨hrp,hfe⟩|⟨m,hm,hrp,hfe⟩
       ·have HRP2:=Lib.hid (fun (W:World) (v:Value) (h:L8.StAt W v ((prs 0 p.stmts).map (·.1)))=>hrp ▸ rrep10 W v _ HPL.out h)
        have HR5:=Lib.hid (fr_miss HR4.out hfe)
        clear hrp hfe HR4
        by_cases hz:k2=0
        ·subst hz
         obtain⟨rfl,rfl⟩:K=0∧er=15:=fr_hit HR5.out (by rw [HN2.out];rfl) (by decide)
         go_wp2_with (first
          | (go_at_call 62;((with_reducible refine (HRP1.out).mono ?_);rintro e w4 ⟨rfl,b4⟩;have B4:=L2.bch HB2.out b4;have r4:=L8.row_up HPR.out b4;have q0:=(cells2p r4).1;have q1:=(cells2p r4).2))
          | (go_at_call 88;((with_reducible refine (HG.out _ B4).mono ?_);rintro e w5 ⟨a3,c3,a4,c4,rfl,hst5,hin5,b5⟩))
          | (go_at_call 62;((with_reducible refine (HRP2.out _ _ hst5).mono ?_);rintro e w6 ⟨rfl,b6⟩;have B6:=L2.bch (L2.bch B4 b5) b6;have r6:=L8.row_up (L8.row_up r4 b5) b6;have p0:=(cells2p r6).1;have p1:=(cells2p r6).2;have pl:=World.block_lt_of_cell? _ _ p0;simp only at pl)))
         go_ret2
         exact⟨rfl,B6⟩
        ·have HR6:=Lib.hid (fr_miss HR5.out (by rw [HN2.out,if_pos (by omega)]))
         clear HR5
         have hk2p:(0:Int)<(k2:Int):=by omega
         have hk2e:((k2:Int)==0)=false:=by simpa using hz
         have hpos:0<k2:=by omega
         clear hz
         go_upto_region 27 with (first
          | (go_at_call 62;((with_reducible refine (HRP1.out).mono ?_);rintro e w4 ⟨rfl,b4⟩;have B4:=L2.bch HB2.out b4;have r4:=L8.row_up HPR.out b4;have q0:=(cells2p r4).1;have q1:=(cells2p r4).2))
          | (go_at_call 88;((with_reducible refine (HG.out _ B4).mono ?_);rintro e w5 ⟨a3,c3,a4,c4,rfl,hst5,hin5,b5⟩))
          | (go_at_call 62;((with_reducible refine (HRP2.out _ _ hst5).mono ?_);rintro e w6 ⟨rfl,b6⟩;have B6:=L2.bch (L2.bch B4 b5) b6;have r6:=L8.row_up (L8.row_up r4 b5) b6;have p0:=(cells2p r6).1;have p1:=(cells2p r6).2;have pl:=World.block_lt_of_cell? _ _ p0;simp only at pl)))
         have HB6:=Lib.hid B6
         have HR66:=Lib.hid r6
         clear x0 x1 hlt0 q0 q1 p0 p1 pl b4 b5 b6 B4 B6 r4 r6 hst5 hin5
         have HQ:Hid (Below w6.heap.size w6 w6∧feF 0 ((p.stmts.map (unE p)).drop 0)=fe (p.stmts.map (unE p))):=Lib.hid ⟨Below.refl _ _,rfl⟩
         go_wp2
         go_loopw [11,12] (fun iv _ wi=>∃ i:Nat,i≤k2∧iv=.int .i64 (i:Int)∧Hid (Below w6.heap.size w6 wi∧feF i ((p.stmts.map (unE p)).drop i)=fe (p.stmts.map (unE p)))) (fun iv _ _=>k2-(RowKit.intOf iv).toNat)
         case atStart=>exact⟨0,Nat.zero_le _,rfl,HQ⟩
         case round =>
          obtain⟨i,hi2,rfl,hQ⟩:=hrel
          clear HQ
          have HPW:=Lib.hid (L8.row_up HR66.out hQ.out.1)
          have HB2':=Lib.hid (L2.bch HB6.out hQ.out.1)
          obtain⟨x0,x1⟩:=cells2p HPW.out
          have hlt0:=World.block_lt_of_cell? _ _ x0
          simp only at hlt0
          by_cases hlt3:i<k2
          ·have hkl:i<p.stmts.length:=by rw [HN2.out];exact hlt3
           obtain⟨b2,o2,rfl,hb2,hcc⟩:=HC.out (by omega)
           obtain⟨lv,hst,hx⟩:=hcc i hkl
           have hX:=fun i u hu=>(HB2'.out.cell (by exact hb2)).trans (hx i u hu)
           have y0:=hX 0 _ rfl
           have y1:=hX 1 _ rfl
           have y2:=hX 2 _ rfl
           have y3:=hX 3 _ rfl
           have y4:=hX 4 _ rfl
           have y5:=hX 5 _ rfl
           have y6:=hX 6 _ rfl
           have y7:=hX 7 _ rfl
           have y8:=hX 8 _ rfl
           rw [Nat.add_zero] at y0
           have hw1:=World.block_lt_of_cell? _ _ y0
           simp only at hw1
           have hstep:=feS p.stmts (unE p) i hkl
           rw [hQ.out.2] at hstep
           obtain⟨s,hs⟩:∃ s,p.stmts[i]=s:=⟨_,rfl⟩
           rw [hs] at y1 y2 y3 y4 y5 y6 y7 y8 hstep
           obtain⟨ln,hln⟩:∃ ln,s.labs.length=ln:=⟨_,rfl⟩
           rw [hs] at hst
           obtain⟨la,lc,rfl,-⟩:=st_form hln hst
           have hun:=unE_lb p s
           have hlbq:=fun W hb=>rlabel_at (.slice a1 k c1) (.slice (some ⟨b2,o2,none⟩) k2 c2) p s.tg W (HP.out.below hb) HS0.out
           have hmpq:=fun W hb=>rmap_at (.slice a1 k c1) (.slice (some ⟨b2,o2,none⟩) k2 c2) p s.mp W (HP.out.below hb) HS0.out
           obtain⟨lb,hlbe⟩:∃ lb,lbK p.stmts s.tg p.stmts.length=lb:=⟨_,rfl⟩
           obtain⟨mi,hmie⟩:∃ mi,mpI 0 p.maps s.mp=mi:=⟨_,rfl⟩
           simp only [hlbe] at hlbq hun
           simp only [hmie] at hmpq hun
           have HLB:=Lib.hid hlbq
           have HMP:=Lib.hid hmpq
           have HUN:=Lib.hid hun
           have HST:=Lib.hid hstep
           have HB3:Hid (Below w.heap.size w (wr.alloc (.cells (smA (.slice la ln lc) s.x.op s.x.reg s.x.dst s.x.src s.x.off s.x.imm s.tg s.mp) 80))):=Lib.hid (L2.bch HB2'.out (L8.bnew _ _))
           have HIW:Hid (Below w6.heap.size w6 (wr.alloc (.cells (smA (.slice la ln lc) s.x.op s.x.reg s.x.dst s.x.src s.x.off s.x.imm s.tg s.mp) 80))):=Lib.hid (L2.bch hQ.out.1 (L8.bnew _ _))
           have R3:=Lib.hid (L8.row_up HPW.out (L8.bnew wr (.cells (smA (.slice la ln lc) s.x.op s.x.reg s.x.dst s.x.src s.x.off s.x.imm s.tg s.mp) 80)))
           have R5:=Lib.hid (heap_alloc_last wr (.cells (smA (.slice la ln lc) s.x.op s.x.reg s.x.dst s.x.src s.x.off s.x.imm s.tg s.mp) 80))
           clear hx hX hcc hst hs hln hstep hun hlbq hmpq hlbe hmie
           go_upto_region 31 with (fail)
           clear y0 y1 y2 y3 y4 y5 y6 y7 y8 hw1 x0 x1 hlt0
           generalize wr.alloc (.cells (smA (.slice la ln lc) s.x.op s.x.reg s.x.dst s.x.src s.x.off s.x.imm s.tg s.mp) 80)=W3 at HB3 HIW R3 R5 ⊢
           generalize wr.heap.size=k5 at R5 ⊢
           obtain⟨x0,x1⟩:=cells2p R3.out
           obtain⟨-,-,-,-,-,-,-,z7,z8⟩:=cells9 R5.out
           cases hte:s.tg.toList.isEmpty
           ·by_cases hlb:lb<0
            ·have HX:=Lib.hid hlb
             obtain⟨rfl,rfl⟩:K=i∧er=11:=fr_hit HR6.out (by rw [HST.out,if_neg (by rw [HUN.out];simp [hte,HX.out]),HUN.out];simp [hte,HX.out]) (by decide)
             go_wp2_with (first
              | (go_at_call 51;((with_reducible refine (HLB.out _ HB3.out).mono ?_);rintro e w4 ⟨rfl,b4⟩;have B4:=L2.bch HB3.out b4;have r4:=L8.row_up R3.out b4;have s4:=L8.row_up R5.out b4;have v0:=(cells2p r4).1;have v1:=(cells2p r4).2;have v8:=(cells9 s4).2.2.2.2.2.2.2.2)))
             go_ret2
             exact⟨rfl,B4⟩
            ·have HX:=Lib.hid hlb
             cases hme:s.mp.toList.isEmpty
             ·by_cases hmi:mi<0
              ·have HY:=Lib.hid hmi
               obtain⟨rfl,rfl⟩:K=i∧er=11:=fr_hit HR6.out (by rw [HST.out,if_neg (by rw [HUN.out];simp [hte,hme,HX.out,HY.out]),HUN.out];simp [hte,hme,HX.out,HY.out]) (by decide)
               go_wp2_with (first
                | (go_at_call 51;((with_reducible refine (HLB.out _ HB3.out).mono ?_);rintro e w4 ⟨rfl,b4⟩;have B4:=L2.bch HB3.out b4;have r4:=L8.row_up R3.out b4;have s4:=L8.row_up R5.out b4;have v0:=(cells2p r4).1;have v1:=(cells2p r4).2;have v8:=(cells9 s4).2.2.2.2.2.2.2.2))
                | (go_at_call 83;((with_reducible refine (HMP.out _ B4).mono ?_);rintro e w5 ⟨rfl,b5⟩;have B5:=L2.bch B4 b5)))
               go_ret2
               exact⟨rfl,B5⟩
              ·have HY:=Lib.hid hmi
               have HS2:=Lib.hid (show fe (p.stmts.map (unE p))=feF (i+1) ((p.stmts.map (unE p)).drop (i+1)) by rw [HST.out,if_pos (by rw [HUN.out];simp [hte,hme,HX.out,HY.out])])
               go_wp2_with (first
                | (go_at_call 51;((with_reducible refine (HLB.out _ HB3.out).mono ?_);rintro e w4 ⟨rfl,b4⟩;have B4:=L2.bch HB3.out b4;have r4:=L8.row_up R3.out b4;have s4:=L8.row_up R5.out b4;have v0:=(cells2p r4).1;have v1:=(cells2p r4).2;have v8:=(cells9 s4).2.2.2.2.2.2.2.2))
                | (go_at_call 83;((with_reducible refine (HMP.out _ B4).mono ?_);rintro e w5 ⟨rfl,b5⟩;have B5:=L2.bch B4 b5)))
               go_roundw
               case rel=>exact⟨i+1,by omega,by go_num,Lib.hid ⟨L2.bch (L2.bch HIW.out b4) b5,HS2.out.symm⟩⟩
               case measure=>simp [RowKit.intOf];omega
             ·skip
              have HS2:=Lib.hid (show fe (p.stmts.map (unE p))=feF (i+1) ((p.stmts.map (unE p)).drop (i+1)) by rw [HST.out,if_pos (by rw [HUN.out];simp [hte,hme,HX.out])])
              go_wp2_with (first
               | (go_at_call 51;((with_reducible refine (HLB.out _ HB3.out).mono ?_);rintro e w4 ⟨rfl,b4⟩;have B4:=L2.bch HB3.out b4;have r4:=L8.row_up R3.out b4;have s4:=L8.row_up R5.out b4;have v0:=(cells2p r4).1;have v1:=(cells2p r4).2;have v8:=(cells9 s4).2.2.2.2.2.2.2.2)))
              go_roundw
              case rel=>exact⟨i+1,by omega,by go_num,Lib.hid ⟨L2.bch HIW.out b4,HS2.out.symm⟩⟩
              case measure=>simp [RowKit.intOf];omega
           ·cases hme:s.mp.toList.isEmpty
            ·by_cases hmi:mi<0
             ·have HY:=Lib.hid hmi
              obtain⟨rfl,rfl⟩:K=i∧er=11:=fr_hit HR6.out (by rw [HST.out,if_neg (by rw [HUN.out];simp [hte,hme,HY.out]),HUN.out];simp [hte,hme,HY.out]) (by decide)
              go_wp2_with (first
               | (go_at_call 83;((with_reducible refine (HMP.out _ HB3.out).mono ?_);rintro e w5 ⟨rfl,b5⟩;have B5:=L2.bch HB3.out b5)))
              go_ret2
              exact⟨rfl,B5⟩
             ·have HY:=Lib.hid hmi
              have HS2:=Lib.hid (show fe (p.stmts.map (unE p))=feF (i+1) ((p.stmts.map (unE p)).drop (i+1)) by rw [HST.out,if_pos (by rw [HUN.out];simp [hte,hme,HY.out])])
              go_wp2_with (first
               | (go_at_call 83;((with_reducible refine (HMP.out _ HB3.out).mono ?_);rintro e w5 ⟨rfl,b5⟩;have B5:=L2.bch HB3.out b5)))
              go_roundw
              case rel=>exact⟨i+1,by omega,by go_num,Lib.hid ⟨L2.bch HIW.out b5,HS2.out.symm⟩⟩
              case measure=>simp [RowKit.intOf];omega
            ·skip
             have HS2:=Lib.hid (show fe (p.stmts.map (unE p))=feF (i+1) ((p.stmts.map (unE p)).drop (i+1)) by rw [HST.out,if_pos (by rw [HUN.out];simp [hte,hme])])
             go_wp2
             go_roundw
             case rel=>exact⟨i+1,by omega,by go_num,Lib.hid ⟨HIW.out,HS2.out.symm⟩⟩
             case measure=>simp [RowKit.intOf];omega
          ·obtain rfl:i=k2:=by omega
           have hQ':=hQ.out.2
           rw [feF_end _ _ (by rw [List.length_map,HN2.out];exact Nat.le_refl _)] at hQ'
           have HR7:=Lib.hid (fr_miss HR6.out hQ'.symm)
           clear hQ' HR6
           obtain⟨w8,rfl⟩:∃ w8,w8=wr:=⟨_,rfl⟩
           have HV0:Hid (Below w8.heap.size w8 w8∧feF 0 ((p.stmts.map wrE).drop 0)=fe (p.stmts.map wrE)):=Lib.hid ⟨Below.refl _ _,rfl⟩
           go_upto_region 33 with (fail)
           go_wp2
           go_loopw [13] (fun iv wi=>∃ j:Nat,j≤i∧iv=.int .i64 (j:Int)∧Hid (Below w8.heap.size w8 wi∧feF j ((p.stmts.map wrE).drop j)=fe (p.stmts.map wrE))) (fun iv _=>i-(RowKit.intOf iv).toNat)
           case atStart=>exact⟨0,Nat.zero_le _,rfl,HV0⟩
           case round =>
            obtain⟨j,hj2,rfl,hV⟩:=hrel
            clear HV0 x0 x1 hlt0
            have HPX:=Lib.hid (L8.row_up HPW.out hV.out.1)
            have HB8:=Lib.hid (L2.bch HB2'.out hV.out.1)
            obtain⟨x0,x1⟩:=cells2p HPX.out
            have hlt0:=World.block_lt_of_cell? _ _ x0
            simp only at hlt0
            by_cases hlt4:j<i
            ·have hkl:j<p.stmts.length:=by rw [HN2.out];exact hlt4
             obtain⟨b2,o2,rfl,hb2,hcc⟩:=HC.out (by omega)
             obtain⟨lv,hst,hx⟩:=hcc j hkl
             have hX:=fun i u hu=>(HB8.out.cell (by exact hb2)).trans (hx i u hu)
             have y0:=hX 0 _ rfl
             have y1:=hX 1 _ rfl
             have y2:=hX 2 _ rfl
             have y3:=hX 3 _ rfl
             have y4:=hX 4 _ rfl
             have y5:=hX 5 _ rfl
             have y6:=hX 6 _ rfl
             have y7:=hX 7 _ rfl
             have y8:=hX 8 _ rfl
             rw [Nat.add_zero] at y0
             have hw1:=World.block_lt_of_cell? _ _ y0
             simp only at hw1
             have hstep:=feS p.stmts wrE j hkl
             rw [hV.out.2] at hstep
             obtain⟨s,hs⟩:∃ s,p.stmts[j]=s:=⟨_,rfl⟩
             rw [hs] at y1 y2 y3 y4 y5 y6 y7 y8 hstep
             obtain⟨v,hv⟩:∃ v,L4.wri (fmI s.x) s.x.dst=v:=⟨_,rfl⟩
             rw [wrE,hv] at hstep
             have HWR:=Lib.hid (L4.rwrites_at s.x.op s.x.reg s.x.dst s.x.src s.x.off s.x.imm _ v wr rfl hv)
             have HST:=Lib.hid hstep
             clear hx hX hcc hst hs hstep hv y7 y8
             by_cases hv10:v=10
             ·subst hv10
              obtain⟨rfl,rfl⟩:K=j∧er=14:=fr_hit HR7.out (by rw [HST.out,if_pos rfl,if_neg (by decide)]) (by decide)
              go_wp2_with (go_at_call 35;((with_reducible refine (HWR.out).mono ?_);rintro e w9 ⟨rfl,b9⟩))
              go_ret2
              exact⟨rfl,L2.bch HB8.out b9⟩
             ·have HS2:=Lib.hid (show fe (p.stmts.map wrE)=feF (j+1) ((p.stmts.map wrE).drop (j+1)) by rw [HST.out,if_neg hv10,if_pos rfl])
              have hv11:(v==10)=false:=by simpa using hv10
              go_wp2_with (go_at_call 35;((with_reducible refine (HWR.out).mono ?_);rintro e w9 ⟨rfl,b9⟩))
              go_roundw
              case rel=>exact⟨j+1,by omega,by go_num,Lib.hid ⟨L2.bch hV.out.1 b9,HS2.out.symm⟩⟩
              case measure=>simp [RowKit.intOf];omega
            ·obtain rfl:j=i:=by omega
             have hV':=hV.out.2
             rw [feF_end _ _ (by rw [List.length_map,HN2.out];exact Nat.le_refl _)] at hV'
             have HR8:=Lib.hid (fr_miss HR7.out hV'.symm)
             clear hV' HR7
             have hkl:j-1<p.stmts.length:=by rw [HN2.out];omega
             obtain⟨b2,o2,rfl,hb2,hcc⟩:=HC.out (by omega)
             obtain⟨lv,hst,hx⟩:=hcc (j-1) hkl
             have y1:=(HB8.out.cell (by exact hb2)).trans (hx 1 _ rfl)
             have y0:=(HB8.out.cell (by exact hb2)).trans (hx 0 _ rfl)
             rw [Nat.add_zero] at y0
             have hw1:=World.block_lt_of_cell? _ _ y0
             simp only at hw1
             have hen:=fe_en j p.stmts HN2.out hpos
             obtain⟨s,hs⟩:∃ s,p.stmts[j-1]=s:=⟨_,rfl⟩
             rw [hs] at y1 hen
             obtain⟨f,hf⟩:∃ f,L3.frm (L3.ix s.x.op)=f:=⟨_,rfl⟩
             have HF:=Lib.hid (fun W=>L3.rform_at s.x.op f W hf)
             rw [fmI,hf] at hen
             have HEN:=Lib.hid hen
             have g0:(0:Int)≤(j:Int)-1:=by omega
             have g1:IntKind.i64.wrap ((j:Int)-1)=(j:Int)-1:=IntWalk.i64_in _ (by omega)
             have g2:(j:Int)-1<(j:Int):=by omega
             have g3:((j:Int)-1).toNat=j-1:=by omega
             have g4:j-1<j:=by omega
             have HN:Hid (p.stmts.length=j):=HN2
             clear hx hcc hst hs hen hf hkl
             have hk:((f==3)=true∧L4.endF f=true)∨((f==3)=false∧(f==6)=true∧L4.endF f=true)∨((f==3)=false∧(f==6)=false∧L4.endF f=false):=by
              unfold L4.endF
              cases h3:(f==3) <;> cases h6:(f==6) <;> simp
             rcases hk with ⟨h3,he⟩|⟨h3,h6,he⟩|⟨h3,h6,he⟩
             ·have h9:=fr_miss HR8.out (by rw [HN2.out,HEN.out,if_pos he])
              obtain⟨rfl,rfl⟩:K=0∧er=0:=by
               simp only [frB,Prod.mk.injEq] at h9
               exact⟨h9.2.1.symm,h9.2.2.symm⟩
              have n3:(f != 3)=false:=by rw [bne,h3];rfl
              clear h9 he
              go_wp2_with (go_at_call 29;((with_reducible refine (HF.out _).mono ?_);rintro e w9 ⟨rfl,rfl⟩))
              go_ret2
              exact⟨rfl,HB8.out⟩
             ·have h9:=fr_miss HR8.out (by rw [HN2.out,HEN.out,if_pos he])
              obtain⟨rfl,rfl⟩:K=0∧er=0:=by
               simp only [frB,Prod.mk.injEq] at h9
               exact⟨h9.2.1.symm,h9.2.2.symm⟩
              have n3:(f != 3)=true:=by rw [bne,h3];rfl
              have n6:(f != 6)=false:=by rw [bne,h6];rfl
              clear h9 he
              go_wp2_with (go_at_call 29;((with_reducible refine (HF.out _).mono ?_);rintro e w9 ⟨rfl,rfl⟩))
              go_ret2
              exact⟨rfl,HB8.out⟩
             ·obtain⟨rfl,rfl⟩:K=j-1∧er=15:=fr_hit HR8.out (by rw [HN2.out,HEN.out,if_neg (by rw [he];decide)]) (by decide)
              have n3:(f != 3)=true:=by rw [bne,h3];rfl
              have n6:(f != 6)=true:=by rw [bne,h6];rfl
              have g5:(((j-1:Nat)):Int)=(j:Int)-1:=by omega
              clear he
              go_wp2_with (go_at_call 29;((with_reducible refine (HF.out _).mono ?_);rintro e w9 ⟨rfl,rfl⟩))
              go_ret2
              first|exact⟨rfl,HB8.out⟩|exact⟨by rw [g5];rfl,HB8.out⟩|exact⟨by simp [g5],HB8.out⟩
       ·have HRP2:=Lib.hid (fun (W:World) (v:Value) (h:L8.StAt W v ((prs 0 p.stmts).map (·.1)))=>hrp ▸ rrep10 W v _ HPL.out h)
        obtain⟨hK,rfl⟩:=fr_hit HR4.out hfe (by decide)
        have h0:(0:Int)≤(m:Int):=by omega
        have hmn:m<nl:=by rw [← HNL.out];exact hm
        have hmi:(m:Int)<(nl:Int):=by omega
        have HZ:Hid (∀ (W:World) (v:Value),InAt W v ((prs 0 p.stmts).map (fun y=>(y.2:Int)))→∀ a c,v=.slice a nl c→∃ b o,a=some ⟨b,o,none⟩∧b<W.heap.size∧W.cell? ⟨b,o+m,none⟩=some (.int .i64 (K:Int))):=Lib.hid (fun W v h a c hv=>by
         subst hv
         obtain⟨ax,cx,hax,hay⟩:=in_form (n:=nl) (by rw [List.length_map];exact HNL.out) h
         cases hax
         obtain⟨b9,o9,h1,h2,h3⟩:=hay (by omega)
         refine⟨b9,o9,h1,h2,?_⟩
         have:=h3 m (by rw [List.length_map];exact hm)
         rw [List.getElem_map,← hK] at this
         exact this)
        clear hrp hfe HR4 hK
        go_wp2_with (first
         | (go_at_call 62;((with_reducible refine (HRP1.out).mono ?_);rintro e w4 ⟨rfl,b4⟩;have B4:=L2.bch HB2.out b4;have r4:=L8.row_up HPR.out b4;have q0:=(cells2p r4).1;have q1:=(cells2p r4).2))
         | (go_at_call 88;((with_reducible refine (HG.out _ B4).mono ?_);rintro e w5 ⟨a3,c3,a4,c4,rfl,hst5,hin5,b5⟩;obtain⟨b9,o9,rfl,hb9,hc9⟩:=HZ.out _ _ hin5 _ _ rfl))
         | (go_at_call 62;((with_reducible refine (HRP2.out _ _ hst5).mono ?_);rintro e w6 ⟨rfl,b6⟩;have B6:=L2.bch (L2.bch B4 b5) b6;have p9:=(b6.cell (by exact hb9)).trans hc9;have pl:=World.block_lt_of_cell? _ _ p9;simp only at pl)))
        go_ret2
        exact⟨rfl,B6⟩
      ·rw [hrp] at hRP1
       have HRP1:=Lib.hid hRP1
       obtain⟨rfl,rfl⟩:K=m∧er=10:=fr_hit HR3.out hfe (by decide)
       have h0:(0:Int)≤(K:Int):=by omega
       clear hRP1 hrp hfe HR3
       go_wp2_with (go_at_call 62;((with_reducible refine (HRP1.out).mono ?_);rintro e w4 ⟨rfl,b4⟩))
       go_ret2
       exact⟨rfl,L2.bch HB2.out b4⟩
     ·rw [if_neg h255] at hsz
      obtain⟨rfl,rfl⟩:K=255∧er=16:=fr_hit HR2.out (by rw [HN1.out];exact hsz) (by decide)
      clear HR2 hsz
      have hg:(255:Int)<(k:Int):=by omega
      go_wp2
      go_ret2
      exact⟨rfl,HB2.out⟩
end Go.Proofs.YtihiggnglmhggaaGreatDoor.L10
end
section
namespace Go.Proofs.YtihiggnglmhggaaGreatDoor.L10
open Go.RowKit
attribute [local go_sem] Oper.semAt_some
theorem fits_few {p:Pg} (hf:PgFit p) (h:p.maps.length≤300∧p.stmts.length≤60∧lsum p.stmts≤200):Fits p :=
 ⟨by omega,by omega,by have:=lsum_flat p.stmts;unfold alL;omega,fun d hd=>(hf.maps d hd).nm,fun s hs=>(hf.stmts s hs).lb,fun s hs=>⟨(hf.stmts s hs).tg,(hf.stmts s hs).mp⟩⟩
end Go.Proofs.YtihiggnglmhggaaGreatDoor.L10
end
end
section
namespace Go.Proofs.YtihiggnglmhggaaGreatDoor.L12
open L3 L4
def rfL (ms:List L9.Df):Nat→List L10.Stm→List (Nat × Int)
 | _,[]=>[]
 | a,s::r=>(if frm (ix s.x.op)=11∧0≤L10.mpI 0 ms s.mp then [(a,L10.mpI 0 ms s.mp)] else [])++rfL ms (a+slN s.x) r
end Go.Proofs.YtihiggnglmhggaaGreatDoor.L12
end
section
namespace Go.Proofs.YtihiggnglmhggaaGreatDoor.L12
open Go.RowKit Go.Shelf L3 L4
attribute [local go_sem] Oper.semAt_some
theorem infoIns:(Tryz.prog.info? 45).map (fun i=>(i.zero,i.size,i.bytes))=some (some (.agg #[.int .i64 0,.bool false,.int .i64 0,.int .i64 0,.int .i64 0,.int .i64 0]),6,48):=by kernel_rfl
def cdL (l:List L10.Stm):List L9.Ins:=l.map fun s=>s.x
def inC (l:List L9.Ins):List Value:=l.flatMap L10.inL
theorem inC_snoc (l:List L9.Ins) (x:L9.Ins):inC (l++[x])=inC l++L10.inL x:=by simp [inC]
theorem cdL_snoc (l:List L10.Stm) (k:Nat) (h:k<l.length):cdL (l.take (k+1))=cdL (l.take k)++[l[k].x]:=by
 unfold cdL
 rw [List.take_add_one,List.getElem?_eq_getElem h,Option.toList,List.map_append]
 rfl
theorem cdL_len (l:List L10.Stm):(cdL l).length=l.length:=by simp [cdL]
theorem cdL_get (l:List L10.Stm) (k:Nat) (h:k<l.length):(cdL l)[k]'(by rw [cdL_len];exact h)=l[k].x:=by simp [cdL]
theorem inC_get:∀ (l:List L9.Ins) (j:Nat) (h:j<l.length) (i:Nat) (u:Value),(L10.inL l[j])[i]?=some u→(inC l)[j*6+i]?=some u
 | x::r,0,_,i,u,hu=>by
  have hu:(L10.inL x)[i]?=some u:=hu
  have hi:=(List.getElem?_eq_some_iff.1 hu).1
  simp only [inC,List.flatMap_cons,Nat.zero_mul,Nat.zero_add]
  rw [List.getElem?_append_left hi]
  exact hu
 | x::r,j+1,h,i,u,hu=>by
  have:=inC_get r j (by simpa using h) i u (by simpa using hu)
  simp only [inC,List.flatMap_cons] at this ⊢
  rw [List.getElem?_append_right (by simp;omega)]
  rw [show (j+1)*6+i-(L10.inL x).length=j*6+i by simp;omega]
  exact this
theorem own_ins {W:World} {B e:TypeId} {v:Value} {xs:List L9.Ins} {n:Nat} (hn:xs.length=n) (h:W.ownsRow B e 6 v n (inC xs)):IsAt W v xs:=by
 subst hn
 rcases h.2 with ⟨rfl,h0⟩|⟨g,cap,cur,rfl,_,hh,_⟩
 ·exact .inr ⟨List.eq_nil_of_length_eq_zero h0,none,0,rfl⟩
 ·refine .inl ⟨g,0,cap,rfl,lt_of_block hh,fun j hj i u hu=>?_⟩
  have:=h.cells (g:=g) rfl (j*6+i) u (inC_get xs j hj i u hu)
  rw [Nat.zero_add]
  rwa [L8.add0] at this
theorem cl9 {w:World} {k:Nat} {a b c d e f g i j:Value} {t:TypeId} (hh:w.heap[k]?=some (.cells #[a,b,c,d,e,f,g,i,j] t)) :
  w.cell? ⟨k,0,none⟩=some a∧w.cell? ⟨k,1,none⟩=some b∧w.cell? ⟨k,2,none⟩=some c∧w.cell? ⟨k,3,none⟩=some d∧w.cell? ⟨k,4,none⟩=some e∧w.cell? ⟨k,5,none⟩=some f∧w.cell? ⟨k,6,none⟩=some g∧w.cell? ⟨k,7,none⟩=some i∧w.cell? ⟨k,8,none⟩=some j:=by
 simp [World.cell?,hh]
def CoO (w:World) (p:L10.Pg) (e:Ending) (w':World):Prop:=∃ a c,e=.returned (.slice a p.stmts.length c)∧w'.ownsRow w.heap.size 45 6 (.slice a p.stmts.length c) p.stmts.length (inC (cdL p.stmts))∧Below w.heap.size w w'
def CoP (w:World) (p:L10.Pg) (e:Ending) (w':World):Prop:=∃ a c,e=.returned (.slice a p.stmts.length c)∧IsAt w' (.slice a p.stmts.length c) (cdL p.stmts)∧Below w.heap.size w w'
theorem code_own (vm vs:Value) (p:L10.Pg) (w:World) (hp:L10.PgAt w vm vs p) (hs:L10.Sml p) :
  Calls Tryz.prog 84 #[.agg #[vm,vs]] w fun e w'=>CoO w p e w':=by
 obtain⟨i0,hi,hz0,hz1,hz2⟩:=info_parts infoIns
 obtain⟨n1,hn1⟩:∃ n,p.maps.length=n:=⟨_,rfl⟩
 obtain⟨n2,hn2⟩:∃ n,p.stmts.length=n:=⟨_,rfl⟩
 obtain⟨a1,c1,rfl,-⟩:=L10.df_form hn1 hp.1
 obtain⟨a2,c2,rfl,hc⟩:=L10.sm_form hn2 hp.2
 have hm2:=hs.stmts
 rw [hn2] at hm2
 have HC:=Lib.hid hc
 have HN:=Lib.hid hn2
 have HB:=Lib.hid (L8.bnew w (.cells #[.slice a1 n1 c1,.slice a2 n2 c2] 53))
 have K0:=Lib.hid (heap_alloc_last w (.cells #[.slice a1 n1 c1,.slice a2 n2 c2] 53))
 unfold CoO
 rw [hn2]
 clear hp hs hn1 hn2 hc
 go_enter Tryz.func84,Tryz.ntmps84
 go_upto_region 1 with (fail)
 have x1:=(L10.cells2p K0.out).2
 have hlt1:=World.block_lt_of_cell? _ _ x1
 simp only at hlt1
 generalize w.alloc (.cells #[.slice a1 n1 c1,.slice a2 n2 c2] 53)=W0 at K0 x1 hlt1 HB ⊢
 have HI:Hid (W0.ownsRow W0.heap.size 45 6 (.slice none 0 0) 0 (inC (cdL (p.stmts.take 0)))∧Below W0.heap.size W0 W0):=Lib.hid ⟨World.ownsRow_nil _ _ _ _,Below.refl _ _⟩
 go_wp2
 go_loopw [3,9] (fun vn i wr=>∃ k:Nat,k≤n2∧i=.int .i64 (k:Int)∧Hid (wr.ownsRow W0.heap.size 45 6 vn k (inC (cdL (p.stmts.take k)))∧Below W0.heap.size W0 wr)) (fun _ i _=>n2-(RowKit.intOf i).toNat)
 case atStart=>exact⟨0,Nat.zero_le _,rfl,HI⟩
 case round =>
  obtain⟨k,hk,rfl,hI⟩:=hrel
  clear HI x1 hlt1
  by_cases hlt:k<n2
  ·have hkl:k<p.stmts.length:=by rw [HN.out];exact hlt
   obtain⟨b,o,rfl,hbl,hc⟩:=HC.out (by omega)
   obtain⟨lv,hst,hx⟩:=hc k hkl
   have hBw:=L2.bch HB.out hI.out.2
   have up:∀ i u,(L10.smL lv p.stmts[k])[i]?=some u→wr.cell? ⟨b,o+k*9+i,none⟩=some u:=fun i u hu=>(hBw.cell (by exact hbl)).trans (hx i u hu)
   have hsn:=cdL_snoc p.stmts k hkl
   obtain⟨s,hs⟩:∃ s,p.stmts[k]=s:=⟨_,rfl⟩
   rw [hs] at hst up hsn
   obtain⟨ln,hln⟩:∃ ln,s.labs.length=ln:=⟨_,rfl⟩
   obtain⟨la,lc,rfl,-⟩:=L10.st_form hln hst
   obtain⟨labs,⟨op,reg,dst,src,off,imm⟩,tg,mp⟩:=s
   have y0:=up 0 _ rfl
   have y1:=up 1 _ rfl
   have y2:=up 2 _ rfl
   have y3:=up 3 _ rfl
   have y4:=up 4 _ rfl
   have y5:=up 5 _ rfl
   have y6:=up 6 _ rfl
   have y7:=up 7 _ rfl
   have y8:=up 8 _ rfl
   rw [Nat.add_zero] at y0
   have hw1:=World.block_lt_of_cell? _ _ y0
   simp only at hw1
   have HSN:=Lib.hid hsn
   have HBl:=Lib.hid hI.out.2
   have hown:=hI.out.1
   have hszW:=HBl.out.size
   have hkI:(k:Int)<(n2:Int):=by omega
   clear hx hc hst hs hln up hsn hI hBw
   go_upto_region 5 with (fail)
   have hx:=heap_alloc_last wr (.cells #[.slice la ln lc,.int .i64 op,.bool reg,.int .i64 dst,.int .i64 src,.int .i64 off,.int .i64 imm,.string tg,.string mp] 80)
   have B1:=L2.bch HBl.out (L8.bnew wr (.cells #[.slice la ln lc,.int .i64 op,.bool reg,.int .i64 dst,.int .i64 src,.int .i64 off,.int .i64 imm,.string tg,.string mp] 80))
   have hown1:=L8.own_below hown (L8.bnew wr (.cells #[.slice la ln lc,.int .i64 op,.bool reg,.int .i64 dst,.int .i64 src,.int .i64 off,.int .i64 imm,.string tg,.string mp] 80))
   obtain⟨g,hg⟩:∃ g,g=wr.heap.size:=⟨_,rfl⟩
   rw [← hg] at hx ⊢
   generalize wr.alloc (.cells _ 80)=W1 at hx B1 hown1 ⊢
   clear hg hown
   obtain⟨z0,z1,z2,z3,z4,z5,z6,z7,z8⟩:=cl9 hx
   have hs1:=B1.size
   go_wp2_with (at_builtin;refine wpList_append_own _ rfl _ _ 38 rfl W0.heap.size 45 i0 (.agg #[.int .i64 0,.bool false,.int .i64 0,.int .i64 0,.int .i64 0,.int .i64 0]) 6 48 Tryz.underlying38 hi hz0 hz1 hz2 rfl (by decide) _ k _ rfl (hown1.alloc _) ⟨W1.heap.size,0,none⟩ 1 1 [.int .i64 op,.bool reg,.int .i64 dst,.int .i64 src,.int .i64 off,.int .i64 imm] rfl rfl (World.news_of_block (cs:=#[.int .i64 op,.bool reg,.int .i64 dst,.int .i64 src,.int .i64 off,.int .i64 imm]) (t:=45) (fr:=(0,0)) (heap_alloc_last W1 _)) (by simp [Value.oneCell']) (by unfold maxLen;omega) (by omega) (by simp;omega) ?_;intro v' w3 hown3 hgrow3 _)
   go_roundw
   case rel =>
    refine⟨k+1,by omega,by go_num,Lib.hid ⟨?_,?_⟩⟩
    ·rw [HSN.out,inC_snoc];exact hown3
    ·exact (B1.alloc hs1 _).grown hgrow3 (by simp;omega) (L8.own_base hown1)
   case measure=>simp [RowKit.intOf];omega
  ·obtain rfl:k=n2:=by omega
   have hJ:=hI.out
   rw [List.take_of_length_le (by rw [HN.out];exact Nat.le_refl _)] at hJ
   obtain⟨va,vc,rfl⟩:=owns_slice hJ.1
   have HJ2:=Lib.hid hJ
   clear hI hJ
   go_wp2
   go_ret
   exact⟨_,_,rfl,own_weak HJ2.out.1 HB.out.size,L2.bch HB.out HJ2.out.2⟩
theorem code_at (vm vs:Value) (p:L10.Pg) (w:World) (hp:L10.PgAt w vm vs p) (hs:L10.Sml p) :
  Calls Tryz.prog 84 #[.agg #[vm,vs]] w fun e w'=>CoP w p e w' :=
 (code_own vm vs p w hp hs).mono fun _ _ ⟨a,c,he,ho,hb⟩=>⟨a,c,he,own_ins (by rw [cdL_len]) ho,hb⟩
theorem rcode_at (vm vs:Value) (p:L10.Pg) (w:World) (hp:L10.PgAt w vm vs p) (hs:L10.Sml p) :
  Calls Tryz.prog 49 #[.agg #[vm,vs]] w fun e w'=>CoP w p e w':=by
 obtain⟨i0,hi,hz0,hz1,hz2⟩:=info_parts infoIns
 obtain⟨n1,hn1⟩:∃ n,p.maps.length=n:=⟨_,rfl⟩
 obtain⟨n2,hn2⟩:∃ n,p.stmts.length=n:=⟨_,rfl⟩
 obtain⟨a1,c1,rfl,-⟩:=L10.df_form hn1 hp.1
 obtain⟨a2,c2,rfl,hc⟩:=L10.sm_form hn2 hp.2
 have hm2:=hs.stmts
 rw [hn2] at hm2
 have HC:=Lib.hid hc
 have HN:=Lib.hid hn2
 have HB:=Lib.hid (L8.bnew w (.cells #[.slice a1 n1 c1,.slice a2 n2 c2] 53))
 have K0:=Lib.hid (heap_alloc_last w (.cells #[.slice a1 n1 c1,.slice a2 n2 c2] 53))
 unfold CoP
 rw [hn2]
 clear hp hs hn1 hn2 hc
 go_enter Tryz.func49,Tryz.ntmps49
 go_upto_region 1 with (fail)
 have x1:=(L10.cells2p K0.out).2
 have hlt1:=World.block_lt_of_cell? _ _ x1
 simp only at hlt1
 generalize w.alloc (.cells #[.slice a1 n1 c1,.slice a2 n2 c2] 53)=W0 at K0 x1 hlt1 HB ⊢
 have HI:Hid (W0.ownsRow W0.heap.size 45 6 (.slice none 0 0) 0 (inC (cdL (p.stmts.take 0)))∧Below W0.heap.size W0 W0):=Lib.hid ⟨World.ownsRow_nil _ _ _ _,Below.refl _ _⟩
 go_wp2
 go_loopw [3,4] (fun vn i wr=>∃ k:Nat,k≤n2∧i=.int .i64 (k:Int)∧Hid (wr.ownsRow W0.heap.size 45 6 vn k (inC (cdL (p.stmts.take k)))∧Below W0.heap.size W0 wr)) (fun _ i _=>n2-(RowKit.intOf i).toNat)
 case atStart=>exact⟨0,Nat.zero_le _,rfl,HI⟩
 case round =>
  obtain⟨k,hk,rfl,hI⟩:=hrel
  clear HI x1 hlt1
  have x1:=(L10.cells2p (L8.row_up K0.out hI.out.2)).2
  have hlt1:=World.block_lt_of_cell? _ _ x1
  simp only at hlt1
  by_cases hlt:k<n2
  ·have hkl:k<p.stmts.length:=by rw [HN.out];exact hlt
   obtain⟨b,o,rfl,hbl,hc⟩:=HC.out (by omega)
   obtain⟨lv,hst,hx⟩:=hc k hkl
   have hBw:=L2.bch HB.out hI.out.2
   have up:∀ i u,(L10.smL lv p.stmts[k])[i]?=some u→wr.cell? ⟨b,o+k*9+i,none⟩=some u:=fun i u hu=>(hBw.cell (by exact hbl)).trans (hx i u hu)
   have hsn:=cdL_snoc p.stmts k hkl
   obtain⟨s,hs⟩:∃ s,p.stmts[k]=s:=⟨_,rfl⟩
   rw [hs] at up hsn
   obtain⟨labs,⟨op,reg,dst,src,off,imm⟩,tg,mp⟩:=s
   have y1:=up 1 _ rfl
   have y2:=up 2 _ rfl
   have y3:=up 3 _ rfl
   have y4:=up 4 _ rfl
   have y5:=up 5 _ rfl
   have y6:=up 6 _ rfl
   have HSN:=Lib.hid hsn
   have HBl:=Lib.hid hI.out.2
   have hown1:=hI.out.1
   have hs1:=HBl.out.size
   have hkI:(k:Int)<(n2:Int):=by omega
   obtain⟨W1,hW1⟩:∃ W1,wr=W1:=⟨_,rfl⟩
   subst hW1
   clear hx hc hst hs up hsn hI hBw
   go_wp2_with (at_builtin;refine wpList_append_own _ rfl _ _ 38 rfl W0.heap.size 45 i0 (.agg #[.int .i64 0,.bool false,.int .i64 0,.int .i64 0,.int .i64 0,.int .i64 0]) 6 48 Tryz.underlying38 hi hz0 hz1 hz2 rfl (by decide) _ k _ rfl (hown1.alloc _) ⟨wr.heap.size,0,none⟩ 1 1 [.int .i64 op,.bool reg,.int .i64 dst,.int .i64 src,.int .i64 off,.int .i64 imm] rfl rfl (World.news_of_block (cs:=#[.int .i64 op,.bool reg,.int .i64 dst,.int .i64 src,.int .i64 off,.int .i64 imm]) (t:=45) (fr:=(0,0)) (heap_alloc_last wr _)) (by simp [Value.oneCell']) (by unfold maxLen;omega) (by omega) (by simp;omega) ?_;intro v' w3 hown3 hgrow3 _)
   go_roundw
   case rel =>
    refine⟨k+1,by omega,by go_num,Lib.hid ⟨?_,?_⟩⟩
    ·rw [HSN.out,inC_snoc];exact hown3
    ·exact (HBl.out.alloc hs1 _).grown hgrow3 (by simp;omega) (L8.own_base hown1)
   case measure=>simp [RowKit.intOf];omega
  ·obtain rfl:k=n2:=by omega
   have hJ:=hI.out
   rw [List.take_of_length_le (by rw [HN.out];exact Nat.le_refl _)] at hJ
   obtain⟨va,vc,rfl⟩:=owns_slice hJ.1
   have HJ2:=Lib.hid hJ
   clear hI hJ
   go_wp2
   go_ret
   exact⟨_,_,rfl,own_ins (by rw [cdL_len,HN.out]) HJ2.out.1,L2.bch HB.out HJ2.out.2⟩
end Go.Proofs.YtihiggnglmhggaaGreatDoor.L12
end
section
namespace Go.Proofs.YtihiggnglmhggaaGreatDoor.L12
open Go.RowKit Go.Shelf L3 L4
attribute [local go_sem] Oper.semAt_some
theorem infoR:(Tryz.prog.info? 101).map (fun i=>(i.zero,i.size,i.bytes))=some (some (.agg #[.int .i64 0,.int .i64 0]),2,16):=by kernel_rfl
def rlL (r:Nat × Int):List Value:=[.int .i64 (r.1:Int),.int .i64 r.2]
def rlC (l:List (Nat × Int)):List Value:=l.flatMap rlL
theorem rlC_snoc (l:List (Nat × Int)) (a:Nat) (b:Int):rlC (l++[(a,b)])=rlC l++[.int .i64 (a:Int),.int .i64 b]:=by simp [rlC,rlL]
def rfT (p:L10.Pg) (k:Nat):List (Nat × Int):=rfL p.maps 0 (p.stmts.take k)
theorem rfL_app (ms:List L9.Df):∀ (l:List L10.Stm) (a:Nat) (s:L10.Stm),rfL ms a (l++[s])=rfL ms a l++(if frm (ix s.x.op)=11∧0≤L10.mpI 0 ms s.mp then [(a+smN (cdL l),L10.mpI 0 ms s.mp)] else [])
 | [],a,s=>by simp [rfL,smN,cdL]
 | x::r,a,s=>by
  rw [List.cons_append,rfL,rfL_app ms r (a+slN x.x) s,rfL,List.append_assoc]
  simp [smN,cdL,Nat.add_assoc]
theorem rfT_snoc (p:L10.Pg) (k:Nat) (h:k<p.stmts.length):rfT p (k+1)=rfT p k++(if frm (ix p.stmts[k].x.op)=11∧0≤L10.mpI 0 p.maps p.stmts[k].mp then [(stN (cdL p.stmts) k,L10.mpI 0 p.maps p.stmts[k].mp)] else []):=by
 unfold rfT
 rw [List.take_add_one,List.getElem?_eq_getElem h,Option.toList,rfL_app,Nat.zero_add]
 unfold stN cdL
 rw [List.map_take]
theorem mpI_ge:∀ (l:List L9.Df) (k:Nat) (x:ByteArray),L10.mpI k l x=-1∨(k:Int)≤L10.mpI k l x
 | [],_,_=>.inl rfl
 | d::r,k,x=>by
  rw [L10.mpI]
  split
  ·exact .inr (Int.le_refl _)
  ·rcases mpI_ge r (k+1) x with h|h
   ·exact .inl h
   ·exact .inr (by omega)
theorem cl4 {w:World} {k:Nat} {a b c d:Value} {t:TypeId} (hh:w.heap[k]?=some (.cells #[a,b,c,d] t)):w.cell? ⟨k,0,none⟩=some a∧w.cell? ⟨k,1,none⟩=some b∧w.cell? ⟨k,2,none⟩=some c∧w.cell? ⟨k,3,none⟩=some d:=by
 simp [World.cell?,hh]
def RfP (w:World) (p:L10.Pg) (e:Ending) (w':World):Prop:=∃ v,e=.returned v∧w'.ownsRow w.heap.size 101 2 v (rfT p p.stmts.length).length (rlC (rfT p p.stmts.length))∧Below w.heap.size w w'
theorem refs_at (vm vs:Value) (p:L10.Pg) (w:World) (hp:L10.PgAt w vm vs p) (hs:L10.Sml p) :
  Calls Tryz.prog 47 #[.agg #[vm,vs]] w fun e w'=>RfP w p e w':=by
 obtain⟨i0,hi,hz0,hz1,hz2⟩:=info_parts infoR
 obtain⟨n1,hn1⟩:∃ n,p.maps.length=n:=⟨_,rfl⟩
 obtain⟨n2,hn2⟩:∃ n,p.stmts.length=n:=⟨_,rfl⟩
 have hp1:=hp.1
 have hp2:=hp.2
 obtain⟨a1,c1,rfl,hd⟩:=L10.df_form4 hn1 hp1
 obtain⟨a2,c2,rfl,hc⟩:=L10.sm_form hn2 hp2
 have hm1:=hs.maps
 have hm2:=hs.stmts
 rw [hn1] at hm1
 rw [hn2] at hm2
 have HC:=Lib.hid hc
 have HD:=Lib.hid hd
 have HN:=Lib.hid hn2
 have HM:=Lib.hid hn1
 have HB:=Lib.hid (L8.bnew w (.cells #[.slice a1 n1 c1,.slice a2 n2 c2] 53))
 have K0:=Lib.hid (heap_alloc_last w (.cells #[.slice a1 n1 c1,.slice a2 n2 c2] 53))
 have HCo:=Lib.hid (fun (W:World) (hb:Below w.heap.size w W)=>code_at (.slice a1 n1 c1) (.slice a2 n2 c2) p W (hp.below hb) hs)
 unfold CoP at HCo
 rw [hn2] at HCo
 have HSt:=Lib.hid (fun (W:World) (v:Value) (hi:IsAt W v (cdL p.stmts))=>starts_is v (cdL p.stmts) n2 (by rw [cdL_len];exact hn2) (by omega) W hi)
 obtain⟨S,hS⟩:∃ S,smN (cdL p.stmts)=S:=⟨_,rfl⟩
 rw [hS] at HSt
 unfold RfP
 rw [hn2]
 clear hp hp1 hp2 hs hn1 hn2 hc hd hS
 go_enter Tryz.func47,Tryz.ntmps47
 go_upto_region 1 with (fail)
 have x1:=L10.cells2p K0.out
 obtain⟨x1,x2⟩:=x1
 have hlt1:=World.block_lt_of_cell? _ _ x1
 simp only at hlt1
 obtain⟨kb,hkb⟩:∃ kb,w.heap.size=kb:=⟨_,rfl⟩
 have HKB:=Lib.hid hkb
 rw [hkb] at K0 x1 x2 hlt1 ⊢
 clear hkb
 generalize w.alloc (.cells #[.slice a1 n1 c1,.slice a2 n2 c2] 53)=W0 at K0 x1 x2 hlt1 HB ⊢
 go_step3
 go_wp2_with (first|(go_at_call 84;((with_reducible refine (HCo.out _ HB.out).mono ?_);rintro e w1 ⟨ca,cc,rfl,hci,b1⟩))|(go_at_call 39;((with_reducible refine (HSt.out _ _ hci).mono ?_);rintro e w2 ⟨⟨sa,sc,rfl,hsi⟩,b2⟩;have B2:=L2.bch b1 b2;obtain⟨u1,u2⟩:=L10.cells2p (L8.row_up K0.out B2);have hlt2:kb<w2.heap.size:=World.block_lt_of_cell? _ _ u1)))
 have HB2:=Lib.hid (L2.bch HB.out B2)
 have K2:=Lib.hid (L8.row_up K0.out B2)
 have HSI:=Lib.hid hsi
 clear x1 x2 hlt1 hci hsi b1 b2 B2 K0
 have HI:Hid (w2.ownsRow w2.heap.size 101 2 (.slice none 0 0) 0 (rlC (rfT p 0))∧Below w2.heap.size w2 w2∧(rfT p 0).length=0):=Lib.hid ⟨World.ownsRow_nil _ _ _ _,Below.refl _ _,rfl⟩
 go_step3
 go_wp2
 go_loopg [3,19] n2 (fun gh vn i wr=>∃ k m:Nat,k+gh=n2∧m≤k∧i=.int .i64 (k:Int)∧Hid (wr.ownsRow w2.heap.size 101 2 vn m (rlC (rfT p k))∧Below w2.heap.size w2 wr∧(rfT p k).length=m))
 case atStart=>exact⟨0,0,by omega,Nat.le_refl _,rfl,HI⟩
 case round =>
  obtain⟨k,m,hk,hmk,rfl,hI⟩:=hrel
  clear HI u1 u2 hlt2
  obtain⟨x1,x2⟩:=L10.cells2p (L8.row_up K2.out hI.out.2.1)
  have hlt1:=World.block_lt_of_cell? _ _ x1
  simp only at hlt1
  cases gk with
  | succ gh =>
   have hlt:k<n2:=by omega
   have hkl:k<p.stmts.length:=by rw [HN.out];exact hlt
   obtain⟨b,o,rfl,hbl,hc⟩:=HC.out (by omega)
   obtain⟨lv,hst,hx⟩:=hc k hkl
   have hBw:=L2.bch HB2.out hI.out.2.1
   have up:∀ i u,(L10.smL lv p.stmts[k])[i]?=some u→wr.cell? ⟨b,o+k*9+i,none⟩=some u:=fun i u hu=>(hBw.cell (by exact hbl)).trans (hx i u hu)
   have hsn:=rfT_snoc p k hkl
   obtain⟨s,hs⟩:∃ s,p.stmts[k]=s:=⟨_,rfl⟩
   rw [hs] at hst up hsn
   obtain⟨ln,hln⟩:∃ ln,s.labs.length=ln:=⟨_,rfl⟩
   obtain⟨la,lc,rfl,-⟩:=L10.st_form hln hst
   obtain⟨labs,⟨op,reg,dst,src,off,imm⟩,tg,mp⟩:=s
   have y0:=up 0 _ rfl
   have y1:=up 1 _ rfl
   have y2:=up 2 _ rfl
   have y3:=up 3 _ rfl
   have y4:=up 4 _ rfl
   have y5:=up 5 _ rfl
   have y6:=up 6 _ rfl
   have y7:=up 7 _ rfl
   have y8:=up 8 _ rfl
   rw [Nat.add_zero] at y0
   have hw1:=World.block_lt_of_cell? _ _ y0
   simp only at hw1
   simp only at hsn
   obtain⟨sb,so,rfl,hsb,hcl⟩:=st_cell (l:=cdL p.stmts) (by rw [cdL_len];exact HN.out) HSI.out hlt
   have HSL:=Lib.hid (hcl k hlt)
   have hkI:(k:Int)<(n2:Int):=by omega
   have HBl:=Lib.hid hI.out.2.1
   have hown:=hI.out.1
   have HLn:=Lib.hid hI.out.2.2
   have hszW:=HBl.out.size
   clear hx hc hst hs hln up hI hBw hcl
   go_upto_region 6 with (fail)
   have hx:=heap_alloc_last wr (.cells #[.slice la ln lc,.int .i64 op,.bool reg,.int .i64 dst,.int .i64 src,.int .i64 off,.int .i64 imm,.string tg,.string mp] 80)
   have B1:=L2.bch HBl.out (L8.bnew wr (.cells #[.slice la ln lc,.int .i64 op,.bool reg,.int .i64 dst,.int .i64 src,.int .i64 off,.int .i64 imm,.string tg,.string mp] 80))
   have hown1:=L8.own_below hown (L8.bnew wr (.cells #[.slice la ln lc,.int .i64 op,.bool reg,.int .i64 dst,.int .i64 src,.int .i64 off,.int .i64 imm,.string tg,.string mp] 80))
   obtain⟨g,hg⟩:∃ g,g=wr.heap.size:=⟨_,rfl⟩
   rw [← hg] at hx ⊢
   generalize wr.alloc (.cells _ 80)=W1 at hx B1 hown1 ⊢
   clear hg hown x1 x2 hlt1 y0 y1 y2 y3 y4 y5 y6 y7 y8 hw1 hszW HBl
   obtain⟨z0,z1,z2,z3,z4,z5,z6,z7,z8⟩:=cl9 hx
   have HF:=Lib.hid (fun W=>form_at op _ W rfl)
   obtain⟨f,hf⟩:∃ f,frm (ix op)=f:=⟨_,rfl⟩
   rw [hf] at HF hsn
   by_cases hfe:f=11
   ·subst hfe
    have HX1:=Lib.hid (And.intro hown1 B1)
    obtain⟨R,hR⟩:∃ R,L10.mpI 0 p.maps mp=R:=⟨_,rfl⟩
    rw [hR] at hsn
    obtain⟨st,hst⟩:∃ st,stN (cdL p.stmts) k=st:=⟨_,rfl⟩
    rw [hst] at hsn HSL
    have HSN:=Lib.hid hsn
    have hV:Hid (L10.mpI 0 (p.maps.drop 0) mp=R):=Lib.hid hR
    have K1:=Lib.hid (L8.row_up K2.out B1)
    have HXc:=Lib.hid hx
    clear hsn hf hown1 B1 hR hst
    go_wp2_with (go_at_call 80;((with_reducible refine (HF.out _).mono ?_);rintro e w3 ⟨rfl,b3⟩;obtain⟨u1,u2⟩:=L10.cells2p (L8.row_up K1.out b3);have hlt3:kb<w3.heap.size:=World.block_lt_of_cell? _ _ u1))
    have HB3:=Lib.hid b3
    clear z0 z1 z2 z3 z4 z5 z6 z7 z8 hx b3
    go_loopg [3,32] n1 (fun gi v3 i wi=>∃ j:Nat,j+gi=n1∧u3=v3∧i=.int .i64 (j:Int)∧Hid (L10.mpI j (p.maps.drop j) mp=R∧Below w3.heap.size w3 wi))
    case atStart=>exact⟨0,by omega,rfl,rfl,Lib.hid ⟨hV.out,Below.refl _ _⟩⟩
    case round =>
     obtain⟨j,hj,rfl,rfl,hT⟩:=hrel
     clear hV u1 u2 hlt3
     cases gk with
     | zero =>
      obtain rfl:j=n1:=by omega
      have hr:=hT.out.1
      rw [List.drop_eq_nil_of_le (by rw [HM.out];exact Nat.le_refl _),L10.mpI] at hr
      subst hr
      have hsn:=HSN.out
      rw [if_neg (fun h=>absurd h.2 (by decide)),List.append_nil] at hsn
      have HSN2:=Lib.hid hsn
      have B4:=Lib.hid (L2.bch HB3.out hT.out.2)
      clear hsn hT
      go_wp2
      go_roundg gh
      case measure=>omega
      case rel =>
       refine⟨k+1,m,by omega,by omega,by go_num,Lib.hid ⟨?_,L2.bch HX1.out.2 B4.out,?_⟩⟩
       ·rw [HSN2.out];exact L8.own_below HX1.out.1 B4.out
       ·rw [HSN2.out];exact HLn.out
     | succ gi =>
      have hjn:j<n1:=by omega
      have hjl:j<p.maps.length:=by rw [HM.out];exact hjn
      obtain⟨db,do',rfl,hdb,hdc⟩:=HD.out (by omega)
      have B4:=L2.bch HB3.out hT.out.2
      have B5:=L2.bch HX1.out.2 B4
      have B6:=L2.bch HB2.out B5
      obtain⟨y0,y1,y2,y3⟩:=hdc j hjl
      have y0:=cell_up B6 y0
      have y1:=cell_up B6 y1
      have y2:=cell_up B6 y2
      have y3:=cell_up B6 y3
      have hw1:=World.block_lt_of_cell? _ _ y0
      simp only at hw1
      have hst:=hT.out.1
      rw [List.drop_eq_getElem_cons hjl,L10.mpI] at hst
      have hcx:=L8.row_up HXc.out B4
      have hcs:=cell_up B5 HSL.out
      have hown4:=L8.own_below HX1.out.1 B4
      have HB5:=Lib.hid B5
      have hjI:(j:Int)<(n1:Int):=by omega
      generalize p.maps[j]=d at y0 y1 y2 y3 hst
      obtain⟨nm,key,val,ent⟩:=d
      simp only at hst
      have HST:=Lib.hid hst
      have HTB:=Lib.hid hT.out.2
      have HB4:=Lib.hid B4
      clear hdc B4 B5 B6 hT hst
      go_upto_region 10 with (fail)
      have hx4:=heap_alloc_last wr (.cells #[.string nm,.int .i64 key,.int .i64 val,.int .i64 ent] 88)
      have bn:=L8.bnew wr (.cells #[.string nm,.int .i64 key,.int .i64 val,.int .i64 ent] 88)
      have hcx4:=L8.row_up hcx bn
      have hcs4:=cell_up bn hcs
      have hown5:=L8.own_below hown4 bn
      have HB7:=Lib.hid (L2.bch HB5.out bn)
      have HBN:=Lib.hid bn
      obtain⟨g4,hg4⟩:∃ g4,g4=wr.heap.size:=⟨_,rfl⟩
      rw [← hg4] at hx4 ⊢
      generalize wr.alloc (.cells _ 88)=W4 at hx4 hcx4 hcs4 hown5 HB7 HBN bn ⊢
      clear hg4 bn hcx hcs hown4 y0 y1 y2 y3 hw1
      obtain⟨v0,v1,v2,v3⟩:=cl4 hx4
      obtain⟨z0,z1,z2,z3,z4,z5,z6,z7,z8⟩:=cl9 hcx4
      have hsW:=HB7.out.size
      by_cases he:nm=mp
      ·subst he
       have ht:(nm.toList==nm.toList)=true:=by simp
       have hr:=HST.out
       rw [if_pos rfl] at hr
       subst hr
       have hsn:=HSN.out
       rw [if_pos ⟨by trivial,by omega⟩] at hsn
       have HSN2:=Lib.hid hsn
       clear hsn HST HTB HSN
       go_wp2_with (at_builtin;refine wpList_append_own _ rfl _ _ 24 rfl w2.heap.size 101 i0 (.agg #[.int .i64 0,.int .i64 0]) 2 16 Tryz.underlying24 hi hz0 hz1 hz2 rfl (by decide) _ m _ rfl (hown5.alloc _) ⟨W4.heap.size,0,none⟩ 1 1 [.int .i64 (st:Int),.int .i64 (j:Int)] rfl rfl (World.news_of_block (cs:=#[.int .i64 (st:Int),.int .i64 (j:Int)]) (t:=101) (fr:=(0,0)) (heap_alloc_last W4 _)) (by simp [Value.oneCell']) (by unfold maxLen;omega) (by omega) (by simp;omega) ?_;intro v' w5 hown6 hgrow6 _)
       go_roundg gh
       case measure=>omega
       case rel =>
        refine⟨k+1,m+1,by omega,by omega,by go_num,Lib.hid ⟨?_,?_,?_⟩⟩
        ·rw [HSN2.out,rlC_snoc];exact hown6
        ·exact (HB7.out.alloc hsW _).grown hgrow6 (by simp;omega) (L8.own_base hown5)
        ·rw [HSN2.out,List.length_append,HLn.out];rfl
      ·have ht:(nm.toList==mp.toList)=false:=L2.txt_ne he
       have hr:=HST.out
       rw [if_neg he] at hr
       have HT2:=Lib.hid (And.intro hr (L2.bch HTB.out HBN.out))
       clear he hr HST HTB
       go_wp2
       go_roundg gi
       case measure=>omega
       case rel=>exact⟨j+1,by omega,rfl,by go_num,HT2⟩
   ·have hfe2:(f != 11)=true:=by simpa using hfe
    rw [if_neg (fun h=>hfe h.1),List.append_nil] at hsn
    have HSN:=Lib.hid hsn
    have HX1:=Lib.hid (And.intro hown1 B1)
    clear hsn hf hown1 B1
    go_wp2_with (go_at_call 80;((with_reducible refine (HF.out _).mono ?_);rintro e w3 ⟨rfl,b3⟩))
    go_roundg gh
    case measure=>omega
    case rel =>
     refine⟨k+1,m,by omega,by omega,by go_num,Lib.hid ⟨?_,L2.bch HX1.out.2 b3,?_⟩⟩
     ·rw [HSN.out];exact L8.own_below HX1.out.1 b3
     ·rw [HSN.out];exact HLn.out
  | zero =>
   obtain rfl:k=n2:=by omega
   have hJ:=hI.out
   obtain⟨va,vc,rfl⟩:=owns_slice hJ.1
   have HJ2:=Lib.hid hJ
   clear hI hJ
   go_wp2
   try rw [Exit.noGoto_ret]
   go_ret
   have hJ:=HJ2.out
   refine⟨_,rfl,?_,L2.bch HB2.out hJ.2.1⟩
   rw [hJ.2.2]
   exact own_weak hJ.1 (by have:=HB2.out.size;have:=HKB.out;omega)
end Go.Proofs.YtihiggnglmhggaaGreatDoor.L12
end
section
namespace Go.Proofs.YtihiggnglmhggaaGreatDoor.L12
open Go.RowKit Go.Shelf L3 L4
attribute [local go_sem] Oper.semAt_some
theorem keepM {w W W':World} {k b p:Nat} {x y:Value} {z:ByteArray} (hb:Below W.heap.size W W') (h:Below w.heap.size w W∧W.cell? ⟨k,0,none⟩=some x∧W.cell? ⟨k,1,none⟩=some y∧W.cell? ⟨b,p,none⟩=some (.string z)) :
  Below w.heap.size w W'∧W'.cell? ⟨k,0,none⟩=some x∧W'.cell? ⟨k,1,none⟩=some y∧W'.cell? ⟨b,p,none⟩=some (.string z):=by
 obtain⟨h0,h1,h2,h3⟩:=h
 exact⟨L2.bch h0 hb,cell_up hb h1,cell_up hb h2,cell_up hb h3⟩
theorem rrefs_at (vm vs:Value) (p:L10.Pg) (w:World) (hp:L10.PgAt w vm vs p) (hs:L10.Sml p) :
  Calls Tryz.prog 43 #[.agg #[vm,vs]] w fun e w'=>RfP w p e w':=by
 obtain⟨i0,hi,hz0,hz1,hz2⟩:=info_parts infoR
 obtain⟨n1,hn1⟩:∃ n,p.maps.length=n:=⟨_,rfl⟩
 obtain⟨n2,hn2⟩:∃ n,p.stmts.length=n:=⟨_,rfl⟩
 obtain⟨a1,c1,rfl,-⟩:=L10.df_form hn1 hp.1
 obtain⟨a2,c2,rfl,hc⟩:=L10.sm_form hn2 hp.2
 have hm2:=hs.stmts
 rw [hn2] at hm2
 have HC:=Lib.hid hc
 have HN:=Lib.hid hn2
 have HB:=Lib.hid (L8.bnew w (.cells #[.slice a1 n1 c1,.slice a2 n2 c2] 53))
 have K0:=Lib.hid (heap_alloc_last w (.cells #[.slice a1 n1 c1,.slice a2 n2 c2] 53))
 have HCo:=Lib.hid (fun (W:World) (hb:Below w.heap.size w W)=>rcode_at (.slice a1 n1 c1) (.slice a2 n2 c2) p W (hp.below hb) hs)
 have HMp:=Lib.hid (fun (x:ByteArray) (W:World) (hb:Below w.heap.size w W)=>L10.rmap_at (.slice a1 n1 c1) (.slice a2 n2 c2) p x W (hp.below hb) hs)
 unfold CoP at HCo
 rw [hn2] at HCo
 unfold RfP
 rw [hn2]
 clear hp hs hn1 hn2 hc
 go_enter Tryz.func43,Tryz.ntmps43
 go_upto_region 1 with (fail)
 obtain⟨x1,x2⟩:=L10.cells2p K0.out
 have hlt1:=World.block_lt_of_cell? _ _ x1
 simp only at hlt1
 obtain⟨kb,hkb⟩:∃ kb,w.heap.size=kb:=⟨_,rfl⟩
 have HKB:=Lib.hid hkb
 rw [hkb] at K0 x1 x2 hlt1 ⊢
 clear hkb
 generalize w.alloc (.cells #[.slice a1 n1 c1,.slice a2 n2 c2] 53)=W0 at K0 x1 x2 hlt1 HB ⊢
 go_wp2_with (go_at_call 49;((with_reducible refine (HCo.out _ HB.out).mono ?_);rintro e w2 ⟨ca,cc,rfl,hci,b1⟩))
 have HB2:=Lib.hid (L2.bch HB.out b1)
 have K2:=Lib.hid (L8.row_up K0.out b1)
 have HCI:=Lib.hid hci
 obtain⟨ca',cc',hcv,hcx⟩:=is_form (n:=n2) (by rw [cdL_len];exact HN.out) hci
 cases hcv
 have HCX:=Lib.hid hcx
 clear x1 x2 hlt1 hci b1 K0 hcx
 have HI:Hid (w2.ownsRow w2.heap.size 101 2 (.slice none 0 0) 0 (rlC (rfT p 0))∧Below w2.heap.size w2 w2∧(rfT p 0).length=0):=Lib.hid ⟨World.ownsRow_nil _ _ _ _,Below.refl _ _,rfl⟩
 go_loopw [3,5] (fun vn i wr=>∃ k m:Nat,k≤n2∧m≤k∧i=.int .i64 (k:Int)∧Hid (wr.ownsRow w2.heap.size 101 2 vn m (rlC (rfT p k))∧Below w2.heap.size w2 wr∧(rfT p k).length=m)) (fun _ i _=>n2-(RowKit.intOf i).toNat)
 case atStart=>exact⟨0,0,Nat.zero_le _,Nat.le_refl _,rfl,HI⟩
 case round =>
  obtain⟨k,m,hk,hmk,rfl,hI⟩:=hrel
  clear HI
  by_cases hlt:k<n2
  ·have hkl:k<p.stmts.length:=by rw [HN.out];exact hlt
   obtain⟨x1,x2⟩:=L10.cells2p (L8.row_up K2.out hI.out.2.1)
   have hlt1:=World.block_lt_of_cell? _ _ x1
   simp only at hlt1
   obtain⟨b,o,rfl,hbl,hc⟩:=HC.out (by omega)
   obtain⟨lv,hst,hx⟩:=hc k hkl
   have hBw:=L2.bch HB2.out hI.out.2.1
   have y8:=cell_up hBw (hx 8 _ rfl)
   have hw1:=World.block_lt_of_cell? _ _ y8
   simp only at hw1
   obtain⟨lb,lo,rfl,hlb,hcx⟩:=HCX.out (by omega)
   have q0:=(hcx k (by rw [cdL_len];exact hkl)).1
   rw [cdL_get p.stmts k hkl] at q0
   have q0:=cell_up hI.out.2.1 q0
   have hsn:=rfT_snoc p k hkl
   have HS:=Lib.hid (fun (W:World) (hb:Below w2.heap.size w2 W)=>rstart_at (.slice (some ⟨lb,lo,none⟩) n2 cc) (cdL p.stmts) k (stN (cdL p.stmts) k) W (HCI.out.below hb) (by rw [cdL_len,HN.out];omega) (by rw [cdL_len,HN.out];omega) rfl)
   obtain⟨st,hst2⟩:∃ st,stN (cdL p.stmts) k=st:=⟨_,rfl⟩
   rw [hst2] at hsn HS
   obtain⟨s,hs⟩:∃ s,p.stmts[k]=s:=⟨_,rfl⟩
   rw [hs] at y8 hsn q0
   obtain⟨labs,⟨op,reg,dst,src,off,imm⟩,tg,mp⟩:=s
   simp only at hsn q0 y8
   have hkI:(k:Int)<(n2:Int):=by omega
   have HBl:=Lib.hid hI.out.2.1
   have HBw:=Lib.hid hBw
   have hown:=hI.out.1
   have HLn:=Lib.hid hI.out.2.2
   obtain⟨f,hf⟩:∃ f,frm (ix op)=f:=⟨_,rfl⟩
   obtain⟨R,hR⟩:∃ R,L10.mpI 0 p.maps mp=R:=⟨_,rfl⟩
   rw [hf,hR] at hsn
   have HF:=Lib.hid (fun W=>rform_at op f W hf)
   have HM:=Lib.hid (fun (W:World) (hb:Below wr.heap.size wr W)=>HMp.out mp W (L2.bch HBw.out hb))
   rw [hR] at HM
   have hRg:=mpI_ge p.maps 0 mp
   rw [hR] at hRg
   have hown2:=Lib.hid hown
   have HSN:=Lib.hid hsn
   have HQ:=Lib.hid q0
   have Y:=And.intro (Below.refl wr.heap.size wr) (And.intro x1 (And.intro x2 y8))
   clear hx hc hst hst2 hs hI hBw hcx hf hR hsn hown q0
   go_upto_region 6 with (fail)
   go_region_held3 (fun W=>Below wr.heap.size wr W∧W.cell? ⟨kb,0,none⟩=some (.slice a1 n1 c1)∧W.cell? ⟨kb,1,none⟩=some (.slice (some ⟨b,o,none⟩) n2 c2)∧W.cell? ⟨b,o+k*9+8,none⟩=some (.string mp))
    (first|exact keepM (Below.refl _ _).drew Y|exact keepM hb9 (keepM (Below.refl _ _).drew Y)|exact keepM hb9 (by assumption)|assumption)
    (first|(go_at_call 83;((with_reducible refine (HM.out _ (And.left (by assumption))).mono ?_);rintro e w9 ⟨rfl,hb9⟩))|(go_at_call 83;((with_reducible refine (HM.out _ (Below.refl _ _).drew).mono ?_);rintro e w9 ⟨rfl,hb9⟩)))
   all_goals
    rename_i hh
    have q0:=cell_up hh.1 HQ.out
    have hown5:=L8.own_below hown2.out hh.1
    have HB9:=Lib.hid (L2.bch HBl.out hh.1)
    have hs1:=HB9.out.size
    clear hh Y
    by_cases hf:f=11
    ·subst hf
     by_cases hr:0≤R
     ·have hsn:=HSN.out
      rw [if_pos ⟨by trivial,hr⟩] at hsn
      have HSN2:=Lib.hid hsn
      clear hsn HSN
      go_wp2_with (first|(go_at_call 29;((with_reducible refine (HF.out _).mono ?_);rintro e w4 ⟨rfl,rfl⟩))|(go_at_call 30;((with_reducible refine (HS.out _ HB9.out).mono ?_);rintro e w4 ⟨rfl,rfl⟩))|(at_builtin;refine wpList_append_own _ rfl _ _ 24 rfl w2.heap.size 101 i0 (.agg #[.int .i64 0,.int .i64 0]) 2 16 Tryz.underlying24 hi hz0 hz1 hz2 rfl (by decide) _ m _ rfl (hown5.alloc _) ⟨w9.heap.size,0,none⟩ 1 1 [.int .i64 (st:Int),.int .i64 R] rfl rfl (World.news_of_block (cs:=#[.int .i64 (st:Int),.int .i64 R]) (t:=101) (fr:=(0,0)) (heap_alloc_last w9 _)) (by simp [Value.oneCell']) (by unfold maxLen;omega) (by omega) (by simp;omega) ?_;intro v' w5 hown6 hgrow6 _))
      go_roundw
      case rel =>
       refine⟨k+1,m+1,by omega,by omega,by go_num,Lib.hid ⟨?_,?_,?_⟩⟩
       ·rw [HSN2.out,rlC_snoc];exact hown6
       ·exact (HB9.out.alloc hs1 _).grown hgrow6 (by simp;omega) (L8.own_base hown5)
       ·rw [HSN2.out,List.length_append,HLn.out];rfl
      case measure=>simp [RowKit.intOf];omega
     ·have hsn:=HSN.out
      rw [if_neg (fun h=>hr h.2),List.append_nil] at hsn
      have HX:=Lib.hid (And.intro hown5 HB9.out)
      have HSN2:=Lib.hid hsn
      clear hsn HSN hown5
      go_wp2_with (first|(go_at_call 29;((with_reducible refine (HF.out _).mono ?_);rintro e w4 ⟨rfl,rfl⟩)))
      go_roundw
      case rel=>exact⟨k+1,m,by omega,by omega,by go_num,Lib.hid ⟨by rw [HSN2.out];exact HX.out.1,HX.out.2,by rw [HSN2.out];exact HLn.out⟩⟩
      case measure=>simp [RowKit.intOf];omega
    ·have hf2:(f==11)=false:=by simpa using hf
     have hsn:=HSN.out
     rw [if_neg (fun h=>hf h.1),List.append_nil] at hsn
     have HX:=Lib.hid (And.intro hown5 HB9.out)
     have HSN2:=Lib.hid hsn
     clear hsn HSN hown5
     go_wp2_with (first|(go_at_call 29;((with_reducible refine (HF.out _).mono ?_);rintro e w4 ⟨rfl,rfl⟩)))
     go_roundw
     case rel=>exact⟨k+1,m,by omega,by omega,by go_num,Lib.hid ⟨by rw [HSN2.out];exact HX.out.1,HX.out.2,by rw [HSN2.out];exact HLn.out⟩⟩
     case measure=>simp [RowKit.intOf];omega
  ·obtain rfl:k=n2:=by omega
   have hJ:=hI.out
   obtain⟨va,vc,rfl⟩:=owns_slice hJ.1
   have HJ2:=Lib.hid hJ
   clear hI hJ
   go_wp2
   go_ret
   have hJ:=HJ2.out
   refine⟨_,rfl,?_,L2.bch HB2.out hJ.2.1⟩
   rw [hJ.2.2]
   exact own_weak hJ.1 (by have:=HB2.out.size;have:=HKB.out;omega)
end Go.Proofs.YtihiggnglmhggaaGreatDoor.L12
end
section
namespace Go.Proofs.YtihiggnglmhggaaGreatDoor.L12
open Go.RowKit Go.Shelf L3 L4
attribute [local go_sem] Oper.semAt_some
def RlAt (w:World) (v:Value) (l:List (Nat × Int)):Prop :=
 (∃ b o cap,v=.slice (some ⟨b,o,none⟩) l.length cap∧b<w.heap.size∧∀ j,(h:j<l.length)→w.cell? ⟨b,o+j*2,none⟩=some (.int .i64 (l[j].1:Int))∧w.cell? ⟨b,o+j*2+1,none⟩=some (.int .i64 l[j].2))∨(l=[]∧∃ a cap,v=.slice a 0 cap)
theorem rlC_get:∀ (l:List (Nat × Int)) (j:Nat) (h:j<l.length),(rlC l)[j*2]?=some (.int .i64 (l[j].1:Int))∧(rlC l)[j*2+1]?=some (.int .i64 l[j].2)
 | x::r,0,_=>by simp [rlC,rlL]
 | x::r,j+1,h=>by
  have:=rlC_get r j (by simpa using h)
  simp only [rlC,List.flatMap_cons] at this ⊢
  rw [List.getElem?_append_right (by simp [rlL];omega),List.getElem?_append_right (by simp [rlL];omega)]
  rw [show (j+1)*2-(rlL x).length=j*2 by simp [rlL];omega,show (j+1)*2+1-(rlL x).length=j*2+1 by simp [rlL];omega]
  exact this
theorem own_rl {W:World} {B e:TypeId} {v:Value} {xs:List (Nat × Int)} (h:W.ownsRow B e 2 v xs.length (rlC xs)):RlAt W v xs:=by
 rcases h.2 with ⟨rfl,h0⟩|⟨g,cap,cur,rfl,_,hh,_⟩
 ·exact .inr ⟨List.eq_nil_of_length_eq_zero h0,none,0,rfl⟩
 ·refine .inl ⟨g,0,cap,rfl,lt_of_block hh,fun j hj=>?_⟩
  have k1:=h.cells (g:=g) rfl (j*2) _ (rlC_get xs j hj).1
  have k2:=h.cells (g:=g) rfl (j*2+1) _ (rlC_get xs j hj).2
  rw [L8.add0] at k1 k2
  rw [Nat.zero_add]
  exact⟨k1,k2⟩
theorem rfT_len (p:L10.Pg):∀ k,(rfT p k).length≤k:=by
 intro k
 induction k with
 | zero=>simp [rfT,rfL]
 | succ k ih =>
  by_cases h:k<p.stmts.length
  ·rw [rfT_snoc p k h,List.length_append]
   split <;> simp <;> omega
  ·have:rfT p (k+1)=rfT p k:=by
    unfold rfT
    rw [List.take_of_length_le (by omega),List.take_of_length_le (by omega)]
   rw [this];omega
end Go.Proofs.YtihiggnglmhggaaGreatDoor.L12
end
section
namespace Go.Proofs.YtihiggnglmhggaaGreatDoor.L5
open Go.RowKit L3 L1 L4
theorem byC_list (l:List UInt8):(byC l).toList=byL l:=by simp [byC,byL]
theorem enc_is (x:Ix) (l:List UInt8) (n:Nat) (w:World) (hw:Wid w) (hx:x.fits) (h0:x.err=0) (hl:x.bytes=l) (hn:l.length=n) :
  Calls Tryz.prog 86 #[.agg #[.int .i64 x.op,.bool x.reg,.int .i64 x.dst,.int .i64 x.src,.int .i64 x.off,.int .i64 x.imm]] w fun e w'=>∃ k,w.heap.size≤k∧e=.returned (.tuple #[.slice (some ⟨k,0,none⟩) n n,.int .i64 0])∧w'.heap[k]?=some (.cells (byC l) 5)∧Below w.heap.size w w' :=
 encode_at x.op x.reg x.dst x.src x.off x.imm x.f l n w hw rfl ((chk_ok _ _ _ _ _ _).1 h0) hx.1 hx.2 hl hn
theorem enc_no (x:Ix) (R:Int) (w:World) (hw:Wid w) (h:x.err=R) (hR:(R != 0)=true) :
  Calls Tryz.prog 86 #[.agg #[.int .i64 x.op,.bool x.reg,.int .i64 x.dst,.int .i64 x.src,.int .i64 x.off,.int .i64 x.imm]] w fun e w'=>e=.returned (.tuple #[.slice none 0 0,.int .i64 R])∧Below w.heap.size w w' :=
 encode_no x.op x.reg x.dst x.src x.off x.imm x.f R w hw rfl h hR
theorem byL_at {w:World} {k:Nat} {l:List UInt8} (h:w.heap[k]?=some (.cells (byC l) 5)):∀ j u,(byL l)[j]?=some u→w.cell? ((⟨k,0,none⟩:Addr).add j)=some u:=by
 rw [← byC_list]
 exact World.news_of_block h
def JoinP (w:World) (xs:List Ix) (e:Ending) (w':World):Prop :=
 ((∃ p x q,xs=p++x::q∧(∀ y∈p,y.err=0)∧x.err≠0∧e=.returned (.tuple #[.slice none 0 0,.int .i64 (p.length:Int),.int .i64 x.err])) ∨
  ((∀ y∈xs,y.err=0)∧∃ v,e=.returned (.tuple #[v,.int .i64 0,.int .i64 0])∧w'.ownsRow w.heap.size 5 1 v (joinB xs).length (byL (joinB xs))))∧Below w.heap.size w w'
theorem join_some (k o n cap:Nat) (xs:List Ix) (w:World) (hw:Wid w) (hn:xs.length=n) (hm:n≤100000) (hi:Inss w k o xs) (hf:∀ x∈xs,x.fits) :
  Calls Tryz.prog 45 #[.slice (some ⟨k,o,none⟩) n cap] w fun e w'=>JoinP w xs e w':=by
 obtain⟨i0,hi0,hz0,hz1,hz2⟩:=info_parts Tryz.info5
 have HW:=Lib.hid hw
 have HI:=Lib.hid hi
 have HF:=Lib.hid hf
 have HN:=Lib.hid hn
 clear hw hi hf hn
 go_enter Tryz.func45,Tryz.ntmps45
 go_wp2
 go_loopw [5,12] (fun b i wr=>∃ (j:Nat) (m:Nat) (l:List UInt8),j≤n∧i=.int .i64 (j:Int)∧wr.ownsRow w.heap.size 5 1 b m (byL l)∧m≤16*j∧Hid (l=joinB (xs.take j))∧Hid (∀ y∈xs.take j,y.err=0)∧Below w.heap.size w wr) (fun _ i _=>n-(RowKit.intOf i).toNat)
 case atStart=>exact⟨0,0,[],Nat.zero_le _,rfl,World.ownsRow_nil _ _ _ _,by omega,Lib.hid (by simp [joinB]),Lib.hid (by simp),Below.refl _ _⟩
 case round =>
  obtain⟨j,m,l,hj,rfl,hown,hm16,hL,hG,hB⟩:=hrel
  by_cases hlt:j<n
  ·have hjx:j<xs.length:=by rw [HN.out];exact hlt
   obtain⟨x,hx⟩:∃ x,xs[j]=x:=⟨_,rfl⟩
   have hI:=(HI.out.up hB) j hjx
   rw [hx] at hI
   have a0:=hI 0 _ rfl
   have a1:=hI 1 _ rfl
   have a2:=hI 2 _ rfl
   have a3:=hI 3 _ rfl
   have a4:=hI 4 _ rfl
   have a5:=hI 5 _ rfl
   rw [Nat.add_zero] at a0
   have hlt':(j:Int)<(n:Int):=by omega
   have HX:=Lib.hid hx
   clear hI hx
   by_cases h0:x.err=0
   ·have HE:=Lib.hid (fun (W:World) (hb:Below w.heap.size w W)=>enc_is x x.bytes _ W (wid_below HW.out hb) (HF.out x (by rw [← HX.out];exact List.getElem_mem _)) h0 rfl rfl)
    have H0:=Lib.hid h0
    clear h0
    have hBW:=Lib.hid (hB.alloc hB.size (.cells x.cs 45))
    have hsz:=hB.size
    have hb16:=bytes_length x
    go_wp2_with (first|(go_at_call 86;((with_reducible refine (HE.out _ hBW.out).mono ?_);rintro e w2 ⟨kk,hkk,rfl,hck,hb2⟩;have hown2:=own_below hown (bch (bnew wr (.cells x.cs 45)) hb2)))|(at_builtin;refine wpList_append_own _ rfl _ _ 23 rfl w.heap.size 5 i0 (.int .u8 0) 1 1 Tryz.underlying23 hi0 hz0 hz1 hz2 rfl (by decide) _ m _ rfl hown2 ⟨kk,0,none⟩ x.bytes.length x.bytes.length (byL x.bytes) rfl (by rw [byL_len];omega) (byL_at hck) (byL_one _) (by unfold maxLen;omega) (by omega) (by have:=hb2.size;simp at this;omega) ?_;intro v' w3 hown3 hgrow3 _))
    go_roundw
    case rel =>
     have hT:xs.take (j+1)=xs.take j++[x]:=by rw [List.take_succ_eq_append_getElem hjx,HX.out]
     refine⟨j+1,m+x.bytes.length,l++x.bytes,by omega,by go_num,by rw [byL_append];exact hown3,by omega,Lib.hid ?_,Lib.hid ?_,((hBW.out.trans (hb2.mono (by simp;omega)))).grown hgrow3 (by have:=hb2.size;simp at this;omega) (own_base hown)⟩
     ·rw [hT,hL.out]
      simp [joinB]
     ·rw [hT]
      intro y hy
      rcases List.mem_append.1 hy with h|h
      ·exact hG.out y h
      ·rw [List.mem_singleton.1 h];exact H0.out
    case measure=>simp [RowKit.intOf];omega
   ·have hne:(x.err != 0)=true:=by simpa using h0
    have HE:=Lib.hid (fun (W:World) (hb:Below w.heap.size w W)=>enc_no x x.err W (wid_below HW.out hb) rfl hne)
    have hBW:=Lib.hid (hB.alloc hB.size (.cells x.cs 45))
    have hsz:=hB.size
    have H0:=Lib.hid h0
    clear h0
    go_wp2_with (first|(go_at_call 86;((with_reducible refine (HE.out _ hBW.out).mono ?_);rintro e w2 ⟨rfl,hb2⟩)))
    refine bodyPost_ret (v:=.tuple #[.slice none 0 0,.int .i64 (j:Int),.int .i64 x.err]) (by simp [results,Tryz.results45,go_sem]) rfl ⟨.inl ⟨xs.take j,x,xs.drop (j+1),?_,hG.out,H0.out,?_⟩,hBW.out.trans (hb2.mono (by simp;omega))⟩
    ·rw [← HX.out,← List.drop_eq_getElem_cons hjx,List.take_append_drop]
    ·rw [List.length_take,Nat.min_eq_left (by omega)]
  ·have hge:¬ (j:Int)<(n:Int):=by omega
   have hjn:j=n:=by omega
   have HJ:=Lib.hid hjn
   clear hjn
   obtain⟨va,vc,rfl⟩:=owns_slice' hown
   go_wp2
   have hT:xs.take j=xs:=List.take_of_length_le (by rw [HN.out,HJ.out];exact Nat.le_refl _)
   have hLL:l=joinB xs:=by rw [hL.out,hT]
   have hml:m=(joinB xs).length:=by have:=hown.1;rw [byL_len,hLL] at this;omega
   refine bodyPost_ret (v:=.tuple #[.slice va m vc,.int .i64 0,.int .i64 0]) (by simp [results,Tryz.results45,go_sem]) rfl ⟨.inr ⟨fun y hy=>hG.out y (by rw [hT];exact hy),_,rfl,?_⟩,hB⟩
   rw [← hml,← hLL]
   exact hown
theorem join_none (a:Option Addr) (cap:Nat) (w:World):Calls Tryz.prog 45 #[.slice a 0 cap] w fun e w'=>JoinP w [] e w':=by
 go_enter Tryz.func45,Tryz.ntmps45
 go_wp2
 refine wp_loop_rounds 1 ?_
 rw [rounds_succ]
 go_wp2
 exact bodyPost_ret (v:=.tuple #[.slice none 0 0,.int .i64 0,.int .i64 0]) (by simp [results,Tryz.results45,go_sem]) rfl ⟨.inr ⟨(fun y hy=>by cases hy),_,rfl,World.ownsRow_nil _ _ _ _⟩,Below.refl _ _⟩
theorem join_at (v:Value) (xs:List Ix) (w:World) (hw:Wid w) (hm:xs.length≤100000) (hv:InAt w v xs) (hf:∀ x∈xs,x.fits):Calls Tryz.prog 45 #[v] w fun e w'=>JoinP w xs e w':=by
 obtain⟨a,cap,rfl,h⟩:=hv
 rcases h with rfl|⟨k,o,rfl,h⟩
 ·exact join_none a cap w
 ·exact join_some k o _ cap xs w hw rfl hm h hf
end Go.Proofs.YtihiggnglmhggaaGreatDoor.L5
end
section
namespace Go.Proofs.YtihiggnglmhggaaGreatDoor.L5
open Go.RowKit L3 L1 L4
def BsV (w:World) (v:Value) (l:List UInt8):Prop:=∃ a cap,v=.slice a l.length cap∧(l=[]∨∃ k o,a=some ⟨k,o,none⟩∧Bytes w k o l)
theorem BsAt.v {w:World} {v:Value} {l:List UInt8} (h:BsAt w v l):BsV w v l:=by
 obtain⟨a,cap,h1,-,-,h4⟩:=h
 exact⟨a,cap,h1,h4⟩
theorem BsV.below {w w':World} {v:Value} {l:List UInt8} (h:BsV w v l) (hb:Below w.heap.size w w'):BsV w' v l:=by
 obtain⟨a,cap,rfl,h3⟩:=h
 refine⟨a,cap,rfl,?_⟩
 rcases h3 with h3|⟨k,o,rfl,h3⟩
 ·exact .inl h3
 ·exact .inr ⟨k,o,rfl,h3.up hb⟩
end Go.Proofs.YtihiggnglmhggaaGreatDoor.L5
end
section
namespace Go.Proofs.YtihiggnglmhggaaGreatDoor.L13
open Go.RowKit Go.Shelf L12
open L10 (take_eq take_all get_ne)
attribute [local go_sem] Oper.semAt_some
theorem bs_form {w:World} {v:Value} {l:List UInt8} {n:Nat} (hn:l.length=n) (h:L5.BsV w v l):∃ a c,v=.slice a n c∧(0<n→∃ b o,a=some ⟨b,o,none⟩∧b<w.heap.size∧∀ j,(h:j<l.length)→w.cell? ⟨b,o+j,none⟩=some (.int .u8 (l[j].toNat:Int))):=by
 subst hn
 obtain⟨a,c,rfl,hc⟩:=h
 refine⟨a,c,rfl,fun h0=>?_⟩
 obtain⟨k,o,rfl,hB⟩:=hc.resolve_left (fun e=>by rw [e] at h0;exact absurd h0 (by simp))
 have h1:=hB 0 h0
 exact⟨k,o,rfl,World.block_lt_of_cell? _ _ h1,hB⟩
structure ObAt (w:World) (vm vc vr:Value) (o:Ob):Prop where
 m:L10.DfAt w vm o.maps
 c:L5.BsV w vc o.code
 r:RoAt w vr o.rels
theorem rl_ro {w:World} {v:Value} {l:List (Nat × Int)} (h:RlAt w v l):RoAt w v (l.map fun r=>((r.1:Int),r.2)):=by
 rcases h with ⟨b,o,cap,rfl,hlt,hc⟩|⟨rfl,a,cap,rfl⟩
 ·refine .inl ⟨b,o,cap,by rw [List.length_map],hlt,fun j hj=>?_⟩
  rw [List.length_map] at hj
  rw [List.getElem_map]
  exact hc j hj
 ·exact .inr ⟨rfl,a,cap,rfl⟩
end Go.Proofs.YtihiggnglmhggaaGreatDoor.L13
end
section
namespace Go.Proofs.YtihiggnglmhggaaGreatDoor.L13
open Go.RowKit Go.Shelf L12
open L10 (take_eq take_all get_ne)
attribute [local go_sem] Oper.semAt_some
structure ObS (o:Ob):Prop where
 m:o.maps.length≤100000
 c:o.code.length≤100000
 r:o.rels.length≤100000
abbrev obC (vm vc vr:Value):Obj:=.cells #[vm,vc,vr] 26
end Go.Proofs.YtihiggnglmhggaaGreatDoor.L13
end
section
namespace Go.Proofs.YtihiggnglmhggaaGreatDoor.L11
open L9 (tCol eB)
open L10 (Stm Pg)
theorem emp {t:ByteArray} (h:t.toList.isEmpty=true):t=eB:=by
 rw [Lib.toList_data] at h
 apply ByteArray.ext
 apply Array.toList_inj.1
 show t.data.toList=[]
 simpa using h
theorem fe_zero {l:List Int} (h:(L10.fe l).2=0):∀ e∈l,e=0:=L10.feF_none l 0 h
theorem frB_ok:∀ (l:List (Bool × Nat × Int)),(L10.frB l).2.2=0→∀ c∈l,c.2.2=0
 | [],_=>by simp
 | c::r,h=>by
  rw [L10.frB] at h
  by_cases h0:c.2.2=0
  ·rw [if_pos h0] at h
   intro x hx
   rcases List.mem_cons.1 hx with rfl|hx
   ·exact h0
   ·exact frB_ok r h x hx
  ·rw [if_neg h0] at h;exact absurd h h0
theorem brV_parts {p:Pg} (h:(L10.brV p).2.2=0):(∀ d∈p.maps,L10.deE d=0)∧(∀ s∈p.stmts,L10.stE s=0):=by
 have k:=frB_ok _ h
 refine⟨fun d hd=>?_,fun s hs=>?_⟩
 ·have:=k (true,L10.fe (p.maps.map L10.deE)) (by simp [L10.cnd])
  exact fe_zero this _ (List.mem_map.2 ⟨d,hd,rfl⟩)
 ·have:=k (false,L10.fe (p.stmts.map L10.stE)) (by simp [L10.cnd])
  exact fe_zero this _ (List.mem_map.2 ⟨s,hs,rfl⟩)
end Go.Proofs.YtihiggnglmhggaaGreatDoor.L11
end
section
namespace Go.Proofs.YtihiggnglmhggaaGreatDoor.L13
open L3 L4 L12
open L10 (Stm Pg jmI fmI lbK)
def dsI (p:Pg) (i:Nat) (s:Stm):Int:=(stN (cdL p.stmts) (lbK p.stmts s.tg p.stmts.length).toNat:Int)-(stN (cdL p.stmts) (i+1):Int)
def rsI (p:Pg) (i:Nat) (s:Stm):L9.Ins:=if jmI s.x then ⟨s.x.op,s.x.reg,s.x.dst,s.x.src,dsI p i s,s.x.imm⟩ else s.x
def rsT (p:Pg) (k:Nat):List L9.Ins:=p.stmts.mapIdx fun i s=>if i<k then rsI p i s else s.x
def rsL (p:Pg):List L9.Ins:=p.stmts.mapIdx (rsI p)
theorem rsT_len (p:Pg) (k:Nat):(rsT p k).length=p.stmts.length:=by simp [rsT]
theorem rsL_len (p:Pg):(rsL p).length=p.stmts.length:=by simp [rsL]
theorem rsT_get (p:Pg) (k i:Nat) (h:i<p.stmts.length):(rsT p k)[i]'(by rw [rsT_len];exact h)=if i<k then rsI p i p.stmts[i] else p.stmts[i].x:=by simp [rsT]
theorem rsL_get (p:Pg) (i:Nat) (h:i<p.stmts.length):(rsL p)[i]'(by rw [rsL_len];exact h)=rsI p i p.stmts[i]:=by simp [rsL]
theorem rsT_zero (p:Pg):rsT p 0=cdL p.stmts:=by
 apply List.ext_getElem
 ·rw [rsT_len,cdL_len]
 ·intro i h1 h2
  rw [rsT_len] at h1
  rw [rsT_get p 0 i h1,cdL_get p.stmts i h1]
  simp
theorem rsT_all (p:Pg):rsT p p.stmts.length=rsL p:=by
 apply List.ext_getElem
 ·rw [rsT_len,rsL_len]
 ·intro i h1 h2
  rw [rsT_len] at h1
  rw [rsT_get p _ i h1,rsL_get p i h1,if_pos h1]
theorem rsT_succ (p:Pg) (k:Nat) (h:k<p.stmts.length):rsT p (k+1)=(rsT p k).set k (rsI p k p.stmts[k]):=by
 apply List.ext_getElem
 ·rw [List.length_set,rsT_len,rsT_len]
 ·intro i h1 h2
  rw [rsT_len] at h1
  rw [rsT_get p _ i h1,List.getElem_set,rsT_get p _ i h1]
  by_cases hk:k=i
  ·subst hk;simp
  ·rw [if_neg hk]
   by_cases hi:i<k
   ·rw [if_pos (by omega),if_pos hi]
   ·rw [if_neg (by omega),if_neg hi]
theorem rsT_keep (p:Pg) (k:Nat) (h:k<p.stmts.length) (hj:jmI p.stmts[k].x=false):rsT p (k+1)=rsT p k:=by
 apply List.ext_getElem
 ·rw [rsT_len,rsT_len]
 ·intro i h1 h2
  rw [rsT_len] at h1
  rw [rsT_get p _ i h1,rsT_get p _ i h1]
  by_cases hk:i=k
  ·subst hk
   rw [if_pos (by omega),if_neg (by omega)]
   unfold rsI
   rw [hj]
   rfl
  ·by_cases hi:i<k
   ·rw [if_pos (by omega),if_pos hi]
   ·rw [if_neg (by omega),if_neg hi]
theorem rsI_op (p:Pg) (i:Nat) (s:Stm):(rsI p i s).op=s.x.op:=by unfold rsI;split <;> rfl
theorem vd_eB:L2.vd L9.eB=false:=by kernel_rfl
structure Good (p:Pg) (s:Stm):Prop where
 chk:L10.chI s.x=0
 off:jmI s.x=true→s.x.off=0
 jmp:jmI s.x=!s.tg.toList.isEmpty
 lab:jmI s.x=true→0≤lbK p.stmts s.tg p.stmts.length
theorem good_of {p:Pg} (h:(L10.brV p).2.2=0):∀ s∈p.stmts,Good p s:=by
 intro s hs
 have k:=L11.frB_ok _ h
 have h1:=(L11.brV_parts h).2 s hs
 have h2:L10.unE p s=0:=by
  have:=k (false,L10.fe (p.stmts.map (L10.unE p))) (by simp [L10.cnd])
  exact L11.fe_zero this _ (List.mem_map.2 ⟨s,hs,rfl⟩)
 unfold L10.stE at h1
 split at h1
 case isFalse=>cases h1
 split at h1
 case isFalse=>rename_i hc;exact absurd h1 hc
 rename_i hc
 split at h1
 case isTrue=>cases h1
 rename_i hb
 split at h1
 case isTrue=>cases h1
 rename_i hn
 have hb':L10.badF s=false:=by simpa using hb
 have hn':L10.badN s=false:=by simpa using hn
 unfold L10.badF at hb'
 unfold L10.badN at hn'
 simp only [Bool.or_eq_false_iff] at hb' hn'
 obtain⟨⟨⟨hb1,hb2⟩,hb3⟩,hb4⟩:=hb'
 have hj:jmI s.x=!s.tg.toList.isEmpty:=by
  cases hje:jmI s.x
  ·rw [hje] at hb3
   simp at hb3
   simp [hb3]
  ·rw [hje] at hn'
   have hv:L2.vd s.tg=true:=by simpa using hn'.1
   cases hem:s.tg.toList.isEmpty
   ·rfl
   ·rw [L11.emp hem,vd_eB] at hv;cases hv
 refine⟨hc,fun he=>?_,hj,fun he=>?_⟩
 ·rw [he] at hb1;simpa using hb1
 ·rw [L10.unE_lb] at h2
  have hem:s.tg.toList.isEmpty=false:=by
   rw [he] at hj
   simpa using hj.symm
  rw [hem] at h2
  by_cases hl:lbK p.stmts s.tg p.stmts.length<0
  ·simp [hl] at h2
  ·omega
theorem sx16_in (z:Int) (h0:-32768≤z) (h1:z≤32767):(L1.sx 16 z==z)=true:=by
 unfold L1.sx
 rw [beq_iff_eq,if_neg (by decide),if_pos (by decide)]
 omega
theorem uO_jmp {f:Int} (h:L4.jmpF f=true):L4.uO f=true:=by
 unfold L4.jmpF at h
 have:f=3∨f=4:=by simpa using h
 rcases this with rfl|rfl <;> rfl
theorem chk_off {f:Int} {reg:Bool} {dst src imm d:Int} (hf:L4.jmpF f=true) (h:L4.chkF f reg dst src 0 imm=0) (h0:-32768≤d) (h1:d≤32767):L4.chkF f reg dst src d imm=0:=by
 obtain⟨k1,k2,k3,k4,k5,k6,k7,k8,k9,k10⟩:=L11.chk_all h
 have e1:(f != -1)=true:=by simpa using k1
 have e2:(!reg || f==0 || f==4)=true:=by rcases k2 with k2|k2|k2 <;> simp [k2]
 have e3:((L4.uD f || dst==0) && (L4.uS f reg || src==0))=true:=by simp [k3,k4]
 have e4:((L4.uO f || d==0) && (L4.uI f reg || imm==0))=true:=by simp [uO_jmp hf,k6]
 have e5:(L4.isG dst && L4.isG src)=true:=by simp [k7,k8]
 have e6:=sx16_in d h0 h1
 unfold L4.chkF
 simp only [L4.firstBad,e1,e2,e3,e4,e5,e6,k10,if_true]
theorem rng_in {f imm:Int} (h:L4.rng f imm=true):-9223372036854775808≤imm∧imm≤9223372036854775807:=by
 unfold L4.rng at h
 have s64:L1.sx 64 imm=imm→-9223372036854775808≤imm∧imm≤9223372036854775807:=by
  unfold L1.sx
  rw [if_neg (by decide),if_neg (by decide),if_neg (by decide)]
  omega
 have s32:L1.sx 32 imm=imm→-9223372036854775808≤imm∧imm≤9223372036854775807:=by
  unfold L1.sx
  rw [if_neg (by decide),if_neg (by decide),if_pos (by decide)]
  omega
 split at h
 ·simp at h;omega
 ·split at h
  ·simp at h;omega
  ·split at h
   ·exact s64 (by simpa using h)
   ·exact s32 (by simpa using h)
theorem ds_in (p:Pg) (i:Nat) (s:Stm) (h:p.stmts.length≤10000):-32768≤dsI p i s∧dsI p i s≤32767:=by
 have a:=stN_le (cdL p.stmts) (lbK p.stmts s.tg p.stmts.length).toNat
 have b:=stN_le (cdL p.stmts) (i+1)
 rw [cdL_len] at a b
 unfold dsI
 omega
theorem rsI_err {p:Pg} {s:Stm} (hg:Good p s) (i:Nat) (h:p.stmts.length≤10000):(tI (rsI p i s)).err=0:=by
 obtain⟨d0,d1⟩:=ds_in p i s h
 have hc:=hg.chk
 unfold L10.chI at hc
 unfold rsI
 split
 ·rename_i hj
  rw [hg.off hj] at hc
  exact chk_off hj hc d0 d1
 ·exact hc
theorem rsL_err {p:Pg} (hz:(L10.brV p).2.2=0) (h:p.stmts.length≤10000):∀ x∈(rsL p).map tI,x.err=0:=by
 intro x hx
 obtain⟨y,hy,rfl⟩:=List.mem_map.1 hx
 obtain⟨i,hi,rfl⟩:=List.mem_iff_getElem.1 hy
 rw [rsL_len] at hi
 rw [rsL_get p i hi]
 exact rsI_err (good_of hz _ (List.getElem_mem hi)) i h
theorem err_fits {x:L5.Ix} (h:x.err=0):x.fits:=by
 unfold L5.Ix.err at h
 obtain⟨-,-,-,-,-,-,-,-,-,k⟩:=L11.chk_all h
 exact rng_in k
theorem rsL_fits {p:Pg} (hz:(L10.brV p).2.2=0) (h:p.stmts.length≤10000):∀ x∈(rsL p).map tI,x.fits:=fun x hx=>err_fits (rsL_err hz h x hx)
def cdB (p:Pg):List UInt8:=L5.joinB ((rsL p).map tI)
end Go.Proofs.YtihiggnglmhggaaGreatDoor.L13
end
section
namespace Go.Proofs.YtihiggnglmhggaaGreatDoor.L13
open Go.RowKit Go.Shelf L3 L4 L12
open L10 (Stm Pg jmI fmI lbK)
attribute [local go_sem] Oper.semAt_some
structure St (w W:World) (p:Pg) (n:Nat) (vm vs lv sv:Value) (kp kl ks kb k:Nat):Prop where
 bel:Below w.heap.size w W
 rp:W.heap[kp]?=some (.cells #[vm,vs] 53)
 rl:W.heap[kl]?=some (.cells #[lv] 38)
 rs:W.heap[ks]?=some (.cells #[sv] 46)
 rb:W.heap[kb]?=some (.cells #[fB ks kl] 65)
 own:W.ownsRow w.heap.size 45 6 lv n (inC (rsT p k))
 ost:W.ownsRow w.heap.size 3 1 sv n ((stL 0 (cdL p.stmts)).map fun (a:Nat)=>Value.int .i64 (a:Int))
theorem St.below {w W W':World} {p:Pg} {n:Nat} {vm vs lv sv:Value} {kp kl ks kb k:Nat} (h:St w W p n vm vs lv sv kp kl ks kb k) (hb:Below W.heap.size W W'):St w W' p n vm vs lv sv kp kl ks kb k :=
 ⟨L2.bch h.bel hb,L8.row_up h.rp hb,L8.row_up h.rl hb,L8.row_up h.rs hb,L8.row_up h.rb hb,L8.own_below h.own hb,L8.own_below h.ost hb⟩
theorem one_cell {w:World} {k:Nat} {a:Value} {t:TypeId} (h:w.heap[k]?=some (.cells #[a] t)):w.cell? ⟨k,0,none⟩=some a:=by
 simp [World.cell?,h]
theorem St.slots {w W:World} {p:Pg} {n:Nat} {vm vs lv sv:Value} {kp kl ks kb k:Nat} (h:St w W p n vm vs lv sv kp kl ks kb k) (hn:p.stmts.length=n) {i:Nat} (hi:i<n) :
  ∃ b o c,sv=.slice (some ⟨b,o,none⟩) n c∧∀ j,j<n→W.cell? ⟨b,o+j,none⟩=some (.int .i64 (stN (cdL p.stmts) j:Int)):=by
 obtain⟨a,c,rfl⟩:=owns_slice h.ost
 have ho:=h.ost
 rw [← hn,← cdL_len,← stL_len (cdL p.stmts) 0] at ho
 obtain⟨b,o,rfl,-,hc⟩:=st_cell (l:=cdL p.stmts) (n:=n) (i:=i) (by rw [cdL_len,hn]) (by have:=own_nums ho;rwa [stL_len,cdL_len,hn] at this) hi
 exact⟨b,o,c,rfl,hc⟩
theorem St.inss {w W:World} {p:Pg} {n:Nat} {vm vs lv sv:Value} {kp kl ks kb k:Nat} (h:St w W p n vm vs lv sv kp kl ks kb k) (hn:p.stmts.length=n) {i:Nat} (hi:i<n) :
  ∃ b o c,lv=.slice (some ⟨b,o,none⟩) n c∧W.cell? ⟨b,o+i*6,none⟩=some (.int .i64 (p.stmts[i]'(by omega)).x.op):=by
 have hI:=own_ins (xs:=rsT p k) (by rw [rsT_len,hn]) h.own
 obtain⟨a,c,rfl,hc⟩:=is_form (n:=n) (by rw [rsT_len,hn]) hI
 obtain⟨b,o,rfl,-,hx⟩:=hc (by omega)
 have h0:=(hx i (by rw [rsT_len];omega)).1
 rw [rsT_get p k i (by omega)] at h0
 refine⟨b,o,c,rfl,?_⟩
 rw [h0]
 split
 ·rw [rsI_op]
 ·rfl
theorem keep4 {w W W':World} {p1 p2 p3 p4:Addr} {v1 v2 v3 v4:Value} (hb:Below W.heap.size W W') (h:Below w.heap.size w W∧W.cell? p1=some v1∧W.cell? p2=some v2∧W.cell? p3=some v3∧W.cell? p4=some v4) :
  Below w.heap.size w W'∧W'.cell? p1=some v1∧W'.cell? p2=some v2∧W'.cell? p3=some v3∧W'.cell? p4=some v4 :=
 ⟨L2.bch h.1 hb,cell_up hb h.2.1,cell_up hb h.2.2.1,cell_up hb h.2.2.2.1,cell_up hb h.2.2.2.2⟩
theorem beh_at {w W:World} {p:Pg} {n:Nat} {vm vs lv sv:Value} {kp kl ks kb k:Nat} (h:St w W p n vm vs lv sv kp kl ks kb k) (hn:p.stmts.length=n) (hm:n≤10000) (i:Nat) (hi:i<n) (N:Nat) (hN:stN (cdL p.stmts) (i+1)=N) :
  Calls Tryz.prog 128 #[.int .i64 (i:Int),.pointer (some ⟨ks,0,none⟩),.pointer (some ⟨kl,0,none⟩)] W fun e W'=>e=.returned (.int .i64 (N:Int))∧Below W.heap.size W W':=by
 obtain⟨b,o,c,rfl,hs⟩:=h.slots hn hi
 obtain⟨b2,o2,c2,rfl,y2⟩:=h.inss hn hi
 have y1:=hs i hi
 have x1:=one_cell h.rs
 have x2:=one_cell h.rl
 have hle:=stN_le (cdL p.stmts) (i+1)
 have hsu:=stN_succ (cdL p.stmts) i (by rw [cdL_len];omega)
 rw [cdL_get p.stmts i (by omega)] at hsu
 rw [cdL_len,hn,hN] at hle
 rw [hN] at hsu
 have HS:=Lib.hid (fun W=>slots_at (p.stmts[i]'(by omega)).x.op _ (slN (p.stmts[i]'(by omega)).x:Int) W rfl (slN_int _))
 generalize stN (cdL p.stmts) i=s at y1 hsu
 generalize slN (p.stmts[i]'(by omega)).x=m at HS hsu
 generalize (p.stmts[i]'(by omega)).x.op=op at HS y2
 subst hsu
 have hw:IntKind.i64.wrap ((s:Int)+(m:Int))=((s+m:Nat):Int):=by rw [IntWalk.i64_in _ (by omega)];omega
 have hl1:=World.block_lt_of_cell? _ _ x1
 have hl2:=World.block_lt_of_cell? _ _ x2
 have hl3:=World.block_lt_of_cell? _ _ y1
 have hl4:=World.block_lt_of_cell? _ _ y2
 have hiI:(i:Int)<(n:Int):=by omega
 simp only at hl1 hl2 hl3 hl4
 have Y:=And.intro (Below.refl W.heap.size W) (And.intro x1 (And.intro x2 (And.intro y1 y2)))
 clear h hs hN hle hn
 go_enter Tryz.func128,Tryz.ntmps128
 go_upto_region 1 with (fail)
 go_region_held3 (fun X=>Below W.heap.size W X∧X.cell? ⟨ks,0,none⟩=some (.slice (some ⟨b,o,none⟩) n c)∧X.cell? ⟨kl,0,none⟩=some (.slice (some ⟨b2,o2,none⟩) n c2)∧X.cell? ⟨b,o+i,none⟩=some (.int .i64 (s:Int))∧X.cell? ⟨b2,o2+i*6,none⟩=some (.int .i64 op))
  (first|exact keep4 (Below.refl _ _).drew Y|exact keep4 hb9 (keep4 (Below.refl _ _).drew Y)|exact keep4 hb9 (by assumption)|assumption)
  (first|(go_at_call 42;((with_reducible refine (HS.out _).mono ?_);rintro e w9 ⟨rfl,hb9⟩)))
 all_goals
  rename_i hh
  go_wp2
  go_ret
  exact⟨rfl,hh.1⟩
theorem chk1_at {vm vs:Value} {p:Pg} {kp:Nat} {W:World} (hk:W.heap[kp]?=some (.cells #[vm,vs] 53)) (hp:L10.PgAt W vm vs p) (hf:L10.Fits p) (hT:L1.Wid W∧L2.Regs W) (b:Bool) (k:Nat) (er:Int) (hr:L10.brV p=(b,k,er)) :
  Calls Tryz.prog 129 #[.pointer (some ⟨kp,0,none⟩)] W fun e W'=>e=.returned (.tuple #[.int .i64 (k:Int),.int .i64 er])∧Below W.heap.size W W':=by
 have HC:=Lib.hid (L10.check_at vm vs p W hp hf hT b k er hr)
 obtain⟨x0,x1⟩:=L10.cells2p hk
 have hl:=World.block_lt_of_cell? _ _ x0
 simp only at hl
 obtain⟨n1,hn1⟩:∃ n,p.maps.length=n:=⟨_,rfl⟩
 obtain⟨a1,c1,rfl,-⟩:=L10.df_form hn1 hp.1
 obtain⟨n2,hn2⟩:∃ n,p.stmts.length=n:=⟨_,rfl⟩
 obtain⟨a2,c2,rfl,-⟩:=L10.sm_form hn2 hp.2
 clear hk hp hf hT hr hn1 hn2
 go_enter Tryz.func129,Tryz.ntmps129
 go_wp2_with (go_at_call 130;((with_reducible refine (HC.out).mono ?_);rintro e w1 ⟨rfl,b1⟩))
 go_ret2
 exact⟨rfl,b1⟩
theorem size_at {w W:World} {p:Pg} {n:Nat} {vm vs lv sv:Value} {kp kl ks kb k:Nat} (h:St w W p n vm vs lv sv kp kl ks kb k) (hn:p.stmts.length=n) (hm:n≤10000) :
  Calls Tryz.prog 131 #[.pointer (some ⟨kl,0,none⟩),.pointer (some ⟨kb,0,none⟩)] W fun e W'=>e=.returned (.tuple #[.int .i64 0,.int .i64 0])∧Below W.heap.size W W':=by
 have HB:=Lib.hid (fun (W':World) (hb:Below W.heap.size W W') (i:Nat) (hi:i<n) (N:Nat) (hN:stN (cdL p.stmts) (i+1)=N)=>beh_at (h.below hb) hn hm i hi N hN)
 have HLE:=Lib.hid (fun i=>by have:=stN_le (cdL p.stmts) i;rw [cdL_len,hn] at this;exact this)
 obtain⟨a,c,rfl⟩:=owns_slice h.own
 have K1:=Lib.hid h.rl
 have K2:=Lib.hid h.rb
 have x1:=one_cell h.rl
 have hl1:=World.block_lt_of_cell? _ _ x1
 simp only at hl1
 clear h hn
 go_enter Tryz.func131,Tryz.ntmps131
 go_wp2
 go_loopw [7] (fun i wr=>∃ j:Nat,j≤n∧i=.int .i64 (j:Int)∧Hid (Below W.heap.size W wr)) (fun i _=>n-(RowKit.intOf i).toNat)
 case atStart=>exact⟨0,Nat.zero_le _,rfl,Lib.hid (Below.refl _ _)⟩
 case round =>
  obtain⟨j,hj,rfl,hB⟩:=hrel
  clear x1 hl1
  by_cases hlt:j<n
  ·obtain⟨N,hN⟩:∃ N,stN (cdL p.stmts) (j+1)=N:=⟨_,rfl⟩
   have hle:=HLE.out (j+1)
   rw [hN] at hle
   have HC:=Lib.hid (HB.out wr hB.out j hlt N hN)
   have x1:=one_cell (L8.row_up K2.out hB.out)
   have hl1:=World.block_lt_of_cell? _ _ x1
   simp only at hl1
   have hjI:(j:Int)<(n:Int):=by omega
   have hg:¬ (65535:Int)<(N:Int):=by omega
   clear hN
   go_wp2_with (go_at_call 128;((with_reducible refine (HC.out).mono ?_);rintro e w1 ⟨rfl,b1⟩))
   go_roundw
   case rel=>exact⟨j+1,by omega,by go_num,Lib.hid (L2.bch hB.out b1)⟩
   case measure=>simp [RowKit.intOf];omega
  ·obtain rfl:j=n:=by omega
   go_wp2
   go_ret2
   exact⟨rfl,hB.out⟩
end Go.Proofs.YtihiggnglmhggaaGreatDoor.L13
end
section
namespace Go.Proofs.YtihiggnglmhggaaGreatDoor.L13
open Go.RowKit Go.Shelf L3 L4 L12
open L10 (Stm Pg jmI fmI lbK)
attribute [local go_sem] Oper.semAt_some
theorem look_run {W:World} {g m:Nat} {p:Pg} {x:ByteArray} {R:Nat} (h:L10.MapAt W g m (L10.prs 0 p.stmts)) (hx:x.size≤maxLen) (hR:lbK p.stmts x p.stmts.length=(R:Int)) :
  (Instr.lookup 175 (.map (some g)) (.string x) false).run Tryz.prog W=.ok (.int .i64 (R:Int)) W:=by
 obtain⟨c,hrun,hat,-⟩:=h.lookup_int L2.law9 Tryz.underlying175 Tryz.underlying3 (L10.zeroI _) (L10.key_of hx)
 have hM:=(L10.Mp_at p.stmts x p.stmts.length (Nat.le_refl _)).2 (by omega)
 rw [List.take_length] at hM
 rw [hM,hR] at hat
 have:(R:Int)=c:=by simpa using hat
 rw [this]
 exact hrun
theorem inC_set:∀ (l:List L9.Ins) (j:Nat) (hj:j<l.length) (d:Int),inC (l.set j ⟨l[j].op,l[j].reg,l[j].dst,l[j].src,d,l[j].imm⟩)=(inC l).set (j*6+4) (.int .i64 d)
 | [],j,hj,_=>absurd hj (by simp)
 | x::r,0,_,d=>by simp [inC]
 | x::r,j+1,hj,d=>by
  have ih:=inC_set r j (by simpa using hj) d
  simp only [inC,List.set_cons_succ,List.flatMap_cons,List.getElem_cons_succ] at ih ⊢
  rw [ih,show (j+1)*6+4=j*6+4+6 by omega]
  rfl
theorem St.store {w W:World} {p:Pg} {n:Nat} {vm vs sv:Value} {kp kl ks kb k gl c:Nat} (h:St w W p n vm vs (.slice (some ⟨gl,0,none⟩) n c) sv kp kl ks kb k) (hn:p.stmts.length=n) (hk:k<n)
  (hj:jmI (p.stmts[k]'(by omega)).x=true) (d:Int) (hd:dsI p k (p.stmts[k]'(by omega))=d) :
  St w (W.setCell ⟨gl,k*6+4,none⟩ (.int .i64 d)) p n vm vs (.slice (some ⟨gl,0,none⟩) n c) sv kp kl ks kb (k+1)∧W.grownBy (W.setCell ⟨gl,k*6+4,none⟩ (.int .i64 d)) (some gl):=by
 have hkl:k<p.stmts.length:=by omega
 obtain⟨cur,hc⟩:=L10.own_ty h.own (g:=gl) rfl
 have hlo:=(h.own.lt gl rfl).1
 have hg:=L10.gr_setCell W gl (k*6+4) (.int .i64 d)
 have r:∀ (q:Nat) (cs:Array Value) (t:TypeId),W.heap[q]?=some (.cells cs t)→t≠45→(W.setCell ⟨gl,k*6+4,none⟩ (.int .i64 d)).heap[q]?=some (.cells cs t):=by
  intro q cs t hq ht
  exact (hg.block q (lt_of_block hq) (L10.ty_ne hq hc ht)).trans hq
 have hst:=(h.own.stored (k*6+4) (.int .i64 d)).1
 have e:(rsT p k)[k]'(by rw [rsT_len];exact hkl)=p.stmts[k].x:=by rw [rsT_get p k k hkl,if_neg (by omega)]
 have e2:rsI p k p.stmts[k]=⟨p.stmts[k].x.op,p.stmts[k].x.reg,p.stmts[k].x.dst,p.stmts[k].x.src,d,p.stmts[k].x.imm⟩:=by
  unfold rsI
  rw [if_pos hj,hd]
 have e3:=inC_set (rsT p k) k (by rw [rsT_len];exact hkl) d
 rw [e,← e2,← rsT_succ p k hkl] at e3
 refine⟨⟨L10.bel_set h.bel hlo _ _,r _ _ _ h.rp (by decide),r _ _ _ h.rl (by decide),r _ _ _ h.rs (by decide),r _ _ _ h.rb (by decide),by rw [e3];exact hst,L10.own_kept h.ost hg (fun q hq=>?_)⟩,hg⟩
 obtain⟨cur2,hc2⟩:=L10.own_ty h.ost hq
 exact L10.ty_ne hc hc2 (by decide)
theorem jmp_is {s:Stm} {f:Int} (h:frm (ix s.x.op)=f):jmI s.x=L4.jmpF f:=by
 unfold L10.jmI L10.fmI
 rw [h]
theorem fits16 (d:Int) (h0:-32768≤d) (h1:d≤32767) (W:World) (hw:L1.Wid W):Calls Tryz.prog 134 #[.int .i64 d,.int .i64 16] W fun e w'=>e=.returned (.bool true)∧W=w' :=
 L4.fits_is d 16 true W hw (.inr (.inl rfl)) (sx16_in d h0 h1)
def SJ (W X:World):Prop:=Below W.heap.size W X
theorem jumps_at {w W:World} {p:Pg} {n:Nat} {vm vs lv sv:Value} {kp kl ks kb:Nat} (h:St w W p n vm vs lv sv kp kl ks kb 0) (hn:p.stmts.length=n) (hm:n≤10000) (hp:L10.PgAt w vm vs p) (hf:L10.Fits p) (hz:(L10.brV p).2.2=0) (hT:L1.Wid w) :
  Calls Tryz.prog 132 #[.pointer (some ⟨kp,0,none⟩),.pointer (some ⟨ks,0,none⟩),.pointer (some ⟨kb,0,none⟩),.pointer (some ⟨kl,0,none⟩)] W fun e W'=>e=.returned (.tuple #[.int .i64 0,.int .i64 0])∧St w W' p n vm vs lv sv kp kl ks kb n:=by
 have HG:=Lib.hid (good_of hz)
 have HSml:L10.Sml p:=⟨hf.maps,hf.stmts,fun s hs=>by
  obtain⟨i,hi,rfl⟩:=List.mem_iff_getElem.1 hs
  exact hf.lab_le i hi⟩
 have HLb:=Lib.hid (fun (X:World) (hb:Below w.heap.size w X)=>L10.labels_at vm vs p X (hp.below hb) HSml hf.lb)
 have HTG:=Lib.hid hf.tg
 have HN:=Lib.hid hn
 have HST:=Lib.hid h
 have HW:=Lib.hid (fun (X:World) (hb:Below w.heap.size w X)=>L4.wid_below hT hb)
 obtain⟨n1,hn1⟩:∃ n,p.maps.length=n:=⟨_,rfl⟩
 obtain⟨a1,c1,rfl,-⟩:=L10.df_form hn1 hp.1
 obtain⟨a2,c2,rfl,hc⟩:=L10.sm_form hn hp.2
 have HC:=Lib.hid hc
 obtain⟨x0,x1⟩:=L10.cells2p h.rp
 have hlp:=World.block_lt_of_cell? _ _ x0
 simp only at hlp
 clear h hn hp hf hz hT hn1 hc
 go_enter Tryz.func132,Tryz.ntmps132
 go_upto_region 2 with (go_at_call 133;((with_reducible refine (HLb.out _ HST.out.bel).mono ?_);rintro e w1 ⟨g,m,rfl,hmp,b1⟩;clear x0 x1;obtain⟨x0,x1⟩:=L10.cells2p (HST.out.below b1).rp;have hlp1:=World.block_lt_of_cell? _ _ x0;simp only at hlp1))
 have HI:Hid (St w w1 p n (.slice a1 n1 c1) (.slice a2 n c2) lv sv kp kl ks kb 0∧L10.MapAt w1 g m (L10.prs 0 p.stmts)):=Lib.hid ⟨HST.out.below b1,hmp⟩
 clear hmp b1
 go_wp2
 go_loopw [15] (fun i wr=>∃ k:Nat,k≤n∧i=.int .i64 (k:Int)∧Hid (St w wr p n (.slice a1 n1 c1) (.slice a2 n c2) lv sv kp kl ks kb k∧L10.MapAt wr g m (L10.prs 0 p.stmts))) (fun i _=>n-(RowKit.intOf i).toNat)
 case atStart=>exact⟨0,Nat.zero_le _,rfl,HI⟩
 case round =>
  obtain⟨k,hk,rfl,hI⟩:=hrel
  clear HI x0 x1 hlp hlp1 HST
  by_cases hlt:k<n
  ·have hkl:k<p.stmts.length:=by rw [HN.out];exact hlt
   obtain⟨b,o,rfl,hbl,hc⟩:=HC.out (by omega)
   obtain⟨lv',hst,hx⟩:=hc k hkl
   have up:∀ i u,(L10.smL lv' p.stmts[k])[i]?=some u→wr.cell? ⟨b,o+k*9+i,none⟩=some u:=fun i u hu=>(hI.out.1.bel.cell (by exact hbl)).trans (hx i u hu)
   have HGk:=Lib.hid (HG.out _ (List.getElem_mem hkl))
   have HTGk:=Lib.hid (HTG.out _ (List.getElem_mem hkl)).1
   have hds:=ds_in p k p.stmts[k] (by rw [HN.out];exact hm)
   obtain⟨d,hd⟩:∃ d,dsI p k p.stmts[k]=d:=⟨_,rfl⟩
   rw [hd] at hds
   have HD:=Lib.hid hd
   have HSTO:=Lib.hid (fun (X:World) (gl c:Nat) (hX:St w X p n (.slice a1 n1 c1) (.slice (some ⟨b,o,none⟩) n c2) (.slice (some ⟨gl,0,none⟩) n c) sv kp kl ks kb k) (hj:jmI p.stmts[k].x=true)=>hX.store HN.out hlt hj d hd)
   have HKP:=Lib.hid (fun (hj:jmI p.stmts[k].x=false)=>rsT_keep p k hkl hj)
   have HBH:=Lib.hid (fun (X:World) (hX:St w X p n (.slice a1 n1 c1) (.slice (some ⟨b,o,none⟩) n c2) lv sv kp kl ks kb k)=>beh_at hX HN.out hm k hlt _ rfl)
   have HDV:Hid (dsI p k p.stmts[k]=(stN (cdL p.stmts) (lbK p.stmts p.stmts[k].tg p.stmts.length).toNat:Int)-(stN (cdL p.stmts) (k+1):Int)):=Lib.hid rfl
   have HNN:=Lib.hid (stN_le (cdL p.stmts) (k+1))
   obtain⟨s,hs⟩:∃ s,p.stmts[k]=s:=⟨_,rfl⟩
   rw [hs] at hst up HGk HTGk HD HSTO HKP HDV
   obtain⟨ln,hln⟩:∃ ln,s.labs.length=ln:=⟨_,rfl⟩
   obtain⟨la,lc,rfl,-⟩:=L10.st_form hln hst
   obtain⟨f,hfr⟩:∃ f,frm (ix s.x.op)=f:=⟨_,rfl⟩
   have hjf:=jmp_is hfr
   obtain⟨jb,hjb⟩:∃ jb,L4.jmpF f=jb:=⟨_,rfl⟩
   rw [hjb] at hjf
   have HJ:=Lib.hid (fun (X:World)=>L4.jumps_at s.x.op s.x.reg s.x.dst s.x.src s.x.off s.x.imm f jb X hfr hjb)
   have y0:=up 0 _ rfl
   have y1:=up 1 _ rfl
   have y2:=up 2 _ rfl
   have y3:=up 3 _ rfl
   have y4:=up 4 _ rfl
   have y5:=up 5 _ rfl
   have y6:=up 6 _ rfl
   have y7:=up 7 _ rfl
   have y8:=up 8 _ rfl
   rw [Nat.add_zero] at y0
   have hw1:=World.block_lt_of_cell? _ _ y0
   simp only at hw1
   have hkI:(k:Int)<(n:Int):=by omega
   clear hx hc hst hs hln up hd hfr hjb
   obtain⟨labs,⟨op,reg,dst,src,off,imm⟩,tg,mp⟩:=s
   simp only at y0 y1 y2 y3 y4 y5 y6 y7 y8 HJ
   go_upto_region 5 with (fail)
   have hx:=heap_alloc_last wr (.cells #[.slice la ln lc,.int .i64 op,.bool reg,.int .i64 dst,.int .i64 src,.int .i64 off,.int .i64 imm,.string tg,.string mp] 80)
   have bn:=L8.bnew wr (.cells #[.slice la ln lc,.int .i64 op,.bool reg,.int .i64 dst,.int .i64 src,.int .i64 off,.int .i64 imm,.string tg,.string mp] 80)
   have HS1:=Lib.hid (And.intro (hI.out.1.below bn) (hI.out.2.below bn))
   obtain⟨q,hq⟩:∃ q,q=wr.heap.size:=⟨_,rfl⟩
   rw [← hq] at hx ⊢
   generalize wr.alloc (.cells _ 80)=W1 at hx HS1 ⊢
   clear hq bn hI y0 y1 y2 y3 y4 y5 y6 y7 y8 hw1
   obtain⟨z0,z1,z2,z3,z4,z5,z6,z7,z8⟩:=cl9 hx
   have HX:=Lib.hid hx
   cases jb
   ·go_upto_region 10 with (go_at_call 40;((with_reducible refine (HJ.out _).mono ?_);rintro e w2 ⟨rfl,b2⟩))
    have HE:=Lib.hid (And.intro (HS1.out.1.below b2) (HS1.out.2.below b2))
    have HK2:=Lib.hid (HKP.out hjf)
    clear z0 z1 z2 z3 z4 z5 z6 z7 z8 hx b2
    go_wp2
    go_roundw
    case rel =>
     refine⟨k+1,by omega,by go_num,Lib.hid ⟨?_,HE.out.2⟩⟩
     have:=HE.out.1
     exact⟨this.bel,this.rp,this.rl,this.rs,this.rb,by rw [HK2.out];exact this.own,this.ost⟩
    case measure=>simp [RowKit.intOf];omega
   ·go_upto_region 6 with (go_at_call 40;((with_reducible refine (HJ.out _).mono ?_);rintro e w2 ⟨rfl,b2⟩))
    have hE:=HS1.out.1.below b2
    have hM:=HS1.out.2.below b2
    have zt:=cl9 (L8.row_up HX.out b2)
    have z7:=zt.2.2.2.2.2.2.2.1
    clear zt z0 z1 z2 z3 z4 z5 z6 z8 hx b2 HS1 HX
    obtain⟨sb,so,sc,rfl,hss⟩:=hE.slots HN.out hlt
    obtain⟨gl,lcap,rfl,-,-⟩:=hE.own.form (by omega)
    have hlab:=HGk.out.lab hjf
    try simp only at hlab
    obtain⟨R,hR⟩:∃ R:Nat,lbK p.stmts tg p.stmts.length=(R:Int):=⟨(lbK p.stmts tg p.stmts.length).toNat,by omega⟩
    have hRn:=(L10.lbK_lt p.stmts tg p.stmts.length).2
    rw [hR,HN.out] at hRn
    have yR:=hss R (by omega)
    have hdv:=HDV.out
    try simp only at hdv
    rw [hR,HD.out,Int.toNat_natCast] at hdv
    have HBk:=Lib.hid (fun (X:World) (hX:Below w2.heap.size w2 X)=>HBH.out X (hE.below hX))
    obtain⟨A,hA⟩:∃ A,stN (cdL p.stmts) R=A:=⟨_,rfl⟩
    obtain⟨B,hB⟩:∃ B,stN (cdL p.stmts) (k+1)=B:=⟨_,rfl⟩
    have hBle:=HNN.out
    rw [cdL_len,HN.out] at hBle
    rw [hA] at yR hdv
    rw [hB] at hdv HBk hBle
    have HLK:=Lib.hid (fun (X:World) (hX:Below w2.heap.size w2 X)=>look_run (hM.below hX) HTGk.out hR)
    have xs:=one_cell hE.rs
    have xb:=one_cell hE.rb
    have HE:=Lib.hid (And.intro hE hM)
    clear hss hA hB hE hM hlab hR HBH HDV HNN
    have hwd:IntKind.i64.wrap ((A:Int)-(B:Int))=d:=by rw [hdv];exact IntWalk.i64_in _ (by omega)
    clear hdv
    have l1:(⟨ks,0,none⟩:Addr).block<w2.heap.size:=World.block_lt_of_cell? _ _ xs
    have l2:(⟨kb,0,none⟩:Addr).block<w2.heap.size:=World.block_lt_of_cell? _ _ xb
    have l3:(⟨sb,so+R,none⟩:Addr).block<w2.heap.size:=World.block_lt_of_cell? _ _ yR
    have l4:(⟨q,7,none⟩:Addr).block<w2.heap.size:=World.block_lt_of_cell? _ _ z7
    have hRI:(R:Int)<(n:Int):=by omega
    refine wp_region_held_drew (S:=SJ w2) (by kernel_rfl) (L8.bdN (Below.refl _ _) 1) (fun hH=>?_)
    refine zT1 0 24 (.load 46 (.tmp 1)) (.slice (some ⟨sb,so,none⟩) n sc) rfl (fun wS hS=>by have d0:=(Below.cell hS l1).trans xs;go_simp) hH ?_
    simp only [zz]
    refine zT0 1 25 (.move (.tmp 6)) (.map (some g)) rfl hH ?_
    simp only [zz]
    refine zT3 2 26 (.fieldAddr 80 (.tmp 8) 2) (.pointer (some ⟨q,7,none⟩)) rfl hH ?_
    simp only [zz]
    refine zT1 3 27 (.load 9 (.tmp 26)) (.string tg) rfl (fun wS hS=>by have d0:=(Below.cell hS l4).trans z7;go_simp) hH ?_
    simp only [zz]
    refine zT1 4 28 (.lookup 175 (.tmp 25) (.tmp 27) false) (.int .i64 (R:Int)) rfl (fun wS hS=>by have d0:=HLK.out _ hS;go_simp) hH ?_
    simp only [zz]
    refine zT3 5 29 (.indexAddr 46 (.tmp 24) (.tmp 28)) (.pointer (some ⟨sb,so+R,none⟩)) rfl hH ?_
    simp only [zz]
    refine zT1 6 30 (.load 3 (.tmp 29)) (.int .i64 (A:Int)) rfl (fun wS hS=>by have d0:=(Below.cell hS l3).trans yR;go_simp) hH ?_
    simp only [zz]
    refine zT1 7 31 (.load 65 (.tmp 2)) (fB ks kl) rfl (fun wS hS=>by have d0:=(Below.cell hS l2).trans xb;go_simp) hH ?_
    simp only [zz]
    refine zT0 8 32 (.move (.tmp 7)) (.int .i64 (k:Int)) rfl hH ?_
    simp only [zz]
    have hS:=hH
    clear hH
    refine wpAnyH_ready (rs:=[9]) (by kernel_rfl) (by simp) ?_
    refine AllReadyH.cons (o:=⟨some 33,.call ⟨.value (.tmp 31),#[.tmp 32],#[3]⟩,_,_,_,none⟩) rfl (fun K hK=>?_) AllReadyH.nil
    go_simp
    refine (HBk.out _ hS).mono ?_
    rintro e w3 ⟨rfl,hb3⟩
    refine hK.out _ _ (hS.trans (hb3.mono hS.size)) (fun hH=>?_)
    clear hK K hS
    (try simp only [zz])
    refine zT3 10 34 (.binOp .sub 3 (.tmp 30) (.tmp 33) 3) (.int .i64 d) rfl hH ?_
    simp only [zz]
    refine zT0 11 9 (.assign (.tmp 34)) (.int .i64 d) rfl hH ?_
    simp only [zz]
    refine wpAnyH_done (by kernel_rfl) ?_ _
    have HF:=Lib.hid (HE.out.1.below hH)
    have HMf:=Lib.hid (HE.out.2.below hH)
    have HFI:=Lib.hid (fits16 d hds.1 hds.2 w3 (HW.out _ HF.out.bel))
    have xl:=one_cell HF.out.rl
    have hll:=World.block_lt_of_cell? _ _ xl
    have hgl:=(HF.out.own.lt gl rfl).2
    simp only at hll
    have hfz:=HF.out.own.frozenAt (k*6+4)
    obtain⟨u4,hu4⟩:∃ u,w3.cell? ⟨gl,k*6+4,none⟩=some u:=by
     have hcA:=HF.out.own.cellAt (k*6+4) (by omega)
     have hlenI:=HF.out.own.1
     rw [hcA]
     exact⟨_,List.getElem?_eq_getElem (by omega)⟩
    have HSO:=Lib.hid (HSTO.out w3 gl lcap HF.out hjf)
    have HMS:=Lib.hid (HMf.out.kept HSO.out.2 (by
     intro e
     obtain⟨cur,hc⟩:=L10.own_ty HF.out.own (g:=gl) rfl
     obtain⟨_,_,hh,_⟩:=HMf.out
     cases e
     rw [hc] at hh
     cases hh))
    clear HE HW HLK HBk hH
    go_wp2_with (go_at_call 134;((with_reducible refine (HFI.out).mono ?_);rintro e w4 ⟨rfl,rfl⟩))
    go_roundw
    case rel=>exact⟨k+1,by omega,by go_num,Lib.hid ⟨HSO.out.1,HMS.out⟩⟩
    case measure=>simp [RowKit.intOf];omega
  ·obtain rfl:k=n:=by omega
   go_wp2
   go_ret2
   exact⟨rfl,hI.out.1⟩
end Go.Proofs.YtihiggnglmhggaaGreatDoor.L13
end
section
namespace Go.Proofs.YtihiggnglmhggaaGreatDoor.L13
open Go.RowKit Go.Shelf L3 L4 L12
open L10 (Stm Pg jmI fmI lbK)
attribute [local go_sem] Oper.semAt_some
abbrev fS2 (kp:Nat):Value:=.func (.func 129) #[] #[.pointer (some ⟨kp,0,none⟩)]
abbrev fS3 (kl kb:Nat):Value:=.func (.func 131) #[] #[.pointer (some ⟨kl,0,none⟩),.pointer (some ⟨kb,0,none⟩)]
abbrev fS4 (kp ks kb kl:Nat):Value:=.func (.func 132) #[] #[.pointer (some ⟨kp,0,none⟩),.pointer (some ⟨ks,0,none⟩),.pointer (some ⟨kb,0,none⟩),.pointer (some ⟨kl,0,none⟩)]
def SpP (w:World) (W:World) (p:Pg) (n:Nat) (vm vs lv:Value) (e:Ending) (W':World):Prop :=
 ∃ g sv kp kl ks kb,e=.returned (.slice (some ⟨g,0,none⟩) 3 3)∧W'.heap[g]?=some (.cells #[fS2 kp,fS3 kl kb,fS4 kp ks kb kl] 130)∧St w W' p n vm vs lv sv kp kl ks kb 0∧Below W.heap.size W W'
theorem steps_at {w W:World} {p:Pg} {n:Nat} {vm vs lv:Value} (hb:Below w.heap.size w W) (hp:L10.PgAt W vm vs p) (ho:W.ownsRow w.heap.size 45 6 lv n (inC (cdL p.stmts))) (hn:p.stmts.length=n) (hm:n≤100000) :
  Calls Tryz.prog 85 #[.agg #[vm,vs],lv] W fun e W'=>SpP w W p n vm vs lv e W':=by
 obtain⟨la,lc,rfl⟩:=owns_slice ho
 obtain⟨n1,hn1⟩:∃ n,p.maps.length=n:=⟨_,rfl⟩
 obtain⟨a1,c1,rfl,-⟩:=L10.df_form hn1 hp.1
 obtain⟨a2,c2,rfl,-⟩:=L10.sm_form hn hp.2
 have hI:=own_ins (xs:=cdL p.stmts) (by rw [cdL_len,hn]) ho
 have HST:=Lib.hid (fun (X:World) (hX:Below W.heap.size W X)=>starts_at (.slice la n lc) (cdL p.stmts) (by rw [cdL_len,hn];omega) X (hI.below hX))
 have HO:=Lib.hid ho
 have HB:=Lib.hid hb
 have HL:=Lib.hid (show (cdL p.stmts).length=n by rw [cdL_len,hn])
 have hmf:∀ (i:Nat) (vs:Array Value) (w:World),True:=fun _ _ _=>trivial
 have KB:Below W.heap.size W ((W.alloc (.cells #[.slice a1 n1 c1,.slice a2 n c2] 53)).alloc (.cells #[.slice la n lc] 38)):=L2.bch (L8.bnew W _) (L8.bnew _ _)
 have K1:((W.alloc (.cells #[.slice a1 n1 c1,.slice a2 n c2] 53)).alloc (.cells #[.slice la n lc] 38)).heap[W.heap.size]?=some (.cells #[.slice a1 n1 c1,.slice a2 n c2] 53):=L8.row_up (heap_alloc_last W _) (L8.bnew _ _)
 have K2:((W.alloc (.cells #[.slice a1 n1 c1,.slice a2 n c2] 53)).alloc (.cells #[.slice la n lc] 38)).heap[W.heap.size+1]?=some (.cells #[.slice la n lc] 38):=by
  have:=heap_alloc_last (W.alloc (.cells #[.slice a1 n1 c1,.slice a2 n c2] 53)) (.cells #[.slice la n lc] 38)
  simpa using this
 clear hp hb ho hn hn1 hI hmf
 go_enter Tryz.func85,Tryz.ntmps85
 go_upto_region 1 with (fail)
 obtain⟨kp,hkp⟩:∃ k,W.heap.size=k:=⟨_,rfl⟩
 have HKP:=Lib.hid hkp
 rw [hkp] at K1 K2 ⊢
 have HK1:=Lib.hid K1
 have HK2:=Lib.hid K2
 have HKB:=Lib.hid KB
 clear hkp KB
 generalize (W.alloc (.cells _ 53)).alloc (.cells _ 38)=W0 at K1 K2 HK1 HK2 HKB ⊢
 have x2:=one_cell K2
 have hl2:=World.block_lt_of_cell? _ _ x2
 simp only at hl2
 clear K1 K2
 go_upto_region 2 with (go_at_call 39;((with_reducible refine (HST.out _ HKB.out).mono ?_);rintro e w1 ⟨⟨sv,rfl,hsv⟩,b1⟩;obtain⟨sa,sc,rfl⟩:=owns_slice hsv))
 rw [HL.out] at hsv ⊢
 have B1:=L2.bch HKB.out b1
 have Q1:=L8.row_up HK1.out b1
 have Q2:=L8.row_up HK2.out b1
 have R1:=heap_alloc_last w1 (.cells #[.slice sa n sc] 46)
 have N1:=L8.bnew w1 (.cells #[.slice sa n sc] 46)
 have hsv1:=own_weak (L8.own_below hsv N1) (Nat.le_trans HB.out.size HKB.out.size)
 obtain⟨ks,hks⟩:∃ k,w1.heap.size=k:=⟨_,rfl⟩
 rw [hks] at R1 ⊢
 have HA:=Lib.hid (And.intro (L2.bch B1 N1) (And.intro (L8.row_up Q1 N1) (And.intro (L8.row_up Q2 N1) (And.intro R1 hsv1))))
 clear B1 Q1 Q2 R1 N1 hsv hsv1 hks b1 x2 hl2
 generalize w1.alloc (.cells _ 46)=W1 at HA ⊢
 go_upto_region 3 with (fail)
 have R2:=heap_alloc_last W1 (.cells #[fB ks (kp+1)] 65)
 have N2:=L8.bnew W1 (.cells #[fB ks (kp+1)] 65)
 obtain⟨kb,hkb⟩:∃ k,W1.heap.size=k:=⟨_,rfl⟩
 rw [hkb] at R2 ⊢
 have HA2:=Lib.hid (And.intro (L2.bch HA.out.1 N2) (And.intro (L8.row_up HA.out.2.1 N2) (And.intro (L8.row_up HA.out.2.2.1 N2) (And.intro (L8.row_up HA.out.2.2.2.1 N2) (And.intro R2 (L8.own_below HA.out.2.2.2.2 N2))))))
 clear hkb R2 N2
 generalize W1.alloc (.cells _ 65)=W2 at HA2 ⊢
 go_wp2
 go_ret
 have N3:=L8.bnew W2 (.cells #[fS2 kp,fS3 (kp+1) kb,fS4 kp ks kb (kp+1)] 130)
 obtain⟨q0,q1,q2,q3,q4,q5⟩:=HA2.out
 have q6:=q0
 refine⟨W2.heap.size,.slice sa n sc,kp,kp+1,ks,kb,rfl,heap_alloc_last W2 _,⟨L2.bch (L2.bch HB.out q0) N3,L8.row_up q1 N3,L8.row_up q2 N3,L8.row_up q3 N3,L8.row_up q4 N3,?_,L8.own_below q5 N3⟩,L2.bch q0 N3⟩
 rw [rsT_zero]
 exact L8.own_below (L8.own_below HO.out q0) N3
def RsP (w:World) (p:Pg) (n:Nat) (k:Nat) (er:Int) (e:Ending) (w':World):Prop :=
 ((er≠0∧e=.returned (.tuple #[.slice none 0 0,.int .i64 (k:Int),.int .i64 er]))∨(er=0∧∃ a c,e=.returned (.tuple #[.slice a n c,.int .i64 0,.int .i64 0])∧IsAt w' (.slice a n c) (rsL p)))∧Below w.heap.size w w'
theorem cells3s {w:World} {k:Nat} {a b c:Value} {t:TypeId} (h:w.heap[k]?=some (.cells #[a,b,c] t)):w.cell? ⟨k,0,none⟩=some a∧w.cell? ⟨k,1,none⟩=some b∧w.cell? ⟨k,2,none⟩=some c:=by
 simp [World.cell?,h]
theorem brV_ok {p:Pg} {b:Bool} {k:Nat} {er:Int} (h:L10.brV p=(b,k,er)) (he:er=0):(L10.brV p).2.2=0:=by rw [h];exact he
theorem resolve_at (vm vs:Value) (p:Pg) (n:Nat) (w:World) (hp:L10.PgAt w vm vs p) (hf:L10.Fits p) (hn:p.stmts.length=n) (hm:n≤10000) (hT:L1.Wid w∧L2.Regs w) (b:Bool) (k:Nat) (er:Int) (hr:L10.brV p=(b,k,er)) :
  Calls Tryz.prog 44 #[.agg #[vm,vs]] w fun e w'=>RsP w p n k er e w':=by
 have HSml:L10.Sml p:=⟨hf.maps,hf.stmts,fun s hs=>by
  obtain⟨i,hi,rfl⟩:=List.mem_iff_getElem.1 hs
  exact hf.lab_le i hi⟩
 have HCo:=Lib.hid (fun (X:World) (hX:Below w.heap.size w X)=>code_own vm vs p X (hp.below hX) HSml)
 unfold CoO at HCo
 rw [hn] at HCo
 have HSp:=Lib.hid (fun (X:World) (hX:Below w.heap.size w X) (lv:Value) (ho:X.ownsRow w.heap.size 45 6 lv n (inC (cdL p.stmts)))=>steps_at (vm:=vm) (vs:=vs) hX (hp.below hX) ho hn (by omega))
 have HCk:=Lib.hid (fun (X:World) (kp:Nat) (hk:X.heap[kp]?=some (.cells #[vm,vs] 53)) (hX:Below w.heap.size w X)=>chk1_at hk (hp.below hX) hf ⟨L4.wid_below hT.1 hX,hT.2.below hX⟩ b k er hr)
 have HSz:=Lib.hid (fun (X:World) (lv sv:Value) (kp kl ks kb:Nat) (h:St w X p n vm vs lv sv kp kl ks kb 0)=>size_at h hn hm)
 have HJm:=Lib.hid (fun (he:er=0) (X:World) (lv sv:Value) (kp kl ks kb:Nat) (h:St w X p n vm vs lv sv kp kl ks kb 0)=>jumps_at h hn hm hp hf (brV_ok hr he) hT.1)
 obtain⟨n1,hn1⟩:∃ n,p.maps.length=n:=⟨_,rfl⟩
 obtain⟨a1,c1,rfl,-⟩:=L10.df_form hn1 hp.1
 obtain⟨a2,c2,rfl,-⟩:=L10.sm_form hn hp.2
 have HN:=Lib.hid hn
 have HB:=Lib.hid (L8.bnew w (.cells #[.slice a1 n1 c1,.slice a2 n c2] 53))
 have K0:=Lib.hid (heap_alloc_last w (.cells #[.slice a1 n1 c1,.slice a2 n c2] 53))
 clear hp hf hn hm hT hr hn1 HSml
 go_enter Tryz.func44,Tryz.ntmps44
 go_upto_region 1 with (fail)
 obtain⟨kq,hkq⟩:∃ k,w.heap.size=k:=⟨_,rfl⟩
 have HKQ:=Lib.hid hkq
 rw [hkq] at K0 ⊢
 clear hkq
 generalize w.alloc (.cells _ 53)=W0 at K0 HB ⊢
 obtain⟨x0,x1⟩:=L10.cells2p K0.out
 have hl1:=World.block_lt_of_cell? _ _ x0
 simp only at hl1
 go_upto_region 2 with (go_at_call 84;((with_reducible refine (HCo.out _ HB.out).mono ?_);rintro e w1 ⟨la,lc,rfl,ho,b1⟩))
 have B1:=L2.bch HB.out b1
 have ho1:=own_weak ho HB.out.size
 clear x0 x1 hl1 ho
 obtain⟨x0,x1⟩:=L10.cells2p (L8.row_up K0.out b1)
 have hl1:=World.block_lt_of_cell? _ _ x0
 simp only at hl1
 go_wp2_with (go_at_call 85;((with_reducible refine (HSp.out _ B1 _ ho1).mono ?_);rintro e w2 ⟨g,sv,kp,kl,ks,kb,rfl,hg,hst,b2⟩))
 have HI:Hid (St w w2 p n (.slice a1 n1 c1) (.slice a2 n c2) (.slice la n lc) sv kp kl ks kb 0∧w2.heap[g]?=some (.cells #[fS2 kp,fS3 kl kb,fS4 kp ks kb kl] 130)):=Lib.hid ⟨hst,hg⟩
 clear x0 x1 hl1 B1 ho1 b1 b2 hg hst HB K0
 go_loopw [16] (fun i wr=>∃ j:Nat,j≤3∧i=.int .i64 (j:Int)∧Hid (if j≤2 then St w wr p n (.slice a1 n1 c1) (.slice a2 n c2) (.slice la n lc) sv kp kl ks kb 0∧wr.heap[g]?=some (.cells #[fS2 kp,fS3 kl kb,fS4 kp ks kb kl] 130) else St w wr p n (.slice a1 n1 c1) (.slice a2 n c2) (.slice la n lc) sv kp kl ks kb n)∧Hid (0<j→er=0)) (fun i _=>3-(RowKit.intOf i).toNat)
 case atStart=>exact⟨0,by omega,rfl,Lib.hid (by rw [if_pos (by omega)];exact HI.out),Lib.hid (fun h=>absurd h (by omega))⟩
 case round =>
  obtain⟨j,hj,rfl,hS,hE⟩:=hrel
  clear HI
  have hcs:j=0∨j=1∨j=2∨j=3:=by omega
  rcases hcs with rfl|rfl|rfl|rfl
  ·have hX:=hS.out
   rw [if_pos (by omega)] at hX
   have HX:=Lib.hid hX
   have HK:=Lib.hid (HCk.out wr kp hX.1.rp hX.1.bel)
   obtain⟨y0,y1,y2⟩:=cells3s hX.2
   have hl1:=World.block_lt_of_cell? _ _ y0
   simp only at hl1
   clear hX hS hE
   by_cases h0:er=0
   ·subst h0
    go_wp2_with (go_at_call 129;((with_reducible refine (HK.out).mono ?_);rintro e w3 ⟨rfl,b3⟩))
    go_roundw
    case rel=>exact⟨1,by omega,by go_num,Lib.hid (by rw [if_pos (by omega)];exact⟨HX.out.1.below b3,L8.row_up HX.out.2 b3⟩),Lib.hid (fun _=>by trivial)⟩
    case measure=>simp [RowKit.intOf]
   ·have h0':(er != 0)=true:=by simpa using h0
    go_wp2_with (go_at_call 129;((with_reducible refine (HK.out).mono ?_);rintro e w3 ⟨rfl,b3⟩))
    go_ret3
    exact⟨.inl ⟨h0,rfl⟩,L2.bch HX.out.1.bel b3⟩
  ·have hX:=hS.out
   rw [if_pos (by omega)] at hX
   have HX:=Lib.hid hX
   have HK:=Lib.hid (HSz.out wr _ _ _ _ _ _ hX.1)
   obtain⟨y0,y1,y2⟩:=cells3s hX.2
   have hl1:=World.block_lt_of_cell? _ _ y0
   simp only at hl1
   clear hX hS
   go_wp2_with (go_at_call 131;((with_reducible refine (HK.out).mono ?_);rintro e w3 ⟨rfl,b3⟩))
   go_roundw
   case rel=>exact⟨2,by omega,by go_num,Lib.hid (by rw [if_pos (by omega)];exact⟨HX.out.1.below b3,L8.row_up HX.out.2 b3⟩),Lib.hid (fun _=>hE.out (by omega))⟩
   case measure=>simp [RowKit.intOf]
  ·have hX:=hS.out
   rw [if_pos (by omega)] at hX
   have HX:=Lib.hid hX
   have HK:=Lib.hid (HJm.out (hE.out (by omega)) wr _ _ _ _ _ _ hX.1)
   obtain⟨y0,y1,y2⟩:=cells3s hX.2
   have hl1:=World.block_lt_of_cell? _ _ y0
   simp only at hl1
   clear hX hS
   go_wp2_with (go_at_call 132;((with_reducible refine (HK.out).mono ?_);rintro e w3 ⟨rfl,hs3⟩;have HS3:=Lib.hid hs3;clear hs3))
   go_roundw
   case rel=>exact⟨3,by omega,by go_num,Lib.hid (by rw [if_neg (by omega)];exact HS3.out),Lib.hid (fun _=>hE.out (by omega))⟩
   case measure=>simp [RowKit.intOf]
  ·have hX:=hS.out
   rw [if_neg (by omega)] at hX
   have HX:=Lib.hid hX
   clear hX hS
   go_wp2
   go_ret3
   refine⟨.inr ⟨hE.out (by omega),la,lc,rfl,?_⟩,HX.out.bel⟩
   have:=HX.out.own
   rw [← HN.out,rsT_all] at this
   rw [← HN.out]
   exact own_ins (by rw [rsL_len]) this
end Go.Proofs.YtihiggnglmhggaaGreatDoor.L13
end
section
namespace Go.Proofs.YtihiggnglmhggaaGreatDoor.L10
open Go.RowKit Go.Maps
attribute [local go_sem] Oper.semAt_some
theorem ad_plain (b o i:Nat):(⟨b,o,none⟩:Addr).add i=⟨b,o+i,none⟩:=by unfold Addr.add;split <;> simp_all
theorem flat_of {α:Type} (f:α→List Value) (c:Nat) (hf:∀ x,(f x).length=c):∀ (l:List α) (k:Nat) (u:Value),(l.flatMap f)[k]?=some u→∃ j i,∃ hj:j<l.length,k=j*c+i∧(f l[j])[i]?=some u
 | [],k,u,h=>by simp at h
 | a::r,k,u,h=>by
  rw [List.flatMap_cons] at h
  by_cases hk:k<c
  ·rw [List.getElem?_append_left (by rw [hf];exact hk)] at h
   exact⟨0,k,by simp,by omega,h⟩
  ·rw [List.getElem?_append_right (by rw [hf];omega),hf] at h
   obtain⟨j,i,hj,e,hu⟩:=flat_of f c hf r (k-c) u h
   exact⟨j+1,i,by simpa using hj,by rw [Nat.add_mul];omega,hu⟩
theorem flat_len {α:Type} (f:α→List Value) (c:Nat) (hf:∀ x,(f x).length=c):∀ l:List α,(l.flatMap f).length=l.length*c
 | []=>by simp
 | a::r=>by rw [List.flatMap_cons,List.length_append,hf,flat_len f c hf r,List.length_cons,Nat.add_mul];omega
def Flat (w:World) (v:Value) (n:Nat) (cs:List Value):Prop:=∃ a c,v=.slice a n c∧(a=none→n=0)∧∀ x,a=some x→∀ j u,cs[j]?=some u→w.cell? (x.add j)=some u
theorem DfAt.flat {w:World} {v:Value} {l:List L9.Df} (h:DfAt w v l):Flat w v l.length (l.flatMap dfL):=by
 rcases h with ⟨b,o,cap,rfl,hlt,hc⟩|⟨rfl,a,cap,rfl⟩
 ·refine⟨_,_,rfl,fun h=>(by cases h),fun x hx k u hu=>?_⟩
  cases hx
  obtain⟨j,i,hj,rfl,hu'⟩:=flat_of dfL 4 (fun _=>rfl) l k u hu
  rw [ad_plain,← Nat.add_assoc]
  exact hc j hj i u hu'
 ·exact⟨_,_,rfl,fun _=>rfl,fun x hx k u hu=>by simp at hu⟩
def ClP (e:TypeId) (size n:Nat) (cs:List Value) (w:World) (en:Ending) (w':World):Prop:=∃ v',en=.returned v'∧w'.ownsRow w.heap.size e size v' n cs∧Below w.heap.size w w'
theorem cloneD_at (v:Value) (n:Nat) (cs:List Value) (w:World) (hm:n≤100000) (hl:cs.length=n*4) (h1:∀ u∈cs,u.oneCell'=true) (hv:Flat w v n cs) :
  Calls Tryz.prog 46 #[v] w (ClP 88 4 n cs w):=by
 obtain⟨i0,hi,hz0,hz1,hz2⟩:=info_parts infoD
 obtain⟨a,c,rfl,hn,hc⟩:=hv
 have q:∀ (w:World) (a:Option Addr) (n c n' c':Nat),(binOp .eql 22 (.slice a n c) (.slice none n' c')).run Tryz.prog w=.ok (.bool a.isNone) w:=fun w a n c n' c'=>Lib.run_eql_slice_nil w _ _ a n c n' c' Tryz.underlying22
 cases a with
 | none =>
  obtain rfl:n=0:=hn rfl
  obtain rfl:cs=[]:=List.eq_nil_of_length_eq_zero (by omega)
  clear hc hl h1
  go_enter Tryz.func46,Tryz.ntmps46
  go_wp2
  go_ret
  exact⟨_,rfl,World.ownsRow_nil _ _ _ _,Below.refl _ _⟩
 | some x =>
  have HC:=Lib.hid (hc x rfl)
  clear hc hn
  go_enter Tryz.func46,Tryz.ntmps46
  go_wp2_with (at_builtin;refine wpList_append_own _ rfl _ _ 22 rfl w.heap.size 88 i0 (.agg #[.string ⟨#[]⟩,.int .i64 0,.int .i64 0,.int .i64 0]) 4 40 Tryz.underlying22 hi hz0 hz1 hz2 rfl (by decide) _ _ _ rfl (World.ownsRow_made w #[] 0 (Nat.le_refl _) (Nat.zero_le _) rfl) x n c cs rfl hl (fun j u hu=>Lib.cell?_alloc_some _ (HC.out j u hu)) h1 ?qc4 ?qc5 ?qc6 ?_)
  case qc4=>unfold maxLen;omega
  case qc5=>omega
  case qc6=>simp
  intro v' w1 hown hgrow hnil
  go_wp2
  go_ret
  refine⟨v',rfl,by simpa using hown,?_⟩
  exact ((Below.refl _ w).alloc (Nat.le_refl _) _).grown hgrow (by simp) (by intro k hk;simp [Value.ownBlock] at hk;omega)
theorem one_df (l:List L9.Df):∀ u∈l.flatMap dfL,u.oneCell'=true:=by
 intro u hu
 obtain⟨d,_,hd⟩:=List.mem_flatMap.1 hu
 simp only [dfL,List.mem_cons,List.not_mem_nil,or_false] at hd
 rcases hd with rfl|rfl|rfl|rfl <;> rfl
theorem Flat.below {w w':World} {v:Value} {n:Nat} {cs:List Value} (h:Flat w v n cs) (hb:Below w.heap.size w w'):Flat w' v n cs:=by
 obtain⟨a,c,rfl,h0,hc⟩:=h
 exact⟨a,c,rfl,h0,fun x hx j u hu=>by
  have h1:=hc x hx j u hu
  exact (hb.cell (p:=x.add j) (World.block_lt_of_cell? w _ h1)).trans h1⟩
end Go.Proofs.YtihiggnglmhggaaGreatDoor.L10
end
section
namespace Go.Proofs.YtihiggnglmhggaaGreatDoor.L13
open Go.RowKit Go.Shelf L3 L4 L12
open L10 (Stm Pg jmI fmI lbK)
attribute [local go_sem] Oper.semAt_some
def obV (p:Pg):Ob:=⟨p.maps,cdB p,(rfT p p.stmts.length).map fun r=>((r.1:Int),r.2)⟩
theorem enc_le (x:L5.Ix):x.bytes.length≤16:=by
 unfold L5.Ix.bytes
 rw [L5.encL_length]
 split <;> omega
theorem joinB_le:∀ l:List L5.Ix,(L5.joinB l).length≤16*l.length
 | []=>by simp [L5.joinB]
 | x::r=>by
  have h1:=joinB_le r
  have h2:=enc_le x
  simp only [L5.joinB,List.flatMap_cons,List.length_append,List.length_cons] at h1 ⊢
  omega
theorem cdB_le (p:Pg) (n:Nat) (hn:p.stmts.length=n):(cdB p).length≤16*n:=by
 have:=joinB_le ((rsL p).map tI)
 rw [List.length_map,rsL_len,hn] at this
 exact this
theorem obV_s {p:Pg} (hf:L10.Fits p) (h:p.stmts.length≤6000):ObS (obV p) :=
 ⟨hf.maps,by have:=cdB_le p _ rfl;show (cdB p).length≤100000;omega,by show ((rfT p p.stmts.length).map _).length≤100000;rw [List.length_map];have:=rfT_len p p.stmts.length;omega⟩
theorem is_in {w:World} {v:Value} {l:List L9.Ins} (h:IsAt w v l):L5.InAt w v (l.map tI):=by
 rcases h with ⟨b,o,cap,rfl,_,hc⟩|⟨rfl,a,cap,rfl⟩
 ·refine⟨_,cap,by rw [List.length_map],.inr ⟨b,o,rfl,fun i hi m u hu=>?_⟩⟩
  rw [List.length_map] at hi
  rw [List.getElem_map] at hu
  exact hc i hi m u (by simpa [tI,L5.Ix.cs] using hu)
 ·exact⟨a,cap,rfl,.inl rfl⟩
theorem join_own (v:Value) (xs:List L5.Ix) (w:World) (hw:L1.Wid w) (hm:xs.length≤100000) (hv:L5.InAt w v xs) (hf:∀ x∈xs,x.fits) (h0:∀ x∈xs,x.err=0) :
  Calls Tryz.prog 45 #[v] w fun e w'=>∃ u,e=.returned (.tuple #[u,.int .i64 0,.int .i64 0])∧w'.ownsRow w.heap.size 5 1 u (L5.joinB xs).length (L5.byL (L5.joinB xs))∧Below w.heap.size w w':=by
 refine (L5.join_at v xs w hw hm hv hf).mono fun e w' h=>?_
 obtain⟨h,hb⟩:=h
 rcases h with ⟨p,x,q,rfl,-,h,-⟩|⟨-,v',rfl,ho⟩
 ·exact absurd (h0 x (by simp)) h
 ·exact⟨v',rfl,ho,hb⟩
structure ObOwn (B:Nat) (W:World) (vm vc vr:Value) (p:Pg):Prop where
 m:W.ownsRow B 88 4 vm p.maps.length (p.maps.flatMap L10.dfL)
 c:W.ownsRow B 5 1 vc (cdB p).length (L5.byL (cdB p))
 r:W.ownsRow B 101 2 vr (rfT p p.stmts.length).length (rlC (rfT p p.stmts.length))
def AsP (w:World) (p:Pg) (k:Nat) (er:Int) (e:Ending) (w':World):Prop :=
 ((er≠0∧e=.returned (.tuple #[.agg #[.slice none 0 0,.slice none 0 0,.slice none 0 0],.int .i64 (k:Int),.int .i64 er])) ∨
  (er=0∧∃ vm vc vr,e=.returned (.tuple #[.agg #[vm,vc,vr],.int .i64 0,.int .i64 0])∧ObOwn w.heap.size w' vm vc vr p))∧Below w.heap.size w w'
def SA (w:World) (kp kr:Nat) (vm vs:Value) (X:World):Prop :=
 Below w.heap.size w X∧X.heap[kp]?=some (.cells #[vm,vs] 53)∧∃ cs:Array Value,cs.size=3∧X.heap[kr]?=some (.cells cs 26)
theorem SA.below {w X Y:World} {kp kr:Nat} {vm vs:Value} (h:SA w kp kr vm vs X) (hb:Below X.heap.size X Y):SA w kp kr vm vs Y:=by
 obtain⟨h1,h2,cs,h3,h4⟩:=h
 exact⟨L2.bch h1 hb,L8.row_up h2 hb,cs,h3,L8.row_up h4 hb⟩
theorem SA.set {w X:World} {kp kr:Nat} {vm vs:Value} (h:SA w kp kr vm vs X) (hlo:w.heap.size≤kr) (hne:kp≠kr) (cs:Array Value) (hcs:cs.size=3):SA w kp kr vm vs (X.setRow kr cs)∧(X.setRow kr cs).heap[kr]?=some (.cells cs 26):=by
 obtain⟨h1,h2,cs0,h3,h4⟩:=h
 have hs:=setRow_heap _ _ _ cs _ _ h4
 exact⟨⟨below_setRow h1 hlo _,(by rw [← h2];exact setRow_other _ _ _ _ hne),cs,hcs,hs⟩,hs⟩
theorem two_as (w:World) (vm vs:Value):(((w.alloc (.cells #[vm,vs] 53)).alloc (obC (.slice none 0 0) (.slice none 0 0) (.slice none 0 0)))).heap[w.heap.size]?=some (.cells #[vm,vs] 53)∧(((w.alloc (.cells #[vm,vs] 53)).alloc (obC (.slice none 0 0) (.slice none 0 0) (.slice none 0 0)))).heap[w.heap.size+1]?=some (obC (.slice none 0 0) (.slice none 0 0) (.slice none 0 0))∧Below w.heap.size w ((w.alloc (.cells #[vm,vs] 53)).alloc (obC (.slice none 0 0) (.slice none 0 0) (.slice none 0 0))):=two_ob w _ _
theorem assemble_at (vm vs:Value) (p:Pg) (n:Nat) (w:World) (hp:L10.PgAt w vm vs p) (hf:L10.Fits p) (hn:p.stmts.length=n) (hm:n≤6000) (hT:L1.Wid w∧L2.Regs w) (b:Bool) (k:Nat) (er:Int) (hr:L10.brV p=(b,k,er)) :
  Calls Tryz.prog 23 #[.agg #[vm,vs]] w fun e w'=>AsP w p k er e w':=by
 have HSml:L10.Sml p:=⟨hf.maps,hf.stmts,fun s hs=>by
  obtain⟨i,hi,rfl⟩:=List.mem_iff_getElem.1 hs
  exact hf.lab_le i hi⟩
 have HRs:=Lib.hid (fun (X:World) (hX:Below w.heap.size w X)=>resolve_at vm vs p n X (hp.below hX) hf hn (by omega) ⟨L4.wid_below hT.1 hX,hT.2.below hX⟩ b k er hr)
 have HJ:=Lib.hid (fun (he:er=0) (X:World) (hX:Below w.heap.size w X) (v:Value) (hv:IsAt X v (rsL p))=>show Calls Tryz.prog 45 #[v] X (fun e w'=>∃ u,e=.returned (.tuple #[u,.int .i64 0,.int .i64 0])∧w'.ownsRow X.heap.size 5 1 u (cdB p).length (L5.byL (cdB p))∧Below X.heap.size X w') from join_own v ((rsL p).map tI) X (L4.wid_below hT.1 hX) (by rw [List.length_map,rsL_len,hn];omega) (is_in hv) (rsL_fits (brV_ok hr he) (by omega)) (rsL_err (brV_ok hr he) (by omega)))
 obtain⟨n1,hn1⟩:∃ n,p.maps.length=n:=⟨_,rfl⟩
 have hfl:=hp.1.flat
 have hcl:=L10.flat_len L10.dfL 4 (fun _=>rfl) p.maps
 rw [hn1] at hfl hcl
 have hm1:=hf.maps
 rw [hn1] at hm1
 have HCl:=Lib.hid (fun (X:World) (hX:Below w.heap.size w X)=>L10.cloneD_at vm n1 (p.maps.flatMap L10.dfL) X hm1 hcl (L10.one_df p.maps) (hfl.below hX))
 have HRf:=Lib.hid (fun (X:World) (hX:Below w.heap.size w X)=>refs_at vm vs p X (hp.below hX) HSml)
 unfold RfP at HRf
 obtain⟨cl,hcL⟩:∃ c,(cdB p).length=c:=⟨_,rfl⟩
 rw [hcL] at HJ
 obtain⟨rl,hrL⟩:∃ c,(rfT p p.stmts.length).length=c:=⟨_,rfl⟩
 rw [hrL] at HRf
 obtain⟨a1,c1,rfl,-⟩:=L10.df_form hn1 hp.1
 obtain⟨a2,c2,rfl,-⟩:=L10.sm_form hn hp.2
 have HN1:=Lib.hid (And.intro hn1 hn)
 have HL:=Lib.hid (And.intro hcL hrL)
 obtain⟨K1,K2,hB⟩:=two_as w (.slice a1 n1 c1) (.slice a2 n c2)
 have HB:=Lib.hid hB
 have HK1:=Lib.hid K1
 have HK2:=Lib.hid K2
 clear hp hf hn hm hT hr hn1 hfl hcl hm1 HSml hcL hrL K1 K2 hB
 go_enter Tryz.func23,Tryz.ntmps23
 go_upto_region 1 with (fail)
 obtain⟨kp,hkp⟩:∃ k,w.heap.size=k:=⟨_,rfl⟩
 rw [hkp] at HK1 HK2 ⊢
 generalize (w.alloc (.cells _ 53)).alloc (.cells _ 26)=W at HK1 HK2 HB ⊢
 have HKP:=Lib.hid (show w.heap.size≤kp+1 by omega)
 clear hkp
 obtain⟨x0,x1⟩:=L10.cells2p HK1.out
 have l1:=World.block_lt_of_cell? _ _ x0
 simp only at l1
 by_cases h0:er=0
 case neg =>
  have h0':(er != 0)=true:=by simpa using h0
  have HRn:=Lib.hid ((HRs.out W HB.out).mono (fun e w' h=>show (e=.returned (.tuple #[.slice none 0 0,.int .i64 (k:Int),.int .i64 er]))∧Below W.heap.size W w' from ⟨by rcases h.1 with ⟨_,h⟩|⟨h,_⟩;exact h;exact absurd h h0,h.2⟩))
  clear HRs HJ HCl HRf
  go_upto_region 3 with (go_at_call 44;((with_reducible refine (HRn.out).mono ?_);rintro e w1 ⟨rfl,b1⟩))
  have q2:=L8.row_up HK2.out b1
  have B1:=L2.bch HB.out b1
  go_wp2_with (refine wpList_store_row rfl _ _ _ rfl (kp+1) #[.slice none 0 0,.slice none 0 0,.slice none 0 0] rfl rfl 26 _ q2 (by kernel_rfl) rfl (by simp [Value.oneCell']) ?_)
  obtain⟨z0,z1,z2⟩:=cells3 (setRow_heap _ _ _ #[.slice none 0 0,.slice none 0 0,.slice none 0 0] _ _ q2)
  exact bodyPost_ret (v:=.tuple #[.agg #[.slice none 0 0,.slice none 0 0,.slice none 0 0],.int .i64 (k:Int),.int .i64 er]) (by simp [results,Tryz.results23,go_sem,z0,z1,z2]) rfl ⟨.inl ⟨h0,rfl⟩,below_setRow B1 HKP.out _⟩
 subst h0
 have HJ1:=Lib.hid (HJ.out rfl)
 clear HJ
 have HRy:=Lib.hid ((HRs.out W HB.out).mono (fun e w' h=>show (∃ a c,e=.returned (.tuple #[.slice a n c,.int .i64 0,.int .i64 0])∧IsAt w' (.slice a n c) (rsL p))∧Below W.heap.size W w' from ⟨by rcases h.1 with ⟨h,_⟩|⟨_,h⟩;exact absurd rfl h;exact h,h.2⟩))
 clear HRs
 go_upto_region 4 with (go_at_call 44;((with_reducible refine (HRy.out).mono ?_);rintro e w1 ⟨⟨la,lc,rfl,hv1⟩,b1⟩))
 have B1:=L2.bch HB.out b1
 go_upto_region 5 with (go_at_call 45;((with_reducible refine (HJ1.out _ B1 _ hv1).mono ?_);rintro e w2 ⟨u2,rfl,hc2,b2⟩;obtain⟨ca,cc,rfl⟩:=owns_slice hc2))
 have B2:=L2.bch B1 b2
 have r1:=L8.row_up (L8.row_up HK1.out b1) b2
 have r2:=L8.row_up (L8.row_up HK2.out b1) b2
 have HSA:=Lib.hid (show SA w kp (kp+1) (.slice a1 n1 c1) (.slice a2 n c2) w2 from ⟨B2,r1,_,rfl,r2⟩)
 have HC2:=Lib.hid (own_weak hc2 B1.size)
 clear x0 x1 l1 b1 b2 B1 B2 r1 r2 hv1 hc2 HRy HJ1 HB HK1 HK2
 refine wp_region_held_drew (S:=SA w kp (kp+1) (.slice a1 n1 c1) (.slice a2 n c2)) (by kernel_rfl) (HSA.out.below (L8.bdN (Below.refl _ _) 1)) (fun hH=>?_)
 refine zT3 0 28 (.fieldAddr 53 (.tmp 1) 0) (.pointer (some ⟨kp,0,none⟩)) rfl hH ?_
 simp only [zz]
 refine zT1 1 29 (.load 22 (.tmp 28)) (.slice a1 n1 c1) rfl (fun wS hS=>by obtain⟨d0,d1⟩:=L10.cells2p hS.2.1;go_simp) hH ?_
 simp only [zz]
 refine zT0 3 31 (.move (.tmp 8)) (.slice ca cl cc) rfl hH ?_
 simp only [zz]
 refine zT1 4 32 (.load 53 (.tmp 1)) (.agg #[.slice a1 n1 c1,.slice a2 n c2]) rfl (fun wS hS=>by obtain⟨d0,d1⟩:=L10.cells2p hS.2.1;go_simp) hH ?_
 simp only [zz]
 refine wpAnyH_ready (rs:=[2]) (by kernel_rfl) (by simp) ?_
 refine AllReadyH.cons (o:=⟨some 30,.call ⟨.value (.func 46),#[.tmp 29],#[22]⟩,_,_,_,none⟩) rfl (fun K hK=>?_) AllReadyH.nil
 go_simp
 refine (HCl.out _ hH.1).mono ?_
 rintro e w3 ⟨v3,rfl,o3,b3⟩
 obtain⟨ma,mc,rfl⟩:=owns_slice o3
 refine hK.out _ _ (hH.below b3) (fun hH3=>?_)
 have HM3:=Lib.hid (own_weak o3 hH.1.size)
 have HC3:=Lib.hid (L8.own_below HC2.out (L2.bch (L8.bdN (Below.refl _ _) 1) b3))
 clear hK K hH o3 b3 HC2 HCl
 (try simp only [zz])
 refine wpAnyH_ready (rs:=[5]) (by kernel_rfl) (by simp) ?_
 refine AllReadyH.cons (o:=⟨some 33,.call ⟨.value (.func 47),#[.tmp 32],#[53]⟩,_,_,_,none⟩) rfl (fun K hK=>?_) AllReadyH.nil
 go_simp
 refine (HRf.out _ hH3.1).mono ?_
 rintro e w4 ⟨u4,rfl,hr4,b4⟩
 obtain⟨ra,rc,rfl⟩:=owns_slice hr4
 refine hK.out _ _ (hH3.below b4) (fun hH4=>?_)
 have HM4:=Lib.hid (L8.own_below HM3.out b4)
 have HC4:=Lib.hid (L8.own_below HC3.out b4)
 have HR4:=Lib.hid (own_weak hr4 hH3.1.size)
 clear hK K hH3 hr4 b4 HM3 HC3 HRf
 (try simp only [zz])
 refine zT3 6 34 (.build 26 #[(0,.tmp 30),(1,.tmp 31),(2,.tmp 33)]) (.agg #[.slice ma n1 mc,.slice ca cl cc,.slice ra rl rc]) rfl hH4 ?_
 simp only [zz]
 refine wpAnyH_ready (rs:=[7]) (by kernel_rfl) (by simp) ?_
 refine AllReadyH.cons (o:=⟨none,.store 26 (.tmp 2) (.tmp 34),_,_,_,none⟩) rfl (fun K hK=>?_) AllReadyH.nil
 rw [if_pos (by kernel_rfl)]
 obtain⟨cs0,hcs0,hrow⟩:=hH4.2.2
 refine wp_store_row 26 (.tmp 2) (.tmp 34) rfl (kp+1) #[.slice ma n1 mc,.slice ca cl cc,.slice ra rl rc] rfl rfl 26 cs0 hrow (by kernel_rfl) hcs0 (by simp [Value.oneCell']) ?_
 have hset:=hH4.set HKP.out (by omega) #[.slice ma n1 mc,.slice ca cl cc,.slice ra rl rc] rfl
 refine hK.out _ _ hset.1 (fun hH5=>?_)
 have hob:ObOwn w.heap.size (w4.setRow (kp+1) #[.slice ma n1 mc,.slice ca cl cc,.slice ra rl rc]) (.slice ma n1 mc) (.slice ca cl cc) (.slice ra rl rc) p:=by
  refine⟨?_,?_,?_⟩
  ·rw [HN1.out.1];exact own_set HM4.out hrow (by decide)
  ·rw [HL.out.1];exact own_set HC4.out hrow (by decide)
  ·rw [HL.out.2];exact own_set HR4.out hrow (by decide)
 have HOB:=Lib.hid hob
 have HSE:=Lib.hid hset.2
 clear hK K hrow hset hob
 (try simp only [Act.put])
 refine zT0 8 3 (.assign (.const (.int .i64 0))) (.int .i64 0) rfl hH5 ?_
 simp only [zz]
 refine zT0 9 4 (.assign (.const (.int .i64 0))) (.int .i64 0) rfl hH5 ?_
 simp only [zz]
 refine wpAnyH_done (by kernel_rfl) ?_ _
 go_wp2
 obtain⟨z0,z1,z2⟩:=cells3 HSE.out
 exact bodyPost_ret (v:=.tuple #[.agg #[.slice ma n1 mc,.slice ca cl cc,.slice ra rl rc],.int .i64 0,.int .i64 0]) (by simp [results,Tryz.results23,go_sem,z0,z1,z2]) rfl ⟨.inr ⟨rfl,_,_,_,rfl,HOB.out⟩,hH5.1⟩
end Go.Proofs.YtihiggnglmhggaaGreatDoor.L13
end
section
namespace Go.Proofs.YtihiggnglmhggaaGreatDoor.L16
open L3 L4 L12
open L13 (Ob)
theorem sm_op:∀ l m:List L9.Ins,l.map (·.op)=m.map (·.op)→smN l=smN m
 | [],[],_=>rfl
 | [],y::m,h=>by simp at h
 | x::l,[],h=>by simp at h
 | x::l,y::m,h=>by
  simp only [List.map_cons,List.cons.injEq] at h
  rw [smN,smN,sm_op l m h.2]
  unfold slN
  rw [h.1]
theorem sm_rs (p:L10.Pg):smN (L13.rsL p)=smN (cdL p.stmts):=by
 refine sm_op _ _ (List.ext_getElem (by rw [List.length_map,List.length_map,L13.rsL_len,cdL_len]) fun i h1 h2=>?_)
 rw [List.length_map,L13.rsL_len] at h1
 rw [List.getElem_map,List.getElem_map,L13.rsL_get p i h1,L13.rsI_op,cdL_get p.stmts i h1]
theorem sm_pos:∀ l:List L9.Ins,(∀ x∈l,1≤slN x)→0<l.length→1≤smN l
 | [],_,h=>absurd h (by simp)
 | x::r,h,_=>by
  have:=h x (List.mem_cons_self ..)
  rw [smN];omega
theorem mp_lt:∀ (l:List L9.Df) (k:Nat) (x:ByteArray),L10.mpI k l x<(k:Int)+l.length
 | [],k,_=>by rw [L10.mpI];simp only [List.length_nil];omega
 | d::r,k,x=>by
  rw [L10.mpI]
  have:=mp_lt r (k+1) x
  simp only [List.length_cons]
  split <;> omega
theorem rl_refs (ms:List L9.Df):∀ (l:List L10.Stm) (a:Nat) (la:Int) (s:Nat),(∀ t∈l,1≤slN t.x)→la<(a:Int)→a+smN (cdL l)≤s→rlF la s ms.length ((rfL ms a l).map fun r=>((r.1:Int),r.2))=true
 | [],_,_,_,_,_,_=>rfl
 | t::r,a,la,s,h,hl,hs=>by
  have h1:=h t (List.mem_cons_self ..)
  have h2:∀ t∈r,1≤slN t.x:=fun y hy=>h y (List.mem_cons_of_mem _ hy)
  have hs':a+(slN t.x+smN (cdL r))≤s:=hs
  rw [rfL,List.map_append]
  by_cases hc:frm (ix t.x.op)=11∧0≤L10.mpI 0 ms t.mp
  ·rw [if_pos hc]
   have hm:=mp_lt ms 0 t.mp
   have ih:=rl_refs ms r (a+slN t.x) (a:Int) s h2 (by omega) (by omega)
   simp only [List.map_cons,List.map_nil,List.cons_append,List.nil_append,rlF,Bool.and_eq_true,decide_eq_true_eq]
   exact⟨⟨⟨⟨hl,by omega⟩,hc.2⟩,by omega⟩,ih⟩
  ·rw [if_neg hc]
   exact rl_refs ms r (a+slN t.x) la s h2 (by omega) (by omega)
theorem chE_prog {p:L10.Pg} (h:(L10.brV p).2.2=0) (hn:p.stmts.length≤10000):chE (L13.obV p)=0:=by
 have k:=L11.frB_ok _ h
 have k1:mE p.maps=0:=k (true,L10.fe (p.maps.map L10.deE)) (by simp [L10.cnd])
 have k2:(L10.fe (L10.szE p.maps.length)).2=0:=k (true,L10.fe (L10.szE p.maps.length)) (by simp [L10.cnd])
 have k3:(L10.fe (L10.dpE [] (p.maps.map fun d=>[d.nm]))).2=0:=k (true,L10.fe (L10.dpE [] (p.maps.map fun d=>[d.nm]))) (by simp [L10.cnd])
 have k4:(if 0<p.stmts.length then (0:Int) else 15)=0:=k (false,(0,if 0<p.stmts.length then 0 else 15)) (by simp [L10.cnd])
 have j2:p.maps.length≤255:=by
  rw [L10.fe_sz] at k2
  by_cases hc:p.maps.length≤255
  ·exact hc
  ·rw [if_neg hc] at k2;cases k2
 have j3:L2.rp (p.maps.map (·.nm))=-1:=by
  rcases L10.dp_maps p.maps with ⟨e,-⟩|⟨m,-,e⟩
  ·exact e
  ·rw [e] at k3;cases k3
 have j4:0<p.stmts.length:=by
  by_cases hc:0<p.stmts.length
  ·exact hc
  ·rw [if_neg hc] at k4;cases k4
 have hf:∀ s∈p.stmts,frm (ix s.x.op)≠-1:=fun s hs=>(L11.chk_all (L13.good_of h s hs).chk).1
 have hsl:∀ s∈p.stmts,1≤slN s.x:=fun s hs=>sl_one (hf s hs)
 have hS1:1≤smN (cdL p.stmts):=sm_pos _ (fun x hx=>by
  unfold L12.cdL at hx
  obtain⟨s,hs,rfl⟩:=List.mem_map.1 hx
  exact hsl s hs) (by rw [cdL_len];exact j4)
 have hS2:=smN_le (cdL p.stmts)
 rw [cdL_len] at hS2
 have hlen:(L13.cdB p).length=8*smN (cdL p.stmts):=by
  unfold L13.cdB
  rw [join_sl _ (fun x hx=>?_),sm_rs]
  obtain⟨i,hi,rfl⟩:=List.mem_iff_getElem.1 hx
  rw [L13.rsL_len] at hi
  rw [L13.rsL_get p i hi,L13.rsI_op]
  exact hf _ (List.getElem_mem hi)
 have hrl:rlF (-1) ((L13.cdB p).length / 8) p.maps.length ((rfT p p.stmts.length).map fun r=>((r.1:Int),r.2))=true:=by
  unfold rfT
  rw [List.take_length]
  exact rl_refs p.maps p.stmts 0 (-1) _ hsl (by omega) (by omega)
 unfold chE
 show (if mE p.maps≠0 then mE p.maps else if 255<p.maps.length then 16 else if L2.rp (p.maps.map (·.nm))≠-1 then 10 else if (L13.cdB p).length / 8=0∨(L13.cdB p).length % 8≠0 then 17 else if 65535<(L13.cdB p).length / 8 then 16
  else if rlF (-1) ((L13.cdB p).length / 8) p.maps.length ((rfT p p.stmts.length).map fun r=>((r.1:Int),r.2))=true then 0 else 18)=0
 rw [if_neg (by simpa using k1),if_neg (by omega),if_neg (by simpa using j3),if_neg (by omega),if_neg (by omega),if_pos hrl]
theorem os_prog {p:L10.Pg} (h:(L10.brV p).2.2=0) (hf:L10.Fits p) (hn:p.stmts.length≤6000):OS (L13.obV p):=by
 obtain⟨h1,h2,h3⟩:=L13.obV_s hf hn
 refine⟨h1,h2,h3,fun d hd=>?_⟩
 obtain⟨hv,-⟩:=L11.deE_of ((L11.brV_parts h).1 d hd)
 have:=(vd_rt hv).2
 rw [Array.length_toList] at this
 have e:d.nm.size=d.nm.data.size:=rfl
 unfold maxLen;omega
end Go.Proofs.YtihiggnglmhggaaGreatDoor.L16
end
section
namespace Go.Proofs.YtihiggnglmhggaaGreatDoor.L5
open Go.RowKit L3 L1 L4
theorem joinB_cons (x:Ix) (q:List Ix):joinB (x::q)=x.bytes++joinB q:=rfl
theorem la_cons' (x y:Rdg) (q:List Rdg):la (x::y::q)=la (y::q):=rfl
theorem rds_enc:∀ (xs:List Ix) (n a:Nat),(joinB xs).length≤n→(∀ x∈xs,x.err=0)→(∀ x∈xs,x.fits)→(rds n a (joinB xs)).map (fun r=>r.x)=xs∧(la (rds n a (joinB xs))).e=0
 | [],n,a,_,_,_=>by
  have:joinB []=[]:=rfl
  rw [this,rds_nil]
  exact⟨rfl,rfl⟩
 | x::q,n,a,hn,h0,hf=>by
  obtain⟨s,hs,hl,h1,h2⟩:=bytes_slots x (h0 x (by simp))
  rw [joinB_cons] at hn ⊢
  rw [List.length_append] at hn
  obtain⟨n',rfl⟩:∃ n',n=n'+1:=⟨n-1,by omega⟩
  have hd:=dec_enc x (joinB q) (h0 x (by simp)) (hf x (by simp))
  have hne:x.bytes++joinB q≠[]:=by
   intro h
   have:=congrArg List.length h
   rw [List.length_append,List.length_nil] at this
   omega
  rw [rds_go n' a s _ hne (by rw [hd]) (by rw [hd];exact hs),hd]
  have hdr:(x.bytes++joinB q).drop (8*s)=joinB q:=by rw [← hl,List.drop_left]
  rw [hdr]
  obtain⟨i1,i2⟩:=rds_enc q n' (a+s) (by omega) (fun y hy=>h0 y (by simp [hy])) (fun y hy=>hf y (by simp [hy]))
  refine⟨by rw [List.map_cons,i1],?_⟩
  cases hq:rds n' (a+s) (joinB q) with
  | nil=>rfl
  | cons y r=>rw [la_cons',← hq];exact i2
end Go.Proofs.YtihiggnglmhggaaGreatDoor.L5
end
section
namespace Go.Proofs.YtihiggnglmhggaaGreatDoor.L17
open L3 L4 L12
open L13 (Ob rsL rsI dsI)
open L10 (jmI fmI rfI badF badN Stm Pg lbK mpI)
open L16 (chE)
structure Gs (p:Pg) (s:Stm):Prop where
 im:rfI s.x=true→s.x.imm=0
 mp:rfI s.x=true→0≤mpI 0 p.maps s.mp
 wr:wri (fmI s.x) s.x.dst≠10
theorem gs_of {p:Pg} (h:(L10.brV p).2.2=0):∀ s∈p.stmts,Gs p s:=by
 intro s hs
 have k:=L11.frB_ok _ h
 have h1:=(L11.brV_parts h).2 s hs
 have h2:L10.unE p s=0:=by
  have:=k (false,L10.fe (p.stmts.map (L10.unE p))) (by simp [L10.cnd])
  exact L11.fe_zero this _ (List.mem_map.2 ⟨s,hs,rfl⟩)
 have h3:L10.wrE s=0:=by
  have:=k (false,L10.fe (p.stmts.map L10.wrE)) (by simp [L10.cnd])
  exact L11.fe_zero this _ (List.mem_map.2 ⟨s,hs,rfl⟩)
 unfold L10.stE at h1
 split at h1
 case isFalse=>cases h1
 split at h1
 case isFalse=>rename_i hc;exact absurd h1 hc
 split at h1
 case isTrue=>cases h1
 rename_i hb
 split at h1
 case isTrue=>cases h1
 rename_i hn
 have hb':badF s=false:=by simpa using hb
 have hn':badN s=false:=by simpa using hn
 unfold L10.badF at hb'
 unfold L10.badN at hn'
 simp only [Bool.or_eq_false_iff] at hb' hn'
 obtain⟨⟨⟨-,hb2⟩,-⟩,-⟩:=hb'
 refine⟨fun hr=>?_,fun hr=>?_,fun hw=>?_⟩
 ·rw [hr] at hb2;simpa using hb2
 ·have hv:L2.vd s.mp=true:=by
   have:=hn'.2
   rw [hr] at this
   simpa using this
  rw [L10.unE_lb] at h2
  have hem:s.mp.toList.isEmpty=false:=by
   cases hem:s.mp.toList.isEmpty
   ·rfl
   ·rw [L11.emp hem,L13.vd_eB] at hv;cases hv
  rw [hem] at h2
  by_cases hl:mpI 0 p.maps s.mp<0
  ·simp [hl] at h2
  ·omega
 ·unfold L10.wrE at h3
  rw [if_pos hw] at h3
  cases h3
theorem last_of {p:Pg} (h:(L10.brV p).2.2=0) (i:Nat) (hi:i<p.stmts.length) (hl:i+1=p.stmts.length):endF (fmI p.stmts[i].x)=true:=by
 have k:=L11.frB_ok _ h
 have:=k (false,L10.fe (p.stmts.mapIdx (L10.enE p.stmts.length))) (by simp [L10.cnd])
 have h2:=L11.fe_zero this (L10.enE p.stmts.length i p.stmts[i]) (List.mem_iff_getElem.2 ⟨i,by simpa using hi,by simp⟩)
 unfold L10.enE at h2
 have e:decide ((i:Int)<(p.stmts.length:Int)-1)=false:=by simp;omega
 rw [e,Bool.false_or] at h2
 by_cases hc:endF (fmI p.stmts[i].x)=true
 ·exact hc
 ·rw [if_neg hc] at h2
  cases h2
theorem rs_ops (p:Pg):(rsL p).map (·.op)=(cdL p.stmts).map (·.op):=by
 refine List.ext_getElem (by rw [List.length_map,List.length_map,L13.rsL_len,cdL_len]) fun i h1 h2=>?_
 rw [List.length_map,L13.rsL_len] at h1
 rw [List.getElem_map,List.getElem_map,L13.rsL_get p i h1,L13.rsI_op,cdL_get p.stmts i h1]
theorem rs_st (p:Pg) (i:Nat):stN (rsL p) i=stN (cdL p.stmts) i:=by
 unfold stN
 refine L16.sm_op _ _ ?_
 rw [List.map_take,List.map_take,rs_ops]
theorem rs_at (p:Pg) (i:Nat) (h:i<p.stmts.length):atI (rsL p) i=rsI p i p.stmts[i]:=by rw [atI_is (by rw [L13.rsL_len];exact h),L13.rsL_get p i h]
theorem rs_fm (p:Pg) (i:Nat) (s:Stm):fmI (rsI p i s)=fmI s.x:=by unfold fmI;rw [L13.rsI_op]
theorem rs_imm (p:Pg) (i:Nat) (s:Stm):(rsI p i s).imm=s.x.imm:=by unfold rsI;split <;> rfl
theorem rs_dst (p:Pg) (i:Nat) (s:Stm):(rsI p i s).dst=s.x.dst:=by unfold rsI;split <;> rfl
theorem rs_off (p:Pg) (i:Nat) (s:Stm) (h:jmI s.x=true):(rsI p i s).off=dsI p i s:=by unfold rsI;rw [if_pos h]
theorem code_prog {p:Pg} (h:(L10.brV p).2.2=0) (hn:p.stmts.length≤10000):inL (L13.cdB p)=rsL p∧(L5.la (rdC (L13.cdB p))).e=0:=by
 obtain⟨h1,h2⟩:=L5.rds_enc ((rsL p).map L13.tI) (L13.cdB p).length 0 (Nat.le_refl _) (L13.rsL_err h hn) (L13.rsL_fits h hn)
 refine⟨?_,h2⟩
 have e:inL (L13.cdB p)=((rdC (L13.cdB p)).map fun r=>r.x).map iT:=by unfold inL;rw [List.map_map];rfl
 rw [e,show ((rdC (L13.cdB p)).map fun r=>r.x)=(rsL p).map L13.tI from h1,List.map_map]
 exact List.map_id'' (fun x=>rfl) _
theorem rf_mem (ms:List L9.Df):∀ (l:List Stm) (a:Nat) (s:Int),((rfL ms a l).any fun r=>(r.1:Int)==s)=true↔∃ i,∃ h:i<l.length,(frm (ix l[i].x.op)=11∧0≤mpI 0 ms l[i].mp)∧((a+stN (cdL l) i:Nat):Int)=s
 | [],a,s=>by simp [rfL]
 | t::r,a,s=>by
  rw [rfL,List.any_append,Bool.or_eq_true,rf_mem ms r (a+slN t.x) s]
  have e:∀ i,stN (cdL (t::r)) (i+1)=slN t.x+stN (cdL r) i:=fun i=>by
   show stN (t.x::cdL r) (i+1)=_
   unfold stN
   rw [List.take_succ_cons,smN]
  constructor
  ·rintro (h|⟨i,hi,h1,h2⟩)
   ·by_cases hc:frm (ix t.x.op)=11∧0≤mpI 0 ms t.mp
    ·rw [if_pos hc] at h
     refine⟨0,by simp,hc,?_⟩
     rw [stN_zero]
     simpa using h
    ·rw [if_neg hc] at h
     simp at h
   ·refine⟨i+1,by simpa using hi,h1,?_⟩
    rw [e,← h2];congr 1;omega
  ·rintro ⟨i,hi,h1,h2⟩
   cases i with
   | zero =>
    left
    have hc:frm (ix t.x.op)=11∧0≤mpI 0 ms t.mp:=h1
    rw [if_pos hc]
    rw [stN_zero] at h2
    simpa using h2
   | succ i =>
    right
    refine⟨i,by simpa using hi,h1,?_⟩
    rw [e] at h2
    rw [← h2];congr 1;omega
theorem has_prog {p:Pg} (h:(L10.brV p).2.2=0) (s:Int):hasR (L13.obV p).rels s=(List.range (rsL p).length).any fun i=>isRf (atI (rsL p) i) && ((stN (rsL p) i:Int)==s):=by
 have e:hasR (L13.obV p).rels s=(rfL p.maps 0 p.stmts).any fun r=>(r.1:Int)==s:=by
  unfold hasR
  show ((rfT p p.stmts.length).map fun r=>((r.1:Int),r.2)).any _=_
  unfold rfT
  rw [List.take_length,List.any_map]
  rfl
 rw [Bool.eq_iff_iff,e,rf_mem,List.any_eq_true]
 constructor
 ·rintro ⟨i,hi,⟨h1,-⟩,h2⟩
  refine⟨i,List.mem_range.2 (by rw [L13.rsL_len];exact hi),?_⟩
  rw [rs_at p i hi,rs_st]
  rw [Nat.zero_add] at h2
  simp only [Bool.and_eq_true,beq_iff_eq]
  exact⟨by unfold isRf;rw [rs_fm,beq_iff_eq];exact h1,h2⟩
 ·rintro ⟨i,hi,h1⟩
  have hi':i<p.stmts.length:=by rw [← L13.rsL_len];exact List.mem_range.1 hi
  rw [rs_at p i hi',rs_st] at h1
  simp only [Bool.and_eq_true,beq_iff_eq] at h1
  have h2:fmI p.stmts[i].x=11:=by
   have:=h1.1
   unfold isRf at this
   rw [rs_fm,beq_iff_eq] at this
   exact this
  exact⟨i,hi',⟨h2,(gs_of h _ (List.getElem_mem hi')).mp (by unfold rfI;rw [h2];rfl)⟩,by rw [Nat.zero_add];exact h1.2⟩
theorem fr_skip' {x:Int × Int} {r:List (Int × Int)} (h:x.2=0):fr (x::r)=fr r:=by rw [fr,if_neg (by simpa using h)]
theorem v_prog {p:Pg} (h:(L10.brV p).2.2=0) (hn:p.stmts.length≤6000):vE (L13.obV p)=(0,0):=by
 obtain⟨hc,hl⟩:=code_prog h (by omega)
 have hE:=L16.chE_prog h (by omega)
 have hsl:=inL_sl hl
 have hcd:(L13.obV p).code=L13.cdB p:=rfl
 unfold vE vL
 rw [hcd,fr_skip' hE,fr_skip' (by rw [insE_ok hl]),hc]
 rw [hc] at hsl
 have e1:eaV (rsL p) (pF (rsL p)) 12=(0,0):=eaV_none fun j hj=>by
  rw [L13.rsL_len] at hj
  unfold pF
  rw [rs_at p j hj]
  cases hr:isRf (rsI p j p.stmts[j])
  ·rfl
  ·have:rfI p.stmts[j].x=true:=by unfold isRf at hr;rw [rs_fm] at hr;exact hr
   rw [rs_imm,(gs_of h _ (List.getElem_mem hj)).im this]
   rfl
 have e2:rlV (L13.obV p) (rsL p)=(0,0):=by
  unfold rlV
  rw [eaF_none]
  intro j _
  rw [rfB_is hsl,has_prog h]
  simp
 have e3:eaV (rsL p) (pJ (rsL p)) 13=(0,0):=eaV_none fun j hj=>by
  rw [L13.rsL_len] at hj
  unfold pJ tgI
  rw [rs_at p j hj]
  cases hj2:jmI (rsI p j p.stmts[j])
  ·rfl
  ·have hjm:jmI p.stmts[j].x=true:=by unfold jmI at hj2;rw [rs_fm] at hj2;exact hj2
   have hg:=(L13.good_of h _ (List.getElem_mem hj)).lab hjm
   have hlt:=(L10.lbK_lt p.stmts p.stmts[j].tg p.stmts.length).2
   rw [rs_off p j _ hjm,rs_st]
   obtain⟨q,hq⟩:=Int.eq_ofNat_of_zero_le hg
   have e:(stN (cdL p.stmts) (j+1):Int)+dsI p j p.stmts[j]=(stN (rsL p) q:Int):=by
    unfold dsI
    rw [hq,Int.toNat_natCast,rs_st];omega
   rw [e,atN_at hsl (by rw [L13.rsL_len];omega)]
   simp
 have e4:eaV (rsL p) (pW (rsL p)) 14=(0,0):=eaV_none fun j hj=>by
  rw [L13.rsL_len] at hj
  unfold pW
  rw [rs_at p j hj,rs_fm,rs_dst]
  simpa using (gs_of h _ (List.getElem_mem hj)).wr
 have e5:eaV (rsL p) (pE (rsL p)) 15=(0,0):=eaV_none fun j hj=>by
  have hj':=hj
  rw [L13.rsL_len] at hj
  unfold pE
  rw [rs_at p j hj,rs_fm]
  by_cases hc:j+1<(rsL p).length
  ·simp [hc]
  ·rw [last_of h j hj (by rw [L13.rsL_len] at hc;omega),Bool.or_true]
 rw [e1,e2,e3,e4,e5]
 rfl
end Go.Proofs.YtihiggnglmhggaaGreatDoor.L17
end
section
namespace Go.Proofs.YtihiggnglmhggaaGreatDoor.L13
open Go.RowKit Go.Shelf L3 L4 L12
open L10 (Stm Pg jmI fmI lbK)
attribute [local go_sem] Oper.semAt_some
theorem rsL_snoc (p:Pg) (k:Nat) (h:k<p.stmts.length):(rsL p).take (k+1)=(rsL p).take k++[rsI p k p.stmts[k]]:=by
 rw [List.take_add_one,List.getElem?_eq_getElem (by rw [rsL_len];exact h),Option.toList,rsL_get p k h]
def SR (B:Nat) (w:World) (kp kx:Nat) (vm vs:Value) (x:L9.Ins) (X:World):Prop :=
 Below B w X∧X.heap[kp]?=some (.cells #[vm,vs] 53)∧∃ o:Int,X.heap[kx]?=some (.cells #[.int .i64 x.op,.bool x.reg,.int .i64 x.dst,.int .i64 x.src,.int .i64 o,.int .i64 x.imm] 45)
theorem SR.below {B:Nat} {w X Y:World} {kp kx:Nat} {vm vs:Value} {x:L9.Ins} (h:SR B w kp kx vm vs x X) (hB:B≤w.heap.size) (hb:Below X.heap.size X Y):SR B w kp kx vm vs x Y:=by
 obtain⟨h1,h2,o,h3⟩:=h
 exact⟨h1.trans (hb.mono (Nat.le_trans hB h1.size)),L8.row_up h2 hb,o,L8.row_up h3 hb⟩
theorem rresolve_at (vm vs:Value) (p:Pg) (n:Nat) (w:World) (hp:L10.PgAt w vm vs p) (hf:L10.PgFit p) (hfew:p.maps.length≤300∧p.stmts.length≤60∧L10.lsum p.stmts≤200) (hn:p.stmts.length=n) (b:Bool) (k:Nat) (er:Int) (hr:L10.brV p=(b,k,er)) :
  Calls Tryz.prog 24 #[.agg #[vm,vs]] w fun e w'=>RsP w p n k er e w':=by
 obtain⟨i0,hi,hz0,hz1,hz2⟩:=info_parts infoIns
 have HSml:=L10.sml_few hfew
 have hm:=hfew.2.1
 rw [hn] at hm
 have HCk:=Lib.hid (fun (X:World) (hX:Below w.heap.size w X)=>L10.rcheck10_at vm vs p X (hp.below hX) hf hfew b k er hr)
 have HCo:=Lib.hid (fun (X:World) (hX:Below w.heap.size w X)=>rcode_at vm vs p X (hp.below hX) HSml)
 unfold CoP at HCo
 rw [hn] at HCo
 have HLb:=Lib.hid (fun (X:World) (hX:Below w.heap.size w X) (t:ByteArray)=>L10.rlabel_at vm vs p t X (hp.below hX) HSml)
 have HG:=Lib.hid (fun (he:er=0)=>good_of (brV_ok hr he))
 obtain⟨n1,hn1⟩:∃ n,p.maps.length=n:=⟨_,rfl⟩
 obtain⟨a1,c1,rfl,-⟩:=L10.df_form hn1 hp.1
 obtain⟨a2,c2,rfl,hc⟩:=L10.sm_form hn hp.2
 have HC:=Lib.hid hc
 have HN:=Lib.hid hn
 have HB:=Lib.hid (L8.bnew w (.cells #[.slice a1 n1 c1,.slice a2 n c2] 53))
 have K0:=Lib.hid (heap_alloc_last w (.cells #[.slice a1 n1 c1,.slice a2 n c2] 53))
 clear hp hf hn hr hn1 HSml hfew hc
 go_enter Tryz.func24,Tryz.ntmps24
 go_upto_region 1 with (fail)
 obtain⟨kp,hkp⟩:∃ k,w.heap.size=k:=⟨_,rfl⟩
 rw [hkp] at K0 ⊢
 clear hkp
 generalize w.alloc (.cells _ 53)=W0 at K0 HB ⊢
 obtain⟨x0,x1⟩:=L10.cells2p K0.out
 have l1:=World.block_lt_of_cell? _ _ x0
 simp only at l1
 by_cases h0:er=0
 case neg =>
  have h0':(er != 0)=true:=by simpa using h0
  go_wp2_with (go_at_call 48;((with_reducible refine (HCk.out _ HB.out).mono ?_);rintro e w1 ⟨rfl,b1⟩))
  go_ret3
  exact⟨.inl ⟨h0,rfl⟩,L2.bch HB.out b1⟩
 subst h0
 have HG0:=Lib.hid (HG.out rfl)
 go_upto_region 4 with (go_at_call 48;((with_reducible refine (HCk.out _ HB.out).mono ?_);rintro e w1 ⟨rfl,b1⟩;clear x0 x1 l1;obtain⟨x0,x1⟩:=L10.cells2p (L8.row_up K0.out b1);have l1:=World.block_lt_of_cell? _ _ x0;simp only at l1))
 have HB1:=Lib.hid (L2.bch HB.out b1)
 have K1:=Lib.hid (L8.row_up K0.out b1)
 clear b1 HB K0
 go_wp2_with (go_at_call 49;((with_reducible refine (HCo.out _ HB1.out).mono ?_);rintro e w2 ⟨la,lc,rfl,hli,b2⟩))
 have HB2:=Lib.hid (L2.bch HB1.out b2)
 have K2:=Lib.hid (L8.row_up K1.out b2)
 have HLI:=Lib.hid hli
 obtain⟨la',lc',hlv,hlx⟩:=is_form (n:=n) (by rw [cdL_len];exact HN.out) hli
 cases hlv
 have HLX:=Lib.hid hlx
 clear x0 x1 l1 b2 hli hlx HB1 K1
 go_loopw [8,9] (fun s i wr=>∃ j:Nat,j≤n∧i=.int .i64 (j:Int)∧s=.int .i64 (stN (cdL p.stmts) j:Int)∧w2=wr) (fun _ i _=>n-(RowKit.intOf i).toNat)
 case atStart=>exact⟨0,Nat.zero_le _,rfl,by simp [stN,smN],rfl⟩
 case round =>
  obtain⟨j,hj,rfl,rfl,rfl⟩:=hrel
  by_cases hlt:j<n
  ·have hjl:j<(cdL p.stmts).length:=by rw [cdL_len,HN.out];exact hlt
   obtain⟨lb,lo,rfl,hlb,hcx⟩:=HLX.out (by omega)
   obtain⟨y0,-⟩:=hcx j hjl
   have hle:=stN_le (cdL p.stmts) j
   rw [cdL_len,HN.out] at hle
   have hs2:=slN_le (cdL p.stmts)[j]
   have hsu:=stN_succ (cdL p.stmts) j hjl
   have HS:=Lib.hid (fun W=>rslots_at (cdL p.stmts)[j].op _ (slN (cdL p.stmts)[j]:Int) W rfl (slN_int _))
   obtain⟨m,hm2⟩:∃ m,slN (cdL p.stmts)[j]=m:=⟨_,rfl⟩
   obtain⟨s,hs⟩:∃ s,stN (cdL p.stmts) j=s:=⟨_,rfl⟩
   rw [hm2] at HS hs2 hsu
   rw [hs] at hle hsu ⊢
   have HU:=Lib.hid hsu
   generalize (cdL p.stmts)[j].op=op at y0 HS
   have hl1:=World.block_lt_of_cell? _ _ y0
   simp only at hl1
   have hjI:(j:Int)<(n:Int):=by omega
   have hg:¬ (65535:Int)<(s:Int)+(m:Int):=by omega
   clear hcx hm2 hs hsu
   go_wp2_with (go_at_call 50;((with_reducible refine (HS.out _).mono ?_);rintro e w3 ⟨rfl,rfl⟩))
   go_roundw
   case rel=>exact⟨j+1,by omega,by go_num,by rw [HU.out];go_num,(by first|trivial|rfl)⟩
   case measure=>simp [RowKit.intOf];omega
  ·obtain rfl:j=n:=by omega
   have HI:Hid (w2.ownsRow w2.heap.size 45 6 (.slice none 0 0) 0 (inC ((rsL p).take 0))∧Below w2.heap.size w2 w2):=Lib.hid ⟨World.ownsRow_nil _ _ _ _,Below.refl _ _⟩
   go_wp2
   go_loopw [10,11] (fun ow i wr=>∃ (q:Nat) (ov:Value),q≤j∧ov=ow∧i=.int .i64 (q:Int)∧Hid (wr.ownsRow w2.heap.size 45 6 ov q (inC ((rsL p).take q))∧Below w2.heap.size w2 wr)) (fun _ i _=>j-(RowKit.intOf i).toNat)
   case atStart=>exact⟨0,_,Nat.zero_le _,rfl,rfl,HI⟩
   case round =>
    obtain⟨q,ov,hq,rfl,rfl,hI⟩:=hrel
    clear HI
    by_cases hlt2:q<j
    ·have hql:q<p.stmts.length:=by rw [HN.out];exact hlt2
     obtain⟨lb,lo,rfl,hlb,hcx⟩:=HLX.out (by omega)
     obtain⟨y0,y1,y2,y3,y4,y5⟩:=hcx q (by rw [cdL_len];exact hql)
     rw [cdL_get p.stmts q hql] at y0 y1 y2 y3 y4 y5
     have y0:=cell_up hI.out.2 y0
     have y1:=cell_up hI.out.2 y1
     have y2:=cell_up hI.out.2 y2
     have y3:=cell_up hI.out.2 y3
     have y4:=cell_up hI.out.2 y4
     have y5:=cell_up hI.out.2 y5
     have ly:=World.block_lt_of_cell? _ _ y0
     simp only at ly
     obtain⟨sb,so,rfl,hsb,hc⟩:=HC.out (by omega)
     obtain⟨lv,hst,hx⟩:=hc q hql
     have t7:=(L2.bch HB2.out hI.out.2).cell (p:=⟨sb,so+q*9+7,none⟩) (by exact hsb) |>.trans (hx 7 _ rfl)
     have lt7:=World.block_lt_of_cell? _ _ t7
     simp only at lt7
     obtain⟨p0,p1⟩:=L10.cells2p (L8.row_up K2.out hI.out.2)
     have lp:=World.block_lt_of_cell? _ _ p0
     simp only at lp
     have hjI:(q:Int)<(j:Int):=by omega
     have HGq:=Lib.hid (HG0.out _ (List.getElem_mem hql))
     have hds:=ds_in p q p.stmts[q] (by rw [HN.out];omega)
     have HSN:=Lib.hid (rsL_snoc p q hql)
     obtain⟨d,hd⟩:∃ d,dsI p q p.stmts[q]=d:=⟨_,rfl⟩
     have HRI:Hid (rsI p q p.stmts[q]=if jmI p.stmts[q].x then ⟨p.stmts[q].x.op,p.stmts[q].x.reg,p.stmts[q].x.dst,p.stmts[q].x.src,d,p.stmts[q].x.imm⟩ else p.stmts[q].x):=Lib.hid (by unfold rsI;rw [hd])
     rw [hd] at hds
     have HDV:Hid (d=(stN (cdL p.stmts) (lbK p.stmts p.stmts[q].tg p.stmts.length).toNat:Int)-(stN (cdL p.stmts) (q+1):Int)):=Lib.hid hd.symm
     have HTP:=Lib.hid (L2.bch HB2.out hI.out.2)
     obtain⟨xs,hxs⟩:∃ xs,rsI p q p.stmts[q]=xs:=⟨_,rfl⟩
     rw [hxs] at HSN HRI
     obtain⟨s,hs⟩:∃ s,p.stmts[q]=s:=⟨_,rfl⟩
     rw [hs] at y0 y1 y2 y3 y4 y5 t7 HGq HRI HDV
     have hown:=hI.out.1
     have HBl:=Lib.hid hI.out.2
     have hszW:=HBl.out.size
     clear hcx hc hst hx hd hxs hs hI
     obtain⟨labs,⟨op,reg,dst,src,off,imm⟩,tg,mp⟩:=s
     simp only at y0 y1 y2 y3 y4 y5 t7 HRI HDV
     go_upto_region 17 with (fail)
     have hX:=heap_alloc_last wr (.cells #[.int .i64 op,.bool reg,.int .i64 dst,.int .i64 src,.int .i64 off,.int .i64 imm] 45)
     have bn:=L8.bnew wr (.cells #[.int .i64 op,.bool reg,.int .i64 dst,.int .i64 src,.int .i64 off,.int .i64 imm] 45)
     have hown1:=L8.own_below hown bn
     have HB3:=Lib.hid (HBl.out.trans (bn.mono hszW))
     have t7:=cell_up bn t7
     have p0:=cell_up bn p0
     have p1:=cell_up bn p1
     have KP:=Lib.hid (L8.row_up (L8.row_up K2.out HBl.out) bn)
     obtain⟨kx,hkx⟩:∃ k,k=wr.heap.size:=⟨_,rfl⟩
     have HKX:=Lib.hid (show w2.heap.size≤kx by omega)
     have hoffx:∀ g,ov.ownBlock=some g→g<kx:=fun g hg=>by have:=(hown.lt g hg).2;omega
     have HOX:=Lib.hid hoffx
     rw [← hkx] at hX ⊢
     clear y0 y1 y2 y3 y4 y5 ly hown hkx hoffx lp lt7
     generalize wr.alloc (.cells _ 45)=W1 at hX bn hown1 HB3 t7 p0 p1 KP ⊢
     clear bn
     have lt7:=World.block_lt_of_cell? _ _ t7
     have lp:=World.block_lt_of_cell? _ _ p0
     simp only at lt7 lp
     obtain⟨jb,hjb⟩:∃ jb,jmI (⟨op,reg,dst,src,off,imm⟩:L9.Ins)=jb:=⟨_,rfl⟩
     have hte:=HGq.out.jmp
     simp only at hte
     rw [hjb] at hte HRI
     cases jb
     ·have hte2:tg.toList.isEmpty=true:=by simpa using hte.symm
      have hxs:=HRI.out
      rw [if_neg (by simp)] at hxs
      obtain⟨z0,z1,z2,z3,z4,z5⟩:=L4.cells6 hX
      have lz:=lt_of_block hX
      have hs1:=HB3.out.size
      clear hX hte hjb
      go_wp2_with (at_builtin;refine wpList_append_own _ rfl _ _ 38 rfl w2.heap.size 45 i0 (.agg #[.int .i64 0,.bool false,.int .i64 0,.int .i64 0,.int .i64 0,.int .i64 0]) 6 48 Tryz.underlying38 hi hz0 hz1 hz2 rfl (by decide) _ q _ rfl (hown1.alloc _) ⟨W1.heap.size,0,none⟩ 1 1 [.int .i64 op,.bool reg,.int .i64 dst,.int .i64 src,.int .i64 off,.int .i64 imm] rfl rfl (World.news_of_block (cs:=#[.int .i64 op,.bool reg,.int .i64 dst,.int .i64 src,.int .i64 off,.int .i64 imm]) (t:=45) (fr:=(0,0)) (heap_alloc_last W1 _)) (by simp [Value.oneCell']) (by unfold maxLen;omega) (by omega) (by simp;omega) ?_;intro v' w5 hown3 hgrow3 _)
      go_roundw
      case rel =>
       refine⟨q+1,_,by omega,rfl,by go_num,Lib.hid ⟨?_,?_⟩⟩
       ·rw [HSN.out,inC_snoc,hxs];exact hown3
       ·exact (HB3.out.alloc hs1 _).grown hgrow3 (by simp;omega) (L8.own_base hown1)
      case measure=>simp [RowKit.intOf];omega
     ·have hte2:tg.toList.isEmpty=false:=by simpa using hte.symm
      have hxs:=HRI.out
      rw [if_pos rfl] at hxs
      have hlab:=HGq.out.lab (by simpa using hjb)
      try simp only at hlab
      obtain⟨R,hR⟩:∃ R:Nat,lbK p.stmts tg p.stmts.length=(R:Int):=⟨(lbK p.stmts tg p.stmts.length).toNat,by omega⟩
      have hRn:=(L10.lbK_lt p.stmts tg p.stmts.length).2
      rw [hR,HN.out] at hRn
      have hdv:=HDV.out
      rw [hR,Int.toNat_natCast] at hdv
      obtain⟨A,hA⟩:∃ A,stN (cdL p.stmts) R=A:=⟨_,rfl⟩
      obtain⟨B,hB⟩:∃ B,stN (cdL p.stmts) (q+1)=B:=⟨_,rfl⟩
      rw [hA,hB] at hdv
      have hBle:=stN_le (cdL p.stmts) (q+1)
      have hAle:=stN_le (cdL p.stmts) R
      rw [cdL_len,HN.out,hB] at hBle
      rw [cdL_len,HN.out,hA] at hAle
      have hwd:IntKind.i64.wrap ((A:Int)-(B:Int))=d:=by rw [hdv];exact IntWalk.i64_in _ (by omega)
      clear hdv
      have hwq:IntKind.i64.wrap ((q:Int)+1)=((q+1:Nat):Int):=by rw [IntWalk.i64_in _ (by omega)];omega
      have HLB:=Lib.hid (fun (X:World) (hX:Below w2.heap.size w2 X)=>by have:=HLb.out X (L2.bch HB2.out hX) tg;rw [hR] at this;exact this)
      have HS1:=Lib.hid (fun (X:World) (hX:Below w2.heap.size w2 X)=>rstart_at (.slice (some ⟨lb,lo,none⟩) j lc) (cdL p.stmts) R A X (HLI.out.below hX) (by rw [cdL_len,HN.out];omega) (by rw [cdL_len,HN.out];omega) hA)
      have HS2:=Lib.hid (fun (X:World) (hX:Below w2.heap.size w2 X)=>rstart_at (.slice (some ⟨lb,lo,none⟩) j lc) (cdL p.stmts) (q+1) B X (HLI.out.below hX) (by rw [cdL_len,HN.out];omega) (by rw [cdL_len,HN.out];omega) hB)
      have HX0:Hid (SR w2.heap.size w2 kp kx (.slice a1 n1 c1) (.slice (some ⟨sb,so,none⟩) j c2) ⟨op,reg,dst,src,off,imm⟩ W1):=Lib.hid ⟨HB3.out,KP.out,off,hX⟩
      clear hX hte hjb hlab hR hA hB hBle hAle HDV HGq HRI
      go_upto_region 18 with (fail)
      refine wp_region_held_drew (S:=fun X=>SR w2.heap.size w2 kp kx (.slice a1 n1 c1) (.slice (some ⟨sb,so,none⟩) j c2) ⟨op,reg,dst,src,off,imm⟩ X∧X.cell? ⟨sb,so+q*9+7,none⟩=some (.string tg)) (by kernel_rfl) ⟨HX0.out.below (Nat.le_refl _) (L8.bdN (Below.refl _ _) 1),t7⟩ (fun hH=>?_)
      refine zT0 0 58 (.move (.tmp 7)) (.slice (some ⟨lb,lo,none⟩) j lc) rfl hH ?_
      simp only [zz]
      refine zT1 1 59 (.load 53 (.tmp 1)) (.agg #[.slice a1 n1 c1,.slice (some ⟨sb,so,none⟩) j c2]) rfl (fun wS hS=>by obtain⟨d0,d1⟩:=L10.cells2p hS.1.2.1;go_simp) hH ?_
      simp only [zz]
      refine zT3 2 60 (.fieldAddr 53 (.tmp 1) 1) (.pointer (some ⟨kp,1,none⟩)) rfl hH ?_
      simp only [zz]
      refine zT1 3 61 (.load 51 (.tmp 60)) (.slice (some ⟨sb,so,none⟩) j c2) rfl (fun wS hS=>by obtain⟨d0,d1⟩:=L10.cells2p hS.1.2.1;go_simp) hH ?_
      simp only [zz]
      refine zT0 4 62 (.move (.tmp 11)) (.int .i64 (q:Int)) rfl hH ?_
      simp only [zz]
      refine zT3 5 63 (.indexAddr 51 (.tmp 61) (.tmp 62)) (.pointer (some ⟨sb,so+q*9,none⟩)) rfl hH ?_
      simp only [zz]
      refine zT3 6 64 (.fieldAddr 80 (.tmp 63) 2) (.pointer (some ⟨sb,so+q*9+7,none⟩)) rfl hH ?_
      simp only [zz]
      refine zT1 7 65 (.load 9 (.tmp 64)) (.string tg) rfl (fun wS hS=>by have d0:=hS.2;go_simp) hH ?_
      simp only [zz]
      refine zT0 10 68 (.move (.tmp 7)) (.slice (some ⟨lb,lo,none⟩) j lc) rfl hH ?_
      simp only [zz]
      refine zT0 11 69 (.move (.tmp 11)) (.int .i64 (q:Int)) rfl hH ?_
      simp only [zz]
      refine zT3 12 70 (.binOp .add 3 (.tmp 69) (.const (.int .i64 1)) 3) (.int .i64 ((q+1:Nat):Int)) rfl hH ?_
      simp only [zz]
      refine wpAnyH_ready (rs:=[8]) (by kernel_rfl) (by simp) ?_
      refine AllReadyH.cons (o:=⟨some 66,.call ⟨.value (.func 51),#[.tmp 59,.tmp 65],#[53,9]⟩,_,_,_,none⟩) rfl (fun K hK=>?_) AllReadyH.nil
      go_simp
      refine (HLB.out _ hH.1.1).mono ?_
      rintro e w3 ⟨rfl,b3⟩
      refine hK.out _ _ ⟨hH.1.below (Nat.le_refl _) b3,cell_up b3 hH.2⟩ (fun hH3=>?_)
      have HO3:=Lib.hid (L8.own_below hown1 (L2.bch (L8.bdN (Below.refl _ _) 1) b3))
      clear hK K hH b3
      (try simp only [zz])
      refine wpAnyH_ready (rs:=[9]) (by kernel_rfl) (by simp) ?_
      refine AllReadyH.cons (o:=⟨some 67,.call ⟨.value (.func 30),#[.tmp 58,.tmp 66],#[38,3]⟩,_,_,_,none⟩) rfl (fun K hK=>?_) AllReadyH.nil
      go_simp
      refine (HS1.out _ hH3.1.1).mono ?_
      rintro e w4 ⟨rfl,rfl⟩
      refine hK.out _ _ hH3 (fun hH4=>?_)
      clear hK K hH3
      (try simp only [zz])
      refine wpAnyH_ready (rs:=[13]) (by kernel_rfl) (by simp) ?_
      refine AllReadyH.cons (o:=⟨some 71,.call ⟨.value (.func 30),#[.tmp 68,.tmp 70],#[38,3]⟩,_,_,_,none⟩) rfl (fun K hK=>?_) AllReadyH.nil
      go_simp
      refine (HS2.out _ hH4.1.1).mono ?_
      rintro e w5 ⟨rfl,rfl⟩
      refine hK.out _ _ hH4 (fun hH5=>?_)
      clear hK K hH4
      (try simp only [zz])
      refine zT3 14 72 (.binOp .sub 3 (.tmp 67) (.tmp 71) 3) (.int .i64 d) rfl hH5 ?_
      simp only [zz]
      refine zT3 15 73 (.fieldAddr 45 (.tmp 12) 4) (.pointer (some ⟨kx,4,none⟩)) rfl hH5 ?_
      simp only [zz]
      obtain⟨q1,q2,o9,q3⟩:=hH5.1
      have q4:=hH5.2
      obtain⟨z0,z1,z2,z3,z4,z5⟩:=L4.cells6 q3
      have fz:=L5.frozen_all q3 4
      have hne7:(⟨kx,4,none⟩:Addr)≠⟨sb,so+q*9+7,none⟩:=by
       intro e
       rw [e] at z4
       rw [z4] at q4
       cases q4
      have hset:=L5.cells_set (k:=4) (v:=.int .i64 d) q3
      have hgr:=L10.gr_setCell w3 kx 4 (.int .i64 d)
      have HS9:Hid (SR w2.heap.size w2 kp kx (.slice a1 n1 c1) (.slice (some ⟨sb,so,none⟩) j c2) ⟨op,reg,dst,src,off,imm⟩ (w3.setCell ⟨kx,4,none⟩ (.int .i64 d))∧(w3.setCell ⟨kx,4,none⟩ (.int .i64 d)).cell? ⟨sb,so+q*9+7,none⟩=some (.string tg)):=Lib.hid ⟨⟨L10.bel_set q1 HKX.out _ _,(hgr.block _ (lt_of_block q2) (L10.ty_ne q2 q3 (by decide))).trans q2,d,hset⟩,(World.cell?_setCell_other _ _ _ _ hne7).trans q4⟩
      have HO9:=Lib.hid (L10.own_kept HO3.out hgr (fun g hg e=>by have:=HOX.out g hg;cases e;omega))
      have HSET:=Lib.hid hset
      refine wpAnyH_ready (rs:=[16]) (by kernel_rfl) (by simp) ?_
      refine AllReadyH.cons (o:=⟨none,.store 3 (.tmp 73) (.tmp 72),_,_,_,none⟩) rfl (fun K hK=>?_) AllReadyH.nil
      clear q1 q2 q4 hgr hset hne7 hH5
      go_simp
      refine hK.out _ _ HS9.out (fun hH9=>?_)
      clear hK K hH9
      (try simp only [Act.put])
      refine wpAnyH_done (by kernel_rfl) ?_ _
      clear z0 z1 z2 z3 z4 z5 fz q3 p0 p1 t7 lt7 lp
      generalize w3.setCell ⟨kx,4,none⟩ (.int .i64 d)=W9 at HS9 HO9 HSET ⊢
      have hrow9:W9.heap[kx]?=some (.cells #[.int .i64 op,.bool reg,.int .i64 dst,.int .i64 src,.int .i64 d,.int .i64 imm] 45):=HSET.out
      obtain⟨z0,z1,z2,z3,z4,z5⟩:=L4.cells6 hrow9
      have lz:=lt_of_block hrow9
      have hB9:=HS9.out.1.1
      have hs1:=hB9.size
      have hown9:=HO9.out
      have hd0:=hds.1
      have hd1:=hds.2
      have hd2:¬ d < -32768:=by omega
      have hd3:¬ 32767<d:=by omega
      clear hrow9
      go_wp2_with (at_builtin;refine wpList_append_own _ rfl _ _ 38 rfl w2.heap.size 45 i0 (.agg #[.int .i64 0,.bool false,.int .i64 0,.int .i64 0,.int .i64 0,.int .i64 0]) 6 48 Tryz.underlying38 hi hz0 hz1 hz2 rfl (by decide) _ q _ rfl (hown9.alloc _) ⟨W9.heap.size,0,none⟩ 1 1 [.int .i64 op,.bool reg,.int .i64 dst,.int .i64 src,.int .i64 d,.int .i64 imm] rfl rfl (World.news_of_block (cs:=#[.int .i64 op,.bool reg,.int .i64 dst,.int .i64 src,.int .i64 d,.int .i64 imm]) (t:=45) (fr:=(0,0)) (heap_alloc_last W9 _)) (by simp [Value.oneCell']) (by unfold maxLen;omega) (by omega) (by simp;omega) ?_;intro v' w6 hown3 hgrow3 _)
      go_roundw
      case rel =>
       refine⟨q+1,_,by omega,rfl,by go_num,Lib.hid ⟨?_,?_⟩⟩
       ·rw [HSN.out,inC_snoc,hxs];exact hown3
       ·exact (hB9.alloc hs1 _).grown hgrow3 (by simp;omega) (L8.own_base hown9)
      case measure=>simp [RowKit.intOf];omega
    ·obtain rfl:q=j:=by omega
     have hJ:=hI.out
     rw [List.take_of_length_le (by rw [rsL_len,HN.out];exact Nat.le_refl _)] at hJ
     obtain⟨va,vc,rfl⟩:=owns_slice hJ.1
     have HJ2:=Lib.hid hJ
     clear hI hJ
     go_wp2
     go_ret3
     exact⟨.inr ⟨rfl,_,_,rfl,own_ins (by rw [rsL_len,HN.out]) HJ2.out.1⟩,L2.bch HB2.out HJ2.out.2⟩
end Go.Proofs.YtihiggnglmhggaaGreatDoor.L13
end
section
namespace Go.Proofs.YtihiggnglmhggaaGreatDoor.L13
open Go.RowKit Go.Shelf L3 L4 L12
open L10 (Stm Pg jmI fmI lbK)
attribute [local go_sem] Oper.semAt_some
def RaP (w:World) (p:Pg) (k:Nat) (er:Int) (e:Ending) (w':World):Prop :=
 ((er≠0∧e=.returned (.tuple #[.agg #[.slice none 0 0,.slice none 0 0,.slice none 0 0],.int .i64 (k:Int),.int .i64 er])) ∨
  (er=0∧∃ vm vc vr,e=.returned (.tuple #[.agg #[vm,vc,vr],.int .i64 0,.int .i64 0])∧ObAt w' vm vc vr (obV p)))∧Below w.heap.size w w'
def SQ (w:World) (kp kr:Nat) (vm vs:Value) (X:World):Prop :=
 Below w.heap.size w X∧X.heap[kp]?=some (.cells #[vm,vs] 53)∧∃ a1 n1 c1 a2 n2 c2 a3 n3 c3,X.heap[kr]?=some (obC (.slice a1 n1 c1) (.slice a2 n2 c2) (.slice a3 n3 c3))
theorem SQ.below {w X Y:World} {kp kr:Nat} {vm vs:Value} (h:SQ w kp kr vm vs X) (hb:Below X.heap.size X Y):SQ w kp kr vm vs Y:=by
 obtain⟨h1,h2,a1,n1,c1,a2,n2,c2,a3,n3,c3,h4⟩:=h
 exact⟨L2.bch h1 hb,L8.row_up h2 hb,_,_,_,_,_,_,_,_,_,L8.row_up h4 hb⟩
theorem own_rln {W:World} {B e:TypeId} {v:Value} {xs:List (Nat × Int)} {n:Nat} (hn:xs.length=n) (h:W.ownsRow B e 2 v n (rlC xs)):RlAt W v xs:=by
 subst hn
 exact own_rl h
theorem bs_set {W:World} {kr:Nat} {a1 a2 a3:Option Addr} {n1 c1 n2 c2 n3 c3:Nat} {v:Value} {l:List UInt8} {cs:Array Value} (h:L5.BsV W v l) (hr:W.heap[kr]?=some (obC (.slice a1 n1 c1) (.slice a2 n2 c2) (.slice a3 n3 c3))):L5.BsV (W.setRow kr cs) v l:=by
 obtain⟨a,cap,rfl,hc⟩:=h
 refine⟨a,cap,rfl,?_⟩
 rcases hc with hc|⟨k,o,rfl,hB⟩
 ·exact .inl hc
 ·refine .inr ⟨k,o,rfl,fun j hj=>?_⟩
  have hcj:=hB j hj
  rw [cell_setRow_other _ _ _ _ ?_]
  ·exact hcj
  ·show k≠kr
   rintro rfl
   unfold World.cell? at hcj
   simp only [hr] at hcj
   rcases (show (o+j=0∨o+j=1∨o+j=2)∨3≤o+j by omega) with (h0|h0|h0)|h0
   ·simp [h0] at hcj
   ·simp [h0] at hcj
   ·simp [h0] at hcj
   ·have:(#[Value.slice a1 n1 c1,.slice a2 n2 c2,.slice a3 n3 c3]:Array Value)[o+j]?=none:=by rw [Array.getElem?_eq_none];simpa using h0
    rw [this] at hcj
    cases hcj
theorem rassemble_at (vm vs:Value) (p:Pg) (n:Nat) (w:World) (hp:L10.PgAt w vm vs p) (hf:L10.PgFit p) (hfew:p.maps.length≤300∧p.stmts.length≤60∧L10.lsum p.stmts≤200) (hn:p.stmts.length=n) (b:Bool) (k:Nat) (er:Int) (hr:L10.brV p=(b,k,er)) :
  Calls Tryz.prog 22 #[.agg #[vm,vs]] w fun e w'=>RaP w p k er e w':=by
 have HSml:=L10.sml_few hfew
 have hm:=hfew.2.1
 rw [hn] at hm
 have HRs:=Lib.hid (fun (X:World) (hX:Below w.heap.size w X)=>rresolve_at vm vs p n X (hp.below hX) hf hfew hn b k er hr)
 have HJ:=Lib.hid (fun (he:er=0) (X:World) (v:Value) (hv:IsAt X v (rsL p))=>show Calls Tryz.prog 26 #[v] X (fun e w'=>∃ u,e=.returned u∧L5.BsAt w' u (cdB p)∧Below X.heap.size X w') from L5.rjoin_at v ((rsL p).map tI) X (by rw [List.length_map,rsL_len,hn];omega) (is_in hv) (rsL_err (brV_ok hr he) (by omega)))
 have HRf:=Lib.hid (fun (X:World) (hX:Below w.heap.size w X)=>rrefs_at vm vs p X (hp.below hX) HSml)
 unfold RfP at HRf
 obtain⟨cl,hcL⟩:∃ c,(cdB p).length=c:=⟨_,rfl⟩
 obtain⟨rl,hrL⟩:∃ c,(rfT p p.stmts.length).length=c:=⟨_,rfl⟩
 rw [hrL] at HRf
 have HPm:=Lib.hid (fun (X:World) (hX:Below w.heap.size w X)=>hp.1.below hX)
 obtain⟨n1,hn1⟩:∃ n,p.maps.length=n:=⟨_,rfl⟩
 obtain⟨a1,c1,rfl,-⟩:=L10.df_form hn1 hp.1
 obtain⟨a2,c2,rfl,-⟩:=L10.sm_form hn hp.2
 have HL:=Lib.hid (And.intro hcL hrL)
 obtain⟨K1,K2,hB⟩:=two_as w (.slice a1 n1 c1) (.slice a2 n c2)
 have HB:=Lib.hid hB
 have HK1:=Lib.hid K1
 have HK2:=Lib.hid K2
 clear hp hf hn hm hr hn1 HSml hcL hrL K1 K2 hB hfew
 go_enter Tryz.func22,Tryz.ntmps22
 go_upto_region 1 with (fail)
 obtain⟨kp,hkp⟩:∃ k,w.heap.size=k:=⟨_,rfl⟩
 rw [hkp] at HK1 HK2 ⊢
 generalize (w.alloc (.cells _ 53)).alloc (.cells _ 26)=W at HK1 HK2 HB ⊢
 have HKP:=Lib.hid (show w.heap.size≤kp+1 by omega)
 clear hkp
 obtain⟨x0,x1⟩:=L10.cells2p HK1.out
 have l1:=World.block_lt_of_cell? _ _ x0
 simp only at l1
 by_cases h0:er=0
 case neg =>
  have h0':(er != 0)=true:=by simpa using h0
  have HRn:=Lib.hid ((HRs.out W HB.out).mono (fun e w' h=>show (e=.returned (.tuple #[.slice none 0 0,.int .i64 (k:Int),.int .i64 er]))∧Below W.heap.size W w' from ⟨by rcases h.1 with ⟨_,h⟩|⟨h,_⟩;exact h;exact absurd h h0,h.2⟩))
  clear HRs HJ HRf
  go_upto_region 3 with (go_at_call 24;((with_reducible refine (HRn.out).mono ?_);rintro e w1 ⟨rfl,b1⟩))
  have q2:=L8.row_up HK2.out b1
  have B1:=L2.bch HB.out b1
  go_wp2_with (refine wpList_store_row rfl _ _ _ rfl (kp+1) #[.slice none 0 0,.slice none 0 0,.slice none 0 0] rfl rfl 26 _ q2 (by kernel_rfl) rfl (by simp [Value.oneCell']) ?_)
  obtain⟨z0,z1,z2⟩:=cells3 (setRow_heap _ _ _ #[.slice none 0 0,.slice none 0 0,.slice none 0 0] _ _ q2)
  exact bodyPost_ret (v:=.tuple #[.agg #[.slice none 0 0,.slice none 0 0,.slice none 0 0],.int .i64 (k:Int),.int .i64 er]) (by simp [results,Tryz.results22,go_sem,z0,z1,z2]) rfl ⟨.inl ⟨h0,rfl⟩,below_setRow B1 HKP.out _⟩
 subst h0
 have HJ1:=Lib.hid (HJ.out rfl)
 clear HJ
 have HRy:=Lib.hid ((HRs.out W HB.out).mono (fun e w' h=>show (∃ a c,e=.returned (.tuple #[.slice a n c,.int .i64 0,.int .i64 0])∧IsAt w' (.slice a n c) (rsL p))∧Below W.heap.size W w' from ⟨by rcases h.1 with ⟨h,_⟩|⟨_,h⟩;exact absurd rfl h;exact h,h.2⟩))
 clear HRs
 go_upto_region 4 with (go_at_call 24;((with_reducible refine (HRy.out).mono ?_);rintro e w1 ⟨⟨la,lc,rfl,hv1⟩,b1⟩))
 have HSA:=Lib.hid (show SQ w kp (kp+1) (.slice a1 n1 c1) (.slice a2 n c2) w1 from ⟨L2.bch HB.out b1,L8.row_up HK1.out b1,_,_,_,_,_,_,_,_,_,L8.row_up HK2.out b1⟩)
 have HV1:=Lib.hid (hv1.below (L8.bdN (Below.refl _ _) 1))
 clear x0 x1 l1 b1 hv1 HRy HB HK1 HK2
 refine wp_region_held_drew (S:=SQ w kp (kp+1) (.slice a1 n1 c1) (.slice a2 n c2)) (by kernel_rfl) (HSA.out.below (L8.bdN (Below.refl _ _) 1)) (fun hH=>?_)
 refine zT3 0 19 (.fieldAddr 53 (.tmp 1) 0) (.pointer (some ⟨kp,0,none⟩)) rfl hH ?_
 simp only [zz]
 refine zT1 1 20 (.load 22 (.tmp 19)) (.slice a1 n1 c1) rfl (fun wS hS=>by obtain⟨d0,d1⟩:=L10.cells2p hS.2.1;go_simp) hH ?_
 simp only [zz]
 refine zT0 2 21 (.move (.tmp 5)) (.slice la n lc) rfl hH ?_
 simp only [zz]
 refine zT1 4 23 (.load 53 (.tmp 1)) (.agg #[.slice a1 n1 c1,.slice a2 n c2]) rfl (fun wS hS=>by obtain⟨d0,d1⟩:=L10.cells2p hS.2.1;go_simp) hH ?_
 simp only [zz]
 refine wpAnyH_ready (rs:=[3]) (by kernel_rfl) (by simp) ?_
 refine AllReadyH.cons (o:=⟨some 22,.call ⟨.value (.func 26),#[.tmp 21],#[38]⟩,_,_,_,none⟩) rfl (fun K hK=>?_) AllReadyH.nil
 go_simp
 refine (HJ1.out _ _ HV1.out).mono ?_
 rintro e w3 ⟨u3,rfl,hc3,b3⟩
 have hc3c:=hc3
 obtain⟨ca,cc,hu3,-⟩:=hc3c
 obtain rfl:u3=.slice ca cl cc:=by rw [hu3,HL.out.1]
 refine hK.out _ _ (hH.below b3) (fun hH3=>?_)
 have HC3:=Lib.hid (L5.BsAt.v hc3)
 clear hK K hH b3 hu3 hc3 HV1 HJ1
 (try simp only [zz])
 refine wpAnyH_ready (rs:=[5]) (by kernel_rfl) (by simp) ?_
 refine AllReadyH.cons (o:=⟨some 24,.call ⟨.value (.func 43),#[.tmp 23],#[53]⟩,_,_,_,none⟩) rfl (fun K hK=>?_) AllReadyH.nil
 go_simp
 refine (HRf.out _ hH3.1).mono ?_
 rintro e w4 ⟨u4,rfl,hr4,b4⟩
 obtain⟨ra,rc,rfl⟩:=owns_slice hr4
 refine hK.out _ _ (hH3.below b4) (fun hH4=>?_)
 have HC4:=Lib.hid (HC3.out.below b4)
 have HR4:=Lib.hid hr4
 clear hK K hH3 hr4 b4 HC3 HRf
 (try simp only [zz])
 refine zT3 6 25 (.build 26 #[(0,.tmp 20),(1,.tmp 22),(2,.tmp 24)]) (.agg #[.slice a1 n1 c1,.slice ca cl cc,.slice ra rl rc]) rfl hH4 ?_
 simp only [zz]
 refine wpAnyH_ready (rs:=[7]) (by kernel_rfl) (by simp) ?_
 refine AllReadyH.cons (o:=⟨none,.store 26 (.tmp 2) (.tmp 25),_,_,_,none⟩) rfl (fun K hK=>?_) AllReadyH.nil
 rw [if_pos (by kernel_rfl)]
 obtain⟨q1,q2,r1,r2,r3,r4,r5,r6,r7,r8,r9,hrow⟩:=hH4
 refine wp_store_row 26 (.tmp 2) (.tmp 25) rfl (kp+1) #[.slice a1 n1 c1,.slice ca cl cc,.slice ra rl rc] rfl rfl 26 _ hrow (by kernel_rfl) rfl (by simp [Value.oneCell']) ?_
 have hset:=setRow_heap _ _ _ #[.slice a1 n1 c1,.slice ca cl cc,.slice ra rl rc] _ _ hrow
 have hBf:=below_setRow q1 HKP.out #[.slice a1 n1 c1,.slice ca cl cc,.slice ra rl rc]
 refine hK.out _ _ ⟨hBf,(setRow_other _ _ _ _ (by omega)).trans q2,_,_,_,_,_,_,_,_,_,hset⟩ (fun hH5=>?_)
 have hob:ObAt (w4.setRow (kp+1) #[.slice a1 n1 c1,.slice ca cl cc,.slice ra rl rc]) (.slice a1 n1 c1) (.slice ca cl cc) (.slice ra rl rc) (obV p):=by
  exact⟨HPm.out _ hBf,bs_set HC4.out hrow,rl_ro (own_rln HL.out.2 (own_set HR4.out hrow (by decide)))⟩
 have HOB:=Lib.hid hob
 have HSE:=Lib.hid hset
 clear hK K hrow hset hob hBf q1 q2
 (try simp only [Act.put])
 refine zT0 8 3 (.assign (.const (.int .i64 0))) (.int .i64 0) rfl hH5 ?_
 simp only [zz]
 refine zT0 9 4 (.assign (.const (.int .i64 0))) (.int .i64 0) rfl hH5 ?_
 simp only [zz]
 refine wpAnyH_done (by kernel_rfl) ?_ _
 go_wp2
 obtain⟨z0,z1,z2⟩:=cells3 HSE.out
 exact bodyPost_ret (v:=.tuple #[.agg #[.slice a1 n1 c1,.slice ca cl cc,.slice ra rl rc],.int .i64 0,.int .i64 0]) (by simp [results,Tryz.results22,go_sem,z0,z1,z2]) rfl ⟨.inr ⟨rfl,_,_,_,rfl,HOB.out⟩,hH5.1⟩
end Go.Proofs.YtihiggnglmhggaaGreatDoor.L13
end
section
namespace Go.Proofs.YtihiggnglmhggaaGreatDoor.L17
open Go.RowKit L3 L4 L12 L14
open L13 (Ob ObAt rsL)
open L16 (chE OA OS Tb tb_below)
attribute [local go_sem] Oper.semAt_some
theorem own_oa {B:Nat} {W:World} {vm vc vr:Value} {p:L10.Pg} (h:L13.ObOwn B W vm vc vr p):OA W vm vc vr (L13.obV p) :=
 ⟨L13.own_df rfl h.m,Rw.own (show W.ownsRow B 5 1 vc (L13.cdB p).length ((L13.cdB p).map eB) from h.c),L13.rl_ro (L13.own_rln rfl h.r)⟩
theorem ob_form {w:World} {vm vc vr:Value} {o:Ob} (h:ObAt w vm vc vr o):∃ a1 c1 a2 c2 a3 c3,vm=.slice a1 o.maps.length c1∧vc=.slice a2 o.code.length c2∧vr=.slice a3 o.rels.length c3:=by
 obtain⟨a1,c1,h1,-⟩:=L10.df_form rfl h.m
 obtain⟨a2,c2,h2,-⟩:=L13.bs_form rfl h.c
 obtain⟨a3,c3,h3,-⟩:=L13.ro_form rfl h.r
 exact⟨_,_,_,_,_,_,h1,h2,h3⟩
section
variable (vm vs:Value) (p:L10.Pg) (w:World) (hT:Tb w) (hp:L10.PgAt w vm vs p) (hf:L10.PgFit p) (hr:∀ s∈p.stmts,L10.TxRoom s.labs)
include hT hp hf hr
theorem programs_walk:Calls Tryz.prog 7 #[.agg #[vm,vs]] w fun e w'=>e=.returned (.bool true)∧Below w.heap.size w w':=by
 obtain⟨f1,hf1,F1⟩:=L10.few_ex vm vs p w hp hr
 have HTB:=Lib.hid (fun (W:World) (h:Below w.heap.size w W)=>tb_below hT h)
 have HA:=Lib.hid (fun (W:World) (h:Below w.heap.size w W)=>alive17 W (tb_below hT h))
 obtain⟨n1,hn1⟩:∃ n,p.maps.length=n:=⟨_,rfl⟩
 obtain⟨n2,hn2⟩:∃ n,p.stmts.length=n:=⟨_,rfl⟩
 obtain⟨a1,c1,rfl,-⟩:=L10.df_form hn1 hp.1
 obtain⟨a2,c2,rfl,-⟩:=L10.sm_form hn2 hp.2
 have HB:=Lib.hid (bnew w (.cells #[.slice a1 n1 c1,.slice a2 n2 c2] 53))
 have K0:=Lib.hid (heap_alloc_last w (.cells #[.slice a1 n1 c1,.slice a2 n2 c2] 53))
 have HF1:=Lib.hid F1
 cases f1
 ·clear hT hp hf hr hn1 hn2 hf1 F1
  go_enter Tryz.func7,Tryz.ntmps7
  go_wp2_with (first
   | (go_at_call 21;((with_reducible refine (HF1.out _ HB.out).mono ?_);rintro e w1 ⟨rfl,b1⟩))
   | (go_at_call 10;((with_reducible refine (HA.out _ (bch HB.out b1)).mono ?_);rintro e w2 ⟨rfl,b2⟩)))
  go_ret
  exact⟨rfl,bch (bch HB.out b1) b2⟩
 ·have hfew:=hf1 rfl
  have hft:=L10.fits_few hf hfew
  have hm:=hfew.2.1
  rw [hn2] at hm
  obtain⟨b,k,er,hbr⟩:∃ b k er,L10.brV p=(b,k,er):=⟨_,_,_,rfl⟩
  have HRa:=fun (X:World) (hX:Below w.heap.size w X)=>L13.rassemble_at (.slice a1 n1 c1) (.slice a2 n2 c2) p n2 X (hp.below hX) hf hfew hn2 b k er hbr
  by_cases he:er=0
  ·have hz:(L10.brV p).2.2=0:=by rw [hbr];exact he
   have hos:=L16.os_prog hz hft (by omega)
   have hv:=v_prog hz (by omega)
   have hin:=(code_prog hz (by omega)).1
   have HAs:=fun (X:World) (hX:Below w.heap.size w X)=>L13.assemble_at (.slice a1 n1 c1) (.slice a2 n2 c2) p n2 X (hp.below hX) hft hn2 (by omega) (tb_below hT hX) b k er hbr
   have HRs:=Lib.hid (fun (X:World) (hX:Below w.heap.size w X)=>(L13.rresolve_at (.slice a1 n1 c1) (.slice a2 n2 c2) p n2 X (hp.below hX) hf hfew hn2 b k er hbr).mono fun e w' h=>show (∃ a c,e=.returned (.tuple #[.slice a n2 c,.int .i64 0,.int .i64 0])∧IsAt w' (.slice a n2 c) (rsL p))∧Below X.heap.size X w' by
    obtain⟨h1,h2⟩:=h
    rcases h1 with ⟨h1,-⟩|⟨-,h3⟩
    ·exact absurd he h1
    ·exact⟨h3,h2⟩)
   have HR2:=Lib.hid (fun (X:World) (hX:Below w.heap.size w X)=>(HRa X hX).mono fun e w' h=>show (∃ u1 v1 u2 v2 u3 v3,e=.returned (.tuple #[.agg #[.slice u1 (L13.obV p).maps.length v1,.slice u2 (L13.obV p).code.length v2,.slice u3 (L13.obV p).rels.length v3],.int .i64 0,.int .i64 0]))∧Below X.heap.size X w' by
    obtain⟨h1,h2⟩:=h
    rcases h1 with ⟨h1,-⟩|⟨-,vm,vc,vr,rfl,h4⟩
    ·exact absurd he h1
    ·obtain⟨u1,v1,u2,v2,u3,v3,rfl,rfl,rfl⟩:=ob_form h4
     exact⟨⟨_,_,_,_,_,_,rfl⟩,h2⟩)
   have HA2:=Lib.hid (fun (X:World) (hX:Below w.heap.size w X)=>(HAs X hX).mono fun e w' h=>show (∃ u1 v1 u2 v2 u3 v3,e=.returned (.tuple #[.agg #[.slice u1 (L13.obV p).maps.length v1,.slice u2 (L13.obV p).code.length v2,.slice u3 (L13.obV p).rels.length v3],.int .i64 0,.int .i64 0])∧OA w' (.slice u1 (L13.obV p).maps.length v1) (.slice u2 (L13.obV p).code.length v2) (.slice u3 (L13.obV p).rels.length v3) (L13.obV p))∧Below X.heap.size X w' by
    obtain⟨h1,h2⟩:=h
    rcases h1 with ⟨h1,-⟩|⟨-,vm,vc,vr,rfl,h4⟩
    ·exact absurd he h1
    ·have h5:=own_oa h4
     obtain⟨u1,v1,u2,v2,u3,v3,rfl,rfl,rfl⟩:=oa_form h5
     exact⟨⟨_,_,_,_,_,_,rfl,h5⟩,h2⟩)
   have hrl:(rsL p).length=n2:=by rw [L13.rsL_len,hn2]
   have hcd:(L13.obV p).code=L13.cdB p:=rfl
   rw [← hcd] at hin
   clear HRa HAs hcd
   generalize L13.obV p=o at hos hv hin HR2 HA2
   have HV:=Lib.hid (fun (W:World) (vm vc vr:Value) (h:OA W vm vc vr o) (ht:Tb W)=>vcheck_at vm vc vr o 0 0 W h hos ht hv)
   have HCd:=Lib.hid (fun (W:World) (vm vc vr:Value) (h:OA W vm vc vr o) (ht:Tb W)=>(by have:=vcode_yes vm vc vr o 0 n2 W h hos ht hv (by rw [hin];exact hrl);rw [hin] at this;exact this:Calls Tryz.prog 15 #[.agg #[vm,vc,vr]] W fun e w'=>(∃ a c,e=.returned (.tuple #[.slice a n2 c,.int .i64 0])∧IsAt w' (.slice a n2 c) (rsL p))∧Below W.heap.size W w'))
   have HSa:=Lib.hid (fun (W:World) (v v':Value) (h:IsAt W v (rsL p)) (h':IsAt W v' (rsL p))=>isame12_at v v' (rsL p) W (by rw [hrl];omega) h h')
   clear hT hp hf hr hn1 hn2 hf1 F1 hfew hft hm hbr he hz hos hv hin hrl
   generalize o.maps.length=m1 at *
   generalize o.code.length=m2 at *
   generalize o.rels.length=m3 at *
   go_enter Tryz.func7,Tryz.ntmps7
   go_upto_region 3 with (go_at_call 21;((with_reducible refine (HF1.out _ HB.out).mono ?_);rintro e w1 ⟨rfl,b1⟩;have B1:=bch HB.out b1;have r1:=L8.row_up K0.out b1;obtain⟨x0,x1⟩:=L10.cells2p r1;have lx:=lt_of_block r1))
   go_upto_region 4 with (go_at_call 22;((with_reducible refine (HR2.out _ B1).mono ?_);rintro e w2 ⟨⟨d1,e1,d2,e2,d3,e3,rfl⟩,b2⟩))
   have B2:=bch (bch B1 b2) (bnew w2 (.cells #[.slice d1 m1 e1,.slice d2 m2 e2,.slice d3 m3 e3] 26))
   have r2:=L8.row_up (L8.row_up r1 b2) (bnew w2 (.cells #[.slice d1 m1 e1,.slice d2 m2 e2,.slice d3 m3 e3] 26))
   obtain⟨q2,hq2⟩:∃ q,w2.heap.size=q:=⟨_,rfl⟩
   rw [hq2]
   clear hq2 b2 x0 x1 lx r1 B1 b1
   generalize w2.alloc (.cells _ 26)=W2 at B2 r2 ⊢
   obtain⟨x0,x1⟩:=L10.cells2p r2
   have lx:=lt_of_block r2
   go_upto_region 7 with (go_at_call 23;((with_reducible refine (HA2.out _ B2).mono ?_);rintro e w3 ⟨⟨g1,f1,g2,f2,g3,f3,rfl,ho⟩,b3⟩))
   have k3:=heap_alloc_last w3 (.cells #[.slice g1 m1 f1,.slice g2 m2 f2,.slice g3 m3 f3] 26)
   have p3:=ho.below (bnew w3 (.cells #[.slice g1 m1 f1,.slice g2 m2 f2,.slice g3 m3 f3] 26))
   have B3:=bch (bch B2 b3) (bnew w3 (.cells #[.slice g1 m1 f1,.slice g2 m2 f2,.slice g3 m3 f3] 26))
   have r3:=L8.row_up (L8.row_up r2 b3) (bnew w3 (.cells #[.slice g1 m1 f1,.slice g2 m2 f2,.slice g3 m3 f3] 26))
   obtain⟨q3,hq3⟩:∃ q,w3.heap.size=q:=⟨_,rfl⟩
   rw [hq3] at k3 ⊢
   clear hq3 ho b3 x0 x1 lx r2 B2
   generalize w3.alloc (.cells _ 26)=W3 at k3 p3 B3 r3 ⊢
   have HK3:=Lib.hid k3
   have HR3:=Lib.hid r3
   have HP3:=Lib.hid p3
   have HB3:=Lib.hid B3
   obtain⟨x0,x1,x2⟩:=L13.cells3 k3
   have lx:=lt_of_block k3
   clear k3 r3 p3 B3
   go_wp2_with (first
    | (go_at_call 11;((with_reducible refine (HV.out _ _ _ _ HP3.out (HTB.out _ HB3.out)).mono ?_);rintro e w4 ⟨rfl,b4⟩;have B4:=bch HB3.out b4;obtain⟨y0,y1,y2⟩:=L13.cells3 (L8.row_up HK3.out b4);have p4:=HP3.out.below b4))
    | (go_at_call 15;((with_reducible refine (HCd.out _ _ _ _ p4 (HTB.out _ B4)).mono ?_);rintro e w5 ⟨⟨ma,mc,rfl,i5⟩,b5⟩;have B5:=bch B4 b5;obtain⟨z0,z1⟩:=L10.cells2p (L8.row_up HR3.out (bch b4 b5))))
    | (go_at_call 24;((with_reducible refine (HRs.out _ B5).mono ?_);rintro e w6 ⟨⟨na,nc,rfl,j6⟩,b6⟩;have B6:=bch B5 b6;have i6:=i5.below b6))
    | (go_at_call 10;((with_reducible refine (HA.out _ B6).mono ?_);rintro e w7 ⟨rfl,b7⟩;have B7:=bch B6 b7;have i7:=i6.below b7;have j7:=j6.below b7))
    | (go_at_call 17;((with_reducible refine (HSa.out _ _ _ i7 j7).mono ?_);rintro e w8 ⟨rfl,b8⟩)))
   go_ret
   exact⟨rfl,bch B7 b8⟩
  ·have HR2:=Lib.hid (fun (X:World) (hX:Below w.heap.size w X)=>(HRa X hX).mono fun e w' h=>show e=.returned (.tuple #[.agg #[.slice none 0 0,.slice none 0 0,.slice none 0 0],.int .i64 (k:Int),.int .i64 er])∧Below X.heap.size X w' by
    obtain⟨⟨-,h1⟩|⟨h1,-⟩,h2⟩:=h
    ·exact⟨h1,h2⟩
    ·exact absurd h1 he)
   have he':(er != 0)=true:=by simpa using he
   clear HRa hT hp hf hr hn1 hn2 hf1 F1 hfew hft hm hbr he
   go_enter Tryz.func7,Tryz.ntmps7
   go_upto_region 3 with (go_at_call 21;((with_reducible refine (HF1.out _ HB.out).mono ?_);rintro e w1 ⟨rfl,b1⟩;have B1:=bch HB.out b1;have r1:=L8.row_up K0.out b1;obtain⟨x0,x1⟩:=L10.cells2p r1;have lx:=lt_of_block r1))
   go_wp2_with (first
    | (go_at_call 22;((with_reducible refine (HR2.out _ B1).mono ?_);rintro e w2 ⟨rfl,b2⟩))
    | (go_at_call 10;((with_reducible refine (HA.out _ (bch (bch B1 b2) (bnew _ _))).mono ?_);rintro e w3 ⟨rfl,b3⟩)))
   go_ret
   exact⟨rfl,bch (bch (bch B1 b2) (bnew _ _)) b3⟩
end
end Go.Proofs.YtihiggnglmhggaaGreatDoor.L17
end
end
