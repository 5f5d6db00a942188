/- Lemmas and walks of L14Bd, L14Ps, L14Pr, L14Lw, L14Op: what each theorem states; conditions stand in each theorem. -/
import Derived.Test.YtohkgdfkklfgmaaGreatDoorM41
import Derived.Lib.BufferWrite
import Derived.Laws.CopyOwn
import Derived.Deep.OwnRows
import Derived.Test.YtohkgdfkklfgmaaGreatDoorM40
import Derived.WideShapes
import Derived.SliceStrings
import Derived.ChangeSlices
import Derived.SizedLaws
section
set_option maxRecDepth 100000
set_option maxHeartbeats 4000000
namespace Go.Proofs.YtohkgdfkklfgmaaGreatDoor.L14
set_option maxRecDepth 100000
open Go.RowKit
attribute [local go_sem] Oper.semAt_some
theorem wpList_copy_str {P:Program} {w:World} {ops:Array Oper} {rest:List Oper} {o:Oper} {a:Act} {Q:Exit→Act→World→Prop} (hgd:o.guard=none) (d s:Operand) (dT sT:TypeId)
  (ho:o.op=.call { callee:=.builtin .copy,args:=#[d,s],argTypes:=#[dT,sT] }) (elem:TypeId) (hu:P.underlying dT=some (.slice elem)) (hsz:(P.info? elem).map (·.size)=some 1)
  (g off dLen dCap:Nat) (S:ByteArray) (hd:a.eval d=.slice (some ⟨g,off,none⟩) dLen dCap) (hs:a.eval s=.string S)
  (cur:Array Value) (t:TypeId) (hg:w.heap[g]?=some (.cells cur t (0,0))) (hle:S.size≤dLen) (hfit:off+S.size≤cur.size)
  (h:∀ w',w'=w.setRow g (cur.toList.take off++Lib.byteCells S.data.toList++cur.toList.drop (off+S.size)).toArray→wpList P ops Q rest (a.put o.dst (goInt S.size)) w'):wpList P ops Q (o::rest) a w:=by
 refine wpList_plain hgd fun K hK=>?_
 have hrun:=Lib.run_copy_row_string (P:=P) w dT sT o.type elem g off dLen dCap S cur t hu hsz hg hle hfit
 unfold Oper.wp
 simp [execOp,ho,resolve,invoke,builtin,hd,hs,hrun,Result.andThen]
 exact hK _ _ (h _ (by simp))
def rowZ {α:Type} (enc:α→Value) (z:Value) (xs:List α) (N:Nat):Array Value:=(xs.map enc++List.replicate (N-xs.length) z).toArray
theorem rowZ_size {α:Type} (enc:α→Value) (z:Value) (xs:List α) (N:Nat) (h:xs.length≤N):(rowZ enc z xs N).size=N:=by
 simp [rowZ];omega
theorem rowZ_made {α:Type} (enc:α→Value) (z:Value) (N:Nat):madeCells #[z] N=rowZ enc z [] N:=by
 apply Array.ext
 ·simp [size_madeCells,rowZ]
 ·intro i h1 h2
  simp [madeCells,rowZ,Nat.mod_one]
theorem rowZ_zero {α:Type} (enc:α→Value) (z:Value) (xs:List α) (x:α) (N:Nat) (hx:enc x=z) (h:xs.length<N):rowZ enc z xs N=rowZ enc z (xs++[x]) N:=by
 unfold rowZ
 obtain⟨m,hm⟩:∃ m,N-xs.length=m+1:=⟨N-xs.length-1,by omega⟩
 rw [hm,List.length_append,List.length_cons,List.length_nil,show N-(xs.length+(0+1))=m by omega,List.replicate_succ,List.map_append,List.map_cons,List.map_nil,hx]
 simp
theorem rowZ_set {α:Type} (enc:α→Value) (z:Value) (xs:List α) (x:α) (N:Nat) (h:xs.length<N):(rowZ enc z xs N).setIfInBounds xs.length (enc x)=rowZ enc z (xs++[x]) N:=by
 unfold rowZ
 rw [List.setIfInBounds_toArray]
 congr 1
 rw [List.set_append_right _ _ (by simp)]
 simp only [List.length_map,Nat.sub_self,List.map_append,List.map_cons,List.map_nil,List.length_append,List.length_cons,List.length_nil]
 obtain⟨m,hm⟩:∃ m,N-xs.length=m+1:=⟨N-xs.length-1,by omega⟩
 rw [hm,List.replicate_succ,List.set_cons_zero,show N-(xs.length+(0+1))=m by omega]
 simp
theorem rowZ_copy {α:Type} (enc:α→Value) (z:Value) (xs ys:List α) (N:Nat) (h:xs.length+ys.length≤N) :
  ((rowZ enc z xs N).toList.take xs.length++ys.map enc++(rowZ enc z xs N).toList.drop (xs.length+ys.length)).toArray=rowZ enc z (xs++ys) N:=by
 unfold rowZ
 congr 1
 rw [List.take_append_of_le_length (by simp),List.take_of_length_le (by simp),List.drop_append,List.drop_eq_nil_of_le (by simp),List.nil_append,List.length_map,List.drop_replicate,List.map_append,List.length_append]
 congr 2
 omega
theorem rowZ_at {α:Type} (enc:α→Value) (z:Value) (xs:List α) (N j:Nat) (h:j<xs.length):(rowZ enc z xs N)[j]?=some (enc xs[j]):=by
 unfold rowZ
 rw [List.getElem?_toArray,List.getElem?_append_left (by simpa using h)]
 simp [h]
theorem rowZ_next {α:Type} (enc:α→Value) (z:Value) (xs:List α) (N:Nat) (h:xs.length<N):(rowZ enc z xs N)[xs.length]?=some z:=by
 unfold rowZ
 rw [List.getElem?_toArray,List.getElem?_append_right (by simp),List.length_map,Nat.sub_self,List.getElem?_replicate,if_pos (by omega)]
theorem Rw.rowZ {α:Type} {enc:α→Value} {z:Value} {w:World} {g N:Nat} {t:TypeId} {xs:List α} (hg:w.heap[g]?=some (.cells (rowZ enc z xs N) t (0,0))) (hN:xs.length=N):Rw enc w (.slice (some ⟨g,0,none⟩) N N) xs:=by
 subst hN
 refine⟨_,_,rfl,Nat.le_refl _,fun e=>(by cases e),fun _=>⟨g,0,rfl,lt_of_block hg,fun j hj=>?_⟩⟩
 rw [Nat.zero_add,← rowZ_at enc z xs xs.length j hj]
 unfold World.cell?
 simp only [hg]
 rfl
theorem cells_set {w:World} {b k:Nat} {cs:Array Value} {v:Value} {t:TypeId} {fr:Nat × Nat} (h:w.heap[b]?=some (.cells cs t fr)):(w.setCell ⟨b,k,none⟩ v).heap[b]?=some (.cells (cs.setIfInBounds k v) t fr):=by
 have hlt:=lt_of_block h
 have h':w.heap[b]=.cells cs t fr:=by simpa [Array.getElem?_eq_getElem hlt] using h
 show (w.heap.modify b _)[b]?=_
 rw [Array.getElem?_eq_getElem (by simpa using hlt),Array.getElem_modify_self,h']
 rfl
theorem cell_in {w:World} {b k:Nat} {cs:Array Value} {t:TypeId} (h:w.heap[b]?=some (.cells cs t (0,0))):w.cell? ⟨b,k,none⟩=cs[k]?∧w.frozen? ⟨b,k,none⟩=false:=by
 simp [World.cell?,World.frozen?,h]
def BuP (l:List (List UInt8)) (e:Ending) (w':World):Prop :=
 ((∃ t∈l,rt t=false)∧e=.returned (.tuple #[.slice none 0 0,.slice none 0 0,.int .i64 7])) ∨
  ((∀ t∈l,rt t=true)∧∃ a1 c1 a2 c2,e=.returned (.tuple #[.slice a1 (tb l).length c1,.slice a2 l.length c2,.int .i64 0])∧Rw eB w' (.slice a1 (tb l).length c1) (tb l)∧Rw eN w' (.slice a2 l.length c2) (ofs 1 l))
theorem build_at (v:Value) (l:List (List UInt8)) (w:World) (h:Rw eT w v l) (hl:l.length≤10000) (ht:tot l≤100000) :
  Calls Tryz.prog 55 #[v] w fun e w'=>BuP l e w'∧Below w.heap.size w w':=by
 obtain⟨ii,hi,hz0,hz1,hz2⟩:=info_parts infoInt
 obtain⟨ib,ki,kz0,kz1,kz2⟩:=info_parts infoByte
 obtain⟨n,hn⟩:∃ n,l.length=n:=⟨_,rfl⟩
 obtain⟨a,c,rfl,-,-,hc⟩:=h.form hn
 rw [hn] at hl
 have HN:=Lib.hid hn
 have HC:=Lib.hid hc
 have HT:=Lib.hid ht
 clear hn hc h ht
 go_enter Tryz.func55,Tryz.ntmps55
 go_wp2
 go_loop [5,7,15] (fun z _ i=>∃ k:Nat,k≤n∧i=.int .i64 (k:Int)∧z=.int .i64 ((1+tot (l.take k)+k:Nat):Int)∧Hid (∀ t∈l.take k,rt t=true)) (fun _ _ i=>n-(intOf i).toNat)
 case atStart=>exact⟨0,Nat.zero_le _,rfl,by simp [tot],Lib.hid (by simp)⟩
 case round =>
  obtain⟨k,hk,rfl,rfl,hR⟩:=hrel
  by_cases hlt:k<n
  ·have hkl:k<l.length:=by rw [HN.out];exact hlt
   obtain⟨bb,o,rfl,hbb,hcc⟩:=HC.out (by omega)
   have hx:=hcc k hkl
   unfold eT at hx
   have hTs:=mkB_size l[k]
   have hst:=tot_step l k hkl
   have hto:=tot_le l (k+1)
   have ht:=HT.out
   have hsn:=take_snoc l k hkl
   have hlt':(k:Int)<(n:Int):=by omega
   by_cases hr:rt l[k]=true
   ·obtain⟨hne,hzz⟩:=rt_iff.1 hr
    have HSC:=Lib.hid (fun w=>scont_at l[k] (mkB l[k]) rfl false (by rw [fz_none.2 hzz];rfl) w)
    have hR2:∀ t∈l.take (k+1),rt t=true:=by
     rw [hsn]
     intro t htm
     rcases List.mem_append.1 htm with h|h
     ·exact hR.out t h
     ·rw [List.mem_singleton.1 h];exact hr
    have HR2:=Lib.hid hR2
    have hte:(mkB l[k]).toList.isEmpty=false:=by
     rw [Lib.toList_data,mkB_list]
     cases h:l[k] with
     | nil=>exact absurd h hne
     | cons _ _=>rfl
    have hz2':((1+tot (l.take (k+1))+(k+1):Nat):Int)=((1+tot (l.take k)+k:Nat):Int)+(((mkB l[k]).size:Int)+1):=by rw [hst,hTs];omega
    have HZ:=Lib.hid hz2'
    obtain⟨T,hT⟩:∃ T,mkB l[k]=T:=⟨_,rfl⟩
    have hbd:1+tot (l.take k)+k+T.size≤200000:=by rw [← hT,hTs];omega
    rw [hT] at hx HSC hte HZ
    obtain⟨z,hz⟩:∃ z,1+tot (l.take k)+k=z:=⟨_,rfl⟩
    rw [hz] at hbd HZ ⊢
    clear hcc hTs hst hto ht hsn hr hR hR2 hz2' hT hne hzz hz
    go_wp2_with (go_at_call 95;((with_reducible refine (HSC.out _).mono ?_);rintro e w1 ⟨rfl,rfl⟩))
    go_round
    case rel=>exact⟨k+1,by omega,by go_num,by rw [HZ.out],HR2⟩
    case measure=>simp [intOf];omega
   ·have hrf:rt l[k]=false:=by simpa using hr
    have HB:=Lib.hid (show ∃ t∈l,rt t=false from ⟨l[k],List.getElem_mem hkl,hrf⟩)
    by_cases hne:l[k]=[]
    ·have hx2:w.cell? ⟨bb,o+k,none⟩=some (.string ⟨#[]⟩):=by rw [hx,hne];rfl
     clear hcc hTs hst hto ht hsn hr hR hrf hne hx
     go_wp2
     refine bodyPost_ret (v:=.tuple #[.slice none 0 0,.slice none 0 0,.int .i64 7]) (by simp [results,Tryz.results55,go_sem]) rfl ⟨.inl ⟨HB.out,rfl⟩,Below.refl _ _⟩
    ·have hzz:(fz l[k]).isSome=true:=by
      unfold rt at hrf
      have:l[k].isEmpty=false:=by simpa using hne
      rw [this] at hrf
      cases hf:fz l[k] with
      | none=>rw [hf] at hrf;cases hrf
      | some _=>rfl
     have HSC:=Lib.hid (fun w=>scont_at l[k] (mkB l[k]) rfl true hzz w)
     have hte:(mkB l[k]).toList.isEmpty=false:=by
      rw [Lib.toList_data,mkB_list]
      cases h:l[k] with
      | nil=>exact absurd h hne
      | cons _ _=>rfl
     obtain⟨T,hT⟩:∃ T,mkB l[k]=T:=⟨_,rfl⟩
     rw [hT] at hx HSC hte
     clear hcc hTs hst hto ht hsn hr hR hrf hne hT hzz
     go_wp2_with (go_at_call 95;((with_reducible refine (HSC.out _).mono ?_);rintro e w1 ⟨rfl,rfl⟩))
     refine bodyPost_ret (v:=.tuple #[.slice none 0 0,.slice none 0 0,.int .i64 7]) (by simp [results,Tryz.results55,go_sem]) rfl ⟨.inl ⟨HB.out,rfl⟩,Below.refl _ _⟩
  ·obtain rfl:k=n:=by omega
   have e:l.take k=l:=List.take_of_length_le (by rw [HN.out];exact Nat.le_refl _)
   rw [e] at hR
   have hNN:1+tot (l.take k)+k=(tb l).length:=by rw [e,tb_len,HN.out]
   have htl:=tb_len l
   have ht:=HT.out
   rw [HN.out] at htl
   rw [hNN]
   obtain⟨N,hN⟩:∃ N,(tb l).length=N:=⟨_,rfl⟩
   rw [hN] at htl ⊢
   have HNN:=Lib.hid hN
   have HTL:=Lib.hid htl
   have hN1:N≤200000:=by omega
   clear e hNN htl ht hN
   go_wp2_with (first
    | (at_make;refine wpList_make_row _ rfl _ _ 23 rfl 5 ib (.int .u8 0) Tryz.underlying23 ki kz0 kz1 rfl .i64 .i64 N rfl rfl (by rw [kz2];omega) (by omega) ?_)
    | (at_make;refine wpList_make_row _ rfl _ _ 70 rfl 3 ii (.int .i64 0) Tryz.underlying70 hi hz0 hz1 rfl .i64 .i64 k rfl rfl (by rw [hz2];omega) (by omega) ?_))
   rw [rowZ_made eB,rowZ_made eN]
   have hsz8:(Tryz.prog.info? 5).map (·.size)=some 1:=by rw [ki];simp [kz1]
   go_loopw [10,11,12,38] (fun off _ _ j wr=>∃ q L:Nat,q≤k∧j=.int .i64 (q:Int)∧off=.int .i64 (L:Int)∧Hid ((tb (l.take q)).length=L)∧wr.heap[w.heap.size]?=some (.cells (rowZ eB (.int .u8 0) (tb (l.take q)) N) 5 (0,0))∧wr.heap[w.heap.size+1]?=some (.cells (rowZ eN (.int .i64 0) (ofs 1 (l.take q)) k) 3 (0,0))∧Below w.heap.size w wr) (fun _ _ _ j _=>k-(intOf j).toNat)
   case atStart =>
    refine⟨0,1,Nat.zero_le _,rfl,rfl,Lib.hid (by simp [tb,bd]),?_,?_,bch (bnew _ _) (bnew _ _)⟩
    ·have h1:=((bnew (w.alloc (.cells (rowZ eB (.int .u8 0) [] N) 5)) (.cells (rowZ eN (.int .i64 0) [] k) 3)).block w.heap.size (by simp)).trans (heap_alloc_new w (.cells (rowZ eB (.int .u8 0) [] N) 5))
     rw [h1,rowZ_zero eB (.int .u8 0) [] 0 N rfl (by rw [HTL.out];simp;omega)]
     simp [tb,bd]
    ·have h1:=heap_alloc_new (w.alloc (.cells (rowZ eB (.int .u8 0) [] N) 5)) (.cells (rowZ eN (.int .i64 0) [] k) 3)
     simp only [World.size_alloc] at h1
     rw [h1];simp [ofs]
   case round =>
    obtain⟨q,L,hq,rfl,rfl,hL,hG0,hG1,hBw⟩:=hrel
    have hsz:=hBw.size
    by_cases hlt2:q<k
    ·have hkl:q<l.length:=by rw [HN.out];exact hlt2
     obtain⟨bb,o,rfl,hbb,hcc⟩:=HC.out (by omega)
     have hx0:=hcc q hkl
     unfold eT at hx0
     have hTs:=mkB_size l[q]
     have hst:=tot_step l q hkl
     have hto:=tot_le l (q+1)
     have hLo:=hL.out
     rw [tb_len,List.length_take,HN.out,Nat.min_eq_left hq] at hLo
     have htl:=HTL.out
     have hsn:=take_snoc l q hkl
     have htb:=tb_snoc (l.take q) l[q]
     have hof:=ofs_snoc (l.take q) 1 l[q]
     rw [← hsn] at htb hof
     have hbl:1+(bd (l.take q)).length=L:=by rw [← hL.out,tb,List.length_cons];omega
     rw [hbl] at hof
     have hol:(ofs 1 (l.take q)).length=q:=by rw [ofs_len,List.length_take,HN.out];omega
     have hLN:L+l[q].length+1≤N:=by omega
     have hX:((rowZ eB (.int .u8 0) (tb (l.take q)) N).toList.take L++Lib.byteCells (mkB l[q]).data.toList++(rowZ eB (.int .u8 0) (tb (l.take q)) N).toList.drop (L+(mkB l[q]).size)).toArray=rowZ eB (.int .u8 0) (tb (l.take (q+1))) N:=by
      have h1:=rowZ_copy eB (.int .u8 0) (tb (l.take q)) l[q] N (by rw [hL.out];omega)
      rw [hL.out] at h1
      rw [mkB_list,hTs,htb,← rowZ_zero eB (.int .u8 0) (tb (l.take q)++l[q]) 0 N rfl (by rw [List.length_append,hL.out];omega),← h1]
      rfl
     have hO:(rowZ eN (.int .i64 0) (ofs 1 (l.take q)) k).setIfInBounds q (.int .i64 (L:Int))=rowZ eN (.int .i64 0) (ofs 1 (l.take (q+1))) k:=by
      have h1:=rowZ_set eN (.int .i64 0) (ofs 1 (l.take q)) L k (by rw [hol];exact hlt2)
      rw [hol] at h1
      rw [h1,hof]
     have hLen2:(tb (l.take (q+1))).length=L+((mkB l[q]).size+1):=by
      rw [htb,List.length_append,List.length_append,hL.out,hTs];rfl
     have hrs:=rowZ_size eB (.int .u8 0) (tb (l.take q)) N (by rw [hL.out];omega)
     obtain⟨cB,fB⟩:=cell_in (k:=q) hG1
     have hnx:=rowZ_next eN (.int .i64 0) (ofs 1 (l.take q)) k (by rw [hol];exact hlt2)
     rw [hol] at hnx
     rw [hnx] at cB
     have hx:wr.cell? ⟨bb,o+q,none⟩=some (.string (mkB l[q])):=(hBw.cell (by exact hbb)).trans hx0
     obtain⟨T,hT⟩:∃ T,mkB l[q]=T:=⟨_,rfl⟩
     rw [hT] at hx hX hLen2 hTs
     rw [← hTs] at hLN
     have hs:∀ W,(Instr.slice 23 (.slice (some ⟨w.heap.size,0,none⟩) N N) (some (.int .i64 (L:Int))) none none).run Tryz.prog W=.ok (.slice (some ⟨w.heap.size,L,none⟩) (N-L) (N-L)) W:=fun W=>by
      rw [run_from und8 size8 _ N N L (by omega) (Nat.le_refl _) W,if_neg (by omega)]
      simp [add0]
     have hG0':(wr.setCell ⟨w.heap.size+1,q,none⟩ (.int .i64 (L:Int))).heap[w.heap.size]?=some (.cells (rowZ eB (.int .u8 0) (tb (l.take q)) N) 5 (0,0)):=(Below.heap_setCell _ _ _ _ (by simp)).trans hG0
     have hG1':(wr.setCell ⟨w.heap.size+1,q,none⟩ (.int .i64 (L:Int))).heap[w.heap.size+1]?=some (.cells (rowZ eN (.int .i64 0) (ofs 1 (l.take (q+1))) k) 3 (0,0)):=by rw [← hO];exact cells_set hG1
     have hB1:=hBw.setCell (p:=⟨w.heap.size+1,q,none⟩) (Nat.le_succ _) (.int .i64 (L:Int))
     have HG:=Lib.hid (And.intro hG0' (And.intro hG1' hB1))
     have HX:=Lib.hid hX
     have H2:=Lib.hid hLen2
     have hlt2':(q:Int)<(k:Int):=by omega
     have HRS:=Lib.hid hrs
     obtain⟨cur,hcur⟩:∃ cur,rowZ eB (.int .u8 0) (tb (l.take q)) N=cur:=⟨_,rfl⟩
     rw [hcur] at HG HX HRS
     clear hcc hx0 hTs hst hto hLo htl hsn htb hof hbl hol hX hO hLen2 hrs hnx hT hG0' hG1' hB1 hcur hL hG0 hG1
     go_wp2_with (with_reducible refine wpList_copy_str rfl _ _ 23 9 rfl 5 Tryz.underlying23 hsz8 w.heap.size L (N-L) (N-L) T rfl rfl cur 5 HG.out.1 (by omega) (by rw [HRS.out];omega) ?_;intro w2 hw2;have H3:=Lib.hid hw2;clear hw2)
     have h0:w2.heap[w.heap.size]?=some (.cells (rowZ eB (.int .u8 0) (tb (l.take (q+1))) N) 5 (0,0)):=by
      rw [H3.out,HX.out]
      exact setRow_heap _ _ cur _ _ _ HG.out.1
     have h1:w2.heap[w.heap.size+1]?=some (.cells (rowZ eN (.int .i64 0) (ofs 1 (l.take (q+1))) k) 3 (0,0)):=by
      rw [H3.out]
      exact (setRow_other _ _ _ _ (by omega)).trans HG.out.2.1
     have h2:Below w.heap.size w w2:=by
      rw [H3.out]
      exact below_setRow HG.out.2.2 (Nat.le_refl _) _
     exact⟨⟨q+1,L+(T.size+1),by omega,by go_num,by go_num,H2,h0,h1,h2⟩,by simp [intOf];omega⟩
    ·obtain rfl:q=k:=by omega
     have e:l.take q=l:=List.take_of_length_le (by rw [HN.out];exact Nat.le_refl _)
     rw [e] at hG0 hG1
     have HB:=Lib.hid (Rw.rowZ hG0 HNN.out)
     have HO:=Lib.hid (Rw.rowZ hG1 (by rw [ofs_len,HN.out]))
     clear e hG0 hG1 hL
     go_wp2
     refine bodyPost_ret (v:=.tuple #[.slice (some ⟨w.heap.size,0,none⟩) N N,.slice (some ⟨w.heap.size+1,0,none⟩) q q,.int .i64 0]) (by simp [results,Tryz.results55,go_sem]) rfl ⟨.inr ⟨hR.out,some ⟨w.heap.size,0,none⟩,N,some ⟨w.heap.size+1,0,none⟩,q,by rw [HNN.out,HN.out],by rw [HNN.out];exact HB.out,by rw [HN.out];exact HO.out⟩,hBw⟩
end Go.Proofs.YtohkgdfkklfgmaaGreatDoor.L14
end
section
set_option maxRecDepth 100000
set_option maxHeartbeats 4000000
namespace Go.Proofs.YtohkgdfkklfgmaaGreatDoor.L14
set_option maxRecDepth 100000
open Go.RowKit Go.Shelf
attribute [local go_sem] Oper.semAt_some
theorem box_step {W w1:World} {B C:Nat} {s e:TypeId} {v u:Value} {n₀ k sz:Nat} {xs:List Value} {tmp:Obj} (c:Boxed W C s u) (hs:s≠e) (hrow:W.ownsRow n₀ e sz v k xs) (hgrow:(W.alloc tmp).grownBy w1 v.ownBlock) (hne:C≠B) (v':Value):Boxed (w1.setCell ⟨B,0,none⟩ v') C s u :=
 ((c.alloc tmp).kept hgrow (c.not_row hs hrow)).other hne v'
theorem row_step {W w1:World} {B n₁ n₂ k q:Nat} {t e e':TypeId} {v vA v0:Value} {xs ys:List Value} {tmp:Obj} (hA:W.ownsRow n₁ e' 1 vA q ys) (hrow:W.ownsRow n₂ e 1 v k xs) (he:e'≠e) (hgrow:(W.alloc tmp).grownBy w1 v.ownBlock) (hv:Boxed w1 B t v0) (ht:t≠e') (v':Value):(w1.setCell ⟨B,0,none⟩ v').ownsRow n₁ e' 1 vA q ys:=by
 have h:=own_two (hA.alloc tmp) (hrow.alloc tmp) he hgrow
 exact h.kept (grownBy_setCell' w1 B v') (.inr (hv.not_row ht h).symm)
def PaI (w:World) (g:Nat) {l:List UInt8} (pre:List (Pt l)) (W:World):Prop :=
 ((Boxed W g 65 (.slice none 0 0)∧Boxed W (g+1) 70 (.slice none 0 0)∧Boxed W (g+1+1) 29 (.int .i64 0))∧(∀ x∈pre,x.1.t≠[])) ∧
  (∃ v,Boxed W (g+1+1+1) 65 v∧W.ownsRow w.heap.size 9 1 v pre.length (pre.map fun x=>eT x.1.t)∧True) ∧
  (∃ v,Boxed W (g+1+1+1+1) 70 v∧W.ownsRow w.heap.size 3 1 v pre.length (pre.map fun x=>eN (1+x.1.at'))∧True)∧Below w.heap.size w W
def PaX (w:World) (g:Nat) {l:List UInt8} (c:Code) (pre:List (Pt l)) (W:World):Prop :=
 ((c=.ret∧∃ x∈pre,x.1.t=[])∧Boxed W g 65 (.slice none 0 0)∧Boxed W (g+1) 70 (.slice none 0 0)∧Boxed W (g+1+1) 29 (.int .i64 19))∧Below w.heap.size w W
theorem paI_own (w:World) (l:List UInt8) (B:Nat) (hB:w.heap.size≤B):OwnFrom B (PaI w w.heap.size (l:=l)) :=
 OwnFrom.and (OwnFrom.and (OwnFrom.and (Own.from (boxed_own _ _ _) _) (OwnFrom.and (Own.from (boxed_own _ _ _) _) (Own.from (boxed_own _ _ _) _))) (ownFrom_pure _ _))
  (OwnFrom.and (Own.from (holdsRow_own _ _ _ _ _ (fun pre:List (Pt l)=>pre.length) (fun pre=>pre.map fun x=>eT x.1.t) (fun _ _=>True)) _)
   (OwnFrom.and (Own.from (holdsRow_own _ _ _ _ _ (fun pre:List (Pt l)=>pre.length) (fun pre=>pre.map fun x=>eN (1+x.1.at')) (fun _ _=>True)) _) (ownFrom_below (Nat.le_refl _) hB)))
theorem paX_own (w:World) (l:List UInt8) (B:Nat) (hB:w.heap.size≤B) (c:Code):OwnFrom B (PaX w w.heap.size (l:=l) c) :=
 OwnFrom.and (OwnFrom.and (ownFrom_pure _ _) (OwnFrom.and (Own.from (boxed_own _ _ _) _) (OwnFrom.and (Own.from (boxed_own _ _ _) _) (Own.from (boxed_own _ _ _) _)))) (ownFrom_below (Nat.le_refl _) hB)
def PaP (w:World) (r:List UInt8) (e:Ending) (w':World):Prop :=
 (((∃ x:Pt r,x.1.t=[])∧e=.returned (.tuple #[.slice none 0 0,.slice none 0 0,.int .i64 19])) ∨
  ((∀ x∈pts r,x.1.t≠[])∧∃ v v',e=.returned (.tuple #[v,v',.int .i64 0])∧w'.ownsRow w.heap.size 9 1 v (pts r).length ((pts r).map fun x=>eT x.1.t)∧w'.ownsRow w.heap.size 3 1 v' (pts r).length ((pts r).map fun x=>eN (1+x.1.at'))))∧Below w.heap.size w w'
theorem parse_go (b o n c:Nat) (r:List UInt8) (hn:(0::r:List UInt8).length=n) (hl:n≤100000) (w:World) (h:Rw eB w (.slice (some ⟨b,o,none⟩) n c) (0::r)) (hlast:(0::r:List UInt8).getLast?=some 0) :
  Calls Tryz.prog 69 #[.slice (some ⟨b,o,none⟩) n c] w fun e w'=>PaP w r e w':=by
 obtain⟨h0,hc1,-,hc⟩:=h.at
 obtain⟨b',o',e,hb,hcc⟩:=hc (by rw [← hn];simp)
 cases e
 obtain⟨m,rfl⟩:∃ m,n=m+1:=⟨n-1,by simp at hn;omega⟩
 have hx:w.cell? ⟨b,o,none⟩=some (.int .u8 0):=hcc 0 (by rw [hn];omega)
 have hy:w.cell? ⟨b,o+m,none⟩=some (.int .u8 0):=by
  rw [hcc m (by rw [hn];omega)]
  have:(0::r:List UInt8)[m]'(by rw [hn];omega)=0:=by
   have h2:=hlast
   rw [List.getLast?_eq_getElem?,hn,Nat.add_sub_cancel,List.getElem?_eq_getElem (by rw [hn];omega)] at h2
   exact Option.some.inj h2
  rw [this];rfl
 have hd:=h.drop 1 (by omega)
 have hs:=run_from und8 size8 (some ⟨b,o,none⟩) (m+1) c 1 (by omega) hc1
 rw [List.drop_one,List.tail_cons] at hd
 have e1:((1:Nat):Int)=1:=rfl
 rw [e1] at hs
 rw [show m+1-1=m by omega] at hs hd
 generalize (if c=1 then some (⟨b,o,none⟩:Addr) else (some (⟨b,o,none⟩:Addr)).map (·.add 1))=a2 at hs hd
 obtain⟨cc,hcc2⟩:∃ cc,c-1=cc:=⟨_,rfl⟩
 rw [hcc2] at hs hd
 obtain⟨i0,hi,hz0,hz1,hz2⟩:=info_parts infoText
 obtain⟨j0,ki,kz0,kz1,kz2⟩:=info_parts infoInt
 have hne0:((m:Int)+1==0)=false:=by rw [beq_eq_false_iff_ne];omega
 have hb3:Below w.heap.size w (((w.alloc (.cells #[.slice none 0 0] 65)).alloc (.cells #[.slice none 0 0] 70)).alloc (.cells #[.int .i64 0] 29)):=bch (bch (bnew _ _) (bnew _ _)) (bnew _ _)
 have hx3:=(hb3.cell (p:=⟨b,o,none⟩) hb).trans hx
 have hy3:=(hb3.cell (p:=⟨b,o+m,none⟩) hb).trans hy
 obtain⟨tb',to',hLo⟩:=hd.lo
 have HLo:=Lib.hid hLo
 have hrm:r.length=m:=hd.at.1
 have HRM:=Lib.hid hrm
 clear hx hy hcc hc hlast h hd hn h0 hb3 hLo hrm
 refine (callsIn_wide (n:=6)).1 ?_
 refine callsIn_of_wp_marks Tryz.func69 rfl trivial ?_ rfl
 simp only [Tryz.ntmps69,List.size_toArray,List.length_cons,List.length_nil,Nat.reduceAdd,Nat.reduceSub,Array.replicate_succ,Array.replicate_zero,List.push_toArray,List.append_toArray,List.nil_append,List.cons_append]
 gi_wp2_with (refine⟨trivial,?_⟩;gi_at_call 96;refine (callsIn_wide.2 (parts_fn _ a2 m cc rfl _)).mono ?_;rintro e w1 ⟨rfl,rfl⟩)
 clear hx3 hy3 hs
 have b0:=((((((Boxed.new w 65 (.slice none 0 0)).alloc (.cells #[.slice none 0 0] 70)).alloc (.cells #[.int .i64 0] 29)).alloc (.cells #[.slice none 0 0] 65)).alloc (.cells #[.slice none 0 0] 70)).alloc (.cells #[.slice a2 m cc] 23))
 have b1:=(((((Boxed.new (w.alloc (.cells #[.slice none 0 0] 65)) 70 (.slice none 0 0)).alloc (.cells #[.int .i64 0] 29)).alloc (.cells #[.slice none 0 0] 65)).alloc (.cells #[.slice none 0 0] 70)).alloc (.cells #[.slice a2 m cc] 23))
 have b2:=((((Boxed.new ((w.alloc (.cells #[.slice none 0 0] 65)).alloc (.cells #[.slice none 0 0] 70)) 29 (.int .i64 0)).alloc (.cells #[.slice none 0 0] 65)).alloc (.cells #[.slice none 0 0] 70)).alloc (.cells #[.slice a2 m cc] 23))
 have b3:=(((Boxed.new (((w.alloc (.cells #[.slice none 0 0] 65)).alloc (.cells #[.slice none 0 0] 70)).alloc (.cells #[.int .i64 0] 29)) 65 (.slice none 0 0)).alloc (.cells #[.slice none 0 0] 70)).alloc (.cells #[.slice a2 m cc] 23))
 have b4:=((Boxed.new ((((w.alloc (.cells #[.slice none 0 0] 65)).alloc (.cells #[.slice none 0 0] 70)).alloc (.cells #[.int .i64 0] 29)).alloc (.cells #[.slice none 0 0] 65)) 70 (.slice none 0 0)).alloc (.cells #[.slice a2 m cc] 23))
 have b5:=(Boxed.new (((((w.alloc (.cells #[.slice none 0 0] 65)).alloc (.cells #[.slice none 0 0] 70)).alloc (.cells #[.int .i64 0] 29)).alloc (.cells #[.slice none 0 0] 65)).alloc (.cells #[.slice none 0 0] 70)) 23 (.slice a2 m cc))
 simp only [World.size_alloc] at b1 b2 b3 b4 b5
 have hB0:Below w.heap.size w ((((((w.alloc (.cells #[.slice none 0 0] 65)).alloc (.cells #[.slice none 0 0] 70)).alloc (.cells #[.int .i64 0] 29)).alloc (.cells #[.slice none 0 0] 65)).alloc (.cells #[.slice none 0 0] 70)).alloc (.cells #[.slice a2 m cc] 23)):=(((((((Below.refl _ w).alloc (Nat.le_refl _) _).alloc (by simp) _).alloc (by simp;omega) _).alloc (by simp;omega) _).alloc (by simp;omega) _).alloc (by simp;omega) _)
 have hsz:((((((w.alloc (.cells #[.slice none 0 0] 65)).alloc (.cells #[.slice none 0 0] 70)).alloc (.cells #[.int .i64 0] 29)).alloc (.cells #[.slice none 0 0] 65)).alloc (.cells #[.slice none 0 0] 70)).alloc (.cells #[.slice a2 m cc] 23)).heap.size=w.heap.size+1+1+1+1+1+1:=by simp
 obtain⟨W0,hW0⟩:∃ W0,((((((w.alloc (.cells #[.slice none 0 0] 65)).alloc (.cells #[.slice none 0 0] 70)).alloc (.cells #[.int .i64 0] 29)).alloc (.cells #[.slice none 0 0] 65)).alloc (.cells #[.slice none 0 0] 70)).alloc (.cells #[.slice a2 m cc] 23))=W0:=⟨_,rfl⟩
 rw [hW0] at b0 b1 b2 b3 b4 b5 hB0 hsz
 have HSZ:=Lib.hid hsz
 have hsz1:w.heap.size+1+1+1+1+1<W0.heap.size:=by omega
 simp only [hW0]
 clear hsz
 clear hW0
 have HB5:=Lib.hid b5
 have HB0:=Lib.hid hB0
 refine wpIn_rangeFunc_ownH rfl (by omega) (gf:=141) (lb:=#[.pointer (some ⟨w.heap.size+1+1+1+1+1,0,none⟩)]) rfl trivial (enters_of Tryz.func141 (by kernel_rfl) rfl)
  (stops_at _ (by omega) (w.heap.size+1+1+1+1+1) w.heap.size a2 m cc tb' to' r HRM.out (by omega) W0 (by omega) (fun W hW=>Boxed.below HB5.out hW) (HLo.out.below hB0)) (fun h k=>Kq.t h k) (fun W l o o' h1 h2 h3 h4=>Kq.b (w:=W0) (by omega) W l o o' h1 h2 h3 h4) (Below.refl _ _) (fun _=>rfl)
  (PaI w w.heap.size) (PaX w w.heap.size) (paI_own w r _ (by omega)) (paX_own w r _ (by omega))
  ⟨⟨⟨b0,b1,b2⟩,fun r hr=>(by cases hr)⟩,⟨_,b3,World.ownsRow_nil _ _ _ _,trivial⟩,⟨_,b4,World.ownsRow_nil _ _ _ _,trivial⟩,hB0⟩
  (fun x a' _=>a'={ tmps:=#[.slice (some ⟨b,o,none⟩) (m+1) c,undef,.pointer (some ⟨w.heap.size,0,none⟩),.pointer (some ⟨w.heap.size+1,0,none⟩),.pointer (some ⟨w.heap.size+1+1,0,none⟩),.pointer (some ⟨w.heap.size+1+1+1,0,none⟩),.pointer (some ⟨w.heap.size+1+1+1+1,0,none⟩),.int .i64 (x.1.at':Int),.slice (some ⟨tb',to'+x.1.at',none⟩) x.1.t.length (cc-x.1.at'),.slice (some ⟨b,o,none⟩) (m+1) c,.int .i64 ((m:Int)+1),.bool false,.bool false,.slice (some ⟨b,o,none⟩) (m+1) c,.pointer (some ⟨b,o,none⟩),.int .u8 0,.bool false,.bool false,.bool false,.slice (some ⟨b,o,none⟩) (m+1) c,.slice (some ⟨b,o,none⟩) (m+1) c,.int .i64 ((m:Int)+1),.int .i64 (m:Int),.pointer (some ⟨b,o+m,none⟩),.int .u8 0,.bool false,.bool false,.slice (some ⟨b,o,none⟩) (m+1) c,.slice a2 m cc,.func (.func 141) #[] #[.pointer (some ⟨w.heap.size+1+1+1+1+1,0,none⟩)],.int .i64 (x.1.at':Int),.slice (some ⟨tb',to'+x.1.at',none⟩) x.1.t.length (cc-x.1.at'),undef,undef,undef,undef,undef,undef,undef,undef,undef,undef,undef,undef,undef,undef,undef],defers:=[] })
  (fun x a'=>ownFrom_pure _ _)
  ?assign ?body ?done ?stop
 case assign =>
  rintro lp pre x W K hI hK
  gi_wp2
  exact hK _ _ ((KeepsOthers.refl _).from _) ⟨Below.refl _ W,fun h=>h⟩ hI rfl
 case body =>
  rintro lp pre x a' W hlp - ⟨⟨⟨c0,c1,c2⟩,hz⟩,⟨v3,c3,r3,-⟩,⟨v4,c4,r4,-⟩,hB1⟩ rfl hlt
  have hpl:pre.length<100000:=by
   have h1:=sg_len r 0 []
   rw [pts_len] at hlt
   have:=HRM.out
   omega
  have hin:=(pt_in x).1
  rw [HRM.out] at hin
  have hcv:=conv_at ((HLo.out.below hB1).pt hB1.size x)
  obtain⟨p,hp⟩:∃ p,x.1.at'=p:=⟨_,rfl⟩
  obtain⟨q,hq⟩:∃ q,x.1.t.length=q:=⟨_,rfl⟩
  obtain⟨T,hT⟩:∃ T,mkB x.1.t=T:=⟨_,rfl⟩
  rw [hp,hq] at hin hcv ⊢
  rw [hT] at hcv
  have HP:=Lib.hid hp
  have HT:=Lib.hid hT
  have HZ:=Lib.hid hz
  have d0:=c0.cell
  have d1:=c1.cell
  have d2:=c2.cell
  have d3:=c3.cell
  have d4:=c4.cell
  have f0:=c0.frozen
  have f1:=c1.frozen
  have f2:=c2.frozen
  by_cases he:q=0
  ·have hx0:x.1.t=[]:=List.eq_nil_of_length_eq_zero (by rw [hq,he])
   have heb:((q:Int)==0)=true:=by rw [beq_iff_eq];omega
   have HX:=Lib.hid hx0
   clear hp hq hT hz he hcv hx0
   gi_wp2
   exact⟨(((KeepsOthers.setCell _ _ _).trans (KeepsOthers.setCell _ _ _)).trans (KeepsOthers.setCell _ _ _)).from _,
    ⟨⟨⟨rfl,x,by simp,HX.out⟩,((c0.set _).other (by omega) _).other (by omega) _,((c1.other (by omega) _).set _).other (by omega) _,((c2.other (by omega) _).other (by omega) _).set _⟩,
     ((hB1.setCell (p:=⟨_,0,none⟩) (Nat.le_refl _) _).setCell (p:=⟨_,0,none⟩) (Nat.le_succ _) _).setCell (p:=⟨_,0,none⟩) (by show w.heap.size≤w.heap.size+1+1;omega) _⟩⟩
  ·have heb:((q:Int)==0)=false:=by rw [beq_eq_false_iff_ne];omega
   have hx0:x.1.t≠[]:=fun e=>he (by rw [← hq,e];rfl)
   have HX:=Lib.hid hx0
   clear hp hq hT hz he hx0
   have hle:w.heap.size≤w.heap.size+1+1+1:=by omega
   have hsz3:=hB1.size
   gi_wp2_with (first
    | (gi_at_builtin;refine wpListIn_append_own _ rfl _ _ 65 rfl w.heap.size 9 i0 (.string ⟨#[]⟩) 1 16 Tryz.underlying65 hi hz0 hz1 hz2 rfl (by decide) _ _ _ rfl (r3.alloc _) ⟨W.heap.size,0,none⟩ 1 1 [.string T] rfl rfl (World.news_of_block (cs:=#[.string T]) (t:=9) (fr:=(0,0)) (heap_alloc_last W _)) (by simp [Value.oneCell']) (by unfold maxLen;omega) (by omega) (by simp;omega) ?_;intro v' w1 hown' hgrow _;obtain⟨g',cap',rfl⟩:=ownsRow_succ hown';obtain⟨hv1,hv2,hr5,hk2,hb2⟩:=c3.appended (by decide) r3 hB1.size hle hown' hgrow;have hc1:=hv1.cell;have hf1:=hv1.frozen;have c4':=box_step (B:=w.heap.size+1+1+1) c4 (by decide) r3 hgrow (by omega) (.slice (some ⟨g',0,none⟩) (pre.length+1) cap');have d4':=c4'.cell;have r4':=row_step r4 r3 (by decide) hgrow hv1 (by decide) (.slice (some ⟨g',0,none⟩) (pre.length+1) cap');have hsz4:W.heap.size≤w1.heap.size:=Nat.le_trans (by simp) hgrow.size;have hal:=heap_alloc_last (w1.setCell ⟨w.heap.size+1+1+1,0,none⟩ (.slice (some ⟨g',0,none⟩) (pre.length+1) cap')) (.cells #[.int .i64 (1+(p:Int))] 3);have hal2:((w1.setCell ⟨w.heap.size+1+1+1,0,none⟩ (.slice (some ⟨g',0,none⟩) (pre.length+1) cap')).alloc (.cells #[.int .i64 (1+(p:Int))] 3)).heap[w1.heap.size]?=some (.cells #[.int .i64 (1+(p:Int))] 3):=by (rw [World.size_setCell] at hal;exact hal))
    | (gi_at_builtin;refine wpListIn_append_own _ rfl _ _ 70 rfl w.heap.size 3 j0 (.int .i64 0) 1 8 Tryz.underlying70 ki kz0 kz1 kz2 rfl (by decide) _ _ _ rfl (r4'.alloc _) ⟨w1.heap.size,0,none⟩ 1 1 [.int .i64 (1+(p:Int))] rfl rfl (World.news_of_block (cs:=#[.int .i64 (1+(p:Int))]) (t:=3) (fr:=(0,0)) hal2) (by simp [Value.oneCell']) (by unfold maxLen;omega) (by omega) (by simp;omega) ?_;intro v'' w2 hown2 hgrow2 _;obtain⟨g2,cap2,rfl⟩:=ownsRow_succ hown2;obtain⟨kv1,kv2,kr5,kk2,kb2⟩:=c4'.appended (by decide) r4' (by simp;omega) (by omega) hown2 hgrow2;have hc2:=kv1.cell;have hf2:=kv1.frozen))
   have st:∀ (C:Nat) (s:TypeId) (u:Value),Boxed W C s u→s≠9→s≠3→C≠w.heap.size+1+1+1→C≠w.heap.size+1+1+1+1→Boxed (w2.setCell ⟨w.heap.size+1+1+1+1,0,none⟩ (.slice (some ⟨g2,0,none⟩) (pre.length+1) cap2)) C s u:=fun C s u hC h1 h2 h3 h4 =>
    box_step (box_step (B:=w.heap.size+1+1+1) hC h1 r3 hgrow h3 (.slice (some ⟨g',0,none⟩) (pre.length+1) cap')) h2 r4' hgrow2 h4 _
   refine⟨(hk2.trans kk2).from _,⟨hb2.trans kb2,fun hx=>st _ _ _ hx (by decide) (by decide) (by omega) (by omega)⟩,⟨⟨st _ _ _ c0 (by decide) (by decide) (by omega) (by omega),st _ _ _ c1 (by decide) (by decide) (by omega) (by omega),st _ _ _ c2 (by decide) (by decide) (by omega) (by omega)⟩,?_⟩,⟨_,box_step hv2 (by decide) r4' hgrow2 (by omega) _,?_,trivial⟩,⟨_,kv2,?_,trivial⟩,hB1.trans (hb2.trans kb2)⟩
   ·intro y hy
    rcases List.mem_append.1 hy with h|h
    ·exact HZ.out y h
    ·rw [List.mem_singleton.1 h];exact HX.out
   ·have:=row_step hr5 r4' (by decide) hgrow2 kv1 (by decide) (.slice (some ⟨g2,0,none⟩) (pre.length+1) cap2)
    rw [List.map_append,List.length_append,List.map_cons,List.map_nil]
    show _
    rw [show eT x.1.t=.string T by rw [← HT.out]]
    exact this
   ·rw [List.map_append,List.length_append,List.map_cons,List.map_nil]
    have e2:eN (1+x.1.at')=.int .i64 (1+(p:Int)):=by rw [HP.out];show Value.int _ _=_;congr 1
    rw [e2]
    exact kr5
 case done =>
  rintro D ys W hD rfl ⟨⟨⟨c0,c1,c2⟩,hz⟩,⟨v3,c3,r3,-⟩,⟨v4,c4,r4,-⟩,hB1⟩ hK
  obtain⟨a3,c3',rfl⟩:=owns_slice r3
  obtain⟨a4,c4',rfl⟩:=owns_slice r4
  have d0:=c0.cell
  have d1:=c1.cell
  have d2:=c2.cell
  have d3:=c3.cell
  have d4:=c4.cell
  have f0:=c0.frozen
  have f1:=c1.frozen
  have f2:=c2.frozen
  have hmx:Tryz.prog.follows .mixedOrders=true:=by kernel_rfl
  have hlx:Tryz.prog.follows .lateStores=true:=by kernel_rfl
  gi_wp2
  gi_region_with_o (fail)
  all_goals gi_wp2
  all_goals (
   have e0:=((c0.set (.slice a3 (pts r).length c3')).other (B':=w.heap.size+1) (by omega) (.slice a4 (pts r).length c4')).other (B':=w.heap.size+1+1) (by omega) (.int .i64 0)
   have e1':=((c1.other (B':=w.heap.size) (by omega) (.slice a3 (pts r).length c3')).set (.slice a4 (pts r).length c4')).other (B':=w.heap.size+1+1) (by omega) (.int .i64 0)
   have e2:=((c2.other (B':=w.heap.size) (by omega) (.slice a3 (pts r).length c3')).other (B':=w.heap.size+1) (by omega) (.slice a4 (pts r).length c4')).set (.int .i64 0)
   have hK2:=(((KeepsOthers.setCell W ⟨w.heap.size,0,none⟩ (.slice a3 (pts r).length c3')).trans (KeepsOthers.setCell _ ⟨w.heap.size+1,0,none⟩ (.slice a4 (pts r).length c4'))).trans (KeepsOthers.setCell _ ⟨w.heap.size+1+1,0,none⟩ (.int .i64 0))).same D _ hK rfl
   have c1':=c1.other (B':=w.heap.size) (by omega) (.slice a3 (pts r).length c3')
   have c2':=(c2.other (B':=w.heap.size) (by omega) (.slice a3 (pts r).length c3')).other (B':=w.heap.size+1) (by omega) (.slice a4 (pts r).length c4')
   have s1:=r3.kept (grownBy_setCell' W w.heap.size (.slice a3 (pts r).length c3')) (.inr (c0.not_row (by decide) r3).symm)
   have s2:=s1.kept (grownBy_setCell' _ (w.heap.size+1) (.slice a4 (pts r).length c4')) (.inr (c1'.not_row (by decide) s1).symm)
   have s3:=s2.kept (grownBy_setCell' _ (w.heap.size+1+1) (.int .i64 0)) (.inr (c2'.not_row (by decide) s2).symm)
   have q1:=r4.kept (grownBy_setCell' W w.heap.size (.slice a3 (pts r).length c3')) (.inr (c0.not_row (by decide) r4).symm)
   have q2:=q1.kept (grownBy_setCell' _ (w.heap.size+1) (.slice a4 (pts r).length c4')) (.inr (c1'.not_row (by decide) q1).symm)
   have q3:=q2.kept (grownBy_setCell' _ (w.heap.size+1+1) (.int .i64 0)) (.inr (c2'.not_row (by decide) q2).symm)
   have hBE:=((hB1.setCell (p:=⟨w.heap.size,0,none⟩) (Nat.le_refl _) (.slice a3 (pts r).length c3')).setCell (p:=⟨w.heap.size+1,0,none⟩) (Nat.le_succ _) (.slice a4 (pts r).length c4')).setCell (p:=⟨w.heap.size+1+1,0,none⟩) (by show w.heap.size≤w.heap.size+1+1;omega) (.int .i64 0)
   generalize ((W.setCell ⟨w.heap.size,0,none⟩ _).setCell ⟨w.heap.size+1,0,none⟩ _).setCell ⟨w.heap.size+1+1,0,none⟩ _=E at e0 e1' e2 hK2 s3 q3 hBE ⊢
   have g0:Boxed E.drew w.heap.size 65 (.slice a3 (pts r).length c3'):=e0
   have g1:Boxed E.drew (w.heap.size+1) 70 (.slice a4 (pts r).length c4'):=e1'
   have g2:Boxed E.drew (w.heap.size+1+1) 29 (.int .i64 0):=e2
   have hK3:E.drew.heap[D]?=_:=hK2
   refine⟨by simp,.inl ⟨_,_,rfl,run_takeDeferred hK3,?_⟩⟩
   have k0:=(box_putObj g0 (.deferred none) hK3 rfl).cell
   have k1:=(box_putObj g1 (.deferred none) hK3 rfl).cell
   have k2:=(box_putObj g2 (.deferred none) hK3 rfl).cell
   exact⟨.tuple #[.slice a3 (pts r).length c3',.slice a4 (pts r).length c4',.int .i64 0],by simp [results,Tryz.results69,go_sem,k0,k1,k2],.inr ⟨hz,_,_,rfl,ownsRow_putObj s3.drew _ hK3 rfl,ownsRow_putObj q3.drew _ hK3 rfl⟩,(hBE.drew).trans (belowK_b (w:=w) (Nat.le_refl _) E.drew D _ _ (by have:=HSZ.out;omega) hK3 rfl rfl)⟩)
 case stop =>
  rintro D cd pre W hD hp ⟨⟨⟨rfl,x,hx,hxe⟩,c0,c1,c2⟩,hB1⟩ hK
  gi_wp2
  refine⟨by simp,.inl ⟨_,_,rfl,run_takeDeferred hK,?_⟩⟩
  have k0:=(box_putObj c0 (.deferred none) hK rfl).cell
  have k1:=(box_putObj c1 (.deferred none) hK rfl).cell
  have k2:=(box_putObj c2 (.deferred none) hK rfl).cell
  exact⟨.tuple #[.slice none 0 0,.slice none 0 0,.int .i64 19],by simp [results,Tryz.results69,go_sem,k0,k1,k2],.inl ⟨⟨x,hxe⟩,rfl⟩,hB1.trans (belowK_b (w:=w) (Nat.le_refl _) W D _ _ (by have:=HSZ.out;omega) hK rfl rfl)⟩
end Go.Proofs.YtohkgdfkklfgmaaGreatDoor.L14
end
section
set_option maxRecDepth 100000
set_option maxHeartbeats 4000000
namespace Go.Proofs.YtohkgdfkklfgmaaGreatDoor.L14
set_option maxRecDepth 100000
open Go.RowKit Go.Shelf
attribute [local go_sem] Oper.semAt_some
def PrP (l:List UInt8) (e:Ending) (w':World):Prop :=
 (prV l=none∧e=.returned (.tuple #[.slice none 0 0,.slice none 0 0,.int .i64 19])) ∨
  ∃ ts a c a2 c2,prV l=some ts∧e=.returned (.tuple #[.slice a ts.length c,.slice a2 ts.length c2,.int .i64 0])∧Rw eT w' (.slice a ts.length c) ts∧Rw eN w' (.slice a2 ts.length c2) (ofs 1 ts)
theorem prP_no {l:List UInt8} {w':World} (h:prV l=none):PrP l (.returned (.tuple #[.slice none 0 0,.slice none 0 0,.int .i64 19])) w':=.inl ⟨h,rfl⟩
theorem pts_val {l:List UInt8} (x:Sg) (h:x∈sg 0 [] l):(⟨x,h⟩:Pt l)∈pts l:=by simp [pts]
theorem prP_of {w w':World} {r:List UInt8} {e:Ending} (hr:(0::r:List UInt8).getLast?=some 0) (h:PaP w r e w'):PrP (0::r) e w':=by
 have hen:en [] r=true:=by
  cases r with
  | nil=>rfl
  | cons c q=>rw [en_last (c::q) [] 0 (by rw [← hr,List.getLast?_cons_cons])];rfl
 have hp:prV (0::r)=pr [] r:=by show (if (0:UInt8)=0 then pr [] r else none)=_;rw [if_pos rfl]
 have hs:=pr_sg r [] 0
 rw [hen,Bool.true_and] at hs
 obtain⟨⟨⟨x,hx⟩,rfl⟩|⟨hz,v,v',rfl,h1,h2⟩,-⟩:=h
 ·refine prP_no ?_
  rw [hp,hs,if_neg]
  intro ha
  have:=List.all_eq_true.1 ha x.1 x.2
  rw [hx] at this;simp at this
 ·have hall:((sg 0 [] r).all fun x=>!x.t.isEmpty)=true:=List.all_eq_true.2 fun x hx=>by
   have:=hz ⟨x,hx⟩ (pts_val x hx)
   simpa using this
  rw [if_pos hall,← hp] at hs
  have e1:(pts r).map (fun x=>eT x.1.t)=((sg 0 [] r).map (·.t)).map eT:=by rw [pts_map r (fun x=>eT x.t),List.map_map];rfl
  have e2:(pts r).map (fun x=>eN (1+x.1.at'))=(ofs 1 ((sg 0 [] r).map (·.t))).map eN:=by
   rw [pts_map r (fun x=>eN (1+x.at')),← ofs_up _ 0 1,← sg_ofs,List.map_map,List.map_map];rfl
  obtain⟨ts,hts⟩:∃ ts,(sg 0 [] r).map (·.t)=ts:=⟨_,rfl⟩
  have hl:(pts r).length=ts.length:=by rw [← hts,pts_len,List.length_map]
  rw [hts] at hs e1 e2
  rw [e1,hl] at h1
  rw [e2,hl] at h2
  obtain⟨a,c,rfl⟩:=owns_slice h1
  obtain⟨a2,c2,rfl⟩:=owns_slice h2
  refine .inr ⟨ts,a,c,a2,c2,hs,rfl,Rw.own h1,?_⟩
  have h3:=ofs_len ts 1
  rw [← h3] at h2 ⊢
  exact Rw.own h2
theorem er_cells (w:World):(((w.alloc (.cells #[.slice none 0 0] 65)).alloc (.cells #[.slice none 0 0] 70)).alloc (.cells #[.int .i64 19] 29)).cell? ⟨w.heap.size,0,none⟩=some (.slice none 0 0) ∧
  (((w.alloc (.cells #[.slice none 0 0] 65)).alloc (.cells #[.slice none 0 0] 70)).alloc (.cells #[.int .i64 19] 29)).cell? ⟨w.heap.size+1,0,none⟩=some (.slice none 0 0) ∧
  (((w.alloc (.cells #[.slice none 0 0] 65)).alloc (.cells #[.slice none 0 0] 70)).alloc (.cells #[.int .i64 19] 29)).cell? ⟨w.heap.size+1+1,0,none⟩=some (.int .i64 19):=by
 have b0:=((Boxed.new w 65 (.slice none 0 0)).alloc (.cells #[.slice none 0 0] 70)).alloc (.cells #[.int .i64 19] 29)
 have b1:=(Boxed.new (w.alloc (.cells #[.slice none 0 0] 65)) 70 (.slice none 0 0)).alloc (.cells #[.int .i64 19] 29)
 have b2:=Boxed.new ((w.alloc (.cells #[.slice none 0 0] 65)).alloc (.cells #[.slice none 0 0] 70)) 29 (.int .i64 19)
 simp only [World.size_alloc] at b1 b2
 exact⟨b0.cell,b1.cell,b2.cell⟩
theorem er_below (w:World):Below w.heap.size w (((w.alloc (.cells #[.slice none 0 0] 65)).alloc (.cells #[.slice none 0 0] 70)).alloc (.cells #[.int .i64 19] 29)):=bch (bch (bnew _ _) (bnew _ _)) (bnew _ _)
theorem parse_at (v:Value) (l:List UInt8) (w:World) (h:Rw eB w v l) (hl:l.length≤100000) :
  Calls Tryz.prog 69 #[v] w fun e w'=>PrP l e w'∧Below w.heap.size w w':=by
 obtain⟨n,hn⟩:∃ n,l.length=n:=⟨_,rfl⟩
 obtain⟨a,c,rfl,hc1,-,hc⟩:=h.form hn
 obtain⟨k0,k1,k2⟩:=er_cells w
 have hbe:=er_below w
 by_cases h0:n=0
 ·subst h0
  have hnil:l=[]:=List.eq_nil_of_length_eq_zero hn
  have HR:=Lib.hid (show prV l=none by rw [hnil];rfl)
  clear h hn hc hnil
  go_enter Tryz.func69,Tryz.ntmps69
  go_wp2
  refine bodyPost_ret (v:=.tuple #[.slice none 0 0,.slice none 0 0,.int .i64 19]) (by simp [results,Tryz.results69,go_sem,k0,k1,k2]) rfl ⟨prP_no HR.out,hbe⟩
 obtain⟨m,rfl⟩:∃ m,n=m+1:=⟨n-1,by omega⟩
 obtain⟨d,r,rfl⟩:∃ d r,l=d::r:=by
  cases l with
  | nil=>simp at hn
  | cons d r=>exact⟨d,r,rfl⟩
 obtain⟨b,o,rfl,hb,hcc⟩:=hc (by omega)
 have hx:w.cell? ⟨b,o,none⟩=some (.int .u8 (d.toNat:Int)):=hcc 0 (by rw [hn];omega)
 have hml:m<(d::r).length:=by rw [hn];omega
 have hy:w.cell? ⟨b,o+m,none⟩=some (.int .u8 ((d::r)[m].toNat:Int)):=hcc m hml
 have hlast:(d::r).getLast?=some (d::r)[m]:=by
  rw [List.getLast?_eq_getElem?,hn,Nat.add_sub_cancel,List.getElem?_eq_getElem hml]
 have hb3:Below w.heap.size w (((w.alloc (.cells #[.slice none 0 0] 65)).alloc (.cells #[.slice none 0 0] 70)).alloc (.cells #[.int .i64 0] 29)):=bch (bch (bnew _ _) (bnew _ _)) (bnew _ _)
 have hmm:m≤100000:=by omega
 have hne0:((m:Int)+1==0)=false:=by rw [beq_eq_false_iff_ne];omega
 by_cases hd:d=0
 ·subst hd
  by_cases hz:(0::r:List UInt8)[m]=0
  ·rw [hz] at hlast
   refine (parse_go b o (m+1) c r hn (by omega) w h hlast).mono fun e w' hP=>⟨prP_of hlast hP,hP.2⟩
  ·have hnz:(((0::r:List UInt8)[m].toNat:Int)==0)=false:=byte_ne (d:=0) hz
   have HR:=Lib.hid (show prV (0::r)=none by
    show (if (0:UInt8)=0 then pr [] r else none)=none
    rw [if_pos rfl,pr_sg r [] 0]
    cases r with
    | nil=>exact absurd (by simp at hn;subst hn;rfl) hz
    | cons c q =>
     rw [List.getLast?_cons_cons] at hlast
     rw [en_last (c::q) [] _ hlast,if_neg]
     simp [hz])
   obtain⟨y,hy2⟩:∃ y:Int,((0::r:List UInt8)[m].toNat:Int)=y:=⟨_,rfl⟩
   rw [hy2] at hy hnz
   have hnz2:(y != 0)=true:=by rw [bne,hnz];rfl
   replace hx:w.cell? ⟨b,o,none⟩=some (.int .u8 0):=hx
   have hx3:=(hb3.cell (p:=⟨b,o,none⟩) hb).trans hx
   have hy3:=(hb3.cell (p:=⟨b,o+m,none⟩) hb).trans hy
   clear h hn hc hcc hml hlast hz hy2 hb3 hx hy
   go_enter Tryz.func69,Tryz.ntmps69
   go_wp2
   refine bodyPost_ret (v:=.tuple #[.slice none 0 0,.slice none 0 0,.int .i64 19]) (by simp [results,Tryz.results69,go_sem,k0,k1,k2]) rfl ⟨prP_no HR.out,hbe⟩
 ·have hnd:((d.toNat:Int)==0)=false:=byte_ne (d:=0) hd
  have HR:=Lib.hid (show prV (d::r)=none by show (if d=0 then pr [] r else none)=none;rw [if_neg hd])
  obtain⟨x,hx2⟩:∃ x:Int,(d.toNat:Int)=x:=⟨_,rfl⟩
  rw [hx2] at hx hnd
  have hnd2:(x != 0)=true:=by rw [bne,hnd];rfl
  have hx3:=(hb3.cell (p:=⟨b,o,none⟩) hb).trans hx
  clear h hn hc hcc hml hlast hy hd hx2 hb3 hx
  go_enter Tryz.func69,Tryz.ntmps69
  go_wp2
  refine bodyPost_ret (v:=.tuple #[.slice none 0 0,.slice none 0 0,.int .i64 19]) (by simp [results,Tryz.results69,go_sem,k0,k1,k2]) rfl ⟨prP_no HR.out,hbe⟩
end Go.Proofs.YtohkgdfkklfgmaaGreatDoor.L14
end
section
namespace Go.Proofs.YtohkgdfkklfgmaaGreatDoor.L14
set_option maxRecDepth 100000
open Go.RowKit
attribute [local go_sem] Oper.semAt_some
theorem parse_none (v:Value) (l:List UInt8) (w:World) (h:Rw eB w v l) (hl:l.length≤100000) (hp:prV l=none) :
  Calls Tryz.prog 69 #[v] w fun e w'=>e=.returned (.tuple #[.slice none 0 0,.slice none 0 0,.int .i64 19])∧Below w.heap.size w w':=by
 refine (parse_at v l w h hl).mono fun e w' hP=>?_
 obtain⟨⟨-,he⟩|⟨ts,_,_,_,_,hq,-⟩,hb⟩:=hP
 ·exact⟨he,hb⟩
 ·rw [hp] at hq;cases hq
theorem parse_some (v:Value) (l:List UInt8) (ts:List (List UInt8)) (n:Nat) (w:World) (h:Rw eB w v l) (hl:l.length≤100000) (hp:prV l=some ts) (hn:ts.length=n) :
  Calls Tryz.prog 69 #[v] w fun e w'=>(∃ a c a2 c2,e=.returned (.tuple #[.slice a n c,.slice a2 n c2,.int .i64 0])∧Rw eT w' (.slice a n c) ts∧Rw eN w' (.slice a2 n c2) (ofs 1 ts))∧Below w.heap.size w w':=by
 subst hn
 refine (parse_at v l w h hl).mono fun e w' hP=>?_
 obtain⟨⟨hq,-⟩|⟨us,a,c,a2,c2,hq,he,h1,h2⟩,hb⟩:=hP
 ·rw [hp] at hq;cases hq
 ·rw [hp] at hq;cases hq
  exact⟨⟨a,c,a2,c2,he,h1,h2⟩,hb⟩
theorem rparse_none (v:Value) (l:List UInt8) (w:World) (h:Rw eB w v l) (hl:l.length≤100000) (hp:prV l=none) :
  Calls Tryz.prog 38 #[v] w fun e w'=>e=.returned (.tuple #[.slice none 0 0,.bool false])∧Below w.heap.size w w':=by
 refine (rparse_at v l w h hl).mono fun e w' hP=>?_
 obtain⟨⟨-,he⟩|⟨ts,_,_,hq,-⟩,hb⟩:=hP
 ·exact⟨he,hb⟩
 ·rw [hp] at hq;cases hq
theorem rparse_some (v:Value) (l:List UInt8) (ts:List (List UInt8)) (n:Nat) (w:World) (h:Rw eB w v l) (hl:l.length≤100000) (hp:prV l=some ts) (hn:ts.length=n) :
  Calls Tryz.prog 38 #[v] w fun e w'=>(∃ a c,e=.returned (.tuple #[.slice a n c,.bool true])∧Rw eT w' (.slice a n c) ts)∧Below w.heap.size w w':=by
 subst hn
 refine (rparse_at v l w h hl).mono fun e w' hP=>?_
 obtain⟨⟨hq,-⟩|⟨us,a,c,hq,he,h1⟩,hb⟩:=hP
 ·rw [hp] at hq;cases hq
 ·rw [hp] at hq;cases hq
  exact⟨⟨a,c,he,h1⟩,hb⟩
theorem build_yes (v:Value) (l:List (List UInt8)) (n N:Nat) (w:World) (h:Rw eT w v l) (hl:l.length≤10000) (ht:tot l≤100000) (hr:∀ t∈l,rt t=true) (hn:l.length=n) (hN:(tb l).length=N) :
  Calls Tryz.prog 55 #[v] w fun e w'=>(∃ a1 c1 a2 c2,e=.returned (.tuple #[.slice a1 N c1,.slice a2 n c2,.int .i64 0])∧Rw eB w' (.slice a1 N c1) (tb l)∧Rw eN w' (.slice a2 n c2) (ofs 1 l))∧Below w.heap.size w w':=by
 subst hn hN
 refine (build_at v l w h hl ht).mono fun e w' hP=>?_
 obtain⟨⟨⟨t,h1,h2⟩,-⟩|⟨-,a1,c1,a2,c2,he,h1,h2⟩,hb'⟩:=hP
 ·rw [hr t h1] at h2;cases h2
 ·exact⟨⟨a1,c1,a2,c2,he,h1,h2⟩,hb'⟩
theorem rbuild_n (v:Value) (l:List (List UInt8)) (n N:Nat) (w:World) (h:Rw eT w v l) (hl:l.length≤100000) (ht:tot l≤1000000) (hn:l.length=n) (hN:(tb l).length=N) :
  Calls Tryz.prog 32 #[v] w fun e w'=>(∃ a1 c1 a2 c2,e=.returned (.tuple #[.slice a1 N c1,.slice a2 n c2])∧Rw eB w' (.slice a1 N c1) (tb l)∧Rw eN w' (.slice a2 n c2) (ofs 1 l))∧Below w.heap.size w w':=by
 subst hn hN
 exact rbuild_at v l w h hl ht
theorem prV_few {l:List UInt8} {ts:List (List UInt8)} (h:prV l=some ts):ts.length≤l.length∧tot ts≤l.length:=by
 have:=tb_len ts
 rw [(tb_prV h).2] at this
 omega
end Go.Proofs.YtohkgdfkklfgmaaGreatDoor.L14
end
section
namespace Go.Proofs.YtohkgdfkklfgmaaGreatDoor.L14
set_option maxRecDepth 100000
open Go.ChangeShapes Go.WideShapes Go.ChangeAt Go.RowKit Go.Deep
theorem cells5:Tryz.prog.cellsOf 5=1:=by kernel_rfl
theorem cells9:Tryz.prog.cellsOf 9=1:=by kernel_rfl
theorem bT:Tryz.prog.bytesOf 9=16:=by kernel_rfl
theorem byte_of {z:Int} (h:(Lit.int .u8 z).wf=true):((UInt8.ofNat z.toNat).toNat:Int)=z:=by
 have:=bounds_u8 h
 rw [UInt8.toNat_ofNat',Nat.mod_eq_of_lt (by omega)]
 omega
def Wt {H:Type} (t:TypeId) (d:DataW H):Prop:=∀ n∈d.weights Tryz.prog t,n≤reachBytes
theorem mem_wAll {H:Type} {P:Program} {e:TypeId} {n:Nat}:∀ (ds:List (DataW H)) (d:DataW H),d∈ds→n∈d.weights P e→n∈DataW.weightsAll P e ds
 | a::r,d,h,hn=>by
  rw [DataW.weightsAll,List.mem_append]
  rcases List.mem_cons.1 h with rfl|h
  ·exact .inl hn
  ·exact .inr (mem_wAll r d h hn)
section
variable {H:Type} {enc:TypeId × Value→H} {W:World} {base:Nat} {sp:Nat→Bool} {held:Bool} {r:Reach} {b0:Nat} {v:Value} {d:DataW H} {ps:List MemPlace}
theorem open_bs (hval:Value.okWide Tryz.prog W r b0 23 v) (hd:DataW.Trod enc Tryz.prog W base sp held 23 v d ps):∃ l,Rw eB W v l:=by
 obtain⟨a0,len,cap,rfl⟩:=okWide_slice Tryz.underlying23 hval
 obtain⟨fuel,hf⟩:=hd
 rcases open_ints Tryz.underlying23 Tryz.underlying5 cells5 hf with ⟨hcs,hx⟩|⟨a,len',cap',zs,hcs,_,hl,hm,hz,hx,hcell,hwz⟩
 ·simp [Value.cells] at hcs
  obtain⟨rfl,rfl,rfl⟩:=hcs
  exact⟨[],Rw.nil _ _⟩
 ·simp [Value.cells] at hcs
  obtain⟨rfl,rfl,rfl⟩:=hcs
  obtain⟨l,hle⟩:∃ l:List UInt8,l=(zs.take len).map fun z=>UInt8.ofNat z.toNat:=⟨_,rfl⟩
  have hzl:len≤zs.length:=by split at hz <;> omega
  have hll:l.length=len:=by rw [hle,List.length_map,List.length_take];omega
  refine⟨l,some a,cap,by rw [hll],by omega,fun e=>(by cases e),fun hp=>?_⟩
  obtain⟨b,off,spot⟩:=a
  have hspot:spot=none:=by simpa [Addr.add] using World.cell?_spot (hcell 0 (by omega))
  subst hspot
  refine⟨b,off,rfl,World.block_lt_of_cell? W _ (hcell 0 (by omega)),fun j hj=>?_⟩
  have hjl:j<len:=by omega
  have h1:(l[j].toNat:Int)=zs.getD j 0:=by
   have e:l[j]=UInt8.ofNat (zs[j]'(by omega)).toNat:=by simp [hle]
   rw [e,byte_of (hwz _ (List.getElem_mem _))]
   simp [List.getD,show j<zs.length by omega]
  unfold eB
  rw [h1,← Go.WideShapes.add_plain]
  exact hcell j (by omega)
end
end Go.Proofs.YtohkgdfkklfgmaaGreatDoor.L14
end
