/- Lemmas and walks of L15Sm, L14Rf, L14Rb, L14Bd, L5Same: what each theorem states; conditions stand in each theorem. -/
import Derived.Lib.BufferWrite
import Derived.Test.YtihiggnglmhggaaGreatDoorM14
set_option maxHeartbeats 4000000
set_option maxRecDepth 100000
section
namespace Go.Proofs.YtihiggnglmhggaaGreatDoor.L15
abbrev Sc:=Int × List UInt8
def up (n:Nat):Nat:=(n+7) / 8*8
theorem up_ge (n:Nat):n≤up n:=by unfold up;omega
theorem up_le (n:Nat):up n≤n+7:=by unfold up;omega
def tot:List Sc→Nat
 | []=>0
 | s::r=>up s.2.length+tot r
def hd (n:Nat):Nat:=up (16+12*n)
def szL (l:List Sc):Nat:=hd l.length+tot l
def asc:Int→List Sc→Bool
 | _,[]=>true
 | k,s::r=>decide (k<s.1) && decide (s.1≤65535) && asc s.1 r
def chkV (l:List Sc):Int:=if 16<l.length∨1073741824<szL l then 16 else if asc 0 l=true then 0 else 4
theorem tot_app:∀ (l r:List Sc),tot (l++r)=tot l+tot r
 | [],r=>by simp [tot]
 | s::l,r=>by rw [List.cons_append,tot,tot,tot_app l r,Nat.add_assoc]
theorem tot_step (l:List Sc) (k:Nat) (h:k<l.length):tot (l.take (k+1))=tot (l.take k)+up l[k].2.length:=by
 rw [List.take_add_one,List.getElem?_eq_getElem h,Option.toList,tot_app];simp [tot]
theorem tot_le (l:List Sc) (k:Nat):tot (l.take k)≤tot l:=by
 have h:=tot_app (l.take k) (l.drop k)
 rw [List.take_append_drop] at h
 omega
theorem tot_bound:∀ (l:List Sc) (m:Nat),(∀ s∈l,s.2.length≤m)→tot l≤l.length*(m+7)
 | [],_,_=>by simp [tot]
 | s::r,m,h=>by
  have h1:=tot_bound r m (fun x hx=>h x (List.mem_cons_of_mem _ hx))
  have h2:=h s (List.mem_cons_self ..)
  have h3:=up_le s.2.length
  rw [tot,List.length_cons,Nat.succ_mul]
  omega
def le:Nat→Nat→List UInt8
 | 0,_=>[]
 | n+1,z=>UInt8.ofNat (z % 256)::le n (z / 256)
def va:List UInt8→Nat
 | []=>0
 | c::l=>c.toNat+256*va l
theorem le_len:∀ (n z:Nat),(le n z).length=n
 | 0,_=>rfl
 | n+1,z=>by simp [le,le_len n]
theorem va_le:∀ (n z:Nat),va (le n z)=z % 256 ^ n
 | 0,z=>by simp [le,va,Nat.mod_one]
 | n+1,z=>by
  have e:256 ^ (n+1)=256*256 ^ n:=by rw [Nat.pow_succ,Nat.mul_comm]
  rw [le,va,va_le n,e,Nat.mod_mul,UInt8.toNat_ofNat']
  omega
theorem va_le2 (z:Nat) (h:z<65536):va (le 2 z)=z:=by rw [va_le];exact Nat.mod_eq_of_lt h
theorem va_le4 (z:Nat) (h:z<4294967296):va (le 4 z)=z:=by rw [va_le];exact Nat.mod_eq_of_lt h
theorem va_lt:∀ l:List UInt8,va l<256 ^ l.length
 | []=>by simp [va]
 | c::l=>by
  have h1:=va_lt l
  have h2:=c.toNat_lt
  rw [va,List.length_cons,Nat.pow_succ]
  omega
def zs (n:Nat):List UInt8:=List.replicate (up n-n) 0
theorem zs_len (n:Nat):(zs n).length=up n-n:=by simp [zs]
def row (s:Sc) (a:Nat):List UInt8:=le 4 s.1.toNat++le 4 a++le 4 s.2.length
def rows:Nat→List Sc→List UInt8
 | _,[]=>[]
 | a,s::r=>row s a++rows (a+up s.2.length) r
def body:List Sc→List UInt8
 | []=>[]
 | s::r=>s.2++zs s.2.length++body r
def hea (l:List Sc):List UInt8:=[83,76,67,49]++le 2 1++le 2 l.length++le 4 (szL l)++le 4 0
def tab (l:List Sc):List UInt8:=hea l++rows (hd l.length) l
def frt (l:List Sc):List UInt8:=tab l++zs (16+12*l.length)
def wr (l:List Sc):List UInt8:=frt l++body l
theorem row_len (s:Sc) (a:Nat):(row s a).length=12:=by simp [row,le_len]
theorem rows_len:∀ (l:List Sc) (a:Nat),(rows a l).length=12*l.length
 | [],_=>rfl
 | s::r,a=>by rw [rows,List.length_append,row_len,rows_len r,List.length_cons];omega
theorem hea_len (l:List Sc):(hea l).length=16:=by simp [hea,le_len]
theorem tab_len (l:List Sc):(tab l).length=16+12*l.length:=by rw [tab,List.length_append,hea_len,rows_len]
theorem frt_len (l:List Sc):(frt l).length=hd l.length:=by
 have:=up_ge (16+12*l.length)
 rw [frt,List.length_append,tab_len,zs_len,hd];omega
theorem body_len:∀ l:List Sc,(body l).length=tot l
 | []=>rfl
 | s::r=>by
  have:=up_ge s.2.length
  rw [body,List.length_append,List.length_append,zs_len,body_len r,tot];omega
theorem wr_len (l:List Sc):(wr l).length=szL l:=by rw [wr,List.length_append,frt_len,body_len,szL]
theorem rows_app:∀ (l r:List Sc) (a:Nat),rows a (l++r)=rows a l++rows (a+tot l) r
 | [],r,a=>by simp [rows,tot]
 | s::l,r,a=>by rw [List.cons_append,rows,rows,rows_app l r,tot,List.append_assoc,Nat.add_assoc]
theorem body_app:∀ (l r:List Sc),body (l++r)=body l++body r
 | [],r=>by simp [body]
 | s::l,r=>by rw [List.cons_append,body,body,body_app l r];simp only [List.append_assoc]
def sub (b:List UInt8) (i n:Nat):List UInt8:=(b.drop i).take n
theorem sub_len (b:List UInt8) (i n:Nat) (h:i+n≤b.length):(sub b i n).length=n:=by
 simp [sub];omega
theorem sub_app (p m r:List UInt8) (i n:Nat) (hi:p.length=i) (hn:m.length=n):sub (p++(m++r)) i n=m:=by
 subst hi hn
 unfold sub
 rw [List.drop_left,List.take_left]
theorem sub_sub (b:List UInt8) (i n j m:Nat) (h:j+m≤n):sub (sub b i n) j m=sub b (i+j) m:=by
 unfold sub
 rw [List.drop_take,List.take_take,List.drop_drop,Nat.min_eq_left (by omega)]
def kiN (b:List UInt8) (i:Nat):Nat:=va (sub b (16+12*i) 4)
def atN (b:List UInt8) (i:Nat):Nat:=va (sub b (20+12*i) 4)
def lnN (b:List UInt8) (i:Nat):Nat:=va (sub b (24+12*i) 4)
def rd1 (b:List UInt8) (i:Nat):Sc:=((kiN b i:Int),sub b (atN b i) (lnN b i))
def okR (b:List UInt8) (i:Nat):Prop:=16+12*i+12≤b.length∧atN b i+lnN b i≤b.length
instance (b:List UInt8) (i:Nat):Decidable (okR b i):=by unfold okR;infer_instance
def nS (b:List UInt8):Nat:=va (sub b 6 2)
def rdT (b:List UInt8) (n:Nat):List Sc:=(List.range n).map (rd1 b)
theorem rdT_len (b:List UInt8) (n:Nat):(rdT b n).length=n:=by simp [rdT]
theorem rdT_at (b:List UInt8) (n i:Nat) (h:i<(rdT b n).length):(rdT b n)[i]=rd1 b i:=by simp [rdT]
theorem rdT_snoc (b:List UInt8) (n:Nat):rdT b (n+1)=rdT b n++[rd1 b n]:=by simp [rdT,List.range_succ]
def Is (b:List UInt8) (l:List Sc):Prop:=chkV l=0∧wr l=b
theorem chk0 {l:List Sc}:chkV l=0↔(l.length≤16∧szL l≤1073741824)∧asc 0 l=true:=by
 unfold chkV
 by_cases h:16<l.length∨1073741824<szL l
 ·rw [if_pos h]
  constructor
  ·intro e;cases e
  ·intro e;omega
 ·rw [if_neg h]
  by_cases h2:asc 0 l=true
  ·rw [if_pos h2]
   simp only [h2,and_true,true_iff];omega
  ·rw [if_neg h2]
   constructor
   ·intro e;cases e
   ·intro e;exact absurd e.2 h2
theorem asc_lt:∀ (l:List Sc) (k:Int) (s:Sc),asc k l=true→s∈l→k<s.1∧s.1≤65535
 | [],_,_,_,h=>by cases h
 | x::r,k,s,h,hs=>by
  simp only [asc,Bool.and_eq_true,decide_eq_true_eq] at h
  rcases List.mem_cons.1 hs with rfl|hs
  ·exact h.1
  ·have:=asc_lt r x.1 s h.2 hs
   omega
theorem row_at (l:List Sc) (i:Nat) (h:i<l.length):wr l=(hea l++rows (hd l.length) (l.take i))++(row l[i] (hd l.length+tot (l.take i))++(rows (hd l.length+tot (l.take i)+up l[i].2.length) (l.drop (i+1))++zs (16+12*l.length)++body l)):=by
 have e:rows (hd l.length) l=rows (hd l.length) (l.take i)++(row l[i] (hd l.length+tot (l.take i))++rows (hd l.length+tot (l.take i)+up l[i].2.length) (l.drop (i+1))):=by
  generalize hd l.length=H
  conv=>lhs;rw [← List.take_append_drop i l,List.drop_eq_getElem_cons h,rows_app,rows]
 rw [wr,frt,tab,e]
 simp only [List.append_assoc]
theorem sub_row (l:List Sc) (i j n:Nat) (h:i<l.length) (hj:j+n≤12):sub (wr l) (16+12*i+j) n=sub (row l[i] (hd l.length+tot (l.take i))) j n:=by
 have hp:(hea l++rows (hd l.length) (l.take i)).length=16+12*i:=by
  rw [List.length_append,hea_len,rows_len,List.length_take,Nat.min_eq_left (by omega)]
 rw [← sub_sub (wr l) (16+12*i) 12 j n hj,row_at l i h,sub_app _ _ _ _ _ hp (row_len _ _)]
theorem row_parts (s:Sc) (a:Nat):sub (row s a) 0 4=le 4 s.1.toNat∧sub (row s a) 4 4=le 4 a∧sub (row s a) 8 4=le 4 s.2.length:=by
 refine⟨?_,?_,?_⟩
 ·have:=sub_app [] (le 4 s.1.toNat) (le 4 a++le 4 s.2.length) 0 4 rfl (le_len _ _)
  rw [row,List.append_assoc];simpa using this
 ·rw [row,List.append_assoc]
  exact sub_app _ _ _ _ _ (le_len _ _) (le_len _ _)
 ·have:=sub_app (le 4 s.1.toNat++le 4 a) (le 4 s.2.length) [] 8 4 (by simp [le_len]) (le_len _ _)
  rw [row];simpa using this
theorem data_at (l:List Sc) (i:Nat) (h:i<l.length):sub (wr l) (hd l.length+tot (l.take i)) l[i].2.length=l[i].2:=by
 have e:wr l=(frt l++body (l.take i))++(l[i].2++(zs l[i].2.length++body (l.drop (i+1)))):=by
  have e1:body l=body (l.take i)++(l[i].2++zs l[i].2.length++body (l.drop (i+1))):=by
   conv=>lhs;rw [← List.take_append_drop i l,List.drop_eq_getElem_cons h,body_app,body]
  rw [wr,e1]
  simp only [List.append_assoc]
 rw [e]
 exact sub_app _ _ _ _ _ (by rw [List.length_append,frt_len,body_len]) rfl
theorem nS_wr (l:List Sc) (h:l.length<65536):nS (wr l)=l.length:=by
 have e:wr l=[83,76,67,49]++le 2 1++(le 2 l.length++(le 4 (szL l)++le 4 0++rows (hd l.length) l++zs (16+12*l.length)++body l)):=by
  rw [wr,frt,tab,hea];simp only [List.append_assoc]
 unfold nS
 rw [e,sub_app _ _ _ _ _ (by simp [le_len]) (le_len _ _),va_le2 _ h]
theorem rd_wr (l:List Sc) (h:chkV l=0):(16≤(wr l).length∧∀ i,i<nS (wr l)→okR (wr l) i)∧rdT (wr l) (nS (wr l))=l:=by
 obtain⟨⟨h1,h2⟩,h3⟩:=chk0.1 h
 have hN:=nS_wr l (by omega)
 rw [hN]
 have hlen:=wr_len l
 have hup:=up_ge (16+12*l.length)
 have hsz:szL l=up (16+12*l.length)+tot l:=rfl
 have each:∀ i (hi:i<l.length),okR (wr l) i∧rd1 (wr l) i=l[i]:=fun i hi=>by
  obtain⟨r1,r2,r3⟩:=row_parts l[i] (hd l.length+tot (l.take i))
  have hk:=asc_lt l 0 l[i] h3 (List.getElem_mem hi)
  have ht:=tot_le l (i+1)
  rw [tot_step l i hi] at ht
  have hu:=up_ge l[i].2.length
  have hd':hd l.length=up (16+12*l.length):=rfl
  have e1:kiN (wr l) i=l[i].1.toNat:=by
   have:=sub_row l i 0 4 hi (by omega)
   unfold kiN
   rw [Nat.add_zero] at this
   rw [this,r1,va_le4 _ (by omega)]
  have e2:atN (wr l) i=hd l.length+tot (l.take i):=by
   have:=sub_row l i 4 4 hi (by omega)
   unfold atN
   rw [show 20+12*i=16+12*i+4 by omega,this,r2,va_le4 _ (by omega)]
  have e3:lnN (wr l) i=l[i].2.length:=by
   have:=sub_row l i 8 4 hi (by omega)
   unfold lnN
   rw [show 24+12*i=16+12*i+8 by omega,this,r3,va_le4 _ (by omega)]
  refine⟨⟨by omega,by rw [e2,e3];omega⟩,?_⟩
  unfold rd1
  rw [e1,e2,e3,data_at l i hi]
  apply Prod.ext
  ·show ((l[i].1.toNat:Nat):Int)=l[i].1
   omega
  ·rfl
 refine⟨⟨by omega,fun i hi=>(each i hi).1⟩,?_⟩
 apply List.ext_getElem
 ·rw [rdT_len]
 ·intro i h1 h2
  rw [rdT_at,(each i h2).2]
def rdOk (b:List UInt8):Prop:=(16≤b.length∧∀ i,i<nS b→okR b i)∧Is b (rdT b (nS b))
theorem rdOk_is {b:List UInt8} {l:List Sc} (h:Is b l):rdOk b∧rdT b (nS b)=l:=by
 obtain⟨h1,rfl⟩:=h
 have h2:=rd_wr l h1
 exact⟨⟨h2.1,by rw [h2.2];exact⟨h1,rfl⟩⟩,h2.2⟩
end Go.Proofs.YtihiggnglmhggaaGreatDoor.L15
end
section
namespace Go.Proofs.YtihiggnglmhggaaGreatDoor.L14
open Go.RowKit
attribute [local go_sem] Oper.semAt_some
def tot (l:List (List UInt8)):Nat:=(l.map List.length).sum
theorem tot_le:∀ (l:List (List UInt8)) (k:Nat),tot (l.take k)≤tot l
 | [],k=>by simp [tot]
 | x::r,0=>by simp [tot]
 | x::r,k+1=>by
  have:=tot_le r k
  simp only [tot,List.take_succ_cons,List.map_cons,List.sum_cons] at this ⊢
  omega
theorem tot_step (l:List (List UInt8)) (k:Nat) (h:k<l.length):tot (l.take (k+1))=tot (l.take k)+l[k].length:=by
 unfold tot
 rw [List.take_add_one,List.getElem?_eq_getElem h,List.map_append,List.sum_append]
 simp [-List.map_take]
theorem bd_len:∀ l:List (List UInt8),(bd l).length=tot l+l.length
 | []=>rfl
 | x::r=>by
  rw [bd_cons]
  have:=bd_len r
  simp only [tot,List.map_cons,List.sum_cons,List.length_append,List.length_cons] at this ⊢
  omega
theorem tb_len (l:List (List UInt8)):(tb l).length=1+tot l+l.length:=by
 unfold tb
 rw [List.length_cons,bd_len];omega
theorem owns_slice {w:World} {base e:TypeId} {size:Nat} {v:Value} {n:Nat} {xs:List Value} (h:w.ownsRow base e size v n xs):∃ a c,v=.slice a n c:=by
 rcases h.2 with ⟨rfl,rfl⟩|⟨g,cap,cur,rfl,_⟩
 ·exact⟨_,_,rfl⟩
 ·exact⟨_,_,rfl⟩
theorem own_base {w:World} {base:Nat} {e:TypeId} {size:Nat} {v:Value} {n:Nat} {xs:List Value} (h:w.ownsRow base e size v n xs):∀ k,v.ownBlock=some k→base≤k:=by
 intro k hk
 rcases h.2 with ⟨rfl,_⟩|⟨g,cap,cur,rfl,hb,_⟩
 ·cases hk
 ·simp [Value.ownBlock] at hk
  omega
theorem own_ty {w:World} {base e:TypeId} {size:Nat} {v:Value} {n:Nat} {xs:List Value} {g:Nat} (h:w.ownsRow base e size v n xs) (hg:v.ownBlock=some g):∃ cur,w.heap[g]?=some (.cells cur e (0,0)):=by
 rcases h.2 with ⟨rfl,_⟩|⟨g',cap,cur,rfl,_,hh,_⟩
 ·cases hg
 ·obtain rfl:g'=g:=by simpa [Value.ownBlock] using hg
  exact⟨cur,hh⟩
theorem own_two {W W':World} {B B' eA eB n m:Nat} {vA vB:Value} {xs ys:List Value} (hA:W.ownsRow B eA 1 vA n xs) (hB:W.ownsRow B' eB 1 vB m ys) (he:eA≠eB) (hg:W.grownBy W' vB.ownBlock):W'.ownsRow B eA 1 vA n xs:=by
 refine hA.kept hg ?_
 cases hv:vA.ownBlock with
 | none=>exact .inl rfl
 | some g =>
  refine .inr fun e=>?_
  obtain⟨c1,h1⟩:=own_ty hA hv
  obtain⟨c2,h2⟩:=own_ty hB e.symm
  rw [h1] at h2
  cases h2
  exact he rfl
theorem infoInt:(Tryz.prog.info? 3).map (fun i=>(i.zero,i.size,i.bytes))=some (some (.int .i64 0),1,8):=by kernel_rfl
theorem infoByte:(Tryz.prog.info? 5).map (fun i=>(i.zero,i.size,i.bytes))=some (some (.int .u8 0),1,1):=by kernel_rfl
theorem infoText:(Tryz.prog.info? 9).map (fun i=>(i.zero,i.size,i.bytes))=some (some (.string ⟨#[]⟩),1,16):=by kernel_rfl
theorem ofs_snoc:∀ (l:List (List UInt8)) (st:Nat) (t:List UInt8),ofs st (l++[t])=ofs st l++[st+(bd l).length]
 | [],st,t=>by simp [ofs,bd]
 | x::r,st,t=>by
  rw [List.cons_append,ofs,ofs,ofs_snoc r,bd_cons,List.cons_append]
  congr 3
  simp only [List.length_append,List.length_cons];omega
theorem take_snoc {α:Type} (l:List α) (k:Nat) (h:k<l.length):l.take (k+1)=l.take k++[l[k]]:=by
 rw [List.take_add_one,List.getElem?_eq_getElem h];rfl
theorem tb_snoc (l:List (List UInt8)) (t:List UInt8):tb (l++[t])=tb l++t++[0]:=by
 unfold tb
 rw [bd_snoc];simp
theorem wpList_copy_str {P:Program} {w:World} {ops:Array Oper} {rest:List Oper} {o:Oper} {a:Act} {Q:Exit→Act→World→Prop} (hgd:o.guard=none) (d s:Operand) (dT sT:TypeId)
  (ho:o.op=.call { callee:=.builtin .copy,args:=#[d,s],argTypes:=#[dT,sT] }) (elem:TypeId) (hu:P.underlying dT=some (.slice elem)) (hsz:(P.info? elem).map (·.size)=some 1)
  (g off dLen dCap:Nat) (S:ByteArray) (hd:a.eval d=.slice (some ⟨g,off,none⟩) dLen dCap) (hs:a.eval s=.string S)
  (cur:Array Value) (t:TypeId) (hg:w.heap[g]?=some (.cells cur t (0,0))) (hle:S.size≤dLen) (hfit:off+S.size≤cur.size)
  (h:∀ w',w'=w.setRow g (cur.toList.take off++Lib.byteCells S.data.toList++cur.toList.drop (off+S.size)).toArray→wpList P ops Q rest (a.put o.dst (goInt S.size)) w'):wpList P ops Q (o::rest) a w:=by
 refine wpList_plain hgd fun K hK=>?_
 have hrun:=Lib.run_copy_row_string (P:=P) w dT sT o.type elem g off dLen dCap S cur t hu hsz hg hle hfit
 unfold Oper.wp
 simp [execOp,ho,resolve,invoke,builtin,hd,hs,hrun,Result.andThen]
 exact hK _ _ (h _ (by simp))
def rowZ {α:Type} (enc:α→Value) (z:Value) (xs:List α) (N:Nat):Array Value:=(xs.map enc++List.replicate (N-xs.length) z).toArray
theorem rowZ_size {α:Type} (enc:α→Value) (z:Value) (xs:List α) (N:Nat) (h:xs.length≤N):(rowZ enc z xs N).size=N:=by
 simp [rowZ];omega
theorem rowZ_made {α:Type} (enc:α→Value) (z:Value) (N:Nat):madeCells #[z] N=rowZ enc z [] N:=by
 apply Array.ext
 ·simp [size_madeCells,rowZ]
 ·intro i h1 h2
  simp [madeCells,rowZ,Nat.mod_one]
theorem rowZ_zero {α:Type} (enc:α→Value) (z:Value) (xs:List α) (x:α) (N:Nat) (hx:enc x=z) (h:xs.length<N):rowZ enc z xs N=rowZ enc z (xs++[x]) N:=by
 unfold rowZ
 obtain⟨m,hm⟩:∃ m,N-xs.length=m+1:=⟨N-xs.length-1,by omega⟩
 rw [hm,List.length_append,List.length_cons,List.length_nil,show N-(xs.length+(0+1))=m by omega,List.replicate_succ,List.map_append,List.map_cons,List.map_nil,hx]
 simp
theorem rowZ_set {α:Type} (enc:α→Value) (z:Value) (xs:List α) (x:α) (N:Nat) (h:xs.length<N):(rowZ enc z xs N).setIfInBounds xs.length (enc x)=rowZ enc z (xs++[x]) N:=by
 unfold rowZ
 rw [List.setIfInBounds_toArray]
 congr 1
 rw [List.set_append_right _ _ (by simp)]
 simp only [List.length_map,Nat.sub_self,List.map_append,List.map_cons,List.map_nil,List.length_append,List.length_cons,List.length_nil]
 obtain⟨m,hm⟩:∃ m,N-xs.length=m+1:=⟨N-xs.length-1,by omega⟩
 rw [hm,List.replicate_succ,List.set_cons_zero,show N-(xs.length+(0+1))=m by omega]
 simp
theorem rowZ_copy {α:Type} (enc:α→Value) (z:Value) (xs ys:List α) (N:Nat) (h:xs.length+ys.length≤N) :
  ((rowZ enc z xs N).toList.take xs.length++ys.map enc++(rowZ enc z xs N).toList.drop (xs.length+ys.length)).toArray=rowZ enc z (xs++ys) N:=by
 unfold rowZ
 congr 1
 rw [List.take_append_of_le_length (by simp),List.take_of_length_le (by simp),List.drop_append,List.drop_eq_nil_of_le (by simp),List.nil_append,List.length_map,List.drop_replicate,List.map_append,List.length_append]
 congr 2
 omega
theorem rowZ_at {α:Type} (enc:α→Value) (z:Value) (xs:List α) (N j:Nat) (h:j<xs.length):(rowZ enc z xs N)[j]?=some (enc xs[j]):=by
 unfold rowZ
 rw [List.getElem?_toArray,List.getElem?_append_left (by simpa using h)]
 simp [h]
theorem rowZ_next {α:Type} (enc:α→Value) (z:Value) (xs:List α) (N:Nat) (h:xs.length<N):(rowZ enc z xs N)[xs.length]?=some z:=by
 unfold rowZ
 rw [List.getElem?_toArray,List.getElem?_append_right (by simp),List.length_map,Nat.sub_self,List.getElem?_replicate,if_pos (by omega)]
theorem Rw.rowZ {α:Type} {enc:α→Value} {z:Value} {w:World} {g N:Nat} {t:TypeId} {xs:List α} (hg:w.heap[g]?=some (.cells (rowZ enc z xs N) t (0,0))) (hN:xs.length=N):Rw enc w (.slice (some ⟨g,0,none⟩) N N) xs:=by
 subst hN
 refine⟨_,_,rfl,Nat.le_refl _,fun e=>(by cases e),fun _=>⟨g,0,rfl,lt_of_block hg,fun j hj=>?_⟩⟩
 rw [Nat.zero_add,← rowZ_at enc z xs xs.length j hj]
 unfold World.cell?
 simp only [hg]
 rfl
theorem cells_set {w:World} {b k:Nat} {cs:Array Value} {v:Value} {t:TypeId} {fr:Nat × Nat} (h:w.heap[b]?=some (.cells cs t fr)):(w.setCell ⟨b,k,none⟩ v).heap[b]?=some (.cells (cs.setIfInBounds k v) t fr):=by
 have hlt:=lt_of_block h
 have h':w.heap[b]=.cells cs t fr:=by simpa [Array.getElem?_eq_getElem hlt] using h
 show (w.heap.modify b _)[b]?=_
 rw [Array.getElem?_eq_getElem (by simpa using hlt),Array.getElem_modify_self,h']
 rfl
theorem cell_in {w:World} {b k:Nat} {cs:Array Value} {t:TypeId} (h:w.heap[b]?=some (.cells cs t (0,0))):w.cell? ⟨b,k,none⟩=cs[k]?∧w.frozen? ⟨b,k,none⟩=false:=by
 simp [World.cell?,World.frozen?,h]
def BuP (l:List (List UInt8)) (e:Ending) (w':World):Prop :=
 ((∃ t∈l,rt t=false)∧e=.returned (.tuple #[.slice none 0 0,.slice none 0 0,.int .i64 7])) ∨
  ((∀ t∈l,rt t=true)∧∃ a1 c1 a2 c2,e=.returned (.tuple #[.slice a1 (tb l).length c1,.slice a2 l.length c2,.int .i64 0])∧Rw eB w' (.slice a1 (tb l).length c1) (tb l)∧Rw eN w' (.slice a2 l.length c2) (ofs 1 l))
theorem build_at (v:Value) (l:List (List UInt8)) (w:World) (h:Rw eT w v l) (hl:l.length≤10000) (ht:tot l≤100000) :
  Calls Tryz.prog 154 #[v] w fun e w'=>BuP l e w'∧Below w.heap.size w w':=by
 obtain⟨ii,hi,hz0,hz1,hz2⟩:=info_parts infoInt
 obtain⟨ib,ki,kz0,kz1,kz2⟩:=info_parts infoByte
 obtain⟨n,hn⟩:∃ n,l.length=n:=⟨_,rfl⟩
 obtain⟨a,c,rfl,-,-,hc⟩:=h.form hn
 rw [hn] at hl
 have HN:=Lib.hid hn
 have HC:=Lib.hid hc
 have HT:=Lib.hid ht
 clear hn hc h ht
 go_enter Tryz.func154,Tryz.ntmps154
 go_wp2
 go_loop [5,7,15] (fun z _ i=>∃ k:Nat,k≤n∧i=.int .i64 (k:Int)∧z=.int .i64 ((1+tot (l.take k)+k:Nat):Int)∧Hid (∀ t∈l.take k,rt t=true)) (fun _ _ i=>n-(intOf i).toNat)
 case atStart=>exact⟨0,Nat.zero_le _,rfl,by simp [tot],Lib.hid (by simp)⟩
 case round =>
  obtain⟨k,hk,rfl,rfl,hR⟩:=hrel
  by_cases hlt:k<n
  ·have hkl:k<l.length:=by rw [HN.out];exact hlt
   obtain⟨bb,o,rfl,hbb,hcc⟩:=HC.out (by omega)
   have hx:=hcc k hkl
   unfold eT at hx
   have hTs:=mkB_size l[k]
   have hst:=tot_step l k hkl
   have hto:=tot_le l (k+1)
   have ht:=HT.out
   have hsn:=take_snoc l k hkl
   have hlt':(k:Int)<(n:Int):=by omega
   by_cases hr:rt l[k]=true
   ·obtain⟨hne,hzz⟩:=rt_iff.1 hr
    have HSC:=Lib.hid (fun w=>scont_at l[k] (mkB l[k]) rfl false (by rw [fz_none.2 hzz];rfl) w)
    have hR2:∀ t∈l.take (k+1),rt t=true:=by
     rw [hsn]
     intro t htm
     rcases List.mem_append.1 htm with h|h
     ·exact hR.out t h
     ·rw [List.mem_singleton.1 h];exact hr
    have HR2:=Lib.hid hR2
    have hte:(mkB l[k]).toList.isEmpty=false:=by
     rw [Lib.toList_data,mkB_list]
     cases h:l[k] with
     | nil=>exact absurd h hne
     | cons _ _=>rfl
    have hz2':((1+tot (l.take (k+1))+(k+1):Nat):Int)=((1+tot (l.take k)+k:Nat):Int)+(((mkB l[k]).size:Int)+1):=by rw [hst,hTs];omega
    have HZ:=Lib.hid hz2'
    obtain⟨T,hT⟩:∃ T,mkB l[k]=T:=⟨_,rfl⟩
    have hbd:1+tot (l.take k)+k+T.size≤200000:=by rw [← hT,hTs];omega
    rw [hT] at hx HSC hte HZ
    obtain⟨z,hz⟩:∃ z,1+tot (l.take k)+k=z:=⟨_,rfl⟩
    rw [hz] at hbd HZ ⊢
    clear hcc hTs hst hto ht hsn hr hR hR2 hz2' hT hne hzz hz
    go_wp2_with (go_at_call 183;((with_reducible refine (HSC.out _).mono ?_);rintro e w1 ⟨rfl,rfl⟩))
    go_round
    case rel=>exact⟨k+1,by omega,by go_num,by rw [HZ.out],HR2⟩
    case measure=>simp [intOf];omega
   ·have hrf:rt l[k]=false:=by simpa using hr
    have HB:=Lib.hid (show ∃ t∈l,rt t=false from ⟨l[k],List.getElem_mem hkl,hrf⟩)
    by_cases hne:l[k]=[]
    ·have hx2:w.cell? ⟨bb,o+k,none⟩=some (.string ⟨#[]⟩):=by rw [hx,hne];rfl
     clear hcc hTs hst hto ht hsn hr hR hrf hne hx
     go_wp2
     refine bodyPost_ret (v:=.tuple #[.slice none 0 0,.slice none 0 0,.int .i64 7]) (by simp [results,Tryz.results154,go_sem]) rfl ⟨.inl ⟨HB.out,rfl⟩,Below.refl _ _⟩
    ·have hzz:(fz l[k]).isSome=true:=by
      unfold rt at hrf
      have:l[k].isEmpty=false:=by simpa using hne
      rw [this] at hrf
      cases hf:fz l[k] with
      | none=>rw [hf] at hrf;cases hrf
      | some _=>rfl
     have HSC:=Lib.hid (fun w=>scont_at l[k] (mkB l[k]) rfl true hzz w)
     have hte:(mkB l[k]).toList.isEmpty=false:=by
      rw [Lib.toList_data,mkB_list]
      cases h:l[k] with
      | nil=>exact absurd h hne
      | cons _ _=>rfl
     obtain⟨T,hT⟩:∃ T,mkB l[k]=T:=⟨_,rfl⟩
     rw [hT] at hx HSC hte
     clear hcc hTs hst hto ht hsn hr hR hrf hne hT hzz
     go_wp2_with (go_at_call 183;((with_reducible refine (HSC.out _).mono ?_);rintro e w1 ⟨rfl,rfl⟩))
     refine bodyPost_ret (v:=.tuple #[.slice none 0 0,.slice none 0 0,.int .i64 7]) (by simp [results,Tryz.results154,go_sem]) rfl ⟨.inl ⟨HB.out,rfl⟩,Below.refl _ _⟩
  ·obtain rfl:k=n:=by omega
   have e:l.take k=l:=List.take_of_length_le (by rw [HN.out];exact Nat.le_refl _)
   rw [e] at hR
   have hNN:1+tot (l.take k)+k=(tb l).length:=by rw [e,tb_len,HN.out]
   have htl:=tb_len l
   have ht:=HT.out
   rw [HN.out] at htl
   rw [hNN]
   obtain⟨N,hN⟩:∃ N,(tb l).length=N:=⟨_,rfl⟩
   rw [hN] at htl ⊢
   have HNN:=Lib.hid hN
   have HTL:=Lib.hid htl
   have hN1:N≤200000:=by omega
   clear e hNN htl ht hN
   go_wp2_with (first
    | (at_make;refine wpList_make_row _ rfl _ _ 23 rfl 5 ib (.int .u8 0) Tryz.underlying23 ki kz0 kz1 rfl .i64 .i64 N rfl rfl (by rw [kz2];omega) (by omega) ?_)
    | (at_make;refine wpList_make_row _ rfl _ _ 46 rfl 3 ii (.int .i64 0) Tryz.underlying46 hi hz0 hz1 rfl .i64 .i64 k rfl rfl (by rw [hz2];omega) (by omega) ?_))
   rw [rowZ_made eB,rowZ_made eN]
   have hsz8:(Tryz.prog.info? 5).map (·.size)=some 1:=by rw [ki];simp [kz1]
   go_loopw [10,11,12,38] (fun off _ _ j wr=>∃ q L:Nat,q≤k∧j=.int .i64 (q:Int)∧off=.int .i64 (L:Int)∧Hid ((tb (l.take q)).length=L)∧wr.heap[w.heap.size]?=some (.cells (rowZ eB (.int .u8 0) (tb (l.take q)) N) 5 (0,0))∧wr.heap[w.heap.size+1]?=some (.cells (rowZ eN (.int .i64 0) (ofs 1 (l.take q)) k) 3 (0,0))∧Below w.heap.size w wr) (fun _ _ _ j _=>k-(intOf j).toNat)
   case atStart =>
    refine⟨0,1,Nat.zero_le _,rfl,rfl,Lib.hid (by simp [tb,bd]),?_,?_,bch (bnew _ _) (bnew _ _)⟩
    ·have h1:=((bnew (w.alloc (.cells (rowZ eB (.int .u8 0) [] N) 5)) (.cells (rowZ eN (.int .i64 0) [] k) 3)).block w.heap.size (by simp)).trans (heap_alloc_new w (.cells (rowZ eB (.int .u8 0) [] N) 5))
     rw [h1,rowZ_zero eB (.int .u8 0) [] 0 N rfl (by rw [HTL.out];simp;omega)]
     simp [tb,bd]
    ·have h1:=heap_alloc_new (w.alloc (.cells (rowZ eB (.int .u8 0) [] N) 5)) (.cells (rowZ eN (.int .i64 0) [] k) 3)
     simp only [World.size_alloc] at h1
     rw [h1];simp [ofs]
   case round =>
    obtain⟨q,L,hq,rfl,rfl,hL,hG0,hG1,hBw⟩:=hrel
    have hsz:=hBw.size
    by_cases hlt2:q<k
    ·have hkl:q<l.length:=by rw [HN.out];exact hlt2
     obtain⟨bb,o,rfl,hbb,hcc⟩:=HC.out (by omega)
     have hx0:=hcc q hkl
     unfold eT at hx0
     have hTs:=mkB_size l[q]
     have hst:=tot_step l q hkl
     have hto:=tot_le l (q+1)
     have hLo:=hL.out
     rw [tb_len,List.length_take,HN.out,Nat.min_eq_left hq] at hLo
     have htl:=HTL.out
     have hsn:=take_snoc l q hkl
     have htb:=tb_snoc (l.take q) l[q]
     have hof:=ofs_snoc (l.take q) 1 l[q]
     rw [← hsn] at htb hof
     have hbl:1+(bd (l.take q)).length=L:=by rw [← hL.out,tb,List.length_cons];omega
     rw [hbl] at hof
     have hol:(ofs 1 (l.take q)).length=q:=by rw [ofs_len,List.length_take,HN.out];omega
     have hLN:L+l[q].length+1≤N:=by omega
     have hX:((rowZ eB (.int .u8 0) (tb (l.take q)) N).toList.take L++Lib.byteCells (mkB l[q]).data.toList++(rowZ eB (.int .u8 0) (tb (l.take q)) N).toList.drop (L+(mkB l[q]).size)).toArray=rowZ eB (.int .u8 0) (tb (l.take (q+1))) N:=by
      have h1:=rowZ_copy eB (.int .u8 0) (tb (l.take q)) l[q] N (by rw [hL.out];omega)
      rw [hL.out] at h1
      rw [mkB_list,hTs,htb,← rowZ_zero eB (.int .u8 0) (tb (l.take q)++l[q]) 0 N rfl (by rw [List.length_append,hL.out];omega),← h1]
      rfl
     have hO:(rowZ eN (.int .i64 0) (ofs 1 (l.take q)) k).setIfInBounds q (.int .i64 (L:Int))=rowZ eN (.int .i64 0) (ofs 1 (l.take (q+1))) k:=by
      have h1:=rowZ_set eN (.int .i64 0) (ofs 1 (l.take q)) L k (by rw [hol];exact hlt2)
      rw [hol] at h1
      rw [h1,hof]
     have hLen2:(tb (l.take (q+1))).length=L+((mkB l[q]).size+1):=by
      rw [htb,List.length_append,List.length_append,hL.out,hTs];rfl
     have hrs:=rowZ_size eB (.int .u8 0) (tb (l.take q)) N (by rw [hL.out];omega)
     obtain⟨cB,fB⟩:=cell_in (k:=q) hG1
     have hnx:=rowZ_next eN (.int .i64 0) (ofs 1 (l.take q)) k (by rw [hol];exact hlt2)
     rw [hol] at hnx
     rw [hnx] at cB
     have hx:wr.cell? ⟨bb,o+q,none⟩=some (.string (mkB l[q])):=(hBw.cell (by exact hbb)).trans hx0
     obtain⟨T,hT⟩:∃ T,mkB l[q]=T:=⟨_,rfl⟩
     rw [hT] at hx hX hLen2 hTs
     rw [← hTs] at hLN
     have hs:∀ W,(Instr.slice 23 (.slice (some ⟨w.heap.size,0,none⟩) N N) (some (.int .i64 (L:Int))) none none).run Tryz.prog W=.ok (.slice (some ⟨w.heap.size,L,none⟩) (N-L) (N-L)) W:=fun W=>by
      rw [run_from und8 size8 _ N N L (by omega) (Nat.le_refl _) W,if_neg (by omega)]
      simp [add0]
     have hG0':(wr.setCell ⟨w.heap.size+1,q,none⟩ (.int .i64 (L:Int))).heap[w.heap.size]?=some (.cells (rowZ eB (.int .u8 0) (tb (l.take q)) N) 5 (0,0)):=(Below.heap_setCell _ _ _ _ (by simp)).trans hG0
     have hG1':(wr.setCell ⟨w.heap.size+1,q,none⟩ (.int .i64 (L:Int))).heap[w.heap.size+1]?=some (.cells (rowZ eN (.int .i64 0) (ofs 1 (l.take (q+1))) k) 3 (0,0)):=by rw [← hO];exact cells_set hG1
     have hB1:=hBw.setCell (p:=⟨w.heap.size+1,q,none⟩) (Nat.le_succ _) (.int .i64 (L:Int))
     have HG:=Lib.hid (And.intro hG0' (And.intro hG1' hB1))
     have HX:=Lib.hid hX
     have H2:=Lib.hid hLen2
     have hlt2':(q:Int)<(k:Int):=by omega
     have HRS:=Lib.hid hrs
     obtain⟨cur,hcur⟩:∃ cur,rowZ eB (.int .u8 0) (tb (l.take q)) N=cur:=⟨_,rfl⟩
     rw [hcur] at HG HX HRS
     clear hcc hx0 hTs hst hto hLo htl hsn htb hof hbl hol hX hO hLen2 hrs hnx hT hG0' hG1' hB1 hcur hL hG0 hG1
     go_wp2_with (with_reducible refine wpList_copy_str rfl _ _ 23 9 rfl 5 Tryz.underlying23 hsz8 w.heap.size L (N-L) (N-L) T rfl rfl cur 5 HG.out.1 (by omega) (by rw [HRS.out];omega) ?_;intro w2 hw2;have H3:=Lib.hid hw2;clear hw2)
     have h0:w2.heap[w.heap.size]?=some (.cells (rowZ eB (.int .u8 0) (tb (l.take (q+1))) N) 5 (0,0)):=by
      rw [H3.out,HX.out]
      exact setRow_heap _ _ cur _ _ _ HG.out.1
     have h1:w2.heap[w.heap.size+1]?=some (.cells (rowZ eN (.int .i64 0) (ofs 1 (l.take (q+1))) k) 3 (0,0)):=by
      rw [H3.out]
      exact (setRow_other _ _ _ _ (by omega)).trans HG.out.2.1
     have h2:Below w.heap.size w w2:=by
      rw [H3.out]
      exact below_setRow HG.out.2.2 (Nat.le_refl _) _
     exact⟨⟨q+1,L+(T.size+1),by omega,by go_num,by go_num,H2,h0,h1,h2⟩,by simp [intOf];omega⟩
    ·obtain rfl:q=k:=by omega
     have e:l.take q=l:=List.take_of_length_le (by rw [HN.out];exact Nat.le_refl _)
     rw [e] at hG0 hG1
     have HB:=Lib.hid (Rw.rowZ hG0 HNN.out)
     have HO:=Lib.hid (Rw.rowZ hG1 (by rw [ofs_len,HN.out]))
     clear e hG0 hG1 hL
     go_wp2
     refine bodyPost_ret (v:=.tuple #[.slice (some ⟨w.heap.size,0,none⟩) N N,.slice (some ⟨w.heap.size+1,0,none⟩) q q,.int .i64 0]) (by simp [results,Tryz.results154,go_sem]) rfl ⟨.inr ⟨hR.out,some ⟨w.heap.size,0,none⟩,N,some ⟨w.heap.size+1,0,none⟩,q,by rw [HNN.out,HN.out],by rw [HNN.out];exact HB.out,by rw [HN.out];exact HO.out⟩,hBw⟩
end Go.Proofs.YtihiggnglmhggaaGreatDoor.L14
end
section
namespace Go.Proofs.YtihiggnglmhggaaGreatDoor.L5
open Go.RowKit L3 L1 L4
theorem own_bytes {w:World} {base:Nat} {v:Value} {n:Nat} {l:List UInt8} (h:w.ownsRow base 5 1 v n (byL l)):BsAt w v l:=by
 have hl:l.length=n:=by have:=h.1;rw [byL_len] at this;omega
 subst hl
 rcases h.2 with ⟨rfl,h0⟩|⟨g,cap,cur,rfl,hb,hg,hnc,hcm,hcs,htk⟩
 ·have:l=[]:=List.eq_nil_of_length_eq_zero h0
  subst this
  exact⟨none,0,rfl,by simp,by unfold maxLen;omega,.inl rfl⟩
 ·refine⟨_,cap,rfl,hnc,Nat.le_trans hnc hcm,.inr ⟨g,0,rfl,fun j hj=>?_⟩⟩
  have h1:(cur.toList.take (l.length*1))[j]?=some (.int .u8 (l[j].toNat:Int)):=by
   rw [htk];simp [byL,hj]
  rw [List.getElem?_take] at h1
  simp [hj] at h1
  rw [Nat.zero_add]
  exact cell_of hg (by simpa using h1)
end Go.Proofs.YtihiggnglmhggaaGreatDoor.L5
end
