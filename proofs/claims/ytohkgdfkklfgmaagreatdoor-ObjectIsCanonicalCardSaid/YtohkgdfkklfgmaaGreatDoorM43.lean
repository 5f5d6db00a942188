/- Lemmas and walks of L15Sm, L15Fn, L15Mm: what each theorem states; conditions stand in each theorem. -/
import Derived.Test.YtohkgdfkklfgmaaGreatDoorProg
import Derived.Test.YtohkgdfkklfgmaaGreatDoorM42
import Derived.Lib.EndianBits
section
namespace Go.Proofs.YtohkgdfkklfgmaaGreatDoor.L15
set_option maxRecDepth 100000
abbrev Sc:=Int × List UInt8
def up (n:Nat):Nat:=(n+7) / 8*8
theorem up_ge (n:Nat):n≤up n:=by unfold up;omega
theorem up_le (n:Nat):up n≤n+7:=by unfold up;omega
def tot:List Sc→Nat
 | []=>0
 | s::r=>up s.2.length+tot r
def hd (n:Nat):Nat:=up (16+12*n)
def szL (l:List Sc):Nat:=hd l.length+tot l
def asc:Int→List Sc→Bool
 | _,[]=>true
 | k,s::r=>decide (k<s.1) && decide (s.1≤65535) && asc s.1 r
def chkV (l:List Sc):Int:=if 16<l.length∨1073741824<szL l then 16 else if asc 0 l=true then 0 else 4
theorem tot_app:∀ (l r:List Sc),tot (l++r)=tot l+tot r
 | [],r=>by simp [tot]
 | s::l,r=>by rw [List.cons_append,tot,tot,tot_app l r,Nat.add_assoc]
theorem tot_step (l:List Sc) (k:Nat) (h:k<l.length):tot (l.take (k+1))=tot (l.take k)+up l[k].2.length:=by
 rw [List.take_add_one,List.getElem?_eq_getElem h,Option.toList,tot_app];simp [tot]
theorem tot_le (l:List Sc) (k:Nat):tot (l.take k)≤tot l:=by
 have h:=tot_app (l.take k) (l.drop k)
 rw [List.take_append_drop] at h
 omega
theorem tot_bound:∀ (l:List Sc) (m:Nat),(∀ s∈l,s.2.length≤m)→tot l≤l.length*(m+7)
 | [],_,_=>by simp [tot]
 | s::r,m,h=>by
  have h1:=tot_bound r m (fun x hx=>h x (List.mem_cons_of_mem _ hx))
  have h2:=h s (List.mem_cons_self ..)
  have h3:=up_le s.2.length
  rw [tot,List.length_cons,Nat.succ_mul]
  omega
def le:Nat→Nat→List UInt8
 | 0,_=>[]
 | n+1,z=>UInt8.ofNat (z % 256)::le n (z / 256)
def va:List UInt8→Nat
 | []=>0
 | c::l=>c.toNat+256*va l
theorem le_len:∀ (n z:Nat),(le n z).length=n
 | 0,_=>rfl
 | n+1,z=>by simp [le,le_len n]
theorem va_le:∀ (n z:Nat),va (le n z)=z % 256 ^ n
 | 0,z=>by simp [le,va,Nat.mod_one]
 | n+1,z=>by
  have e:256 ^ (n+1)=256*256 ^ n:=by rw [Nat.pow_succ,Nat.mul_comm]
  rw [le,va,va_le n,e,Nat.mod_mul,UInt8.toNat_ofNat']
  omega
theorem va_le2 (z:Nat) (h:z<65536):va (le 2 z)=z:=by rw [va_le];exact Nat.mod_eq_of_lt h
theorem va_le4 (z:Nat) (h:z<4294967296):va (le 4 z)=z:=by rw [va_le];exact Nat.mod_eq_of_lt h
theorem va_lt:∀ l:List UInt8,va l<256 ^ l.length
 | []=>by simp [va]
 | c::l=>by
  have h1:=va_lt l
  have h2:=c.toNat_lt
  rw [va,List.length_cons,Nat.pow_succ]
  omega
def zs (n:Nat):List UInt8:=List.replicate (up n-n) 0
theorem zs_len (n:Nat):(zs n).length=up n-n:=by simp [zs]
def row (s:Sc) (a:Nat):List UInt8:=le 4 s.1.toNat++le 4 a++le 4 s.2.length
def rows:Nat→List Sc→List UInt8
 | _,[]=>[]
 | a,s::r=>row s a++rows (a+up s.2.length) r
def body:List Sc→List UInt8
 | []=>[]
 | s::r=>s.2++zs s.2.length++body r
def hea (l:List Sc):List UInt8:=[83,76,67,49]++le 2 1++le 2 l.length++le 4 (szL l)++le 4 0
def tab (l:List Sc):List UInt8:=hea l++rows (hd l.length) l
def frt (l:List Sc):List UInt8:=tab l++zs (16+12*l.length)
def wr (l:List Sc):List UInt8:=frt l++body l
theorem row_len (s:Sc) (a:Nat):(row s a).length=12:=by simp [row,le_len]
theorem rows_len:∀ (l:List Sc) (a:Nat),(rows a l).length=12*l.length
 | [],_=>rfl
 | s::r,a=>by rw [rows,List.length_append,row_len,rows_len r,List.length_cons];omega
theorem hea_len (l:List Sc):(hea l).length=16:=by simp [hea,le_len]
theorem tab_len (l:List Sc):(tab l).length=16+12*l.length:=by rw [tab,List.length_append,hea_len,rows_len]
theorem frt_len (l:List Sc):(frt l).length=hd l.length:=by
 have:=up_ge (16+12*l.length)
 rw [frt,List.length_append,tab_len,zs_len,hd];omega
theorem body_len:∀ l:List Sc,(body l).length=tot l
 | []=>rfl
 | s::r=>by
  have:=up_ge s.2.length
  rw [body,List.length_append,List.length_append,zs_len,body_len r,tot];omega
theorem wr_len (l:List Sc):(wr l).length=szL l:=by rw [wr,List.length_append,frt_len,body_len,szL]
theorem rows_app:∀ (l r:List Sc) (a:Nat),rows a (l++r)=rows a l++rows (a+tot l) r
 | [],r,a=>by simp [rows,tot]
 | s::l,r,a=>by rw [List.cons_append,rows,rows,rows_app l r,tot,List.append_assoc,Nat.add_assoc]
theorem body_app:∀ (l r:List Sc),body (l++r)=body l++body r
 | [],r=>by simp [body]
 | s::l,r=>by rw [List.cons_append,body,body,body_app l r];simp only [List.append_assoc]
def sub (b:List UInt8) (i n:Nat):List UInt8:=(b.drop i).take n
theorem sub_len (b:List UInt8) (i n:Nat) (h:i+n≤b.length):(sub b i n).length=n:=by
 simp [sub];omega
theorem sub_app (p m r:List UInt8) (i n:Nat) (hi:p.length=i) (hn:m.length=n):sub (p++(m++r)) i n=m:=by
 subst hi hn
 unfold sub
 rw [List.drop_left,List.take_left]
theorem sub_sub (b:List UInt8) (i n j m:Nat) (h:j+m≤n):sub (sub b i n) j m=sub b (i+j) m:=by
 unfold sub
 rw [List.drop_take,List.take_take,List.drop_drop,Nat.min_eq_left (by omega)]
def kiN (b:List UInt8) (i:Nat):Nat:=va (sub b (16+12*i) 4)
def atN (b:List UInt8) (i:Nat):Nat:=va (sub b (20+12*i) 4)
def lnN (b:List UInt8) (i:Nat):Nat:=va (sub b (24+12*i) 4)
def rd1 (b:List UInt8) (i:Nat):Sc:=((kiN b i:Int),sub b (atN b i) (lnN b i))
def okR (b:List UInt8) (i:Nat):Prop:=16+12*i+12≤b.length∧atN b i+lnN b i≤b.length
instance (b:List UInt8) (i:Nat):Decidable (okR b i):=by unfold okR;infer_instance
def nS (b:List UInt8):Nat:=va (sub b 6 2)
def rdT (b:List UInt8) (n:Nat):List Sc:=(List.range n).map (rd1 b)
theorem rdT_len (b:List UInt8) (n:Nat):(rdT b n).length=n:=by simp [rdT]
theorem rdT_at (b:List UInt8) (n i:Nat) (h:i<(rdT b n).length):(rdT b n)[i]=rd1 b i:=by simp [rdT]
theorem rdT_snoc (b:List UInt8) (n:Nat):rdT b (n+1)=rdT b n++[rd1 b n]:=by simp [rdT,List.range_succ]
def Is (b:List UInt8) (l:List Sc):Prop:=chkV l=0∧wr l=b
theorem chk0 {l:List Sc}:chkV l=0↔(l.length≤16∧szL l≤1073741824)∧asc 0 l=true:=by
 unfold chkV
 by_cases h:16<l.length∨1073741824<szL l
 ·rw [if_pos h]
  constructor
  ·intro e;cases e
  ·intro e;omega
 ·rw [if_neg h]
  by_cases h2:asc 0 l=true
  ·rw [if_pos h2]
   simp only [h2,and_true,true_iff];omega
  ·rw [if_neg h2]
   constructor
   ·intro e;cases e
   ·intro e;exact absurd e.2 h2
theorem asc_lt:∀ (l:List Sc) (k:Int) (s:Sc),asc k l=true→s∈l→k<s.1∧s.1≤65535
 | [],_,_,_,h=>by cases h
 | x::r,k,s,h,hs=>by
  simp only [asc,Bool.and_eq_true,decide_eq_true_eq] at h
  rcases List.mem_cons.1 hs with rfl|hs
  ·exact h.1
  ·have:=asc_lt r x.1 s h.2 hs
   omega
theorem row_at (l:List Sc) (i:Nat) (h:i<l.length):wr l=(hea l++rows (hd l.length) (l.take i))++(row l[i] (hd l.length+tot (l.take i))++(rows (hd l.length+tot (l.take i)+up l[i].2.length) (l.drop (i+1))++zs (16+12*l.length)++body l)):=by
 have e:rows (hd l.length) l=rows (hd l.length) (l.take i)++(row l[i] (hd l.length+tot (l.take i))++rows (hd l.length+tot (l.take i)+up l[i].2.length) (l.drop (i+1))):=by
  generalize hd l.length=H
  conv=>lhs;rw [← List.take_append_drop i l,List.drop_eq_getElem_cons h,rows_app,rows]
 rw [wr,frt,tab,e]
 simp only [List.append_assoc]
theorem sub_row (l:List Sc) (i j n:Nat) (h:i<l.length) (hj:j+n≤12):sub (wr l) (16+12*i+j) n=sub (row l[i] (hd l.length+tot (l.take i))) j n:=by
 have hp:(hea l++rows (hd l.length) (l.take i)).length=16+12*i:=by
  rw [List.length_append,hea_len,rows_len,List.length_take,Nat.min_eq_left (by omega)]
 rw [← sub_sub (wr l) (16+12*i) 12 j n hj,row_at l i h,sub_app _ _ _ _ _ hp (row_len _ _)]
theorem row_parts (s:Sc) (a:Nat):sub (row s a) 0 4=le 4 s.1.toNat∧sub (row s a) 4 4=le 4 a∧sub (row s a) 8 4=le 4 s.2.length:=by
 refine⟨?_,?_,?_⟩
 ·have:=sub_app [] (le 4 s.1.toNat) (le 4 a++le 4 s.2.length) 0 4 rfl (le_len _ _)
  rw [row,List.append_assoc];simpa using this
 ·rw [row,List.append_assoc]
  exact sub_app _ _ _ _ _ (le_len _ _) (le_len _ _)
 ·have:=sub_app (le 4 s.1.toNat++le 4 a) (le 4 s.2.length) [] 8 4 (by simp [le_len]) (le_len _ _)
  rw [row];simpa using this
theorem data_at (l:List Sc) (i:Nat) (h:i<l.length):sub (wr l) (hd l.length+tot (l.take i)) l[i].2.length=l[i].2:=by
 have e:wr l=(frt l++body (l.take i))++(l[i].2++(zs l[i].2.length++body (l.drop (i+1)))):=by
  have e1:body l=body (l.take i)++(l[i].2++zs l[i].2.length++body (l.drop (i+1))):=by
   conv=>lhs;rw [← List.take_append_drop i l,List.drop_eq_getElem_cons h,body_app,body]
  rw [wr,e1]
  simp only [List.append_assoc]
 rw [e]
 exact sub_app _ _ _ _ _ (by rw [List.length_append,frt_len,body_len]) rfl
theorem nS_wr (l:List Sc) (h:l.length<65536):nS (wr l)=l.length:=by
 have e:wr l=[83,76,67,49]++le 2 1++(le 2 l.length++(le 4 (szL l)++le 4 0++rows (hd l.length) l++zs (16+12*l.length)++body l)):=by
  rw [wr,frt,tab,hea];simp only [List.append_assoc]
 unfold nS
 rw [e,sub_app _ _ _ _ _ (by simp [le_len]) (le_len _ _),va_le2 _ h]
theorem rd_wr (l:List Sc) (h:chkV l=0):(16≤(wr l).length∧∀ i,i<nS (wr l)→okR (wr l) i)∧rdT (wr l) (nS (wr l))=l:=by
 obtain⟨⟨h1,h2⟩,h3⟩:=chk0.1 h
 have hN:=nS_wr l (by omega)
 rw [hN]
 have hlen:=wr_len l
 have hup:=up_ge (16+12*l.length)
 have hsz:szL l=up (16+12*l.length)+tot l:=rfl
 have each:∀ i (hi:i<l.length),okR (wr l) i∧rd1 (wr l) i=l[i]:=fun i hi=>by
  obtain⟨r1,r2,r3⟩:=row_parts l[i] (hd l.length+tot (l.take i))
  have hk:=asc_lt l 0 l[i] h3 (List.getElem_mem hi)
  have ht:=tot_le l (i+1)
  rw [tot_step l i hi] at ht
  have hu:=up_ge l[i].2.length
  have hd':hd l.length=up (16+12*l.length):=rfl
  have e1:kiN (wr l) i=l[i].1.toNat:=by
   have:=sub_row l i 0 4 hi (by omega)
   unfold kiN
   rw [Nat.add_zero] at this
   rw [this,r1,va_le4 _ (by omega)]
  have e2:atN (wr l) i=hd l.length+tot (l.take i):=by
   have:=sub_row l i 4 4 hi (by omega)
   unfold atN
   rw [show 20+12*i=16+12*i+4 by omega,this,r2,va_le4 _ (by omega)]
  have e3:lnN (wr l) i=l[i].2.length:=by
   have:=sub_row l i 8 4 hi (by omega)
   unfold lnN
   rw [show 24+12*i=16+12*i+8 by omega,this,r3,va_le4 _ (by omega)]
  refine⟨⟨by omega,by rw [e2,e3];omega⟩,?_⟩
  unfold rd1
  rw [e1,e2,e3,data_at l i hi]
  apply Prod.ext
  ·show ((l[i].1.toNat:Nat):Int)=l[i].1
   omega
  ·rfl
 refine⟨⟨by omega,fun i hi=>(each i hi).1⟩,?_⟩
 apply List.ext_getElem
 ·rw [rdT_len]
 ·intro i h1 h2
  rw [rdT_at,(each i h2).2]
def rdOk (b:List UInt8):Prop:=(16≤b.length∧∀ i,i<nS b→okR b i)∧Is b (rdT b (nS b))
theorem rdOk_is {b:List UInt8} {l:List Sc} (h:Is b l):rdOk b∧rdT b (nS b)=l:=by
 obtain⟨h1,rfl⟩:=h
 have h2:=rd_wr l h1
 exact⟨⟨h2.1,by rw [h2.2];exact⟨h1,rfl⟩⟩,h2.2⟩
end Go.Proofs.YtohkgdfkklfgmaaGreatDoor.L15
end
section
set_option maxRecDepth 100000
set_option maxHeartbeats 2000000
namespace Go.Proofs.YtohkgdfkklfgmaaGreatDoor.L15
set_option maxRecDepth 100000
open Go.RowKit L14
attribute [local go_sem] Oper.semAt_some
theorem padded_at (n N:Nat) (w:World) (hn:n≤1000000000000) (hN:up n=N) :
  Calls Tryz.prog 63 #[.int .i64 (n:Int)] w fun e w'=>e=.returned (.int .i64 (N:Int))∧w=w':=by
 have e1:((n:Int)+8-1).tdiv 8*8=(N:Int):=by
  rw [← hN,Int.tdiv_eq_ediv_of_nonneg (by omega)];unfold up;omega
 have b1:=up_le n
 have HE:=Lib.hid e1
 go_enter Tryz.func63,Tryz.ntmps63
 go_wp2
 go_ret
 exact⟨rfl,rfl⟩
theorem rup_at (n N:Nat) (w:World) (hn:n≤1000000000000) (hN:up n=N) :
  Calls Tryz.prog 66 #[.int .i64 (n:Int)] w fun e w'=>e=.returned (.int .i64 (N:Int))∧w=w':=by
 have e1:((n:Int)+7).tdiv 8*8=(N:Int):=by
  rw [← hN,Int.tdiv_eq_ediv_of_nonneg (by omega)];unfold up;omega
 have b1:=up_le n
 have HE:=Lib.hid e1
 go_enter Tryz.func66,Tryz.ntmps66
 go_wp2
 go_ret
 exact⟨rfl,rfl⟩
theorem rowS_at (n:Nat) (N:Int) (w:World) (hn:n≤1000000000000) (hN:N=((16+12*n:Nat):Int)) :
  Calls Tryz.prog 75 #[.int .i64 (n:Int)] w fun e w'=>e=.returned (.int .i64 N)∧w=w':=by
 have e1:16+12*(n:Int)=N:=by rw [hN];omega
 have HE:=Lib.hid e1
 clear hN
 go_enter Tryz.func75,Tryz.ntmps75
 go_wp2
 go_ret
 exact⟨rfl,rfl⟩
theorem dataS_at (n N:Nat) (w:World) (hn:n≤10000000000) (hN:hd n=N) :
  Calls Tryz.prog 62 #[.int .i64 (n:Int)] w fun e w'=>e=.returned (.int .i64 (N:Int))∧w=w':=by
 have HR:=Lib.hid (fun w=>rowS_at n _ w (by omega) rfl)
 have HP:=Lib.hid (fun w=>padded_at (16+12*n) N w (by omega) hN)
 generalize 16+12*n=m at HR HP
 clear hN
 go_enter Tryz.func62,Tryz.ntmps62
 go_wp2_with (first
  | (go_at_call 75;((with_reducible refine (HR.out _).mono ?_);rintro e w1 ⟨rfl,rfl⟩))
  | (go_at_call 63;((with_reducible refine (HP.out _).mono ?_);rintro e w2 ⟨rfl,rfl⟩)))
 go_ret
 exact⟨rfl,rfl⟩
theorem i64_or (i:Nat) (y x:Int) (hy:0≤y) (hy1:y<2 ^ i) (hx:0≤x) (hx1:x % 2 ^ i=0) (hy2:y<9223372036854775808) (hx2:x<9223372036854775808):bits .or .i64 y x=y+x :=
 bits_join_low .i64 63 (by decide) (fun n h0 h1=>by simp [IntKind.wrap,IntKind.bits,IntKind.signed];omega) i y x hy hy1 hy2 hx hx1 hx2
theorem or1 (a:UInt8):bits .or .i64 0 (a.toNat:Int)=(a.toNat:Int):=by
 have ha:=a.toNat_lt
 rw [i64_or 0 0 _ (by omega) (by omega) (by omega) (by omega) (by omega) (by omega)];omega
theorem or2 (a b:UInt8):bits .or .i64 (a.toNat:Int) ((b.toNat:Int)*256)=(a.toNat:Int)+(b.toNat:Int)*256:=by
 have ha:=a.toNat_lt
 have hb:=b.toNat_lt
 exact i64_or 8 _ _ (by omega) (by omega) (by omega) (by omega) (by omega) (by omega)
theorem or3 (a b c:UInt8):bits .or .i64 ((a.toNat:Int)+(b.toNat:Int)*256) ((c.toNat:Int)*65536)=(a.toNat:Int)+(b.toNat:Int)*256+(c.toNat:Int)*65536:=by
 have ha:=a.toNat_lt
 have hb:=b.toNat_lt
 have hc:=c.toNat_lt
 exact i64_or 16 _ _ (by omega) (by omega) (by omega) (by omega) (by omega) (by omega)
theorem or4 (a b c d:UInt8):bits .or .i64 ((a.toNat:Int)+(b.toNat:Int)*256+(c.toNat:Int)*65536) ((d.toNat:Int)*16777216)=(a.toNat:Int)+(b.toNat:Int)*256+(c.toNat:Int)*65536+(d.toNat:Int)*16777216:=by
 have ha:=a.toNat_lt
 have hb:=b.toNat_lt
 have hc:=c.toNat_lt
 have hd:=d.toNat_lt
 exact i64_or 24 _ _ (by omega) (by omega) (by omega) (by omega) (by omega) (by omega)
theorem get2_at (v:Value) (l:List UInt8) (V:Nat) (w:World) (h:Rw eB w v l) (hl:l.length=2) (hV:va l=V) :
  Calls Tryz.prog 74 #[v] w fun e w'=>e=.returned (.int .i64 (V:Int))∧w=w':=by
 obtain⟨a,c,rfl,h1,h2,h3⟩:=h
 obtain⟨b,o,rfl,hb,hc⟩:=h3 (by omega)
 match l,hl with
 | [x,y],_ =>
  have c0:=hc 0 (by simp)
  have c1:=hc 1 (by simp)
  have o1:=or1 x
  have o2:=or2 x y
  have b1:=x.toNat_lt
  have b2:=y.toNat_lt
  have e:(x.toNat:Int)+(y.toNat:Int)*256=(V:Int):=by rw [← hV];simp [va];omega
  have HV:=Lib.hid e
  simp only [List.length_cons,List.length_nil,Nat.zero_add,Nat.reduceAdd,Nat.add_zero,List.getElem_cons_zero,List.getElem_cons_succ,eB] at c0 c1 ⊢
  clear hc h1 h2 h3 hV hb e
  go_enter Tryz.func74,Tryz.ntmps74
  go_wp2
  refine wp_loop_rounds 3 ?_
  repeat (rw [rounds_succ];go_wp2)
  go_ret
  exact⟨congrArg (fun z=>Ending.returned (.int .i64 z)) HV.out,rfl⟩
theorem get4_at (v:Value) (l:List UInt8) (V:Nat) (w:World) (h:Rw eB w v l) (hl:l.length=4) (hV:va l=V) :
  Calls Tryz.prog 74 #[v] w fun e w'=>e=.returned (.int .i64 (V:Int))∧w=w':=by
 obtain⟨a,c,rfl,h1,h2,h3⟩:=h
 obtain⟨b,o,rfl,hb,hc⟩:=h3 (by omega)
 match l,hl with
 | [x,y,z,u],_ =>
  have c0:=hc 0 (by simp)
  have c1:=hc 1 (by simp)
  have c2:=hc 2 (by simp)
  have c3:=hc 3 (by simp)
  have o1:=or1 x
  have o2:=or2 x y
  have o3:=or3 x y z
  have o4:=or4 x y z u
  have b1:=x.toNat_lt
  have b2:=y.toNat_lt
  have b3:=z.toNat_lt
  have b4:=u.toNat_lt
  have e:(x.toNat:Int)+(y.toNat:Int)*256+(z.toNat:Int)*65536+(u.toNat:Int)*16777216=(V:Int):=by rw [← hV];simp [va];omega
  have HV:=Lib.hid e
  simp only [List.length_cons,List.length_nil,Nat.zero_add,Nat.reduceAdd,Nat.add_zero,List.getElem_cons_zero,List.getElem_cons_succ,eB] at c0 c1 c2 c3 ⊢
  clear hc h1 h2 h3 hV hb e
  go_enter Tryz.func74,Tryz.ntmps74
  go_wp2
  refine wp_loop_rounds 5 ?_
  repeat (rw [rounds_succ];go_wp2)
  go_ret
  exact⟨congrArg (fun z=>Ending.returned (.int .i64 z)) HV.out,rfl⟩
theorem va_drop (l:List UInt8) (j:Nat) (h:j<l.length):va (l.drop j)=l[j].toNat+256*va (l.drop (j+1)):=by
 rw [List.drop_eq_getElem_cons h,va]
theorem sub_get (b:List UInt8) (i n j:Nat) (h:j<n) (h2:i+n≤b.length):∃ (k1:j<(sub b i n).length) (k2:i+j<b.length),(sub b i n)[j]=b[i+j]:=by
 refine⟨by rw [sub_len _ _ _ h2];exact h,by omega,?_⟩
 unfold sub
 rw [List.getElem_take,List.getElem_drop]
theorem rget_at (v:Value) (b:List UInt8) (i n V:Nat) (w:World) (h:Rw eB w v b) (hn:n≤4) (hl:i+n≤b.length) (hb:b.length≤1000000000) (hV:va (sub b i n)=V) :
  Calls Tryz.prog 39 #[v,.int .i64 (i:Int),.int .i64 (n:Int)] w fun e w'=>e=.returned (.int .u64 (V:Int))∧w=w':=by
 obtain⟨N,hN⟩:∃ N,b.length=N:=⟨_,rfl⟩
 obtain⟨a,c,rfl,-,-,hc⟩:=h.form hN
 rw [hN] at hl hb
 have HN:=Lib.hid hN
 have HC:=Lib.hid hc
 have HV:Hid (va ((sub b i n).drop 0)=V):=Lib.hid (by simpa using hV)
 have HL:=Lib.hid hl
 have HS:Hid ((sub b i n).length=n):=Lib.hid (sub_len b i n (by omega))
 clear hN hc hV h
 go_enter Tryz.func39,Tryz.ntmps39
 go_wp2
 go_loop [7,8] (fun x q=>∃ j:Nat,j≤n∧q=.int .i64 ((j:Int)-1)∧∃ X:Nat,x=.int .u64 (X:Int)∧X<4294967296∧Hid (va ((sub b i n).drop j)=X)) (fun _ q=>(intOf q+1).toNat)
 case atStart=>exact⟨n,Nat.le_refl _,by go_num,0,rfl,by decide,Lib.hid (by rw [List.drop_eq_nil_of_le (by rw [HS.out];exact Nat.le_refl _)];rfl)⟩
 case round =>
  obtain⟨j,hj,rfl,X,rfl,hX,hE⟩:=hrel
  cases j with
  | zero =>
   have e0:((0:Nat):Int)-1=-1:=rfl
   rw [e0]
   have hr:X=V:=hE.out.symm.trans HV.out
   subst hr
   go_wp2
   go_ret
   exact⟨rfl,rfl⟩
  | succ j =>
   have e1:((j+1:Nat):Int)-1=(j:Int):=by omega
   rw [e1]
   obtain⟨k1,k2,hg⟩:=sub_get b i n j (by omega) (by rw [HN.out];exact HL.out)
   obtain⟨bb,o,rfl,hbb,hcc⟩:=HC.out (by omega)
   have hx:=hcc (i+j) k2
   have hst:=va_drop (sub b i n) j k1
   rw [hg,hE.out] at hst
   have hlt:=va_lt ((sub b i n).drop j)
   have hln:((sub b i n).drop j).length≤4:=by rw [List.length_drop,HS.out];omega
   have h4:(256:Nat) ^ ((sub b i n).drop j).length≤256 ^ 4:=Nat.pow_le_pow_right (by decide) hln
   rw [hst] at hlt
   obtain⟨d,hd⟩:∃ d,b[i+j].toNat=d:=⟨_,rfl⟩
   unfold eB at hx
   rw [hd] at hx hst hlt
   have hb4:d+256*X<4294967296:=by omega
   have hb3:d<256:=by rw [← hd];exact UInt8.toNat_lt _
   have HST:=Lib.hid hst
   have hin:i+j<N:=by have:=HL.out;omega
   have hx':w.cell? ⟨bb,o+(i+j),none⟩=some (.int .u8 (d:Int)):=hx
   have hx2:w.cell? ⟨bb,o+(i+j:Int).toNat,none⟩=some (.int .u8 (d:Int)):=by
    rw [show (i+j:Int).toNat=i+j by omega];exact hx
   clear hcc hd hst hlt hln h4 hg hE k1 k2 e1 hx
   go_wp2
   go_round
   case rel=>exact⟨j,by omega,by go_num,d+256*X,by go_num,hb4,HST⟩
   case measure=>simp [intOf]
theorem le_snoc:∀ (n z:Nat),le (n+1) z=le n z++[UInt8.ofNat (z / 256 ^ n % 256)]
 | 0,z=>by simp [le]
 | n+1,z=>by
  rw [le,le_snoc n (z / 256),le,List.cons_append,Nat.div_div_eq_div_mul,show 256*256 ^ n=256 ^ (n+1) by rw [Nat.pow_succ,Nat.mul_comm]]
theorem run_three {t:TypeId} (ht:Tryz.prog.underlying t=some (.slice (Tryz.prog.elem t))) (hz:∀ w,(Go.sizeOf (Tryz.prog.elem t)).run Tryz.prog w=.ok 1 w) (g o n c k m:Nat) (hk:k<m) (hm:m≤c) (W:World) :
  (Instr.slice t (.slice (some ⟨g,o,none⟩) n c) (some (.int .i64 (k:Int))) (some (.int .i64 (m:Int))) (some (.int .i64 (m:Int)))).run Tryz.prog W=.ok (.slice (some ⟨g,o+k,none⟩) (m-k) (m-k)) W:=by
 rw [run_slice_lhm W t _ n c ht .i64 .i64 .i64 (k:Int) (m:Int) (m:Int) (by omega) (by omega) (by omega) (by omega)]
 simp [hz,Result.andThen,sliced,add0,show ¬ m=k by omega]
structure Oth (g:Nat) (w w':World):Prop where
 b:Below g w w'
 o:∀ k,k≠g→w'.heap[k]?=w.heap[k]?
theorem Oth.refl (g:Nat) (w:World):Oth g w w:=⟨Below.refl _ _,fun _ _=>rfl⟩
theorem Oth.setCell {g:Nat} {w w':World} (h:Oth g w w') (k:Nat) (v:Value):Oth g w (w'.setCell ⟨g,k,none⟩ v) :=
 ⟨h.b.setCell (p:=⟨g,k,none⟩) (Nat.le_refl _) v,fun j hj=>(Below.heap_setCell _ _ _ _ (by exact hj)).trans (h.o j hj)⟩
theorem Oth.cell {g:Nat} {w w':World} (h:Oth g w w') {k j:Nat} (hk:k≠g):w'.cell? ⟨k,j,none⟩=w.cell? ⟨k,j,none⟩:=by
 unfold World.cell?
 simp only [h.o k hk]
theorem put_at (g m N x:Nat) (xs:List UInt8) (o:Nat) (w:World) (ho:xs.length=o) (hm:m≤4) (hN:o+m≤N) (hNN:N≤1000000000) (hx:x<4294967296) (hg:w.heap[g]?=some (.cells (rowZ eB (.int .u8 0) xs N) 5 (0,0))) :
  Calls Tryz.prog 98 #[.slice (some ⟨g,o,none⟩) m m,.int .i64 (x:Int)] w fun e w'=>e=.returned (.tuple #[])∧w'.heap[g]?=some (.cells (rowZ eB (.int .u8 0) (xs++le m x) N) 5 (0,0))∧Oth g w w':=by
 have HO:=Lib.hid ho
 have HG:=Lib.hid hg
 clear ho hg
 go_enter Tryz.func98,Tryz.ntmps98
 go_wp2
 go_loopw [1,4,7] (fun y _ q wr=>∃ j:Nat,j≤m∧q=.int .i64 (j:Int)∧y=.int .i64 ((x / 256 ^ j:Nat):Int)∧Hid (wr.heap[g]?=some (.cells (rowZ eB (.int .u8 0) (xs++le j x) N) 5 (0,0))∧Oth g w wr)) (fun _ _ q _=>m-(intOf q).toNat)
 case atStart=>exact⟨0,Nat.zero_le _,rfl,by simp,Lib.hid ⟨by simpa [le] using HG.out,Oth.refl _ _⟩⟩
 case round =>
  obtain⟨j,hj,rfl,rfl,hI⟩:=hrel
  obtain⟨hG,hB⟩:=hI.out
  by_cases hlt:j<m
  ·have hlen:(xs++le j x).length=o+j:=by rw [List.length_append,HO.out,le_len]
   have hnx:=rowZ_next eB (.int .u8 0) (xs++le j x) N (by omega)
   have hst:=rowZ_set eB (.int .u8 0) (xs++le j x) (UInt8.ofNat (x / 256 ^ j % 256)) N (by omega)
   rw [hlen] at hnx hst
   rw [List.append_assoc,← le_snoc] at hst
   obtain⟨hc,hf⟩:=cell_in (k:=o+j) hG
   rw [hnx] at hc
   have hdv:x / 256 ^ j≤x:=Nat.div_le_self _ _
   have hnext:x / 256 ^ (j+1)=x / 256 ^ j / 256:=by rw [Nat.div_div_eq_div_mul,Nat.pow_succ]
   have hbv:eB (UInt8.ofNat (x / 256 ^ j % 256))=.int .u8 ((x / 256 ^ j % 256:Nat):Int):=by
    unfold eB
    rw [UInt8.toNat_ofNat']
    congr 2
    omega
   rw [hbv] at hst
   obtain⟨y,hy⟩:∃ y,x / 256 ^ j=y:=⟨_,rfl⟩
   rw [hy] at hdv hnext hst ⊢
   have HS:=Lib.hid (And.intro hG (And.intro hst hB))
   have HY:=Lib.hid hnext
   have hy4:y<4294967296:=by omega
   clear hI hG hB hlen hnx hst hnext hbv hy hdv
   go_wp2
   refine⟨⟨j+1,hlt,by go_num,by rw [HY.out];go_num,Lib.hid ⟨?_,HS.out.2.2.setCell _ _⟩⟩,by simp [intOf];omega⟩
   rw [← HS.out.2.1]
   exact cells_set HS.out.1
  ·obtain rfl:j=m:=by omega
   have HS:=Lib.hid (And.intro hG hB)
   clear hI hG hB
   go_wp2
   go_end0
   exact⟨rfl,HS.out.1,HS.out.2⟩
end Go.Proofs.YtohkgdfkklfgmaaGreatDoor.L15
end
section
set_option maxRecDepth 100000
set_option maxHeartbeats 2000000
namespace Go.Proofs.YtohkgdfkklfgmaaGreatDoor.L15
set_option maxRecDepth 100000
open Go.RowKit L14
attribute [local go_sem] Oper.semAt_some
def Ss (w:World) (v:Value) (l:List Sc):Prop :=
 ∃ a c,v=.slice a l.length c∧l.length≤c∧(a=none→c=0)∧(0<l.length→∃ b o,a=some ⟨b,o,none⟩∧b<w.heap.size∧∀ j,(h:j<l.length)→w.cell? ⟨b,o+j*2,none⟩=some (.int .i64 l[j].1)∧∃ dv,w.cell? ⟨b,o+j*2+1,none⟩=some dv∧Rw eB w dv l[j].2)
theorem Ss.below {w w':World} {v:Value} {l:List Sc} (h:Ss w v l) (hb:Below w.heap.size w w'):Ss w' v l:=by
 obtain⟨a,c,hv,h1,h2,h3⟩:=h
 refine⟨a,c,hv,h1,h2,fun hp=>?_⟩
 obtain⟨b,o,e,hlt,hc⟩:=h3 hp
 refine⟨b,o,e,Nat.lt_of_lt_of_le hlt hb.size,fun j hj=>?_⟩
 obtain⟨h4,dv,h5,h6⟩:=hc j hj
 exact⟨(hb.cell (by exact hlt)).trans h4,dv,(hb.cell (by exact hlt)).trans h5,h6.below hb⟩
theorem Ss.form {w:World} {v:Value} {l:List Sc} {n:Nat} (hn:l.length=n) (h:Ss w v l):∃ a c,v=.slice a n c∧n≤c∧(a=none→c=0)∧(0<n→∃ b o,a=some ⟨b,o,none⟩∧b<w.heap.size∧∀ j,(h:j<l.length)→w.cell? ⟨b,o+j*2,none⟩=some (.int .i64 l[j].1)∧∃ dv,w.cell? ⟨b,o+j*2+1,none⟩=some dv∧Rw eB w dv l[j].2):=by
 subst hn;exact h
theorem Ss.at {w:World} {a:Option Addr} {n c:Nat} {l:List Sc} (h:Ss w (.slice a n c) l):l.length=n:=by
 obtain⟨a',c',hv,-⟩:=h
 cases hv;rfl
theorem Ss.nil (w:World):Ss w (.slice none 0 0) []:=⟨none,0,rfl,Nat.le_refl _,fun _=>rfl,fun h=>absurd h (by simp)⟩
structure Sml (l:List Sc):Prop where
 n:l.length≤100000
 d:∀ s∈l,s.2.length≤1000000
theorem Sml.tot {l:List Sc} (h:Sml l):tot l≤100001000000:=by
 have h1:=tot_bound l 1000000 h.d
 have h2:=h.n
 have h3:l.length*(1000000+7)≤100000*(1000000+7):=Nat.mul_le_mul_right _ h2
 omega
theorem Sml.hd {l:List Sc} (h:Sml l):hd l.length≤1300000:=by
 have h1:=up_le (16+12*l.length)
 have h2:=h.n
 unfold L15.hd;omega
theorem Sml.sz {l:List Sc} (h:Sml l):szL l≤100010000000:=by
 have h1:=h.tot
 have h2:=h.hd
 unfold szL;omega
theorem size_at (v:Value) (l:List Sc) (S:Nat) (w:World) (hv:Ss w v l) (hs:Sml l) (hS:szL l=S) :
  Calls Tryz.prog 31 #[v] w fun e w'=>e=.returned (.int .i64 (S:Int))∧Below w.heap.size w w':=by
 obtain⟨n,hn⟩:∃ n,l.length=n:=⟨_,rfl⟩
 obtain⟨a,c,rfl,-,-,hc⟩:=hv.form hn
 have hnl:=hs.n
 have htt:=hs.tot
 have hhd:=hs.hd
 rw [hn] at hnl hhd
 obtain⟨H,hH⟩:∃ H,hd n=H:=⟨_,rfl⟩
 rw [hH] at hhd
 have HD:=Lib.hid (fun w=>dataS_at n H w (by omega) hH)
 have HC:=Lib.hid hc
 have HN:=Lib.hid hn
 have HS:=Lib.hid (show H+tot (l.take n)=S by rw [← hS,← hH,← hn,List.take_length];rfl)
 have HT:=Lib.hid htt
 have HM:=Lib.hid hs.d
 clear hn hc hv hs htt hH hS
 go_enter Tryz.func31,Tryz.ntmps31
 go_wp2_with (go_at_call 62;((with_reducible refine (HD.out _).mono ?_);rintro e w1 ⟨rfl,rfl⟩))
 go_loopw [3,5,11] (fun s _ q wr=>∃ j:Nat,j≤n∧q=.int .i64 (j:Int)∧s=.int .i64 ((H+tot (l.take j):Nat):Int)∧Below w.heap.size w wr) (fun _ _ q _=>n-(intOf q).toNat)
 case atStart=>exact⟨0,Nat.zero_le _,rfl,by simp [tot],Below.refl _ _⟩
 case round =>
  obtain⟨j,hj,rfl,rfl,hB⟩:=hrel
  by_cases hlt:j<n
  ·have hjl:j<l.length:=by rw [HN.out];exact hlt
   obtain⟨b,o,rfl,hbl,hcc⟩:=HC.out (by omega)
   obtain⟨x0,dv,x1,hr⟩:=hcc j hjl
   obtain⟨m,hm⟩:∃ m,l[j].2.length=m:=⟨_,rfl⟩
   obtain⟨da,dc,rfl,-⟩:=hr.form hm
   have y0:=(hB.cell (p:=⟨b,o+j*2,none⟩) (by exact hbl)).trans x0
   have y1:=(hB.cell (p:=⟨b,o+j*2+1,none⟩) (by exact hbl)).trans x1
   have hml:=HM.out _ (List.getElem_mem hjl)
   have hst:=tot_step l j hjl
   have hle:=tot_le l (j+1)
   have htt:=HT.out
   rw [hm] at hml hst
   obtain⟨u,hu⟩:∃ u,up m=u:=⟨_,rfl⟩
   have HP:=Lib.hid (fun w=>padded_at m u w (by omega) hu)
   rw [hu] at hst
   obtain⟨t,ht⟩:∃ t,tot (l.take j)=t:=⟨_,rfl⟩
   rw [ht] at hst ⊢
   have HST:=Lib.hid hst
   have hbd:t+u≤100001000000:=by omega
   generalize l[j].1=kk at y0
   have hsz:=hB.size
   clear hcc x0 x1 hr hm hst hle htt hu ht
   go_wp2_with (go_at_call 63;((with_reducible refine (HP.out _).mono ?_);rintro e w2 ⟨rfl,rfl⟩))
   go_roundw
   case rel=>exact⟨j+1,hlt,by go_num,by rw [HST.out];go_num,bch hB (bnew _ _)⟩
   case measure=>simp [intOf];omega
  ·obtain rfl:j=n:=by omega
   go_wp2
   go_ret
   exact⟨congrArg (fun (z:Nat)=>Ending.returned (.int .i64 (z:Int))) HS.out,hB⟩
end Go.Proofs.YtohkgdfkklfgmaaGreatDoor.L15
end
