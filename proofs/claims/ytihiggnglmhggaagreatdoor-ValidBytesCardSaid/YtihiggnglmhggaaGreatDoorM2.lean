/- Lemmas and walks of L16Sm, L13Pl: what each theorem states; conditions stand in each theorem. -/
import Derived.Test.YtihiggnglmhggaaGreatDoorM18
import Derived.Test.YtihiggnglmhggaaGreatDoorM7
set_option maxRecDepth 100000
section
namespace Go.Proofs.YtihiggnglmhggaaGreatDoor.L16
open L15
def e4 (z:Int):List UInt8:=le 4 z.toNat
def nB (ns:List Int):List UInt8:=ns.flatMap e4
def rwB (rs:List (List Int)):List UInt8:=rs.flatMap nB
theorem e4_len (z:Int):(e4 z).length=4:=le_len _ _
theorem nB_len:∀ ns:List Int,(nB ns).length=4*ns.length
 | []=>rfl
 | z::r=>by
  have:=nB_len r
  unfold nB at this ⊢
  rw [List.flatMap_cons,List.length_append,e4_len,this,List.length_cons];omega
theorem rwB_len (n:Nat):∀ rs:List (List Int),(∀ r∈rs,r.length=n)→(rwB rs).length=4*n*rs.length
 | [],_=>rfl
 | z::r,h=>by
  have:=rwB_len n r (fun x hx=>h x (List.mem_cons_of_mem _ hx))
  unfold rwB at this ⊢
  rw [List.flatMap_cons,List.length_append,nB_len,this,List.length_cons,h z (List.mem_cons_self ..),Nat.mul_succ];omega
theorem nB_app (a b:List Int):nB (a++b)=nB a++nB b:=by simp [nB]
theorem rwB_app (a b:List (List Int)):rwB (a++b)=rwB a++rwB b:=by simp [rwB]
theorem take_one {α:Type} (l:List α) (k:Nat) (h:k<l.length):l.take (k+1)=l.take k++[l[k]]:=by
 rw [List.take_add_one,List.getElem?_eq_getElem h];rfl
theorem nB_snoc (ns:List Int) (k:Nat) (h:k<ns.length):nB (ns.take (k+1))=nB (ns.take k)++e4 ns[k]:=by
 rw [take_one ns k h,nB_app];simp [nB]
theorem rwB_snoc (rs:List (List Int)) (k:Nat) (h:k<rs.length):rwB (rs.take (k+1))=rwB (rs.take k)++nB rs[k]:=by
 rw [take_one rs k h,rwB_app];simp [rwB]
theorem cut_at {α:Type} (l:List α) (k:Nat) (h:k<l.length):l=l.take k++([l[k]]++l.drop (k+1)):=by
 conv=>lhs;rw [← List.take_append_drop k l,List.drop_eq_getElem_cons h]
 rfl
def ndA (d:List UInt8) (i:Nat):Int:=(va (sub d i 4):Int)
def rowA (w:Nat) (d:List UInt8) (k:Nat):List Int:=(List.range w).map fun i=>ndA d (4*w*k+4*i)
def rdR (w:Nat) (d:List UInt8):List (List Int):=(List.range (d.length / (4*w))).map (rowA w d)
theorem rowA_len (w:Nat) (d:List UInt8) (k:Nat):(rowA w d k).length=w:=by simp [rowA]
theorem rdR_len (w:Nat) (d:List UInt8):(rdR w d).length=d.length / (4*w):=by simp [rdR]
theorem rdR_at (w:Nat) (d:List UInt8) (k:Nat) (h:k<(rdR w d).length):(rdR w d)[k]=rowA w d k:=by simp [rdR]
theorem rdR_in (w:Nat) (d:List UInt8) {r:List Int} (h:r∈rdR w d):r.length=w:=by
 unfold rdR at h
 obtain⟨k,-,rfl⟩:=List.mem_map.1 h
 exact rowA_len _ _ _
theorem rowA_at (w:Nat) (d:List UInt8) (k i:Nat) (h:i<(rowA w d k).length):(rowA w d k)[i]=ndA d (4*w*k+4*i):=by simp [rowA]
theorem ndA_drop (d:List UInt8) (j i:Nat):ndA (d.drop j) i=ndA d (j+i):=by
 unfold ndA sub
 rw [List.drop_drop]
theorem va_e4 {z:Int} (h:0≤z∧z<4294967296):(va (e4 z):Int)=z:=by
 unfold e4
 rw [va_le4 _ (by omega)];omega
theorem rdR_rwB (w:Nat) (rs:List (List Int)) (hw:0<w) (hl:∀ r∈rs,r.length=w) (hr:∀ r∈rs,∀ z∈r,0≤z∧z<4294967296):rdR w (rwB rs)=rs:=by
 have hlen:(rwB rs).length / (4*w)=rs.length:=by
  rw [rwB_len w rs hl]
  exact Nat.mul_div_cancel_left _ (by omega)
 apply List.ext_getElem
 ·rw [rdR_len,hlen]
 ·intro k h1 h2
  rw [rdR_at]
  have hk:=hl _ (List.getElem_mem h2)
  apply List.ext_getElem
  ·rw [rowA_len,hk]
  ·intro i h3 h4
   rw [rowA_at]
   have e1:rwB rs=(rwB (rs.take k)++nB (rs[k].take i))++(e4 rs[k][i]++(nB (rs[k].drop (i+1))++rwB (rs.drop (k+1)))):=by
    conv=>lhs;rw [cut_at rs k h2,rwB_app,rwB_app]
    have e2:rwB [rs[k]]=nB rs[k]:=by simp [rwB]
    rw [e2]
    conv=>lhs;rw [cut_at rs[k] i h4,nB_app,nB_app]
    have e3:nB [rs[k][i]]=e4 rs[k][i]:=by simp [nB]
    rw [e3]
    simp only [List.append_assoc]
   have e4':(rwB (rs.take k)++nB (rs[k].take i)).length=4*w*k+4*i:=by
    rw [List.length_append,rwB_len w _ (fun r hx=>hl r (List.mem_of_mem_take hx)),nB_len,List.length_take,List.length_take,Nat.min_eq_left (by omega),Nat.min_eq_left (by omega)]
   unfold ndA
   rw [e1,sub_app _ _ _ _ _ e4' (e4_len _)]
   exact va_e4 (hr _ (List.getElem_mem h2) _ (List.getElem_mem h4))
end Go.Proofs.YtihiggnglmhggaaGreatDoor.L16
end
section
namespace Go.Proofs.YtihiggnglmhggaaGreatDoor.L13
open L3 L4 L12
open L10 (Stm Pg jmI fmI)
def tI (x:L9.Ins):L5.Ix:=⟨x.op,x.reg,x.dst,x.src,x.off,x.imm⟩
end Go.Proofs.YtihiggnglmhggaaGreatDoor.L13
end
