/- Lemmas and walks of L16Sm, L16Ob, L16Qf: what each theorem states; conditions stand in each theorem. -/
import Derived.Test.YtohkgdfkklfgmaaGreatDoorM43
import Derived.Test.YtohkgdfkklfgmaaGreatDoorM45
import Derived.Test.YtohkgdfkklfgmaaGreatDoorM42
import Derived.Test.YtohkgdfkklfgmaaGreatDoorM30
import Derived.Test.YtohkgdfkklfgmaaGreatDoorL11Ck
import Derived.Test.YtohkgdfkklfgmaaGreatDoorL10Chl
import Derived.Test.YtohkgdfkklfgmaaGreatDoorProg
import Derived.OrdersHeld
import Derived.Deep.RegionHeld3
section
namespace Go.Proofs.YtohkgdfkklfgmaaGreatDoor.L16
set_option maxRecDepth 100000
open L15
def e4 (z:Int):List UInt8:=le 4 z.toNat
def nB (ns:List Int):List UInt8:=ns.flatMap e4
def rwB (rs:List (List Int)):List UInt8:=rs.flatMap nB
theorem e4_len (z:Int):(e4 z).length=4:=le_len _ _
theorem nB_len:∀ ns:List Int,(nB ns).length=4*ns.length
 | []=>rfl
 | z::r=>by
  have:=nB_len r
  unfold nB at this ⊢
  rw [List.flatMap_cons,List.length_append,e4_len,this,List.length_cons];omega
theorem rwB_len (n:Nat):∀ rs:List (List Int),(∀ r∈rs,r.length=n)→(rwB rs).length=4*n*rs.length
 | [],_=>rfl
 | z::r,h=>by
  have:=rwB_len n r (fun x hx=>h x (List.mem_cons_of_mem _ hx))
  unfold rwB at this ⊢
  rw [List.flatMap_cons,List.length_append,nB_len,this,List.length_cons,h z (List.mem_cons_self ..),Nat.mul_succ];omega
theorem nB_app (a b:List Int):nB (a++b)=nB a++nB b:=by simp [nB]
theorem rwB_app (a b:List (List Int)):rwB (a++b)=rwB a++rwB b:=by simp [rwB]
theorem take_one {α:Type} (l:List α) (k:Nat) (h:k<l.length):l.take (k+1)=l.take k++[l[k]]:=by
 rw [List.take_add_one,List.getElem?_eq_getElem h];rfl
theorem nB_snoc (ns:List Int) (k:Nat) (h:k<ns.length):nB (ns.take (k+1))=nB (ns.take k)++e4 ns[k]:=by
 rw [take_one ns k h,nB_app];simp [nB]
theorem rwB_snoc (rs:List (List Int)) (k:Nat) (h:k<rs.length):rwB (rs.take (k+1))=rwB (rs.take k)++nB rs[k]:=by
 rw [take_one rs k h,rwB_app];simp [rwB]
theorem cut_at {α:Type} (l:List α) (k:Nat) (h:k<l.length):l=l.take k++([l[k]]++l.drop (k+1)):=by
 conv=>lhs;rw [← List.take_append_drop k l,List.drop_eq_getElem_cons h]
 rfl
def ndA (d:List UInt8) (i:Nat):Int:=(va (sub d i 4):Int)
def rowA (w:Nat) (d:List UInt8) (k:Nat):List Int:=(List.range w).map fun i=>ndA d (4*w*k+4*i)
def rdR (w:Nat) (d:List UInt8):List (List Int):=(List.range (d.length / (4*w))).map (rowA w d)
theorem rowA_len (w:Nat) (d:List UInt8) (k:Nat):(rowA w d k).length=w:=by simp [rowA]
theorem rdR_len (w:Nat) (d:List UInt8):(rdR w d).length=d.length / (4*w):=by simp [rdR]
theorem rdR_at (w:Nat) (d:List UInt8) (k:Nat) (h:k<(rdR w d).length):(rdR w d)[k]=rowA w d k:=by simp [rdR]
theorem rdR_in (w:Nat) (d:List UInt8) {r:List Int} (h:r∈rdR w d):r.length=w:=by
 unfold rdR at h
 obtain⟨k,-,rfl⟩:=List.mem_map.1 h
 exact rowA_len _ _ _
theorem rowA_at (w:Nat) (d:List UInt8) (k i:Nat) (h:i<(rowA w d k).length):(rowA w d k)[i]=ndA d (4*w*k+4*i):=by simp [rowA]
theorem ndA_drop (d:List UInt8) (j i:Nat):ndA (d.drop j) i=ndA d (j+i):=by
 unfold ndA sub
 rw [List.drop_drop]
theorem ndA_lt (d:List UInt8) (i:Nat):0≤ndA d i∧ndA d i<4294967296:=by
 have h1:=va_lt (sub d i 4)
 have h2:(sub d i 4).length≤4:=by unfold sub;rw [List.length_take];omega
 have h3:256 ^ (sub d i 4).length≤256 ^ 4:=Nat.pow_le_pow_right (by decide) h2
 unfold ndA
 omega
theorem va_e4 {z:Int} (h:0≤z∧z<4294967296):(va (e4 z):Int)=z:=by
 unfold e4
 rw [va_le4 _ (by omega)];omega
theorem rdR_rwB (w:Nat) (rs:List (List Int)) (hw:0<w) (hl:∀ r∈rs,r.length=w) (hr:∀ r∈rs,∀ z∈r,0≤z∧z<4294967296):rdR w (rwB rs)=rs:=by
 have hlen:(rwB rs).length / (4*w)=rs.length:=by
  rw [rwB_len w rs hl]
  exact Nat.mul_div_cancel_left _ (by omega)
 apply List.ext_getElem
 ·rw [rdR_len,hlen]
 ·intro k h1 h2
  rw [rdR_at]
  have hk:=hl _ (List.getElem_mem h2)
  apply List.ext_getElem
  ·rw [rowA_len,hk]
  ·intro i h3 h4
   rw [rowA_at]
   have e1:rwB rs=(rwB (rs.take k)++nB (rs[k].take i))++(e4 rs[k][i]++(nB (rs[k].drop (i+1))++rwB (rs.drop (k+1)))):=by
    conv=>lhs;rw [cut_at rs k h2,rwB_app,rwB_app]
    have e2:rwB [rs[k]]=nB rs[k]:=by simp [rwB]
    rw [e2]
    conv=>lhs;rw [cut_at rs[k] i h4,nB_app,nB_app]
    have e3:nB [rs[k][i]]=e4 rs[k][i]:=by simp [nB]
    rw [e3]
    simp only [List.append_assoc]
   have e4':(rwB (rs.take k)++nB (rs[k].take i)).length=4*w*k+4*i:=by
    rw [List.length_append,rwB_len w _ (fun r hx=>hl r (List.mem_of_mem_take hx)),nB_len,List.length_take,List.length_take,Nat.min_eq_left (by omega),Nat.min_eq_left (by omega)]
   unfold ndA
   rw [e1,sub_app _ _ _ _ _ e4' (e4_len _)]
   exact va_e4 (hr _ (List.getElem_mem h2) _ (List.getElem_mem h4))
end Go.Proofs.YtohkgdfkklfgmaaGreatDoor.L16
end
section
namespace Go.Proofs.YtohkgdfkklfgmaaGreatDoor.L16
set_option maxRecDepth 100000
open L15
open L13 (Ob)
def mE (l:List L9.Df):Int:=(L10.fe (l.map L10.deE)).2
def rlF:Int→Nat→Nat→List (Int × Int)→Bool
 | _,_,_,[]=>true
 | la,s,m,r::t=>decide (la<r.1) && decide (r.1<(s:Int)) && decide (0≤r.2) && decide (r.2<(m:Int)) && rlF r.1 s m t
def chE (o:Ob):Int :=
 if mE o.maps≠0 then mE o.maps else if 255<o.maps.length then 16 else if L2.rp (o.maps.map (·.nm))≠-1 then 10
 else if o.code.length / 8=0∨o.code.length % 8≠0 then 17 else if 65535<o.code.length / 8 then 16
 else if rlF (-1) (o.code.length / 8) o.maps.length o.rels=true then 0 else 18
theorem brV_maps (l:List L9.Df):(L10.brV ⟨l,[]⟩).2.2=if mE l≠0 then mE l else if 255<l.length then 16 else if L2.rp (l.map (·.nm))≠-1 then 10 else 15:=by
 have h0:L10.fe []=(0,0):=rfl
 have h1:L10.cnd ⟨l,[]⟩=[(true,L10.fe (l.map L10.deE)),(false,(0,0)),(true,L10.fe (L10.szE l.length)),(true,L10.fe (L10.dpE [] (l.map fun d=>[d.nm]))),(false,(0,0)),(false,(0,15)),(false,(0,0)),(false,(0,0)),(false,(0,0))]:=by
  unfold L10.cnd
  simp [L10.dpE,h0]
 have e:∀ a c d:Nat × Int,(L10.frB [(true,a),(false,(0,0)),(true,c),(true,d),(false,(0,0)),(false,(0,15)),(false,(0,0)),(false,(0,0)),(false,(0,0))]).2.2=if a.2≠0 then a.2 else if c.2≠0 then c.2 else if d.2≠0 then d.2 else 15:=by
  intro a c d
  simp only [L10.frB]
  by_cases h1:a.2=0 <;> by_cases h2:c.2=0 <;> by_cases h3:d.2=0 <;> simp [h1,h2,h3]
 unfold L10.brV mE
 rw [h1,e,L10.fe_sz]
 by_cases hn:255<l.length
 ·rw [if_neg (show ¬ l.length≤255 by omega),if_pos hn];rfl
 ·rw [if_pos (show l.length≤255 by omega),if_neg hn]
  rcases L10.dp_maps l with ⟨h2,h3⟩|⟨m,h2,h3⟩
  ·rw [h2,h3];rfl
  ·have h4:((m:Nat):Int)≠-1:=by omega
   rw [h2,h3,if_pos h4];rfl
theorem rl_len:∀ (l:List (Int × Int)) (la:Int) (s m:Nat),rlF la s m l=true→l≠[]→la+l.length<s
 | [],_,_,_,_,h=>absurd rfl h
 | r::t,la,s,m,h,_=>by
  simp only [rlF,Bool.and_eq_true,decide_eq_true_eq] at h
  obtain⟨⟨⟨⟨h1,h2⟩,-⟩,-⟩,h5⟩:=h
  by_cases ht:t=[]
  ·subst ht
   simp only [List.length_cons,List.length_nil];omega
  ·have:=rl_len t r.1 s m h5 ht
   simp only [List.length_cons];omega
theorem rl_in:∀ (l:List (Int × Int)) (la:Int) (s m:Nat),rlF la s m l=true→∀ r∈l,la<r.1∧r.1<s∧0≤r.2∧r.2<m
 | [],_,_,_,_,_,h=>by cases h
 | x::t,la,s,m,h,r,hr=>by
  simp only [rlF,Bool.and_eq_true,decide_eq_true_eq] at h
  obtain⟨⟨⟨⟨h1,h2⟩,h3⟩,h4⟩,h5⟩:=h
  rcases List.mem_cons.1 hr with rfl|hr
  ·exact⟨h1,h2,h3,h4⟩
  ·have:=rl_in t x.1 s m h5 r hr
   omega
theorem vd_word:∀ l:List UInt8,L2.wn l=l.length→¬ (0:UInt8)∈l
 | [],_,h=>by cases h
 | c::r,h,hm=>by
  unfold L2.wn at h
  split at h
  ·rename_i hw
   rcases List.mem_cons.1 hm with rfl|hm
   ·exact absurd hw (by decide)
   ·exact vd_word r (by simpa using h) hm
  ·simp at h
theorem vd_rt {s:ByteArray} (h:L2.vd s=true):L14.rt s.data.toList=true∧s.data.toList.length≤32:=by
 unfold L2.vd at h
 simp only [Bool.and_eq_true,decide_eq_true_eq] at h
 obtain⟨⟨⟨⟨h1,h2⟩,-⟩,-⟩,h5⟩:=h
 have hl:s.data.toList.length=s.size:=by rw [Array.length_toList];rfl
 refine⟨L14.rt_iff.2 ⟨fun e=>?_,vd_word _ (by rw [h5,hl])⟩,by omega⟩
 rw [e] at hl
 simp at hl;omega
def r2 (l:List L9.Df):List (List Int):=l.map fun d=>[d.key,d.val,d.ent,0]
def r3 (os:List Nat):List (List Int):=os.mapIdx fun (i o:Nat)=>[((o:Nat):Int),((i:Nat):Int)]
def r4 (l:List (Int × Int)):List (List Int):=l.map fun r=>[r.1,r.2]
def nmL (l:List L9.Df):List (List UInt8):=l.map fun d=>d.nm.data.toList
def secs (o:Ob):List Sc:=[(1,o.code),(2,rwB (r2 o.maps)),(3,rwB (r3 (L14.ofs 1 (nmL o.maps)))),(4,rwB (r4 o.rels)),(5,L14.tb (nmL o.maps))]
def pkB (o:Ob):List UInt8:=wr (secs o)
theorem r2_len (l:List L9.Df):(rwB (r2 l)).length=16*l.length:=by
 rw [rwB_len 4 (r2 l) (fun r h=>by obtain⟨d,-,rfl⟩:=List.mem_map.1 h;rfl)];simp [r2]
theorem r3_len (l:List Nat):(rwB (r3 l)).length=8*l.length:=by
 rw [rwB_len 2 (r3 l) (fun r h=>by obtain⟨i,hi,rfl⟩:=List.mem_iff_getElem.1 h;simp [r3])];simp [r3]
theorem r4_len (l:List (Int × Int)):(rwB (r4 l)).length=8*l.length:=by
 rw [rwB_len 2 (r4 l) (fun r h=>by obtain⟨d,-,rfl⟩:=List.mem_map.1 h;rfl)];simp [r4]
theorem nmL_len (l:List L9.Df):(nmL l).length=l.length:=by simp [nmL]
structure Gd (o:Ob):Prop where
 df:∀ d∈o.maps,L10.deE d=0
 n:o.maps.length≤255
 code:0<o.code.length∧o.code.length % 8=0∧o.code.length≤524280
 rl:rlF (-1) (o.code.length / 8) o.maps.length o.rels=true
theorem gd_of {o:Ob} (h:chE o=0):Gd o:=by
 unfold chE at h
 by_cases h1:mE o.maps=0
 ·rw [if_neg (by simpa using h1)] at h
  by_cases h2:255<o.maps.length
  ·rw [if_pos h2] at h;cases h
  ·rw [if_neg h2] at h
   by_cases h3:L2.rp (o.maps.map (·.nm))=-1
   ·rw [if_neg (by simpa using h3)] at h
    by_cases h4:o.code.length / 8=0∨o.code.length % 8≠0
    ·rw [if_pos h4] at h;cases h
    ·rw [if_neg h4] at h
     by_cases h5:65535<o.code.length / 8
     ·rw [if_pos h5] at h;cases h
     ·rw [if_neg h5] at h
      by_cases h6:rlF (-1) (o.code.length / 8) o.maps.length o.rels=true
      ·refine⟨fun d hd=>?_,by omega,by omega,h6⟩
       have:=L10.feF_none _ _ h1
       exact this _ (List.mem_map.2 ⟨d,hd,rfl⟩)
      ·rw [if_neg h6] at h;cases h
   ·rw [if_pos h3] at h;cases h
 ·rw [if_pos h1] at h;exact absurd h h1
theorem Gd.rln {o:Ob} (h:Gd o):o.rels.length≤65535:=by
 by_cases h0:o.rels=[]
 ·rw [h0];simp
 ·have:=rl_len _ _ _ _ h.rl h0
  have:=h.code
  omega
theorem Gd.rels {o:Ob} (h:Gd o):∀ r∈o.rels,(0≤r.1∧r.1<65535)∧0≤r.2∧r.2<255:=fun r hr=>by
 have:=rl_in _ _ _ _ h.rl r hr
 have:=h.code
 have:=h.n
 omega
theorem Gd.nms {o:Ob} (h:Gd o):∀ t∈nmL o.maps,L14.rt t=true∧t.length≤32:=fun t ht=>by
 obtain⟨d,hd,rfl⟩:=List.mem_map.1 ht
 exact vd_rt (L11.deE_of (h.df d hd)).1
theorem sum_le:∀ (l:List (List UInt8)) (m:Nat),(∀ t∈l,t.length≤m)→L14.tot l≤m*l.length
 | [],_,_=>by simp [L14.tot]
 | t::r,m,h=>by
  have h1:=sum_le r m (fun x hx=>h x (List.mem_cons_of_mem _ hx))
  have h2:=h t (List.mem_cons_self ..)
  unfold L14.tot at h1 ⊢
  rw [List.map_cons,List.sum_cons,List.length_cons,Nat.mul_succ];omega
theorem Gd.tot {o:Ob} (h:Gd o):L14.tot (nmL o.maps)≤8160:=by
 have h1:=sum_le (nmL o.maps) 32 (fun t ht=>(h.nms t ht).2)
 have h2:=h.n
 rw [nmL_len] at h1;omega
theorem tb_le {o:Ob} (h:Gd o):(L14.tb (nmL o.maps)).length≤8416:=by
 have h1:=h.tot
 have h2:=h.n
 rw [L14.tb_len,nmL_len];omega
theorem secs_sml {o:Ob} (h:Gd o):Sml (secs o):=by
 have h1:=h.n
 have h2:=h.code
 have h3:=h.rln
 have h4:=tb_le h
 refine⟨by simp [secs],fun s hs=>?_⟩
 simp only [secs,List.mem_cons,List.not_mem_nil,or_false] at hs
 rcases hs with rfl|rfl|rfl|rfl|rfl
 ·show o.code.length≤_;omega
 ·show (rwB (r2 o.maps)).length≤_;rw [r2_len];omega
 ·show (rwB (r3 (L14.ofs 1 (nmL o.maps)))).length≤_;rw [r3_len,L14.ofs_len,nmL_len];omega
 ·show (rwB (r4 o.rels)).length≤_;rw [r4_len];omega
 ·show (L14.tb (nmL o.maps)).length≤_;omega
theorem secs_asc (o:Ob):asc 0 (secs o)=true:=by simp [secs,asc]
theorem secs_chk {o:Ob} (h:Gd o):chkV (secs o)=0:=by
 have h1:=h.n
 have h2:=h.code
 have h3:=h.rln
 have h4:=tb_le h
 refine chk0.2 ⟨⟨by simp [secs],?_⟩,secs_asc o⟩
 have e1:szL (secs o)=hd 5+(up o.code.length+(up (16*o.maps.length)+(up (8*o.maps.length)+(up (8*o.rels.length)+(up (L14.tb (nmL o.maps)).length+0))))):=by
  unfold szL secs
  simp only [L15.tot,r2_len,r3_len,r4_len,L14.ofs_len,nmL_len,List.length_cons,List.length_nil]
 have e2:hd 5=80:=rfl
 rw [e1,e2]
 unfold up;omega
theorem pk_len {o:Ob}:(pkB o).length=80+(up o.code.length+(up (16*o.maps.length)+(up (8*o.maps.length)+(up (8*o.rels.length)+up (L14.tb (nmL o.maps)).length)))):=by
 rw [pkB,wr_len]
 unfold szL secs
 simp only [L15.tot,r2_len,r3_len,r4_len,L14.ofs_len,nmL_len,List.length_cons,List.length_nil]
 rfl
def Is16 (b:List UInt8) (o:Ob):Prop:=chE o=0∧pkB o=b
theorem is16_rd {b:List UInt8} {o:Ob} (h:Is16 b o):rdOk b∧rdT b (nS b)=secs o:=rdOk_is ⟨secs_chk (gd_of h.1),h.2⟩
def mkD (t:List UInt8) (r:List Int):L9.Df:=⟨L14.mkB t,r.getD 0 0,r.getD 1 0,r.getD 2 0⟩
def mkR (r:List Int):Int × Int:=(r.getD 0 0,r.getD 1 0)
def obT (c d2 d4:List UInt8) (ts:List (List UInt8)):Ob:=⟨List.zipWith mkD ts (rdR 4 d2),c,(rdR 2 d4).map mkR⟩
theorem rd_r2 {o:Ob} (h:Gd o):rdR 4 (rwB (r2 o.maps))=r2 o.maps:=by
 refine rdR_rwB 4 _ (by decide) (fun r hr=>?_) (fun r hr z hz=>?_)
 ·obtain⟨d,-,rfl⟩:=List.mem_map.1 hr;rfl
 ·obtain⟨d,hd,rfl⟩:=List.mem_map.1 hr
  obtain⟨-,h1,h2,h3⟩:=L11.deE_of (h.df d hd)
  simp only [List.mem_cons,List.not_mem_nil,or_false] at hz
  omega
theorem rd_r4 {o:Ob} (h:Gd o):rdR 2 (rwB (r4 o.rels))=r4 o.rels:=by
 refine rdR_rwB 2 _ (by decide) (fun r hr=>?_) (fun r hr z hz=>?_)
 ·obtain⟨d,-,rfl⟩:=List.mem_map.1 hr;rfl
 ·obtain⟨d,hd,rfl⟩:=List.mem_map.1 hr
  have:=h.rels d hd
  simp only [List.mem_cons,List.not_mem_nil,or_false] at hz
  omega
theorem zip_mk:∀ l:List L9.Df,List.zipWith mkD (nmL l) (r2 l)=l
 | []=>rfl
 | d::r=>by
  have:=zip_mk r
  unfold nmL r2 at this ⊢
  rw [List.map_cons,List.map_cons,List.zipWith_cons_cons,this]
  congr 1
theorem obT_secs {o:Ob} (h:Gd o):obT o.code (rwB (r2 o.maps)) (rwB (r4 o.rels)) (nmL o.maps)=o:=by
 unfold obT
 rw [rd_r2 h,rd_r4 h,zip_mk]
 have:(r4 o.rels).map mkR=o.rels:=by
  unfold r4
  rw [List.map_map]
  conv=>rhs;rw [← List.map_id o.rels]
  exact List.map_congr_left fun r _=>rfl
 rw [this]
theorem prV_secs {o:Ob} (h:Gd o):L14.prV (L14.tb (nmL o.maps))=some (nmL o.maps):=L14.prV_tb _ fun t ht=>(h.nms t ht).1
theorem is16_one {b:List UInt8} {o q:Ob} (h:Is16 b o) (k:Is16 b q):o=q:=by
 have e:secs o=secs q:=by rw [← (is16_rd h).2,(is16_rd k).2]
 have go:=gd_of h.1
 have gq:=gd_of k.1
 simp only [secs,List.cons.injEq,Prod.mk.injEq,true_and,and_true] at e
 obtain⟨e1,e2,e3,e4,e5⟩:=e
 have e6:nmL o.maps=nmL q.maps:=by
  have h1:=prV_secs go
  rw [e5,prV_secs gq] at h1
  exact (Option.some.inj h1).symm
 rw [← obT_secs go,← obT_secs gq,e1,e2,e4,e6]
def gD (l:List Sc) (k:Int):List UInt8:=(getV l k).getD []
end Go.Proofs.YtohkgdfkklfgmaaGreatDoor.L16
end
section
namespace Go.Proofs.YtohkgdfkklfgmaaGreatDoor.L16
open Go
section
variable {P:Program} {ops:Array Oper} {Q:Exit→Act→World→Prop} {md:Region.Mode} {S:World→Prop}
structure Qt (P:Program) (ops:Array Oper) (Q:Exit→Act→World→Prop) (S:World→Prop) (o:Oper) (v:Value) (a:Act):Prop where
 wanted:Region.wanted o (yielded ops a.tmps)=true
 step:∀ w,S w→∀ (K:Act→World→Prop) (b:Act),execOp b.eval o=execOp a.eval o→K (b.put o.dst v) w→o.wp P b w K Q
theorem Qt.same {o:Oper} {v:Value} {a b:Act} (h:Qt P ops Q S o v a) (he:execOp b.eval o=execOp a.eval o) (hw:Region.wanted o (yielded ops b.tmps)=Region.wanted o (yielded ops a.tmps)):Qt P ops Q S o v b :=
 ⟨by rw [hw];exact h.wanted,fun w hS K c hc hK=>h.step w hS K c (by rw [hc,he]) hK⟩
theorem Qt.op {i:Nat} {o:Oper} {v:Value} {a:Act} (hi:ops[i]?=some o) (h:Qt P ops Q S o v a) {K:Act→World→Prop} {w:World} (hS:S w) (hK:K (a.put o.dst v) w):wpOp P ops Q i K a w:=by
 unfold wpOp
 simp only [hi,h.wanted,if_true]
 exact .inl (h.step w hS K a rfl hK)
theorem qt_other {j:Nat} {oi oj:Oper} {v:Value} (hj:ops[j]?=some oj) (hap:oi.apart ops oj=true) (hsi:∀ cs b,oi.op≠.select cs b) (hsj:∀ cs b,oj.op≠.select cs b)
  (hQ:∀ c a w,Q (.panic c) (a.put oi.dst v) w→Q (.panic c) a w) {K:Act→World→Prop} {a:Act} {w:World} (hy:Qt P ops Q S oi v a) (h:wpOp P ops Q j K (a.put oi.dst v) w) :
  wpOp P ops Q j (fun b w'=>Qt P ops Q S oi v b∧K (b.put oi.dst v) w') a w:=by
 obtain⟨h1,h2,h3⟩:=Oper.apart_spec hap
 have out:∀ (c:Act) (u:Value) (w':World),Qt P ops Q S oi v c→K ((c.put oi.dst v).put oj.dst u) w'→Qt P ops Q S oi v (c.put oj.dst u)∧K ((c.put oj.dst u).put oi.dst v) w':=fun c u w' hc hk =>
  ⟨hc.same (execOp_put oi hsi c oj.dst u h3) (wanted_put oi c oj.dst u h3),by rw [← Act.put_comm c v u h2];exact hk⟩
 have e:=execOp_put oj hsj a oi.dst v h1
 unfold wpOp at h ⊢
 simp only [hj] at h ⊢
 rw [wanted_put oj a oi.dst v h1] at h
 by_cases hw:Region.wanted oj (yielded ops a.tmps)=true
 ·rw [if_pos hw] at h ⊢
  rcases h with h|⟨h,hl⟩
  ·refine .inl ?_
   unfold Oper.wp at h ⊢
   rw [e] at h
   cases hr:(execOp a.eval oj).run P w with
   | ok n w' =>
    rw [hr] at h
    cases n with
    | value u=>exact out a u w' hy h
    | skip=>exact out a undef w' hy h
    | defer d=>exact out { a with defers:=d::a.defers } undef w' (hy.same rfl rfl) (by rw [← Act.put_defers];exact h)
    | enter f args =>
     refine Calls.mono h fun x w'' hx=>?_
     cases x with
     | returned u=>exact out a u w'' hy hx
     | panicked c=>exact hQ _ _ _ hx
     | outgrown=>exact hx
    | row r args=>exact Rows.mono h fun u w'' hx=>out a u w'' hy hx
    | _=>exact h
   | halt x w' =>
    rw [hr] at h
    cases x with
    | panic u=>exact hQ _ _ _ h
    | _=>exact h
  ·exact .inr ⟨by unfold Oper.asks at h ⊢;rw [e] at h;exact h,hl⟩
 ·rw [if_neg hw] at h ⊢
  exact out a undef w hy h
theorem qt_first {i:Nat} {oi:Oper} {v:Value} (hi:ops[i]?=some oi) (hsel:∀ (j:Nat) (o:Oper) cs b,ops[j]?=some o→o.op≠.select cs b) (hQ:∀ c a w,Q (.panic c) (a.put oi.dst v) w→Q (.panic c) a w) :
  ∀ (fuel:Nat) (listed:Array Bool) (a:Act) (w:World),(∀ j oj,ops[j]?=some oj→j≠i→listed.getD j true=false→(∀ e∈oj.after,Region.binds md e=true→e.on≠i)→oi.apart ops oj=true) →
   i∈Region.ready md ops listed→Qt P ops Q S oi v a→S w→wpAnyH P md ops Q S fuel (listed.setIfInBounds i true) (a.put oi.dst v) w→wpAnyH P md ops Q S (fuel+1) listed a w
 | fuel,listed,a,w,hfree,hr,hy,hS,H=>by
  refine⟨fun h=>(by rw [h] at hr;cases hr),fun j hj=>?_⟩
  by_cases hji:j=i
  ·subst hji
   exact hy.op hi hS ⟨hS,H⟩
  ·cases fuel with
   | zero =>
    have:=ready_mono hj hji
    rw [H.1] at this
    cases this
   | succ fuel =>
    obtain⟨hun,oj,hoj,hall⟩:=mem_ready.1 hj
    have hno:∀ e∈oj.after,Region.binds md e=true→e.on≠i:=fun e he hb h=>by
     have h1:=hall e he hb
     have h0:=(mem_ready.1 hr).1
     rw [h] at h1
     rcases Nat.lt_or_ge i listed.size with h'|h'
     ·simp [h'] at h0 h1
      rw [h0] at h1;cases h1
     ·simp [Array.getElem?_eq_none h'] at h1
    refine wpOp_mono (fun b w' h=>⟨h.2.1,?_⟩) (qt_other hoj (hfree j oj hoj hji hun hno) (fun cs b=>hsel i oi cs b hi) (fun cs b=>hsel j oj cs b hoj) hQ hy (H.2 j (ready_mono hj hji)))
    refine qt_first hi hsel hQ fuel _ b w' (fun k ok hk hki hku hkn=>hfree k ok hk hki ?_ hkn) (ready_mono hr (Ne.symm hji)) h.1 h.2.1 ?_
    ·by_cases hjk:j=k
     ·subst hjk;exact hun
     ·rwa [getD_set_ne true hjk] at hku
    ·rw [Array.setIfInBounds_comm _ _ hji]
     exact h.2.2
theorem take_call {i:Nat} {oi:Oper} {v:Value} {f:FuncId} {args:Array Value} {fuel:Nat} {listed:Array Bool} {a:Act} {w:World} (hi:ops[i]?=some oi)
  (hs:Region.noSelect ops=true) (hf:Region.free md ops listed i=true) (hr:(Region.ready md ops listed).contains i=true) (hQ:∀ c a w,Q (.panic c) (a.put oi.dst v) w→Q (.panic c) a w)
  (hw:Region.wanted oi (yielded ops a.tmps)=true) (he:∀ w,(execOp a.eval oi).run P w=.ok (.enter f args) w) (hc:∀ w,S w→Calls P f args w fun e w'=>e=.returned v∧w=w') (hS:S w)
  (h:wpAnyH P md ops Q S fuel (listed.setIfInBounds i true) (a.put oi.dst v) w):wpAnyH P md ops Q S (fuel+1) listed a w :=
 qt_first hi (Region.noSelect_spec hs) hQ fuel listed a w (Region.free_spec hi hf) (by simpa using hr)
  ⟨hw,fun x hx K b hb hK=>by
   unfold Oper.wp
   rw [hb,he x]
   refine (hc x hx).mono fun e w' hh=>?_
   obtain⟨rfl,rfl⟩:=hh
   exact hK⟩ hS h
end
end Go.Proofs.YtohkgdfkklfgmaaGreatDoor.L16
end
