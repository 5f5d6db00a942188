/- Objects, plain: what Check finds, the sections of an object and its bytes, and which object some bytes are those of. It speaks of no program and has no condition. -/
import Derived.Test.YtihiggnglmhggaaGreatDoorM19
namespace Go.Proofs.YtihiggnglmhggaaGreatDoor.L16
set_option maxRecDepth 100000
open L15
open L13 (Ob)
def mE (l:List L9.Df):Int:=(L10.fe (l.map L10.deE)).2
def rlF:Int→Nat→Nat→List (Int × Int)→Bool
 | _,_,_,[]=>true
 | la,s,m,r::t=>decide (la<r.1) && decide (r.1<(s:Int)) && decide (0≤r.2) && decide (r.2<(m:Int)) && rlF r.1 s m t
def chE (o:Ob):Int :=
 if mE o.maps≠0 then mE o.maps else if 255<o.maps.length then 16 else if L2.rp (o.maps.map (·.nm))≠-1 then 10
 else if o.code.length / 8=0∨o.code.length % 8≠0 then 17 else if 65535<o.code.length / 8 then 16
 else if rlF (-1) (o.code.length / 8) o.maps.length o.rels=true then 0 else 18
theorem brV_maps (l:List L9.Df):(L10.brV ⟨l,[]⟩).2.2=if mE l≠0 then mE l else if 255<l.length then 16 else if L2.rp (l.map (·.nm))≠-1 then 10 else 15:=by
 have h0:L10.fe []=(0,0):=rfl
 have h1:L10.cnd ⟨l,[]⟩=[(true,L10.fe (l.map L10.deE)),(false,(0,0)),(true,L10.fe (L10.szE l.length)),(true,L10.fe (L10.dpE [] (l.map fun d=>[d.nm]))),(false,(0,0)),(false,(0,15)),(false,(0,0)),(false,(0,0)),(false,(0,0))]:=by
  unfold L10.cnd
  simp [L10.dpE,h0]
 have e:∀ a c d:Nat × Int,(L10.frB [(true,a),(false,(0,0)),(true,c),(true,d),(false,(0,0)),(false,(0,15)),(false,(0,0)),(false,(0,0)),(false,(0,0))]).2.2=if a.2≠0 then a.2 else if c.2≠0 then c.2 else if d.2≠0 then d.2 else 15:=by
  intro a c d
  simp only [L10.frB]
  by_cases h1:a.2=0 <;> by_cases h2:c.2=0 <;> by_cases h3:d.2=0 <;> simp [h1,h2,h3]
 unfold L10.brV mE
 rw [h1,e,L10.fe_sz]
 by_cases hn:255<l.length
 ·rw [if_neg (show ¬ l.length≤255 by omega),if_pos hn];rfl
 ·rw [if_pos (show l.length≤255 by omega),if_neg hn]
  rcases L10.dp_maps l with ⟨h2,h3⟩|⟨m,h2,h3⟩
  ·rw [h2,h3];rfl
  ·have h4:((m:Nat):Int)≠-1:=by omega
   rw [h2,h3,if_pos h4];rfl
theorem rl_len:∀ (l:List (Int × Int)) (la:Int) (s m:Nat),rlF la s m l=true→l≠[]→la+l.length<s
 | [],_,_,_,_,h=>absurd rfl h
 | r::t,la,s,m,h,_=>by
  simp only [rlF,Bool.and_eq_true,decide_eq_true_eq] at h
  obtain⟨⟨⟨⟨h1,h2⟩,-⟩,-⟩,h5⟩:=h
  by_cases ht:t=[]
  ·subst ht
   simp only [List.length_cons,List.length_nil];omega
  ·have:=rl_len t r.1 s m h5 ht
   simp only [List.length_cons];omega
theorem rl_in:∀ (l:List (Int × Int)) (la:Int) (s m:Nat),rlF la s m l=true→∀ r∈l,la<r.1∧r.1<s∧0≤r.2∧r.2<m
 | [],_,_,_,_,_,h=>by cases h
 | x::t,la,s,m,h,r,hr=>by
  simp only [rlF,Bool.and_eq_true,decide_eq_true_eq] at h
  obtain⟨⟨⟨⟨h1,h2⟩,h3⟩,h4⟩,h5⟩:=h
  rcases List.mem_cons.1 hr with rfl|hr
  ·exact⟨h1,h2,h3,h4⟩
  ·have:=rl_in t x.1 s m h5 r hr
   omega
theorem vd_word:∀ l:List UInt8,L2.wn l=l.length→¬ (0:UInt8)∈l
 | [],_,h=>by cases h
 | c::r,h,hm=>by
  unfold L2.wn at h
  split at h
  ·rename_i hw
   rcases List.mem_cons.1 hm with rfl|hm
   ·exact absurd hw (by decide)
   ·exact vd_word r (by simpa using h) hm
  ·simp at h
theorem vd_rt {s:ByteArray} (h:L2.vd s=true):L14.rt s.data.toList=true∧s.data.toList.length≤32:=by
 unfold L2.vd at h
 simp only [Bool.and_eq_true,decide_eq_true_eq] at h
 obtain⟨⟨⟨⟨h1,h2⟩,-⟩,-⟩,h5⟩:=h
 have hl:s.data.toList.length=s.size:=by rw [Array.length_toList];rfl
 refine⟨L14.rt_iff.2 ⟨fun e=>?_,vd_word _ (by rw [h5,hl])⟩,by omega⟩
 rw [e] at hl
 simp at hl;omega
def r2 (l:List L9.Df):List (List Int):=l.map fun d=>[d.key,d.val,d.ent,0]
def r3 (os:List Nat):List (List Int):=os.mapIdx fun (i o:Nat)=>[((o:Nat):Int),((i:Nat):Int)]
def r4 (l:List (Int × Int)):List (List Int):=l.map fun r=>[r.1,r.2]
def nmL (l:List L9.Df):List (List UInt8):=l.map fun d=>d.nm.data.toList
def secs (o:Ob):List Sc:=[(1,o.code),(2,rwB (r2 o.maps)),(3,rwB (r3 (L14.ofs 1 (nmL o.maps)))),(4,rwB (r4 o.rels)),(5,L14.tb (nmL o.maps))]
def pkB (o:Ob):List UInt8:=wr (secs o)
theorem r2_len (l:List L9.Df):(rwB (r2 l)).length=16*l.length:=by
 rw [rwB_len 4 (r2 l) (fun r h=>by obtain⟨d,-,rfl⟩:=List.mem_map.1 h;rfl)];simp [r2]
theorem r3_len (l:List Nat):(rwB (r3 l)).length=8*l.length:=by
 rw [rwB_len 2 (r3 l) (fun r h=>by obtain⟨i,hi,rfl⟩:=List.mem_iff_getElem.1 h;simp [r3])];simp [r3]
theorem r4_len (l:List (Int × Int)):(rwB (r4 l)).length=8*l.length:=by
 rw [rwB_len 2 (r4 l) (fun r h=>by obtain⟨d,-,rfl⟩:=List.mem_map.1 h;rfl)];simp [r4]
theorem nmL_len (l:List L9.Df):(nmL l).length=l.length:=by simp [nmL]
structure Gd (o:Ob):Prop where
 df:∀ d∈o.maps,L10.deE d=0
 n:o.maps.length≤255
 code:0<o.code.length∧o.code.length % 8=0∧o.code.length≤524280
 rl:rlF (-1) (o.code.length / 8) o.maps.length o.rels=true
theorem gd_of {o:Ob} (h:chE o=0):Gd o:=by
 unfold chE at h
 by_cases h1:mE o.maps=0
 ·rw [if_neg (by simpa using h1)] at h
  by_cases h2:255<o.maps.length
  ·rw [if_pos h2] at h;cases h
  ·rw [if_neg h2] at h
   by_cases h3:L2.rp (o.maps.map (·.nm))=-1
   ·rw [if_neg (by simpa using h3)] at h
    by_cases h4:o.code.length / 8=0∨o.code.length % 8≠0
    ·rw [if_pos h4] at h;cases h
    ·rw [if_neg h4] at h
     by_cases h5:65535<o.code.length / 8
     ·rw [if_pos h5] at h;cases h
     ·rw [if_neg h5] at h
      by_cases h6:rlF (-1) (o.code.length / 8) o.maps.length o.rels=true
      ·refine⟨fun d hd=>?_,by omega,by omega,h6⟩
       have:=L10.feF_none _ _ h1
       exact this _ (List.mem_map.2 ⟨d,hd,rfl⟩)
      ·rw [if_neg h6] at h;cases h
   ·rw [if_pos h3] at h;cases h
 ·rw [if_pos h1] at h;exact absurd h h1
theorem Gd.rln {o:Ob} (h:Gd o):o.rels.length≤65535:=by
 by_cases h0:o.rels=[]
 ·rw [h0];simp
 ·have:=rl_len _ _ _ _ h.rl h0
  have:=h.code
  omega
theorem Gd.rels {o:Ob} (h:Gd o):∀ r∈o.rels,(0≤r.1∧r.1<65535)∧0≤r.2∧r.2<255:=fun r hr=>by
 have:=rl_in _ _ _ _ h.rl r hr
 have:=h.code
 have:=h.n
 omega
theorem Gd.nms {o:Ob} (h:Gd o):∀ t∈nmL o.maps,L14.rt t=true∧t.length≤32:=fun t ht=>by
 obtain⟨d,hd,rfl⟩:=List.mem_map.1 ht
 exact vd_rt (L11.deE_of (h.df d hd)).1
theorem sum_le:∀ (l:List (List UInt8)) (m:Nat),(∀ t∈l,t.length≤m)→L14.tot l≤m*l.length
 | [],_,_=>by simp [L14.tot]
 | t::r,m,h=>by
  have h1:=sum_le r m (fun x hx=>h x (List.mem_cons_of_mem _ hx))
  have h2:=h t (List.mem_cons_self ..)
  unfold L14.tot at h1 ⊢
  rw [List.map_cons,List.sum_cons,List.length_cons,Nat.mul_succ];omega
theorem Gd.tot {o:Ob} (h:Gd o):L14.tot (nmL o.maps)≤8160:=by
 have h1:=sum_le (nmL o.maps) 32 (fun t ht=>(h.nms t ht).2)
 have h2:=h.n
 rw [nmL_len] at h1;omega
theorem tb_le {o:Ob} (h:Gd o):(L14.tb (nmL o.maps)).length≤8416:=by
 have h1:=h.tot
 have h2:=h.n
 rw [L14.tb_len,nmL_len];omega
theorem secs_sml {o:Ob} (h:Gd o):Sml (secs o):=by
 have h1:=h.n
 have h2:=h.code
 have h3:=h.rln
 have h4:=tb_le h
 refine⟨by simp [secs],fun s hs=>?_⟩
 simp only [secs,List.mem_cons,List.not_mem_nil,or_false] at hs
 rcases hs with rfl|rfl|rfl|rfl|rfl
 ·show o.code.length≤_;omega
 ·show (rwB (r2 o.maps)).length≤_;rw [r2_len];omega
 ·show (rwB (r3 (L14.ofs 1 (nmL o.maps)))).length≤_;rw [r3_len,L14.ofs_len,nmL_len];omega
 ·show (rwB (r4 o.rels)).length≤_;rw [r4_len];omega
 ·show (L14.tb (nmL o.maps)).length≤_;omega
theorem secs_asc (o:Ob):asc 0 (secs o)=true:=by simp [secs,asc]
theorem secs_chk {o:Ob} (h:Gd o):chkV (secs o)=0:=by
 have h1:=h.n
 have h2:=h.code
 have h3:=h.rln
 have h4:=tb_le h
 refine chk0.2 ⟨⟨by simp [secs],?_⟩,secs_asc o⟩
 have e1:szL (secs o)=hd 5+(up o.code.length+(up (16*o.maps.length)+(up (8*o.maps.length)+(up (8*o.rels.length)+(up (L14.tb (nmL o.maps)).length+0))))):=by
  unfold szL secs
  simp only [L15.tot,r2_len,r3_len,r4_len,L14.ofs_len,nmL_len,List.length_cons,List.length_nil]
 have e2:hd 5=80:=rfl
 rw [e1,e2]
 unfold up;omega
theorem pk_len {o:Ob}:(pkB o).length=80+(up o.code.length+(up (16*o.maps.length)+(up (8*o.maps.length)+(up (8*o.rels.length)+up (L14.tb (nmL o.maps)).length)))):=by
 rw [pkB,wr_len]
 unfold szL secs
 simp only [L15.tot,r2_len,r3_len,r4_len,L14.ofs_len,nmL_len,List.length_cons,List.length_nil]
 rfl
def Is16 (b:List UInt8) (o:Ob):Prop:=chE o=0∧pkB o=b
theorem is16_rd {b:List UInt8} {o:Ob} (h:Is16 b o):rdOk b∧rdT b (nS b)=secs o:=rdOk_is ⟨secs_chk (gd_of h.1),h.2⟩
def mkD (t:List UInt8) (r:List Int):L9.Df:=⟨L14.mkB t,r.getD 0 0,r.getD 1 0,r.getD 2 0⟩
def mkR (r:List Int):Int × Int:=(r.getD 0 0,r.getD 1 0)
def obT (c d2 d4:List UInt8) (ts:List (List UInt8)):Ob:=⟨List.zipWith mkD ts (rdR 4 d2),c,(rdR 2 d4).map mkR⟩
theorem rd_r2 {o:Ob} (h:Gd o):rdR 4 (rwB (r2 o.maps))=r2 o.maps:=by
 refine rdR_rwB 4 _ (by decide) (fun r hr=>?_) (fun r hr z hz=>?_)
 ·obtain⟨d,-,rfl⟩:=List.mem_map.1 hr;rfl
 ·obtain⟨d,hd,rfl⟩:=List.mem_map.1 hr
  obtain⟨-,h1,h2,h3⟩:=L11.deE_of (h.df d hd)
  simp only [List.mem_cons,List.not_mem_nil,or_false] at hz
  omega
theorem rd_r4 {o:Ob} (h:Gd o):rdR 2 (rwB (r4 o.rels))=r4 o.rels:=by
 refine rdR_rwB 2 _ (by decide) (fun r hr=>?_) (fun r hr z hz=>?_)
 ·obtain⟨d,-,rfl⟩:=List.mem_map.1 hr;rfl
 ·obtain⟨d,hd,rfl⟩:=List.mem_map.1 hr
  have:=h.rels d hd
  simp only [List.mem_cons,List.not_mem_nil,or_false] at hz
  omega
theorem zip_mk:∀ l:List L9.Df,List.zipWith mkD (nmL l) (r2 l)=l
 | []=>rfl
 | d::r=>by
  have:=zip_mk r
  unfold nmL r2 at this ⊢
  rw [List.map_cons,List.map_cons,List.zipWith_cons_cons,this]
  congr 1
theorem obT_secs {o:Ob} (h:Gd o):obT o.code (rwB (r2 o.maps)) (rwB (r4 o.rels)) (nmL o.maps)=o:=by
 unfold obT
 rw [rd_r2 h,rd_r4 h,zip_mk]
 have:(r4 o.rels).map mkR=o.rels:=by
  unfold r4
  rw [List.map_map]
  conv=>rhs;rw [← List.map_id o.rels]
  exact List.map_congr_left fun r _=>rfl
 rw [this]
theorem prV_secs {o:Ob} (h:Gd o):L14.prV (L14.tb (nmL o.maps))=some (nmL o.maps):=L14.prV_tb _ fun t ht=>(h.nms t ht).1
def gD (l:List Sc) (k:Int):List UInt8:=(getV l k).getD []
end Go.Proofs.YtihiggnglmhggaaGreatDoor.L16
