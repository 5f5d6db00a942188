/- Lemmas and walks of L11Rc, L11Rp, L11Sz: what each theorem states; conditions stand in each theorem. -/
import Derived.Test.YtgljoilddjmohaaGreatDoorM24
import Derived.Test.YtgljoilddjmohaaGreatDoorL11Ck
import Derived.Test.YtgljoilddjmohaaGreatDoorM17
import Derived.Test.YtgljoilddjmohaaGreatDoorM22
import Derived.Test.YtgljoilddjmohaaGreatDoorM15
section
set_option maxHeartbeats 1000000
namespace Go.Proofs.YtgljoilddjmohaaGreatDoor.L11
open L9 (Df Ins IsWd tCom tOpn tShu tPlu tMin tCol eB spl offV joi shpB)
open L10 (Stm Pg Rd foldL rdL)
theorem frm86:L3.frm 86=-1:=by decide
theorem ix_of {op:Int} (h:L3.frm (L3.ix op)≠-1):∃ k:Nat,k<86∧op=(k:Int):=by
 unfold L3.ix at h
 split at h
 ·exact⟨op.toNat,by omega,by omega⟩
 ·exact absurd frm86 h
theorem ix_k {k:Nat} (h:k<86):L3.ix (k:Int)=k:=by
 unfold L3.ix
 rw [if_pos ⟨by omega,by omega⟩];rfl
theorem offO {o:Int} (h:L1.sx 16 o=o):isO o=true:=by
 have e:(o+32768) % 65536-32768=o:=h
 unfold isO
 simp only [Bool.and_eq_true,decide_eq_true_eq]
 omega
theorem meT_ok {r o:Int} (hr:L4.isG r=true) (ho:L1.sx 16 o=o):meT r o=meB r o:=by
 unfold meT
 rw [hr,offO ho]
 rfl
theorem he_ok {n:Int} (h:n=1∨n=2∨n=3):IsWd (heB n)∧L9.heV (heB n)=n:=by
 rcases h with rfl|rfl|rfl
 ·exact⟨isWd_c (by decide +kernel),by decide +kernel⟩
 ·exact⟨isWd_c (by decide +kernel),by decide +kernel⟩
 ·exact⟨isWd_c (by decide +kernel),by decide +kernel⟩
theorem na_vd {t:ByteArray} (h:L2.vd t=true):L9.naV t=0:=if_pos h
theorem nu_d {b x:Int} (hb:b=16∨b=32∨b=64) (hx:L1.sx b x=x) (h:0≤x):L9.nuV (dB x.toNat) b=(x,0):=by rw [← nB_pos h];exact nu_nB hb hx
theorem nu_m {b x:Int} (hb:b=16∨b=32∨b=64) (hx:L1.sx b x=x) (h:x<0):L9.nuV (tMin++dB x.natAbs) b=(x,0):=by rw [← nB_neg h];exact nu_nB hb hx
theorem rg_d (x:Int) (h:0≤x):(L2.rg (dB x.toNat)).2=false:=by rw [← nB_pos h];exact nB_rg x
theorem rg_m (x:Int) (h:x<0):(L2.rg (tMin++dB x.natAbs)).2=false:=by rw [← nB_neg h];exact nB_rg x
theorem oB_cases (o:Int):(o=0∧oB o=eB)∨(0<o∧oB o=tPlu++dB o.toNat)∨(o<0∧oB o=tMin++dB o.natAbs):=by
 unfold oB
 by_cases h0:o=0
 ·exact .inl ⟨h0,if_pos h0⟩
 ·rw [if_neg h0]
  by_cases h1:0<o
  ·exact .inr (.inl ⟨h1,by rw [if_pos h1,nB_pos (by omega)]⟩)
  ·exact .inr (.inr ⟨by omega,by rw [if_neg h1,nB_neg (by omega)]⟩)
theorem inT_k {k:Nat} (hk:k<86) {f:Int} (hf:L3.frm (L3.ix (k:Int))=f) (reg:Bool) (dst src off imm:Int) (tg mp:ByteArray):inT ⟨k,reg,dst,src,off,imm⟩ tg mp=opF (L3.nm k) 0 (opL f ⟨k,reg,dst,src,off,imm⟩ tg mp):=by
 unfold inT
 rw [hf,ix_k hk]
theorem code_read (op:Int) (reg:Bool) (dst src off imm:Int) (tg mp:ByteArray) (f:Int) (hf:L3.frm (L3.ix op)=f) (hc:L4.chkF f reg dst src off imm=0) (h1:L4.jmpF f=true→off=0∧L2.vd tg=true) (h2:f=11→imm=0∧L2.vd mp=true)
  (h3:L4.jmpF f=false→tg=eB) (h4:f≠11→mp=eB):Rdn (inT ⟨op,reg,dst,src,off,imm⟩ tg mp) (.cd ⟨op,reg,dst,src,off,imm⟩ tg mp):=by
 obtain⟨c1,c2,c3,c4,c5,c6,c7,c8,c9,c10⟩:=chk_all hc
 obtain⟨k,hk,rfl⟩:=ix_of (by rw [hf];exact c1)
 rw [inT_k hk hf]
 rcases L4.frm_isF (k:Int) with h|h|h|h|h|h|h|h|h|h|h|h|h <;> rw [hf] at h <;> subst h
 ·exact absurd rfl c1
 ·
  obtain rfl:=h3 rfl
  obtain rfl:=h4 (by decide)
  have e5:off=0:=c5.resolve_left (by decide)
  subst e5
  cases reg
  ·have e4:src=0:=c4.resolve_left (by decide)
   subst e4
   have hx:L1.sx 32 imm=imm:=by simpa [L4.rng] using c10
   by_cases hn:imm<0
   ·exact f_neg hk hf (.inl rfl) (nm_wd c7) (dB_wd imm.natAbs) (by rw [← nB_neg hn];rfl) (r:=⟨2,Df.z,⟨k,false,dst,0,0,imm⟩,eB,eB⟩) fun o=>by
     simp [L9.opV,L9.g0,nm_re c7,L9.seV,rg_m imm hn,nu_m (.inr (.inl rfl)) hx hn]
   ·exact f_two hk hf (.inl rfl) (nm_wd c7) (dB_wd imm.toNat) (by rw [← nB_pos (by omega)];rfl) (r:=⟨2,Df.z,⟨k,false,dst,0,0,imm⟩,eB,eB⟩) fun o=>by
     simp [L9.opV,L9.g0,nm_re c7,L9.seV,rg_d imm (by omega),nu_d (.inr (.inl rfl)) hx (by omega)]
  ·have e6:imm=0:=c6.resolve_left (by decide)
   subst e6
   exact f_two hk hf (.inl rfl) (nm_wd c7) (nm_wd c8) rfl (r:=⟨2,Df.z,⟨k,true,dst,src,0,0⟩,eB,eB⟩) fun o=>by
    simp [L9.opV,L9.g0,nm_re c7,L9.seV,nm_rg c8]
 ·
  obtain rfl:=h3 rfl
  obtain rfl:=h4 (by decide)
  obtain rfl:reg=false:=by rcases c2 with h|h|h <;> first|exact h|exact absurd h (by decide)
  obtain rfl:src=0:=c4.resolve_left (by decide)
  obtain rfl:off=0:=c5.resolve_left (by decide)
  obtain rfl:imm=0:=c6.resolve_left (by decide)
  exact f_one hk hf (.inl rfl) (nm_wd c7) rfl (r:=⟨2,Df.z,⟨k,false,dst,0,0,0⟩,eB,eB⟩) (by simp [L9.opV,L9.g0,nm_re c7])
 ·
  obtain rfl:=h3 rfl
  obtain rfl:=h4 (by decide)
  obtain rfl:reg=false:=by rcases c2 with h|h|h <;> first|exact h|exact absurd h (by decide)
  obtain rfl:off=0:=c5.resolve_left (by decide)
  obtain rfl:imm=0:=c6.resolve_left (by decide)
  exact f_two hk hf (.inr (.inr (.inl rfl))) (nm_wd c7) (nm_wd c8) rfl (r:=⟨2,Df.z,⟨k,false,dst,src,0,0⟩,eB,eB⟩) fun o=>by simp [L9.opV,L9.g0,nm_re c7,nm_re c8]
 ·
  obtain⟨rfl,hv⟩:=h1 rfl
  obtain rfl:=h4 (by decide)
  obtain rfl:reg=false:=by rcases c2 with h|h|h <;> first|exact h|exact absurd h (by decide)
  obtain rfl:dst=0:=c3.resolve_left (by decide)
  obtain rfl:src=0:=c4.resolve_left (by decide)
  obtain rfl:imm=0:=c6.resolve_left (by decide)
  exact f_one hk hf (.inr (.inl rfl)) (isWd_vd hv) rfl (r:=⟨2,Df.z,⟨k,false,0,0,0,0⟩,tg,eB⟩) (by simp [L9.opV,L9.g0,na_vd hv])
 ·
  obtain⟨rfl,hv⟩:=h1 rfl
  obtain rfl:=h4 (by decide)
  cases reg
  ·obtain rfl:src=0:=c4.resolve_left (by decide)
   have hx:L1.sx 32 imm=imm:=by simpa [L4.rng] using c10
   by_cases hn:imm<0
   ·exact f_threen hk hf (nm_wd c7) (dB_wd imm.natAbs) (isWd_vd hv) (by rw [← nB_neg hn];rfl) (r:=⟨2,Df.z,⟨k,false,dst,0,0,imm⟩,tg,eB⟩) fun o=>by
     simp [L9.opV,L9.g0,nm_re c7,L9.seV,rg_m imm hn,nu_m (.inr (.inl rfl)) hx hn,na_vd hv]
   ·exact f_three hk hf (nm_wd c7) (dB_wd imm.toNat) (isWd_vd hv) (by rw [← nB_pos (by omega)];rfl) (r:=⟨2,Df.z,⟨k,false,dst,0,0,imm⟩,tg,eB⟩) fun o=>by
     simp [L9.opV,L9.g0,nm_re c7,L9.seV,rg_d imm (by omega),nu_d (.inr (.inl rfl)) hx (by omega),na_vd hv]
  ·obtain rfl:imm=0:=c6.resolve_left (by decide)
   exact f_three hk hf (nm_wd c7) (nm_wd c8) (isWd_vd hv) rfl (r:=⟨2,Df.z,⟨k,true,dst,src,0,0⟩,tg,eB⟩) fun o=>by
    simp [L9.opV,L9.g0,nm_re c7,L9.seV,nm_rg c8,na_vd hv]
 ·
  obtain rfl:=h3 rfl
  obtain rfl:=h4 (by decide)
  obtain rfl:reg=false:=by rcases c2 with h|h|h <;> first|exact h|exact absurd h (by decide)
  obtain rfl:dst=0:=c3.resolve_left (by decide)
  obtain rfl:src=0:=c4.resolve_left (by decide)
  obtain rfl:off=0:=c5.resolve_left (by decide)
  have hi:imm=1∨imm=2∨imm=3:=by
   have:1≤imm∧imm≤3:=by simpa [L4.rng] using c10
   omega
  obtain⟨w1,w2⟩:=he_ok hi
  exact f_one hk hf (.inr (.inr rfl)) w1 rfl (r:=⟨2,Df.z,⟨k,false,0,0,0,imm⟩,eB,eB⟩) (by simp [L9.opV,L9.g0,w2];omega)
 ·
  obtain rfl:=h3 rfl
  obtain rfl:=h4 (by decide)
  obtain rfl:reg=false:=by rcases c2 with h|h|h <;> first|exact h|exact absurd h (by decide)
  obtain rfl:dst=0:=c3.resolve_left (by decide)
  obtain rfl:src=0:=c4.resolve_left (by decide)
  obtain rfl:off=0:=c5.resolve_left (by decide)
  obtain rfl:imm=0:=c6.resolve_left (by decide)
  exact f_none hk hf rfl
 ·
  obtain rfl:=h3 rfl
  obtain rfl:=h4 (by decide)
  obtain rfl:reg=false:=by rcases c2 with h|h|h <;> first|exact h|exact absurd h (by decide)
  obtain rfl:imm=0:=c6.resolve_left (by decide)
  have hm:opF (L3.nm k) 0 (opL 7 ⟨k,false,dst,src,off,0⟩ eB eB)=opF (L3.nm k) 0 [L2.nmS dst,meB src off]:=by rw [← meT_ok c8 c9];rfl
  rw [hm]
  rcases oB_cases off with ⟨rfl,e⟩|⟨h0,e⟩|⟨h0,e⟩
  ·exact f_load hk hf (nm_wd c7) (nm_wd c8) (by rw [← e];rfl) (r:=⟨2,Df.z,⟨k,false,dst,src,0,0⟩,eB,eB⟩) (by simp [L9.opV,L9.meV,L9.g0,nm_re c7,nm_re c8])
  ·exact f_loadp hk hf (nm_wd c7) (nm_wd c8) (dB_wd off.toNat) (by rw [← e];rfl) (r:=⟨2,Df.z,⟨k,false,dst,src,off,0⟩,eB,eB⟩) (by simp [L9.opV,L9.meV,L9.g0,nm_re c7,nm_re c8,nu_d (.inl rfl) c9 (by omega)])
  ·exact f_loadm hk hf (nm_wd c7) (nm_wd c8) (dB_wd off.natAbs) (by rw [← e];rfl) (r:=⟨2,Df.z,⟨k,false,dst,src,off,0⟩,eB,eB⟩) (by simp [L9.opV,L9.meV,L9.g0,nm_re c7,nm_re c8,nu_m (.inl rfl) c9 h0])
 ·
  obtain rfl:=h3 rfl
  obtain rfl:=h4 (by decide)
  obtain rfl:reg=false:=by rcases c2 with h|h|h <;> first|exact h|exact absurd h (by decide)
  obtain rfl:src=0:=c4.resolve_left (by decide)
  have hx:L1.sx 32 imm=imm:=by simpa [L4.rng] using c10
  have hm:opF (L3.nm k) 0 (opL 8 ⟨k,false,dst,0,off,imm⟩ eB eB)=opF (L3.nm k) 0 [meB dst off,nB imm]:=by rw [← meT_ok c7 c9];rfl
  rw [hm]
  by_cases hn:imm<0
  ·have ei:=nu_m (.inr (.inl rfl)) hx hn
   rw [nB_neg hn]
   rcases oB_cases off with ⟨rfl,e⟩|⟨h0,e⟩|⟨h0,e⟩
   ·exact f_storn hk hf (nm_wd c7) (dB_wd imm.natAbs) (by rw [← e];rfl) (r:=⟨2,Df.z,⟨k,false,dst,0,0,imm⟩,eB,eB⟩) (by simp [L9.opV,L9.meV,L9.g0,nm_re c7,ei])
   ·exact f_storpn hk hf (nm_wd c7) (dB_wd off.toNat) (dB_wd imm.natAbs) (by rw [← e];rfl) (r:=⟨2,Df.z,⟨k,false,dst,0,off,imm⟩,eB,eB⟩) (by simp [L9.opV,L9.meV,L9.g0,nm_re c7,ei,nu_d (.inl rfl) c9 (by omega)])
   ·exact f_stormn hk hf (nm_wd c7) (dB_wd off.natAbs) (dB_wd imm.natAbs) (by rw [← e];rfl) (r:=⟨2,Df.z,⟨k,false,dst,0,off,imm⟩,eB,eB⟩) (by simp [L9.opV,L9.meV,L9.g0,nm_re c7,ei,nu_m (.inl rfl) c9 h0])
  ·have ei:=nu_d (.inr (.inl rfl)) hx (by omega)
   rw [nB_pos (by omega)]
   rcases oB_cases off with ⟨rfl,e⟩|⟨h0,e⟩|⟨h0,e⟩
   ·exact f_stor hk hf (.inl rfl) (nm_wd c7) (dB_wd imm.toNat) (by rw [← e];rfl) (r:=⟨2,Df.z,⟨k,false,dst,0,0,imm⟩,eB,eB⟩) (by simp [L9.opV,L9.meV,L9.g0,nm_re c7,ei])
   ·exact f_storp hk hf (.inl rfl) (nm_wd c7) (dB_wd off.toNat) (dB_wd imm.toNat) (by rw [← e];rfl) (r:=⟨2,Df.z,⟨k,false,dst,0,off,imm⟩,eB,eB⟩) (by simp [L9.opV,L9.meV,L9.g0,nm_re c7,ei,nu_d (.inl rfl) c9 (by omega)])
   ·exact f_storm hk hf (.inl rfl) (nm_wd c7) (dB_wd off.natAbs) (dB_wd imm.toNat) (by rw [← e];rfl) (r:=⟨2,Df.z,⟨k,false,dst,0,off,imm⟩,eB,eB⟩) (by simp [L9.opV,L9.meV,L9.g0,nm_re c7,ei,nu_m (.inl rfl) c9 h0])
 ·
  obtain rfl:=h3 rfl
  obtain rfl:=h4 (by decide)
  obtain rfl:reg=false:=by rcases c2 with h|h|h <;> first|exact h|exact absurd h (by decide)
  obtain rfl:imm=0:=c6.resolve_left (by decide)
  have hm:opF (L3.nm k) 0 (opL 9 ⟨k,false,dst,src,off,0⟩ eB eB)=opF (L3.nm k) 0 [meB dst off,L2.nmS src]:=by rw [← meT_ok c7 c9];rfl
  rw [hm]
  rcases oB_cases off with ⟨rfl,e⟩|⟨h0,e⟩|⟨h0,e⟩
  ·exact f_stor hk hf (.inr rfl) (nm_wd c7) (nm_wd c8) (by rw [← e];rfl) (r:=⟨2,Df.z,⟨k,false,dst,src,0,0⟩,eB,eB⟩) (by simp [L9.opV,L9.meV,L9.g0,nm_re c7,nm_re c8])
  ·exact f_storp hk hf (.inr rfl) (nm_wd c7) (dB_wd off.toNat) (nm_wd c8) (by rw [← e];rfl) (r:=⟨2,Df.z,⟨k,false,dst,src,off,0⟩,eB,eB⟩) (by simp [L9.opV,L9.meV,L9.g0,nm_re c7,nm_re c8,nu_d (.inl rfl) c9 (by omega)])
  ·exact f_storm hk hf (.inr rfl) (nm_wd c7) (dB_wd off.natAbs) (nm_wd c8) (by rw [← e];rfl) (r:=⟨2,Df.z,⟨k,false,dst,src,off,0⟩,eB,eB⟩) (by simp [L9.opV,L9.meV,L9.g0,nm_re c7,nm_re c8,nu_m (.inl rfl) c9 h0])
 ·
  obtain rfl:=h3 rfl
  obtain rfl:=h4 (by decide)
  obtain rfl:reg=false:=by rcases c2 with h|h|h <;> first|exact h|exact absurd h (by decide)
  obtain rfl:src=0:=c4.resolve_left (by decide)
  obtain rfl:off=0:=c5.resolve_left (by decide)
  have hx:L1.sx 64 imm=imm:=by simpa [L4.rng] using c10
  by_cases hn:imm<0
  ·exact f_neg hk hf (.inr rfl) (nm_wd c7) (dB_wd imm.natAbs) (by rw [← nB_neg hn];rfl) (r:=⟨2,Df.z,⟨k,false,dst,0,0,imm⟩,eB,eB⟩) fun o=>by
    simp [L9.opV,L9.g0,nm_re c7,nu_m (.inr (.inr rfl)) hx hn]
  ·exact f_two hk hf (.inr (.inl rfl)) (nm_wd c7) (dB_wd imm.toNat) (by rw [← nB_pos (by omega)];rfl) (r:=⟨2,Df.z,⟨k,false,dst,0,0,imm⟩,eB,eB⟩) fun o=>by
    simp [L9.opV,L9.g0,nm_re c7,nu_d (.inr (.inr rfl)) hx (by omega)]
 ·
  obtain rfl:=h3 rfl
  obtain⟨rfl,hv⟩:=h2 rfl
  obtain rfl:reg=false:=by rcases c2 with h|h|h <;> first|exact h|exact absurd h (by decide)
  obtain rfl:src=0:=c4.resolve_left (by decide)
  obtain rfl:off=0:=c5.resolve_left (by decide)
  exact f_two hk hf (.inr (.inr (.inr rfl))) (nm_wd c7) (isWd_vd hv) rfl (r:=⟨2,Df.z,⟨k,false,dst,0,0,0⟩,eB,mp⟩) fun o=>by simp [L9.opV,L9.g0,nm_re c7,na_vd hv]
end Go.Proofs.YtgljoilddjmohaaGreatDoor.L11
end
section
namespace Go.Proofs.YtgljoilddjmohaaGreatDoor.L11
open L9 (Df Ins IsWd tCom tOpn tShu tPlu tMin tCol eB spl offV joi shpB)
open L10 (Stm Pg Rd foldL rdL)
theorem map_wd:IsWd L9.mapT:=isWd_c (by decide)
theorem sx32_of {x:Int} (h0:1≤x) (h1:x≤1024):L1.sx 32 x=x:=by
 show (x+2147483648) % 4294967296-2147483648=x
 omega
theorem de_read (d:Df) (h:L10.deE d=0):Rdn (deT d) (.mp d):=by
 obtain⟨hv,⟨k0,k1⟩,⟨v0,v1⟩,e0,e1⟩:=deE_of h
 obtain⟨nm,key,val,ent⟩:=d
 dsimp only at hv k0 k1 v0 v1 e0 e1
 have ho:okl [(L9.mapT,true),(nm,true),(dB key.toNat,true),(dB val.toNat,true),(dB ent.toNat,false)]:=okS map_wd (okS (isWd_vd hv) (okS (dB_wd _) (okS (dB_wd _) (okE (dB_wd _)))))
 have hl:(deT ⟨nm,key,val,ent⟩).data.toList=ly [(L9.mapT,true),(nm,true),(dB key.toNat,true),(dB val.toNat,true),(dB ent.toNat,false)]:=by
  unfold deT
  dsimp only
  rw [nB_pos (x:=key) (by omega),nB_pos (x:=val) (by omega),nB_pos (x:=ent) (by omega)]
  simp [ly,spB]
 obtain⟨h1,h2⟩:=toks_ly _ _ hl ho
 refine⟨?_,by rw [hl];exact ly_lf _ ho⟩
 have hk:=nu_d (.inr (.inl rfl)) (sx32_of k0 (by omega)) (by omega:0≤key)
 have hw:=nu_d (.inr (.inl rfl)) (sx32_of v0 (by omega)) (by omega:0≤val)
 have he:=nu_d (.inr (.inl rfl)) (sx32_of e0 (by omega)) (by omega:0≤ent)
 unfold L10.itL
 rw [h2,if_neg (by decide),h1]
 show L10.itV [L9.mapT,nm,dB key.toNat,dB val.toNat,dB ent.toNat]=_
 have hlab:L9.lab [] [L9.mapT,nm,dB key.toNat,dB val.toNat,dB ent.toNat]=(0,[],[L9.mapT,nm,dB key.toNat,dB val.toNat,dB ent.toNat]):=by
  rw [L9.lab,if_neg (fun hh=>ne_col (isWd_vd hv) hh.2)]
 unfold L10.itV
 rw [hlab]
 simp only [ne_eq,not_true_eq_false,if_false]
 rw [if_neg (by rw [map_wd.2.2.1];simp)]
 have hsh:shpB [nm,dB key.toNat,dB val.toNat,dB ent.toNat]=⟨#[119,119,119,119]⟩:=by
  show (⟨#[L8.shl1 nm.data.toList,L8.shl1 (dB key.toNat).data.toList,L8.shl1 (dB val.toNat).data.toList,L8.shl1 (dB ent.toNat).data.toList]⟩:ByteArray)=_
  rw [shp_w (isWd_vd hv),shp_w (dB_wd _),shp_w (dB_wd _),shp_w (dB_wd _)]
 have hnu:L9.nuE (dB key.toNat) (dB val.toNat) (dB ent.toNat)=0:=by
  unfold L9.nuE
  rw [hk,hw,he]
  simp
 have hdf:L9.dfV [nm,dB key.toNat,dB val.toNat,dB ent.toNat]=⟨nm,key,val,ent⟩:=by
  show (⟨nm,(L9.nuV (dB key.toNat) 32).1,(L9.nuV (dB val.toNat) 32).1,(L9.nuV (dB ent.toNat) 32).1⟩:Df)=_
  rw [hk,hw,he]
 have hdc:L9.dcV [nm,dB key.toNat,dB val.toNat,dB ent.toNat]=(⟨nm,key,val,ent⟩,0):=by
  unfold L9.dcV
  rw [if_neg (by rw [hsh];simp),if_neg (by show ¬ L9.naV nm≠0;rw [na_vd hv];simp),if_neg (by show ¬ L9.nuE (dB key.toNat) (dB val.toNat) (dB ent.toNat)≠0;rw [hnu];simp),hdf,if_neg]
  unfold L9.sizV
  simp
  omega
 unfold L10.itI
 rw [if_pos rfl,hdc]
 rfl
theorem lb_read (t:ByteArray) (h:L2.vd t=true):Rdn (t++tCol) (.lb t):=by
 have hw:=isWd_vd h
 have pK:Pun tCol:=⟨58,rfl,by decide⟩
 have ho:okl [(t,false),(tCol,false)]:=okW hw pK (okP pK trivial)
 have hl:(t++tCol).data.toList=ly [(t,false),(tCol,false)]:=by simp [ly]
 obtain⟨h1,h2⟩:=toks_ly _ _ hl ho
 refine⟨?_,by rw [hl];exact ly_lf _ ho⟩
 unfold L10.itL
 rw [h2,if_neg (by decide),h1]
 show L10.itV [t,tCol]=_
 have hlab:L9.lab [] [t,tCol]=(0,[t],[]):=by
  rw [L9.lab,if_pos ⟨hw.2.2.1,rfl⟩,if_pos h,L9.lab]
  rfl
 unfold L10.itV
 rw [hlab]
 rfl
theorem foldL_app:∀ (l m:List ByteArray) (s:Rd),(foldL s l).2=0→foldL s (l++m)=foldL (foldL s l).1 m
 | [],_,_,_=>rfl
 | t::r,m,s,h=>by
  rw [List.cons_append,foldL]
  rw [foldL] at h ⊢
  by_cases h0:(rdL s t).2=0
  ·rw [if_neg (by simp [h0])] at h ⊢
   rw [if_neg (by simp [h0])]
   exact foldL_app r m _ h
  ·rw [if_pos h0] at h
   exact absurd h h0
theorem rd_one {s:Rd} {t:ByteArray} {i:L10.It} (h:Rdn t i):rdL s t=L10.foldI { s with line:=s.line+1 } [i]:=by
 unfold rdL
 rw [h.1]
 rw [if_neg (by simp)]
theorem fold_maps:∀ (l:List Df) (s:Rd),(∀ d∈l,L10.deE d=0)→s.labs=[]→s.stmts=[]→∃ s',foldL s (l.map deT)=(s',0)∧s'.maps=s.maps++l∧s'.stmts=[]∧s'.labs=[]
 | [],s,_,h1,h2=>⟨s,rfl,by simp,h2,h1⟩
 | d::r,s,h,h1,h2=>by
  have e:rdL s (deT d)=(({ s with line:=s.line+1 }:Rd).map d,0):=by
   rw [rd_one (de_read d (h d (by simp)))]
   show (if s.labs≠[]∨s.stmts≠[] then _ else _)=_
   rw [if_neg (by simp [h1,h2])]
   rfl
  obtain⟨s',e1,e2,e3,e4⟩:=fold_maps r (({ s with line:=s.line+1 }:Rd).map d) (fun x hx=>h x (by simp [hx])) h1 h2
  refine⟨s',?_,?_,e3,e4⟩
  ·rw [List.map_cons,foldL,e]
   exact e1
  ·rw [e2]
   show (s.maps++[d])++r=_
   simp
theorem fold_labs:∀ (l:List ByteArray) (s:Rd),(∀ t∈l,L2.vd t=true)→∃ s',foldL s (l.map (·++tCol))=(s',0)∧s'.maps=s.maps∧s'.stmts=s.stmts∧s'.labs=s.labs++l
 | [],s,_=>⟨s,rfl,rfl,rfl,by simp⟩
 | t::r,s,h=>by
  have e:rdL s (t++tCol)=(({ s with line:=s.line+1 }:Rd).lab t,0):=by
   rw [rd_one (lb_read t (h t (by simp)))]
   rfl
  obtain⟨s',e1,e2,e3,e4⟩:=fold_labs r (({ s with line:=s.line+1 }:Rd).lab t) (fun x hx=>h x (by simp [hx]))
  refine⟨s',?_,e2,e3,?_⟩
  ·rw [List.map_cons,foldL,e]
   exact e1
  ·rw [e4]
   show (s.labs++[t])++r=_
   simp
def SmR (s:Stm):Prop:=(∀ t∈s.labs,L2.vd t=true)∧Rdn (smT s) (.cd s.x s.tg s.mp)
theorem fold_stms:∀ (l:List Stm) (s:Rd),(∀ x∈l,SmR x)→s.labs=[]→∃ s',foldL s (l.flatMap slT)=(s',0)∧s'.maps=s.maps∧s'.stmts=s.stmts++l∧s'.labs=[]
 | [],s,_,h=>⟨s,rfl,rfl,by simp,h⟩
 | x::r,s,h,hl=>by
  obtain⟨hx1,hx2⟩:=h x (by simp)
  obtain⟨s1,a1,a2,a3,a4⟩:=fold_labs x.labs s hx1
  have e:rdL s1 (smT x)=(({ s1 with line:=s1.line+1 }:Rd).cod x.x x.tg x.mp,0):=by
   rw [rd_one hx2]
   rfl
  obtain⟨s',e1,e2,e3,e4⟩:=fold_stms r (({ s1 with line:=s1.line+1 }:Rd).cod x.x x.tg x.mp) (fun y hy=>h y (by simp [hy])) rfl
  refine⟨s',?_,e2.trans a2,?_,e4⟩
  ·rw [List.flatMap_cons]
   unfold slT
   rw [List.append_assoc,foldL_app _ _ _ (by rw [a1]),a1,List.singleton_append,foldL,e]
   exact e1
  ·rw [e3]
   show (s1.stmts++[⟨s1.labs,x.x,x.tg,x.mp⟩])++r=_
   rw [a3,a4,hl,List.nil_append,List.append_assoc]
   rfl
theorem lsx_line:∀ (t a rest:List UInt8),(10:UInt8)∉t→L8.lsx a (t++10::rest)=(a++t)::L8.lsx [] rest
 | [],a,rest,_=>by
  rw [List.nil_append,L8.lsx,if_pos (by decide),List.append_nil]
 | c::r,a,rest,h=>by
  rw [List.cons_append,L8.lsx,if_neg (by intro e;have e':c=10:=(by simpa using e);exact h (by rw [e'];simp)),lsx_line r (a++[c]) rest (fun hm=>h (by simp [hm]))]
  simp
theorem lns_liT (l:List ByteArray) (h:∀ t∈l,(10:UInt8)∉t.data.toList):L8.lns (liT l)=l:=by
 rw [L8.lns_lsx]
 have:∀ l:List ByteArray,(∀ t∈l,(10:UInt8)∉t.data.toList)→(L8.lsx [] (liT l).data.toList).map L8.mkB=l:=by
  intro l
  induction l with
  | nil=>intro _;rfl
  | cons t r ih =>
   intro h
   have e:(liT (t::r)).data.toList=t.data.toList++10::(liT r).data.toList:=by simp [liT,lfB]
   rw [e,lsx_line _ _ _ (h t (by simp)),List.map_cons,ih (fun x hx=>h x (by simp [hx])),List.nil_append,L8.mkB_of]
 exact this l h
theorem stE_read (s:Stm) (h:L10.stE s=0):SmR s:=by
 obtain⟨labs,⟨op,reg,dst,src,off,imm⟩,tg,mp⟩:=s
 unfold L10.stE at h
 dsimp only at h
 split at h
 ·rename_i hl
  split at h
  ·rename_i hc
   split at h
   ·cases h
   ·rename_i hb
    split at h
    ·cases h
    ·rename_i hn
     have hb':L10.badF ⟨labs,⟨op,reg,dst,src,off,imm⟩,tg,mp⟩=false:=by simpa using hb
     have hn':L10.badN ⟨labs,⟨op,reg,dst,src,off,imm⟩,tg,mp⟩=false:=by simpa using hn
     simp only [L10.badF,L10.badN,L10.jmI,L10.rfI,L10.fmI,Bool.or_eq_false_iff] at hb' hn'
     obtain⟨⟨⟨b1,b2⟩,b3⟩,b4⟩:=hb'
     obtain⟨n1,n2⟩:=hn'
     refine⟨fun t ht=>List.all_eq_true.1 hl t ht,code_read op reg dst src off imm tg mp _ rfl hc ?_ ?_ ?_ ?_⟩
     ·intro hj
      rw [hj] at b1 n1
      exact⟨by simpa using b1,by simpa using n1⟩
     ·intro hf
      rw [hf] at b2 n2
      exact⟨by simpa using b2,by simpa using n2⟩
     ·intro hj
      rw [hj] at b3
      exact emp (by simpa using b3)
     ·intro hf
      refine emp ?_
      have:(L3.frm (L3.ix op)==11)=false:=by simpa using hf
      rw [this] at b4
      simpa using b4
  ·rename_i hc
   exact absurd h hc
 ·cases h
theorem lnT_lf {p:Pg} (h:(L10.brV p).2.2=0):∀ t∈lnT p,(10:UInt8)∉t.data.toList:=by
 obtain⟨h1,h2⟩:=brV_parts h
 intro t ht
 unfold lnT at ht
 rcases List.mem_append.1 ht with ht|ht
 ·obtain⟨d,hd,rfl⟩:=List.mem_map.1 ht
  exact (de_read d (h1 d hd)).2
 ·obtain⟨s,hs,ht⟩:=List.mem_flatMap.1 ht
  obtain⟨k1,k2⟩:=stE_read s (h2 s hs)
  unfold slT at ht
  rcases List.mem_append.1 ht with ht|ht
  ·obtain⟨x,hx,rfl⟩:=List.mem_map.1 ht
   exact (lb_read x (k1 x hx)).2
  ·obtain rfl:t=smT s:=by simpa using ht
   exact k2.2
theorem pa_text (p:Pg) (h:(L10.brV p).2.2=0):∃ sl,L10.paV (pgT p)=(p,sl,0,0):=by
 obtain⟨h1,h2⟩:=brV_parts h
 obtain⟨s1,a1,a2,a3,a4⟩:=fold_maps p.maps Rd.z h1 rfl rfl
 obtain⟨s2,b1,b2,b3,b4⟩:=fold_stms p.stmts s1 (fun s hs=>stE_read s (h2 s hs)) a4
 have hf:foldL Rd.z (lnT p)=(s2,0):=by
  unfold lnT
  rw [foldL_app _ _ _ (by rw [a1]),a1]
  exact b1
 have hm:s2.maps=p.maps:=by rw [b2,a2];rfl
 have hs:s2.stmts=p.stmts:=by rw [b3,a3];rfl
 have hp:(⟨s2.maps,s2.stmts⟩:Pg)=p:=by rw [hm,hs]
 refine⟨s2.sl,?_⟩
 unfold L10.paV pgT
 rw [lns_liT _ (lnT_lf h),hf]
 unfold L10.paF
 dsimp only
 rw [if_neg (by simp),if_neg (by simp [b4]),hp,if_neg (by simpa using h)]
end Go.Proofs.YtgljoilddjmohaaGreatDoor.L11
end
section
namespace Go.Proofs.YtgljoilddjmohaaGreatDoor.L11
open L10 (Stm Pg)
def lw:List ByteArray→Nat
 | []=>0
 | t::r=>(t.size+1)+lw r
theorem lw_app:∀ (l m:List ByteArray),lw (l++m)=lw l+lw m
 | [],m=>by rw [List.nil_append,lw];omega
 | t::r,m=>by rw [List.cons_append,lw,lw,lw_app r m];omega
theorem liT_lw:∀ l:List ByteArray,(liT l).size=lw l
 | []=>rfl
 | t::r=>by
  have e:lfB.size=1:=rfl
  rw [liT,lw,ByteArray.size_append,ByteArray.size_append,liT_lw r,e]
theorem lw_len:∀ l:List ByteArray,l.length≤lw l
 | []=>Nat.le_refl _
 | t::r=>by have:=lw_len r;rw [lw,List.length_cons];omega
theorem lw_map {α:Type} (f:α→ByteArray) (n:Nat):∀ l:List α,(∀ x∈l,(f x).size≤n)→lw (l.map f)≤(n+1)*l.length
 | [],_=>by simp [lw]
 | x::r,h=>by
  have h1:=lw_map f n r (fun y hy=>h y (by simp [hy]))
  have h2:=h x (by simp)
  rw [List.map_cons,lw,List.length_cons,Nat.mul_add]
  omega
theorem lw_col:∀ l:List ByteArray,lw (l.map (·++L9.tCol))≤2*lw l
 | []=>by simp [lw]
 | x::r=>by
  have h1:=lw_col r
  have e:L9.tCol.size=1:=rfl
  rw [List.map_cons,lw,lw,ByteArray.size_append,e]
  omega
def sw:List Stm→Nat
 | []=>0
 | s::r=>lw s.labs+sw r
theorem lw_sl1 (s:Stm):lw (slT s)=lw (s.labs.map (·++L9.tCol))+((smT s).size+1):=by
 unfold slT
 rw [lw_app,lw,lw]
theorem lw_slT (n:Nat):∀ l:List Stm,(∀ s∈l,(smT s).size≤n)→lw (l.flatMap slT)≤(n+1)*l.length+2*sw l
 | [],_=>by simp [lw]
 | s::r,h=>by
  have h1:=lw_slT n r (fun y hy=>h y (by simp [hy]))
  have h2:=h s (by simp)
  have h3:=lw_col s.labs
  rw [List.flatMap_cons,lw_app,List.length_cons,Nat.mul_add,sw,lw_sl1]
  omega
theorem opF_size:∀ (l:List ByteArray) (t:ByteArray) (i:Nat),(∀ a∈l,a.size≤40)→(opF t i l).size≤t.size+42*l.length
 | [],t,i,_=>by rw [opF];simp
 | a::r,t,i,h=>by
  have h1:=opF_size r (opS t i a) (i+1) (fun y hy=>h y (by simp [hy]))
  have h2:=h a (by simp)
  have h3:(opS t i a).size≤t.size+42:=by
   have e1:spB.size=1:=rfl
   have e2:L9.tCom.size=1:=rfl
   unfold opS
   split
   ·simp only [ByteArray.size_append];omega
   ·simp only [ByteArray.size_append];omega
  rw [opF,List.length_cons]
  omega
theorem meT_len40 (r o:Int) (h0:-9223372036854775808≤o) (h1:o≤9223372036854775807):(meT r o).size≤40:=by
 have h2:=nB_len o h0 h1
 have h3:=nmS_len r
 unfold meT
 split
 ·unfold meB oB
  have e1:L9.tOpn.size=1:=rfl
  have e2:L9.tShu.size=1:=rfl
  have e3:L9.tPlu.size=1:=rfl
  have e4:L9.eB.size=0:=rfl
  split
  ·simp only [ByteArray.size_append];omega
  split
  ·simp only [ByteArray.size_append];omega
  ·simp only [ByteArray.size_append];omega
 ·decide
theorem nm_len12 (i:Nat):(L3.nm i).size≤12:=by
 by_cases h:i<86
 ·have:∀ k,k<86→(L3.nm k).size≤12:=by decide +kernel
  exact this i h
 ·have hl:L3.nmL.length≤86:=by decide +kernel
  have e:L3.nm i=L3.nm 86:=by unfold L3.nm;rw [List.getD_eq_getElem?_getD,List.getD_eq_getElem?_getD,List.getElem?_eq_none (by omega),List.getElem?_eq_none hl]
  rw [e];decide +kernel
theorem all1 {a:ByteArray} (h:a.size≤40):([a]:List ByteArray).length≤3∧∀ x∈[a],x.size≤40:=⟨by simp,fun x hx=>by
 simp only [List.mem_cons,List.not_mem_nil,or_false] at hx
 rw [hx];exact h⟩
theorem all2 {a b:ByteArray} (h:a.size≤40) (k:b.size≤40):([a,b]:List ByteArray).length≤3∧∀ x∈[a,b],x.size≤40:=⟨by simp,fun x hx=>by
 simp only [List.mem_cons,List.not_mem_nil,or_false] at hx
 rcases hx with hx|hx
 ·rw [hx];exact h
 ·rw [hx];exact k⟩
theorem all3 {a b c:ByteArray} (h:a.size≤40) (k:b.size≤40) (m:c.size≤40):([a,b,c]:List ByteArray).length≤3∧∀ x∈[a,b,c],x.size≤40:=⟨by simp,fun x hx=>by
 simp only [List.mem_cons,List.not_mem_nil,or_false] at hx
 rcases hx with hx|hx|hx
 ·rw [hx];exact h
 ·rw [hx];exact k
 ·rw [hx];exact m⟩
theorem heB_len (n:Int):(heB n).size≤6:=by
 unfold heB
 split
 ·decide
 split
 ·decide
 ·decide
theorem opL_size (f:Int) (x:L9.Ins) (tg mp:ByteArray) (ho:-9223372036854775808≤x.off∧x.off≤9223372036854775807) (hi:-9223372036854775808≤x.imm∧x.imm≤9223372036854775807) (ht:tg.size≤40) (hm:mp.size≤40) :
  (opL f x tg mp).length≤3∧∀ a∈opL f x tg mp,a.size≤40:=by
 have h1:=Nat.le_trans (nmS_len x.dst) (by decide:3≤40)
 have h2:=Nat.le_trans (nmS_len x.src) (by decide:3≤40)
 have h3:=Nat.le_trans (nB_len x.imm hi.1 hi.2) (by decide:21≤40)
 have h4:=meT_len40 x.src x.off ho.1 ho.2
 have h5:=meT_len40 x.dst x.off ho.1 ho.2
 have h6:=Nat.le_trans (heB_len x.imm) (by decide:6≤40)
 have h7:(seB x).size≤40:=by unfold seB;split <;> assumption
 unfold opL
 by_cases f0:f=0
 ·rw [if_pos f0];exact all2 h1 h7
 rw [if_neg f0]
 by_cases f1:f=1
 ·rw [if_pos f1];exact all1 h1
 rw [if_neg f1]
 by_cases f2:f=2
 ·rw [if_pos f2];exact all2 h1 h2
 rw [if_neg f2]
 by_cases f3:f=3
 ·rw [if_pos f3];exact all1 ht
 rw [if_neg f3]
 by_cases f4:f=4
 ·rw [if_pos f4];exact all3 h1 h7 ht
 rw [if_neg f4]
 by_cases f5:f=5
 ·rw [if_pos f5];exact all1 h6
 rw [if_neg f5]
 by_cases f7:f=7
 ·rw [if_pos f7];exact all2 h1 h4
 rw [if_neg f7]
 by_cases f8:f=8
 ·rw [if_pos f8];exact all2 h5 h3
 rw [if_neg f8]
 by_cases f9:f=9
 ·rw [if_pos f9];exact all2 h5 h2
 rw [if_neg f9]
 by_cases f10:f=10
 ·rw [if_pos f10];exact all2 h1 h3
 rw [if_neg f10]
 by_cases f11:f=11
 ·rw [if_pos f11];exact all2 h1 hm
 rw [if_neg f11]
 exact⟨by simp,fun x hx=>by cases hx⟩
theorem stE_tx {s:Stm} (h:L10.stE s=0):s.tg.size≤32∧s.mp.size≤32:=by
 obtain⟨labs,⟨op,reg,dst,src,off,imm⟩,tg,mp⟩:=s
 unfold L10.stE at h
 dsimp only at h
 split at h
 ·split at h
  ·split at h
   ·cases h
   ·rename_i hb
    split at h
    ·cases h
    ·rename_i hn
     have hb':L10.badF ⟨labs,⟨op,reg,dst,src,off,imm⟩,tg,mp⟩=false:=by simpa using hb
     have hn':L10.badN ⟨labs,⟨op,reg,dst,src,off,imm⟩,tg,mp⟩=false:=by simpa using hn
     simp only [L10.badF,L10.badN,L10.jmI,L10.rfI,L10.fmI,Bool.or_eq_false_iff] at hb' hn'
     obtain⟨⟨⟨b1,b2⟩,b3⟩,b4⟩:=hb'
     obtain⟨n1,n2⟩:=hn'
     refine⟨?_,?_⟩
     ·show tg.size≤32
      cases hj:L4.jmpF (L3.frm (L3.ix op))
      ·rw [hj] at b3
       rw [show tg=L9.eB from emp (by simpa using b3)];decide
      ·rw [hj] at n1
       exact vd_32 (t:=tg) (by simpa using n1)
     ·show mp.size≤32
      cases hj:(L3.frm (L3.ix op)==11)
      ·rw [hj] at b4
       rw [show mp=L9.eB from emp (by simpa using b4)];decide
      ·rw [hj] at n2
       exact vd_32 (t:=mp) (by simpa using n2)
  ·rename_i hc
   exact absurd h hc
 ·cases h
theorem smT_size {s:Stm} (h:L10.stE s=0):(smT s).size≤138:=by
 obtain⟨h1,h2⟩:=stE_tx h
 have hr:=(stE_ok s h).rng
 obtain⟨o0,o1,i0,i1⟩:=hr
 obtain⟨k1,k2⟩:=opL_size (L3.frm (L3.ix s.x.op)) s.x s.tg s.mp ⟨o0,o1⟩ ⟨i0,i1⟩ (by omega) (by omega)
 have k3:=opF_size _ (L3.nm (L3.ix s.x.op)) 0 k2
 have k4:=nm_len12 (L3.ix s.x.op)
 unfold smT inT
 omega
theorem deT_size {d:L9.Df} (h:L10.deE d=0):(deT d).size≤110:=by
 obtain⟨hv,⟨k0,k1⟩,⟨v0,v1⟩,e0,e1⟩:=deE_of h
 have h1:=vd_32 hv
 have h2:=nB_len d.key (by omega) (by omega)
 have h3:=nB_len d.val (by omega) (by omega)
 have h4:=nB_len d.ent (by omega) (by omega)
 have e1:L9.mapT.size=3:=rfl
 have e2:spB.size=1:=rfl
 unfold deT
 simp only [ByteArray.size_append,e1,e2]
 omega
theorem pgT_size {p:Pg} (h:(L10.brV p).2.2=0):(pgT p).size≤111*p.maps.length+139*p.stmts.length+2*sw p.stmts:=by
 obtain⟨h1,h2⟩:=brV_parts h
 unfold pgT lnT
 rw [liT_lw,lw_app]
 have k1:=lw_map deT 110 p.maps (fun d hd=>deT_size (h1 d hd))
 have k2:=lw_slT 138 p.stmts (fun s hs=>smT_size (h2 s hs))
 omega
theorem lnT_pgT (p:Pg):(lnT p).length≤(pgT p).size:=by
 unfold pgT
 rw [liT_lw]
 exact lw_len _
theorem lw_vd:∀ l:List ByteArray,(∀ t∈l,t.size≤32)→lw l≤33*l.length
 | [],_=>by simp [lw]
 | t::r,h=>by
  have h1:=lw_vd r (fun y hy=>h y (by simp [hy]))
  have h2:=h t (by simp)
  rw [lw,List.length_cons]
  omega
theorem sw_vd:∀ l:List Stm,(∀ s∈l,∀ t∈s.labs,t.size≤32)→sw l≤33*L10.lsum l
 | [],_=>by simp [sw]
 | s::r,h=>by
  have h1:=sw_vd r (fun y hy=>h y (by simp [hy]))
  have h2:=lw_vd s.labs (h s (by simp))
  rw [sw,L10.lsum]
  omega
theorem few_size {p:Pg} (h:(L10.brV p).2.2=0) (hf:p.maps.length≤300∧p.stmts.length≤60∧L10.lsum p.stmts≤200):(pgT p).size≤99990:=by
 have h1:=pgT_size h
 have h2:=sw_vd p.stmts (fun s hs=>(stE_ok s ((brV_parts h).2 s hs)).lb)
 omega
theorem few_room {p:Pg} (h:(L10.brV p).2.2=0) (hf:p.maps.length≤300∧p.stmts.length≤60∧L10.lsum p.stmts≤200):Room p:=by
 have h1:=few_size h hf
 have h2:=lnT_pgT p
 have h3:=L10.sml_few hf
 exact⟨h3.maps,h3.stmts,h3.labs,by omega,by omega⟩
end Go.Proofs.YtgljoilddjmohaaGreatDoor.L11
end
