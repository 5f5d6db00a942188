/- The object of a correct program is correct, plain. It speaks of no memory; no condition. -/
import Derived.Test.YtohkgdfkklfgmaaGreatDoorM49
import Derived.Test.YtohkgdfkklfgmaaGreatDoorM30
namespace Go.Proofs.YtohkgdfkklfgmaaGreatDoor.L16
set_option maxRecDepth 100000
open L3 L4 L12
open L13 (Ob)
theorem sl_one {x:L9.Ins} (h:frm (ix x.op)≠-1):1≤slN x:=by
 have e:=slN_int x
 rcases L5.slo_of (frm_isF x.op) with k|k|k
 ·unfold slo at k
  rcases frm_isF x.op with f|f|f|f|f|f|f|f|f|f|f|f|f <;> rw [f] at k h <;> first|exact absurd rfl h|(simp at k)
 ·omega
 ·omega
theorem bytes_sl {x:L9.Ins} (h:frm (ix x.op)≠-1):(L13.tI x).bytes.length=8*slN x:=by
 have e:=slN_int x
 have e1:=sl_one h
 unfold L5.Ix.bytes
 rw [L5.encL_length]
 show (if slo (frm (ix x.op))=2 then 16 else 8)=_
 rcases L5.slo_of (frm_isF x.op) with k|k|k
 ·omega
 ·rw [k,if_neg (by decide)];omega
 ·rw [k,if_pos rfl];omega
theorem join_sl:∀ l:List L9.Ins,(∀ x∈l,frm (ix x.op)≠-1)→(L5.joinB (l.map L13.tI)).length=8*smN l
 | [],_=>rfl
 | x::r,h=>by
  have h1:=join_sl r fun y hy=>h y (List.mem_cons_of_mem _ hy)
  have h2:=bytes_sl (h x (List.mem_cons_self ..))
  unfold L5.joinB at h1 ⊢
  rw [List.map_cons,List.flatMap_cons,List.length_append,h1,h2,smN];omega
theorem sm_op:∀ l m:List L9.Ins,l.map (·.op)=m.map (·.op)→smN l=smN m
 | [],[],_=>rfl
 | [],y::m,h=>by simp at h
 | x::l,[],h=>by simp at h
 | x::l,y::m,h=>by
  simp only [List.map_cons,List.cons.injEq] at h
  rw [smN,smN,sm_op l m h.2]
  unfold slN
  rw [h.1]
theorem sm_rs (p:L10.Pg):smN (L13.rsL p)=smN (cdL p.stmts):=by
 refine sm_op _ _ (List.ext_getElem (by rw [List.length_map,List.length_map,L13.rsL_len,cdL_len]) fun i h1 h2=>?_)
 rw [List.length_map,L13.rsL_len] at h1
 rw [List.getElem_map,List.getElem_map,L13.rsL_get p i h1,L13.rsI_op,cdL_get p.stmts i h1]
theorem sm_pos:∀ l:List L9.Ins,(∀ x∈l,1≤slN x)→0<l.length→1≤smN l
 | [],_,h=>absurd h (by simp)
 | x::r,h,_=>by
  have:=h x (List.mem_cons_self ..)
  rw [smN];omega
theorem mp_lt:∀ (l:List L9.Df) (k:Nat) (x:ByteArray),L10.mpI k l x<(k:Int)+l.length
 | [],k,_=>by rw [L10.mpI];simp only [List.length_nil];omega
 | d::r,k,x=>by
  rw [L10.mpI]
  have:=mp_lt r (k+1) x
  simp only [List.length_cons]
  split <;> omega
theorem rl_refs (ms:List L9.Df):∀ (l:List L10.Stm) (a:Nat) (la:Int) (s:Nat),(∀ t∈l,1≤slN t.x)→la<(a:Int)→a+smN (cdL l)≤s→rlF la s ms.length ((rfL ms a l).map fun r=>((r.1:Int),r.2))=true
 | [],_,_,_,_,_,_=>rfl
 | t::r,a,la,s,h,hl,hs=>by
  have h1:=h t (List.mem_cons_self ..)
  have h2:∀ t∈r,1≤slN t.x:=fun y hy=>h y (List.mem_cons_of_mem _ hy)
  have hs':a+(slN t.x+smN (cdL r))≤s:=hs
  rw [rfL,List.map_append]
  by_cases hc:frm (ix t.x.op)=11∧0≤L10.mpI 0 ms t.mp
  ·rw [if_pos hc]
   have hm:=mp_lt ms 0 t.mp
   have ih:=rl_refs ms r (a+slN t.x) (a:Int) s h2 (by omega) (by omega)
   simp only [List.map_cons,List.map_nil,List.cons_append,List.nil_append,rlF,Bool.and_eq_true,decide_eq_true_eq]
   exact⟨⟨⟨⟨hl,by omega⟩,hc.2⟩,by omega⟩,ih⟩
  ·rw [if_neg hc]
   exact rl_refs ms r (a+slN t.x) la s h2 (by omega) (by omega)
theorem chE_prog {p:L10.Pg} (h:(L10.brV p).2.2=0) (hn:p.stmts.length≤10000):chE (L13.obV p)=0:=by
 have k:=L11.frB_ok _ h
 have k1:mE p.maps=0:=k (true,L10.fe (p.maps.map L10.deE)) (by simp [L10.cnd])
 have k2:(L10.fe (L10.szE p.maps.length)).2=0:=k (true,L10.fe (L10.szE p.maps.length)) (by simp [L10.cnd])
 have k3:(L10.fe (L10.dpE [] (p.maps.map fun d=>[d.nm]))).2=0:=k (true,L10.fe (L10.dpE [] (p.maps.map fun d=>[d.nm]))) (by simp [L10.cnd])
 have k4:(if 0<p.stmts.length then (0:Int) else 15)=0:=k (false,(0,if 0<p.stmts.length then 0 else 15)) (by simp [L10.cnd])
 have j2:p.maps.length≤255:=by
  rw [L10.fe_sz] at k2
  by_cases hc:p.maps.length≤255
  ·exact hc
  ·rw [if_neg hc] at k2;cases k2
 have j3:L2.rp (p.maps.map (·.nm))=-1:=by
  rcases L10.dp_maps p.maps with ⟨e,-⟩|⟨m,-,e⟩
  ·exact e
  ·rw [e] at k3;cases k3
 have j4:0<p.stmts.length:=by
  by_cases hc:0<p.stmts.length
  ·exact hc
  ·rw [if_neg hc] at k4;cases k4
 have hf:∀ s∈p.stmts,frm (ix s.x.op)≠-1:=fun s hs=>(L11.chk_all (L13.good_of h s hs).chk).1
 have hsl:∀ s∈p.stmts,1≤slN s.x:=fun s hs=>sl_one (hf s hs)
 have hS1:1≤smN (cdL p.stmts):=sm_pos _ (fun x hx=>by
  unfold L12.cdL at hx
  obtain⟨s,hs,rfl⟩:=List.mem_map.1 hx
  exact hsl s hs) (by rw [cdL_len];exact j4)
 have hS2:=smN_le (cdL p.stmts)
 rw [cdL_len] at hS2
 have hlen:(L13.cdB p).length=8*smN (cdL p.stmts):=by
  unfold L13.cdB
  rw [join_sl _ (fun x hx=>?_),sm_rs]
  obtain⟨i,hi,rfl⟩:=List.mem_iff_getElem.1 hx
  rw [L13.rsL_len] at hi
  rw [L13.rsL_get p i hi,L13.rsI_op]
  exact hf _ (List.getElem_mem hi)
 have hrl:rlF (-1) ((L13.cdB p).length / 8) p.maps.length ((rfT p p.stmts.length).map fun r=>((r.1:Int),r.2))=true:=by
  unfold rfT
  rw [List.take_length]
  exact rl_refs p.maps p.stmts 0 (-1) _ hsl (by omega) (by omega)
 unfold chE
 show (if mE p.maps≠0 then mE p.maps else if 255<p.maps.length then 16 else if L2.rp (p.maps.map (·.nm))≠-1 then 10 else if (L13.cdB p).length / 8=0∨(L13.cdB p).length % 8≠0 then 17 else if 65535<(L13.cdB p).length / 8 then 16
  else if rlF (-1) ((L13.cdB p).length / 8) p.maps.length ((rfT p p.stmts.length).map fun r=>((r.1:Int),r.2))=true then 0 else 18)=0
 rw [if_neg (by simpa using k1),if_neg (by omega),if_neg (by simpa using j3),if_neg (by omega),if_neg (by omega),if_pos hrl]
theorem os_prog {p:L10.Pg} (h:(L10.brV p).2.2=0) (hf:L10.Fits p) (hn:p.stmts.length≤6000):OS (L13.obV p):=by
 obtain⟨h1,h2,h3⟩:=L13.obV_s hf hn
 refine⟨h1,h2,h3,fun d hd=>?_⟩
 obtain⟨hv,-⟩:=L11.deE_of ((L11.brV_parts h).1 d hd)
 have:=(vd_rt hv).2
 rw [Array.length_toList] at this
 have e:d.nm.size=d.nm.data.size:=rfl
 unfold maxLen;omega
theorem pk_prog {p:L10.Pg} (h:(L10.brV p).2.2=0) (hn:p.stmts.length≤60):(pkB (L13.obV p)).length≤100000:=by
 have hg:=gd_of (chE_prog h (by omega))
 have h1:(L13.obV p).code.length≤16*p.stmts.length:=L13.cdB_le p _ rfl
 have h2:(L13.obV p).rels.length≤p.stmts.length:=by
  show ((rfT p p.stmts.length).map _).length≤_
  rw [List.length_map];exact rfT_len p p.stmts.length
 have h3:=hg.n
 have h4:=tb_le hg
 have e1:=L15.up_le (L13.obV p).code.length
 have e2:=L15.up_le (16*(L13.obV p).maps.length)
 have e3:=L15.up_le (8*(L13.obV p).maps.length)
 have e4:=L15.up_le (8*(L13.obV p).rels.length)
 have e5:=L15.up_le (L14.tb (nmL (L13.obV p).maps)).length
 rw [pk_len];omega
end Go.Proofs.YtohkgdfkklfgmaaGreatDoor.L16
