/- Lemmas and walks of L13Pl, L13Stp, L13Jmp, L13Res: what each theorem states; conditions stand in each theorem. -/
import Derived.Test.YtdgnjhhieemcaaaGreatDoorM21
import Derived.Test.YtdgnjhhieemcaaaGreatDoorM23
set_option maxHeartbeats 8000000
set_option maxRecDepth 100000
section
namespace Go.Proofs.YtdgnjhhieemcaaaGreatDoor.L13
open L3 L4 L12
open L10 (Stm Pg jmI fmI lbK)
def tI (x:L9.Ins):L5.Ix:=⟨x.op,x.reg,x.dst,x.src,x.off,x.imm⟩
def dsI (p:Pg) (i:Nat) (s:Stm):Int:=(stN (cdL p.stmts) (lbK p.stmts s.tg p.stmts.length).toNat:Int)-(stN (cdL p.stmts) (i+1):Int)
def rsI (p:Pg) (i:Nat) (s:Stm):L9.Ins:=if jmI s.x then ⟨s.x.op,s.x.reg,s.x.dst,s.x.src,dsI p i s,s.x.imm⟩ else s.x
def rsT (p:Pg) (k:Nat):List L9.Ins:=p.stmts.mapIdx fun i s=>if i<k then rsI p i s else s.x
def rsL (p:Pg):List L9.Ins:=p.stmts.mapIdx (rsI p)
theorem rsT_len (p:Pg) (k:Nat):(rsT p k).length=p.stmts.length:=by simp [rsT]
theorem rsL_len (p:Pg):(rsL p).length=p.stmts.length:=by simp [rsL]
theorem rsT_get (p:Pg) (k i:Nat) (h:i<p.stmts.length):(rsT p k)[i]'(by rw [rsT_len];exact h)=if i<k then rsI p i p.stmts[i] else p.stmts[i].x:=by simp [rsT]
theorem rsL_get (p:Pg) (i:Nat) (h:i<p.stmts.length):(rsL p)[i]'(by rw [rsL_len];exact h)=rsI p i p.stmts[i]:=by simp [rsL]
theorem rsT_zero (p:Pg):rsT p 0=cdL p.stmts:=by
 apply List.ext_getElem
 ·rw [rsT_len,cdL_len]
 ·intro i h1 h2
  rw [rsT_len] at h1
  rw [rsT_get p 0 i h1,cdL_get p.stmts i h1]
  simp
theorem rsT_all (p:Pg):rsT p p.stmts.length=rsL p:=by
 apply List.ext_getElem
 ·rw [rsT_len,rsL_len]
 ·intro i h1 h2
  rw [rsT_len] at h1
  rw [rsT_get p _ i h1,rsL_get p i h1,if_pos h1]
theorem rsT_succ (p:Pg) (k:Nat) (h:k<p.stmts.length):rsT p (k+1)=(rsT p k).set k (rsI p k p.stmts[k]):=by
 apply List.ext_getElem
 ·rw [List.length_set,rsT_len,rsT_len]
 ·intro i h1 h2
  rw [rsT_len] at h1
  rw [rsT_get p _ i h1,List.getElem_set,rsT_get p _ i h1]
  by_cases hk:k=i
  ·subst hk;simp
  ·rw [if_neg hk]
   by_cases hi:i<k
   ·rw [if_pos (by omega),if_pos hi]
   ·rw [if_neg (by omega),if_neg hi]
theorem rsT_keep (p:Pg) (k:Nat) (h:k<p.stmts.length) (hj:jmI p.stmts[k].x=false):rsT p (k+1)=rsT p k:=by
 apply List.ext_getElem
 ·rw [rsT_len,rsT_len]
 ·intro i h1 h2
  rw [rsT_len] at h1
  rw [rsT_get p _ i h1,rsT_get p _ i h1]
  by_cases hk:i=k
  ·subst hk
   rw [if_pos (by omega),if_neg (by omega)]
   unfold rsI
   rw [hj]
   rfl
  ·by_cases hi:i<k
   ·rw [if_pos (by omega),if_pos hi]
   ·rw [if_neg (by omega),if_neg hi]
theorem rsI_op (p:Pg) (i:Nat) (s:Stm):(rsI p i s).op=s.x.op:=by unfold rsI;split <;> rfl
theorem vd_eB:L2.vd L9.eB=false:=by kernel_rfl
structure Good (p:Pg) (s:Stm):Prop where
 chk:L10.chI s.x=0
 off:jmI s.x=true→s.x.off=0
 jmp:jmI s.x=!s.tg.toList.isEmpty
 lab:jmI s.x=true→0≤lbK p.stmts s.tg p.stmts.length
theorem good_of {p:Pg} (h:(L10.brV p).2.2=0):∀ s∈p.stmts,Good p s:=by
 intro s hs
 have k:=L11.frB_ok _ h
 have h1:=(L11.brV_parts h).2 s hs
 have h2:L10.unE p s=0:=by
  have:=k (false,L10.fe (p.stmts.map (L10.unE p))) (by simp [L10.cnd])
  exact L11.fe_zero this _ (List.mem_map.2 ⟨s,hs,rfl⟩)
 unfold L10.stE at h1
 split at h1
 case isFalse=>cases h1
 split at h1
 case isFalse=>rename_i hc;exact absurd h1 hc
 rename_i hc
 split at h1
 case isTrue=>cases h1
 rename_i hb
 split at h1
 case isTrue=>cases h1
 rename_i hn
 have hb':L10.badF s=false:=by simpa using hb
 have hn':L10.badN s=false:=by simpa using hn
 unfold L10.badF at hb'
 unfold L10.badN at hn'
 simp only [Bool.or_eq_false_iff] at hb' hn'
 obtain⟨⟨⟨hb1,hb2⟩,hb3⟩,hb4⟩:=hb'
 have hj:jmI s.x=!s.tg.toList.isEmpty:=by
  cases hje:jmI s.x
  ·rw [hje] at hb3
   simp at hb3
   simp [hb3]
  ·rw [hje] at hn'
   have hv:L2.vd s.tg=true:=by simpa using hn'.1
   cases hem:s.tg.toList.isEmpty
   ·rfl
   ·rw [L11.emp hem,vd_eB] at hv;cases hv
 refine⟨hc,fun he=>?_,hj,fun he=>?_⟩
 ·rw [he] at hb1;simpa using hb1
 ·rw [L10.unE_lb] at h2
  have hem:s.tg.toList.isEmpty=false:=by
   rw [he] at hj
   simpa using hj.symm
  rw [hem] at h2
  by_cases hl:lbK p.stmts s.tg p.stmts.length<0
  ·simp [hl] at h2
  ·omega
theorem sx16_in (z:Int) (h0:-32768≤z) (h1:z≤32767):(L1.sx 16 z==z)=true:=by
 unfold L1.sx
 rw [beq_iff_eq,if_neg (by decide),if_pos (by decide)]
 omega
theorem uO_jmp {f:Int} (h:L4.jmpF f=true):L4.uO f=true:=by
 unfold L4.jmpF at h
 have:f=3∨f=4:=by simpa using h
 rcases this with rfl|rfl <;> rfl
theorem chk_off {f:Int} {reg:Bool} {dst src imm d:Int} (hf:L4.jmpF f=true) (h:L4.chkF f reg dst src 0 imm=0) (h0:-32768≤d) (h1:d≤32767):L4.chkF f reg dst src d imm=0:=by
 obtain⟨k1,k2,k3,k4,k5,k6,k7,k8,k9,k10⟩:=L11.chk_all h
 have e1:(f != -1)=true:=by simpa using k1
 have e2:(!reg || f==0 || f==4)=true:=by rcases k2 with k2|k2|k2 <;> simp [k2]
 have e3:((L4.uD f || dst==0) && (L4.uS f reg || src==0))=true:=by simp [k3,k4]
 have e4:((L4.uO f || d==0) && (L4.uI f reg || imm==0))=true:=by simp [uO_jmp hf,k6]
 have e5:(L4.isG dst && L4.isG src)=true:=by simp [k7,k8]
 have e6:=sx16_in d h0 h1
 unfold L4.chkF
 simp only [L4.firstBad,e1,e2,e3,e4,e5,e6,k10,if_true]
theorem rng_in {f imm:Int} (h:L4.rng f imm=true):-9223372036854775808≤imm∧imm≤9223372036854775807:=by
 unfold L4.rng at h
 have s64:L1.sx 64 imm=imm→-9223372036854775808≤imm∧imm≤9223372036854775807:=by
  unfold L1.sx
  rw [if_neg (by decide),if_neg (by decide),if_neg (by decide)]
  omega
 have s32:L1.sx 32 imm=imm→-9223372036854775808≤imm∧imm≤9223372036854775807:=by
  unfold L1.sx
  rw [if_neg (by decide),if_neg (by decide),if_pos (by decide)]
  omega
 split at h
 ·simp at h;omega
 ·split at h
  ·simp at h;omega
  ·split at h
   ·exact s64 (by simpa using h)
   ·exact s32 (by simpa using h)
theorem ds_in (p:Pg) (i:Nat) (s:Stm) (h:p.stmts.length≤10000):-32768≤dsI p i s∧dsI p i s≤32767:=by
 have a:=stN_le (cdL p.stmts) (lbK p.stmts s.tg p.stmts.length).toNat
 have b:=stN_le (cdL p.stmts) (i+1)
 rw [cdL_len] at a b
 unfold dsI
 omega
theorem rsI_err {p:Pg} {s:Stm} (hg:Good p s) (i:Nat) (h:p.stmts.length≤10000):(tI (rsI p i s)).err=0:=by
 obtain⟨d0,d1⟩:=ds_in p i s h
 have hc:=hg.chk
 unfold L10.chI at hc
 unfold rsI
 split
 ·rename_i hj
  rw [hg.off hj] at hc
  exact chk_off hj hc d0 d1
 ·exact hc
theorem rsL_err {p:Pg} (hz:(L10.brV p).2.2=0) (h:p.stmts.length≤10000):∀ x∈(rsL p).map tI,x.err=0:=by
 intro x hx
 obtain⟨y,hy,rfl⟩:=List.mem_map.1 hx
 obtain⟨i,hi,rfl⟩:=List.mem_iff_getElem.1 hy
 rw [rsL_len] at hi
 rw [rsL_get p i hi]
 exact rsI_err (good_of hz _ (List.getElem_mem hi)) i h
theorem err_fits {x:L5.Ix} (h:x.err=0):x.fits:=by
 unfold L5.Ix.err at h
 obtain⟨-,-,-,-,-,-,-,-,-,k⟩:=L11.chk_all h
 exact rng_in k
theorem rsL_fits {p:Pg} (hz:(L10.brV p).2.2=0) (h:p.stmts.length≤10000):∀ x∈(rsL p).map tI,x.fits:=fun x hx=>err_fits (rsL_err hz h x hx)
def cdB (p:Pg):List UInt8:=L5.joinB ((rsL p).map tI)
end Go.Proofs.YtdgnjhhieemcaaaGreatDoor.L13
end
section
namespace Go.Proofs.YtdgnjhhieemcaaaGreatDoor.L13
open Go.RowKit Go.Shelf L3 L4 L12
open L10 (Stm Pg jmI fmI lbK)
attribute [local go_sem] Oper.semAt_some
abbrev fB (ks kl:Nat):Value:=.func (.func 191) #[] #[.pointer (some ⟨ks,0,none⟩),.pointer (some ⟨kl,0,none⟩)]
structure St (w W:World) (p:Pg) (n:Nat) (vm vs lv sv:Value) (kp kl ks kb k:Nat):Prop where
 bel:Below w.heap.size w W
 rp:W.heap[kp]?=some (.cells #[vm,vs] 58)
 rl:W.heap[kl]?=some (.cells #[lv] 29)
 rs:W.heap[ks]?=some (.cells #[sv] 101)
 rb:W.heap[kb]?=some (.cells #[fB ks kl] 90)
 own:W.ownsRow w.heap.size 45 6 lv n (inC (rsT p k))
 ost:W.ownsRow w.heap.size 3 1 sv n ((stL 0 (cdL p.stmts)).map fun (a:Nat)=>Value.int .i64 (a:Int))
theorem St.below {w W W':World} {p:Pg} {n:Nat} {vm vs lv sv:Value} {kp kl ks kb k:Nat} (h:St w W p n vm vs lv sv kp kl ks kb k) (hb:Below W.heap.size W W'):St w W' p n vm vs lv sv kp kl ks kb k :=
 ⟨L2.bch h.bel hb,L8.row_up h.rp hb,L8.row_up h.rl hb,L8.row_up h.rs hb,L8.row_up h.rb hb,L8.own_below h.own hb,L8.own_below h.ost hb⟩
theorem one_cell {w:World} {k:Nat} {a:Value} {t:TypeId} (h:w.heap[k]?=some (.cells #[a] t)):w.cell? ⟨k,0,none⟩=some a:=by
 simp [World.cell?,h]
theorem St.slots {w W:World} {p:Pg} {n:Nat} {vm vs lv sv:Value} {kp kl ks kb k:Nat} (h:St w W p n vm vs lv sv kp kl ks kb k) (hn:p.stmts.length=n) {i:Nat} (hi:i<n) :
  ∃ b o c,sv=.slice (some ⟨b,o,none⟩) n c∧∀ j,j<n→W.cell? ⟨b,o+j,none⟩=some (.int .i64 (stN (cdL p.stmts) j:Int)):=by
 obtain⟨a,c,rfl⟩:=owns_slice h.ost
 have ho:=h.ost
 rw [← hn,← cdL_len,← stL_len (cdL p.stmts) 0] at ho
 obtain⟨b,o,rfl,-,hc⟩:=st_cell (l:=cdL p.stmts) (n:=n) (i:=i) (by rw [cdL_len,hn]) (by have:=own_nums ho;rwa [stL_len,cdL_len,hn] at this) hi
 exact⟨b,o,c,rfl,hc⟩
theorem St.inss {w W:World} {p:Pg} {n:Nat} {vm vs lv sv:Value} {kp kl ks kb k:Nat} (h:St w W p n vm vs lv sv kp kl ks kb k) (hn:p.stmts.length=n) {i:Nat} (hi:i<n) :
  ∃ b o c,lv=.slice (some ⟨b,o,none⟩) n c∧W.cell? ⟨b,o+i*6,none⟩=some (.int .i64 (p.stmts[i]'(by omega)).x.op):=by
 have hI:=own_ins (xs:=rsT p k) (by rw [rsT_len,hn]) h.own
 obtain⟨a,c,rfl,hc⟩:=is_form (n:=n) (by rw [rsT_len,hn]) hI
 obtain⟨b,o,rfl,-,hx⟩:=hc (by omega)
 have h0:=(hx i (by rw [rsT_len];omega)).1
 rw [rsT_get p k i (by omega)] at h0
 refine⟨b,o,c,rfl,?_⟩
 rw [h0]
 split
 ·rw [rsI_op]
 ·rfl
theorem keep4 {w W W':World} {p1 p2 p3 p4:Addr} {v1 v2 v3 v4:Value} (hb:Below W.heap.size W W') (h:Below w.heap.size w W∧W.cell? p1=some v1∧W.cell? p2=some v2∧W.cell? p3=some v3∧W.cell? p4=some v4) :
  Below w.heap.size w W'∧W'.cell? p1=some v1∧W'.cell? p2=some v2∧W'.cell? p3=some v3∧W'.cell? p4=some v4 :=
 ⟨L2.bch h.1 hb,cell_up hb h.2.1,cell_up hb h.2.2.1,cell_up hb h.2.2.2.1,cell_up hb h.2.2.2.2⟩
theorem beh_at {w W:World} {p:Pg} {n:Nat} {vm vs lv sv:Value} {kp kl ks kb k:Nat} (h:St w W p n vm vs lv sv kp kl ks kb k) (hn:p.stmts.length=n) (hm:n≤10000) (i:Nat) (hi:i<n) (N:Nat) (hN:stN (cdL p.stmts) (i+1)=N) :
  Calls Tryz.prog 191 #[.int .i64 (i:Int),.pointer (some ⟨ks,0,none⟩),.pointer (some ⟨kl,0,none⟩)] W fun e W'=>e=.returned (.int .i64 (N:Int))∧Below W.heap.size W W':=by
 obtain⟨b,o,c,rfl,hs⟩:=h.slots hn hi
 obtain⟨b2,o2,c2,rfl,y2⟩:=h.inss hn hi
 have y1:=hs i hi
 have x1:=one_cell h.rs
 have x2:=one_cell h.rl
 have hle:=stN_le (cdL p.stmts) (i+1)
 have hsu:=stN_succ (cdL p.stmts) i (by rw [cdL_len];omega)
 rw [cdL_get p.stmts i (by omega)] at hsu
 rw [cdL_len,hn,hN] at hle
 rw [hN] at hsu
 have HS:=Lib.hid (fun W=>slots_at (p.stmts[i]'(by omega)).x.op _ (slN (p.stmts[i]'(by omega)).x:Int) W rfl (slN_int _))
 generalize stN (cdL p.stmts) i=s at y1 hsu
 generalize slN (p.stmts[i]'(by omega)).x=m at HS hsu
 generalize (p.stmts[i]'(by omega)).x.op=op at HS y2
 subst hsu
 have hw:IntKind.i64.wrap ((s:Int)+(m:Int))=((s+m:Nat):Int):=by rw [IntWalk.i64_in _ (by omega)];omega
 have hl1:=World.block_lt_of_cell? _ _ x1
 have hl2:=World.block_lt_of_cell? _ _ x2
 have hl3:=World.block_lt_of_cell? _ _ y1
 have hl4:=World.block_lt_of_cell? _ _ y2
 have hiI:(i:Int)<(n:Int):=by omega
 simp only at hl1 hl2 hl3 hl4
 have Y:=And.intro (Below.refl W.heap.size W) (And.intro x1 (And.intro x2 (And.intro y1 y2)))
 clear h hs hN hle hn
 go_enter Tryz.func191,Tryz.ntmps191
 go_upto_region 1 with (fail)
 go_region_held3 (fun X=>Below W.heap.size W X∧X.cell? ⟨ks,0,none⟩=some (.slice (some ⟨b,o,none⟩) n c)∧X.cell? ⟨kl,0,none⟩=some (.slice (some ⟨b2,o2,none⟩) n c2)∧X.cell? ⟨b,o+i,none⟩=some (.int .i64 (s:Int))∧X.cell? ⟨b2,o2+i*6,none⟩=some (.int .i64 op))
  (first|exact keep4 (Below.refl _ _).drew Y|exact keep4 hb9 (keep4 (Below.refl _ _).drew Y)|exact keep4 hb9 (by assumption)|assumption)
  (first|(go_at_call 148;((with_reducible refine (HS.out _).mono ?_);rintro e w9 ⟨rfl,hb9⟩)))
 all_goals
  rename_i hh
  go_wp2
  go_ret
  exact⟨rfl,hh.1⟩
theorem chk1_at {vm vs:Value} {p:Pg} {kp:Nat} {W:World} (hk:W.heap[kp]?=some (.cells #[vm,vs] 58)) (hp:L10.PgAt W vm vs p) (hf:L10.Fits p) (hT:L1.Wid W∧L2.Regs W) (b:Bool) (k:Nat) (er:Int) (hr:L10.brV p=(b,k,er)) :
  Calls Tryz.prog 192 #[.pointer (some ⟨kp,0,none⟩)] W fun e W'=>e=.returned (.tuple #[.int .i64 (k:Int),.int .i64 er])∧Below W.heap.size W W':=by
 have HC:=Lib.hid (L10.check_at vm vs p W hp hf hT b k er hr)
 obtain⟨x0,x1⟩:=L10.cells2p hk
 have hl:=World.block_lt_of_cell? _ _ x0
 simp only at hl
 obtain⟨n1,hn1⟩:∃ n,p.maps.length=n:=⟨_,rfl⟩
 obtain⟨a1,c1,rfl,-⟩:=L10.df_form hn1 hp.1
 obtain⟨n2,hn2⟩:∃ n,p.stmts.length=n:=⟨_,rfl⟩
 obtain⟨a2,c2,rfl,-⟩:=L10.sm_form hn2 hp.2
 clear hk hp hf hT hr hn1 hn2
 go_enter Tryz.func192,Tryz.ntmps192
 go_wp2_with (go_at_call 56;((with_reducible refine (HC.out).mono ?_);rintro e w1 ⟨rfl,b1⟩))
 go_ret2
 exact⟨rfl,b1⟩
theorem size_at {w W:World} {p:Pg} {n:Nat} {vm vs lv sv:Value} {kp kl ks kb k:Nat} (h:St w W p n vm vs lv sv kp kl ks kb k) (hn:p.stmts.length=n) (hm:n≤10000) :
  Calls Tryz.prog 193 #[.pointer (some ⟨kl,0,none⟩),.pointer (some ⟨kb,0,none⟩)] W fun e W'=>e=.returned (.tuple #[.int .i64 0,.int .i64 0])∧Below W.heap.size W W':=by
 have HB:=Lib.hid (fun (W':World) (hb:Below W.heap.size W W') (i:Nat) (hi:i<n) (N:Nat) (hN:stN (cdL p.stmts) (i+1)=N)=>beh_at (h.below hb) hn hm i hi N hN)
 have HLE:=Lib.hid (fun i=>by have:=stN_le (cdL p.stmts) i;rw [cdL_len,hn] at this;exact this)
 obtain⟨a,c,rfl⟩:=owns_slice h.own
 have K1:=Lib.hid h.rl
 have K2:=Lib.hid h.rb
 have x1:=one_cell h.rl
 have hl1:=World.block_lt_of_cell? _ _ x1
 simp only at hl1
 clear h hn
 go_enter Tryz.func193,Tryz.ntmps193
 go_wp2
 go_loopw [7] (fun i wr=>∃ j:Nat,j≤n∧i=.int .i64 (j:Int)∧Hid (Below W.heap.size W wr)) (fun i _=>n-(intOf i).toNat)
 case atStart=>exact⟨0,Nat.zero_le _,rfl,Lib.hid (Below.refl _ _)⟩
 case round =>
  obtain⟨j,hj,rfl,hB⟩:=hrel
  clear x1 hl1
  by_cases hlt:j<n
  ·obtain⟨N,hN⟩:∃ N,stN (cdL p.stmts) (j+1)=N:=⟨_,rfl⟩
   have hle:=HLE.out (j+1)
   rw [hN] at hle
   have HC:=Lib.hid (HB.out wr hB.out j hlt N hN)
   have x1:=one_cell (L8.row_up K2.out hB.out)
   have hl1:=World.block_lt_of_cell? _ _ x1
   simp only at hl1
   have hjI:(j:Int)<(n:Int):=by omega
   have hg:¬ (65535:Int)<(N:Int):=by omega
   clear hN
   go_wp2_with (go_at_call 191;((with_reducible refine (HC.out).mono ?_);rintro e w1 ⟨rfl,b1⟩))
   go_roundw
   case rel=>exact⟨j+1,by omega,by go_num,Lib.hid (L2.bch hB.out b1)⟩
   case measure=>simp [intOf];omega
  ·obtain rfl:j=n:=by omega
   go_wp2
   go_ret2
   exact⟨rfl,hB.out⟩
theorem look_run {W:World} {g m:Nat} {p:Pg} {x:ByteArray} {R:Nat} (h:L10.MapAt W g m (L10.prs 0 p.stmts)) (hx:x.size≤maxLen) (hR:lbK p.stmts x p.stmts.length=(R:Int)) :
  (Instr.lookup 274 (.map (some g)) (.string x) false).run Tryz.prog W=.ok (.int .i64 (R:Int)) W:=by
 obtain⟨c,hrun,hat,-⟩:=h.lookup_int L2.law9 Tryz.underlying274 Tryz.underlying3 (L10.zeroI _) (L10.key_of hx)
 have hM:=(L10.Mp_at p.stmts x p.stmts.length (Nat.le_refl _)).2 (by omega)
 rw [List.take_length] at hM
 rw [hM,hR] at hat
 have:(R:Int)=c:=by simpa using hat
 rw [this]
 exact hrun
theorem inC_set:∀ (l:List L9.Ins) (j:Nat) (hj:j<l.length) (d:Int),inC (l.set j ⟨l[j].op,l[j].reg,l[j].dst,l[j].src,d,l[j].imm⟩)=(inC l).set (j*6+4) (.int .i64 d)
 | [],j,hj,_=>absurd hj (by simp)
 | x::r,0,_,d=>by simp [inC]
 | x::r,j+1,hj,d=>by
  have ih:=inC_set r j (by simpa using hj) d
  simp only [inC,List.set_cons_succ,List.flatMap_cons,List.getElem_cons_succ] at ih ⊢
  rw [ih,show (j+1)*6+4=j*6+4+6 by omega]
  rfl
theorem St.store {w W:World} {p:Pg} {n:Nat} {vm vs sv:Value} {kp kl ks kb k gl c:Nat} (h:St w W p n vm vs (.slice (some ⟨gl,0,none⟩) n c) sv kp kl ks kb k) (hn:p.stmts.length=n) (hk:k<n)
  (hj:jmI (p.stmts[k]'(by omega)).x=true) (d:Int) (hd:dsI p k (p.stmts[k]'(by omega))=d) :
  St w (W.setCell ⟨gl,k*6+4,none⟩ (.int .i64 d)) p n vm vs (.slice (some ⟨gl,0,none⟩) n c) sv kp kl ks kb (k+1)∧W.grownBy (W.setCell ⟨gl,k*6+4,none⟩ (.int .i64 d)) (some gl):=by
 have hkl:k<p.stmts.length:=by omega
 obtain⟨cur,hc⟩:=L10.own_ty h.own (g:=gl) rfl
 have hlo:=(h.own.lt gl rfl).1
 have hg:=L10.gr_setCell W gl (k*6+4) (.int .i64 d)
 have r:∀ (q:Nat) (cs:Array Value) (t:TypeId),W.heap[q]?=some (.cells cs t)→t≠45→(W.setCell ⟨gl,k*6+4,none⟩ (.int .i64 d)).heap[q]?=some (.cells cs t):=by
  intro q cs t hq ht
  exact (hg.block q (lt_of_block hq) (L10.ty_ne hq hc ht)).trans hq
 have hst:=(h.own.stored (k*6+4) (.int .i64 d)).1
 have e:(rsT p k)[k]'(by rw [rsT_len];exact hkl)=p.stmts[k].x:=by rw [rsT_get p k k hkl,if_neg (by omega)]
 have e2:rsI p k p.stmts[k]=⟨p.stmts[k].x.op,p.stmts[k].x.reg,p.stmts[k].x.dst,p.stmts[k].x.src,d,p.stmts[k].x.imm⟩:=by
  unfold rsI
  rw [if_pos hj,hd]
 have e3:=inC_set (rsT p k) k (by rw [rsT_len];exact hkl) d
 rw [e,← e2,← rsT_succ p k hkl] at e3
 refine⟨⟨L10.bel_set h.bel hlo _ _,r _ _ _ h.rp (by decide),r _ _ _ h.rl (by decide),r _ _ _ h.rs (by decide),r _ _ _ h.rb (by decide),by rw [e3];exact hst,L10.own_kept h.ost hg (fun q hq=>?_)⟩,hg⟩
 obtain⟨cur2,hc2⟩:=L10.own_ty h.ost hq
 exact L10.ty_ne hc hc2 (by decide)
theorem jmp_is {s:Stm} {f:Int} (h:frm (ix s.x.op)=f):jmI s.x=L4.jmpF f:=by
 unfold L10.jmI L10.fmI
 rw [h]
theorem fits16 (d:Int) (h0:-32768≤d) (h1:d≤32767) (W:World) (hw:L1.Wid W):Calls Tryz.prog 197 #[.int .i64 d,.int .i64 16] W fun e w'=>e=.returned (.bool true)∧W=w' :=
 L4.fits_is d 16 true W hw (.inr (.inl rfl)) (sx16_in d h0 h1)
def SJ (W X:World):Prop:=Below W.heap.size W X
theorem jumps_at {w W:World} {p:Pg} {n:Nat} {vm vs lv sv:Value} {kp kl ks kb:Nat} (h:St w W p n vm vs lv sv kp kl ks kb 0) (hn:p.stmts.length=n) (hm:n≤10000) (hp:L10.PgAt w vm vs p) (hf:L10.Fits p) (hz:(L10.brV p).2.2=0) (hT:L1.Wid w) :
  Calls Tryz.prog 194 #[.pointer (some ⟨kp,0,none⟩),.pointer (some ⟨ks,0,none⟩),.pointer (some ⟨kb,0,none⟩),.pointer (some ⟨kl,0,none⟩)] W fun e W'=>e=.returned (.tuple #[.int .i64 0,.int .i64 0])∧St w W' p n vm vs lv sv kp kl ks kb n:=by
 have HG:=Lib.hid (good_of hz)
 have HSml:L10.Sml p:=⟨hf.maps,hf.stmts,fun s hs=>by
  obtain⟨i,hi,rfl⟩:=List.mem_iff_getElem.1 hs
  exact hf.lab_le i hi⟩
 have HLb:=Lib.hid (fun (X:World) (hb:Below w.heap.size w X)=>L10.labels_at vm vs p X (hp.below hb) HSml hf.lb)
 have HTG:=Lib.hid hf.tg
 have HN:=Lib.hid hn
 have HST:=Lib.hid h
 have HW:=Lib.hid (fun (X:World) (hb:Below w.heap.size w X)=>L4.wid_below hT hb)
 obtain⟨n1,hn1⟩:∃ n,p.maps.length=n:=⟨_,rfl⟩
 obtain⟨a1,c1,rfl,-⟩:=L10.df_form hn1 hp.1
 obtain⟨a2,c2,rfl,hc⟩:=L10.sm_form hn hp.2
 have HC:=Lib.hid hc
 obtain⟨x0,x1⟩:=L10.cells2p h.rp
 have hlp:=World.block_lt_of_cell? _ _ x0
 simp only at hlp
 clear h hn hp hf hz hT hn1 hc
 go_enter Tryz.func194,Tryz.ntmps194
 go_upto_region 2 with (go_at_call 195;((with_reducible refine (HLb.out _ HST.out.bel).mono ?_);rintro e w1 ⟨g,m,rfl,hmp,b1⟩;clear x0 x1;obtain⟨x0,x1⟩:=L10.cells2p (HST.out.below b1).rp;have hlp1:=World.block_lt_of_cell? _ _ x0;simp only at hlp1))
 have HI:Hid (St w w1 p n (.slice a1 n1 c1) (.slice a2 n c2) lv sv kp kl ks kb 0∧L10.MapAt w1 g m (L10.prs 0 p.stmts)):=Lib.hid ⟨HST.out.below b1,hmp⟩
 clear hmp b1
 go_wp2
 go_loopw [15] (fun i wr=>∃ k:Nat,k≤n∧i=.int .i64 (k:Int)∧Hid (St w wr p n (.slice a1 n1 c1) (.slice a2 n c2) lv sv kp kl ks kb k∧L10.MapAt wr g m (L10.prs 0 p.stmts))) (fun i _=>n-(intOf i).toNat)
 case atStart=>exact⟨0,Nat.zero_le _,rfl,HI⟩
 case round =>
  obtain⟨k,hk,rfl,hI⟩:=hrel
  clear HI x0 x1 hlp hlp1 HST
  by_cases hlt:k<n
  ·have hkl:k<p.stmts.length:=by rw [HN.out];exact hlt
   obtain⟨b,o,rfl,hbl,hc⟩:=HC.out (by omega)
   obtain⟨lv',hst,hx⟩:=hc k hkl
   have up:∀ i u,(L10.smL lv' p.stmts[k])[i]?=some u→wr.cell? ⟨b,o+k*9+i,none⟩=some u:=fun i u hu=>(hI.out.1.bel.cell (by exact hbl)).trans (hx i u hu)
   have HGk:=Lib.hid (HG.out _ (List.getElem_mem hkl))
   have HTGk:=Lib.hid (HTG.out _ (List.getElem_mem hkl)).1
   have hds:=ds_in p k p.stmts[k] (by rw [HN.out];exact hm)
   obtain⟨d,hd⟩:∃ d,dsI p k p.stmts[k]=d:=⟨_,rfl⟩
   rw [hd] at hds
   have HD:=Lib.hid hd
   have HSTO:=Lib.hid (fun (X:World) (gl c:Nat) (hX:St w X p n (.slice a1 n1 c1) (.slice (some ⟨b,o,none⟩) n c2) (.slice (some ⟨gl,0,none⟩) n c) sv kp kl ks kb k) (hj:jmI p.stmts[k].x=true)=>hX.store HN.out hlt hj d hd)
   have HKP:=Lib.hid (fun (hj:jmI p.stmts[k].x=false)=>rsT_keep p k hkl hj)
   have HBH:=Lib.hid (fun (X:World) (hX:St w X p n (.slice a1 n1 c1) (.slice (some ⟨b,o,none⟩) n c2) lv sv kp kl ks kb k)=>beh_at hX HN.out hm k hlt _ rfl)
   have HDV:Hid (dsI p k p.stmts[k]=(stN (cdL p.stmts) (lbK p.stmts p.stmts[k].tg p.stmts.length).toNat:Int)-(stN (cdL p.stmts) (k+1):Int)):=Lib.hid rfl
   have HNN:=Lib.hid (stN_le (cdL p.stmts) (k+1))
   obtain⟨s,hs⟩:∃ s,p.stmts[k]=s:=⟨_,rfl⟩
   rw [hs] at hst up HGk HTGk HD HSTO HKP HDV
   obtain⟨ln,hln⟩:∃ ln,s.labs.length=ln:=⟨_,rfl⟩
   obtain⟨la,lc,rfl,-⟩:=L10.st_form hln hst
   obtain⟨f,hfr⟩:∃ f,frm (ix s.x.op)=f:=⟨_,rfl⟩
   have hjf:=jmp_is hfr
   obtain⟨jb,hjb⟩:∃ jb,L4.jmpF f=jb:=⟨_,rfl⟩
   rw [hjb] at hjf
   have HJ:=Lib.hid (fun (X:World)=>L4.jumps_at s.x.op s.x.reg s.x.dst s.x.src s.x.off s.x.imm f jb X hfr hjb)
   have y0:=up 0 _ rfl
   have y1:=up 1 _ rfl
   have y2:=up 2 _ rfl
   have y3:=up 3 _ rfl
   have y4:=up 4 _ rfl
   have y5:=up 5 _ rfl
   have y6:=up 6 _ rfl
   have y7:=up 7 _ rfl
   have y8:=up 8 _ rfl
   rw [Nat.add_zero] at y0
   have hw1:=World.block_lt_of_cell? _ _ y0
   simp only at hw1
   have hkI:(k:Int)<(n:Int):=by omega
   clear hx hc hst hs hln up hd hfr hjb
   obtain⟨labs,⟨op,reg,dst,src,off,imm⟩,tg,mp⟩:=s
   simp only at y0 y1 y2 y3 y4 y5 y6 y7 y8 HJ
   go_upto_region 5 with (fail)
   have hx:=heap_alloc_last wr (.cells #[.slice la ln lc,.int .i64 op,.bool reg,.int .i64 dst,.int .i64 src,.int .i64 off,.int .i64 imm,.string tg,.string mp] 65)
   have bn:=L8.bnew wr (.cells #[.slice la ln lc,.int .i64 op,.bool reg,.int .i64 dst,.int .i64 src,.int .i64 off,.int .i64 imm,.string tg,.string mp] 65)
   have HS1:=Lib.hid (And.intro (hI.out.1.below bn) (hI.out.2.below bn))
   obtain⟨q,hq⟩:∃ q,q=wr.heap.size:=⟨_,rfl⟩
   rw [← hq] at hx ⊢
   generalize wr.alloc (.cells _ 65)=W1 at hx HS1 ⊢
   clear hq bn hI y0 y1 y2 y3 y4 y5 y6 y7 y8 hw1
   obtain⟨z0,z1,z2,z3,z4,z5,z6,z7,z8⟩:=cl9 hx
   have HX:=Lib.hid hx
   cases jb
   ·go_upto_region 10 with (go_at_call 196;((with_reducible refine (HJ.out _).mono ?_);rintro e w2 ⟨rfl,b2⟩))
    have HE:=Lib.hid (And.intro (HS1.out.1.below b2) (HS1.out.2.below b2))
    have HK2:=Lib.hid (HKP.out hjf)
    clear z0 z1 z2 z3 z4 z5 z6 z7 z8 hx b2
    go_wp2
    go_roundw
    case rel =>
     refine⟨k+1,by omega,by go_num,Lib.hid ⟨?_,HE.out.2⟩⟩
     have:=HE.out.1
     exact⟨this.bel,this.rp,this.rl,this.rs,this.rb,by rw [HK2.out];exact this.own,this.ost⟩
    case measure=>simp [intOf];omega
   ·go_upto_region 6 with (go_at_call 196;((with_reducible refine (HJ.out _).mono ?_);rintro e w2 ⟨rfl,b2⟩))
    have hE:=HS1.out.1.below b2
    have hM:=HS1.out.2.below b2
    have zt:=cl9 (L8.row_up HX.out b2)
    have z7:=zt.2.2.2.2.2.2.2.1
    clear zt z0 z1 z2 z3 z4 z5 z6 z8 hx b2 HS1 HX
    obtain⟨sb,so,sc,rfl,hss⟩:=hE.slots HN.out hlt
    obtain⟨gl,lcap,rfl,-,-⟩:=hE.own.form (by omega)
    have hlab:=HGk.out.lab hjf
    try simp only at hlab
    obtain⟨R,hR⟩:∃ R:Nat,lbK p.stmts tg p.stmts.length=(R:Int):=⟨(lbK p.stmts tg p.stmts.length).toNat,by omega⟩
    have hRn:=(L10.lbK_lt p.stmts tg p.stmts.length).2
    rw [hR,HN.out] at hRn
    have yR:=hss R (by omega)
    have hdv:=HDV.out
    try simp only at hdv
    rw [hR,HD.out,Int.toNat_natCast] at hdv
    have HBk:=Lib.hid (fun (X:World) (hX:Below w2.heap.size w2 X)=>HBH.out X (hE.below hX))
    obtain⟨A,hA⟩:∃ A,stN (cdL p.stmts) R=A:=⟨_,rfl⟩
    obtain⟨B,hB⟩:∃ B,stN (cdL p.stmts) (k+1)=B:=⟨_,rfl⟩
    have hBle:=HNN.out
    rw [cdL_len,HN.out] at hBle
    rw [hA] at yR hdv
    rw [hB] at hdv HBk hBle
    have HLK:=Lib.hid (fun (X:World) (hX:Below w2.heap.size w2 X)=>look_run (hM.below hX) HTGk.out hR)
    have xs:=one_cell hE.rs
    have xb:=one_cell hE.rb
    have HE:=Lib.hid (And.intro hE hM)
    clear hss hA hB hE hM hlab hR HBH HDV HNN
    have hwd:IntKind.i64.wrap ((A:Int)-(B:Int))=d:=by rw [hdv];exact IntWalk.i64_in _ (by omega)
    clear hdv
    have l1:(⟨ks,0,none⟩:Addr).block<w2.heap.size:=World.block_lt_of_cell? _ _ xs
    have l2:(⟨kb,0,none⟩:Addr).block<w2.heap.size:=World.block_lt_of_cell? _ _ xb
    have l3:(⟨sb,so+R,none⟩:Addr).block<w2.heap.size:=World.block_lt_of_cell? _ _ yR
    have l4:(⟨q,7,none⟩:Addr).block<w2.heap.size:=World.block_lt_of_cell? _ _ z7
    have hRI:(R:Int)<(n:Int):=by omega
    refine wp_region_held_drew (S:=SJ w2) (by kernel_rfl) (L8.bdN (Below.refl _ _) 1) (fun hH=>?_)
    refine zT1 0 24 (.load 101 (.tmp 1)) (.slice (some ⟨sb,so,none⟩) n sc) rfl (fun wS hS=>by have d0:=(Below.cell hS l1).trans xs;go_simp) hH ?_
    simp only [zz]
    refine zT0 1 25 (.move (.tmp 6)) (.map (some g)) rfl hH ?_
    simp only [zz]
    refine zT3 2 26 (.fieldAddr 65 (.tmp 8) 2) (.pointer (some ⟨q,7,none⟩)) rfl hH ?_
    simp only [zz]
    refine zT1 3 27 (.load 9 (.tmp 26)) (.string tg) rfl (fun wS hS=>by have d0:=(Below.cell hS l4).trans z7;go_simp) hH ?_
    simp only [zz]
    refine zT1 4 28 (.lookup 274 (.tmp 25) (.tmp 27) false) (.int .i64 (R:Int)) rfl (fun wS hS=>by have d0:=HLK.out _ hS;go_simp) hH ?_
    simp only [zz]
    refine zT3 5 29 (.indexAddr 101 (.tmp 24) (.tmp 28)) (.pointer (some ⟨sb,so+R,none⟩)) rfl hH ?_
    simp only [zz]
    refine zT1 6 30 (.load 3 (.tmp 29)) (.int .i64 (A:Int)) rfl (fun wS hS=>by have d0:=(Below.cell hS l3).trans yR;go_simp) hH ?_
    simp only [zz]
    refine zT1 7 31 (.load 90 (.tmp 2)) (fB ks kl) rfl (fun wS hS=>by have d0:=(Below.cell hS l2).trans xb;go_simp) hH ?_
    simp only [zz]
    refine zT0 8 32 (.move (.tmp 7)) (.int .i64 (k:Int)) rfl hH ?_
    simp only [zz]
    have hS:=hH
    clear hH
    refine wpAnyH_ready (rs:=[9]) (by kernel_rfl) (by simp) ?_
    refine AllReadyH.cons (o:=⟨some 33,.call ⟨.value (.tmp 31),#[.tmp 32],#[3]⟩,_,_,_,none⟩) rfl (fun K hK=>?_) AllReadyH.nil
    go_simp
    refine (HBk.out _ hS).mono ?_
    rintro e w3 ⟨rfl,hb3⟩
    refine hK.out _ _ (hS.trans (hb3.mono hS.size)) (fun hH=>?_)
    clear hK K hS
    (try simp only [zz])
    refine zT3 10 34 (.binOp .sub 3 (.tmp 30) (.tmp 33) 3) (.int .i64 d) rfl hH ?_
    simp only [zz]
    refine zT0 11 9 (.assign (.tmp 34)) (.int .i64 d) rfl hH ?_
    simp only [zz]
    refine wpAnyH_done (by kernel_rfl) ?_ _
    have HF:=Lib.hid (HE.out.1.below hH)
    have HMf:=Lib.hid (HE.out.2.below hH)
    have HFI:=Lib.hid (fits16 d hds.1 hds.2 w3 (HW.out _ HF.out.bel))
    have xl:=one_cell HF.out.rl
    have hll:=World.block_lt_of_cell? _ _ xl
    have hgl:=(HF.out.own.lt gl rfl).2
    simp only at hll
    have hfz:=HF.out.own.frozenAt (k*6+4)
    obtain⟨u4,hu4⟩:∃ u,w3.cell? ⟨gl,k*6+4,none⟩=some u:=by
     have hcA:=HF.out.own.cellAt (k*6+4) (by omega)
     have hlenI:=HF.out.own.1
     rw [hcA]
     exact⟨_,List.getElem?_eq_getElem (by omega)⟩
    have HSO:=Lib.hid (HSTO.out w3 gl lcap HF.out hjf)
    have HMS:=Lib.hid (HMf.out.kept HSO.out.2 (by
     intro e
     obtain⟨cur,hc⟩:=L10.own_ty HF.out.own (g:=gl) rfl
     obtain⟨_,_,hh,_⟩:=HMf.out
     cases e
     rw [hc] at hh
     cases hh))
    clear HE HW HLK HBk hH
    go_wp2_with (go_at_call 197;((with_reducible refine (HFI.out).mono ?_);rintro e w4 ⟨rfl,rfl⟩))
    go_roundw
    case rel=>exact⟨k+1,by omega,by go_num,Lib.hid ⟨HSO.out.1,HMS.out⟩⟩
    case measure=>simp [intOf];omega
  ·obtain rfl:k=n:=by omega
   go_wp2
   go_ret2
   exact⟨rfl,hI.out.1⟩
abbrev fS2 (kp:Nat):Value:=.func (.func 192) #[] #[.pointer (some ⟨kp,0,none⟩)]
abbrev fS3 (kl kb:Nat):Value:=.func (.func 193) #[] #[.pointer (some ⟨kl,0,none⟩),.pointer (some ⟨kb,0,none⟩)]
abbrev fS4 (kp ks kb kl:Nat):Value:=.func (.func 194) #[] #[.pointer (some ⟨kp,0,none⟩),.pointer (some ⟨ks,0,none⟩),.pointer (some ⟨kb,0,none⟩),.pointer (some ⟨kl,0,none⟩)]
def SpP (w:World) (W:World) (p:Pg) (n:Nat) (vm vs lv:Value) (e:Ending) (W':World):Prop :=
 ∃ g sv kp kl ks kb,e=.returned (.slice (some ⟨g,0,none⟩) 3 3)∧W'.heap[g]?=some (.cells #[fS2 kp,fS3 kl kb,fS4 kp ks kb kl] 215)∧St w W' p n vm vs lv sv kp kl ks kb 0∧Below W.heap.size W W'
theorem steps_at {w W:World} {p:Pg} {n:Nat} {vm vs lv:Value} (hb:Below w.heap.size w W) (hp:L10.PgAt W vm vs p) (ho:W.ownsRow w.heap.size 45 6 lv n (inC (cdL p.stmts))) (hn:p.stmts.length=n) (hm:n≤100000) :
  Calls Tryz.prog 133 #[.agg #[vm,vs],lv] W fun e W'=>SpP w W p n vm vs lv e W':=by
 obtain⟨la,lc,rfl⟩:=owns_slice ho
 obtain⟨n1,hn1⟩:∃ n,p.maps.length=n:=⟨_,rfl⟩
 obtain⟨a1,c1,rfl,-⟩:=L10.df_form hn1 hp.1
 obtain⟨a2,c2,rfl,-⟩:=L10.sm_form hn hp.2
 have hI:=own_ins (xs:=cdL p.stmts) (by rw [cdL_len,hn]) ho
 have HST:=Lib.hid (fun (X:World) (hX:Below W.heap.size W X)=>starts_at (.slice la n lc) (cdL p.stmts) (by rw [cdL_len,hn];omega) X (hI.below hX))
 have HO:=Lib.hid ho
 have HB:=Lib.hid hb
 have HL:=Lib.hid (show (cdL p.stmts).length=n by rw [cdL_len,hn])
 have hmf:∀ (i:Nat) (vs:Array Value) (w:World),True:=fun _ _ _=>trivial
 have KB:Below W.heap.size W ((W.alloc (.cells #[.slice a1 n1 c1,.slice a2 n c2] 58)).alloc (.cells #[.slice la n lc] 29)):=L2.bch (L8.bnew W _) (L8.bnew _ _)
 have K1:((W.alloc (.cells #[.slice a1 n1 c1,.slice a2 n c2] 58)).alloc (.cells #[.slice la n lc] 29)).heap[W.heap.size]?=some (.cells #[.slice a1 n1 c1,.slice a2 n c2] 58):=L8.row_up (heap_alloc_last W _) (L8.bnew _ _)
 have K2:((W.alloc (.cells #[.slice a1 n1 c1,.slice a2 n c2] 58)).alloc (.cells #[.slice la n lc] 29)).heap[W.heap.size+1]?=some (.cells #[.slice la n lc] 29):=by
  have:=heap_alloc_last (W.alloc (.cells #[.slice a1 n1 c1,.slice a2 n c2] 58)) (.cells #[.slice la n lc] 29)
  simpa using this
 clear hp hb ho hn hn1 hI hmf
 go_enter Tryz.func133,Tryz.ntmps133
 go_upto_region 1 with (fail)
 obtain⟨kp,hkp⟩:∃ k,W.heap.size=k:=⟨_,rfl⟩
 have HKP:=Lib.hid hkp
 rw [hkp] at K1 K2 ⊢
 have HK1:=Lib.hid K1
 have HK2:=Lib.hid K2
 have HKB:=Lib.hid KB
 clear hkp KB
 generalize (W.alloc (.cells _ 58)).alloc (.cells _ 29)=W0 at K1 K2 HK1 HK2 HKB ⊢
 have x2:=one_cell K2
 have hl2:=World.block_lt_of_cell? _ _ x2
 simp only at hl2
 clear K1 K2
 go_upto_region 2 with (go_at_call 61;((with_reducible refine (HST.out _ HKB.out).mono ?_);rintro e w1 ⟨⟨sv,rfl,hsv⟩,b1⟩;obtain⟨sa,sc,rfl⟩:=owns_slice hsv))
 rw [HL.out] at hsv ⊢
 have B1:=L2.bch HKB.out b1
 have Q1:=L8.row_up HK1.out b1
 have Q2:=L8.row_up HK2.out b1
 have R1:=heap_alloc_last w1 (.cells #[.slice sa n sc] 101)
 have N1:=L8.bnew w1 (.cells #[.slice sa n sc] 101)
 have hsv1:=own_weak (L8.own_below hsv N1) (Nat.le_trans HB.out.size HKB.out.size)
 obtain⟨ks,hks⟩:∃ k,w1.heap.size=k:=⟨_,rfl⟩
 rw [hks] at R1 ⊢
 have HA:=Lib.hid (And.intro (L2.bch B1 N1) (And.intro (L8.row_up Q1 N1) (And.intro (L8.row_up Q2 N1) (And.intro R1 hsv1))))
 clear B1 Q1 Q2 R1 N1 hsv hsv1 hks b1 x2 hl2
 generalize w1.alloc (.cells _ 101)=W1 at HA ⊢
 go_upto_region 3 with (fail)
 have R2:=heap_alloc_last W1 (.cells #[fB ks (kp+1)] 90)
 have N2:=L8.bnew W1 (.cells #[fB ks (kp+1)] 90)
 obtain⟨kb,hkb⟩:∃ k,W1.heap.size=k:=⟨_,rfl⟩
 rw [hkb] at R2 ⊢
 have HA2:=Lib.hid (And.intro (L2.bch HA.out.1 N2) (And.intro (L8.row_up HA.out.2.1 N2) (And.intro (L8.row_up HA.out.2.2.1 N2) (And.intro (L8.row_up HA.out.2.2.2.1 N2) (And.intro R2 (L8.own_below HA.out.2.2.2.2 N2))))))
 clear hkb R2 N2
 generalize W1.alloc (.cells _ 90)=W2 at HA2 ⊢
 go_wp2
 go_ret
 have N3:=L8.bnew W2 (.cells #[fS2 kp,fS3 (kp+1) kb,fS4 kp ks kb (kp+1)] 215)
 obtain⟨q0,q1,q2,q3,q4,q5⟩:=HA2.out
 have q6:=q0
 refine⟨W2.heap.size,.slice sa n sc,kp,kp+1,ks,kb,rfl,heap_alloc_last W2 _,⟨L2.bch (L2.bch HB.out q0) N3,L8.row_up q1 N3,L8.row_up q2 N3,L8.row_up q3 N3,L8.row_up q4 N3,?_,L8.own_below q5 N3⟩,L2.bch q0 N3⟩
 rw [rsT_zero]
 exact L8.own_below (L8.own_below HO.out q0) N3
def RsP (w:World) (p:Pg) (n:Nat) (k:Nat) (er:Int) (e:Ending) (w':World):Prop :=
 ((er≠0∧e=.returned (.tuple #[.slice none 0 0,.int .i64 (k:Int),.int .i64 er]))∨(er=0∧∃ a c,e=.returned (.tuple #[.slice a n c,.int .i64 0,.int .i64 0])∧IsAt w' (.slice a n c) (rsL p)))∧Below w.heap.size w w'
theorem cells3s {w:World} {k:Nat} {a b c:Value} {t:TypeId} (h:w.heap[k]?=some (.cells #[a,b,c] t)):w.cell? ⟨k,0,none⟩=some a∧w.cell? ⟨k,1,none⟩=some b∧w.cell? ⟨k,2,none⟩=some c:=by
 simp [World.cell?,h]
theorem brV_ok {p:Pg} {b:Bool} {k:Nat} {er:Int} (h:L10.brV p=(b,k,er)) (he:er=0):(L10.brV p).2.2=0:=by rw [h];exact he
theorem resolve_at (vm vs:Value) (p:Pg) (n:Nat) (w:World) (hp:L10.PgAt w vm vs p) (hf:L10.Fits p) (hn:p.stmts.length=n) (hm:n≤10000) (hT:L1.Wid w∧L2.Regs w) (b:Bool) (k:Nat) (er:Int) (hr:L10.brV p=(b,k,er)) :
  Calls Tryz.prog 96 #[.agg #[vm,vs]] w fun e w'=>RsP w p n k er e w':=by
 have HSml:L10.Sml p:=⟨hf.maps,hf.stmts,fun s hs=>by
  obtain⟨i,hi,rfl⟩:=List.mem_iff_getElem.1 hs
  exact hf.lab_le i hi⟩
 have HCo:=Lib.hid (fun (X:World) (hX:Below w.heap.size w X)=>code_own vm vs p X (hp.below hX) HSml)
 unfold CoO at HCo
 rw [hn] at HCo
 have HSp:=Lib.hid (fun (X:World) (hX:Below w.heap.size w X) (lv:Value) (ho:X.ownsRow w.heap.size 45 6 lv n (inC (cdL p.stmts)))=>steps_at (vm:=vm) (vs:=vs) hX (hp.below hX) ho hn (by omega))
 have HCk:=Lib.hid (fun (X:World) (kp:Nat) (hk:X.heap[kp]?=some (.cells #[vm,vs] 58)) (hX:Below w.heap.size w X)=>chk1_at hk (hp.below hX) hf ⟨L4.wid_below hT.1 hX,hT.2.below hX⟩ b k er hr)
 have HSz:=Lib.hid (fun (X:World) (lv sv:Value) (kp kl ks kb:Nat) (h:St w X p n vm vs lv sv kp kl ks kb 0)=>size_at h hn hm)
 have HJm:=Lib.hid (fun (he:er=0) (X:World) (lv sv:Value) (kp kl ks kb:Nat) (h:St w X p n vm vs lv sv kp kl ks kb 0)=>jumps_at h hn hm hp hf (brV_ok hr he) hT.1)
 obtain⟨n1,hn1⟩:∃ n,p.maps.length=n:=⟨_,rfl⟩
 obtain⟨a1,c1,rfl,-⟩:=L10.df_form hn1 hp.1
 obtain⟨a2,c2,rfl,-⟩:=L10.sm_form hn hp.2
 have HN:=Lib.hid hn
 have HB:=Lib.hid (L8.bnew w (.cells #[.slice a1 n1 c1,.slice a2 n c2] 58))
 have K0:=Lib.hid (heap_alloc_last w (.cells #[.slice a1 n1 c1,.slice a2 n c2] 58))
 clear hp hf hn hm hT hr hn1 HSml
 go_enter Tryz.func96,Tryz.ntmps96
 go_upto_region 1 with (fail)
 obtain⟨kq,hkq⟩:∃ k,w.heap.size=k:=⟨_,rfl⟩
 have HKQ:=Lib.hid hkq
 rw [hkq] at K0 ⊢
 clear hkq
 generalize w.alloc (.cells _ 58)=W0 at K0 HB ⊢
 obtain⟨x0,x1⟩:=L10.cells2p K0.out
 have hl1:=World.block_lt_of_cell? _ _ x0
 simp only at hl1
 go_upto_region 2 with (go_at_call 132;((with_reducible refine (HCo.out _ HB.out).mono ?_);rintro e w1 ⟨la,lc,rfl,ho,b1⟩))
 have B1:=L2.bch HB.out b1
 have ho1:=own_weak ho HB.out.size
 clear x0 x1 hl1 ho
 obtain⟨x0,x1⟩:=L10.cells2p (L8.row_up K0.out b1)
 have hl1:=World.block_lt_of_cell? _ _ x0
 simp only at hl1
 go_wp2_with (go_at_call 133;((with_reducible refine (HSp.out _ B1 _ ho1).mono ?_);rintro e w2 ⟨g,sv,kp,kl,ks,kb,rfl,hg,hst,b2⟩))
 have HI:Hid (St w w2 p n (.slice a1 n1 c1) (.slice a2 n c2) (.slice la n lc) sv kp kl ks kb 0∧w2.heap[g]?=some (.cells #[fS2 kp,fS3 kl kb,fS4 kp ks kb kl] 215)):=Lib.hid ⟨hst,hg⟩
 clear x0 x1 hl1 B1 ho1 b1 b2 hg hst HB K0
 go_loopw [16] (fun i wr=>∃ j:Nat,j≤3∧i=.int .i64 (j:Int)∧Hid (if j≤2 then St w wr p n (.slice a1 n1 c1) (.slice a2 n c2) (.slice la n lc) sv kp kl ks kb 0∧wr.heap[g]?=some (.cells #[fS2 kp,fS3 kl kb,fS4 kp ks kb kl] 215) else St w wr p n (.slice a1 n1 c1) (.slice a2 n c2) (.slice la n lc) sv kp kl ks kb n)∧Hid (0<j→er=0)) (fun i _=>3-(intOf i).toNat)
 case atStart=>exact⟨0,by omega,rfl,Lib.hid (by rw [if_pos (by omega)];exact HI.out),Lib.hid (fun h=>absurd h (by omega))⟩
 case round =>
  obtain⟨j,hj,rfl,hS,hE⟩:=hrel
  clear HI
  have hcs:j=0∨j=1∨j=2∨j=3:=by omega
  rcases hcs with rfl|rfl|rfl|rfl
  ·have hX:=hS.out
   rw [if_pos (by omega)] at hX
   have HX:=Lib.hid hX
   have HK:=Lib.hid (HCk.out wr kp hX.1.rp hX.1.bel)
   obtain⟨y0,y1,y2⟩:=cells3s hX.2
   have hl1:=World.block_lt_of_cell? _ _ y0
   simp only at hl1
   clear hX hS hE
   by_cases h0:er=0
   ·subst h0
    go_wp2_with (go_at_call 192;((with_reducible refine (HK.out).mono ?_);rintro e w3 ⟨rfl,b3⟩))
    go_roundw
    case rel=>exact⟨1,by omega,by go_num,Lib.hid (by rw [if_pos (by omega)];exact⟨HX.out.1.below b3,L8.row_up HX.out.2 b3⟩),Lib.hid (fun _=>by trivial)⟩
    case measure=>simp [intOf]
   ·have h0':(er != 0)=true:=by simpa using h0
    go_wp2_with (go_at_call 192;((with_reducible refine (HK.out).mono ?_);rintro e w3 ⟨rfl,b3⟩))
    go_ret3
    exact⟨.inl ⟨h0,rfl⟩,L2.bch HX.out.1.bel b3⟩
  ·have hX:=hS.out
   rw [if_pos (by omega)] at hX
   have HX:=Lib.hid hX
   have HK:=Lib.hid (HSz.out wr _ _ _ _ _ _ hX.1)
   obtain⟨y0,y1,y2⟩:=cells3s hX.2
   have hl1:=World.block_lt_of_cell? _ _ y0
   simp only at hl1
   clear hX hS
   go_wp2_with (go_at_call 193;((with_reducible refine (HK.out).mono ?_);rintro e w3 ⟨rfl,b3⟩))
   go_roundw
   case rel=>exact⟨2,by omega,by go_num,Lib.hid (by rw [if_pos (by omega)];exact⟨HX.out.1.below b3,L8.row_up HX.out.2 b3⟩),Lib.hid (fun _=>hE.out (by omega))⟩
   case measure=>simp [intOf]
  ·have hX:=hS.out
   rw [if_pos (by omega)] at hX
   have HX:=Lib.hid hX
   have HK:=Lib.hid (HJm.out (hE.out (by omega)) wr _ _ _ _ _ _ hX.1)
   obtain⟨y0,y1,y2⟩:=cells3s hX.2
   have hl1:=World.block_lt_of_cell? _ _ y0
   simp only at hl1
   clear hX hS
   go_wp2_with (go_at_call 194;((with_reducible refine (HK.out).mono ?_);rintro e w3 ⟨rfl,hs3⟩;have HS3:=Lib.hid hs3;clear hs3))
   go_roundw
   case rel=>exact⟨3,by omega,by go_num,Lib.hid (by rw [if_neg (by omega)];exact HS3.out),Lib.hid (fun _=>hE.out (by omega))⟩
   case measure=>simp [intOf]
  ·have hX:=hS.out
   rw [if_neg (by omega)] at hX
   have HX:=Lib.hid hX
   clear hX hS
   go_wp2
   go_ret3
   refine⟨.inr ⟨hE.out (by omega),la,lc,rfl,?_⟩,HX.out.bel⟩
   have:=HX.out.own
   rw [← HN.out,rsT_all] at this
   rw [← HN.out]
   exact own_ins (by rw [rsL_len]) this
end Go.Proofs.YtdgnjhhieemcaaaGreatDoor.L13
end
