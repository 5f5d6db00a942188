/- Lemmas and walks of L11Ck, L10Par, L10Cln: what each theorem states; conditions stand in each theorem. -/
import Derived.Test.YtdgnjhhieemcaaaGreatDoorM26
set_option maxHeartbeats 8000000
set_option maxRecDepth 100000
section
namespace Go.Proofs.YtdgnjhhieemcaaaGreatDoor.L11
open L9 (tCom tOpn tShu tPlu tMin tCol eB)
open L10 (Stm Pg)
theorem first0:∀ (l:List (Bool × Int)),(∀ p∈l,p.2≠0)→L4.firstBad l=0→∀ p∈l,p.1=true
 | [],_,_=>by simp
 | (b,e)::r,h,h0=>by
  rw [L4.firstBad] at h0
  cases b
  ·exact absurd h0 (h (false,e) (by simp))
  ·intro p hp
   rcases List.mem_cons.1 hp with rfl|hp
   ·rfl
   ·exact first0 r (fun q hq=>h q (by simp [hq])) h0 p hp
theorem chk_all {f:Int} {reg:Bool} {dst src off imm:Int} (h:L4.chkF f reg dst src off imm=0) :
  f≠-1∧(reg=false∨f=0∨f=4)∧(L4.uD f=true∨dst=0)∧(L4.uS f reg=true∨src=0)∧(L4.uO f=true∨off=0)∧(L4.uI f reg=true∨imm=0)∧L4.isG dst=true∧L4.isG src=true∧L1.sx 16 off=off∧L4.rng f imm=true:=by
 unfold L4.chkF at h
 have k:=first0 _ (by intro p hp;simp only [List.mem_cons,List.not_mem_nil,or_false] at hp;rcases hp with rfl|rfl|rfl|rfl|rfl|rfl|rfl <;> simp) h
 have k1:=k _ (List.mem_cons_self ..)
 have k2:=k _ (List.mem_cons_of_mem _ (List.mem_cons_self ..))
 have k3:=k _ (List.mem_cons_of_mem _ (List.mem_cons_of_mem _ (List.mem_cons_self ..)))
 have k4:=k _ (List.mem_cons_of_mem _ (List.mem_cons_of_mem _ (List.mem_cons_of_mem _ (List.mem_cons_self ..))))
 have k5:=k _ (List.mem_cons_of_mem _ (List.mem_cons_of_mem _ (List.mem_cons_of_mem _ (List.mem_cons_of_mem _ (List.mem_cons_self ..)))))
 have k6:=k _ (List.mem_cons_of_mem _ (List.mem_cons_of_mem _ (List.mem_cons_of_mem _ (List.mem_cons_of_mem _ (List.mem_cons_of_mem _ (List.mem_cons_self ..))))))
 have k7:=k _ (List.mem_cons_of_mem _ (List.mem_cons_of_mem _ (List.mem_cons_of_mem _ (List.mem_cons_of_mem _ (List.mem_cons_of_mem _ (List.mem_cons_of_mem _ (List.mem_cons_self ..)))))))
 simp only [Bool.and_eq_true,Bool.or_eq_true,bne_iff_ne,ne_eq,beq_iff_eq,Bool.not_eq_true'] at k1 k2 k3 k4 k5 k6 k7
 exact⟨k1,by rcases k2 with (k2|k2)|k2 <;> simp [k2],k3.1,k3.2,k4.1,k4.2,k5.1,k5.2,k6,k7⟩
theorem emp {t:ByteArray} (h:t.toList.isEmpty=true):t=eB:=by
 rw [Lib.toList_data] at h
 apply ByteArray.ext
 apply Array.toList_inj.1
 show t.data.toList=[]
 simpa using h
theorem fe_zero {l:List Int} (h:(L10.fe l).2=0):∀ e∈l,e=0:=L10.feF_none l 0 h
theorem frB_ok:∀ (l:List (Bool × Nat × Int)),(L10.frB l).2.2=0→∀ c∈l,c.2.2=0
 | [],_=>by simp
 | c::r,h=>by
  rw [L10.frB] at h
  by_cases h0:c.2.2=0
  ·rw [if_pos h0] at h
   intro x hx
   rcases List.mem_cons.1 hx with rfl|hx
   ·exact h0
   ·exact frB_ok r h x hx
  ·rw [if_neg h0] at h;exact absurd h h0
theorem brV_parts {p:Pg} (h:(L10.brV p).2.2=0):(∀ d∈p.maps,L10.deE d=0)∧(∀ s∈p.stmts,L10.stE s=0):=by
 have k:=frB_ok _ h
 refine⟨fun d hd=>?_,fun s hs=>?_⟩
 ·have:=k (true,L10.fe (p.maps.map L10.deE)) (by simp [L10.cnd])
  exact fe_zero this _ (List.mem_map.2 ⟨d,hd,rfl⟩)
 ·have:=k (false,L10.fe (p.stmts.map L10.stE)) (by simp [L10.cnd])
  exact fe_zero this _ (List.mem_map.2 ⟨s,hs,rfl⟩)
end Go.Proofs.YtdgnjhhieemcaaaGreatDoor.L11
end
section
namespace Go.Proofs.YtdgnjhhieemcaaaGreatDoor.L10
open Go.RowKit Go.Maps
attribute [local go_sem] Oper.semAt_some
def foldL:Rd→List ByteArray→Rd × Int
 | s,[]=>(s,0)
 | s,t::r=>if (rdL s t).2≠0 then rdL s t else foldL (rdL s t).1 r
def pgZ:Pg:=⟨[],[]⟩
def paF (q:Rd × Int):Pg × List Int × Int × Int :=
 if q.2≠0 then (pgZ,[],q.1.line,q.2)
 else if q.1.labs≠[] then (pgZ,[],q.1.lbl,15)
 else if (brV ⟨q.1.maps,q.1.stmts⟩).2.2≠0 then (pgZ,[],lnO q.1 (brV ⟨q.1.maps,q.1.stmts⟩).1 (brV ⟨q.1.maps,q.1.stmts⟩).2.1,(brV ⟨q.1.maps,q.1.stmts⟩).2.2)
 else (⟨q.1.maps,q.1.stmts⟩,q.1.sl,0,0)
def paV (t:ByteArray):Pg × List Int × Int × Int:=paF (foldL Rd.z (L8.lns t))
def szs:List ByteArray→Nat
 | []=>0
 | t::r=>(t.size+1)+szs r
theorem lsx_szs:∀ (l a:List UInt8),szs ((L8.lsx a l).map L8.mkB)≤a.length+l.length+1
 | [],a=>by
  unfold L8.lsx
  split
  ·exact Nat.zero_le _
  ·simp only [List.map_cons,List.map_nil,szs,L8.mkB_size,List.length_nil];omega
 | c::r,a=>by
  unfold L8.lsx
  split
  ·have:=lsx_szs r []
   simp only [List.map_cons,szs,L8.mkB_size,List.length_cons,List.length_nil] at this ⊢
   omega
  ·have:=lsx_szs r (a++[c])
   simp only [List.length_append,List.length_cons,List.length_nil] at this ⊢
   omega
theorem lns_szs (s:ByteArray):szs (L8.lns s)≤s.size+1:=by
 rw [L8.lns_lsx]
 have:=lsx_szs s.data.toList []
 rw [L8.size_list] at this
 simpa using this
theorem szs_mem:∀ (l:List ByteArray) (t:ByteArray),t∈l→t.size≤szs l
 | [],_,h=>by cases h
 | a::r,t,h=>by
  rw [szs]
  rcases List.mem_cons.1 h with rfl|h
  ·omega
  ·have:=szs_mem r t h;omega
theorem szs_len:∀ l:List ByteArray,l.length≤szs l
 | []=>Nat.le_refl _
 | a::r=>by have:=szs_len r;simp only [List.length_cons,szs];omega
def ils:List ByteArray→Nat
 | []=>0
 | t::r=>(itL t).1.length+ils r
theorem ils_szs:∀ l:List ByteArray,ils l≤szs l
 | []=>Nat.le_refl _
 | t::r=>by
  have:=ils_szs r
  have:=(itL_sz t).2
  rw [ils,szs]
  omega
theorem ils_drop (l:List ByteArray) (j:Nat) (h:j<l.length):ils (l.drop j)=(itL l[j]).1.length+ils (l.drop (j+1)):=by
 rw [List.drop_eq_getElem_cons h,ils]
theorem foldL_step {l:List ByteArray} {j:Nat} (h:j<l.length) {s:Rd} {r:Rd × Int} (e:foldL s (l.drop j)=r):((rdL s l[j]).2=0→foldL (rdL s l[j]).1 (l.drop (j+1))=r)∧((rdL s l[j]).2≠0→rdL s l[j]=r):=by
 rw [List.drop_eq_getElem_cons h,foldL] at e
 refine⟨fun h0=>?_,fun h0=>?_⟩
 ·rw [if_neg (by simp [h0])] at e;exact e
 ·rw [if_pos h0] at e;exact e
theorem flat_get {α:Type} (f:α→List Value) (c:Nat) (hf:∀ x,(f x).length=c):∀ (l:List α) (j:Nat) (hj:j<l.length) (i:Nat) (u:Value),(f l[j])[i]?=some u→(l.flatMap f)[j*c+i]?=some u
 | a::r,0,_,i,u,h=>by
  have hi:i<(f a).length:=(List.getElem?_eq_some_iff.1 h).1
  rw [List.flatMap_cons,Nat.zero_mul,Nat.zero_add,List.getElem?_append_left hi]
  exact h
 | a::r,j+1,hj,i,u,h=>by
  rw [List.flatMap_cons,List.getElem?_append_right (by rw [hf,Nat.add_mul];omega),hf,show (j+1)*c+i-c=j*c+i by rw [Nat.add_mul];omega]
  exact flat_get f c hf r j (by simpa using hj) i u h
theorem RdR.pg {B:Nat} {W:World} {vm vs mv sv lv:Value} {l:List (Value × Stm)} {s:Rd} (h:RdR B W vm vs mv sv lv l s):PgAt W vm vs ⟨s.maps,s.stmts⟩:=by
 have hst:s.stmts=l.map (·.2):=h.st.symm
 refine⟨?_,?_⟩
 ·have ho:=h.om
  rcases ho.2 with ⟨rfl,h0⟩|⟨g,cap,cur,rfl,_,hh,_⟩
  ·exact .inr ⟨List.eq_nil_of_length_eq_zero (by simpa using h0),none,0,rfl⟩
  ·refine .inl ⟨g,0,cap,rfl,lt_of_block hh,fun j hj i u hu=>?_⟩
   have:=ho.cells (g:=g) rfl (j*4+i) u (flat_get dfL 4 (fun _=>rfl) s.maps j hj i u hu)
   rw [L8.add0] at this
   rw [Nat.zero_add];exact this
 ·have ho:=h.os
  rcases ho.2 with ⟨rfl,h0⟩|⟨g,cap,cur,rfl,_,hh,_⟩
  ·refine .inr ⟨?_,none,0,rfl⟩
   show s.stmts=[]
   rw [hst,List.eq_nil_of_length_eq_zero (l:=l) (by simpa using h0)];rfl
  ·refine .inl ⟨g,0,cap,by show _=Value.slice _ s.stmts.length _;rw [hst,List.length_map],lt_of_block hh,fun j hj=>?_⟩
   have hjl:j<l.length:=by
    have:j<s.stmts.length:=hj
    rw [hst,List.length_map] at this;exact this
   have e:s.stmts[j]'hj=l[j].2:=by
    rw [List.getElem_of_eq hst hj,List.getElem_map]
   show ∃ lv,L8.StAt W lv (s.stmts[j]'hj).labs∧∀ i u,(smL lv (s.stmts[j]'hj))[i]?=some u→_
   rw [e]
   refine⟨l[j].1,(h.lb l[j] (List.getElem_mem hjl)).1,fun i u hu=>?_⟩
   have:=ho.cells (g:=g) rfl (j*9+i) u (flat_get (fun x:Value × Stm=>smL x.1 x.2) 9 (fun _=>rfl) l j hjl i u hu)
   rw [L8.add0] at this
   rw [Nat.zero_add];exact this
theorem RdR.ints {B:Nat} {W:World} {vm vs mv sv lv:Value} {l:List (Value × Stm)} {s:Rd} (h:RdR B W vm vs mv sv lv l s):InAt W sv s.sl:=by
 have ho:=h.osl
 rcases ho.2 with ⟨rfl,h0⟩|⟨g,cap,cur,rfl,_,hh,_⟩
 ·exact .inr ⟨List.eq_nil_of_length_eq_zero (by simpa using h0),none,0,rfl⟩
 ·refine .inl ⟨g,0,cap,rfl,lt_of_block hh,fun j hj=>?_⟩
  have:=ho.cells (g:=g) rfl j (.int .i64 s.sl[j]) (by simp [inI,List.getElem?_eq_getElem hj])
  rw [L8.add0] at this
  rw [Nat.zero_add];exact this
theorem Rd.Ok.fits {s:Rd} {m:Nat} (h:s.Ok m) (hm:m≤100000):Fits ⟨s.maps,s.stmts⟩ :=
 ⟨Nat.le_trans h.maps hm,Nat.le_trans h.stmts hm,by have:=h.labs;show (s.stmts.flatMap (·.labs)).length≤100000;omega,
  fun d hd=>Nat.le_trans (h.nm d hd) (by unfold maxLen;omega),fun x hx t ht=>Nat.le_trans (h.lb.1 x hx t ht) (by unfold maxLen;omega),
  fun x hx=>⟨Nat.le_trans (h.tg x hx).1 (by unfold maxLen;omega),Nat.le_trans (h.tg x hx).2 (by unfold maxLen;omega)⟩⟩
def PaP (r:Pg × List Int × Int × Int) (w:World) (e:Ending) (w':World):Prop :=
 ∃ vm vs lv,e=.returned (.tuple #[.agg #[vm,vs],lv,.int .i64 r.2.2.1,.int .i64 r.2.2.2])∧PgAt w' vm vs r.1∧InAt w' lv r.2.1∧Below w.heap.size w w'
theorem pgZ_at (w:World):PgAt w (.slice none 0 0) (.slice none 0 0) pgZ:=⟨.inr ⟨rfl,none,0,rfl⟩,.inr ⟨rfl,none,0,rfl⟩⟩
theorem RdM.z {B kr:Nat} {W:World} (h:W.heap[kr]?=some (.cells (rdA (.slice none 0 0) (.slice none 0 0) (.slice none 0 0) (.slice none 0 0) (.slice none 0 0) 0 0) 151)):RdM B kr W [] Rd.z :=
 ⟨_,_,_,_,_,h,⟨World.ownsRow_nil _ _ _ _,World.ownsRow_nil _ _ _ _,World.ownsRow_nil _ _ _ _,World.ownsRow_nil _ _ _ _,World.ownsRow_nil _ _ _ _,fun x hx=>(by cases hx),fun x hx=>(by cases hx),fun g hg=>(by cases hg),rfl⟩⟩
theorem RdE.all {B kr:Nat} {W:World} {s:Rd} (h:RdE B kr W s):∃ vm vs mv sv la lc,W.heap[kr]?=some (.cells #[vm,vs,mv,sv,.slice la s.labs.length lc,.int .i64 s.lbl,.int .i64 s.line] 151)∧PgAt W vm vs ⟨s.maps,s.stmts⟩∧InAt W sv s.sl:=by
 obtain⟨l,vm,vs,mv,sv,lv,hr,hR⟩:=h
 obtain⟨la,lc,rfl⟩:=L8.owns_slice hR.ol
 exact⟨vm,vs,mv,sv,la,lc,hr,hR.pg,hR.ints⟩
def PaI (B kr kp:Nat) (w w2:World) (l:List ByteArray) (r:Rd × Int) (j:Nat) (W:World):Prop :=
 ∃ s m,RdE B kr W s∧Fk kr B w2 W∧s.Ok m∧m+ils (l.drop j)≤100000∧s.line=(j:Int)∧foldL s (l.drop j)=r∧B≤W.heap.size∧W.heap[kp]?=some (.cells #[.slice none 0 0,.slice none 0 0] 58)∧Below w.heap.size w W
theorem rd_nostr {w:World} {k i:Nat} {x:ByteArray} {t:TypeId} (h:w.heap[k]?=some (.cells (rdA (.slice none 0 0) (.slice none 0 0) (.slice none 0 0) (.slice none 0 0) (.slice none 0 0) 0 0) t)) (hc:w.cell? ⟨k,i,none⟩=some (.string x)):False:=by
 simp only [World.cell?,h] at hc
 rcases i with _|_|_|_|_|_|_|i <;> simp [rdA] at hc
theorem parse_gen (t:ByteArray) (w:World) (ht:t.size≤999990) (hi:ils (L8.lns t)≤100000) (hlz:∀ x∈L8.lns t,x.size≤100000) (hT:L1.Wid w∧L2.Regs w) (h3:3≤w.heap.size) (rr:Pg × List Int × Int × Int) (hr:paV t=rr) :
  Calls Tryz.prog 57 #[.string t] w (PaP rr w):=by
 subst hr
 have hsz:=lns_szs t
 obtain⟨l,hl⟩:∃ l,L8.lns t=l:=⟨_,rfl⟩
 have HL:=Lib.hid (show ∀ W,Calls Tryz.prog 93 #[.string t] W (fun e w'=>L8.PS W l e w') from fun W=>by rw [← hl];exact L8.lines8 t W (by omega))
 obtain⟨n,hn⟩:∃ n,l.length=n:=⟨_,rfl⟩
 have hlen:=szs_len l
 rw [hl] at hsz hi hlz
 have HLZ:=Lib.hid hlz
 clear hlz
 obtain⟨rr,hrr⟩:∃ r,foldL Rd.z l=r:=⟨_,rfl⟩
 have hpv:paV t=paF rr:=by unfold paV;rw [hl,hrr]
 rw [hpv]
 have HN:=Lib.hid hn
 have HSZ:=Lib.hid hi
 have hnm:n≤1000000:=by omega
 have HP:Hid ((((w.alloc (.cells #[.slice none 0 0,.slice none 0 0] 58)).alloc (.cells (rdA (.slice none 0 0) (.slice none 0 0) (.slice none 0 0) (.slice none 0 0) (.slice none 0 0) 0 0) 151))).heap[w.heap.size]?=some (.cells #[.slice none 0 0,.slice none 0 0] 58)):=Lib.hid (L8.row_up (heap_alloc_last w _) (L8.bnew _ _))
 have HR0:Hid ((((w.alloc (.cells #[.slice none 0 0,.slice none 0 0] 58)).alloc (.cells (rdA (.slice none 0 0) (.slice none 0 0) (.slice none 0 0) (.slice none 0 0) (.slice none 0 0) 0 0) 151))).heap[w.heap.size+1]?=some (.cells (rdA (.slice none 0 0) (.slice none 0 0) (.slice none 0 0) (.slice none 0 0) (.slice none 0 0) 0 0) 151)):=Lib.hid (by have:=heap_alloc_last (w.alloc (.cells #[.slice none 0 0,.slice none 0 0] 58)) (.cells (rdA (.slice none 0 0) (.slice none 0 0) (.slice none 0 0) (.slice none 0 0) (.slice none 0 0) 0 0) 151);simpa using this)
 have HT:=Lib.hid hT
 have HRR:=Lib.hid hrr
 have HB0:=Lib.hid (L2.bch (L8.bnew w (.cells #[.slice none 0 0,.slice none 0 0] 58)) (L8.bnew _ (.cells (rdA (.slice none 0 0) (.slice none 0 0) (.slice none 0 0) (.slice none 0 0) (.slice none 0 0) 0 0) 151)))
 clear hn hsz hT hrr hl hlen hpv hi
 go_enter Tryz.func57,Tryz.ntmps57
 go_wp2_with (go_at_call 93;((with_reducible refine (HL.out _).mono ?_);rintro e w2 ⟨⟨v,rfl,hv⟩,k2⟩;obtain⟨la,lc,rfl,hf⟩:=st_form HN.out hv;have HF:=Lib.hid hf;clear hf hv))
 have h2s:=k2.size
 simp only [World.size_alloc] at h2s
 have HP2:=Lib.hid (L8.row_up HP.out k2)
 have HR2:=Lib.hid (L8.row_up HR0.out k2)
 have HB2:=Lib.hid (L2.bch HB0.out k2)
 have HT2:Hid (L1.Wid w2∧L2.Regs w2):=Lib.hid ⟨L4.wid_below HT.out.1 HB2.out,HT.out.2.below HB2.out⟩
 have HI:Hid (PaI w2.heap.size (w.heap.size+1) w.heap.size w w2 l rr 0 w2):=Lib.hid ⟨Rd.z,0,⟨[],RdM.z HR2.out⟩,Fk.refl _ _ _,Rd.Ok.z,by have:=HSZ.out;simp only [List.drop_zero];omega,rfl,HRR.out,Nat.le_refl _,HP2.out,HB2.out⟩
 clear k2 HP HR0 HB0 HL
 go_loopw [8,9,15] (fun _ _ i wr=>∃ j:Nat,j≤n∧i=.int .i64 (j:Int)∧Hid (PaI w2.heap.size (w.heap.size+1) w.heap.size w w2 l rr j wr)) (fun _ _ i _=>n-(intOf i).toNat)
 case atStart=>exact⟨0,Nat.zero_le _,rfl,HI⟩
 case round =>
  obtain⟨j,hj,rfl,hS⟩:=hrel
  clear HI
  obtain⟨s,m,hE,hF,hO,hm,hln,hfo,hBs,hkp,hbel⟩:=hS.out
  clear hS
  by_cases hlt:j<n
  ·have hjl:j<l.length:=by rw [HN.out];exact hlt
   obtain⟨b,o,rfl,hb,hc⟩:=HF.out (by omega)
   have hcj:=hc j hjl
   have hbk:b≠w.heap.size+1:=by
    rintro rfl
    exact rd_nostr HR2.out hcj
   have hcell:wr.cell? ⟨b,o+j,none⟩=some (.string l[j]):=by
    rw [← hcj]
    unfold World.cell?
    rw [hF.block b hb hbk]
   have hlt':(j:Int)<(n:Int):=by omega
   rw [ils_drop l j hjl] at hm
   obtain⟨f0,f1⟩:=foldL_step hjl hfo
   have hro:=rdL_ok s l[j] m hO
   have hrl:=rdL_line s l[j]
   have hlj:=HLZ.out l[j] (List.getElem_mem hjl)
   have HRD:=Lib.hid (reading_at w2.heap.size (w.heap.size+1) l[j] s wr hE hBs (by omega) (by omega) (tab_fk HT2.out hF (by omega) (by omega)) hlj (by rw [hln];omega) m hO (by omega))
   obtain⟨x,hx⟩:∃ x,l[j]=x:=⟨_,rfl⟩
   rw [hx] at hcell f0 f1 hro hrl hm
   rw [hx] at HRD
   obtain⟨s',er,hrr⟩:∃ a b,rdL s x=(a,b):=⟨_,_,rfl⟩
   rw [hrr] at f0 f1 hro hrl
   rw [hrr] at HRD
   simp only at f0 f1 hro hrl
   have HF0:=Lib.hid f0
   have HF1:=Lib.hid f1
   have HRO:=Lib.hid hro
   have HRL:=Lib.hid (hrl.trans (by rw [hln]))
   have HM:=Lib.hid hm
   have HFK:=Lib.hid hF
   have HKP:=Lib.hid hkp
   have HBL:=Lib.hid hbel
   have HBS:=Lib.hid hBs
   clear hc hcj hbk f0 f1 hro hrl hm hF hkp hbel hBs hx hrr hE hO hln hfo hlj
   by_cases he:er=0
   ·subst he
    go_wp2_with (go_at_call 94;((with_reducible refine (HRD.out).mono ?_);rintro e w3 ⟨rfl,e3,k3⟩))
    go_roundw
    case rel=>exact⟨j+1,by omega,by go_num,Lib.hid ⟨s',_,e3,HFK.out.trans k3,HRO.out,by have:=HM.out;omega,by rw [HRL.out];push_cast;rfl,HF0.out (by trivial),Nat.le_trans HBS.out k3.size,(k3.block _ (by omega) (by omega)).trans HKP.out,HBL.out.trans (k3.bel (by omega) (by omega))⟩⟩
    case measure=>simp [intOf];omega
   ·go_wp2_with (go_at_call 94;((with_reducible refine (HRD.out).mono ?_);rintro e w3 ⟨rfl,e3,k3⟩;obtain⟨vm,vs,mv,sv,ra,rc,hrow,hpg,hin⟩:=e3.all;obtain⟨y0,y1,y2,y3,y4,y5,y6⟩:=cells7 hrow;have hkl:=lt_of_block hrow;have hkp3:=(k3.block _ (by omega) (by omega)).trans HKP.out;obtain⟨z0,z1⟩:=cells2p hkp3;have fz:=frozen_all hkp3))
    have hrr2:=HF1.out he
    subst hrr2
    have hpa:paF (s',er)=(pgZ,[],s'.line,er):=if_pos he
    have HPA:=Lib.hid hpa
    have hr4:(((w3.setCell ⟨w.heap.size,0,none⟩ (.slice none 0 0)).setCell ⟨w.heap.size,1,none⟩ (.slice none 0 0)).drew).heap[w.heap.size]?=some (.cells #[.slice none 0 0,.slice none 0 0] 58):=row_set (row_set hkp3 0 _) 1 _
    have HB4:=Lib.hid (drew_bel (bel_set (bel_set (HBL.out.trans (k3.bel (C:=w.heap.size) (by omega) (by omega))) (k:=w.heap.size) (Nat.le_refl _) 0 (.slice none 0 0)) (k:=w.heap.size) (Nat.le_refl _) 1 (.slice none 0 0)))
    have HR4:=Lib.hid hr4
    clear hr4 hpa
    go_region
    generalize ((w3.setCell ⟨w.heap.size,0,none⟩ (.slice none 0 0)).setCell ⟨w.heap.size,1,none⟩ (.slice none 0 0)).drew=W4 at HR4 HB4 ⊢
    obtain⟨q0,q1⟩:=cells2p HR4.out
    clear z0 z1 y0 y1 y2 y3 y4 y5 y6 hrow
    go_wp2
    exact bodyPost_ret (v:=.tuple #[.agg #[.slice none 0 0,.slice none 0 0],.slice none 0 0,.int .i64 s'.line,.int .i64 er]) (by simp [results,Tryz.results57,go_sem,q0,q1]) rfl (by rw [HPA.out];exact⟨_,_,_,rfl,pgZ_at _,.inr ⟨rfl,none,0,rfl⟩,HB4.out⟩)
  ·obtain rfl:j=n:=by omega
   have hfo2:(s,(0:Int))=rr:=by rw [← hfo,List.drop_eq_nil_of_le (by rw [HN.out];exact Nat.le_refl _)];rfl
   subst hfo2
   obtain⟨ll,vm,vs,mv,sv,lv,hrow,hR⟩:=hE
   obtain⟨ra,rc,rfl⟩:=L8.owns_slice hR.ol
   obtain⟨y0,y1,y2,y3,y4,y5,y6⟩:=cells7 hrow
   obtain⟨z0,z1⟩:=cells2p hkp
   have fz:=frozen_all hkp
   have hkl:=lt_of_block hrow
   by_cases hlb:s.labs=[]
   ·have hl0:s.labs.length=0:=by rw [hlb];rfl
    rw [hl0] at y4
    have hpg:=hR.pg
    obtain⟨n1,hn1⟩:∃ n,s.maps.length=n:=⟨_,rfl⟩
    obtain⟨n2,hn2⟩:∃ n,s.stmts.length=n:=⟨_,rfl⟩
    obtain⟨n3,hn3⟩:∃ n,s.sl.length=n:=⟨_,rfl⟩
    obtain⟨a1,c1,rfl,-⟩:=df_form (l:=s.maps) hn1 hpg.1
    obtain⟨a2,c2,rfl,-⟩:=sm_form (l:=s.stmts) hn2 hpg.2
    obtain⟨a3,c3,rfl,-⟩:=in_form hn3 hR.ints
    obtain⟨bb,bk,be,hbr⟩:∃ a b c,brV ⟨s.maps,s.stmts⟩=(a,b,c):=⟨_,_,_,rfl⟩
    have HBR:=Lib.hid (breach_at _ _ ⟨s.maps,s.stmts⟩ wr hpg (hO.fits (by omega)) (tab_fk HT2.out hF (by omega) (by omega)) _ hbr)
    have HR5:=Lib.hid hR
    have HRW:=Lib.hid hrow
    have HKP:=Lib.hid hkp
    have HBL:=Lib.hid hbel
    have hkp0:w.heap.size+1<wr.heap.size:=hkl
    by_cases h0:be=0
    ·subst h0
     have HPA:Hid (paF (s,0)=(⟨s.maps,s.stmts⟩,s.sl,0,0)):=Lib.hid (by unfold paF;rw [if_neg (by simp),if_neg (by simp [hlb]),if_neg (by simp [hbr])])
     clear hR hrow hkp hbel hpg hO hF hBs hfo hm hln hbr hlb hl0 hn1 hn2 hn3
     go_wp2_with (go_at_call 92;((with_reducible refine (HBR.out).mono ?_);rintro e w3 ⟨rfl,b3⟩;have hb3:=b3.size;have hrow3:=L8.row_up HRW.out b3;clear y0 y1 y2 y3 y4 y5 y6 z0 z1 fz;obtain⟨y0,y1,y2,y3,y4,y5,y6⟩:=cells7 hrow3;have hkp3:=L8.row_up HKP.out b3;obtain⟨z0,z1⟩:=cells2p hkp3;have fz:=frozen_all hkp3;have hkr3:=lt_of_block hrow3;have hkq3:=lt_of_block hkp3))
     have hb4:=L8.bnew w3 (.cells #[.bool bb,.int .i64 (bk:Int)] 147)
     have hR4:=(HR5.out.below b3).below hb4
     have hkp4:=L8.row_up hkp3 hb4
     have hrow4:=L8.row_up hrow3 hb4
     have hbl4:=(HBL.out.trans (b3.mono HBL.out.size)).trans (hb4.mono (Nat.le_trans HBL.out.size b3.size))
     have hsz4:w3.heap.size+1=(w3.alloc (.cells #[.bool bb,.int .i64 (bk:Int)] 147)).heap.size:=by simp
     generalize w3.alloc (.cells #[.bool bb,.int .i64 (bk:Int)] 147)=W4 at hR4 hkp4 hrow4 hbl4 hsz4 ⊢
     clear y0 y1 y2 y3 y4 y5 y6 z0 z1 fz hb4
     obtain⟨y0,y1,y2,y3,y4,y5,y6⟩:=cells7 hrow4
     obtain⟨z0,z1⟩:=cells2p hkp4
     have fz:=frozen_all hkp4
     have hkr4:=lt_of_block hrow4
     have hkq4:=lt_of_block hkp4
     have R5:=hR4.other (gr_setCell W4 w.heap.size 0 (.slice a1 n1 c1)) (fun k e=>by cases e;exact⟨_,_,_,hkp4,by decide,by decide,by decide,by decide⟩)
     have P5:=row_set hkp4 0 (.slice a1 n1 c1)
     have R6:=R5.other (gr_setCell _ w.heap.size 1 (.slice a2 n2 c2)) (fun k e=>by cases e;exact⟨_,_,_,P5,by decide,by decide,by decide,by decide⟩)
     have HR7:=Lib.hid (R6.below (drew_below _))
     have HP7:Hid (((W4.setCell ⟨w.heap.size,0,none⟩ (.slice a1 n1 c1)).setCell ⟨w.heap.size,1,none⟩ (.slice a2 n2 c2)).drew.heap[w.heap.size]?=some (.cells #[.slice a1 n1 c1,.slice a2 n2 c2] 58)):=Lib.hid (row_set P5 1 _)
     have HB7:=Lib.hid (drew_bel (bel_set (bel_set hbl4 (k:=w.heap.size) (Nat.le_refl _) 0 (.slice a1 n1 c1)) (k:=w.heap.size) (Nat.le_refl _) 1 (.slice a2 n2 c2)))
     clear R5 P5 R6 hR4 hkp4 hrow4 hbl4 hsz4 hrow3 hkp3 b3 hb3
     go_region
     generalize ((W4.setCell ⟨w.heap.size,0,none⟩ (.slice a1 n1 c1)).setCell ⟨w.heap.size,1,none⟩ (.slice a2 n2 c2)).drew=W5 at HR7 HP7 HB7 ⊢
     obtain⟨q0,q1⟩:=cells2p HP7.out
     clear y0 y1 y2 y3 y4 y5 y6 z0 z1 fz
     go_wp2
     exact bodyPost_ret (v:=.tuple #[.agg #[.slice a1 n1 c1,.slice a2 n2 c2],.slice a3 n3 c3,.int .i64 0,.int .i64 0]) (by simp [results,Tryz.results57,go_sem,q0,q1]) rfl (by rw [HPA.out];exact⟨_,_,_,rfl,HR7.out.pg,HR7.out.ints,HB7.out⟩)
    ·have HPA:Hid (paF (s,0)=(pgZ,[],lnO s bb bk,be)):=Lib.hid (by unfold paF;rw [if_neg (by simp),if_neg (by simp [hlb]),if_pos (by simpa [hbr] using h0)];simp only [hbr])
     clear hR hrow hkp hbel hpg hO hF hBs hfo hm hln hbr hlb hl0 hn1 hn2 hn3
     go_wp2_with (first
      | (go_at_call 92;((with_reducible refine (HBR.out).mono ?_);rintro e w3 ⟨rfl,b3⟩;have hb3:=b3.size;have hrow3:=L8.row_up HRW.out b3;clear y0 y1 y2 y3 y4 y5 y6 z0 z1 fz;obtain⟨y0,y1,y2,y3,y4,y5,y6⟩:=cells7 hrow3;have hkp3:=L8.row_up HKP.out b3;obtain⟨z0,z1⟩:=cells2p hkp3;have fz:=frozen_all hkp3;have hkr3:=lt_of_block hrow3;have hkq3:=lt_of_block hkp3))
      | (go_at_call 95;have hM:=(show RdM w2.heap.size (w.heap.size+1) (w3.alloc (.cells #[.bool bb,.int .i64 (bk:Int)] 147)) ll s from ⟨_,_,_,_,_,L8.row_up hrow3 (L8.bnew w3 _),(HR5.out.below b3).below (L8.bnew w3 _)⟩);((with_reducible refine (lineOf_at w2.heap.size (w.heap.size+1) ll s bb bk _ hM _ rfl).mono ?_);rintro e w5 ⟨rfl,b5⟩;have hkp5:=L8.row_up (L8.row_up hkp3 (L8.bnew w3 (.cells #[.bool bb,.int .i64 (bk:Int)] 147))) b5;clear y0 y1 y2 y3 y4 y5 y6 z0 z1 fz hM;obtain⟨z0,z1⟩:=cells2p hkp5;have fz:=frozen_all hkp5;have hkq5:=lt_of_block hkp5)))
     have hb4:=L8.bnew w3 (.cells #[.bool bb,.int .i64 (bk:Int)] 147)
     have hbl5:=((HBL.out.trans (b3.mono HBL.out.size)).trans (hb4.mono (Nat.le_trans HBL.out.size b3.size))).trans (b5.mono (Nat.le_trans HBL.out.size (Nat.le_trans b3.size hb4.size)))
     have hP7:((w5.setCell ⟨w.heap.size,0,none⟩ (.slice none 0 0)).setCell ⟨w.heap.size,1,none⟩ (.slice none 0 0)).heap[w.heap.size]?=some (.cells #[.slice none 0 0,.slice none 0 0] 58):=row_set (row_set hkp5 0 _) 1 _
     have HB7:=bel_set (bel_set hbl5 (k:=w.heap.size) (Nat.le_refl _) 0 (.slice none 0 0)) (k:=w.heap.size) (Nat.le_refl _) 1 (.slice none 0 0)
     obtain⟨q0,q1⟩:=cells2p hP7
     exact bodyPost_ret (v:=.tuple #[.agg #[.slice none 0 0,.slice none 0 0],.slice none 0 0,.int .i64 (lnO s bb bk),.int .i64 be]) (by simp [results,Tryz.results57,go_sem,q0,q1]) rfl (by rw [HPA.out];exact⟨_,_,_,rfl,pgZ_at _,.inr ⟨rfl,none,0,rfl⟩,HB7⟩)
   ·have hl1:0<s.labs.length:=List.length_pos_iff.2 hlb
    obtain⟨ln,hln2⟩:∃ ln,s.labs.length=ln:=⟨_,rfl⟩
    rw [hln2] at y4 hl1
    have hl0:(0:Int)<(ln:Int):=by omega
    have hpa:paF (s,0)=(pgZ,[],s.lbl,15):=by unfold paF;rw [if_neg (by simp),if_pos hlb]
    have HPA:=Lib.hid hpa
    have hr4:(((wr.setCell ⟨w.heap.size,0,none⟩ (.slice none 0 0)).setCell ⟨w.heap.size,1,none⟩ (.slice none 0 0)).drew).heap[w.heap.size]?=some (.cells #[.slice none 0 0,.slice none 0 0] 58):=row_set (row_set hkp 0 _) 1 _
    have HB4:=Lib.hid (drew_bel (bel_set (bel_set hbel (k:=w.heap.size) (Nat.le_refl _) 0 (.slice none 0 0)) (k:=w.heap.size) (Nat.le_refl _) 1 (.slice none 0 0)))
    have HR4:=Lib.hid hr4
    clear hr4 hpa hlb hln2 hR hF hO hm hln hfo hBs hkp hbel hrow
    go_wp2
    go_region
    generalize ((wr.setCell ⟨w.heap.size,0,none⟩ (.slice none 0 0)).setCell ⟨w.heap.size,1,none⟩ (.slice none 0 0)).drew=W4 at HR4 HB4 ⊢
    obtain⟨q0,q1⟩:=cells2p HR4.out
    clear z0 z1 y0 y1 y2 y3 y4 y5 y6
    go_wp2
    exact bodyPost_ret (v:=.tuple #[.agg #[.slice none 0 0,.slice none 0 0],.slice none 0 0,.int .i64 s.lbl,.int .i64 15]) (by simp [results,Tryz.results57,go_sem,q0,q1]) rfl (by rw [HPA.out];exact⟨_,_,_,rfl,pgZ_at _,.inr ⟨rfl,none,0,rfl⟩,HB4.out⟩)
theorem parse_at (t:ByteArray) (w:World) (ht:t.size≤99990) (hT:L1.Wid w∧L2.Regs w) (h3:3≤w.heap.size) (rr:Pg × List Int × Int × Int) (hr:paV t=rr) :
  Calls Tryz.prog 57 #[.string t] w (PaP rr w):=by
 have h1:=lns_szs t
 have h2:=ils_szs (L8.lns t)
 exact parse_gen t w (by omega) (by omega) (fun x hx=>by have:=szs_mem _ x hx;omega) hT h3 rr hr
theorem ad_plain (b o i:Nat):(⟨b,o,none⟩:Addr).add i=⟨b,o+i,none⟩:=by unfold Addr.add;split <;> simp_all
theorem flat_of {α:Type} (f:α→List Value) (c:Nat) (hf:∀ x,(f x).length=c):∀ (l:List α) (k:Nat) (u:Value),(l.flatMap f)[k]?=some u→∃ j i,∃ hj:j<l.length,k=j*c+i∧(f l[j])[i]?=some u
 | [],k,u,h=>by simp at h
 | a::r,k,u,h=>by
  rw [List.flatMap_cons] at h
  by_cases hk:k<c
  ·rw [List.getElem?_append_left (by rw [hf];exact hk)] at h
   exact⟨0,k,by simp,by omega,h⟩
  ·rw [List.getElem?_append_right (by rw [hf];omega),hf] at h
   obtain⟨j,i,hj,e,hu⟩:=flat_of f c hf r (k-c) u h
   exact⟨j+1,i,by simpa using hj,by rw [Nat.add_mul];omega,hu⟩
theorem flat_len {α:Type} (f:α→List Value) (c:Nat) (hf:∀ x,(f x).length=c):∀ l:List α,(l.flatMap f).length=l.length*c
 | []=>by simp
 | a::r=>by rw [List.flatMap_cons,List.length_append,hf,flat_len f c hf r,List.length_cons,Nat.add_mul];omega
def Flat (w:World) (v:Value) (n:Nat) (cs:List Value):Prop:=∃ a c,v=.slice a n c∧(a=none→n=0)∧∀ x,a=some x→∀ j u,cs[j]?=some u→w.cell? (x.add j)=some u
theorem DfAt.flat {w:World} {v:Value} {l:List L9.Df} (h:DfAt w v l):Flat w v l.length (l.flatMap dfL):=by
 rcases h with ⟨b,o,cap,rfl,hlt,hc⟩|⟨rfl,a,cap,rfl⟩
 ·refine⟨_,_,rfl,fun h=>(by cases h),fun x hx k u hu=>?_⟩
  cases hx
  obtain⟨j,i,hj,rfl,hu'⟩:=flat_of dfL 4 (fun _=>rfl) l k u hu
  rw [ad_plain,← Nat.add_assoc]
  exact hc j hj i u hu'
 ·exact⟨_,_,rfl,fun _=>rfl,fun x hx k u hu=>by simp at hu⟩
def ClP (e:TypeId) (size n:Nat) (cs:List Value) (w:World) (en:Ending) (w':World):Prop:=∃ v',en=.returned v'∧w'.ownsRow w.heap.size e size v' n cs∧Below w.heap.size w w'
theorem cloneD_at (v:Value) (n:Nat) (cs:List Value) (w:World) (hm:n≤100000) (hl:cs.length=n*4) (h1:∀ u∈cs,u.oneCell'=true) (hv:Flat w v n cs) :
  Calls Tryz.prog 31 #[v] w (ClP 83 4 n cs w):=by
 obtain⟨i0,hi,hz0,hz1,hz2⟩:=info_parts infoD
 obtain⟨a,c,rfl,hn,hc⟩:=hv
 have q:∀ (w:World) (a:Option Addr) (n c n' c':Nat),(binOp .eql 22 (.slice a n c) (.slice none n' c')).run Tryz.prog w=.ok (.bool a.isNone) w:=fun w a n c n' c'=>Lib.run_eql_slice_nil w _ _ a n c n' c' Tryz.underlying22
 cases a with
 | none =>
  obtain rfl:n=0:=hn rfl
  obtain rfl:cs=[]:=List.eq_nil_of_length_eq_zero (by omega)
  clear hc hl h1
  go_enter Tryz.func31,Tryz.ntmps31
  go_wp2
  go_ret
  exact⟨_,rfl,World.ownsRow_nil _ _ _ _,Below.refl _ _⟩
 | some x =>
  have HC:=Lib.hid (hc x rfl)
  clear hc hn
  go_enter Tryz.func31,Tryz.ntmps31
  go_wp2_with (at_builtin;refine wpList_append_own _ rfl _ _ 22 rfl w.heap.size 83 i0 (.agg #[.string ⟨#[]⟩,.int .i64 0,.int .i64 0,.int .i64 0]) 4 40 Tryz.underlying22 hi hz0 hz1 hz2 rfl (by decide) _ _ _ rfl (World.ownsRow_made w #[] 0 (Nat.le_refl _) (Nat.zero_le _) rfl) x n c cs rfl hl (fun j u hu=>Lib.cell?_alloc_some _ (HC.out j u hu)) h1 ?qc4 ?qc5 ?qc6 ?_)
  case qc4=>unfold maxLen;omega
  case qc5=>omega
  case qc6=>simp
  intro v' w1 hown hgrow hnil
  go_wp2
  go_ret
  refine⟨v',rfl,by simpa using hown,?_⟩
  exact ((Below.refl _ w).alloc (Nat.le_refl _) _).grown hgrow (by simp) (by intro k hk;simp [Value.ownBlock] at hk;omega)
theorem one_df (l:List L9.Df):∀ u∈l.flatMap dfL,u.oneCell'=true:=by
 intro u hu
 obtain⟨d,_,hd⟩:=List.mem_flatMap.1 hu
 simp only [dfL,List.mem_cons,List.not_mem_nil,or_false] at hd
 rcases hd with rfl|rfl|rfl|rfl <;> rfl
theorem Flat.below {w w':World} {v:Value} {n:Nat} {cs:List Value} (h:Flat w v n cs) (hb:Below w.heap.size w w'):Flat w' v n cs:=by
 obtain⟨a,c,rfl,h0,hc⟩:=h
 exact⟨a,c,rfl,h0,fun x hx j u hu=>by
  have h1:=hc x hx j u hu
  exact (hb.cell (p:=x.add j) (World.block_lt_of_cell? w _ h1)).trans h1⟩
end Go.Proofs.YtdgnjhhieemcaaaGreatDoor.L10
end
