/- Lemmas and walks of L16Rw, L16Ck, L16Rd: what each theorem states; conditions stand in each theorem. -/
import Derived.Test.YtohkgdfkklfgmaaGreatDoorM48
import Derived.Test.YtohkgdfkklfgmaaGreatDoorM45
import Derived.Test.YtohkgdfkklfgmaaGreatDoorM30
import Derived.Test.YtohkgdfkklfgmaaGreatDoorL10Chl
section
set_option maxHeartbeats 4000000
namespace Go.Proofs.YtohkgdfkklfgmaaGreatDoor.L16
set_option maxRecDepth 100000
open Go.RowKit L14 L15
attribute [local go_sem] Oper.semAt_some
abbrev eI (z:Int):Value:=.int .i64 z
theorem own_lit (w:World) (vs:List Value) (n k B:Nat) (hn:vs.length=n) (hm:n≤1000) (hk:w.heap.size=k) (hB:B≤k) (t:TypeId) (cs:Array Value) (hc:cs=vs.toArray):(w.alloc (.cells cs t)).ownsRow B t 1 (.slice (some ⟨k,0,none⟩) n n) n vs:=by
 subst hn hc hk
 refine⟨by simp,.inr ⟨w.heap.size,_,_,rfl,hB,heap_alloc_new w _,Nat.le_refl _,by unfold maxLen;omega,by simp,by simp⟩⟩
def ClP (ns:List Int) (n:Nat) (w:World) (e:Ending) (w':World):Prop:=(∃ a c,e=.returned (.slice a n c)∧w'.ownsRow w.heap.size 3 1 (.slice a n c) n (ns.map eI))∧Below w.heap.size w w'
theorem sec1_at (i:Int) (t:ByteArray) (a b c:Int) (w:World):Calls Tryz.prog 57 #[.int .i64 i,.agg #[.string t,.int .i64 a,.int .i64 b,.int .i64 c]] w (ClP [a,b,c,0] 4 w):=by
 go_enter Tryz.func57,Tryz.ntmps57
 go_wp2
 go_ret
 exact⟨⟨_,_,rfl,own_lit _ ([a,b,c,0].map eI) 4 _ _ rfl (by decide) (by simp) (by omega) _ _ rfl⟩,bch (bnew _ _) (bnew _ _)⟩
theorem sec2_at (i o:Int) (w:World):Calls Tryz.prog 59 #[.int .i64 i,.int .i64 o] w (ClP [o,i] 2 w):=by
 go_enter Tryz.func59,Tryz.ntmps59
 go_wp2
 go_ret
 exact⟨⟨_,_,rfl,own_lit _ ([o,i].map eI) 2 _ _ rfl (by decide) (by simp) (by omega) _ _ rfl⟩,bnew _ _⟩
theorem sec3_at (i a b:Int) (w:World):Calls Tryz.prog 61 #[.int .i64 i,.agg #[.int .i64 a,.int .i64 b]] w (ClP [a,b] 2 w):=by
 go_enter Tryz.func61,Tryz.ntmps61
 go_wp2
 go_ret
 exact⟨⟨_,_,rfl,own_lit _ ([a,b].map eI) 2 _ _ rfl (by decide) (by simp) (by omega) _ _ rfl⟩,bch (bnew _ _) (bnew _ _)⟩
theorem e4_cells {z:Int} (h:0≤z∧z<4294967296):(e4 z).map eB=[.int .u8 (z % 256),.int .u8 (z / 256 % 256),.int .u8 (z / 65536 % 256),.int .u8 (z / 16777216)]:=by
 obtain⟨n,rfl⟩:∃ n:Nat,z=(n:Int):=⟨z.toNat,by omega⟩
 unfold e4
 rw [Int.toNat_natCast]
 simp only [le,List.map_cons,List.map_nil,eB,UInt8.toNat_ofNat',List.cons.injEq,Value.int.injEq,and_true,true_and]
 omega
def RwP (rs:List (List Int)) (N:Nat) (w:World) (e:Ending) (w':World):Prop:=(∃ a c,e=.returned (.slice a N c)∧Rw eB w' (.slice a N c) (rwB rs))∧Below w.heap.size w w'
theorem rowsN_at (v:Value) (l:List Nat) (rs:List (List Int)) (N:Nat) (w:World) (hv:Rw eN w v l) (hl:l.length≤100000) (hrs:rs.length=l.length) (hb:∀ r∈rs,r.length≤4∧∀ z∈r,0≤z∧z<4294967296) (hN:(rwB rs).length=N) (hN2:N≤2000000)
  (hK:∀ j (h:j<l.length) (W:World),Calls Tryz.prog 59 #[.int .i64 (j:Int),.int .i64 (l[j]:Int)] W (ClP (rs.getD j []) (rs.getD j []).length W)) :
  Calls Tryz.prog 58 #[v,.func (.func 59) #[] #[]] w (RwP rs N w):=by
 obtain⟨ib,ki,kz0,kz1,kz2⟩:=info_parts infoByte
 obtain⟨n,hn⟩:∃ n,l.length=n:=⟨_,rfl⟩
 obtain⟨a,c,rfl,-,-,hc⟩:=hv.form hn
 have HK:=Lib.hid hK
 have HC:=Lib.hid hc
 have HN:=Lib.hid (And.intro hn hrs)
 have HB:=Lib.hid hb
 have HT:=Lib.hid (fun j (h:j<rs.length)=>show (rwB (rs.take (j+1))).length≤N by
  have e:rwB rs=rwB (rs.take (j+1))++rwB (rs.drop (j+1)):=by rw [← rwB_app,List.take_append_drop]
  rw [← hN,e,List.length_append];omega)
 have HL:=Lib.hid hN
 rw [hn] at hl
 clear hK hc hn hrs hb hv hN
 go_enter Tryz.func58,Tryz.ntmps58
 go_wp2
 go_loopw [5,12] (fun bv q wr=>∃ (j M:Nat),j≤n∧q=.int .i64 (j:Int)∧Hid ((rwB (rs.take j)).length=M∧wr.ownsRow w.heap.size 5 1 bv M ((rwB (rs.take j)).map eB)∧Below w.heap.size w wr)) (fun _ q _=>n-(intOf q).toNat)
 case atStart=>exact⟨0,0,Nat.zero_le _,rfl,Lib.hid ⟨rfl,World.ownsRow_nil _ _ _ _,Below.refl _ _⟩⟩
 case round =>
  obtain⟨j,M,hj,rfl,hI⟩:=hrel
  obtain⟨ba,bc,rfl⟩:=owns_slice hI.out.2.1
  by_cases hlt:j<n
  ·have hjl:j<l.length:=by rw [HN.out.1];exact hlt
   have hjr:j<rs.length:=by rw [HN.out.2];exact hjl
   obtain⟨bb,o,rfl,hbl,hcc⟩:=HC.out (by omega)
   have x0:=(hI.out.2.2.cell (p:=⟨bb,o+j,none⟩) (by exact hbl)).trans (hcc j hjl)
   have hk:=HK.out j hjl wr
   have hg:rs.getD j []=rs[j]:=by simp [List.getD,hjr]
   rw [hg] at hk
   have hs:=rwB_snoc rs j hjr
   have hle:=HT.out j hjr
   rw [hs,List.length_append,nB_len] at hle
   obtain⟨hr4,hrz⟩:=HB.out _ (List.getElem_mem hjr)
   obtain⟨r,hr⟩:∃ r,rs[j]=r:=⟨_,rfl⟩
   obtain⟨m,hm⟩:∃ m,r.length=m:=⟨_,rfl⟩
   rw [hr] at hk hs hle hr4 hrz
   rw [hm] at hk hle hr4
   generalize l[j]=lj at x0 hk
   have HS:=Lib.hid hs
   have HZ:=Lib.hid hrz
   have HM:=Lib.hid hm
   obtain⟨hM,hown,hB⟩:=hI.out
   rw [hM] at hle
   have HO:=Lib.hid (And.intro hown hB)
   have HKK:=Lib.hid hk
   have hsz:=hB.size
   obtain⟨P,hP⟩:∃ P,rwB (rs.take j)=P:=⟨_,rfl⟩
   rw [hP] at hM HO HS
   have HMM:=Lib.hid hM
   clear hI hcc hk hg hs hrz hr hm hM hown hB hP
   go_wp2_with (go_at_call 59;((with_reducible refine (HKK.out).mono ?_);rintro e w1 ⟨⟨ra,rc,rfl,ro⟩,b1⟩))
   have HI:Hid (w1.ownsRow w.heap.size 5 1 (.slice ba M bc) (M+4*0) ((P++nB (r.take 0)).map eB)∧w1.ownsRow wr.heap.size 3 1 (.slice ra m rc) m (r.map eI)∧Below w.heap.size w w1):=Lib.hid ⟨by simpa [nB] using own_below HO.out.1 b1,ro,bch HO.out.2 b1⟩
   clear ro b1 HKK x0 HO
   go_loopw [5,22] (fun bv q wr2=>∃ i:Nat,i≤m∧q=.int .i64 (i:Int)∧Hid (wr2.ownsRow w.heap.size 5 1 bv (M+4*i) ((P++nB (r.take i)).map eB)∧wr2.ownsRow wr.heap.size 3 1 (.slice ra m rc) m (r.map eI)∧Below w.heap.size w wr2)) (fun _ q _=>m-(intOf q).toNat)
   case atStart=>exact⟨0,Nat.zero_le _,rfl,HI⟩
   case round =>
    clear HI
    obtain⟨i,hi,rfl,hI⟩:=hrel
    obtain⟨oa,oc,rfl⟩:=owns_slice hI.out.1
    by_cases hlt2:i<m
    ·have hil:i<r.length:=by rw [HM.out];exact hlt2
     have hrw:=Rw.own (enc:=eI) (l:=r) (by rw [HM.out];exact hI.out.2.1)
     obtain⟨-,-,-,hrc⟩:=hrw.at
     obtain⟨rb,rof,rfl,hrl,hrcc⟩:=hrc (by omega)
     have y0:=hrcc i hil
     have hz:=HZ.out _ (List.getElem_mem hil)
     have hcs:=e4_cells hz
     have hsn:=nB_snoc r i hil
     obtain⟨z,hzz⟩:∃ z,r[i]=z:=⟨_,rfl⟩
     rw [hzz] at y0 hz hcs hsn
     have hap:(P++nB (r.take i)).map eB++[.int .u8 (z % 256),.int .u8 (z / 256 % 256),.int .u8 (z / 65536 % 256),.int .u8 (z / 16777216)]=(P++nB (r.take (i+1))).map eB:=by
      rw [hsn,← hcs,← List.append_assoc,List.map_append (l₁:=P++nB (r.take i))]
     have HAP:=Lib.hid hap
     obtain⟨hown,hro,hB⟩:=hI.out
     have HRO:=Lib.hid hro
     have hbs:=hB.size
     clear hI hrw hrc hrcc hzz hcs hsn hap hil hro
     go_wp2_with (at_builtin;go_loud (refine wpList_append_own _ rfl _ _ 23 rfl w.heap.size 5 ib (.int .u8 0) 1 1 Tryz.underlying23 ki kz0 kz1 kz2 rfl (by decide) _ (M+4*i) _ rfl (hown.alloc _) ⟨wr.heap.size,0,none⟩ 4 4 [.int .u8 (z % 256),.int .u8 (z / 256 % 256),.int .u8 (z / 65536 % 256),.int .u8 (z / 16777216)] rfl rfl (World.news_of_block (cs:=#[.int .u8 (z % 256),.int .u8 (z / 256 % 256),.int .u8 (z / 65536 % 256),.int .u8 (z / 16777216)]) (t:=5) (fr:=(0,0)) (heap_alloc_last wr _)) (by simp [Value.oneCell']) (by unfold maxLen;omega) (by omega) (by simp;omega) ?_;intro v' w5 hown6 hgrow6 _;have B2:=(hB.alloc hbs _).grown hgrow6 (by simp;omega) (own_base hown);have o2:=own_two (HRO.out.alloc _) (hown.alloc _) (by decide) hgrow6))
     go_roundw
     case rel=>exact⟨i+1,hlt2,by go_num,Lib.hid ⟨by rw [← HAP.out];exact hown6,o2,B2⟩⟩
     case measure=>simp [intOf];omega
    ·obtain rfl:i=m:=by omega
     have hto:r.take i=r:=List.take_of_length_le (by rw [HM.out];exact Nat.le_refl _)
     have h1:=hI.out
     rw [hto,← HS.out] at h1
     have HJ:=Lib.hid (And.intro h1.1 h1.2.2)
     have HL2:=Lib.hid (show (rwB (rs.take (j+1))).length=M+4*i by rw [HS.out,List.length_append,nB_len,HMM.out,HM.out])
     clear hI hto h1
     go_wp2
     go_roundw
     case rel=>exact⟨j+1,M+4*i,hlt,by go_num,Lib.hid ⟨HL2.out,HJ.out.1,HJ.out.2⟩⟩
     case measure=>simp [intOf];omega
  ·obtain rfl:j=n:=by omega
   have hto:rs.take j=rs:=List.take_of_length_le (by rw [HN.out.2,HN.out.1];exact Nat.le_refl _)
   have h1:=hI.out
   rw [hto,HL.out] at h1
   obtain⟨hM,hown,hB⟩:=h1
   subst hM
   have HR:=Lib.hid (And.intro (show Rw eB wr (.slice ba N bc) (rwB rs) from Rw.own (by rw [HL.out];exact hown)) hB)
   clear hI hto hown hB
   go_wp2
   go_ret
   exact⟨⟨_,_,rfl,HR.out.1⟩,HR.out.2⟩
end Go.Proofs.YtohkgdfkklfgmaaGreatDoor.L16
end
section
set_option maxHeartbeats 8000000
namespace Go.Proofs.YtohkgdfkklfgmaaGreatDoor.L16
set_option maxRecDepth 100000
open Go.RowKit L14 L15
open L13 (Ob)
attribute [local go_sem] Oper.semAt_some
structure OA (w:World) (vm vc vr:Value) (o:Ob):Prop where
 m:L10.DfAt w vm o.maps
 c:Rw eB w vc o.code
 r:L13.RoAt w vr o.rels
theorem OA.below {w w':World} {vm vc vr:Value} {o:Ob} (h:OA w vm vc vr o) (hb:Below w.heap.size w w'):OA w' vm vc vr o:=⟨h.m.below hb,h.c.below hb,h.r.below hb⟩
structure OS (o:Ob):Prop where
 m:o.maps.length≤100000
 c:o.code.length≤100000
 r:o.rels.length≤100000
 z:∀ d∈o.maps,d.nm.size≤maxLen
abbrev Tb (w:World):Prop:=L1.Wid w∧L2.Regs w
theorem tb_below {w w':World} (h:Tb w) (hb:Below w.heap.size w w'):Tb w':=⟨L4.wid_below h.1 hb,h.2.below hb⟩
theorem fe_mem:∀ (l:List Int) (k:Nat),(L10.feF k l).2=0∨(L10.feF k l).2∈l
 | [],_=>.inl rfl
 | e::r,k=>by
  rw [L10.feF]
  split
  ·rcases fe_mem r (k+1) with h|h
   ·exact .inl h
   ·exact .inr (List.mem_cons_of_mem _ h)
  ·exact .inr (List.mem_cons_self ..)
theorem mE_ne (l:List L9.Df):mE l≠15:=by
 unfold mE L10.fe
 rcases fe_mem (l.map L10.deE) 0 with h|h
 ·rw [h];decide
 ·obtain⟨d,-,hd⟩:=List.mem_map.1 h
  rw [← hd]
  unfold L10.deE
  split
  ·split <;> decide
  ·decide
theorem chE_is (o:Ob):chE o=if (L10.brV ⟨o.maps,[]⟩).2.2≠15 then (L10.brV ⟨o.maps,[]⟩).2.2 else if o.code.length / 8=0∨o.code.length % 8≠0 then 17 else if 65535<o.code.length / 8 then 16
  else if rlF (-1) (o.code.length / 8) o.maps.length o.rels=true then 0 else 18:=by
 rw [brV_maps]
 unfold chE
 have h:=mE_ne o.maps
 by_cases h1:mE o.maps=0
 ·by_cases h2:255<o.maps.length
  ·simp [h1,h2]
  ·by_cases h3:L2.rp (o.maps.map (·.nm))=-1
   ·simp [h1,h2,h3]
   ·simp [h1,h2,h3]
 ·simp [h1,h]
theorem pcheck_at (vm:Value) (l:List L9.Df) (R:Int) (w:World) (hv:L10.DfAt w vm l) (hl:l.length≤100000) (hz:∀ d∈l,d.nm.size≤maxLen) (hT:Tb w) (hR:(L10.brV ⟨l,[]⟩).2.2=R) :
  Calls Tryz.prog 24 #[.agg #[vm,.slice none 0 0]] w fun e w'=>(∃ k:Nat,e=.returned (.tuple #[.int .i64 (k:Int),.int .i64 R]))∧Below w.heap.size w w':=by
 obtain⟨b,k,er,hbr⟩:∃ b k er,L10.brV ⟨l,[]⟩=(b,k,er):=⟨_,_,_,rfl⟩
 have hf:L10.Fits ⟨l,[]⟩:=⟨hl,by simp,by simp [L10.alL],hz,by simp,by simp⟩
 rw [hbr] at hR
 subst hR
 exact (L10.check_at vm (.slice none 0 0) ⟨l,[]⟩ w ⟨hv,.inr ⟨rfl,none,0,rfl⟩⟩ hf hT b k er hbr).mono fun e w' h=>⟨⟨k,h.1⟩,h.2⟩
theorem rl_step (la:Int) (s m:Nat) (l:List (Int × Int)) (j:Nat) (h:j<l.length):rlF la s m (l.drop j)=(decide (la<l[j].1) && decide (l[j].1<(s:Int)) && decide (0≤l[j].2) && decide (l[j].2<(m:Int)) && rlF l[j].1 s m (l.drop (j+1))):=by
 rw [List.drop_eq_getElem_cons h,rlF]
theorem ocheck_at (vm vc vr:Value) (o:Ob) (R:Int) (w:World) (ho:OA w vm vc vr o) (hs:OS o) (hT:Tb w) (hR:chE o=R) :
  Calls Tryz.prog 10 #[.agg #[vm,vc,vr]] w fun e w'=>e=.returned (.int .i64 R)∧Below w.heap.size w w':=by
 rw [chE_is] at hR
 obtain⟨n1,hn1⟩:∃ n,o.maps.length=n:=⟨_,rfl⟩
 obtain⟨n2,hn2⟩:∃ n,o.code.length=n:=⟨_,rfl⟩
 obtain⟨n3,hn3⟩:∃ n,o.rels.length=n:=⟨_,rfl⟩
 obtain⟨er,her⟩:∃ e,(L10.brV ⟨o.maps,[]⟩).2.2=e:=⟨_,rfl⟩
 have HC:=Lib.hid (fun (X:World) (hX:Below w.heap.size w X)=>pcheck_at vm o.maps er X (ho.m.below hX) hs.m hs.z (tb_below hT hX) her)
 have hb1:=hs.m
 have hb2:=hs.c
 have hb3:=hs.r
 rw [hn1] at hb1
 rw [hn2] at hb2
 rw [hn3] at hb3
 rw [hn1,hn2,her] at hR
 obtain⟨a1,c1,rfl,-⟩:=L10.df_form hn1 ho.m
 obtain⟨a2,c2,rfl,-⟩:=ho.c.form hn2
 obtain⟨a3,c3,rfl,hr⟩:=L13.ro_form hn3 ho.r
 have HR:=Lib.hid hr
 have HN:=Lib.hid hn3
 have K0:=Lib.hid (heap_alloc_last w (.cells #[.slice a1 n1 c1,.slice a2 n2 c2,.slice a3 n3 c3] 26))
 have HB:=Lib.hid (bnew w (.cells #[.slice a1 n1 c1,.slice a2 n2 c2,.slice a3 n3 c3] 26))
 clear ho hs hT hn1 hn2 hn3 her hr
 by_cases h0:er=15
 case neg =>
  rw [if_pos h0] at hR
  subst hR
  have h0':(er != 15)=true:=by simpa using h0
  go_enter Tryz.func10,Tryz.ntmps10
  go_wp2_with (go_at_call 24;((with_reducible refine (HC.out _ HB.out).mono ?_);rintro e w1 ⟨⟨k,rfl⟩,b1⟩))
  go_ret
  exact⟨rfl,bch HB.out b1⟩
 subst h0
 rw [if_neg (by simp)] at hR
 obtain⟨S,hS⟩:∃ S,n2 / 8=S:=⟨_,rfl⟩
 have e8:(n2:Int) / 8=(S:Int):=by omega
 rw [hS] at hR
 by_cases h1:S=0
 ·rw [if_pos (.inl h1)] at hR
  subst hR h1
  go_enter Tryz.func10,Tryz.ntmps10
  go_wp2_with (go_at_call 24;((with_reducible refine (HC.out _ HB.out).mono ?_);rintro e w1 ⟨⟨k,rfl⟩,b1⟩;obtain⟨x0,x1,x2⟩:=L13.cells3 (L8.row_up K0.out b1)))
  go_ret
  exact⟨rfl,bch HB.out b1⟩
 have h1':((S:Int)==0)=false:=by rw [beq_eq_false_iff_ne];omega
 by_cases h2:n2 % 8=0
 case neg =>
  rw [if_pos (.inr h2)] at hR
  subst hR
  have h2':((n2:Int) % 8 != 0)=true:=by rw [bne_iff_ne];omega
  go_enter Tryz.func10,Tryz.ntmps10
  go_wp2_with (go_at_call 24;((with_reducible refine (HC.out _ HB.out).mono ?_);rintro e w1 ⟨⟨k,rfl⟩,b1⟩;obtain⟨x0,x1,x2⟩:=L13.cells3 (L8.row_up K0.out b1)))
  go_ret
  exact⟨rfl,bch HB.out b1⟩
 have h2':((n2:Int) % 8 != 0)=false:=by rw [bne_eq_false_iff_eq];omega
 rw [if_neg (by omega),if_neg (by omega)] at hR
 have HS8:=Lib.hid (And.intro hS h2)
 have hS9:S≤20000:=by omega
 clear hS h2
 obtain⟨B,hB⟩:∃ B,rlF (-1) S n1 o.rels=B:=⟨_,rfl⟩
 rw [hB] at hR
 have HI:=Lib.hid (show rlF (-1) S n1 (o.rels.drop 0)=B by rw [List.drop_zero];exact hB)
 have HRR:=Lib.hid hR
 clear hB hR
 go_enter Tryz.func10,Tryz.ntmps10
 go_wp2_with (go_at_call 24;((with_reducible refine (HC.out _ HB.out).mono ?_);rintro e w1 ⟨⟨k,rfl⟩,b1⟩;have r1:=L8.row_up K0.out b1;have B1:=bch HB.out b1;obtain⟨x0,x1,x2⟩:=L13.cells3 r1))
 have HJ:=Lib.hid (And.intro r1 B1)
 clear r1 B1 b1 x0 x1 x2 HC
 go_loopw [6,37] (fun lv q wr=>∃ (j:Nat) (la:Int),j≤n3∧q=.int .i64 (j:Int)∧lv=.int .i64 la∧Hid (rlF la S n1 (o.rels.drop j)=B∧Below w1.heap.size w1 wr)) (fun _ q _=>n3-(intOf q).toNat)
 case atStart=>exact⟨0,-1,Nat.zero_le _,rfl,rfl,Lib.hid ⟨HI.out,Below.refl _ _⟩⟩
 case round =>
  obtain⟨j,la,hj,rfl,rfl,hI⟩:=hrel
  clear HI
  have hB:=bch HJ.out.2 hI.out.2
  obtain⟨x0,x1,x2⟩:=L13.cells3 (L8.row_up HJ.out.1 hI.out.2)
  have lx:=World.block_lt_of_cell? _ _ x0
  simp only at lx
  by_cases hlt:j<n3
  ·have hjl:j<o.rels.length:=by rw [HN.out];exact hlt
   obtain⟨bb,of,rfl,hbl,hcc⟩:=HR.out (by omega)
   obtain⟨q0,q1⟩:=hcc j hjl
   have y0:=(hB.cell (p:=⟨bb,of+j*2,none⟩) (by exact hbl)).trans q0
   have y1:=(hB.cell (p:=⟨bb,of+j*2+1,none⟩) (by exact hbl)).trans q1
   have hst:=rl_step la S n1 o.rels j hjl
   rw [hI.out.1] at hst
   obtain⟨s1,hs1⟩:∃ z,o.rels[j].1=z:=⟨_,rfl⟩
   obtain⟨s2,hs2⟩:∃ z,o.rels[j].2=z:=⟨_,rfl⟩
   rw [hs1] at y0 hst
   rw [hs2] at y1 hst
   have HST:=Lib.hid hst
   have HB1:=Lib.hid hI.out.2
   have HB0:=Lib.hid hB
   have hwl:=hB.size
   clear hcc q0 q1 hst hs1 hs2 hI hB
   have bad:¬ (la<s1∧s1<(S:Int)∧0≤s2∧s2<(n1:Int))→R=18:=fun h=>by
    have hf:B=false:=by
     rw [HST.out]
     by_cases a1:la<s1 <;> by_cases a2:s1<(S:Int) <;> by_cases a3:0≤s2 <;> by_cases a4:s2<(n1:Int) <;> simp [a1,a2,a3,a4] <;> omega
    have:=HRR.out
    rw [hf] at this
    rw [← this];rfl
   have HBAD:=Lib.hid bad
   clear bad
   by_cases a1:s1≤la
   ·obtain rfl:=HBAD.out (by omega)
    go_wp2
    go_ret
    exact⟨rfl,bch HB0.out (bnew _ _)⟩
   by_cases a2:(S:Int)≤s1
   ·obtain rfl:=HBAD.out (by omega)
    go_wp2
    go_ret
    exact⟨rfl,bch HB0.out (bnew _ _)⟩
   by_cases a3:s2<0
   ·obtain rfl:=HBAD.out (by omega)
    go_wp2
    go_ret
    exact⟨rfl,bch HB0.out (bnew _ _)⟩
   by_cases a4:(n1:Int)≤s2
   ·obtain rfl:=HBAD.out (by omega)
    go_wp2
    go_ret
    exact⟨rfl,bch HB0.out (bnew _ _)⟩
   have HN2:=Lib.hid (show rlF s1 S n1 (o.rels.drop (j+1))=B by
    rw [HST.out]
    simp [show la<s1 by omega,show s1<(S:Int) by omega,show 0≤s2 by omega,show s2<(n1:Int) by omega])
   clear HST HBAD
   go_wp2
   go_roundw
   case rel=>exact⟨j+1,s1,hlt,by go_num,rfl,Lib.hid ⟨HN2.out,bch HB1.out (bnew _ _)⟩⟩
   case measure=>simp [intOf];omega
  ·obtain rfl:j=n3:=by omega
   have hl:=hI.out.1
   rw [List.drop_of_length_le (by rw [HN.out];exact Nat.le_refl _)] at hl
   have hr0:R=0:=by
    have h1:=HRR.out
    rw [← hl] at h1
    rw [← h1];rfl
   subst hr0
   have HB0:=Lib.hid hB
   clear hI hB hl
   go_wp2
   go_ret
   exact⟨rfl,HB0.out⟩
end Go.Proofs.YtohkgdfkklfgmaaGreatDoor.L16
end
section
set_option maxHeartbeats 4000000
namespace Go.Proofs.YtohkgdfkklfgmaaGreatDoor.L16
set_option maxRecDepth 100000
open Go.RowKit L14 L15
attribute [local go_sem] Oper.semAt_some
theorem rowsD_at (v:Value) (l:List L9.Df) (rs:List (List Int)) (N:Nat) (w:World) (hv:L10.DfAt w v l) (hl:l.length≤100000) (hrs:rs.length=l.length) (hb:∀ r∈rs,r.length≤4∧∀ z∈r,0≤z∧z<4294967296) (hN:(rwB rs).length=N) (hN2:N≤2000000)
  (hK:∀ j (h:j<l.length) (W:World),Calls Tryz.prog 57 #[.int .i64 (j:Int),.agg #[.string l[j].nm,.int .i64 l[j].key,.int .i64 l[j].val,.int .i64 l[j].ent]] W (ClP (rs.getD j []) (rs.getD j []).length W)) :
  Calls Tryz.prog 56 #[v,.func (.func 57) #[] #[]] w (RwP rs N w):=by
 obtain⟨ib,ki,kz0,kz1,kz2⟩:=info_parts infoByte
 obtain⟨n,hn⟩:∃ n,l.length=n:=⟨_,rfl⟩
 obtain⟨a,c,rfl,hc⟩:=L10.df_form4 hn hv
 have HK:=Lib.hid hK
 have HC:=Lib.hid hc
 have HN:=Lib.hid (And.intro hn hrs)
 have HB:=Lib.hid hb
 have HT:=Lib.hid (fun j (h:j<rs.length)=>show (rwB (rs.take (j+1))).length≤N by
  have e:rwB rs=rwB (rs.take (j+1))++rwB (rs.drop (j+1)):=by rw [← rwB_app,List.take_append_drop]
  rw [← hN,e,List.length_append];omega)
 have HL:=Lib.hid hN
 rw [hn] at hl
 clear hK hc hn hrs hb hv hN
 go_enter Tryz.func56,Tryz.ntmps56
 go_wp2
 go_loopw [5,12] (fun bv q wr=>∃ (j M:Nat),j≤n∧q=.int .i64 (j:Int)∧Hid ((rwB (rs.take j)).length=M∧wr.ownsRow w.heap.size 5 1 bv M ((rwB (rs.take j)).map eB)∧Below w.heap.size w wr)) (fun _ q _=>n-(intOf q).toNat)
 case atStart=>exact⟨0,0,Nat.zero_le _,rfl,Lib.hid ⟨rfl,World.ownsRow_nil _ _ _ _,Below.refl _ _⟩⟩
 case round =>
  obtain⟨j,M,hj,rfl,hI⟩:=hrel
  obtain⟨ba,bc,rfl⟩:=owns_slice hI.out.2.1
  by_cases hlt:j<n
  ·have hjl:j<l.length:=by rw [HN.out.1];exact hlt
   have hjr:j<rs.length:=by rw [HN.out.2];exact hjl
   obtain⟨bb,o,rfl,hbl,hcc⟩:=HC.out (by omega)
   obtain⟨q0,q1,q2,q3⟩:=hcc j hjl
   have x0:=(hI.out.2.2.cell (p:=⟨bb,o+j*4,none⟩) (by exact hbl)).trans q0
   have x1:=(hI.out.2.2.cell (p:=⟨bb,o+j*4+1,none⟩) (by exact hbl)).trans q1
   have x2:=(hI.out.2.2.cell (p:=⟨bb,o+j*4+2,none⟩) (by exact hbl)).trans q2
   have x3:=(hI.out.2.2.cell (p:=⟨bb,o+j*4+3,none⟩) (by exact hbl)).trans q3
   clear q0 q1 q2 q3
   have hk:=HK.out j hjl
   have hg:rs.getD j []=rs[j]:=by simp [List.getD,hjr]
   rw [hg] at hk
   have hs:=rwB_snoc rs j hjr
   have hle:=HT.out j hjr
   rw [hs,List.length_append,nB_len] at hle
   obtain⟨hr4,hrz⟩:=HB.out _ (List.getElem_mem hjr)
   obtain⟨r,hr⟩:∃ r,rs[j]=r:=⟨_,rfl⟩
   obtain⟨m,hm⟩:∃ m,r.length=m:=⟨_,rfl⟩
   rw [hr] at hk hs hle hr4 hrz
   rw [hm] at hk hle hr4
   obtain⟨lj,hlj⟩:∃ d,l[j]=d:=⟨_,rfl⟩
   rw [hlj] at x0 x1 x2 x3 hk
   clear hlj
   have HS:=Lib.hid hs
   have HZ:=Lib.hid hrz
   have HM:=Lib.hid hm
   obtain⟨hM,hown,hB⟩:=hI.out
   rw [hM] at hle
   have HO:=Lib.hid (And.intro hown hB)
   have HKK:=Lib.hid hk
   have hsz:=hB.size
   obtain⟨P,hP⟩:∃ P,rwB (rs.take j)=P:=⟨_,rfl⟩
   rw [hP] at hM HO HS
   have HMM:=Lib.hid hM
   clear hI hcc hk hg hs hrz hr hm hM hown hB hP
   go_wp2_with (go_at_call 57;((with_reducible refine (HKK.out _).mono ?_);rintro e w1 ⟨⟨ra,rc,rfl,ro⟩,b1⟩))
   have HI:Hid (w1.ownsRow w.heap.size 5 1 (.slice ba M bc) (M+4*0) ((P++nB (r.take 0)).map eB)∧w1.ownsRow (wr.heap.size+1) 3 1 (.slice ra m rc) m (r.map eI)∧Below w.heap.size w w1):=Lib.hid ⟨by simpa [nB] using own_below HO.out.1 (bch (bnew wr _) b1),by simpa using ro,bch HO.out.2 (bch (bnew wr _) b1)⟩
   clear ro b1 HKK x0 x1 x2 x3 HO
   go_loopw [5,22] (fun bv q wr2=>∃ i:Nat,i≤m∧q=.int .i64 (i:Int)∧Hid (wr2.ownsRow w.heap.size 5 1 bv (M+4*i) ((P++nB (r.take i)).map eB)∧wr2.ownsRow (wr.heap.size+1) 3 1 (.slice ra m rc) m (r.map eI)∧Below w.heap.size w wr2)) (fun _ q _=>m-(intOf q).toNat)
   case atStart=>exact⟨0,Nat.zero_le _,rfl,HI⟩
   case round =>
    clear HI
    obtain⟨i,hi,rfl,hI⟩:=hrel
    obtain⟨oa,oc,rfl⟩:=owns_slice hI.out.1
    by_cases hlt2:i<m
    ·have hil:i<r.length:=by rw [HM.out];exact hlt2
     have hrw:=Rw.own (enc:=eI) (l:=r) (by rw [HM.out];exact hI.out.2.1)
     obtain⟨-,-,-,hrc⟩:=hrw.at
     obtain⟨rb,rof,rfl,hrl,hrcc⟩:=hrc (by omega)
     have y0:=hrcc i hil
     have hz:=HZ.out _ (List.getElem_mem hil)
     have hcs:=e4_cells hz
     have hsn:=nB_snoc r i hil
     obtain⟨z,hzz⟩:∃ z,r[i]=z:=⟨_,rfl⟩
     rw [hzz] at y0 hz hcs hsn
     have hap:(P++nB (r.take i)).map eB++[.int .u8 (z % 256),.int .u8 (z / 256 % 256),.int .u8 (z / 65536 % 256),.int .u8 (z / 16777216)]=(P++nB (r.take (i+1))).map eB:=by
      rw [hsn,← hcs,← List.append_assoc,List.map_append (l₁:=P++nB (r.take i))]
     have HAP:=Lib.hid hap
     obtain⟨hown,hro,hB⟩:=hI.out
     have HRO:=Lib.hid hro
     have hbs:=hB.size
     clear hI hrw hrc hrcc hzz hcs hsn hap hil hro
     go_wp2_with (at_builtin;go_loud (refine wpList_append_own _ rfl _ _ 23 rfl w.heap.size 5 ib (.int .u8 0) 1 1 Tryz.underlying23 ki kz0 kz1 kz2 rfl (by decide) _ (M+4*i) _ rfl (hown.alloc _) ⟨wr.heap.size,0,none⟩ 4 4 [.int .u8 (z % 256),.int .u8 (z / 256 % 256),.int .u8 (z / 65536 % 256),.int .u8 (z / 16777216)] rfl rfl (World.news_of_block (cs:=#[.int .u8 (z % 256),.int .u8 (z / 256 % 256),.int .u8 (z / 65536 % 256),.int .u8 (z / 16777216)]) (t:=5) (fr:=(0,0)) (heap_alloc_last wr _)) (by simp [Value.oneCell']) (by unfold maxLen;omega) (by omega) (by simp;omega) ?_;intro v' w5 hown6 hgrow6 _;have B2:=(hB.alloc hbs _).grown hgrow6 (by simp;omega) (own_base hown);have o2:=own_two (HRO.out.alloc _) (hown.alloc _) (by decide) hgrow6))
     go_roundw
     case rel=>exact⟨i+1,hlt2,by go_num,Lib.hid ⟨by rw [← HAP.out];exact hown6,o2,B2⟩⟩
     case measure=>simp [intOf];omega
    ·obtain rfl:i=m:=by omega
     have hto:r.take i=r:=List.take_of_length_le (by rw [HM.out];exact Nat.le_refl _)
     have h1:=hI.out
     rw [hto,← HS.out] at h1
     have HJ:=Lib.hid (And.intro h1.1 h1.2.2)
     have HL2:=Lib.hid (show (rwB (rs.take (j+1))).length=M+4*i by rw [HS.out,List.length_append,nB_len,HMM.out,HM.out])
     clear hI hto h1
     go_wp2
     go_roundw
     case rel=>exact⟨j+1,M+4*i,hlt,by go_num,Lib.hid ⟨HL2.out,HJ.out.1,HJ.out.2⟩⟩
     case measure=>simp [intOf];omega
  ·obtain rfl:j=n:=by omega
   have hto:rs.take j=rs:=List.take_of_length_le (by rw [HN.out.2,HN.out.1];exact Nat.le_refl _)
   have h1:=hI.out
   rw [hto,HL.out] at h1
   obtain⟨hM,hown,hB⟩:=h1
   subst hM
   have HR:=Lib.hid (And.intro (show Rw eB wr (.slice ba N bc) (rwB rs) from Rw.own (by rw [HL.out];exact hown)) hB)
   clear hI hto hown hB
   go_wp2
   go_ret
   exact⟨⟨_,_,rfl,HR.out.1⟩,HR.out.2⟩
theorem rowsR_at (v:Value) (l:List (Int × Int)) (rs:List (List Int)) (N:Nat) (w:World) (hv:L13.RoAt w v l) (hl:l.length≤100000) (hrs:rs.length=l.length) (hb:∀ r∈rs,r.length≤4∧∀ z∈r,0≤z∧z<4294967296) (hN:(rwB rs).length=N) (hN2:N≤2000000)
  (hK:∀ j (h:j<l.length) (W:World),Calls Tryz.prog 61 #[.int .i64 (j:Int),.agg #[.int .i64 l[j].1,.int .i64 l[j].2]] W (ClP (rs.getD j []) (rs.getD j []).length W)) :
  Calls Tryz.prog 60 #[v,.func (.func 61) #[] #[]] w (RwP rs N w):=by
 obtain⟨ib,ki,kz0,kz1,kz2⟩:=info_parts infoByte
 obtain⟨n,hn⟩:∃ n,l.length=n:=⟨_,rfl⟩
 obtain⟨a,c,rfl,hc⟩:=L13.ro_form hn hv
 have HK:=Lib.hid hK
 have HC:=Lib.hid hc
 have HN:=Lib.hid (And.intro hn hrs)
 have HB:=Lib.hid hb
 have HT:=Lib.hid (fun j (h:j<rs.length)=>show (rwB (rs.take (j+1))).length≤N by
  have e:rwB rs=rwB (rs.take (j+1))++rwB (rs.drop (j+1)):=by rw [← rwB_app,List.take_append_drop]
  rw [← hN,e,List.length_append];omega)
 have HL:=Lib.hid hN
 rw [hn] at hl
 clear hK hc hn hrs hb hv hN
 go_enter Tryz.func60,Tryz.ntmps60
 go_wp2
 go_loopw [5,12] (fun bv q wr=>∃ (j M:Nat),j≤n∧q=.int .i64 (j:Int)∧Hid ((rwB (rs.take j)).length=M∧wr.ownsRow w.heap.size 5 1 bv M ((rwB (rs.take j)).map eB)∧Below w.heap.size w wr)) (fun _ q _=>n-(intOf q).toNat)
 case atStart=>exact⟨0,0,Nat.zero_le _,rfl,Lib.hid ⟨rfl,World.ownsRow_nil _ _ _ _,Below.refl _ _⟩⟩
 case round =>
  obtain⟨j,M,hj,rfl,hI⟩:=hrel
  obtain⟨ba,bc,rfl⟩:=owns_slice hI.out.2.1
  by_cases hlt:j<n
  ·have hjl:j<l.length:=by rw [HN.out.1];exact hlt
   have hjr:j<rs.length:=by rw [HN.out.2];exact hjl
   obtain⟨bb,o,rfl,hbl,hcc⟩:=HC.out (by omega)
   obtain⟨q0,q1⟩:=hcc j hjl
   have x0:=(hI.out.2.2.cell (p:=⟨bb,o+j*2,none⟩) (by exact hbl)).trans q0
   have x1:=(hI.out.2.2.cell (p:=⟨bb,o+j*2+1,none⟩) (by exact hbl)).trans q1
   clear q0 q1
   have hk:=HK.out j hjl
   have hg:rs.getD j []=rs[j]:=by simp [List.getD,hjr]
   rw [hg] at hk
   have hs:=rwB_snoc rs j hjr
   have hle:=HT.out j hjr
   rw [hs,List.length_append,nB_len] at hle
   obtain⟨hr4,hrz⟩:=HB.out _ (List.getElem_mem hjr)
   obtain⟨r,hr⟩:∃ r,rs[j]=r:=⟨_,rfl⟩
   obtain⟨m,hm⟩:∃ m,r.length=m:=⟨_,rfl⟩
   rw [hr] at hk hs hle hr4 hrz
   rw [hm] at hk hle hr4
   obtain⟨lj,hlj⟩:∃ d,l[j]=d:=⟨_,rfl⟩
   rw [hlj] at x0 x1 hk
   clear hlj
   have HS:=Lib.hid hs
   have HZ:=Lib.hid hrz
   have HM:=Lib.hid hm
   obtain⟨hM,hown,hB⟩:=hI.out
   rw [hM] at hle
   have HO:=Lib.hid (And.intro hown hB)
   have HKK:=Lib.hid hk
   have hsz:=hB.size
   obtain⟨P,hP⟩:∃ P,rwB (rs.take j)=P:=⟨_,rfl⟩
   rw [hP] at hM HO HS
   have HMM:=Lib.hid hM
   clear hI hcc hk hg hs hrz hr hm hM hown hB hP
   go_wp2_with (go_at_call 61;((with_reducible refine (HKK.out _).mono ?_);rintro e w1 ⟨⟨ra,rc,rfl,ro⟩,b1⟩))
   have HI:Hid (w1.ownsRow w.heap.size 5 1 (.slice ba M bc) (M+4*0) ((P++nB (r.take 0)).map eB)∧w1.ownsRow (wr.heap.size+1) 3 1 (.slice ra m rc) m (r.map eI)∧Below w.heap.size w w1):=Lib.hid ⟨by simpa [nB] using own_below HO.out.1 (bch (bnew wr _) b1),by simpa using ro,bch HO.out.2 (bch (bnew wr _) b1)⟩
   clear ro b1 HKK x0 x1 HO
   go_loopw [5,22] (fun bv q wr2=>∃ i:Nat,i≤m∧q=.int .i64 (i:Int)∧Hid (wr2.ownsRow w.heap.size 5 1 bv (M+4*i) ((P++nB (r.take i)).map eB)∧wr2.ownsRow (wr.heap.size+1) 3 1 (.slice ra m rc) m (r.map eI)∧Below w.heap.size w wr2)) (fun _ q _=>m-(intOf q).toNat)
   case atStart=>exact⟨0,Nat.zero_le _,rfl,HI⟩
   case round =>
    clear HI
    obtain⟨i,hi,rfl,hI⟩:=hrel
    obtain⟨oa,oc,rfl⟩:=owns_slice hI.out.1
    by_cases hlt2:i<m
    ·have hil:i<r.length:=by rw [HM.out];exact hlt2
     have hrw:=Rw.own (enc:=eI) (l:=r) (by rw [HM.out];exact hI.out.2.1)
     obtain⟨-,-,-,hrc⟩:=hrw.at
     obtain⟨rb,rof,rfl,hrl,hrcc⟩:=hrc (by omega)
     have y0:=hrcc i hil
     have hz:=HZ.out _ (List.getElem_mem hil)
     have hcs:=e4_cells hz
     have hsn:=nB_snoc r i hil
     obtain⟨z,hzz⟩:∃ z,r[i]=z:=⟨_,rfl⟩
     rw [hzz] at y0 hz hcs hsn
     have hap:(P++nB (r.take i)).map eB++[.int .u8 (z % 256),.int .u8 (z / 256 % 256),.int .u8 (z / 65536 % 256),.int .u8 (z / 16777216)]=(P++nB (r.take (i+1))).map eB:=by
      rw [hsn,← hcs,← List.append_assoc,List.map_append (l₁:=P++nB (r.take i))]
     have HAP:=Lib.hid hap
     obtain⟨hown,hro,hB⟩:=hI.out
     have HRO:=Lib.hid hro
     have hbs:=hB.size
     clear hI hrw hrc hrcc hzz hcs hsn hap hil hro
     go_wp2_with (at_builtin;go_loud (refine wpList_append_own _ rfl _ _ 23 rfl w.heap.size 5 ib (.int .u8 0) 1 1 Tryz.underlying23 ki kz0 kz1 kz2 rfl (by decide) _ (M+4*i) _ rfl (hown.alloc _) ⟨wr.heap.size,0,none⟩ 4 4 [.int .u8 (z % 256),.int .u8 (z / 256 % 256),.int .u8 (z / 65536 % 256),.int .u8 (z / 16777216)] rfl rfl (World.news_of_block (cs:=#[.int .u8 (z % 256),.int .u8 (z / 256 % 256),.int .u8 (z / 65536 % 256),.int .u8 (z / 16777216)]) (t:=5) (fr:=(0,0)) (heap_alloc_last wr _)) (by simp [Value.oneCell']) (by unfold maxLen;omega) (by omega) (by simp;omega) ?_;intro v' w5 hown6 hgrow6 _;have B2:=(hB.alloc hbs _).grown hgrow6 (by simp;omega) (own_base hown);have o2:=own_two (HRO.out.alloc _) (hown.alloc _) (by decide) hgrow6))
     go_roundw
     case rel=>exact⟨i+1,hlt2,by go_num,Lib.hid ⟨by rw [← HAP.out];exact hown6,o2,B2⟩⟩
     case measure=>simp [intOf];omega
    ·obtain rfl:i=m:=by omega
     have hto:r.take i=r:=List.take_of_length_le (by rw [HM.out];exact Nat.le_refl _)
     have h1:=hI.out
     rw [hto,← HS.out] at h1
     have HJ:=Lib.hid (And.intro h1.1 h1.2.2)
     have HL2:=Lib.hid (show (rwB (rs.take (j+1))).length=M+4*i by rw [HS.out,List.length_append,nB_len,HMM.out,HM.out])
     clear hI hto h1
     go_wp2
     go_roundw
     case rel=>exact⟨j+1,M+4*i,hlt,by go_num,Lib.hid ⟨HL2.out,HJ.out.1,HJ.out.2⟩⟩
     case measure=>simp [intOf];omega
  ·obtain rfl:j=n:=by omega
   have hto:rs.take j=rs:=List.take_of_length_le (by rw [HN.out.2,HN.out.1];exact Nat.le_refl _)
   have h1:=hI.out
   rw [hto,HL.out] at h1
   obtain⟨hM,hown,hB⟩:=h1
   subst hM
   have HR:=Lib.hid (And.intro (show Rw eB wr (.slice ba N bc) (rwB rs) from Rw.own (by rw [HL.out];exact hown)) hB)
   clear hI hto hown hB
   go_wp2
   go_ret
   exact⟨⟨_,_,rfl,HR.out.1⟩,HR.out.2⟩
end Go.Proofs.YtohkgdfkklfgmaaGreatDoor.L16
end
