/- Lemmas and walks of L16Rd, L16Se, L16Pk, L16Law: what each theorem states; conditions stand in each theorem. -/
import Derived.Test.YtihiggnglmhggaaGreatDoorL16Ck
import Derived.Test.YtihiggnglmhggaaGreatDoorM29
import Derived.Test.YtihiggnglmhggaaGreatDoorRows
import Derived.LaidMore
import Derived.Stop.Joined
import Derived.Stop.LaidErr
import Derived.Lay
import Derived.Shelf.Vars
set_option maxHeartbeats 8000000
set_option maxRecDepth 100000
section
namespace Go.Proofs.YtihiggnglmhggaaGreatDoor.L16
open Go.RowKit L14 L15
attribute [local go_sem] Oper.semAt_some
theorem rowsD_at (v:Value) (l:List L9.Df) (rs:List (List Int)) (N:Nat) (w:World) (hv:L10.DfAt w v l) (hl:l.length≤100000) (hrs:rs.length=l.length) (hb:∀ r∈rs,r.length≤4∧∀ z∈r,0≤z∧z<4294967296) (hN:(rwB rs).length=N) (hN2:N≤2000000)
  (hK:∀ j (h:j<l.length) (W:World),Calls Tryz.prog 156 #[.int .i64 (j:Int),.agg #[.string l[j].nm,.int .i64 l[j].key,.int .i64 l[j].val,.int .i64 l[j].ent]] W (ClP (rs.getD j []) (rs.getD j []).length W)) :
  Calls Tryz.prog 155 #[v,.func (.func 156) #[] #[]] w (RwP rs N w):=by
 obtain⟨ib,ki,kz0,kz1,kz2⟩:=info_parts infoByte
 obtain⟨n,hn⟩:∃ n,l.length=n:=⟨_,rfl⟩
 obtain⟨a,c,rfl,hc⟩:=L10.df_form4 hn hv
 have HK:=Lib.hid hK
 have HC:=Lib.hid hc
 have HN:=Lib.hid (And.intro hn hrs)
 have HB:=Lib.hid hb
 have HT:=Lib.hid (fun j (h:j<rs.length)=>show (rwB (rs.take (j+1))).length≤N by
  have e:rwB rs=rwB (rs.take (j+1))++rwB (rs.drop (j+1)):=by rw [← rwB_app,List.take_append_drop]
  rw [← hN,e,List.length_append];omega)
 have HL:=Lib.hid hN
 rw [hn] at hl
 clear hK hc hn hrs hb hv hN
 go_enter Tryz.func155,Tryz.ntmps155
 go_wp2
 go_loopw [5,12] (fun bv q wr=>∃ (j M:Nat),j≤n∧q=.int .i64 (j:Int)∧Hid ((rwB (rs.take j)).length=M∧wr.ownsRow w.heap.size 5 1 bv M ((rwB (rs.take j)).map eB)∧Below w.heap.size w wr)) (fun _ q _=>n-(intOf q).toNat)
 case atStart=>exact⟨0,0,Nat.zero_le _,rfl,Lib.hid ⟨rfl,World.ownsRow_nil _ _ _ _,Below.refl _ _⟩⟩
 case round =>
  obtain⟨j,M,hj,rfl,hI⟩:=hrel
  obtain⟨ba,bc,rfl⟩:=owns_slice hI.out.2.1
  by_cases hlt:j<n
  ·have hjl:j<l.length:=by rw [HN.out.1];exact hlt
   have hjr:j<rs.length:=by rw [HN.out.2];exact hjl
   obtain⟨bb,o,rfl,hbl,hcc⟩:=HC.out (by omega)
   obtain⟨q0,q1,q2,q3⟩:=hcc j hjl
   have x0:=(hI.out.2.2.cell (p:=⟨bb,o+j*4,none⟩) (by exact hbl)).trans q0
   have x1:=(hI.out.2.2.cell (p:=⟨bb,o+j*4+1,none⟩) (by exact hbl)).trans q1
   have x2:=(hI.out.2.2.cell (p:=⟨bb,o+j*4+2,none⟩) (by exact hbl)).trans q2
   have x3:=(hI.out.2.2.cell (p:=⟨bb,o+j*4+3,none⟩) (by exact hbl)).trans q3
   clear q0 q1 q2 q3
   have hk:=HK.out j hjl
   have hg:rs.getD j []=rs[j]:=by simp [List.getD,hjr]
   rw [hg] at hk
   have hs:=rwB_snoc rs j hjr
   have hle:=HT.out j hjr
   rw [hs,List.length_append,nB_len] at hle
   obtain⟨hr4,hrz⟩:=HB.out _ (List.getElem_mem hjr)
   obtain⟨r,hr⟩:∃ r,rs[j]=r:=⟨_,rfl⟩
   obtain⟨m,hm⟩:∃ m,r.length=m:=⟨_,rfl⟩
   rw [hr] at hk hs hle hr4 hrz
   rw [hm] at hk hle hr4
   obtain⟨lj,hlj⟩:∃ d,l[j]=d:=⟨_,rfl⟩
   rw [hlj] at x0 x1 x2 x3 hk
   clear hlj
   have HS:=Lib.hid hs
   have HZ:=Lib.hid hrz
   have HM:=Lib.hid hm
   obtain⟨hM,hown,hB⟩:=hI.out
   rw [hM] at hle
   have HO:=Lib.hid (And.intro hown hB)
   have HKK:=Lib.hid hk
   have hsz:=hB.size
   obtain⟨P,hP⟩:∃ P,rwB (rs.take j)=P:=⟨_,rfl⟩
   rw [hP] at hM HO HS
   have HMM:=Lib.hid hM
   clear hI hcc hk hg hs hrz hr hm hM hown hB hP
   go_wp2_with (go_at_call 156;((with_reducible refine (HKK.out _).mono ?_);rintro e w1 ⟨⟨ra,rc,rfl,ro⟩,b1⟩))
   have HI:Hid (w1.ownsRow w.heap.size 5 1 (.slice ba M bc) (M+4*0) ((P++nB (r.take 0)).map eB)∧w1.ownsRow (wr.heap.size+1) 3 1 (.slice ra m rc) m (r.map eI)∧Below w.heap.size w w1):=Lib.hid ⟨by simpa [nB] using own_below HO.out.1 (bch (bnew wr _) b1),by simpa using ro,bch HO.out.2 (bch (bnew wr _) b1)⟩
   clear ro b1 HKK x0 x1 x2 x3 HO
   go_loopw [5,22] (fun bv q wr2=>∃ i:Nat,i≤m∧q=.int .i64 (i:Int)∧Hid (wr2.ownsRow w.heap.size 5 1 bv (M+4*i) ((P++nB (r.take i)).map eB)∧wr2.ownsRow (wr.heap.size+1) 3 1 (.slice ra m rc) m (r.map eI)∧Below w.heap.size w wr2)) (fun _ q _=>m-(intOf q).toNat)
   case atStart=>exact⟨0,Nat.zero_le _,rfl,HI⟩
   case round =>
    clear HI
    obtain⟨i,hi,rfl,hI⟩:=hrel
    obtain⟨oa,oc,rfl⟩:=owns_slice hI.out.1
    by_cases hlt2:i<m
    ·have hil:i<r.length:=by rw [HM.out];exact hlt2
     have hrw:=Rw.own (enc:=eI) (l:=r) (by rw [HM.out];exact hI.out.2.1)
     obtain⟨-,-,-,hrc⟩:=hrw.at
     obtain⟨rb,rof,rfl,hrl,hrcc⟩:=hrc (by omega)
     have y0:=hrcc i hil
     have hz:=HZ.out _ (List.getElem_mem hil)
     have hcs:=e4_cells hz
     have hsn:=nB_snoc r i hil
     obtain⟨z,hzz⟩:∃ z,r[i]=z:=⟨_,rfl⟩
     rw [hzz] at y0 hz hcs hsn
     have hap:(P++nB (r.take i)).map eB++[.int .u8 (z % 256),.int .u8 (z / 256 % 256),.int .u8 (z / 65536 % 256),.int .u8 (z / 16777216)]=(P++nB (r.take (i+1))).map eB:=by
      rw [hsn,← hcs,← List.append_assoc,List.map_append (l₁:=P++nB (r.take i))]
     have HAP:=Lib.hid hap
     obtain⟨hown,hro,hB⟩:=hI.out
     have HRO:=Lib.hid hro
     have hbs:=hB.size
     clear hI hrw hrc hrcc hzz hcs hsn hap hil hro
     go_wp2_with (at_builtin;go_loud (refine wpList_append_own _ rfl _ _ 23 rfl w.heap.size 5 ib (.int .u8 0) 1 1 Tryz.underlying23 ki kz0 kz1 kz2 rfl (by decide) _ (M+4*i) _ rfl (hown.alloc _) ⟨wr.heap.size,0,none⟩ 4 4 [.int .u8 (z % 256),.int .u8 (z / 256 % 256),.int .u8 (z / 65536 % 256),.int .u8 (z / 16777216)] rfl rfl (World.news_of_block (cs:=#[.int .u8 (z % 256),.int .u8 (z / 256 % 256),.int .u8 (z / 65536 % 256),.int .u8 (z / 16777216)]) (t:=5) (fr:=(0,0)) (heap_alloc_last wr _)) (by simp [Value.oneCell']) (by unfold maxLen;omega) (by omega) (by simp;omega) ?_;intro v' w5 hown6 hgrow6 _;have B2:=(hB.alloc hbs _).grown hgrow6 (by simp;omega) (own_base hown);have o2:=own_two (HRO.out.alloc _) (hown.alloc _) (by decide) hgrow6))
     go_roundw
     case rel=>exact⟨i+1,hlt2,by go_num,Lib.hid ⟨by rw [← HAP.out];exact hown6,o2,B2⟩⟩
     case measure=>simp [intOf];omega
    ·obtain rfl:i=m:=by omega
     have hto:r.take i=r:=List.take_of_length_le (by rw [HM.out];exact Nat.le_refl _)
     have h1:=hI.out
     rw [hto,← HS.out] at h1
     have HJ:=Lib.hid (And.intro h1.1 h1.2.2)
     have HL2:=Lib.hid (show (rwB (rs.take (j+1))).length=M+4*i by rw [HS.out,List.length_append,nB_len,HMM.out,HM.out])
     clear hI hto h1
     go_wp2
     go_roundw
     case rel=>exact⟨j+1,M+4*i,hlt,by go_num,Lib.hid ⟨HL2.out,HJ.out.1,HJ.out.2⟩⟩
     case measure=>simp [intOf];omega
  ·obtain rfl:j=n:=by omega
   have hto:rs.take j=rs:=List.take_of_length_le (by rw [HN.out.2,HN.out.1];exact Nat.le_refl _)
   have h1:=hI.out
   rw [hto,HL.out] at h1
   obtain⟨hM,hown,hB⟩:=h1
   subst hM
   have HR:=Lib.hid (And.intro (show Rw eB wr (.slice ba N bc) (rwB rs) from Rw.own (by rw [HL.out];exact hown)) hB)
   clear hI hto hown hB
   go_wp2
   go_ret
   exact⟨⟨_,_,rfl,HR.out.1⟩,HR.out.2⟩
theorem rowsR_at (v:Value) (l:List (Int × Int)) (rs:List (List Int)) (N:Nat) (w:World) (hv:L13.RoAt w v l) (hl:l.length≤100000) (hrs:rs.length=l.length) (hb:∀ r∈rs,r.length≤4∧∀ z∈r,0≤z∧z<4294967296) (hN:(rwB rs).length=N) (hN2:N≤2000000)
  (hK:∀ j (h:j<l.length) (W:World),Calls Tryz.prog 160 #[.int .i64 (j:Int),.agg #[.int .i64 l[j].1,.int .i64 l[j].2]] W (ClP (rs.getD j []) (rs.getD j []).length W)) :
  Calls Tryz.prog 159 #[v,.func (.func 160) #[] #[]] w (RwP rs N w):=by
 obtain⟨ib,ki,kz0,kz1,kz2⟩:=info_parts infoByte
 obtain⟨n,hn⟩:∃ n,l.length=n:=⟨_,rfl⟩
 obtain⟨a,c,rfl,hc⟩:=L13.ro_form hn hv
 have HK:=Lib.hid hK
 have HC:=Lib.hid hc
 have HN:=Lib.hid (And.intro hn hrs)
 have HB:=Lib.hid hb
 have HT:=Lib.hid (fun j (h:j<rs.length)=>show (rwB (rs.take (j+1))).length≤N by
  have e:rwB rs=rwB (rs.take (j+1))++rwB (rs.drop (j+1)):=by rw [← rwB_app,List.take_append_drop]
  rw [← hN,e,List.length_append];omega)
 have HL:=Lib.hid hN
 rw [hn] at hl
 clear hK hc hn hrs hb hv hN
 go_enter Tryz.func159,Tryz.ntmps159
 go_wp2
 go_loopw [5,12] (fun bv q wr=>∃ (j M:Nat),j≤n∧q=.int .i64 (j:Int)∧Hid ((rwB (rs.take j)).length=M∧wr.ownsRow w.heap.size 5 1 bv M ((rwB (rs.take j)).map eB)∧Below w.heap.size w wr)) (fun _ q _=>n-(intOf q).toNat)
 case atStart=>exact⟨0,0,Nat.zero_le _,rfl,Lib.hid ⟨rfl,World.ownsRow_nil _ _ _ _,Below.refl _ _⟩⟩
 case round =>
  obtain⟨j,M,hj,rfl,hI⟩:=hrel
  obtain⟨ba,bc,rfl⟩:=owns_slice hI.out.2.1
  by_cases hlt:j<n
  ·have hjl:j<l.length:=by rw [HN.out.1];exact hlt
   have hjr:j<rs.length:=by rw [HN.out.2];exact hjl
   obtain⟨bb,o,rfl,hbl,hcc⟩:=HC.out (by omega)
   obtain⟨q0,q1⟩:=hcc j hjl
   have x0:=(hI.out.2.2.cell (p:=⟨bb,o+j*2,none⟩) (by exact hbl)).trans q0
   have x1:=(hI.out.2.2.cell (p:=⟨bb,o+j*2+1,none⟩) (by exact hbl)).trans q1
   clear q0 q1
   have hk:=HK.out j hjl
   have hg:rs.getD j []=rs[j]:=by simp [List.getD,hjr]
   rw [hg] at hk
   have hs:=rwB_snoc rs j hjr
   have hle:=HT.out j hjr
   rw [hs,List.length_append,nB_len] at hle
   obtain⟨hr4,hrz⟩:=HB.out _ (List.getElem_mem hjr)
   obtain⟨r,hr⟩:∃ r,rs[j]=r:=⟨_,rfl⟩
   obtain⟨m,hm⟩:∃ m,r.length=m:=⟨_,rfl⟩
   rw [hr] at hk hs hle hr4 hrz
   rw [hm] at hk hle hr4
   obtain⟨lj,hlj⟩:∃ d,l[j]=d:=⟨_,rfl⟩
   rw [hlj] at x0 x1 hk
   clear hlj
   have HS:=Lib.hid hs
   have HZ:=Lib.hid hrz
   have HM:=Lib.hid hm
   obtain⟨hM,hown,hB⟩:=hI.out
   rw [hM] at hle
   have HO:=Lib.hid (And.intro hown hB)
   have HKK:=Lib.hid hk
   have hsz:=hB.size
   obtain⟨P,hP⟩:∃ P,rwB (rs.take j)=P:=⟨_,rfl⟩
   rw [hP] at hM HO HS
   have HMM:=Lib.hid hM
   clear hI hcc hk hg hs hrz hr hm hM hown hB hP
   go_wp2_with (go_at_call 160;((with_reducible refine (HKK.out _).mono ?_);rintro e w1 ⟨⟨ra,rc,rfl,ro⟩,b1⟩))
   have HI:Hid (w1.ownsRow w.heap.size 5 1 (.slice ba M bc) (M+4*0) ((P++nB (r.take 0)).map eB)∧w1.ownsRow (wr.heap.size+1) 3 1 (.slice ra m rc) m (r.map eI)∧Below w.heap.size w w1):=Lib.hid ⟨by simpa [nB] using own_below HO.out.1 (bch (bnew wr _) b1),by simpa using ro,bch HO.out.2 (bch (bnew wr _) b1)⟩
   clear ro b1 HKK x0 x1 HO
   go_loopw [5,22] (fun bv q wr2=>∃ i:Nat,i≤m∧q=.int .i64 (i:Int)∧Hid (wr2.ownsRow w.heap.size 5 1 bv (M+4*i) ((P++nB (r.take i)).map eB)∧wr2.ownsRow (wr.heap.size+1) 3 1 (.slice ra m rc) m (r.map eI)∧Below w.heap.size w wr2)) (fun _ q _=>m-(intOf q).toNat)
   case atStart=>exact⟨0,Nat.zero_le _,rfl,HI⟩
   case round =>
    clear HI
    obtain⟨i,hi,rfl,hI⟩:=hrel
    obtain⟨oa,oc,rfl⟩:=owns_slice hI.out.1
    by_cases hlt2:i<m
    ·have hil:i<r.length:=by rw [HM.out];exact hlt2
     have hrw:=Rw.own (enc:=eI) (l:=r) (by rw [HM.out];exact hI.out.2.1)
     obtain⟨-,-,-,hrc⟩:=hrw.at
     obtain⟨rb,rof,rfl,hrl,hrcc⟩:=hrc (by omega)
     have y0:=hrcc i hil
     have hz:=HZ.out _ (List.getElem_mem hil)
     have hcs:=e4_cells hz
     have hsn:=nB_snoc r i hil
     obtain⟨z,hzz⟩:∃ z,r[i]=z:=⟨_,rfl⟩
     rw [hzz] at y0 hz hcs hsn
     have hap:(P++nB (r.take i)).map eB++[.int .u8 (z % 256),.int .u8 (z / 256 % 256),.int .u8 (z / 65536 % 256),.int .u8 (z / 16777216)]=(P++nB (r.take (i+1))).map eB:=by
      rw [hsn,← hcs,← List.append_assoc,List.map_append (l₁:=P++nB (r.take i))]
     have HAP:=Lib.hid hap
     obtain⟨hown,hro,hB⟩:=hI.out
     have HRO:=Lib.hid hro
     have hbs:=hB.size
     clear hI hrw hrc hrcc hzz hcs hsn hap hil hro
     go_wp2_with (at_builtin;go_loud (refine wpList_append_own _ rfl _ _ 23 rfl w.heap.size 5 ib (.int .u8 0) 1 1 Tryz.underlying23 ki kz0 kz1 kz2 rfl (by decide) _ (M+4*i) _ rfl (hown.alloc _) ⟨wr.heap.size,0,none⟩ 4 4 [.int .u8 (z % 256),.int .u8 (z / 256 % 256),.int .u8 (z / 65536 % 256),.int .u8 (z / 16777216)] rfl rfl (World.news_of_block (cs:=#[.int .u8 (z % 256),.int .u8 (z / 256 % 256),.int .u8 (z / 65536 % 256),.int .u8 (z / 16777216)]) (t:=5) (fr:=(0,0)) (heap_alloc_last wr _)) (by simp [Value.oneCell']) (by unfold maxLen;omega) (by omega) (by simp;omega) ?_;intro v' w5 hown6 hgrow6 _;have B2:=(hB.alloc hbs _).grown hgrow6 (by simp;omega) (own_base hown);have o2:=own_two (HRO.out.alloc _) (hown.alloc _) (by decide) hgrow6))
     go_roundw
     case rel=>exact⟨i+1,hlt2,by go_num,Lib.hid ⟨by rw [← HAP.out];exact hown6,o2,B2⟩⟩
     case measure=>simp [intOf];omega
    ·obtain rfl:i=m:=by omega
     have hto:r.take i=r:=List.take_of_length_le (by rw [HM.out];exact Nat.le_refl _)
     have h1:=hI.out
     rw [hto,← HS.out] at h1
     have HJ:=Lib.hid (And.intro h1.1 h1.2.2)
     have HL2:=Lib.hid (show (rwB (rs.take (j+1))).length=M+4*i by rw [HS.out,List.length_append,nB_len,HMM.out,HM.out])
     clear hI hto h1
     go_wp2
     go_roundw
     case rel=>exact⟨j+1,M+4*i,hlt,by go_num,Lib.hid ⟨HL2.out,HJ.out.1,HJ.out.2⟩⟩
     case measure=>simp [intOf];omega
  ·obtain rfl:j=n:=by omega
   have hto:rs.take j=rs:=List.take_of_length_le (by rw [HN.out.2,HN.out.1];exact Nat.le_refl _)
   have h1:=hI.out
   rw [hto,HL.out] at h1
   obtain⟨hM,hown,hB⟩:=h1
   subst hM
   have HR:=Lib.hid (And.intro (show Rw eB wr (.slice ba N bc) (rwB rs) from Rw.own (by rw [HL.out];exact hown)) hB)
   clear hI hto hown hB
   go_wp2
   go_ret
   exact⟨⟨_,_,rfl,HR.out.1⟩,HR.out.2⟩
end Go.Proofs.YtihiggnglmhggaaGreatDoor.L16
end
section
namespace Go.Proofs.YtihiggnglmhggaaGreatDoor.L16
open Go.RowKit L14 L15
open L13 (Ob)
attribute [local go_sem] Oper.semAt_some
theorem ss_five (W:World) (k:Nat) (hk:W.heap.size=k) (d1 d2 d3 d4 d5:Value) (x1 x2 x3 x4 x5:List UInt8) (t:TypeId) (W':World) (hW:W'=W.alloc (.cells #[.int .i64 1,d1,.int .i64 2,d2,.int .i64 3,d3,.int .i64 4,d4,.int .i64 5,d5] t)) (h1:Rw eB W' d1 x1) (h2:Rw eB W' d2 x2) (h3:Rw eB W' d3 x3) (h4:Rw eB W' d4 x4) (h5:Rw eB W' d5 x5) :
  Ss W' (.slice (some ⟨k,0,none⟩) 5 5) [(1,x1),(2,x2),(3,x3),(4,x4),(5,x5)]:=by
 subst hk hW
 have hn:=heap_alloc_new W (.cells #[.int .i64 1,d1,.int .i64 2,d2,.int .i64 3,d3,.int .i64 4,d4,.int .i64 5,d5] t)
 have hc:∀ i v,(#[.int .i64 1,d1,.int .i64 2,d2,.int .i64 3,d3,.int .i64 4,d4,.int .i64 5,d5]:Array Value)[i]?=some v→(W.alloc (.cells #[.int .i64 1,d1,.int .i64 2,d2,.int .i64 3,d3,.int .i64 4,d4,.int .i64 5,d5] t)).cell? ⟨W.heap.size,i,none⟩=some v:=by
  intro i v h
  unfold World.cell?
  simp only [hn]
  exact h
 refine⟨_,5,rfl,Nat.le_refl _,fun e=>(by cases e),fun _=>⟨W.heap.size,0,rfl,lt_of_block hn,fun j hj=>?_⟩⟩
 match j,hj with
 | 0,_=>exact⟨hc 0 _ rfl,d1,hc 1 _ rfl,h1⟩
 | 1,_=>exact⟨hc 2 _ rfl,d2,hc 3 _ rfl,h2⟩
 | 2,_=>exact⟨hc 4 _ rfl,d3,hc 5 _ rfl,h3⟩
 | 3,_=>exact⟨hc 6 _ rfl,d4,hc 7 _ rfl,h4⟩
 | 4,_=>exact⟨hc 8 _ rfl,d5,hc 9 _ rfl,h5⟩
theorem rowsD_gd (vm:Value) (o:Ob) (N:Nat) (w:World) (hv:L10.DfAt w vm o.maps) (hg:Gd o) (hN:(rwB (r2 o.maps)).length=N) :
  Calls Tryz.prog 155 #[vm,.func (.func 156) #[] #[]] w (RwP (r2 o.maps) N w):=by
 have h1:=hg.n
 refine rowsD_at vm o.maps (r2 o.maps) N w hv (by omega) (by simp [r2]) (fun r hr=>?_) hN (by rw [← hN,r2_len];omega) (fun j h W=>?_)
 ·obtain⟨d,hd,rfl⟩:=List.mem_map.1 hr
  refine⟨by simp,fun z hz=>?_⟩
  obtain⟨-,h2,h3,h4⟩:=L11.deE_of (hg.df d hd)
  simp only [List.mem_cons,List.not_mem_nil,or_false] at hz
  omega
 ·have e:(r2 o.maps).getD j []=[o.maps[j].key,o.maps[j].val,o.maps[j].ent,0]:=by simp [r2,List.getD,h]
  rw [e]
  exact sec1_at _ _ _ _ _ W
theorem rowsN_gd (v:Value) (l:List Nat) (N:Nat) (w:World) (hv:Rw eN w v l) (hl:l.length≤255) (hb:∀ x∈l,x<4294967296) (hN:(rwB (r3 l)).length=N) :
  Calls Tryz.prog 157 #[v,.func (.func 158) #[] #[]] w (RwP (r3 l) N w):=by
 refine rowsN_at v l (r3 l) N w hv (by omega) (by simp [r3]) (fun r hr=>?_) hN (by rw [← hN,r3_len];omega) (fun j h W=>?_)
 ·obtain⟨i,hi,rfl⟩:=List.mem_iff_getElem.1 hr
  have hi':i<l.length:=by simpa [r3] using hi
  refine⟨by simp [r3],fun z hz=>?_⟩
  have:=hb _ (List.getElem_mem hi')
  simp only [r3,List.getElem_mapIdx,List.mem_cons,List.not_mem_nil,or_false] at hz
  omega
 ·have e:(r3 l).getD j []=[((l[j]:Nat):Int),((j:Nat):Int)]:=by simp [r3,List.getD,h]
  rw [e]
  exact sec2_at _ _ W
theorem rowsR_gd (vr:Value) (o:Ob) (N:Nat) (w:World) (hv:L13.RoAt w vr o.rels) (hg:Gd o) (hN:(rwB (r4 o.rels)).length=N) :
  Calls Tryz.prog 159 #[vr,.func (.func 160) #[] #[]] w (RwP (r4 o.rels) N w):=by
 have h1:=hg.rln
 refine rowsR_at vr o.rels (r4 o.rels) N w hv (by omega) (by simp [r4]) (fun r hr=>?_) hN (by rw [← hN,r4_len];omega) (fun j h W=>?_)
 ·obtain⟨d,hd,rfl⟩:=List.mem_map.1 hr
  refine⟨by simp,fun z hz=>?_⟩
  have:=hg.rels d hd
  simp only [List.mem_cons,List.not_mem_nil,or_false] at hz
  omega
 ·have e:(r4 o.rels).getD j []=[o.rels[j].1,o.rels[j].2]:=by simp [r4,List.getD,h]
  rw [e]
  exact sec3_at _ _ _ W
theorem ofs_lt:∀ (ts:List (List UInt8)) (st:Nat),∀ x∈L14.ofs st ts,x≤st+(L14.tot ts+ts.length)
 | [],_,x,h=>by cases h
 | t::r,st,x,h=>by
  rw [L14.ofs] at h
  have e:L14.tot (t::r)=t.length+L14.tot r:=by simp [L14.tot]
  rcases List.mem_cons.1 h with rfl|h
  ·omega
  ·have:=ofs_lt r _ x h
   rw [e,List.length_cons];omega
theorem keepS {w w':World} {k:Nat} {a b c:Value} {t:TypeId} (h:w.heap[k]?=some (.cells #[a,b,c] t)) (hb:Below w.heap.size w w'):Below w.heap.size w w'∧w'.cell? ⟨k,0,none⟩=some a∧w'.cell? ⟨k,1,none⟩=some b∧w'.cell? ⟨k,2,none⟩=some c:=by
 obtain⟨x,y,z⟩:=L13.cells3 (L8.row_up h hb)
 exact⟨hb,x,y,z⟩
theorem sections_at (vm vc vr:Value) (o:Ob) (w:World) (ho:OA w vm vc vr o) (_:OS o) (hg:Gd o) :
  Calls Tryz.prog 111 #[.agg #[vm,vc,vr]] w fun e w'=>(∃ a c,e=.returned (.slice a 5 c)∧Ss w' (.slice a 5 c) (secs o))∧Below w.heap.size w w':=by
 obtain⟨i0,hi,hz0,hz1,hz2⟩:=info_parts infoText
 obtain⟨n1,hn1⟩:∃ n,o.maps.length=n:=⟨_,rfl⟩
 obtain⟨n2,hn2⟩:∃ n,o.code.length=n:=⟨_,rfl⟩
 obtain⟨n3,hn3⟩:∃ n,o.rels.length=n:=⟨_,rfl⟩
 obtain⟨N2,hN2⟩:∃ n,(rwB (r2 o.maps)).length=n:=⟨_,rfl⟩
 obtain⟨N3,hN3⟩:∃ n,(rwB (r3 (ofs 1 (nmL o.maps)))).length=n:=⟨_,rfl⟩
 obtain⟨N4,hN4⟩:∃ n,(rwB (r4 o.rels)).length=n:=⟨_,rfl⟩
 obtain⟨NT,hNT⟩:∃ n,(tb (nmL o.maps)).length=n:=⟨_,rfl⟩
 have hq1:=hg.n
 have hq2:=hg.tot
 rw [hn1] at hq1
 have hnl:(nmL o.maps).length=n1:=by rw [nmL_len,hn1]
 have HBu:=Lib.hid (fun (X:World) (v:Value) (h:Rw eT X v (nmL o.maps))=>build_yes v (nmL o.maps) n1 NT X h (by omega) (by omega) (fun t ht=>(hg.nms t ht).1) hnl hNT)
 have HD:=Lib.hid (fun (X:World) (hX:Below w.heap.size w X)=>rowsD_gd vm o N2 X (ho.m.below hX) hg hN2)
 have HO:=Lib.hid (fun (X:World) (v:Value) (h:Rw eN X v (ofs 1 (nmL o.maps)))=>rowsN_gd v (ofs 1 (nmL o.maps)) N3 X h (by rw [ofs_len];omega) (fun x hx=>by have:=ofs_lt (nmL o.maps) 1 x hx;omega) hN3)
 have HE:=Lib.hid (fun (X:World) (hX:Below w.heap.size w X)=>rowsR_gd vr o N4 X (ho.r.below hX) hg hN4)
 have HCo:=Lib.hid (fun (X:World) (hX:Below w.heap.size w X)=>ho.c.below hX)
 obtain⟨a1,c1,rfl,hd⟩:=L10.df_form4 hn1 ho.m
 obtain⟨a2,c2,rfl,-⟩:=ho.c.form hn2
 obtain⟨a3,c3,rfl,-⟩:=L13.ro_form hn3 ho.r
 have HM:=Lib.hid hd
 have HN:=Lib.hid (And.intro hn1 hnl)
 have K0:=Lib.hid (heap_alloc_last w (.cells #[.slice a1 n1 c1,.slice a2 n2 c2,.slice a3 n3 c3] 26))
 have HB:=Lib.hid (bnew w (.cells #[.slice a1 n1 c1,.slice a2 n2 c2,.slice a3 n3 c3] 26))
 clear ho hg hn1 hn2 hn3 hd hN2 hN3 hN4 hNT hnl hq2
 go_enter Tryz.func111,Tryz.ntmps111
 go_upto_region 1 with (fail)
 obtain⟨k0,hk0⟩:∃ k,w.heap.size=k:=⟨_,rfl⟩
 rw [hk0] at K0 ⊢
 have HK0:=Lib.hid hk0
 generalize w.alloc (.cells #[.slice a1 n1 c1,.slice a2 n2 c2,.slice a3 n3 c3] 26)=W0 at K0 HB ⊢
 obtain⟨x0,x1,x2⟩:=L13.cells3 K0.out
 have lx:=World.block_lt_of_cell? _ _ x0
 simp only at lx
 clear hk0
 go_wp2
 have HI:Hid (W0.ownsRow W0.heap.size 9 1 (.slice none 0 0) 0 (((nmL o.maps).take 0).map eT)∧Below W0.heap.size W0 W0):=Lib.hid ⟨World.ownsRow_nil _ _ _ _,Below.refl _ _⟩
 go_loopw [3,12] (fun nv q wr=>∃ j:Nat,j≤n1∧q=.int .i64 (j:Int)∧Hid (wr.ownsRow W0.heap.size 9 1 nv j (((nmL o.maps).take j).map eT)∧Below W0.heap.size W0 wr)) (fun _ q _=>n1-(intOf q).toNat)
 case atStart=>exact⟨0,Nat.zero_le _,rfl,HI⟩
 case round =>
  obtain⟨j,hj,rfl,hI⟩:=hrel
  clear HI x0 x1 x2 lx
  obtain⟨va,vc,rfl⟩:=owns_slice hI.out.1
  by_cases hlt:j<n1
  ·have hjl:j<o.maps.length:=by rw [HN.out.1];exact hlt
   have hjn:j<(nmL o.maps).length:=by rw [HN.out.2];exact hlt
   obtain⟨bb,of,rfl,hbl,hcc⟩:=HM.out (by omega)
   obtain⟨z0,z1,z2,z3⟩:=hcc j hjl
   have hBB:=bch HB.out hI.out.2
   have y0:=(hBB.cell (p:=⟨bb,of+j*4,none⟩) (by exact hbl)).trans z0
   have y1:=(hBB.cell (p:=⟨bb,of+j*4+1,none⟩) (by exact hbl)).trans z1
   have y2:=(hBB.cell (p:=⟨bb,of+j*4+2,none⟩) (by exact hbl)).trans z2
   have y3:=(hBB.cell (p:=⟨bb,of+j*4+3,none⟩) (by exact hbl)).trans z3
   have hap:((nmL o.maps).take j).map eT++[.string o.maps[j].nm]=((nmL o.maps).take (j+1)).map eT:=by
    rw [take_snoc _ j hjn,List.map_append]
    simp [nmL,eT,mkB_of]
   have HAP:=Lib.hid hap
   obtain⟨d,hd⟩:∃ d,o.maps[j]=d:=⟨_,rfl⟩
   rw [hd] at y0 y1 y2 y3 HAP
   have hown:=hI.out.1
   have HBW:=Lib.hid hI.out.2
   have hsz:=HBW.out.size
   have hsw:=hBB.size
   clear hcc z0 z1 z2 z3 hBB hap hd hI hjn
   go_wp2_with (at_builtin;refine wpList_append_own _ rfl _ _ 78 rfl W0.heap.size 9 i0 (.string ⟨#[]⟩) 1 16 Tryz.underlying78 hi hz0 hz1 hz2 rfl (by decide) _ j _ rfl ((hown.alloc _).alloc _) ⟨wr.heap.size+1,0,none⟩ 1 1 [.string d.nm] rfl rfl (World.news_of_block (cs:=#[.string d.nm]) (t:=9) (fr:=(0,0)) (by have:=heap_alloc_last (wr.alloc (.cells #[.string d.nm,.int .i64 d.key,.int .i64 d.val,.int .i64 d.ent] 88)) (.cells #[.string d.nm] 9);simpa using this)) (by simp [Value.oneCell']) (by unfold maxLen;omega) (by omega) (by simp;omega) ?_;intro v' w3 hown3 hgrow3 _;have B3:=((HBW.out.alloc hsz (.cells #[.string d.nm,.int .i64 d.key,.int .i64 d.val,.int .i64 d.ent] 88)).alloc (by simp;omega) (.cells #[.string d.nm] 9)).grown hgrow3 (by simp;omega) (own_base hown))
   go_roundw
   case rel=>exact⟨j+1,hlt,by go_num,Lib.hid ⟨by rw [← HAP.out];exact hown3,B3⟩⟩
   case measure=>simp [intOf];omega
  ·obtain rfl:j=n1:=by omega
   have h1:=hI.out
   rw [List.take_of_length_le (by rw [HN.out.2];exact Nat.le_refl _)] at h1
   have hrw:Rw eT wr (.slice va j vc) (nmL o.maps):=Rw.own (by rw [HN.out.2];exact h1.1)
   have B1:=bch HB.out h1.2
   have r1:=L8.row_up K0.out h1.2
   clear hI h1
   go_upto_region 8 with (go_at_call 154;((with_reducible refine (HBu.out _ _ hrw).mono ?_);rintro e w2 ⟨⟨ta,tc,oa,oc,rfl,rt,ro⟩,b2⟩))
   have B2:=bch B1 b2
   have HK2:=Lib.hid (L8.row_up r1 b2)
   have HB2:=Lib.hid B2
   have HTb:=Lib.hid rt
   have HOf:=Lib.hid ro
   clear hrw B1 r1 b2 rt ro B2 HBu HM hq1
   go_region_held3 (fun W=>Below w2.heap.size w2 W∧W.cell? ⟨k0,0,none⟩=some (.slice a1 j c1)∧W.cell? ⟨k0,1,none⟩=some (.slice a2 n2 c2)∧W.cell? ⟨k0,2,none⟩=some (.slice a3 n3 c3))
    (first|exact keepS HK2.out ((Below.refl _ _).drew)|exact keepS HK2.out (bch (And.left (by assumption:Below w2.heap.size w2 _∧_)) hb9)|exact keepS HK2.out (bch (And.left (by assumption:Below w2.heap.size w2 _∧_)) (bnew _ _))|assumption)
    (first
     | (go_at_call 155;((with_reducible refine (HD.out _ (bch HB2.out (And.left (by assumption)))).mono ?_);rintro e w9 ⟨⟨a5,c5,rfl,rD⟩,hb9⟩;(try replace rN:=rN.below hb9);(try replace rR:=rR.below hb9)))
     | (go_at_call 157;((with_reducible refine (HO.out _ _ (HOf.out.below (And.left (by assumption)))).mono ?_);rintro e w9 ⟨⟨a6,c6,rfl,rN⟩,hb9⟩;(try replace rD:=rD.below hb9);(try replace rR:=rR.below hb9)))
     | (go_at_call 159;((with_reducible refine (HE.out _ (bch HB2.out (And.left (by assumption)))).mono ?_);rintro e w9 ⟨⟨a7,c7,rfl,rR⟩,hb9⟩;(try replace rD:=rD.below hb9);(try replace rN:=rN.below hb9))))
   all_goals
    rename_i hh
    go_wp2
    go_ret
    exact⟨⟨_,_,rfl,ss_five _ _ rfl _ _ _ _ _ _ _ _ _ _ _ _ rfl (HCo.out _ (bch HB2.out hh.1)) (rD.below (bnew _ _)) (rN.below (bnew _ _)) (rR.below (bnew _ _)) (HTb.out.below hh.1)⟩,bch HB2.out hh.1⟩
end Go.Proofs.YtihiggnglmhggaaGreatDoor.L16
end
section
namespace Go.Proofs.YtihiggnglmhggaaGreatDoor.L16
open Go.RowKit L14 L15
open L13 (Ob)
attribute [local go_sem] Oper.semAt_some
section
variable (vm vc vr:Value) (o:Ob) (w:World) (ho:OA w vm vc vr o) (hs:OS o) (hT:Tb w)
include ho hs hT
theorem pack_no (R:Int) (hR:chE o=R) (h0:R≠0):Calls Tryz.prog 67 #[.agg #[vm,vc,vr]] w fun e w'=>e=.returned (.tuple #[.slice none 0 0,.int .i64 R])∧Below w.heap.size w w':=by
 have HC:=Lib.hid (fun (X:World) (hX:Below w.heap.size w X)=>ocheck_at vm vc vr o R X (ho.below hX) hs (tb_below hT hX) hR)
 obtain⟨a1,c1,rfl,-⟩:=L10.df_form rfl ho.m
 obtain⟨a2,c2,rfl,-⟩:=ho.c.form rfl
 obtain⟨a3,c3,rfl,-⟩:=L13.ro_form rfl ho.r
 generalize o.maps.length=n1 at HC ⊢
 generalize o.code.length=n2 at HC ⊢
 generalize o.rels.length=n3 at HC ⊢
 have h0':(R != 0)=true:=by simpa using h0
 clear ho hs hT hR
 go_enter Tryz.func67,Tryz.ntmps67
 go_wp2_with (go_at_call 91;((with_reducible refine (HC.out _ (bnew _ _)).mono ?_);rintro e w1 ⟨rfl,b1⟩))
 go_ret2
 exact⟨rfl,bch (bnew _ _) b1⟩
theorem pack_yes (N:Nat) (hR:chE o=0) (hN:(pkB o).length=N):Calls Tryz.prog 67 #[.agg #[vm,vc,vr]] w fun e w'=>(∃ a c,e=.returned (.tuple #[.slice a N c,.int .i64 0])∧Rw eB w' (.slice a N c) (pkB o))∧Below w.heap.size w w':=by
 have hg:=gd_of hR
 have HC:=Lib.hid (fun (X:World) (hX:Below w.heap.size w X)=>ocheck_at vm vc vr o 0 X (ho.below hX) hs (tb_below hT hX) hR)
 have HS:=Lib.hid (fun (X:World) (hX:Below w.heap.size w X)=>sections_at vm vc vr o X (ho.below hX) hs hg)
 have HW:=Lib.hid (fun (X:World) (v:Value) (hv:Ss X v (secs o))=>write_yes v (secs o) N X hv (secs_sml hg) (secs_chk hg) (by rw [← hN,pkB,wr_len]))
 have K0:=Lib.hid (heap_alloc_last w (.cells #[vm,vc,vr] 26))
 obtain⟨a1,c1,rfl,-⟩:=L10.df_form rfl ho.m
 obtain⟨a2,c2,rfl,-⟩:=ho.c.form rfl
 obtain⟨a3,c3,rfl,-⟩:=L13.ro_form rfl ho.r
 generalize o.maps.length=n1 at HC HS K0 ⊢
 generalize o.code.length=n2 at HC HS K0 ⊢
 generalize o.rels.length=n3 at HC HS K0 ⊢
 clear ho hs hT hR hN hg
 go_enter Tryz.func67,Tryz.ntmps67
 go_wp2_with (first
  | (go_at_call 91;((with_reducible refine (HC.out _ (bnew _ _)).mono ?_);rintro e w1 ⟨rfl,b1⟩;have B1:=bch (bnew w _) b1;obtain⟨x0,x1,x2⟩:=L13.cells3 (L8.row_up K0.out b1)))
  | (go_at_call 111;((with_reducible refine (HS.out _ B1).mono ?_);rintro e w2 ⟨⟨sa,sc,rfl,ss⟩,b2⟩;have B2:=bch B1 b2))
  | (go_at_call 110;((with_reducible refine (HW.out _ _ ss).mono ?_);rintro e w3 ⟨⟨ra,rc,rfl,rr⟩,b3⟩;have B3:=bch B2 b3)))
 go_ret2
 exact⟨⟨_,_,rfl,rr⟩,B3⟩
end
end Go.Proofs.YtihiggnglmhggaaGreatDoor.L16
end
section
namespace Go.Proofs.YtihiggnglmhggaaGreatDoor
open Go.ChangeShapes Go.WideShapes Go.ChangeAt Go.RowKit
theorem own:ownKnob Tryz.prog.godebug=none:=by kernel_rfl
theorem cells_of_texts {H:Type} {enc:TypeId × Value→H} {P:Program} {w:World} {base:Nat} {sp:Nat→Bool} {held:Bool} {fuel:Nat} {t e:TypeId} {n:Nat} {cs:List Value} {zs:List (List UInt8)} {p:List MemPlace}
  (ht:P.underlying t=some (.array n e)) (he:P.underlying e=some .string) (hce:P.cellsOf e=1) (hct:P.cellsOf t=n)
  (h:DataW.trod enc P w base sp held fuel t cs=some (.agg (zs.map fun z=>.lit (.string z)),p)):cs=zs.map fun z=>Value.string ⟨z.toArray⟩:=by
 cases fuel with
 | zero=>simp [DataW.trod] at h
 | succ fuel =>
  simp only [DataW.trod,ht,hce,hct,Nat.mul_one] at h
  split at h
  ·rename_i hl
   obtain⟨xs,hm,hx⟩:=Option.map_eq_some_iff.1 h
   have hxs:xs.map (·.1)=zs.map fun z=>(DataW.lit (.string z):DataW H):=by
    have:=congrArg Prod.fst hx
    simpa using this
   have hxl:xs.length=n:=by simpa using Lib.mapM_length hm
   have hzl:zs.length=n:=by
    have:=congrArg List.length hxs
    simp at this
    omega
   apply List.ext_getElem?
   intro i
   by_cases hi:i<n
   ·obtain⟨b,hb,hf⟩:=Lib.mapM_at hm i i (by simp [hi])
    obtain⟨z,hc,rfl,_⟩:=DataW.trod_string he hf
    have h1:cs[i]?=some (.string z):=by
     have:=congrArg (·[0]?) hc
     simpa [List.getElem?_take,List.getElem?_drop] using this
    have h2:(xs.map (·.1))[i]?=some (DataW.lit (.string z.data.toList):DataW H):=by simp [hb]
    rw [hxs] at h2
    simp only [List.getElem?_map,Option.map_eq_some_iff,DataW.lit.injEq,Lit.string.injEq] at h2
    obtain⟨z',hz',rfl⟩:=h2
    simp [h1,hz']
   ·rw [List.getElem?_eq_none (by omega),List.getElem?_eq_none (by simp;omega)]
  ·cases h
theorem gReg:Tryz.prog.globalNamed "slotcode/ident.registers"=some 2:=by kernel_rfl
theorem tReg:(Tryz.prog.globals[2]?).map (·.type)=some 268:=by kernel_rfl
theorem gWid:Tryz.prog.globalNamed "slotcode/num.widths"=some 0:=by kernel_rfl
theorem tWid:(Tryz.prog.globals[0]?).map (·.type)=some 238:=by kernel_rfl
abbrev regD:DataW Unit:=.agg (([[114,48],[114,49],[114,50],[114,51],[114,52],[114,53],[114,54],[114,55],[114,56],[114,57],[114,49,48]]:List (List UInt8)).map fun z=>.lit (.string z))
theorem law_post_at {H:Type} {enc:TypeId × Value→H} {P:Program} {f:Func} {s:ChangeSpec} {W W':World} {args:Array Value} {ds:List (DataW H)} {before:List MemPlace}
  (hW:DataW.Whole enc P f.params.toList s.vars false W args.toList ds [] before) (hv:s.vars=[]) (ht:f.resultTypes=#[4]) (hu:P.underlying 4=some .bool)
  (hfn:s.fn H (ds++[])={ results:=[.lit (.bool true)],args:=ds })
  (hargs:DataW.TrodAll enc P W' 0 (fun b=>decide (b<W.heap.size)) true f.params.toList args.toList ds before)
  (hb:Below W.heap.size W W'):s.post enc P f false true false false W args (.bool true) W':=by
 refine⟨ds,[],before,[],before,[],hW,?_,?_,?_,World.keptBut_mono (fun p hp=>⟨hp,?_⟩) (hb.frame (·∈before)),fun h=>by cases h⟩
 ·rw [hfn,ht]
  exact trodAll_cons_mk (shut_bool hu _) trodAll_mk0
 ·rw [hfn];exact hargs
 ·rw [hfn,hv];exact rfl
 ·exact Or.inr (Or.inl hp)
theorem laidOut:laidOutB Tryz.prog=true:=by kernel_rfl
theorem returns_shaped_and {H:Type} {enc:TypeId × Value→H} {a:Assume} {C:Checked} {os:Os} {f:FuncId} {fn:Func} {s:ChangeSpec} {conds:List PathCond} {apart fresh handsOn again:Bool} {X:World→Array Value→Prop}
  (hX:∀ (w w':World) (args:Array Value),w.heap=w'.heap→X w args→X w' args)
  (own:ownKnob C.prog.godebug=none) (started:os.Started) (noInit:C.prog.inits.idxOf? f=none) (hfn:C.prog.funcs[f]?=some fn)
  (witness:∃ (w:World) (tape:Tape) (i:Input),w.os=os∧(w.forCall tape i).Shaped C.prog∧i.vars=[]∧Input.okWide C.prog (w.forCall tape i) .any w.heap.size f i ∧
   ((s.pre enc C.prog fn conds apart (w.forCall tape i).memory i.args∧X (w.forCall tape i).memory i.args)∧sizedMet enc C.prog fn (OpenSpec.ofChange s) apart (w.forCall tape i).memory i.args)∧a.holds C.prog (lone (Frame.enter C.prog f i.args .normal) [] (w.forCall tape i)))
  (contract:∀ (W:World) (base:Nat) (args:Array Value) (ds gs:List (DataW H)) (before:List MemPlace),
   (∀ (j:Nat) t v,fn.params[j]?=some t→args[j]?=some v→Value.okWide C.prog W .any base t v) →
   DataW.Whole enc C.prog fn.params.toList s.vars apart W args.toList ds gs before →
   (DataW.weightsEach C.prog (fn.params.toList++s.plain.varTypes C.prog) (ds++gs)).all (·≤reachBytes)=true→X W args →
   W.ShapedOpen C.prog →
   Calls C.prog f args W fun e W'=>∃ v,e=.returned v∧s.post enc C.prog fn apart fresh handsOn again W args v W') :
  ReturnsInHanded a C os f .any (fun w args=>(s.pre enc C.prog fn conds apart w args∧X w args)∧sizedMet enc C.prog fn (OpenSpec.ofChange s) apart w args) (s.post enc C.prog fn apart fresh handsOn again):=by
 refine returnsInHanded_of_calls own started noInit witness ?_
 intro w tape i _ hsh _ hok hpre _
 obtain⟨_,_,_,fn',hfn',_,_,_,_,hval⟩:=hok
 have e:fn'=fn:=Option.some.inj (hfn'.symm.trans hfn)
 subst e
 obtain⟨⟨⟨ds,gs,before,hw,hc⟩,hx⟩,hz⟩:=hpre
 have hw':=DataW.Whole.of_heap (w':=w.forCall tape i) (by rfl) hw
 refine (contract (w.forCall tape i) w.heap.size i.args ds gs before hval hw' (hz.weights hw) (hX _ _ _ (by rfl) hx) hsh).mono fun e W' ⟨v,he,hp⟩=>?_
 subst he
 exact ChangeSpec.post_blind hp
abbrev laid2:List (String × DataW Unit):=[("slotcode/ident.registers",Rows.laid_slotcode_ident_registers),("slotcode/num.widths",Rows.laid_slotcode_num_widths)]
theorem tabs_of2 {W:World} (h:laidMetH Tryz.prog laid2 W):L16.Tb W:=by
 rw [MakeChecks.laidMetH_plain _ _ _ (by kernel_rfl)] at h
 have h3:laidMet Tryz.prog [("slotcode/ident.registers",regD),("slotcode/num.widths",Rows.laid_slotcode_num_widths)] W:=h
 refine⟨?_,?_⟩
 ·have hw:Lib.TabIs Tryz.prog W "slotcode/num.widths" .i64 [8,16,32,64] :=
   Lib.tabIs_of_head (rest:=[]) gWid tWid Tryz.underlying238 Tryz.underlying3 (by kernel_rfl) (by kernel_rfl) h.tail
  unfold Lib.TabIs World.var? at hw
  rw [gWid] at hw
  simp only [Option.bind_some] at hw
  split at hw
  ·rename_i cs t fr he
   refine⟨t,fr,?_⟩
   rw [he]
   simp only [Option.some.injEq] at hw
   rw [hw];rfl
  ·cases hw
 ·obtain⟨ps,⟨g',t',cs,fuel,p,q,hg',ht',hvar,hd,_,_⟩,_⟩:=h3
  obtain rfl:=Option.some.inj (gReg.symm.trans hg')
  obtain rfl:=Option.some.inj (tReg.symm.trans ht')
  have hcs:=cells_of_texts Tryz.underlying268 Tryz.underlying9 (by kernel_rfl) (by kernel_rfl) hd
  unfold World.var? at hvar
  rw [gReg] at hvar
  simp only [Option.bind_some] at hvar
  split at hvar
  ·rename_i cs2 t fr he
   refine⟨t,fr,?_⟩
   rw [he]
   simp only [Option.some.injEq] at hvar
   rw [hvar,show cs=L2.regC from Array.toList_inj.1 hcs]
  ·cases hvar
theorem door_met2 (os:Os) (args:Array Value):laidMetH Tryz.prog laid2 ((World.doorLaid Tryz.prog 4000 os).forCall (fun _ _=>0) ⟨#[],args,[]⟩).memory :=
 laidMetH_of_parts3 (fuel:=8) (laidMet_of_run' 8 (by kernel_rfl) (by kernel_rfl)) (by kernel_rfl) (by kernel_rfl)
end Go.Proofs.YtihiggnglmhggaaGreatDoor
end
