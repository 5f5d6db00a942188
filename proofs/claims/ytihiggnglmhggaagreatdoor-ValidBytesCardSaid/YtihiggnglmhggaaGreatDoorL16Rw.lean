/- What the program's rows returns: the numbers of each row, four bytes each; and the three closures that make a row. Condition: memory holds the list, whose numbers are at least 0 and fit into four bytes. -/
import Derived.Test.YtihiggnglmhggaaGreatDoorM2
set_option maxHeartbeats 4000000
namespace Go.Proofs.YtihiggnglmhggaaGreatDoor.L16
set_option maxRecDepth 100000
open Go.RowKit L14 L15
attribute [local go_sem] Oper.semAt_some
abbrev eI (z:Int):Value:=.int .i64 z
theorem own_lit (w:World) (vs:List Value) (n k B:Nat) (hn:vs.length=n) (hm:n≤1000) (hk:w.heap.size=k) (hB:B≤k) (t:TypeId) (cs:Array Value) (hc:cs=vs.toArray):(w.alloc (.cells cs t)).ownsRow B t 1 (.slice (some ⟨k,0,none⟩) n n) n vs:=by
 subst hn hc hk
 refine⟨by simp,.inr ⟨w.heap.size,_,_,rfl,hB,heap_alloc_new w _,Nat.le_refl _,by unfold maxLen;omega,by simp,by simp⟩⟩
def ClP (ns:List Int) (n:Nat) (w:World) (e:Ending) (w':World):Prop:=(∃ a c,e=.returned (.slice a n c)∧w'.ownsRow w.heap.size 3 1 (.slice a n c) n (ns.map eI))∧Below w.heap.size w w'
theorem sec1_at (i:Int) (t:ByteArray) (a b c:Int) (w:World):Calls Tryz.prog 156 #[.int .i64 i,.agg #[.string t,.int .i64 a,.int .i64 b,.int .i64 c]] w (ClP [a,b,c,0] 4 w):=by
 go_enter Tryz.func156,Tryz.ntmps156
 go_wp2
 go_ret
 exact⟨⟨_,_,rfl,own_lit _ ([a,b,c,0].map eI) 4 _ _ rfl (by decide) (by simp) (by omega) _ _ rfl⟩,bch (bnew _ _) (bnew _ _)⟩
theorem sec2_at (i o:Int) (w:World):Calls Tryz.prog 158 #[.int .i64 i,.int .i64 o] w (ClP [o,i] 2 w):=by
 go_enter Tryz.func158,Tryz.ntmps158
 go_wp2
 go_ret
 exact⟨⟨_,_,rfl,own_lit _ ([o,i].map eI) 2 _ _ rfl (by decide) (by simp) (by omega) _ _ rfl⟩,bnew _ _⟩
theorem sec3_at (i a b:Int) (w:World):Calls Tryz.prog 160 #[.int .i64 i,.agg #[.int .i64 a,.int .i64 b]] w (ClP [a,b] 2 w):=by
 go_enter Tryz.func160,Tryz.ntmps160
 go_wp2
 go_ret
 exact⟨⟨_,_,rfl,own_lit _ ([a,b].map eI) 2 _ _ rfl (by decide) (by simp) (by omega) _ _ rfl⟩,bch (bnew _ _) (bnew _ _)⟩
theorem e4_cells {z:Int} (h:0≤z∧z<4294967296):(e4 z).map eB=[.int .u8 (z % 256),.int .u8 (z / 256 % 256),.int .u8 (z / 65536 % 256),.int .u8 (z / 16777216)]:=by
 obtain⟨n,rfl⟩:∃ n:Nat,z=(n:Int):=⟨z.toNat,by omega⟩
 unfold e4
 rw [Int.toNat_natCast]
 simp only [le,List.map_cons,List.map_nil,eB,UInt8.toNat_ofNat',List.cons.injEq,Value.int.injEq,and_true,true_and]
 omega
def RwP (rs:List (List Int)) (N:Nat) (w:World) (e:Ending) (w':World):Prop:=(∃ a c,e=.returned (.slice a N c)∧Rw eB w' (.slice a N c) (rwB rs))∧Below w.heap.size w w'
theorem rowsN_at (v:Value) (l:List Nat) (rs:List (List Int)) (N:Nat) (w:World) (hv:Rw eN w v l) (hl:l.length≤100000) (hrs:rs.length=l.length) (hb:∀ r∈rs,r.length≤4∧∀ z∈r,0≤z∧z<4294967296) (hN:(rwB rs).length=N) (hN2:N≤2000000)
  (hK:∀ j (h:j<l.length) (W:World),Calls Tryz.prog 158 #[.int .i64 (j:Int),.int .i64 (l[j]:Int)] W (ClP (rs.getD j []) (rs.getD j []).length W)) :
  Calls Tryz.prog 157 #[v,.func (.func 158) #[] #[]] w (RwP rs N w):=by
 obtain⟨ib,ki,kz0,kz1,kz2⟩:=info_parts infoByte
 obtain⟨n,hn⟩:∃ n,l.length=n:=⟨_,rfl⟩
 obtain⟨a,c,rfl,-,-,hc⟩:=hv.form hn
 have HK:=Lib.hid hK
 have HC:=Lib.hid hc
 have HN:=Lib.hid (And.intro hn hrs)
 have HB:=Lib.hid hb
 have HT:=Lib.hid (fun j (h:j<rs.length)=>show (rwB (rs.take (j+1))).length≤N by
  have e:rwB rs=rwB (rs.take (j+1))++rwB (rs.drop (j+1)):=by rw [← rwB_app,List.take_append_drop]
  rw [← hN,e,List.length_append];omega)
 have HL:=Lib.hid hN
 rw [hn] at hl
 clear hK hc hn hrs hb hv hN
 go_enter Tryz.func157,Tryz.ntmps157
 go_wp2
 go_loopw [5,12] (fun bv q wr=>∃ (j M:Nat),j≤n∧q=.int .i64 (j:Int)∧Hid ((rwB (rs.take j)).length=M∧wr.ownsRow w.heap.size 5 1 bv M ((rwB (rs.take j)).map eB)∧Below w.heap.size w wr)) (fun _ q _=>n-(intOf q).toNat)
 case atStart=>exact⟨0,0,Nat.zero_le _,rfl,Lib.hid ⟨rfl,World.ownsRow_nil _ _ _ _,Below.refl _ _⟩⟩
 case round =>
  obtain⟨j,M,hj,rfl,hI⟩:=hrel
  obtain⟨ba,bc,rfl⟩:=owns_slice hI.out.2.1
  by_cases hlt:j<n
  ·have hjl:j<l.length:=by rw [HN.out.1];exact hlt
   have hjr:j<rs.length:=by rw [HN.out.2];exact hjl
   obtain⟨bb,o,rfl,hbl,hcc⟩:=HC.out (by omega)
   have x0:=(hI.out.2.2.cell (p:=⟨bb,o+j,none⟩) (by exact hbl)).trans (hcc j hjl)
   have hk:=HK.out j hjl wr
   have hg:rs.getD j []=rs[j]:=by simp [List.getD,hjr]
   rw [hg] at hk
   have hs:=rwB_snoc rs j hjr
   have hle:=HT.out j hjr
   rw [hs,List.length_append,nB_len] at hle
   obtain⟨hr4,hrz⟩:=HB.out _ (List.getElem_mem hjr)
   obtain⟨r,hr⟩:∃ r,rs[j]=r:=⟨_,rfl⟩
   obtain⟨m,hm⟩:∃ m,r.length=m:=⟨_,rfl⟩
   rw [hr] at hk hs hle hr4 hrz
   rw [hm] at hk hle hr4
   generalize l[j]=lj at x0 hk
   have HS:=Lib.hid hs
   have HZ:=Lib.hid hrz
   have HM:=Lib.hid hm
   obtain⟨hM,hown,hB⟩:=hI.out
   rw [hM] at hle
   have HO:=Lib.hid (And.intro hown hB)
   have HKK:=Lib.hid hk
   have hsz:=hB.size
   obtain⟨P,hP⟩:∃ P,rwB (rs.take j)=P:=⟨_,rfl⟩
   rw [hP] at hM HO HS
   have HMM:=Lib.hid hM
   clear hI hcc hk hg hs hrz hr hm hM hown hB hP
   go_wp2_with (go_at_call 158;((with_reducible refine (HKK.out).mono ?_);rintro e w1 ⟨⟨ra,rc,rfl,ro⟩,b1⟩))
   have HI:Hid (w1.ownsRow w.heap.size 5 1 (.slice ba M bc) (M+4*0) ((P++nB (r.take 0)).map eB)∧w1.ownsRow wr.heap.size 3 1 (.slice ra m rc) m (r.map eI)∧Below w.heap.size w w1):=Lib.hid ⟨by simpa [nB] using own_below HO.out.1 b1,ro,bch HO.out.2 b1⟩
   clear ro b1 HKK x0 HO
   go_loopw [5,22] (fun bv q wr2=>∃ i:Nat,i≤m∧q=.int .i64 (i:Int)∧Hid (wr2.ownsRow w.heap.size 5 1 bv (M+4*i) ((P++nB (r.take i)).map eB)∧wr2.ownsRow wr.heap.size 3 1 (.slice ra m rc) m (r.map eI)∧Below w.heap.size w wr2)) (fun _ q _=>m-(intOf q).toNat)
   case atStart=>exact⟨0,Nat.zero_le _,rfl,HI⟩
   case round =>
    clear HI
    obtain⟨i,hi,rfl,hI⟩:=hrel
    obtain⟨oa,oc,rfl⟩:=owns_slice hI.out.1
    by_cases hlt2:i<m
    ·have hil:i<r.length:=by rw [HM.out];exact hlt2
     have hrw:=Rw.own (enc:=eI) (l:=r) (by rw [HM.out];exact hI.out.2.1)
     obtain⟨-,-,-,hrc⟩:=hrw.at
     obtain⟨rb,rof,rfl,hrl,hrcc⟩:=hrc (by omega)
     have y0:=hrcc i hil
     have hz:=HZ.out _ (List.getElem_mem hil)
     have hcs:=e4_cells hz
     have hsn:=nB_snoc r i hil
     obtain⟨z,hzz⟩:∃ z,r[i]=z:=⟨_,rfl⟩
     rw [hzz] at y0 hz hcs hsn
     have hap:(P++nB (r.take i)).map eB++[.int .u8 (z % 256),.int .u8 (z / 256 % 256),.int .u8 (z / 65536 % 256),.int .u8 (z / 16777216)]=(P++nB (r.take (i+1))).map eB:=by
      rw [hsn,← hcs,← List.append_assoc,List.map_append (l₁:=P++nB (r.take i))]
     have HAP:=Lib.hid hap
     obtain⟨hown,hro,hB⟩:=hI.out
     have HRO:=Lib.hid hro
     have hbs:=hB.size
     clear hI hrw hrc hrcc hzz hcs hsn hap hil hro
     go_wp2_with (at_builtin;go_loud (refine wpList_append_own _ rfl _ _ 23 rfl w.heap.size 5 ib (.int .u8 0) 1 1 Tryz.underlying23 ki kz0 kz1 kz2 rfl (by decide) _ (M+4*i) _ rfl (hown.alloc _) ⟨wr.heap.size,0,none⟩ 4 4 [.int .u8 (z % 256),.int .u8 (z / 256 % 256),.int .u8 (z / 65536 % 256),.int .u8 (z / 16777216)] rfl rfl (World.news_of_block (cs:=#[.int .u8 (z % 256),.int .u8 (z / 256 % 256),.int .u8 (z / 65536 % 256),.int .u8 (z / 16777216)]) (t:=5) (fr:=(0,0)) (heap_alloc_last wr _)) (by simp [Value.oneCell']) (by unfold maxLen;omega) (by omega) (by simp;omega) ?_;intro v' w5 hown6 hgrow6 _;have B2:=(hB.alloc hbs _).grown hgrow6 (by simp;omega) (own_base hown);have o2:=own_two (HRO.out.alloc _) (hown.alloc _) (by decide) hgrow6))
     go_roundw
     case rel=>exact⟨i+1,hlt2,by go_num,Lib.hid ⟨by rw [← HAP.out];exact hown6,o2,B2⟩⟩
     case measure=>simp [intOf];omega
    ·obtain rfl:i=m:=by omega
     have hto:r.take i=r:=List.take_of_length_le (by rw [HM.out];exact Nat.le_refl _)
     have h1:=hI.out
     rw [hto,← HS.out] at h1
     have HJ:=Lib.hid (And.intro h1.1 h1.2.2)
     have HL2:=Lib.hid (show (rwB (rs.take (j+1))).length=M+4*i by rw [HS.out,List.length_append,nB_len,HMM.out,HM.out])
     clear hI hto h1
     go_wp2
     go_roundw
     case rel=>exact⟨j+1,M+4*i,hlt,by go_num,Lib.hid ⟨HL2.out,HJ.out.1,HJ.out.2⟩⟩
     case measure=>simp [intOf];omega
  ·obtain rfl:j=n:=by omega
   have hto:rs.take j=rs:=List.take_of_length_le (by rw [HN.out.2,HN.out.1];exact Nat.le_refl _)
   have h1:=hI.out
   rw [hto,HL.out] at h1
   obtain⟨hM,hown,hB⟩:=h1
   subst hM
   have HR:=Lib.hid (And.intro (show Rw eB wr (.slice ba N bc) (rwB rs) from Rw.own (by rw [HL.out];exact hown)) hB)
   clear hI hto hown hB
   go_wp2
   go_ret
   exact⟨⟨_,_,rfl,HR.out.1⟩,HR.out.2⟩
end Go.Proofs.YtihiggnglmhggaaGreatDoor.L16
