/- Lemmas and walks of L11Tx, L11Me, L11Fn, L11Op, L11In: what each theorem states; conditions stand in each theorem. -/
import Derived.Test.YtgljoilddjmohaaGreatDoorM13
import Derived.Lib.ItoaLen
import Derived.Test.YtgljoilddjmohaaGreatDoorL11Fo
import Derived.Test.YtgljoilddjmohaaGreatDoorM8
import Derived.Maps.Own
import Derived.Deep.RegionWith
import Derived.Deep.DeepCutAuto
section
namespace Go.Proofs.YtgljoilddjmohaaGreatDoor.L11
open L10 (Stm Pg)
def nB (x:Int):ByteArray:=⟨(Lib.itoa x).toArray⟩
def oB (o:Int):ByteArray:=if o=0 then L9.eB else if 0<o then L9.tPlu++nB o else nB o
def meB (r o:Int):ByteArray:=L9.tOpn++(L2.nmS r++oB o)++L9.tShu
def isO (o:Int):Bool:=decide (-32768≤o) && decide (o≤32767)
def meT (r o:Int):ByteArray:=if L4.isG r && isO o then meB r o else L9.eB
def seB (x:L9.Ins):ByteArray:=if x.reg then L2.nmS x.src else nB x.imm
def heB (n:Int):ByteArray:=if n=1 then ⟨#[108,111,111,107,117,112]⟩ else if n=2 then ⟨#[117,112,100,97,116,101]⟩ else ⟨#[100,101,108,101,116,101]⟩
def spB:ByteArray:=⟨#[32]⟩
def lfB:ByteArray:=⟨#[10]⟩
def opL (f:Int) (x:L9.Ins) (tg mp:ByteArray):List ByteArray :=
 if f=0 then [L2.nmS x.dst,seB x] else if f=1 then [L2.nmS x.dst] else if f=2 then [L2.nmS x.dst,L2.nmS x.src] else if f=3 then [tg]
 else if f=4 then [L2.nmS x.dst,seB x,tg] else if f=5 then [heB x.imm] else if f=7 then [L2.nmS x.dst,meT x.src x.off]
 else if f=8 then [meT x.dst x.off,nB x.imm] else if f=9 then [meT x.dst x.off,L2.nmS x.src] else if f=10 then [L2.nmS x.dst,nB x.imm]
 else if f=11 then [L2.nmS x.dst,mp] else []
def opS (t:ByteArray) (i:Nat) (a:ByteArray):ByteArray:=(if 0<i then t++L9.tCom else t)++(spB++a)
def opF:ByteArray→Nat→List ByteArray→ByteArray
 | t,_,[]=>t
 | t,i,a::r=>opF (opS t i a) (i+1) r
def inT (x:L9.Ins) (tg mp:ByteArray):ByteArray:=opF (L3.nm (L3.ix x.op)) 0 (opL (L3.frm (L3.ix x.op)) x tg mp)
def smT (s:Stm):ByteArray:=inT s.x s.tg s.mp
def deT (d:L9.Df):ByteArray:=L9.mapT++spB++d.nm++spB++nB d.key++spB++nB d.val++spB++nB d.ent
def slT (s:Stm):List ByteArray:=s.labs.map (·++L9.tCol)++[smT s]
def lnT (p:Pg):List ByteArray:=p.maps.map deT++p.stmts.flatMap slT
def liT:List ByteArray→ByteArray
 | []=>L9.eB
 | t::r=>(t++lfB)++liT r
def pgT (p:Pg):ByteArray:=liT (lnT p)
theorem liT_app:∀ (l m:List ByteArray),liT (l++m)=liT l++liT m
 | [],m=>by
  rw [liT,List.nil_append]
  apply ByteArray.ext
  simp [L9.eB]
 | t::r,m=>by
  rw [List.cons_append,liT,liT,liT_app r m]
  apply ByteArray.ext
  simp [Array.append_assoc]
theorem nB_len (x:Int) (h0:-9223372036854775808≤x) (h1:x≤9223372036854775807):(nB x).size≤21:=by
 have:=Lib.itoa_length_le x h0 h1
 unfold nB
 show (Lib.itoa x).toArray.size≤21
 simpa using this
end Go.Proofs.YtgljoilddjmohaaGreatDoor.L11
end
section
set_option maxHeartbeats 1000000
namespace Go.Proofs.YtgljoilddjmohaaGreatDoor.L11
open Go.RowKit
attribute [local go_sem] Oper.semAt_some
theorem number_at (x:Int) (h0:-9223372036854775808≤x) (h1:x≤9223372036854775807) (w:World) (hT:Tb w):Calls Tryz.prog 69 #[.int .i64 x] w fun e w'=>e=.returned (.string (nB x))∧Below w.heap.size w w':=by
 have HF:=Lib.hid (format_at x h0 h1 w hT)
 clear hT
 go_enter Tryz.func69,Tryz.ntmps69
 go_wp2_with (go_at_call 103;((with_reducible refine (HF.out).mono ?_);rintro e w1 ⟨rfl,b1⟩))
 go_ret
 exact⟨rfl,b1⟩
theorem regS_size:∀ k,k<11→(L2.regS k).size≤3∧(L2.regS k).toList.isEmpty=false:=by
 intro k hk
 have h:∀ k,k<11→(L2.regS k).size≤3∧(L2.regS k).data.toList.isEmpty=false:=by decide +kernel
 rw [Lib.toList_data]
 exact h k hk
theorem nmS_G (r:Int) (h:L4.isG r=true):(L2.nmS r).size≤3∧(L2.nmS r).toList.isEmpty=false:=by
 unfold L4.isG at h
 simp only [Bool.and_eq_true,decide_eq_true_eq] at h
 have e:L2.nmS r=L2.regS r.toNat:=by unfold L2.nmS;rw [if_pos (by omega)]
 rw [e]
 exact regS_size _ (by omega)
theorem nmS_no (r:Int) (h:L4.isG r=false):L2.nmS r=L9.eB:=by
 unfold L4.isG at h
 have:¬ (0≤r∧r<11):=by
  intro ⟨a,b⟩
  simp only [Bool.and_eq_false_iff,decide_eq_false_iff_not] at h
  omega
 unfold L2.nmS
 rw [if_neg this]
 rfl
theorem nmS_len (r:Int):(L2.nmS r).size≤3:=by
 cases h:L4.isG r
 ·rw [nmS_no r h];decide
 ·exact (nmS_G r h).1
theorem isO_sx (o:Int):(L1.sx 16 o==o)=isO o:=by
 show ((o+32768) % 65536-32768==o)=_
 unfold isO
 rw [Bool.eq_iff_iff]
 simp only [Bool.and_eq_true,decide_eq_true_eq,beq_iff_eq]
 omega
theorem eB_emp:L9.eB.toList.isEmpty=true:=by rw [Lib.toList_data];rfl
theorem app1 (a b:ByteArray):(a++b).size=a.size+b.size:=by
 simp
theorem c91:(⟨#[91]⟩:ByteArray).size=1:=rfl
theorem c93:(⟨#[93]⟩:ByteArray).size=1:=rfl
theorem c43:(⟨#[43]⟩:ByteArray).size=1:=rfl
theorem memory_at (r o:Int) (h0:-9223372036854775808≤o) (h1:o≤9223372036854775807) (w:World) (hT:Tb w):Calls Tryz.prog 110 #[.int .i64 r,.int .i64 o] w fun e w'=>e=.returned (.string (meT r o))∧Below w.heap.size w w':=by
 have HN:=Lib.hid (fun W (h:Tb W)=>L2.name_any r W h.two.2)
 have HF:=Lib.hid (fun W (h:Tb W)=>L4.fits_is o 16 _ W h.two.1 (by decide) (isO_sx o))
 have HU:=Lib.hid (fun W (h:Tb W)=>number_at o h0 h1 W h)
 have HT:=Lib.hid hT
 have HB:=Lib.hid (Below.refl w.heap.size w)
 clear hT
 have hn:=nB_len o h0 h1
 have hl:=nmS_len r
 have z91:=c91
 have z93:=c93
 have z43:=c43
 cases hG:L4.isG r
 ·have hm:meT r o=L9.eB:=by unfold meT;rw [hG];rfl
  rw [hm]
  rw [nmS_no r hG] at HN
  have he:=eB_emp
  go_enter Tryz.func110,Tryz.ntmps110
  go_wp2_with (first
   | (go_at_call 105;((with_reducible refine (HN.out _ HT.out).mono ?_);rintro e w1 ⟨rfl,rfl⟩)))
  go_ret
  exact⟨rfl,HB.out⟩
 ·obtain⟨_,he⟩:=nmS_G r hG
  cases hO:isO o
  ·have hm:meT r o=L9.eB:=by unfold meT;rw [hG,hO];rfl
   rw [hm]
   rw [hO] at HF
   go_enter Tryz.func110,Tryz.ntmps110
   go_wp2_with (first
    | (go_at_call 105;((with_reducible refine (HN.out _ HT.out).mono ?_);rintro e w1 ⟨rfl,rfl⟩))
    | (go_at_call 56;((with_reducible refine (HF.out _ HT.out).mono ?_);rintro e w1 ⟨rfl,rfl⟩)))
   go_ret
   exact⟨rfl,HB.out⟩
  ·have hm:meT r o=meB r o:=by unfold meT;rw [hG,hO];rfl
   rw [hm]
   rw [hO] at HF
   clear hm hG hO
   by_cases hz:o=0
   ·have e:meB r o=(⟨#[91]⟩:ByteArray)++L2.nmS r++⟨#[93]⟩:=by
     unfold meB oB L9.tOpn L9.tShu
     rw [if_pos hz]
     apply ByteArray.ext
     simp [L9.eB]
    rw [e]
    clear e
    have s1:((⟨#[91]⟩:ByteArray)++L2.nmS r).size≤10:=by rw [app1,c91];omega
    have s2:((⟨#[91]⟩:ByteArray)++L2.nmS r++⟨#[93]⟩).size≤11:=by rw [app1,c93];omega
    subst hz
    go_enter Tryz.func110,Tryz.ntmps110
    go_wp2_with (first
     | (go_at_call 105;((with_reducible refine (HN.out _ HT.out).mono ?_);rintro e w1 ⟨rfl,rfl⟩))
     | (go_at_call 56;((with_reducible refine (HF.out _ HT.out).mono ?_);rintro e w1 ⟨rfl,rfl⟩)))
    go_ret
    exact⟨rfl,HB.out⟩
   ·by_cases hp:0<o
    ·have e:meB r o=(⟨#[91]⟩:ByteArray)++(L2.nmS r++⟨#[43]⟩)++nB o++⟨#[93]⟩:=by
      unfold meB oB L9.tOpn L9.tShu L9.tPlu
      rw [if_neg hz,if_pos hp]
      apply ByteArray.ext
      simp
     rw [e]
     clear e
     have s1:(L2.nmS r++(⟨#[43]⟩:ByteArray)).size≤10:=by rw [app1,c43];omega
     have s2:((⟨#[91]⟩:ByteArray)++(L2.nmS r++⟨#[43]⟩)).size≤11:=by rw [app1,c91];omega
     have s3:((⟨#[91]⟩:ByteArray)++(L2.nmS r++⟨#[43]⟩)++nB o).size≤40:=by rw [app1];omega
     have s4:((⟨#[91]⟩:ByteArray)++(L2.nmS r++⟨#[43]⟩)++nB o++⟨#[93]⟩).size≤41:=by rw [app1,c93];omega
     go_enter Tryz.func110,Tryz.ntmps110
     go_wp2_with (first
      | (go_at_call 105;((with_reducible refine (HN.out _ HT.out).mono ?_);rintro e w1 ⟨rfl,rfl⟩))
      | (go_at_call 56;((with_reducible refine (HF.out _ HT.out).mono ?_);rintro e w1 ⟨rfl,rfl⟩))
      | (go_at_call 69;((with_reducible refine (HU.out _ HT.out).mono ?_);rintro e w1 ⟨rfl,b1⟩)))
     go_ret
     exact⟨rfl,b1⟩
    ·have e:meB r o=(⟨#[91]⟩:ByteArray)++L2.nmS r++nB o++⟨#[93]⟩:=by
      unfold meB oB L9.tOpn L9.tShu
      rw [if_neg hz,if_neg hp]
      apply ByteArray.ext
      simp
     rw [e]
     clear e
     have s2:((⟨#[91]⟩:ByteArray)++L2.nmS r).size≤11:=by rw [app1,c91];omega
     have s3:((⟨#[91]⟩:ByteArray)++L2.nmS r++nB o).size≤40:=by rw [app1];omega
     have s4:((⟨#[91]⟩:ByteArray)++L2.nmS r++nB o++⟨#[93]⟩).size≤41:=by rw [app1,c93];omega
     go_enter Tryz.func110,Tryz.ntmps110
     go_wp2_with (first
      | (go_at_call 105;((with_reducible refine (HN.out _ HT.out).mono ?_);rintro e w1 ⟨rfl,rfl⟩))
      | (go_at_call 56;((with_reducible refine (HF.out _ HT.out).mono ?_);rintro e w1 ⟨rfl,rfl⟩))
      | (go_at_call 69;((with_reducible refine (HU.out _ HT.out).mono ?_);rintro e w1 ⟨rfl,b1⟩)))
     go_ret
     exact⟨rfl,b1⟩
theorem helper_at (n:Int) (w:World):Calls Tryz.prog 114 #[.int .i64 n] w fun e w'=>e=.returned (.string (heB n))∧w=w':=by
 unfold heB
 by_cases h1:n=1
 ·rw [if_pos h1]
  subst h1
  go_enter Tryz.func114,Tryz.ntmps114
  go_wp2
  go_ret
  exact⟨rfl,rfl⟩
 ·rw [if_neg h1]
  by_cases h2:n=2
  ·rw [if_pos h2]
   subst h2
   go_enter Tryz.func114,Tryz.ntmps114
   go_wp2
   go_ret
   exact⟨rfl,rfl⟩
  ·rw [if_neg h2]
   go_enter Tryz.func114,Tryz.ntmps114
   go_wp2
   go_ret
   exact⟨rfl,rfl⟩
end Go.Proofs.YtgljoilddjmohaaGreatDoor.L11
end
section
set_option maxHeartbeats 1000000
namespace Go.Proofs.YtgljoilddjmohaaGreatDoor.L11
open Go.RowKit
attribute [local go_sem] Oper.semAt_some
inductive Fk where
 | dst|src|imm|sec|frm|to|tgt|hlp|mpn
def ksF (f:Int):List Fk :=
 if f=0 then [.dst,.sec] else if f=1 then [.dst] else if f=2 then [.dst,.src] else if f=3 then [.tgt] else if f=4 then [.dst,.sec,.tgt] else if f=5 then [.hlp]
 else if f=7 then [.dst,.frm] else if f=8 then [.to,.imm] else if f=9 then [.to,.src] else if f=10 then [.dst,.imm] else if f=11 then [.dst,.mpn] else []
def ov (x:L9.Ins) (tg mp:ByteArray):Fk→ByteArray
 | .dst=>L2.nmS x.dst
 | .src=>L2.nmS x.src
 | .imm=>nB x.imm
 | .sec=>seB x
 | .frm=>meT x.src x.off
 | .to=>meT x.dst x.off
 | .tgt=>tg
 | .hlp=>heB x.imm
 | .mpn=>mp
theorem opL_ks (f:Int) (x:L9.Ins) (tg mp:ByteArray):opL f x tg mp=(ksF f).map (ov x tg mp):=by
 unfold opL ksF
 simp only [apply_ite (List.map (ov x tg mp))]
 rfl
def fkN:Fk→FuncId
 | .dst=>104
 | .src=>106
 | .imm=>107
 | .sec=>108
 | .frm=>109
 | .to=>111
 | .tgt=>112
 | .hlp=>113
 | .mpn=>115
def fkC (k1 k3 k5 k6:Nat):Fk→Array Value
 | .dst=>#[.pointer (some ⟨k3,0,none⟩)]
 | .src=>#[.pointer (some ⟨k3,0,none⟩)]
 | .imm=>#[.pointer (some ⟨k3,0,none⟩)]
 | .sec=>#[.pointer (some ⟨k3,0,none⟩),.pointer (some ⟨k5,0,none⟩),.pointer (some ⟨k6,0,none⟩)]
 | .frm=>#[.pointer (some ⟨k3,0,none⟩)]
 | .to=>#[.pointer (some ⟨k3,0,none⟩)]
 | .tgt=>#[.pointer (some ⟨k1,0,none⟩)]
 | .hlp=>#[.pointer (some ⟨k3,0,none⟩)]
 | .mpn=>#[.pointer (some ⟨k1,0,none⟩)]
def fkV (k1 k3 k5 k6:Nat) (k:Fk):Value:=.func (.func (fkN k)) #[] (fkC k1 k3 k5 k6 k)
abbrev inA (op:Int) (reg:Bool) (dst src off imm:Int):Array Value:=#[.int .i64 op,.bool reg,.int .i64 dst,.int .i64 src,.int .i64 off,.int .i64 imm]
abbrev stA (lv:Value) (op:Int) (reg:Bool) (dst src off imm:Int) (tg mp:ByteArray):Array Value:=#[lv,.int .i64 op,.bool reg,.int .i64 dst,.int .i64 src,.int .i64 off,.int .i64 imm,.string tg,.string mp]
structure Hd (w:World) (k1 k3 k5 k6:Nat) (lv:Value) (op:Int) (reg:Bool) (dst src off imm:Int) (tg mp:ByteArray):Prop where
 x:w.heap[k3]?=some (.cells (inA op reg dst src off imm) 50)
 s:w.heap[k1]?=some (.cells (stA lv op reg dst src off imm tg mp) 52)
 f5:w.heap[k5]?=some (.cells #[fkV k1 k3 k5 k6 .src] 119)
 f6:w.heap[k6]?=some (.cells #[fkV k1 k3 k5 k6 .imm] 119)
 tb:Tb w
section
variable {w w':World} {k1 k3 k5 k6:Nat} {lv:Value} {op:Int} {reg:Bool} {dst src off imm:Int} {tg mp:ByteArray}
theorem Hd.below (h:Hd w k1 k3 k5 k6 lv op reg dst src off imm tg mp) (hb:Below w.heap.size w w'):Hd w' k1 k3 k5 k6 lv op reg dst src off imm tg mp :=
 ⟨L8.row_up h.x hb,L8.row_up h.s hb,L8.row_up h.f5 hb,L8.row_up h.f6 hb,h.tb.below hb⟩
theorem cl6 {k:Nat} {a b c d e f:Value} {t:TypeId} (h:w.heap[k]?=some (.cells #[a,b,c,d,e,f] t)):w.cell? ⟨k,0,none⟩=some a∧w.cell? ⟨k,1,none⟩=some b∧w.cell? ⟨k,2,none⟩=some c∧w.cell? ⟨k,3,none⟩=some d∧w.cell? ⟨k,4,none⟩=some e∧w.cell? ⟨k,5,none⟩=some f:=by
 simp [World.cell?,h]
theorem cl9 {k:Nat} {a b c d e f g i j:Value} {t:TypeId} (h:w.heap[k]?=some (.cells #[a,b,c,d,e,f,g,i,j] t)):w.cell? ⟨k,0,none⟩=some a∧w.cell? ⟨k,1,none⟩=some b∧w.cell? ⟨k,2,none⟩=some c∧w.cell? ⟨k,3,none⟩=some d∧w.cell? ⟨k,4,none⟩=some e∧w.cell? ⟨k,5,none⟩=some f∧w.cell? ⟨k,6,none⟩=some g∧w.cell? ⟨k,7,none⟩=some i∧w.cell? ⟨k,8,none⟩=some j:=by
 simp [World.cell?,h]
theorem cl1 {k:Nat} {a:Value} {t:TypeId} (h:w.heap[k]?=some (.cells #[a] t)):w.cell? ⟨k,0,none⟩=some a:=by
 simp [World.cell?,h]
structure Rng (off imm:Int):Prop where
 o0:-9223372036854775808≤off
 o1:off≤9223372036854775807
 i0:-9223372036854775808≤imm
 i1:imm≤9223372036854775807
abbrev FkP (w:World) (t:ByteArray) (e:Ending) (w':World):Prop:=e=.returned (.string t)∧Below w.heap.size w w'
theorem dst_at (H:Hd w k1 k3 k5 k6 lv op reg dst src off imm tg mp) (_:Rng off imm):Calls Tryz.prog 104 #[.pointer (some ⟨k3,0,none⟩)] w (FkP w (L2.nmS dst)):=by
 have HC:=Lib.hid (L2.name_any dst w H.tb.two.2)
 obtain⟨x0,x1,x2,x3,x4,x5⟩:=cl6 H.x
 clear H
 go_enter Tryz.func104,Tryz.ntmps104
 go_wp2_with (go_at_call 105;((with_reducible refine (HC.out).mono ?_);rintro e w1 ⟨rfl,rfl⟩))
 go_ret
 exact⟨rfl,Below.refl _ _⟩
theorem src_at (H:Hd w k1 k3 k5 k6 lv op reg dst src off imm tg mp) (_:Rng off imm):Calls Tryz.prog 106 #[.pointer (some ⟨k3,0,none⟩)] w (FkP w (L2.nmS src)):=by
 have HC:=Lib.hid (L2.name_any src w H.tb.two.2)
 obtain⟨x0,x1,x2,x3,x4,x5⟩:=cl6 H.x
 clear H
 go_enter Tryz.func106,Tryz.ntmps106
 go_wp2_with (go_at_call 105;((with_reducible refine (HC.out).mono ?_);rintro e w1 ⟨rfl,rfl⟩))
 go_ret
 exact⟨rfl,Below.refl _ _⟩
theorem imm_at (H:Hd w k1 k3 k5 k6 lv op reg dst src off imm tg mp) (hR:Rng off imm):Calls Tryz.prog 107 #[.pointer (some ⟨k3,0,none⟩)] w (FkP w (nB imm)):=by
 have HC:=Lib.hid (number_at imm hR.i0 hR.i1 w H.tb)
 obtain⟨x0,x1,x2,x3,x4,x5⟩:=cl6 H.x
 clear H hR
 go_enter Tryz.func107,Tryz.ntmps107
 go_wp2_with (go_at_call 69;((with_reducible refine (HC.out).mono ?_);rintro e w1 ⟨rfl,b1⟩))
 go_ret
 exact⟨rfl,b1⟩
theorem frm_at (H:Hd w k1 k3 k5 k6 lv op reg dst src off imm tg mp) (hR:Rng off imm):Calls Tryz.prog 109 #[.pointer (some ⟨k3,0,none⟩)] w (FkP w (meT src off)):=by
 have HC:=Lib.hid (memory_at src off hR.o0 hR.o1 w H.tb)
 obtain⟨x0,x1,x2,x3,x4,x5⟩:=cl6 H.x
 clear H hR
 go_enter Tryz.func109,Tryz.ntmps109
 go_wp2_with (go_at_call 110;((with_reducible refine (HC.out).mono ?_);rintro e w1 ⟨rfl,b1⟩))
 go_ret
 exact⟨rfl,b1⟩
theorem to_at (H:Hd w k1 k3 k5 k6 lv op reg dst src off imm tg mp) (hR:Rng off imm):Calls Tryz.prog 111 #[.pointer (some ⟨k3,0,none⟩)] w (FkP w (meT dst off)):=by
 have HC:=Lib.hid (memory_at dst off hR.o0 hR.o1 w H.tb)
 obtain⟨x0,x1,x2,x3,x4,x5⟩:=cl6 H.x
 clear H hR
 go_enter Tryz.func111,Tryz.ntmps111
 go_wp2_with (go_at_call 110;((with_reducible refine (HC.out).mono ?_);rintro e w1 ⟨rfl,b1⟩))
 go_ret
 exact⟨rfl,b1⟩
theorem tgt_at (H:Hd w k1 k3 k5 k6 lv op reg dst src off imm tg mp) (_:Rng off imm):Calls Tryz.prog 112 #[.pointer (some ⟨k1,0,none⟩)] w (FkP w (tg)):=by
 obtain⟨x0,x1,x2,x3,x4,x5,x6,x7,x8⟩:=cl9 H.s
 clear H
 go_enter Tryz.func112,Tryz.ntmps112
 go_wp2
 go_ret
 exact⟨rfl,Below.refl _ _⟩
theorem hlp_at (H:Hd w k1 k3 k5 k6 lv op reg dst src off imm tg mp) (_:Rng off imm):Calls Tryz.prog 113 #[.pointer (some ⟨k3,0,none⟩)] w (FkP w (heB imm)):=by
 have HC:=Lib.hid (helper_at imm w)
 obtain⟨x0,x1,x2,x3,x4,x5⟩:=cl6 H.x
 clear H
 go_enter Tryz.func113,Tryz.ntmps113
 go_wp2_with (go_at_call 114;((with_reducible refine (HC.out).mono ?_);rintro e w1 ⟨rfl,rfl⟩))
 go_ret
 exact⟨rfl,Below.refl _ _⟩
theorem mpn_at (H:Hd w k1 k3 k5 k6 lv op reg dst src off imm tg mp) (_:Rng off imm):Calls Tryz.prog 115 #[.pointer (some ⟨k1,0,none⟩)] w (FkP w (mp)):=by
 obtain⟨x0,x1,x2,x3,x4,x5,x6,x7,x8⟩:=cl9 H.s
 clear H
 go_enter Tryz.func115,Tryz.ntmps115
 go_wp2
 go_ret
 exact⟨rfl,Below.refl _ _⟩
theorem sec_at (H:Hd w k1 k3 k5 k6 lv op reg dst src off imm tg mp) (hR:Rng off imm):Calls Tryz.prog 108 #[.pointer (some ⟨k3,0,none⟩),.pointer (some ⟨k5,0,none⟩),.pointer (some ⟨k6,0,none⟩)] w (FkP w (seB ⟨op,reg,dst,src,off,imm⟩)):=by
 have HS:=Lib.hid (src_at H hR)
 have HI:=Lib.hid (imm_at H hR)
 obtain⟨x0,x1,x2,x3,x4,x5⟩:=cl6 H.x
 have y5:w.cell? ⟨k5,0,none⟩=some (.func (.func 106) #[] #[.pointer (some ⟨k3,0,none⟩)]):=cl1 H.f5
 have y6:w.cell? ⟨k6,0,none⟩=some (.func (.func 107) #[] #[.pointer (some ⟨k3,0,none⟩)]):=cl1 H.f6
 clear H hR
 cases reg
 ·go_enter Tryz.func108,Tryz.ntmps108
  go_wp2_with (go_at_call 107;((with_reducible refine (HI.out).mono ?_);rintro e w1 ⟨rfl,b1⟩))
  go_ret
  exact⟨rfl,b1⟩
 ·go_enter Tryz.func108,Tryz.ntmps108
  go_wp2_with (go_at_call 106;((with_reducible refine (HS.out).mono ?_);rintro e w1 ⟨rfl,b1⟩))
  go_ret
  exact⟨rfl,b1⟩
theorem fk_at (k:Fk) (H:Hd w k1 k3 k5 k6 lv op reg dst src off imm tg mp) (hR:Rng off imm):Calls Tryz.prog (fkN k) (fkC k1 k3 k5 k6 k) w (FkP w (ov ⟨op,reg,dst,src,off,imm⟩ tg mp k)):=by
 cases k
 ·exact dst_at H hR
 ·exact src_at H hR
 ·exact imm_at H hR
 ·exact sec_at H hR
 ·exact frm_at H hR
 ·exact to_at H hR
 ·exact tgt_at H hR
 ·exact hlp_at H hR
 ·exact mpn_at H hR
end
end Go.Proofs.YtgljoilddjmohaaGreatDoor.L11
end
section
set_option maxRecDepth 100000
set_option maxHeartbeats 8000000
namespace Go.Proofs.YtgljoilddjmohaaGreatDoor.L11
open Go.RowKit Go.Maps
attribute [local go_sem] Oper.semAt_some
abbrev mT:TypeId:=117
abbrev fT:TypeId:=119
def RV (v:Value):Option (DataW Value × List MemPlace):=some (.held v,[])
def mk (f:Int):Lit:=.int .i64 f
def zV:Value:=.slice none 0 0
theorem lawI:Keyed Tryz.prog 3:=int_keyed Tryz.underlying3
abbrev OwM (W:World) (b n:Nat) (D:DataW Value):Prop:=W.ownsMap Tryz.prog 3 RV b n D
def FkAt (W:World) (v:Value) (l:List Fk) (k1 k3 k5 k6:Nat):Prop:=(∃ k0,v=.slice (some ⟨k0,0,none⟩) l.length l.length∧W.heap[k0]?=some (.cells (l.map (fkV k1 k3 k5 k6)).toArray fT))∨(l=[]∧v=zV)
def Mk (W:World) (b n k1 k3 k5 k6:Nat) (l:List Int):Prop:=∃ D,OwM W b n D∧IsMap D∧∀ f,(f∈l→∃ v,D.atKey (mk f) (.held zV)=.held v∧FkAt W v (ksF f) k1 k3 k5 k6)∧(f∉l→D.atKey (mk f) (.held zV)=.held zV)
theorem own_bel {W W':World} {b n:Nat} {D:DataW Value} (h:OwM W b n D) (hb:Below W.heap.size W W'):OwM W' b n D:=by
 have hlt:=h.lt
 obtain⟨es,clock,hh,F,hs,hD⟩:=h
 exact⟨es,clock,(hb.block b hlt).trans hh,F,hs,hD⟩
theorem row_map {W W':World} {b n k:Nat} {D:DataW Value} {cs:Array Value} {t:TypeId} (h:OwM W b n D) (hg:W.grownBy W' (some b)) (hk:W.heap[k]?=some (.cells cs t)):W'.heap[k]?=some (.cells cs t):=by
 refine (hg.block k (lt_of_block hk) ?_).trans hk
 intro e
 cases e
 obtain⟨es,clock,hh,_⟩:=h
 rw [hk] at hh
 cases hh
theorem FkAt.map {W W':World} {b n:Nat} {D:DataW Value} {v:Value} {l:List Fk} {k1 k3 k5 k6:Nat} (h:FkAt W v l k1 k3 k5 k6) (ho:OwM W b n D) (hg:W.grownBy W' (some b)):FkAt W' v l k1 k3 k5 k6:=by
 rcases h with ⟨k0,rfl,hh⟩|h
 ·exact .inl ⟨k0,rfl,row_map ho hg hh⟩
 ·exact .inr h
theorem FkAt.below {W W':World} {v:Value} {l:List Fk} {k1 k3 k5 k6:Nat} (h:FkAt W v l k1 k3 k5 k6) (hb:Below W.heap.size W W'):FkAt W' v l k1 k3 k5 k6:=by
 rcases h with ⟨k0,rfl,hh⟩|h
 ·exact .inl ⟨k0,rfl,L8.row_up hh hb⟩
 ·exact .inr h
theorem Mk.below {W W':World} {b n k1 k3 k5 k6:Nat} {l:List Int} (h:Mk W b n k1 k3 k5 k6 l) (hb:Below W.heap.size W W'):Mk W' b n k1 k3 k5 k6 l:=by
 obtain⟨D,ho,hI,hat⟩:=h
 exact⟨D,own_bel ho hb,hI,fun f=>⟨fun hf=>((hat f).1 hf).elim fun v hv=>⟨v,hv.1,hv.2.below hb⟩,(hat f).2⟩⟩
theorem Mk.zero (w:World) (k1 k3 k5 k6:Nat):Mk (w.alloc (.map #[] 0)) w.heap.size 0 k1 k3 k5 k6 [] :=
 ⟨_,World.ownsMap_made (H:=Value) w Tryz.prog 3 RV,isMap_empty,fun f=>⟨fun h=>(by cases h),fun _=>rfl⟩⟩
section
variable {w0 W:World} {b n k1 k3 k5 k6:Nat} {l:List Int} {lv:Value} {op:Int} {reg:Bool} {dst src off imm:Int} {tg mp:ByteArray}
structure Sp (w0 W:World) (b n k1 k3 k5 k6:Nat) (l:List Int) (lv:Value) (op:Int) (reg:Bool) (dst src off imm:Int) (tg mp:ByteArray):Prop where
 mm:Mk W b n k1 k3 k5 k6 l
 hh:Hd W k1 k3 k5 k6 lv op reg dst src off imm tg mp
 bl:Below w0.heap.size w0 W
 gb:w0.heap.size≤b
theorem wp_ins {P:Program} (hP:P=Tryz.prog) {ops:Array Oper} {rest:List Oper} {o:Oper} {a:Act} {Q:Exit→Act→World→Prop}
  (hS:Sp w0 W b n k1 k3 k5 k6 l lv op reg dst src off imm tg mp) (hT:Tb w0) (f:Int) (ks:List Fk) (hks:ksF f=ks) (hf:f∉l) (hwf:(Lit.int .i64 f).wf=true) (hn:n≤20)
  (hg:o.guard=none) (m x v:Operand) (hop:o.op=Op.insert mT m x v) (hm:a.eval m=.map (some b)) (hx:a.eval x=.int .i64 f) (c:Array Value) (hc:(ks.map (fkV k1 k3 k5 k6)).toArray=c) (len:Nat) (hl:ks.length=len)
  (g:Nat) (hv:a.eval v=.slice (some ⟨g,0,none⟩) len len) (hgs:W.heap.size=g)
  (hK:∀ w2,Sp w0 w2 b (n+1) k1 k3 k5 k6 (f::l) lv op reg dst src off imm tg mp→wpList P ops Q rest (a.put o.dst undef) w2) :
  wpList P ops Q (o::rest) a (W.alloc (.cells c fT)):=by
 subst hP hl hc hgs
 obtain⟨⟨D,ho,hI,hat⟩,hH,hB,hgb⟩:=hS
 have hb1:Below W.heap.size W (W.alloc (.cells (ks.map (fkV k1 k3 k5 k6)).toArray fT)):=L8.bnew W _
 have ho1:=own_bel ho hb1
 refine wpList_plain hg fun K' hK'=>?_
 obtain⟨w2,hrun,r1,r2⟩:=ho1.update (d:=.held (.slice (some ⟨W.heap.size,0,none⟩) ks.length ks.length)) (ps:=[]) (val:=.slice (some ⟨W.heap.size,0,none⟩) ks.length ks.length) lawI Tryz.underlying117 (by unfold maxLen;omega) (keyOf_int_mk Tryz.underlying3 hwf) rfl
 unfold Oper.wp
 simp [execOp,hop,hm,hx,hv,hrun,Result.andThen]
 have hB1:=L2.bch hB hb1
 have hB2:Below w0.heap.size w0 w2:=hB1.grown r2 hB1.size (fun i hi=>by cases hi;exact hgb)
 refine hK' _ _ (hK w2 ⟨⟨_,r1,hI.put _ _,fun f'=>?_⟩,?_,hB2,hgb⟩)
 ·by_cases e:f'=f
  ·subst e
   refine⟨fun _=>⟨_,atKey_put_same hI (show WideAt.IsKeyLit (mk f') from trivial) _ _,?_⟩,fun h=>absurd (List.mem_cons_self ..) h⟩
   rw [hks]
   exact .inl ⟨W.heap.size,rfl,row_map ho1 r2 (heap_alloc_last W _)⟩
  ·have hne:mk f'≠mk f:=fun h=>e (by simpa [mk] using h)
   have hp:∀ d,(D.put (mk f) d).atKey (mk f') (.held zV)=D.atKey (mk f') (.held zV):=fun d=>atKey_put_other hne _ _
   refine⟨fun h=>?_,fun h=>?_⟩
   ·obtain⟨v,h1,h2⟩:=(hat f').1 ((List.mem_cons.1 h).resolve_left e)
    exact⟨v,(hp _).trans h1,(h2.below hb1).map ho1 r2⟩
   ·exact (hp _).trans ((hat f').2 (fun h'=>h (List.mem_cons_of_mem _ h')))
 ·have h1:=hH.below hb1
  exact⟨row_map ho1 r2 h1.x,row_map ho1 r2 h1.s,row_map ho1 r2 h1.f5,row_map ho1 r2 h1.f6,hT.below hB2⟩
def OpP (lv:Value) (op:Int) (reg:Bool) (dst src off imm:Int) (tg mp:ByteArray) (w:World) (e:Ending) (w':World):Prop :=
 ∃ b k1 k3 k5 k6,e=.returned (.map (some b))∧Mk w' b 11 k1 k3 k5 k6 [11,10,9,8,7,5,4,3,2,1,0]∧Hd w' k1 k3 k5 k6 lv op reg dst src off imm tg mp∧Below w.heap.size w w'
theorem operands_at (lv:Value) (op:Int) (reg:Bool) (dst src off imm:Int) (tg mp:ByteArray) (w:World) (hT:Tb w) (hlv:∃ a n c,lv=.slice a n c) :
  Calls Tryz.prog 72 #[.agg (stA lv op reg dst src off imm tg mp)] w (OpP lv op reg dst src off imm tg mp w):=by
 obtain⟨la,ln,lc,rfl⟩:=hlv
 have hmm:=@run_makeMap Tryz.prog
 have hmf:∀ (fn:Fn) (first cap:Array Value) (w:World),(Instr.makeFunc fn first cap).run Tryz.prog w=.ok (.func fn first cap) w:=fun _ _ _ _=>rfl
 have HT:=Lib.hid hT
 clear hT
 have hS0:=heap_alloc_last w (.cells (stA (.slice la ln lc) op reg dst src off imm tg mp) 52)
 have hB0:=L8.bnew w (.cells (stA (.slice la ln lc) op reg dst src off imm tg mp) 52)
 have hT0:=HT.out.new (.cells (stA (.slice la ln lc) op reg dst src off imm tg mp) 52)
 go_enter Tryz.func72,Tryz.ntmps72
 go_upto_region 1 with (fail)
 generalize w.alloc (.cells (stA (.slice la ln lc) op reg dst src off imm tg mp) 52)=W0 at hS0 hB0 hT0 ⊢
 generalize w.heap.size=k1 at hS0 ⊢
 obtain⟨x0,x1,x2,x3,x4,x5,x6,x7,x8⟩:=cl9 hS0
 go_upto_region 2 with (fail)
 have hX1:=heap_alloc_last W0 (.cells (inA op reg dst src off imm) 50)
 have hb1:=L8.bnew W0 (.cells (inA op reg dst src off imm) 50)
 have hT1:=hT0.new (.cells (inA op reg dst src off imm) 50)
 clear x0 x1 x2 x3 x4 x5 x6 x7 x8
 generalize W0.alloc (.cells (inA op reg dst src off imm) 50)=W1 at hX1 hb1 hT1 ⊢
 generalize W0.heap.size=k3 at hX1 ⊢
 have hS1:=L8.row_up hS0 hb1
 have hB1:=L2.bch hB0 hb1
 go_upto_region 4 with (fail)
 have hF2:=heap_alloc_last W1 (.cells #[.func (.func 106) #[] #[.pointer (some ⟨k3,0,none⟩)]] fT)
 have hb2:=L8.bnew W1 (.cells #[.func (.func 106) #[] #[.pointer (some ⟨k3,0,none⟩)]] fT)
 have hT2:=hT1.new (.cells #[.func (.func 106) #[] #[.pointer (some ⟨k3,0,none⟩)]] fT)
 generalize W1.alloc (.cells #[.func (.func 106) #[] #[.pointer (some ⟨k3,0,none⟩)]] fT)=W2 at hF2 hb2 hT2 ⊢
 have hS2:=L8.row_up hS1 hb2
 have hX2:=L8.row_up hX1 hb2
 have hB2:=L2.bch hB1 hb2
 generalize W1.heap.size=k5 at hF2 ⊢
 go_upto_region 5 with (fail)
 have hG3:=heap_alloc_last W2 (.cells #[.func (.func 107) #[] #[.pointer (some ⟨k3,0,none⟩)]] fT)
 have hb3:=L8.bnew W2 (.cells #[.func (.func 107) #[] #[.pointer (some ⟨k3,0,none⟩)]] fT)
 have hT3:=hT2.new (.cells #[.func (.func 107) #[] #[.pointer (some ⟨k3,0,none⟩)]] fT)
 generalize W2.alloc (.cells #[.func (.func 107) #[] #[.pointer (some ⟨k3,0,none⟩)]] fT)=W3 at hG3 hb3 hT3 ⊢
 have hS3:=L8.row_up hS2 hb3
 have hX3:=L8.row_up hX2 hb3
 have hF3:=L8.row_up hF2 hb3
 have hB3:=L2.bch hB2 hb3
 generalize W2.heap.size=k6 at hG3 ⊢
 have hb4:=L8.bnew W3 (.map #[] 0)
 have hgb:=hB3.size
 have S0:Sp w (W3.alloc (.map #[] 0)) W3.heap.size 0 k1 k3 k5 k6 [] (.slice la ln lc) op reg dst src off imm tg mp :=
  ⟨Mk.zero W3 k1 k3 k5 k6,⟨L8.row_up hX3 hb4,L8.row_up hS3 hb4,L8.row_up hF3 hb4,L8.row_up hG3 hb4,hT3.below hb4⟩,L2.bch hB3 hb4,hgb⟩
 have HS0:=Lib.hid S0
 clear S0 hS0 hS1 hS2 hS3 hX1 hX2 hX3 hF2 hF3 hG3 hB0 hB1 hB2 hB3 hb1 hb2 hb3 hb4 hT0 hT1 hT2 hT3 hgb
 go_upto_region 9 with (fail)
 go_wp2_with (first
  | (refine wp_ins rfl HS0.out HT.out 0 [.dst,.sec] (by simp [ksF]) (by simp) (by decide) (by decide) rfl _ _ _ rfl rfl rfl _ rfl 2 rfl _ rfl (by simp) ?_;intro w1 S1;have y5:=cl1 S1.hh.f5;have y6:=cl1 S1.hh.f6;simp only [fkV,fkN,fkC] at y5 y6;have HS1:=Lib.hid S1;clear S1)
  | (refine wp_ins rfl HS1.out HT.out 1 [.dst] (by simp [ksF]) (by simp) (by decide) (by decide) rfl _ _ _ rfl rfl rfl _ rfl 1 rfl _ rfl (by simp) ?_;intro w2 S2;have y5:=cl1 S2.hh.f5;have y6:=cl1 S2.hh.f6;simp only [fkV,fkN,fkC] at y5 y6;have HS2:=Lib.hid S2;clear S2)
  | (refine wp_ins rfl HS2.out HT.out 2 [.dst,.src] (by simp [ksF]) (by simp) (by decide) (by decide) rfl _ _ _ rfl rfl rfl _ rfl 2 rfl _ rfl (by simp) ?_;intro w3 S3;have y5:=cl1 S3.hh.f5;have y6:=cl1 S3.hh.f6;simp only [fkV,fkN,fkC] at y5 y6;have HS3:=Lib.hid S3;clear S3)
  | (refine wp_ins rfl HS3.out HT.out 3 [.tgt] (by simp [ksF]) (by simp) (by decide) (by decide) rfl _ _ _ rfl rfl rfl _ rfl 1 rfl _ rfl (by simp) ?_;intro w4 S4;have y5:=cl1 S4.hh.f5;have y6:=cl1 S4.hh.f6;simp only [fkV,fkN,fkC] at y5 y6;have HS4:=Lib.hid S4;clear S4)
  | (refine wp_ins rfl HS4.out HT.out 4 [.dst,.sec,.tgt] (by simp [ksF]) (by simp) (by decide) (by decide) rfl _ _ _ rfl rfl rfl _ rfl 3 rfl _ rfl (by simp) ?_;intro w5 S5;have y5:=cl1 S5.hh.f5;have y6:=cl1 S5.hh.f6;simp only [fkV,fkN,fkC] at y5 y6;have HS5:=Lib.hid S5;clear S5)
  | (refine wp_ins rfl HS5.out HT.out 5 [.hlp] (by simp [ksF]) (by simp) (by decide) (by decide) rfl _ _ _ rfl rfl rfl _ rfl 1 rfl _ rfl (by simp) ?_;intro w6 S6;have y5:=cl1 S6.hh.f5;have y6:=cl1 S6.hh.f6;simp only [fkV,fkN,fkC] at y5 y6;have HS6:=Lib.hid S6;clear S6)
  | (refine wp_ins rfl HS6.out HT.out 7 [.dst,.frm] (by simp [ksF]) (by simp) (by decide) (by decide) rfl _ _ _ rfl rfl rfl _ rfl 2 rfl _ rfl (by simp) ?_;intro w7 S7;have y5:=cl1 S7.hh.f5;have y6:=cl1 S7.hh.f6;simp only [fkV,fkN,fkC] at y5 y6;have HS7:=Lib.hid S7;clear S7)
  | (refine wp_ins rfl HS7.out HT.out 8 [.to,.imm] (by simp [ksF]) (by simp) (by decide) (by decide) rfl _ _ _ rfl rfl rfl _ rfl 2 rfl _ rfl (by simp) ?_;intro w8 S8;have y5:=cl1 S8.hh.f5;have y6:=cl1 S8.hh.f6;simp only [fkV,fkN,fkC] at y5 y6;have HS8:=Lib.hid S8;clear S8)
  | (refine wp_ins rfl HS8.out HT.out 9 [.to,.src] (by simp [ksF]) (by simp) (by decide) (by decide) rfl _ _ _ rfl rfl rfl _ rfl 2 rfl _ rfl (by simp) ?_;intro w9 S9;have y5:=cl1 S9.hh.f5;have y6:=cl1 S9.hh.f6;simp only [fkV,fkN,fkC] at y5 y6;have HS9:=Lib.hid S9;clear S9)
  | (refine wp_ins rfl HS9.out HT.out 10 [.dst,.imm] (by simp [ksF]) (by simp) (by decide) (by decide) rfl _ _ _ rfl rfl rfl _ rfl 2 rfl _ rfl (by simp) ?_;intro w10 S10;have y5:=cl1 S10.hh.f5;have y6:=cl1 S10.hh.f6;simp only [fkV,fkN,fkC] at y5 y6;have HS10:=Lib.hid S10;clear S10)
  | (refine wp_ins rfl HS10.out HT.out 11 [.dst,.mpn] (by simp [ksF]) (by simp) (by decide) (by decide) rfl _ _ _ rfl rfl rfl _ rfl 2 rfl _ rfl (by simp) ?_;intro w11 S11;have y5:=cl1 S11.hh.f5;have y6:=cl1 S11.hh.f6;simp only [fkV,fkN,fkC] at y5 y6;have HS11:=Lib.hid S11;clear S11)
  | go_in)
 go_ret
 exact⟨_,k1,k3,k5,k6,rfl,HS11.out.mm,HS11.out.hh,HS11.out.bl⟩
end
end Go.Proofs.YtgljoilddjmohaaGreatDoor.L11
end
section
set_option maxRecDepth 100000
set_option maxHeartbeats 8000000
namespace Go.Proofs.YtgljoilddjmohaaGreatDoor.L11
open Go.RowKit Go.Maps
attribute [local go_sem] Oper.semAt_some
theorem frm_wf (f:Int) (hF:L4.IsF f):(Lit.int .i64 f).wf=true:=by
 rcases hF with h|h|h|h|h|h|h|h|h|h|h|h|h <;> subst h <;> decide
theorem ks_no (f:Int) (h:f∉[11,10,9,8,7,5,4,3,2,1,(0:Int)]):ksF f=[]:=by
 simp only [List.mem_cons,List.not_mem_nil,or_false,not_or] at h
 obtain⟨h11,h10,h9,h8,h7,h5,h4,h3,h2,h1,h0⟩:=h
 simp [ksF,h11,h10,h9,h8,h7,h5,h4,h3,h2,h1,h0]
theorem ks_len (f:Int):(ksF f).length≤3:=by
 unfold ksF
 split <;> (try split) <;> (try split) <;> (try split) <;> (try split) <;> (try split) <;> (try split) <;> (try split) <;> (try split) <;> (try split) <;> (try split) <;> decide
theorem zeroF (w:World):(zeroValue 116).run Tryz.prog w=.ok zV w:=by kernel_rfl
theorem look_at {W:World} {b k1 k3 k5 k6:Nat} (h:Mk W b 11 k1 k3 k5 k6 [11,10,9,8,7,5,4,3,2,1,0]) (f:Int) (hF:L4.IsF f):∃ v,(Instr.lookup mT (.map (some b)) (.int .i64 f) false).run Tryz.prog W=.ok v W∧FkAt W v (ksF f) k1 k3 k5 k6:=by
 obtain⟨D,ho,hI,hat⟩:=h
 obtain⟨v,ps,hrun,hv⟩:=ho.lookup (z:=zV) (zd:=.held zV) (zp:=[]) lawI Tryz.underlying117 (zeroF W) rfl (keyOf_int_mk Tryz.underlying3 (frm_wf f hF))
 have hv2:D.atKey (mk f) (.held zV)=.held v:=by
  have:=congrArg (Option.map Prod.fst) hv
  simpa [RV,mk] using this.symm
 refine⟨v,hrun,?_⟩
 by_cases hm:f∈[11,10,9,8,7,5,4,3,2,1,(0:Int)]
 ·obtain⟨u,h1,h2⟩:=(hat f).1 hm
  rw [h1] at hv2
  cases hv2
  exact h2
 ·have h1:=(hat f).2 hm
  rw [h1] at hv2
  cases hv2
  exact .inr ⟨ks_no f hm,rfl⟩
theorem fk_form {W:World} {v:Value} {l:List Fk} {k1 k3 k5 k6 n:Nat} (h:FkAt W v l k1 k3 k5 k6) (hn:l.length=n):∃ a,v=.slice a n n∧(0<n→∃ k0,a=some ⟨k0,0,none⟩∧W.heap[k0]?=some (.cells (l.map (fkV k1 k3 k5 k6)).toArray fT)):=by
 subst hn
 rcases h with ⟨k0,rfl,hh⟩|⟨rfl,rfl⟩
 ·exact⟨_,rfl,fun _=>⟨k0,rfl,hh⟩⟩
 ·exact⟨none,rfl,fun h=>absurd h (by simp)⟩
theorem fk_cell {W:World} {k0 k1 k3 k5 k6:Nat} {l:List Fk} (h:W.heap[k0]?=some (.cells (l.map (fkV k1 k3 k5 k6)).toArray fT)) (j:Nat) (hj:j<l.length):W.cell? ⟨k0,j,none⟩=some (fkV k1 k3 k5 k6 l[j]):=by
 simp [World.cell?,h,hj]
theorem nm_sz:∀ k,k<87→(L3.nm k).size≤16:=by decide +kernel
theorem ov_sz (op:Int) (reg:Bool) (dst src off imm:Int) (tg mp:ByteArray) (hR:Rng off imm) (h1:tg.size≤1000) (h2:mp.size≤1000) (k:Fk):(ov ⟨op,reg,dst,src,off,imm⟩ tg mp k).size≤1000:=by
 have hi:=nB_len imm hR.i0 hR.i1
 have ho:=nB_len off hR.o0 hR.o1
 have hme:∀ r,(meT r off).size≤1000:=fun r=>by
  have:=nmS_len r
  unfold meT
  split
  ·unfold meB oB L9.tOpn L9.tShu L9.tPlu
   have e1:(⟨#[91]⟩:ByteArray).size=1:=rfl
   have e2:(⟨#[93]⟩:ByteArray).size=1:=rfl
   have e3:(⟨#[43]⟩:ByteArray).size=1:=rfl
   have e4:L9.eB.size=0:=rfl
   split
   ·simp only [ByteArray.size_append,e1,e2,e4];omega
   ·split
    ·simp only [ByteArray.size_append,e1,e2,e3];omega
    ·simp only [ByteArray.size_append,e1,e2];omega
  ·decide
 cases k
 ·exact Nat.le_trans (nmS_len dst) (by decide)
 ·exact Nat.le_trans (nmS_len src) (by decide)
 ·exact Nat.le_trans hi (by decide)
 ·show (if reg=true then L2.nmS src else nB imm).size≤1000
  split
  ·exact Nat.le_trans (nmS_len src) (by decide)
  ·exact Nat.le_trans hi (by decide)
 ·exact hme src
 ·exact hme dst
 ·exact h1
 ·show (heB imm).size≤1000
  unfold heB
  split
  ·decide
  split
  ·decide
  ·decide
 ·exact h2
theorem opF_step (t:ByteArray) (j:Nat) (l:List ByteArray) (h:j<l.length):opF t j (l.drop j)=opF (opS t j l[j]) (j+1) (l.drop (j+1)):=by
 rw [List.drop_eq_getElem_cons h,opF]
theorem opF_end (t:ByteArray) (j:Nat) (l:List ByteArray) (h:l.length≤j):opF t j (l.drop j)=t:=by
 rw [List.drop_eq_nil_of_le h,opF]
theorem opS_sz (t:ByteArray) (j:Nat) (a:ByteArray):(opS t j a).size≤t.size+a.size+2:=by
 have e1:L9.tCom.size=1:=rfl
 have e2:spB.size=1:=rfl
 unfold opS
 split
 ·simp only [ByteArray.size_append,e1,e2];omega
 ·simp only [ByteArray.size_append,e2];omega
theorem row_nx {w w':World} {g:Nat} {cs:Array Value} {t:TypeId} (h:w.heap[g]?=some (.cells cs t)) (hb:Below w.heap.size w w'):w'.heap[g]?=some (.cells cs t):=L8.row_up h hb
theorem instruction_at (lv:Value) (op:Int) (reg:Bool) (dst src off imm:Int) (tg mp:ByteArray) (w:World) (hT:Tb w) (hlv:∃ a n c,lv=.slice a n c) (hR:Rng off imm) (h1:tg.size≤1000) (h2:mp.size≤1000) :
  Calls Tryz.prog 37 #[.agg (stA lv op reg dst src off imm tg mp)] w (FkP w (inT ⟨op,reg,dst,src,off,imm⟩ tg mp)):=by
 obtain⟨la,ln,lc,rfl⟩:=hlv
 obtain⟨f,hf⟩:∃ f,L3.frm (L3.ix op)=f:=⟨_,rfl⟩
 have hF:=L4.frm_isF op
 rw [hf] at hF
 obtain⟨T,hTx⟩:∃ T,inT ⟨op,reg,dst,src,off,imm⟩ tg mp=T:=⟨_,rfl⟩
 have hT2:opF (L3.nm (L3.ix op)) 0 ((ksF f).map (ov ⟨op,reg,dst,src,off,imm⟩ tg mp))=T:=by rw [← hTx,← opL_ks,← hf];rfl
 rw [hTx]
 obtain⟨l,hl⟩:∃ l,ksF f=l:=⟨_,rfl⟩
 obtain⟨n,hn⟩:∃ n,l.length=n:=⟨_,rfl⟩
 rw [hl] at hT2
 have hsz:=ov_sz op reg dst src off imm tg mp hR h1 h2
 obtain⟨O,hO⟩:∃ O,ov ⟨op,reg,dst,src,off,imm⟩ tg mp=O:=⟨_,rfl⟩
 have HK:=Lib.hid (fun (k:Fk) (W:World) (k1 k3 k5 k6:Nat) (H:Hd W k1 k3 k5 k6 (.slice la ln lc) op reg dst src off imm tg mp)=>fk_at k H hR)
 rw [hO] at hT2 hsz HK
 have HN:=Lib.hid (fun W=>L3.name_any op W)
 have HF:=Lib.hid (fun W=>L4.form_at op f W hf)
 have HL:=Lib.hid (fun (W:World) (b k1 k3 k5 k6:Nat) (h:Mk W b 11 k1 k3 k5 k6 [11,10,9,8,7,5,4,3,2,1,0])=>look_at h f hF)
 rw [hl] at HL
 have HO:=Lib.hid (fun W (h:Tb W)=>operands_at (.slice la ln lc) op reg dst src off imm tg mp W h ⟨la,ln,lc,rfl⟩)
 have hnm:=nm_sz (L3.ix op) (by have:=L3.ix_le op;omega)
 obtain⟨t0,ht0⟩:∃ t,L3.nm (L3.ix op)=t:=⟨_,rfl⟩
 rw [ht0] at HN hT2 hnm
 have HT2:=Lib.hid hT2
 have HSZ:=Lib.hid hsz
 have HNN:=Lib.hid hn
 have HN3:Hid (n≤3):=Lib.hid (by rw [← hn,← hl];exact ks_len f)
 have HNM:=Lib.hid hnm
 have hT0:=hT.new (.cells (stA (.slice la ln lc) op reg dst src off imm tg mp) 52)
 have hS0:=heap_alloc_last w (.cells (stA (.slice la ln lc) op reg dst src off imm tg mp) 52)
 have hB0:=L8.bnew w (.cells (stA (.slice la ln lc) op reg dst src off imm tg mp) 52)
 clear hf hF hTx hT2 hl hn hsz hO ht0 hnm h1 h2 hR hT
 go_enter Tryz.func37,Tryz.ntmps37
 go_upto_region 1 with (fail)
 generalize w.alloc (.cells (stA (.slice la ln lc) op reg dst src off imm tg mp) 52)=W0 at hS0 hB0 hT0 ⊢
 generalize w.heap.size=ks at hS0 ⊢
 obtain⟨x0,x1,x2,x3,x4,x5,x6,x7,x8⟩:=cl9 hS0
 go_upto_region 2 with (go_at_call 71;((with_reducible refine (HN.out _).mono ?_);rintro e w1 ⟨rfl,b1⟩))
 clear x0 x1 x2 x3 x4 x5 x6 x7 x8
 have hS1:=L8.row_up hS0 b1
 have hB1:=L2.bch hB0 b1
 have hT1:=hT0.below b1
 clear hS0 hB0 hT0 b1
 have HT1:=Lib.hid hT1.drew
 go_cut [16,17,18] from 10 to 18 (fun s16 s17 s18 wx=>s18=.int .i64 0∧s17=.int .i64 n∧∃ k1 k3 k5 k6 a,s16=.slice a n n∧Hid (0<n→∃ k0,a=some ⟨k0,0,none⟩∧wx.heap[k0]?=some (.cells (l.map (fkV k1 k3 k5 k6)).toArray fT))∧Hid (Hd wx k1 k3 k5 k6 (.slice la ln lc) op reg dst src off imm tg mp)∧Below w1.heap.size w1 wx)
 case first =>
  have hSd:=L8.row_up hS1 (Below.refl _ _).drew
  obtain⟨x0,x1,x2,x3,x4,x5,x6,x7,x8⟩:=cl9 hSd
  go_region_with (first
   | (go_at_call 72;((with_reducible refine (HO.out _ HT1.out).mono ?_);rintro e w8 ⟨b,k1,k3,k5,k6,rfl,hM,hH,b8⟩;have hSe:=row_nx hSd b8;obtain⟨y0,y1,y2,y3,y4,y5,y6,y7,y8⟩:=cl9 hSe))
   | (go_at_call 66;((with_reducible refine (HF.out _).mono ?_);rintro e w9 ⟨rfl,b9⟩;obtain⟨v,hrun,hv⟩:=HL.out _ _ _ _ _ _ (hM.below b9);obtain⟨a9,rfl,hfa⟩:=fk_form hv HNN.out;have HFA:=Lib.hid hfa;clear hfa hv)))
  all_goals
   go_wp2_with (fail)
   go_meet
   exact⟨rfl,rfl,k1,k3,k5,k6,_,rfl,HFA,Lib.hid (hH.below b9),L2.bch (L2.bch (Below.refl _ _).drew b8) b9⟩
 case rest =>
  obtain⟨rfl,rfl,k1,k3,k5,k6,a0,rfl,HFA,HH,hB2⟩:=hcut
  have hB3:=L2.bch hB1 hB2
  clear hS1 hB1 hB2 hT1 HT1 HN HF HL HO
  go_wp2_with (fail)
  go_loopw [3,18] (fun t i wr=>∃ (j:Nat) (x:ByteArray),t=.string x∧i=.int .i64 (j:Int)∧j≤n∧Hid (x.size≤16+j*1002)∧Hid (opF x j ((l.map O).drop j)=T)∧Hid (0<n→∃ k0,a0=some ⟨k0,0,none⟩∧wr.heap[k0]?=some (.cells (l.map (fkV k1 k3 k5 k6)).toArray fT))∧Hid (Hd wr k1 k3 k5 k6 (.slice la ln lc) op reg dst src off imm tg mp)∧Below w.heap.size w wr) (fun _ i _=>n-(intOf i).toNat)
  case atStart=>exact⟨0,t0,rfl,rfl,Nat.zero_le _,Lib.hid (by have:=HNM.out;omega),Lib.hid (by rw [List.drop_zero];exact HT2.out),HFA,HH,hB3⟩
  case round =>
   clear HFA HH hB3
   obtain⟨j,x,rfl,rfl,hj,hxs,hx,hFA,hH,hB⟩:=hrel
   have hlm:(l.map O).length=n:=by rw [List.length_map];exact HNN.out
   have HLM:=Lib.hid hlm
   clear hlm
   by_cases hlt:j<n
   ·obtain⟨k0,rfl,hfn⟩:=hFA.out (by omega)
    have hjl:j<l.length:=by rw [HNN.out];exact hlt
    have hjm:j<(l.map O).length:=by rw [HLM.out];exact hlt
    obtain⟨kd,hkd⟩:∃ kd,l[j]=kd:=⟨_,rfl⟩
    have hOj:(l.map O)[j]=O kd:=by rw [List.getElem_map,hkd]
    have hst:=opF_step x j (l.map O) hjm
    rw [hx.out,hOj] at hst
    have cf':=fk_cell hfn j hjl
    rw [hkd] at cf'
    have hC':=HK.out kd _ _ _ _ _ hH.out
    obtain⟨A,hA⟩:∃ A,O kd=A:=⟨_,rfl⟩
    have hAs:A.size≤1000:=by rw [← hA];exact HSZ.out kd
    rw [hA] at hC' hst
    have hxz:=hxs.out
    have hn3:=HN3.out
    have HST:=Lib.hid hst
    have hos:=opS_sz x j A
    have HNX:Hid (∀ W',Below wr.heap.size wr W'→Hid (0<n→∃ k0',some (⟨k0,0,none⟩:Addr)=some ⟨k0',0,none⟩∧W'.heap[k0']?=some (.cells (l.map (fkV k1 k3 k5 k6)).toArray fT))∧Hid (Hd W' k1 k3 k5 k6 (.slice la ln lc) op reg dst src off imm tg mp)∧Below w.heap.size w W'):=Lib.hid fun W' hb=>⟨Lib.hid fun _=>⟨k0,rfl,L8.row_up hfn hb⟩,Lib.hid (hH.out.below hb),L2.bch hB hb⟩
    have e1:L9.tCom.size=1:=rfl
    have e2:spB.size=1:=rfl
    have s1:(x++(⟨#[44]⟩:ByteArray)).size≤5000:=by show (x++L9.tCom).size≤5000;rw [ByteArray.size_append,e1];omega
    have s2:((⟨#[32]⟩:ByteArray)++A).size≤5000:=by show (spB++A).size≤5000;rw [ByteArray.size_append,e2];omega
    clear hfn hjl hjm hOj hst hx hFA hH hB hkd hA
    by_cases hj0:j=0
    ·subst hj0
     have s3:(x++((⟨#[32]⟩:ByteArray)++A)).size≤9000:=by rw [ByteArray.size_append];omega
     have eS:opS x 0 A=x++((⟨#[32]⟩:ByteArray)++A):=rfl
     rw [eS] at HST hos
     have HSS:=Lib.hid hos
     clear eS hos
     cases kd
     all_goals
      simp only [fkV,fkN,fkC] at cf' hC'
      have HC:=Lib.hid hC'
      clear hC'
      go_wp2_with (first
       | (go_at_call 104;((with_reducible refine (HC.out).mono ?_);rintro e w5 ⟨rfl,b5⟩;clear cf'))
       | (go_at_call 106;((with_reducible refine (HC.out).mono ?_);rintro e w5 ⟨rfl,b5⟩;clear cf'))
       | (go_at_call 107;((with_reducible refine (HC.out).mono ?_);rintro e w5 ⟨rfl,b5⟩;clear cf'))
       | (go_at_call 108;((with_reducible refine (HC.out).mono ?_);rintro e w5 ⟨rfl,b5⟩;clear cf'))
       | (go_at_call 109;((with_reducible refine (HC.out).mono ?_);rintro e w5 ⟨rfl,b5⟩;clear cf'))
       | (go_at_call 111;((with_reducible refine (HC.out).mono ?_);rintro e w5 ⟨rfl,b5⟩;clear cf'))
       | (go_at_call 112;((with_reducible refine (HC.out).mono ?_);rintro e w5 ⟨rfl,b5⟩;clear cf'))
       | (go_at_call 113;((with_reducible refine (HC.out).mono ?_);rintro e w5 ⟨rfl,b5⟩;clear cf'))
       | (go_at_call 115;((with_reducible refine (HC.out).mono ?_);rintro e w5 ⟨rfl,b5⟩;clear cf'))
       )
      go_roundw
      case rel =>
       obtain⟨q1,q2,q3⟩:=HNX.out _ b5
       exact⟨1,_,rfl,by go_num,by omega,Lib.hid (by have:=HSS.out;omega),Lib.hid HST.out.symm,q1,q2,q3⟩
      case measure=>simp [intOf];omega
    ·have s3:((x++(⟨#[44]⟩:ByteArray))++((⟨#[32]⟩:ByteArray)++A)).size≤9000:=by
      have e3:(x++(⟨#[44]⟩:ByteArray)).size≤4000:=by show (x++L9.tCom).size≤4000;rw [ByteArray.size_append,e1];omega
      rw [ByteArray.size_append];omega
     have eS:opS x j A=(x++(⟨#[44]⟩:ByteArray))++((⟨#[32]⟩:ByteArray)++A):=by
      unfold opS
      rw [if_pos (by omega)]
      rfl
     rw [eS] at HST hos
     have HSS:=Lib.hid hos
     have hj1:(0:Int)<(j:Int):=by omega
     clear eS hos
     cases kd
     all_goals
      simp only [fkV,fkN,fkC] at cf' hC'
      have HC:=Lib.hid hC'
      clear hC'
      go_wp2_with (first
       | (go_at_call 104;((with_reducible refine (HC.out).mono ?_);rintro e w5 ⟨rfl,b5⟩;clear cf'))
       | (go_at_call 106;((with_reducible refine (HC.out).mono ?_);rintro e w5 ⟨rfl,b5⟩;clear cf'))
       | (go_at_call 107;((with_reducible refine (HC.out).mono ?_);rintro e w5 ⟨rfl,b5⟩;clear cf'))
       | (go_at_call 108;((with_reducible refine (HC.out).mono ?_);rintro e w5 ⟨rfl,b5⟩;clear cf'))
       | (go_at_call 109;((with_reducible refine (HC.out).mono ?_);rintro e w5 ⟨rfl,b5⟩;clear cf'))
       | (go_at_call 111;((with_reducible refine (HC.out).mono ?_);rintro e w5 ⟨rfl,b5⟩;clear cf'))
       | (go_at_call 112;((with_reducible refine (HC.out).mono ?_);rintro e w5 ⟨rfl,b5⟩;clear cf'))
       | (go_at_call 113;((with_reducible refine (HC.out).mono ?_);rintro e w5 ⟨rfl,b5⟩;clear cf'))
       | (go_at_call 115;((with_reducible refine (HC.out).mono ?_);rintro e w5 ⟨rfl,b5⟩;clear cf'))
       )
      go_roundw
      case rel =>
       obtain⟨q1,q2,q3⟩:=HNX.out _ b5
       exact⟨j+1,_,rfl,by go_num,by omega,Lib.hid (by have:=HSS.out;have:=Nat.succ_mul j 1002;omega),Lib.hid HST.out.symm,q1,q2,q3⟩
      case measure=>simp [intOf];omega
   ·obtain rfl:j=n:=by omega
    have hT3:=hx.out
    rw [opF_end _ _ _ (by rw [HLM.out];exact Nat.le_refl _)] at hT3
    subst hT3
    go_wp2_with (fail)
    go_ret
    exact⟨rfl,hB⟩
end Go.Proofs.YtgljoilddjmohaaGreatDoor.L11
end
