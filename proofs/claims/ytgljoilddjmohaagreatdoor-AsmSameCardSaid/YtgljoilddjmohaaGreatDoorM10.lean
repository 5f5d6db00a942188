/- Lemmas and walks of L9Ln, L9Rfac, L9Rsm, L9Rspl, L9Rdef, L9Rmem: what each theorem states; conditions stand in each theorem. -/
import Derived.Test.YtgljoilddjmohaaGreatDoorM5
import Derived.Test.YtgljoilddjmohaaGreatDoorM1
import Derived.Test.YtgljoilddjmohaaGreatDoorM2
import Derived.Test.YtgljoilddjmohaaGreatDoorM3
import Derived.StillTail
import Derived.StillTactics
import Derived.WalkSpells
import Derived.Laws.CopyOwn
import Derived.BigRegion
section
namespace Go.Proofs.YtgljoilddjmohaaGreatDoor.L9
structure Ins where
 op:Int
 reg:Bool
 dst:Int
 src:Int
 off:Int
 imm:Int
structure Df where
 nm:ByteArray
 key:Int
 val:Int
 ent:Int
structure Rs where
 kind:Int
 d:Df
 x:Ins
 tg:ByteArray
 mp:ByteArray
def eB:ByteArray:=⟨#[]⟩
def Ins.z:Ins:=⟨0,false,0,0,0,0⟩
def Df.z:Df:=⟨⟨#[]⟩,0,0,0⟩
def tCom:ByteArray:=⟨#[44]⟩
def tOpn:ByteArray:=⟨#[91]⟩
def tShu:ByteArray:=⟨#[93]⟩
def tPlu:ByteArray:=⟨#[43]⟩
def tMin:ByteArray:=⟨#[45]⟩
def tCol:ByteArray:=⟨#[58]⟩
def brk (t:ByteArray):Bool:=decide (t=tCom) || decide (t=tOpn) || decide (t=tShu) || decide (t=tPlu) || decide (t=tMin)
def fls (st:List ByteArray × ByteArray):List ByteArray:=if st.2.size=0 then st.1 else st.1++[st.2]
def spS (st:List ByteArray × ByteArray) (t:ByteArray):List ByteArray × ByteArray:=if brk t then (fls st,if t=tMin then tMin else eB) else (st.1,st.2++t)
def spF (ts:List ByteArray):List ByteArray × ByteArray:=ts.foldl spS ([],eB)
def spl (ts:List ByteArray):List ByteArray:=fls (spF ts)
def joi (ts:List ByteArray):ByteArray:=ts.foldl (·++·) eB
def offAt (m:ByteArray) (i:Nat):Bool:=decide (m.data.toList.getD i 0=43) || (decide (m.data.toList.getD i 0=45) && decide (0<i) && decide (m.data.toList.getD (i-1) 0≠44))
def offV (m:ByteArray):Bool:=(List.range (m.size-1)).any (offAt m)
def reV (s:ByteArray):Int × Int:=if (L2.rg s).2 then (((L2.rg s).1:Int),0) else (0,5)
def naV (s:ByteArray):Int:=if L2.vd s then 0 else 7
def nuV (s:ByteArray) (b:Int):Int × Int:=L1.ps s.data.toList b
def heV (s:ByteArray):Int:=if s=⟨#[108,111,111,107,117,112]⟩ then 1 else if s=⟨#[117,112,100,97,116,101]⟩ then 2 else if s=⟨#[100,101,108,101,116,101]⟩ then 3 else 0
def fiV (s:ByteArray):Int:=match (List.range 86).find? (fun k=>decide (L3.nm k=s)) with
 | some k=>(k:Int)
 | none=>-1
def g0 (l:List ByteArray) (i:Nat):ByteArray:=l.getD i eB
def meV (l:List ByteArray) (off:Bool):Int × Int × List ByteArray × Int :=
 if (reV (g0 l 0)).2≠0∨off=false then ((reV (g0 l 0)).1,0,l.drop 1,(reV (g0 l 0)).2)
 else ((reV (g0 l 0)).1,(nuV (g0 l 1) 16).1,l.drop 2,(nuV (g0 l 1) 16).2)
def seV (x:Ins) (s:ByteArray):Ins × Int:=if (L2.rg s).2 then ({ x with reg:=true,src:=((L2.rg s).1:Int) },0) else ({ x with imm:=(nuV s 32).1 },(nuV s 32).2)
def opV (f op:Int) (l:List ByteArray) (off:Bool):Rs × Int :=
 let r:Rs:=⟨2,Df.z,⟨op,false,0,0,0,0⟩,eB,eB⟩
 if f=3 then ({ r with tg:=g0 l 0 },naV (g0 l 0))
 else if f=5 then ({ r with x:={ r.x with imm:=heV (g0 l 0) } },if heV (g0 l 0)=0 then 7 else 0)
 else if f=6 then (r,0)
 else if f=8∨f=9 then
  let m:=meV l off
  let r1:Rs:={ r with x:={ r.x with dst:=m.1,off:=m.2.1 } }
  if m.2.2.2≠0 then (r1,m.2.2.2)
  else if f=9 then ({ r1 with x:={ r1.x with src:=(reV (g0 m.2.2.1 0)).1 } },(reV (g0 m.2.2.1 0)).2)
  else ({ r1 with x:={ r1.x with imm:=(nuV (g0 m.2.2.1 0) 32).1 } },(nuV (g0 m.2.2.1 0) 32).2)
 else
  let r2:Rs:={ r with x:={ r.x with dst:=(reV (g0 l 0)).1 } }
  if (reV (g0 l 0)).2≠0 then (r2,(reV (g0 l 0)).2)
  else if f=0 then ({ r2 with x:=(seV r2.x (g0 l 1)).1 },(seV r2.x (g0 l 1)).2)
  else if f=4 then
   if (seV r2.x (g0 l 1)).2=0 then ({ r2 with x:=(seV r2.x (g0 l 1)).1,tg:=g0 l 2 },naV (g0 l 2))
   else ({ r2 with x:=(seV r2.x (g0 l 1)).1 },(seV r2.x (g0 l 1)).2)
  else if f=2 then ({ r2 with x:={ r2.x with src:=(reV (g0 l 1)).1 } },(reV (g0 l 1)).2)
  else if f=7 then
   let m:=meV (l.drop 1) off
   ({ r2 with x:={ r2.x with src:=m.1,off:=m.2.1 } },m.2.2.2)
  else if f=10 then ({ r2 with x:={ r2.x with imm:=(nuV (g0 l 1) 64).1 } },(nuV (g0 l 1) 64).2)
  else if f=11 then ({ r2 with mp:=g0 l 1 },naV (g0 l 1))
  else (r2,0)
def sww:ByteArray:=⟨#[119,44,119]⟩
def swmw:ByteArray:=⟨#[119,44,45,119]⟩
def sw:ByteArray:=⟨#[119]⟩
def swww:ByteArray:=⟨#[119,44,119,44,119]⟩
def swmww:ByteArray:=⟨#[119,44,45,119,44,119]⟩
def swM0:ByteArray:=⟨#[119,44,91,119,93]⟩
def swMp:ByteArray:=⟨#[119,44,91,119,43,119,93]⟩
def swMm:ByteArray:=⟨#[119,44,91,119,45,119,93]⟩
def sM0w:ByteArray:=⟨#[91,119,93,44,119]⟩
def sMpw:ByteArray:=⟨#[91,119,43,119,93,44,119]⟩
def sMmw:ByteArray:=⟨#[91,119,45,119,93,44,119]⟩
def sM0mw:ByteArray:=⟨#[91,119,93,44,45,119]⟩
def sMpmw:ByteArray:=⟨#[91,119,43,119,93,44,45,119]⟩
def sMmmw:ByteArray:=⟨#[91,119,45,119,93,44,45,119]⟩
def shV (f:Int):List ByteArray :=
 if f=0∨f=10 then [sww,swmw] else if f=2∨f=11 then [sww] else if f=1∨f=3∨f=5 then [sw] else if f=4 then [swww,swmww]
 else if f=7 then [swM0,swMp,swMm] else if f=8 then [sM0w,sMpw,sMmw,sM0mw,sMpmw,sMmmw] else if f=9 then [sM0w,sMpw,sMmw] else [eB]
def wdB (t:ByteArray):Bool:=L8.isW t.data.toList
def shpB (ts:List ByteArray):ByteArray:=⟨(L8.shp (ts.map (·.data.toList))).toArray⟩
def sizV (d:Df):Bool:=decide (1≤d.key) && decide (d.key≤64) && decide (1≤d.val) && decide (d.val≤256) && decide (1≤d.ent) && decide (d.ent≤1024)
def nuE (s t u:ByteArray):Int:=if (nuV s 32).2≠0 then (nuV s 32).2 else if (nuV t 32).2≠0 then (nuV t 32).2 else (nuV u 32).2
def dfV (ts:List ByteArray):Df:=⟨g0 ts 0,(nuV (g0 ts 1) 32).1,(nuV (g0 ts 2) 32).1,(nuV (g0 ts 3) 32).1⟩
def lab:List ByteArray→List ByteArray→Int × List ByteArray × List ByteArray
 | acc,a::b::r=>if wdB a=true∧b=tCol then (if L2.vd a then lab (acc++[a]) r else (7,acc,a::b::r)) else (0,acc,a::b::r)
 | acc,[a]=>(0,acc,[a])
 | acc,[]=>(0,acc,[])
def mapT:ByteArray:=⟨#[109,97,112]⟩
def txB (s:ByteArray):List ByteArray:=(L8.tkX s (L8.tks s)).map (·.1)
end Go.Proofs.YtgljoilddjmohaaGreatDoor.L9
end
section
namespace Go.Proofs.YtgljoilddjmohaaGreatDoor.L9
def IsWd (t:ByteArray):Prop:=t.size≠0∧brk t=false∧wdB t=true∧∀ c∈t.data.toList,L8.wb c=true
theorem brk_pun {t:ByteArray} (h:brk t=true):∃ c,t.data.toList=[c]∧L8.pun c=true:=by
 simp only [brk,Bool.or_eq_true,decide_eq_true_eq] at h
 rcases h with (((h|h)|h)|h)|h <;> subst h <;> exact⟨_,rfl,by decide⟩
theorem isWd_of {t:ByteArray} (h:L8.TokT t.data.toList) (hw:L8.isW t.data.toList=true):IsWd t:=by
 have h2:=(L8.isW_wn h).1 hw
 rcases h with ⟨hne,hall⟩|⟨c,hc,hp⟩
 ·refine⟨fun e=>hne (List.eq_nil_of_length_eq_zero (by rw [L8.size_list];exact e)),?_,hw,hall⟩
  cases hb:brk t
  ·rfl
  ·obtain⟨c,hc,hp⟩:=brk_pun hb
   have:=hall c (by rw [hc];simp)
   rw [((L8.byte_cases c).2.2 this).1] at hp;cases hp
 ·rw [hc] at hw
  simp [L8.isW,hp] at hw
theorem mark_of {t:ByteArray} (hw:L8.isW t.data.toList=false):t=⟨#[L8.shl1 t.data.toList]⟩:=by
 rcases L8.isW_one t with ⟨_,c,hc⟩|⟨_,h2⟩
 ·have e:L8.shl1 t.data.toList=c:=by
   unfold L8.shl1
   rw [if_neg (by rw [hw];exact Bool.false_ne_true),hc];rfl
  rw [e]
  apply ByteArray.ext
  apply Array.toList_inj.1
  rw [hc]
 ·rw [hw] at h2;cases h2
def At (t:ByteArray) (c:UInt8):Prop:=if c=119 then IsWd t else t=⟨#[c]⟩
def Ats:List ByteArray→List UInt8→Prop
 | [],[]=>True
 | t::q,c::p=>At t c∧Ats q p
 | _,_=>False
theorem ats_of:∀ (q:List ByteArray),(∀ t∈q,L8.TokT t.data.toList)→Ats q (q.map fun t=>L8.shl1 t.data.toList)
 | [],_=>trivial
 | t::q,h=>by
  refine⟨?_,ats_of q fun x hx=>h x (List.mem_cons_of_mem _ hx)⟩
  have ht:=h t (by simp)
  have h1:=L8.shl1_w ht
  cases hw:L8.isW t.data.toList
  ·rw [hw] at h1
   unfold At
   rw [if_neg (by simpa using h1)]
   exact mark_of hw
  ·rw [hw] at h1
   unfold At
   rw [if_pos (by simpa using h1)]
   exact isWd_of ht hw
theorem ats_shape {q:List ByteArray} {p:List UInt8} (ht:∀ t∈q,L8.TokT t.data.toList) (h:shpB q=⟨p.toArray⟩):Ats q p:=by
 have e:q.map (fun t=>L8.shl1 t.data.toList)=p:=by
  have h2:=congrArg (fun b:ByteArray=>b.data.toList) h
  simp only [shpB,L8.shp,List.map_map,List.toList_toArray] at h2
  exact h2
 rw [← e]
 exact ats_of q ht
theorem at_w {t:ByteArray} (h:At t 119):IsWd t:=by unfold At at h;rwa [if_pos rfl] at h
theorem at_c {t:ByteArray} {c:UInt8} (hc:c≠119) (h:At t c):t=⟨#[c]⟩:=by unfold At at h;rwa [if_neg hc] at h
inductive Ops:Int→List ByteArray→Prop
 | none (f):f=6→Ops f []
 | one (f a):(f=1∨f=3∨f=5)→IsWd a→Ops f [a]
 | two (f a b):(f=0∨f=10∨f=2∨f=11)→IsWd a→IsWd b→Ops f [a,tCom,b]
 | neg (f a b):(f=0∨f=10)→IsWd a→IsWd b→Ops f [a,tCom,tMin,b]
 | three (a b c):IsWd a→IsWd b→IsWd c→Ops 4 [a,tCom,b,tCom,c]
 | threen (a b c):IsWd a→IsWd b→IsWd c→Ops 4 [a,tCom,tMin,b,tCom,c]
 | load (a b):IsWd a→IsWd b→Ops 7 [a,tCom,tOpn,b,tShu]
 | loadp (a b c):IsWd a→IsWd b→IsWd c→Ops 7 [a,tCom,tOpn,b,tPlu,c,tShu]
 | loadm (a b c):IsWd a→IsWd b→IsWd c→Ops 7 [a,tCom,tOpn,b,tMin,c,tShu]
 | stor (f a b):(f=8∨f=9)→IsWd a→IsWd b→Ops f [tOpn,a,tShu,tCom,b]
 | storp (f a b c):(f=8∨f=9)→IsWd a→IsWd b→IsWd c→Ops f [tOpn,a,tPlu,b,tShu,tCom,c]
 | storm (f a b c):(f=8∨f=9)→IsWd a→IsWd b→IsWd c→Ops f [tOpn,a,tMin,b,tShu,tCom,c]
 | storn (a b):IsWd a→IsWd b→Ops 8 [tOpn,a,tShu,tCom,tMin,b]
 | storpn (a b c):IsWd a→IsWd b→IsWd c→Ops 8 [tOpn,a,tPlu,b,tShu,tCom,tMin,c]
 | stormn (a b c):IsWd a→IsWd b→IsWd c→Ops 8 [tOpn,a,tMin,b,tShu,tCom,tMin,c]
theorem ats_nil {q:List ByteArray} (h:Ats q []):q=[]:=by
 cases q with
 | nil=>rfl
 | cons _ _=>exact h.elim
theorem ats_cons {q:List ByteArray} {c:UInt8} {p:List UInt8} (h:Ats q (c::p)):∃ t r,q=t::r∧At t c∧Ats r p:=by
 cases q with
 | nil=>exact h.elim
 | cons t r=>exact⟨t,r,rfl,h.1,h.2⟩
theorem ops_of {f:Int} {q:List ByteArray} (hf:0≤f∧f≤11) (ht:∀ t∈q,L8.TokT t.data.toList) (hm:shpB q∈shV f):Ops f q:=by
 have W:∀ {q:List ByteArray} {p:List UInt8},Ats q (119::p)→∃ t r,q=t::r∧IsWd t∧Ats r p:=fun h=>by
  obtain⟨t,r,e,ha,hr⟩:=ats_cons h
  exact⟨t,r,e,at_w ha,hr⟩
 have M:∀ {q:List ByteArray} {c:UInt8} {p:List UInt8},c≠119→Ats q (c::p)→∃ r,q=⟨#[c]⟩::r∧Ats r p:=fun hc h=>by
  obtain⟨t,r,e,ha,hr⟩:=ats_cons h
  exact⟨r,by rw [e,at_c hc ha],hr⟩
 have hfs:f=0∨f=1∨f=2∨f=3∨f=4∨f=5∨f=6∨f=7∨f=8∨f=9∨f=10∨f=11:=by omega
 have two:∀ f,(f=0∨f=10∨f=2∨f=11)→shpB q=sww→Ops f q:=fun f hf h=>by
  obtain⟨a,r1,rfl,ha,k1⟩:=W (ats_shape (p:=[119,44,119]) ht h)
  obtain⟨r2,rfl,k2⟩:=M (by decide) k1
  obtain⟨b,r3,rfl,hb,k3⟩:=W k2
  rw [ats_nil k3]
  exact .two f a b hf ha hb
 have neg:∀ f,(f=0∨f=10)→shpB q=swmw→Ops f q:=fun f hf h=>by
  obtain⟨a,r4,rfl,ha,k4⟩:=W (ats_shape (p:=[119,44,45,119]) ht h)
  obtain⟨r5,rfl,k5⟩:=M (by decide) k4
  obtain⟨r6,rfl,k6⟩:=M (by decide) k5
  obtain⟨b,r7,rfl,hb,k7⟩:=W k6
  rw [ats_nil k7]
  exact .neg f a b hf ha hb
 have one:∀ f,(f=1∨f=3∨f=5)→shpB q=sw→Ops f q:=fun f hf h=>by
  obtain⟨a,r8,rfl,ha,k8⟩:=W (ats_shape (p:=[119]) ht h)
  rw [ats_nil k8]
  exact .one f a hf ha
 have st0:∀ f,(f=8∨f=9)→shpB q=sM0w→Ops f q:=fun f hf h=>by
  obtain⟨r9,rfl,k9⟩:=M (by decide) (ats_shape (p:=[91,119,93,44,119]) ht h)
  obtain⟨a,r10,rfl,ha,k10⟩:=W k9
  obtain⟨r11,rfl,k11⟩:=M (by decide) k10
  obtain⟨r12,rfl,k12⟩:=M (by decide) k11
  obtain⟨b,r13,rfl,hb,k13⟩:=W k12
  rw [ats_nil k13]
  exact .stor f a b hf ha hb
 have stp:∀ f,(f=8∨f=9)→shpB q=sMpw→Ops f q:=fun f hf h=>by
  obtain⟨r14,rfl,k14⟩:=M (by decide) (ats_shape (p:=[91,119,43,119,93,44,119]) ht h)
  obtain⟨a,r15,rfl,ha,k15⟩:=W k14
  obtain⟨r16,rfl,k16⟩:=M (by decide) k15
  obtain⟨b,r17,rfl,hb,k17⟩:=W k16
  obtain⟨r18,rfl,k18⟩:=M (by decide) k17
  obtain⟨r19,rfl,k19⟩:=M (by decide) k18
  obtain⟨c,r20,rfl,hc,k20⟩:=W k19
  rw [ats_nil k20]
  exact .storp f a b c hf ha hb hc
 have stm:∀ f,(f=8∨f=9)→shpB q=sMmw→Ops f q:=fun f hf h=>by
  obtain⟨r21,rfl,k21⟩:=M (by decide) (ats_shape (p:=[91,119,45,119,93,44,119]) ht h)
  obtain⟨a,r22,rfl,ha,k22⟩:=W k21
  obtain⟨r23,rfl,k23⟩:=M (by decide) k22
  obtain⟨b,r24,rfl,hb,k24⟩:=W k23
  obtain⟨r25,rfl,k25⟩:=M (by decide) k24
  obtain⟨r26,rfl,k26⟩:=M (by decide) k25
  obtain⟨c,r27,rfl,hc,k27⟩:=W k26
  rw [ats_nil k27]
  exact .storm f a b c hf ha hb hc
 rcases hfs with rfl|rfl|rfl|rfl|rfl|rfl|rfl|rfl|rfl|rfl|rfl|rfl
 ·simp [shV] at hm
  rcases hm with h|h
  ·exact two 0 (by simp) h
  ·exact neg 0 (by simp) h
 ·simp [shV] at hm;exact one 1 (by simp) hm
 ·simp [shV] at hm;exact two 2 (by simp) hm
 ·simp [shV] at hm;exact one 3 (by simp) hm
 ·simp [shV] at hm
  rcases hm with h|h
  ·obtain⟨a,r28,rfl,ha,k28⟩:=W (ats_shape (p:=[119,44,119,44,119]) ht h)
   obtain⟨r29,rfl,k29⟩:=M (by decide) k28
   obtain⟨b,r30,rfl,hb,k30⟩:=W k29
   obtain⟨r31,rfl,k31⟩:=M (by decide) k30
   obtain⟨c,r32,rfl,hc,k32⟩:=W k31
   rw [ats_nil k32]
   exact .three a b c ha hb hc
  ·obtain⟨a,r33,rfl,ha,k33⟩:=W (ats_shape (p:=[119,44,45,119,44,119]) ht h)
   obtain⟨r34,rfl,k34⟩:=M (by decide) k33
   obtain⟨r35,rfl,k35⟩:=M (by decide) k34
   obtain⟨b,r36,rfl,hb,k36⟩:=W k35
   obtain⟨r37,rfl,k37⟩:=M (by decide) k36
   obtain⟨c,r38,rfl,hc,k38⟩:=W k37
   rw [ats_nil k38]
   exact .threen a b c ha hb hc
 ·simp [shV] at hm;exact one 5 (by simp) hm
 ·simp [shV] at hm
  rw [ats_nil (ats_shape (p:=[]) ht hm)]
  exact .none 6 rfl
 ·simp [shV] at hm
  rcases hm with h|h|h
  ·obtain⟨a,r39,rfl,ha,k39⟩:=W (ats_shape (p:=[119,44,91,119,93]) ht h)
   obtain⟨r40,rfl,k40⟩:=M (by decide) k39
   obtain⟨r41,rfl,k41⟩:=M (by decide) k40
   obtain⟨b,r42,rfl,hb,k42⟩:=W k41
   obtain⟨r43,rfl,k43⟩:=M (by decide) k42
   rw [ats_nil k43]
   exact .load a b ha hb
  ·obtain⟨a,r44,rfl,ha,k44⟩:=W (ats_shape (p:=[119,44,91,119,43,119,93]) ht h)
   obtain⟨r45,rfl,k45⟩:=M (by decide) k44
   obtain⟨r46,rfl,k46⟩:=M (by decide) k45
   obtain⟨b,r47,rfl,hb,k47⟩:=W k46
   obtain⟨r48,rfl,k48⟩:=M (by decide) k47
   obtain⟨c,r49,rfl,hc,k49⟩:=W k48
   obtain⟨r50,rfl,k50⟩:=M (by decide) k49
   rw [ats_nil k50]
   exact .loadp a b c ha hb hc
  ·obtain⟨a,r51,rfl,ha,k51⟩:=W (ats_shape (p:=[119,44,91,119,45,119,93]) ht h)
   obtain⟨r52,rfl,k52⟩:=M (by decide) k51
   obtain⟨r53,rfl,k53⟩:=M (by decide) k52
   obtain⟨b,r54,rfl,hb,k54⟩:=W k53
   obtain⟨r55,rfl,k55⟩:=M (by decide) k54
   obtain⟨c,r56,rfl,hc,k56⟩:=W k55
   obtain⟨r57,rfl,k57⟩:=M (by decide) k56
   rw [ats_nil k57]
   exact .loadm a b c ha hb hc
 ·simp [shV] at hm
  rcases hm with h|h|h|h|h|h
  ·exact st0 8 (by simp) h
  ·exact stp 8 (by simp) h
  ·exact stm 8 (by simp) h
  ·obtain⟨r58,rfl,k58⟩:=M (by decide) (ats_shape (p:=[91,119,93,44,45,119]) ht h)
   obtain⟨a,r59,rfl,ha,k59⟩:=W k58
   obtain⟨r60,rfl,k60⟩:=M (by decide) k59
   obtain⟨r61,rfl,k61⟩:=M (by decide) k60
   obtain⟨r62,rfl,k62⟩:=M (by decide) k61
   obtain⟨b,r63,rfl,hb,k63⟩:=W k62
   rw [ats_nil k63]
   exact .storn a b ha hb
  ·obtain⟨r64,rfl,k64⟩:=M (by decide) (ats_shape (p:=[91,119,43,119,93,44,45,119]) ht h)
   obtain⟨a,r65,rfl,ha,k65⟩:=W k64
   obtain⟨r66,rfl,k66⟩:=M (by decide) k65
   obtain⟨b,r67,rfl,hb,k67⟩:=W k66
   obtain⟨r68,rfl,k68⟩:=M (by decide) k67
   obtain⟨r69,rfl,k69⟩:=M (by decide) k68
   obtain⟨r70,rfl,k70⟩:=M (by decide) k69
   obtain⟨c,r71,rfl,hc,k71⟩:=W k70
   rw [ats_nil k71]
   exact .storpn a b c ha hb hc
  ·obtain⟨r72,rfl,k72⟩:=M (by decide) (ats_shape (p:=[91,119,45,119,93,44,45,119]) ht h)
   obtain⟨a,r73,rfl,ha,k73⟩:=W k72
   obtain⟨r74,rfl,k74⟩:=M (by decide) k73
   obtain⟨b,r75,rfl,hb,k75⟩:=W k74
   obtain⟨r76,rfl,k76⟩:=M (by decide) k75
   obtain⟨r77,rfl,k77⟩:=M (by decide) k76
   obtain⟨r78,rfl,k78⟩:=M (by decide) k77
   obtain⟨c,r79,rfl,hc,k79⟩:=W k78
   rw [ats_nil k79]
   exact .stormn a b c ha hb hc
 ·simp [shV] at hm
  rcases hm with h|h|h
  ·exact st0 9 (by simp) h
  ·exact stp 9 (by simp) h
  ·exact stm 9 (by simp) h
 ·simp [shV] at hm
  rcases hm with h|h
  ·exact two 10 (by simp) h
  ·exact neg 10 (by simp) h
 ·simp [shV] at hm;exact two 11 (by simp) hm
theorem wb_no {c:UInt8} (h:L8.wb c=true):c≠43∧c≠45∧c≠44:=by
 refine⟨?_,?_,?_⟩ <;> rintro rfl <;> exact absurd h (by decide)
theorem joi_list (q:List ByteArray):(joi q).data.toList=q.flatMap (·.data.toList):=by
 have h:∀ (q:List ByteArray) (a:ByteArray),(q.foldl (·++·) a).data.toList=a.data.toList++q.flatMap (·.data.toList):=by
  intro q
  induction q with
  | nil=>intro a;simp
  | cons t r ih=>intro a;rw [List.foldl_cons,ih];simp
 rw [joi,h];rfl
theorem offV_no {m:ByteArray} (h:∀ c∈m.data.toList,c≠43∧c≠45):offV m=false:=by
 unfold offV
 rw [List.any_eq_false]
 intro i hi
 rw [List.mem_range] at hi
 have hl:i<m.data.toList.length:=by rw [L8.size_list];omega
 have hm:m.data.toList.getD i 0∈m.data.toList:=by
  unfold List.getD
  rw [List.getElem?_eq_getElem hl]
  exact List.getElem_mem _
 obtain⟨h1,h2⟩:=h _ hm
 simp only [offAt,Bool.or_eq_true,Bool.and_eq_true,decide_eq_true_eq,not_or,not_and]
 exact⟨h1,fun h3=>absurd h3.1 h2⟩
theorem offV_com {m:ByteArray} {P R:List UInt8} (h:m.data.toList=P++44::45::R) (hP:∀ c∈P,c≠43∧c≠45) (hR:∀ c∈R,c≠43∧c≠45):offV m=false:=by
 unfold offV
 rw [List.any_eq_false]
 intro i hi
 rw [List.mem_range] at hi
 simp only [offAt,Bool.or_eq_true,Bool.and_eq_true,decide_eq_true_eq,not_or,not_and]
 have hg:∀ j,j<P.length→m.data.toList.getD j 0∈P:=fun j hj=>by
  rw [h];unfold List.getD
  rw [List.getElem?_append_left hj,List.getElem?_eq_getElem hj]
  exact List.getElem_mem _
 have h44:m.data.toList.getD P.length 0=44:=by rw [h];simp [List.getD]
 have h45:m.data.toList.getD (P.length+1) 0=45:=by rw [h];simp [List.getD]
 have hr:∀ j,P.length+2≤j→j<m.size→m.data.toList.getD j 0∈R:=fun j hj hm=>by
  have hl:j<m.data.toList.length:=by rw [L8.size_list];exact hm
  have e:m.data.toList.getD j 0=R.getD (j-(P.length+2)) 0:=by
   rw [h];unfold List.getD
   rw [List.getElem?_append_right (by omega),show j-P.length=(j-(P.length+2))+2 by omega]
   rfl
  have hj2:j-(P.length+2)<R.length:=by
   rw [h] at hl;simp only [List.length_append,List.length_cons] at hl;omega
  rw [e];unfold List.getD
  rw [List.getElem?_eq_getElem hj2]
  exact List.getElem_mem _
 by_cases h1:i<P.length
 ·obtain⟨a,b⟩:=hP _ (hg i h1)
  exact⟨a,fun h3=>absurd h3.1 b⟩
 by_cases h2:i=P.length
 ·subst h2
  rw [h44]
  exact⟨by decide,fun h3=>absurd h3.1 (by decide)⟩
 by_cases h3:i=P.length+1
 ·subst h3
  rw [h45]
  exact⟨by decide,fun _=>by rw [Nat.add_sub_cancel,h44];exact fun hh=>hh rfl⟩
 ·obtain⟨a,b⟩:=hR _ (hr i (by omega) (by omega))
  exact⟨a,fun h3=>absurd h3.1 b⟩
theorem bC:brk tCom=true:=by decide
theorem bO:brk tOpn=true:=by decide
theorem bS:brk tShu=true:=by decide
theorem bP:brk tPlu=true:=by decide
theorem bM:brk tMin=true:=by decide
theorem eB_app (a:ByteArray):eB++a=a:=by
 apply ByteArray.ext;apply Array.toList_inj.1;simp [eB]
theorem min_size (b:ByteArray):(tMin++b).size≠0:=by
 rw [ByteArray.size_append]
 have:tMin.size=1:=rfl
 omega
theorem nCM:tCom≠tMin:=by decide
theorem nOM:tOpn≠tMin:=by decide
theorem nSM:tShu≠tMin:=by decide
theorem nPM:tPlu≠tMin:=by decide
theorem eB0:eB.size=0:=rfl
theorem sp_w {st:List ByteArray × ByteArray} {a:ByteArray} (h:IsWd a):spS st a=(st.1,st.2++a):=by unfold spS;rw [if_neg (by rw [h.2.1];exact Bool.false_ne_true)]
theorem sp_c {st:List ByteArray × ByteArray} {a:ByteArray} (h:brk a=true) (hn:a≠tMin):spS st a=(fls st,eB):=by unfold spS;rw [if_pos h,if_neg hn]
theorem sp_m {st:List ByteArray × ByteArray}:spS st tMin=(fls st,tMin):=by unfold spS;rw [if_pos bM,if_pos rfl]
theorem fl_0 {l:List ByteArray}:fls (l,eB)=l:=by unfold fls;rw [if_pos eB0]
theorem fl_1 {l:List ByteArray} {a:ByteArray} (h:a.size≠0):fls (l,a)=l++[a]:=by unfold fls;rw [if_neg h]
theorem frm_in:∀ k,k<86→0≤L3.frm k∧L3.frm k≤11:=by decide +kernel
end Go.Proofs.YtgljoilddjmohaaGreatDoor.L9
end
section
namespace Go.Proofs.YtgljoilddjmohaaGreatDoor.L9
open Go.RowKit
attribute [local go_sem] Oper.semAt_some
theorem beqt_ne {s:ByteArray} {l:List UInt8} (h:¬ s=⟨l.toArray⟩):(s.toList==l)=false:=by
 have:=L2.txt_ne h
 rwa [Lib.toList_data ⟨l.toArray⟩,List.toList_toArray] at this
theorem rsizes_at (d:Df) (b:Bool) (w:World) (h:sizV d=b) :
  Calls Tryz.prog 58 #[.agg #[.string d.nm,.int .i64 d.key,.int .i64 d.val,.int .i64 d.ent]] w fun e w'=>e=.returned (.bool b)∧Below w.heap.size w w':=by
 subst h
 obtain⟨nm,k,v,n⟩:=d
 have b0:=L8.bnew w (.cells #[.string nm,.int .i64 k,.int .i64 v,.int .i64 n] 70)
 go_enter Tryz.func58,Tryz.ntmps58
 go_wp2
 all_goals
  go_ret
  exact⟨L2.ret_bool (by rw [Bool.eq_iff_iff];simp [sizV];try omega),b0⟩
theorem fiV_from (s:ByteArray):∀ i,i≤86→(∀ k,k<i→L3.nm k≠s)→fiV s=(match ((List.range 86).drop i).find? (fun k=>decide (L3.nm k=s)) with|some k=>(k:Int)|none=>-1):=by
 intro i hi h
 unfold fiV
 rw [← List.take_append_drop i (List.range 86),List.find?_append]
 have e:((List.range 86).take i).find? (fun k=>decide (L3.nm k=s))=none:=by
  rw [List.find?_eq_none]
  intro x hx
  rw [List.take_range,List.mem_range] at hx
  simpa using h x (by omega)
 rw [e,List.take_append_drop]
 simp <;> rfl
theorem fiV_hit {s:ByteArray} {i:Nat} (hi:i<86) (h:∀ k,k<i→L3.nm k≠s) (he:L3.nm i=s):fiV s=(i:Int):=by
 rw [fiV_from s i (by omega) h]
 have e:(List.range 86).drop i=i::(List.range 86).drop (i+1):=by
  rw [List.drop_eq_getElem_cons (by simpa using hi)];simp
 rw [e,List.find?_cons_of_pos (by simpa using he)]
theorem st_cells {w:World} {k:Nat} {l:List ByteArray} {t:TypeId} (h:w.heap[k]?=some (.cells (L8.stC l).toArray t)):L8.StAt w (.slice (some ⟨k,0,none⟩) l.length l.length) l:=by
 refine .inl ⟨k,0,_,rfl,lt_of_block h,fun j hj=>?_⟩
 simp [World.cell?,h,L8.stC,List.getD,List.getElem?_eq_getElem hj]
theorem st_new (w:World) (l:List ByteArray) (t:TypeId):L8.StAt (w.alloc (.cells (L8.stC l).toArray t)) (.slice (some ⟨w.heap.size,0,none⟩) l.length l.length) l:=st_cells (heap_alloc_last w _)
end Go.Proofs.YtgljoilddjmohaaGreatDoor.L9
end
section
namespace Go.Proofs.YtgljoilddjmohaaGreatDoor.L9
open Go.RowKit
attribute [local go_sem] Oper.semAt_some
def txs (xs:L8.Tks):List ByteArray:=xs.map (·.1)
theorem eqb {T:ByteArray} {l:List UInt8} (h:T=⟨l.toArray⟩):(T.toList==l)=true:=by
 rw [h,Lib.toList_data];simp
def Bits (T:ByteArray) (b1 b2 b3 b4 b5:Bool):Prop:=(T.toList==[44])=b1∧(T.toList==[91])=b2∧(T.toList==[93])=b3∧(T.toList==[43])=b4∧(T.toList==[45])=b5
theorem brk_bits (T:ByteArray):(brk T=true∧((T≠tMin∧(Bits T true false false false false∨Bits T false true false false false∨Bits T false false true false false∨Bits T false false false true false))∨(T=tMin∧Bits T false false false false true)))∨(brk T=false∧Bits T false false false false false):=by
 by_cases h:T=tCom
 ·exact .inl ⟨by rw [h];decide,.inl ⟨by rw [h];decide,.inl ⟨by rw [h,Lib.toList_data];rfl,by rw [h,Lib.toList_data];rfl,by rw [h,Lib.toList_data];rfl,by rw [h,Lib.toList_data];rfl,by rw [h,Lib.toList_data];rfl⟩⟩⟩
 have n0:=h
 clear h
 by_cases h:T=tOpn
 ·exact .inl ⟨by rw [h];decide,.inl ⟨by rw [h];decide,.inr (.inl ⟨by rw [h,Lib.toList_data];rfl,by rw [h,Lib.toList_data];rfl,by rw [h,Lib.toList_data];rfl,by rw [h,Lib.toList_data];rfl,by rw [h,Lib.toList_data];rfl⟩)⟩⟩
 have n1:=h
 clear h
 by_cases h:T=tShu
 ·exact .inl ⟨by rw [h];decide,.inl ⟨by rw [h];decide,.inr (.inr (.inl ⟨by rw [h,Lib.toList_data];rfl,by rw [h,Lib.toList_data];rfl,by rw [h,Lib.toList_data];rfl,by rw [h,Lib.toList_data];rfl,by rw [h,Lib.toList_data];rfl⟩))⟩⟩
 have n2:=h
 clear h
 by_cases h:T=tPlu
 ·exact .inl ⟨by rw [h];decide,.inl ⟨by rw [h];decide,.inr (.inr (.inr ⟨by rw [h,Lib.toList_data];rfl,by rw [h,Lib.toList_data];rfl,by rw [h,Lib.toList_data];rfl,by rw [h,Lib.toList_data];rfl,by rw [h,Lib.toList_data];rfl⟩))⟩⟩
 have n3:=h
 clear h
 by_cases h:T=tMin
 ·exact .inl ⟨by rw [h];decide,.inr ⟨h,by rw [h,Lib.toList_data];rfl,by rw [h,Lib.toList_data];rfl,by rw [h,Lib.toList_data];rfl,by rw [h,Lib.toList_data];rfl,by rw [h,Lib.toList_data];rfl⟩⟩
 have n4:=h
 clear h
 exact .inr ⟨by simp [brk,n0,n1,n2,n3,n4],beqt_ne n0,beqt_ne n1,beqt_ne n2,beqt_ne n3,beqt_ne n4⟩
theorem Tryz.info9:(Tryz.prog.info? 9).map (fun i=>(i.zero,i.size,i.bytes))=some (some (.string ⟨#[]⟩),1,16):=by kernel_rfl
end Go.Proofs.YtgljoilddjmohaaGreatDoor.L9
end
section
namespace Go.Proofs.YtgljoilddjmohaaGreatDoor.L9
open Go.RowKit
attribute [local go_sem] Oper.semAt_some
theorem frozen_all {w:World} {k:Nat} {cs:Array Value} {t:TypeId} (h:w.heap[k]?=some (.cells cs t)) (i:Nat):w.frozen? ⟨k,i,none⟩=false:=by simp [World.frozen?,h]
theorem cells3 {w:World} {k:Nat} {a b c:Value} {t:TypeId} (h:w.heap[k]?=some (.cells #[a,b,c] t)):w.cell? ⟨k,0,none⟩=some a∧w.cell? ⟨k,1,none⟩=some b∧w.cell? ⟨k,2,none⟩=some c:=by
 simp [World.cell?,h]
theorem cells4 {w:World} {k:Nat} {a b c d:Value} {t:TypeId} (h:w.heap[k]?=some (.cells #[a,b,c,d] t)):w.cell? ⟨k,0,none⟩=some a∧w.cell? ⟨k,1,none⟩=some b∧w.cell? ⟨k,2,none⟩=some c∧w.cell? ⟨k,3,none⟩=some d:=by
 simp [World.cell?,h]
theorem row_up {w w':World} {k:Nat} {cs:Array Value} {t:TypeId} (h:w.heap[k]?=some (.cells cs t)) (hb:Below w.heap.size w w'):w'.heap[k]?=some (.cells cs t):=(hb.block _ (lt_of_block h)).trans h
theorem row_set {w:World} {k:Nat} {cs:Array Value} {t:TypeId} (h:w.heap[k]?=some (.cells cs t)) (i:Nat) (v:Value):(w.setCell ⟨k,i,none⟩ v).heap[k]?=some (.cells (cs.setIfInBounds i v) t):=by
 have hlt:=lt_of_block h
 have h':w.heap[k]=.cells cs t:=by simpa [Array.getElem?_eq_getElem hlt] using h
 show (w.heap.modify k _)[k]?=_
 rw [Array.getElem?_eq_getElem (by simpa using hlt),Array.getElem_modify_self,h']
 rfl
theorem row_other {w:World} {k g:Nat} {o:Option Obj} (h:w.heap[k]?=o) (i:Nat) (v:Value) (hne:k≠g):(w.setCell ⟨g,i,none⟩ v).heap[k]?=o:=by
 rw [← h]
 show (w.heap.modify g _)[k]?=_
 simp [Array.getElem?_modify,Ne.symm hne]
theorem shp_txs (xs:L8.Tks):L8.shB xs=shpB (txs xs):=by
 unfold L8.shB shpB txs L8.txt
 rw [List.map_map];rfl
end Go.Proofs.YtgljoilddjmohaaGreatDoor.L9
end
section
namespace Go.Proofs.YtgljoilddjmohaaGreatDoor.L9
open Go.RowKit
attribute [local go_sem] Oper.semAt_some
abbrev c6 (op:Int) (reg:Bool) (dst src off imm:Int):Array Value:=#[.int .i64 op,.bool reg,.int .i64 dst,.int .i64 src,.int .i64 off,.int .i64 imm]
theorem st_from (k o n cap a:Nat) (h:a≤n) (hc:n≤cap) (w:World) :
  (Instr.slice 48 (.slice (some ⟨k,o,none⟩) n cap) (some (.int .i64 (a:Int))) none none).run Tryz.prog w=.ok (.slice (some ⟨k,if cap=a then o else o+a,none⟩) (n-a) (cap-a)) w:=by
 have h2:a≤cap:=by omega
 by_cases hq:cap=a <;> simp [go_sem,Tryz.underlying48,h,hq]
end Go.Proofs.YtgljoilddjmohaaGreatDoor.L9
end
