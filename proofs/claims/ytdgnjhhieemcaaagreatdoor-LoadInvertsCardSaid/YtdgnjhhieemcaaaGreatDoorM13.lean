/- Lemmas and walks of L9Rfac, L9Val: what each theorem states; conditions stand in each theorem. -/
import Derived.Test.YtdgnjhhieemcaaaGreatDoorM5
section
namespace Go.Proofs.YtdgnjhhieemcaaaGreatDoor.L9
def IsWd (t:ByteArray):Prop:=t.size≠0∧brk t=false∧wdB t=true∧∀ c∈t.data.toList,L8.wb c=true
theorem brk_pun {t:ByteArray} (h:brk t=true):∃ c,t.data.toList=[c]∧L8.pun c=true:=by
 simp only [brk,Bool.or_eq_true,decide_eq_true_eq] at h
 rcases h with (((h|h)|h)|h)|h <;> subst h <;> exact⟨_,rfl,by decide⟩
theorem isWd_of {t:ByteArray} (h:L8.TokT t.data.toList) (hw:L8.isW t.data.toList=true):IsWd t:=by
 have h2:=(L8.isW_wn h).1 hw
 rcases h with ⟨hne,hall⟩|⟨c,hc,hp⟩
 ·refine⟨fun e=>hne (List.eq_nil_of_length_eq_zero (by rw [L8.size_list];exact e)),?_,hw,hall⟩
  cases hb:brk t
  ·rfl
  ·obtain⟨c,hc,hp⟩:=brk_pun hb
   have:=hall c (by rw [hc];simp)
   rw [((L8.byte_cases c).2.2 this).1] at hp;cases hp
 ·rw [hc] at hw
  simp [L8.isW,hp] at hw
theorem mark_of {t:ByteArray} (hw:L8.isW t.data.toList=false):t=⟨#[L8.shl1 t.data.toList]⟩:=by
 rcases L8.isW_one t with ⟨_,c,hc⟩|⟨_,h2⟩
 ·have e:L8.shl1 t.data.toList=c:=by
   unfold L8.shl1
   rw [if_neg (by rw [hw];exact Bool.false_ne_true),hc];rfl
  rw [e]
  apply ByteArray.ext
  apply Array.toList_inj.1
  rw [hc]
 ·rw [hw] at h2;cases h2
def At (t:ByteArray) (c:UInt8):Prop:=if c=119 then IsWd t else t=⟨#[c]⟩
def Ats:List ByteArray→List UInt8→Prop
 | [],[]=>True
 | t::q,c::p=>At t c∧Ats q p
 | _,_=>False
theorem ats_of:∀ (q:List ByteArray),(∀ t∈q,L8.TokT t.data.toList)→Ats q (q.map fun t=>L8.shl1 t.data.toList)
 | [],_=>trivial
 | t::q,h=>by
  refine⟨?_,ats_of q fun x hx=>h x (List.mem_cons_of_mem _ hx)⟩
  have ht:=h t (by simp)
  have h1:=L8.shl1_w ht
  cases hw:L8.isW t.data.toList
  ·rw [hw] at h1
   unfold At
   rw [if_neg (by simpa using h1)]
   exact mark_of hw
  ·rw [hw] at h1
   unfold At
   rw [if_pos (by simpa using h1)]
   exact isWd_of ht hw
theorem ats_shape {q:List ByteArray} {p:List UInt8} (ht:∀ t∈q,L8.TokT t.data.toList) (h:shpB q=⟨p.toArray⟩):Ats q p:=by
 have e:q.map (fun t=>L8.shl1 t.data.toList)=p:=by
  have h2:=congrArg (fun b:ByteArray=>b.data.toList) h
  simp only [shpB,L8.shp,List.map_map,List.toList_toArray] at h2
  exact h2
 rw [← e]
 exact ats_of q ht
theorem at_w {t:ByteArray} (h:At t 119):IsWd t:=by unfold At at h;rwa [if_pos rfl] at h
theorem at_c {t:ByteArray} {c:UInt8} (hc:c≠119) (h:At t c):t=⟨#[c]⟩:=by unfold At at h;rwa [if_neg hc] at h
inductive Ops:Int→List ByteArray→Prop
 | none (f):f=6→Ops f []
 | one (f a):(f=1∨f=3∨f=5)→IsWd a→Ops f [a]
 | two (f a b):(f=0∨f=10∨f=2∨f=11)→IsWd a→IsWd b→Ops f [a,tCom,b]
 | neg (f a b):(f=0∨f=10)→IsWd a→IsWd b→Ops f [a,tCom,tMin,b]
 | three (a b c):IsWd a→IsWd b→IsWd c→Ops 4 [a,tCom,b,tCom,c]
 | threen (a b c):IsWd a→IsWd b→IsWd c→Ops 4 [a,tCom,tMin,b,tCom,c]
 | load (a b):IsWd a→IsWd b→Ops 7 [a,tCom,tOpn,b,tShu]
 | loadp (a b c):IsWd a→IsWd b→IsWd c→Ops 7 [a,tCom,tOpn,b,tPlu,c,tShu]
 | loadm (a b c):IsWd a→IsWd b→IsWd c→Ops 7 [a,tCom,tOpn,b,tMin,c,tShu]
 | stor (f a b):(f=8∨f=9)→IsWd a→IsWd b→Ops f [tOpn,a,tShu,tCom,b]
 | storp (f a b c):(f=8∨f=9)→IsWd a→IsWd b→IsWd c→Ops f [tOpn,a,tPlu,b,tShu,tCom,c]
 | storm (f a b c):(f=8∨f=9)→IsWd a→IsWd b→IsWd c→Ops f [tOpn,a,tMin,b,tShu,tCom,c]
 | storn (a b):IsWd a→IsWd b→Ops 8 [tOpn,a,tShu,tCom,tMin,b]
 | storpn (a b c):IsWd a→IsWd b→IsWd c→Ops 8 [tOpn,a,tPlu,b,tShu,tCom,tMin,c]
 | stormn (a b c):IsWd a→IsWd b→IsWd c→Ops 8 [tOpn,a,tMin,b,tShu,tCom,tMin,c]
theorem ats_nil {q:List ByteArray} (h:Ats q []):q=[]:=by
 cases q with
 | nil=>rfl
 | cons _ _=>exact h.elim
theorem ats_cons {q:List ByteArray} {c:UInt8} {p:List UInt8} (h:Ats q (c::p)):∃ t r,q=t::r∧At t c∧Ats r p:=by
 cases q with
 | nil=>exact h.elim
 | cons t r=>exact⟨t,r,rfl,h.1,h.2⟩
theorem ops_of {f:Int} {q:List ByteArray} (hf:0≤f∧f≤11) (ht:∀ t∈q,L8.TokT t.data.toList) (hm:shpB q∈shV f):Ops f q:=by
 have W:∀ {q:List ByteArray} {p:List UInt8},Ats q (119::p)→∃ t r,q=t::r∧IsWd t∧Ats r p:=fun h=>by
  obtain⟨t,r,e,ha,hr⟩:=ats_cons h
  exact⟨t,r,e,at_w ha,hr⟩
 have M:∀ {q:List ByteArray} {c:UInt8} {p:List UInt8},c≠119→Ats q (c::p)→∃ r,q=⟨#[c]⟩::r∧Ats r p:=fun hc h=>by
  obtain⟨t,r,e,ha,hr⟩:=ats_cons h
  exact⟨r,by rw [e,at_c hc ha],hr⟩
 have hfs:f=0∨f=1∨f=2∨f=3∨f=4∨f=5∨f=6∨f=7∨f=8∨f=9∨f=10∨f=11:=by omega
 have two:∀ f,(f=0∨f=10∨f=2∨f=11)→shpB q=sww→Ops f q:=fun f hf h=>by
  obtain⟨a,r1,rfl,ha,k1⟩:=W (ats_shape (p:=[119,44,119]) ht h)
  obtain⟨r2,rfl,k2⟩:=M (by decide) k1
  obtain⟨b,r3,rfl,hb,k3⟩:=W k2
  rw [ats_nil k3]
  exact .two f a b hf ha hb
 have neg:∀ f,(f=0∨f=10)→shpB q=swmw→Ops f q:=fun f hf h=>by
  obtain⟨a,r4,rfl,ha,k4⟩:=W (ats_shape (p:=[119,44,45,119]) ht h)
  obtain⟨r5,rfl,k5⟩:=M (by decide) k4
  obtain⟨r6,rfl,k6⟩:=M (by decide) k5
  obtain⟨b,r7,rfl,hb,k7⟩:=W k6
  rw [ats_nil k7]
  exact .neg f a b hf ha hb
 have one:∀ f,(f=1∨f=3∨f=5)→shpB q=sw→Ops f q:=fun f hf h=>by
  obtain⟨a,r8,rfl,ha,k8⟩:=W (ats_shape (p:=[119]) ht h)
  rw [ats_nil k8]
  exact .one f a hf ha
 have st0:∀ f,(f=8∨f=9)→shpB q=sM0w→Ops f q:=fun f hf h=>by
  obtain⟨r9,rfl,k9⟩:=M (by decide) (ats_shape (p:=[91,119,93,44,119]) ht h)
  obtain⟨a,r10,rfl,ha,k10⟩:=W k9
  obtain⟨r11,rfl,k11⟩:=M (by decide) k10
  obtain⟨r12,rfl,k12⟩:=M (by decide) k11
  obtain⟨b,r13,rfl,hb,k13⟩:=W k12
  rw [ats_nil k13]
  exact .stor f a b hf ha hb
 have stp:∀ f,(f=8∨f=9)→shpB q=sMpw→Ops f q:=fun f hf h=>by
  obtain⟨r14,rfl,k14⟩:=M (by decide) (ats_shape (p:=[91,119,43,119,93,44,119]) ht h)
  obtain⟨a,r15,rfl,ha,k15⟩:=W k14
  obtain⟨r16,rfl,k16⟩:=M (by decide) k15
  obtain⟨b,r17,rfl,hb,k17⟩:=W k16
  obtain⟨r18,rfl,k18⟩:=M (by decide) k17
  obtain⟨r19,rfl,k19⟩:=M (by decide) k18
  obtain⟨c,r20,rfl,hc,k20⟩:=W k19
  rw [ats_nil k20]
  exact .storp f a b c hf ha hb hc
 have stm:∀ f,(f=8∨f=9)→shpB q=sMmw→Ops f q:=fun f hf h=>by
  obtain⟨r21,rfl,k21⟩:=M (by decide) (ats_shape (p:=[91,119,45,119,93,44,119]) ht h)
  obtain⟨a,r22,rfl,ha,k22⟩:=W k21
  obtain⟨r23,rfl,k23⟩:=M (by decide) k22
  obtain⟨b,r24,rfl,hb,k24⟩:=W k23
  obtain⟨r25,rfl,k25⟩:=M (by decide) k24
  obtain⟨r26,rfl,k26⟩:=M (by decide) k25
  obtain⟨c,r27,rfl,hc,k27⟩:=W k26
  rw [ats_nil k27]
  exact .storm f a b c hf ha hb hc
 rcases hfs with rfl|rfl|rfl|rfl|rfl|rfl|rfl|rfl|rfl|rfl|rfl|rfl
 ·simp [shV] at hm
  rcases hm with h|h
  ·exact two 0 (by simp) h
  ·exact neg 0 (by simp) h
 ·simp [shV] at hm;exact one 1 (by simp) hm
 ·simp [shV] at hm;exact two 2 (by simp) hm
 ·simp [shV] at hm;exact one 3 (by simp) hm
 ·simp [shV] at hm
  rcases hm with h|h
  ·obtain⟨a,r28,rfl,ha,k28⟩:=W (ats_shape (p:=[119,44,119,44,119]) ht h)
   obtain⟨r29,rfl,k29⟩:=M (by decide) k28
   obtain⟨b,r30,rfl,hb,k30⟩:=W k29
   obtain⟨r31,rfl,k31⟩:=M (by decide) k30
   obtain⟨c,r32,rfl,hc,k32⟩:=W k31
   rw [ats_nil k32]
   exact .three a b c ha hb hc
  ·obtain⟨a,r33,rfl,ha,k33⟩:=W (ats_shape (p:=[119,44,45,119,44,119]) ht h)
   obtain⟨r34,rfl,k34⟩:=M (by decide) k33
   obtain⟨r35,rfl,k35⟩:=M (by decide) k34
   obtain⟨b,r36,rfl,hb,k36⟩:=W k35
   obtain⟨r37,rfl,k37⟩:=M (by decide) k36
   obtain⟨c,r38,rfl,hc,k38⟩:=W k37
   rw [ats_nil k38]
   exact .threen a b c ha hb hc
 ·simp [shV] at hm;exact one 5 (by simp) hm
 ·simp [shV] at hm
  rw [ats_nil (ats_shape (p:=[]) ht hm)]
  exact .none 6 rfl
 ·simp [shV] at hm
  rcases hm with h|h|h
  ·obtain⟨a,r39,rfl,ha,k39⟩:=W (ats_shape (p:=[119,44,91,119,93]) ht h)
   obtain⟨r40,rfl,k40⟩:=M (by decide) k39
   obtain⟨r41,rfl,k41⟩:=M (by decide) k40
   obtain⟨b,r42,rfl,hb,k42⟩:=W k41
   obtain⟨r43,rfl,k43⟩:=M (by decide) k42
   rw [ats_nil k43]
   exact .load a b ha hb
  ·obtain⟨a,r44,rfl,ha,k44⟩:=W (ats_shape (p:=[119,44,91,119,43,119,93]) ht h)
   obtain⟨r45,rfl,k45⟩:=M (by decide) k44
   obtain⟨r46,rfl,k46⟩:=M (by decide) k45
   obtain⟨b,r47,rfl,hb,k47⟩:=W k46
   obtain⟨r48,rfl,k48⟩:=M (by decide) k47
   obtain⟨c,r49,rfl,hc,k49⟩:=W k48
   obtain⟨r50,rfl,k50⟩:=M (by decide) k49
   rw [ats_nil k50]
   exact .loadp a b c ha hb hc
  ·obtain⟨a,r51,rfl,ha,k51⟩:=W (ats_shape (p:=[119,44,91,119,45,119,93]) ht h)
   obtain⟨r52,rfl,k52⟩:=M (by decide) k51
   obtain⟨r53,rfl,k53⟩:=M (by decide) k52
   obtain⟨b,r54,rfl,hb,k54⟩:=W k53
   obtain⟨r55,rfl,k55⟩:=M (by decide) k54
   obtain⟨c,r56,rfl,hc,k56⟩:=W k55
   obtain⟨r57,rfl,k57⟩:=M (by decide) k56
   rw [ats_nil k57]
   exact .loadm a b c ha hb hc
 ·simp [shV] at hm
  rcases hm with h|h|h|h|h|h
  ·exact st0 8 (by simp) h
  ·exact stp 8 (by simp) h
  ·exact stm 8 (by simp) h
  ·obtain⟨r58,rfl,k58⟩:=M (by decide) (ats_shape (p:=[91,119,93,44,45,119]) ht h)
   obtain⟨a,r59,rfl,ha,k59⟩:=W k58
   obtain⟨r60,rfl,k60⟩:=M (by decide) k59
   obtain⟨r61,rfl,k61⟩:=M (by decide) k60
   obtain⟨r62,rfl,k62⟩:=M (by decide) k61
   obtain⟨b,r63,rfl,hb,k63⟩:=W k62
   rw [ats_nil k63]
   exact .storn a b ha hb
  ·obtain⟨r64,rfl,k64⟩:=M (by decide) (ats_shape (p:=[91,119,43,119,93,44,45,119]) ht h)
   obtain⟨a,r65,rfl,ha,k65⟩:=W k64
   obtain⟨r66,rfl,k66⟩:=M (by decide) k65
   obtain⟨b,r67,rfl,hb,k67⟩:=W k66
   obtain⟨r68,rfl,k68⟩:=M (by decide) k67
   obtain⟨r69,rfl,k69⟩:=M (by decide) k68
   obtain⟨r70,rfl,k70⟩:=M (by decide) k69
   obtain⟨c,r71,rfl,hc,k71⟩:=W k70
   rw [ats_nil k71]
   exact .storpn a b c ha hb hc
  ·obtain⟨r72,rfl,k72⟩:=M (by decide) (ats_shape (p:=[91,119,45,119,93,44,45,119]) ht h)
   obtain⟨a,r73,rfl,ha,k73⟩:=W k72
   obtain⟨r74,rfl,k74⟩:=M (by decide) k73
   obtain⟨b,r75,rfl,hb,k75⟩:=W k74
   obtain⟨r76,rfl,k76⟩:=M (by decide) k75
   obtain⟨r77,rfl,k77⟩:=M (by decide) k76
   obtain⟨r78,rfl,k78⟩:=M (by decide) k77
   obtain⟨c,r79,rfl,hc,k79⟩:=W k78
   rw [ats_nil k79]
   exact .stormn a b c ha hb hc
 ·simp [shV] at hm
  rcases hm with h|h|h
  ·exact st0 9 (by simp) h
  ·exact stp 9 (by simp) h
  ·exact stm 9 (by simp) h
 ·simp [shV] at hm
  rcases hm with h|h
  ·exact two 10 (by simp) h
  ·exact neg 10 (by simp) h
 ·simp [shV] at hm;exact two 11 (by simp) hm
theorem wb_no {c:UInt8} (h:L8.wb c=true):c≠43∧c≠45∧c≠44:=by
 refine⟨?_,?_,?_⟩ <;> rintro rfl <;> exact absurd h (by decide)
theorem joi_list (q:List ByteArray):(joi q).data.toList=q.flatMap (·.data.toList):=by
 have h:∀ (q:List ByteArray) (a:ByteArray),(q.foldl (·++·) a).data.toList=a.data.toList++q.flatMap (·.data.toList):=by
  intro q
  induction q with
  | nil=>intro a;simp
  | cons t r ih=>intro a;rw [List.foldl_cons,ih];simp
 rw [joi,h];rfl
theorem offV_no {m:ByteArray} (h:∀ c∈m.data.toList,c≠43∧c≠45):offV m=false:=by
 unfold offV
 rw [List.any_eq_false]
 intro i hi
 rw [List.mem_range] at hi
 have hl:i<m.data.toList.length:=by rw [L8.size_list];omega
 have hm:m.data.toList.getD i 0∈m.data.toList:=by
  unfold List.getD
  rw [List.getElem?_eq_getElem hl]
  exact List.getElem_mem _
 obtain⟨h1,h2⟩:=h _ hm
 simp only [offAt,Bool.or_eq_true,Bool.and_eq_true,decide_eq_true_eq,not_or,not_and]
 exact⟨h1,fun h3=>absurd h3.1 h2⟩
theorem offV_com {m:ByteArray} {P R:List UInt8} (h:m.data.toList=P++44::45::R) (hP:∀ c∈P,c≠43∧c≠45) (hR:∀ c∈R,c≠43∧c≠45):offV m=false:=by
 unfold offV
 rw [List.any_eq_false]
 intro i hi
 rw [List.mem_range] at hi
 simp only [offAt,Bool.or_eq_true,Bool.and_eq_true,decide_eq_true_eq,not_or,not_and]
 have hg:∀ j,j<P.length→m.data.toList.getD j 0∈P:=fun j hj=>by
  rw [h];unfold List.getD
  rw [List.getElem?_append_left hj,List.getElem?_eq_getElem hj]
  exact List.getElem_mem _
 have h44:m.data.toList.getD P.length 0=44:=by rw [h];simp [List.getD]
 have h45:m.data.toList.getD (P.length+1) 0=45:=by rw [h];simp [List.getD]
 have hr:∀ j,P.length+2≤j→j<m.size→m.data.toList.getD j 0∈R:=fun j hj hm=>by
  have hl:j<m.data.toList.length:=by rw [L8.size_list];exact hm
  have e:m.data.toList.getD j 0=R.getD (j-(P.length+2)) 0:=by
   rw [h];unfold List.getD
   rw [List.getElem?_append_right (by omega),show j-P.length=(j-(P.length+2))+2 by omega]
   rfl
  have hj2:j-(P.length+2)<R.length:=by
   rw [h] at hl;simp only [List.length_append,List.length_cons] at hl;omega
  rw [e];unfold List.getD
  rw [List.getElem?_eq_getElem hj2]
  exact List.getElem_mem _
 by_cases h1:i<P.length
 ·obtain⟨a,b⟩:=hP _ (hg i h1)
  exact⟨a,fun h3=>absurd h3.1 b⟩
 by_cases h2:i=P.length
 ·subst h2
  rw [h44]
  exact⟨by decide,fun h3=>absurd h3.1 (by decide)⟩
 by_cases h3:i=P.length+1
 ·subst h3
  rw [h45]
  exact⟨by decide,fun _=>by rw [Nat.add_sub_cancel,h44];exact fun hh=>hh rfl⟩
 ·obtain⟨a,b⟩:=hR _ (hr i (by omega) (by omega))
  exact⟨a,fun h3=>absurd h3.1 b⟩
theorem bC:brk tCom=true:=by decide
theorem bO:brk tOpn=true:=by decide
theorem bS:brk tShu=true:=by decide
theorem bP:brk tPlu=true:=by decide
theorem bM:brk tMin=true:=by decide
theorem eB_app (a:ByteArray):eB++a=a:=by
 apply ByteArray.ext;apply Array.toList_inj.1;simp [eB]
theorem min_size (b:ByteArray):(tMin++b).size≠0:=by
 rw [ByteArray.size_append]
 have:tMin.size=1:=rfl
 omega
theorem nCM:tCom≠tMin:=by decide
theorem nOM:tOpn≠tMin:=by decide
theorem nSM:tShu≠tMin:=by decide
theorem nPM:tPlu≠tMin:=by decide
theorem eB0:eB.size=0:=rfl
theorem sp_w {st:List ByteArray × ByteArray} {a:ByteArray} (h:IsWd a):spS st a=(st.1,st.2++a):=by unfold spS;rw [if_neg (by rw [h.2.1];exact Bool.false_ne_true)]
theorem sp_c {st:List ByteArray × ByteArray} {a:ByteArray} (h:brk a=true) (hn:a≠tMin):spS st a=(fls st,eB):=by unfold spS;rw [if_pos h,if_neg hn]
theorem sp_m {st:List ByteArray × ByteArray}:spS st tMin=(fls st,tMin):=by unfold spS;rw [if_pos bM,if_pos rfl]
theorem fl_0 {l:List ByteArray}:fls (l,eB)=l:=by unfold fls;rw [if_pos eB0]
theorem fl_1 {l:List ByteArray} {a:ByteArray} (h:a.size≠0):fls (l,a)=l++[a]:=by unfold fls;rw [if_neg h]
theorem frm_in:∀ k,k<86→0≤L3.frm k∧L3.frm k≤11:=by decide +kernel
theorem spl_one {a:ByteArray} (ha:IsWd a):spl [a]=[a]:=by simp only [spl,spF,List.foldl,sp_w ha,eB_app];rw [fl_1 ha.1];rfl
theorem spl_two {a b:ByteArray} (ha:IsWd a) (hb:IsWd b):spl [a,tCom,b]=[a,b]:=by simp only [spl,spF,List.foldl,sp_w ha,sp_w hb,sp_c bC nCM,eB_app];rw [fl_1 ha.1,fl_1 hb.1];rfl
theorem spl_neg {a b:ByteArray} (ha:IsWd a) (hb:IsWd b):spl [a,tCom,tMin,b]=[a,tMin++b]:=by simp only [spl,spF,List.foldl,sp_w ha,sp_w hb,sp_c bC nCM,sp_m,eB_app];rw [fl_1 ha.1,fl_0,fl_1 (min_size b)];rfl
theorem spl_three {a b c:ByteArray} (ha:IsWd a) (hb:IsWd b) (hc:IsWd c):spl [a,tCom,b,tCom,c]=[a,b,c]:=by simp only [spl,spF,List.foldl,sp_w ha,sp_w hb,sp_w hc,sp_c bC nCM,eB_app];rw [fl_1 ha.1,fl_1 hb.1,fl_1 hc.1];rfl
theorem spl_threen {a b c:ByteArray} (ha:IsWd a) (hb:IsWd b) (hc:IsWd c):spl [a,tCom,tMin,b,tCom,c]=[a,tMin++b,c]:=by simp only [spl,spF,List.foldl,sp_w ha,sp_w hb,sp_w hc,sp_c bC nCM,sp_m,eB_app];rw [fl_1 ha.1,fl_0,fl_1 (min_size b),fl_1 hc.1];rfl
theorem spl_load {a b:ByteArray} (ha:IsWd a) (hb:IsWd b):spl [a,tCom,tOpn,b,tShu]=[a,b]:=by simp only [spl,spF,List.foldl,sp_w ha,sp_w hb,sp_c bC nCM,sp_c bO nOM,sp_c bS nSM,eB_app];rw [fl_1 ha.1,fl_0,fl_1 hb.1,fl_0];rfl
theorem spl_loadp {a b c:ByteArray} (ha:IsWd a) (hb:IsWd b) (hc:IsWd c):spl [a,tCom,tOpn,b,tPlu,c,tShu]=[a,b,c]:=by simp only [spl,spF,List.foldl,sp_w ha,sp_w hb,sp_w hc,sp_c bC nCM,sp_c bO nOM,sp_c bS nSM,sp_c bP nPM,eB_app];rw [fl_1 ha.1,fl_0,fl_1 hb.1,fl_1 hc.1,fl_0];rfl
theorem spl_loadm {a b c:ByteArray} (ha:IsWd a) (hb:IsWd b) (hc:IsWd c):spl [a,tCom,tOpn,b,tMin,c,tShu]=[a,b,tMin++c]:=by simp only [spl,spF,List.foldl,sp_w ha,sp_w hb,sp_w hc,sp_c bC nCM,sp_c bO nOM,sp_c bS nSM,sp_m,eB_app];rw [fl_1 ha.1,fl_0,fl_1 hb.1,fl_1 (min_size c),fl_0];rfl
theorem spl_stor {a b:ByteArray} (ha:IsWd a) (hb:IsWd b):spl [tOpn,a,tShu,tCom,b]=[a,b]:=by simp only [spl,spF,List.foldl,sp_w ha,sp_w hb,sp_c bC nCM,sp_c bO nOM,sp_c bS nSM,eB_app];rw [fl_0,fl_1 ha.1,fl_0,fl_1 hb.1];rfl
theorem spl_storp {a b c:ByteArray} (ha:IsWd a) (hb:IsWd b) (hc:IsWd c):spl [tOpn,a,tPlu,b,tShu,tCom,c]=[a,b,c]:=by simp only [spl,spF,List.foldl,sp_w ha,sp_w hb,sp_w hc,sp_c bC nCM,sp_c bO nOM,sp_c bS nSM,sp_c bP nPM,eB_app];rw [fl_0,fl_1 ha.1,fl_1 hb.1,fl_0,fl_1 hc.1];rfl
theorem spl_storm {a b c:ByteArray} (ha:IsWd a) (hb:IsWd b) (hc:IsWd c):spl [tOpn,a,tMin,b,tShu,tCom,c]=[a,tMin++b,c]:=by simp only [spl,spF,List.foldl,sp_w ha,sp_w hb,sp_w hc,sp_c bC nCM,sp_c bO nOM,sp_c bS nSM,sp_m,eB_app];rw [fl_0,fl_1 ha.1,fl_1 (min_size b),fl_0,fl_1 hc.1];rfl
theorem spl_storn {a b:ByteArray} (ha:IsWd a) (hb:IsWd b):spl [tOpn,a,tShu,tCom,tMin,b]=[a,tMin++b]:=by simp only [spl,spF,List.foldl,sp_w ha,sp_w hb,sp_c bC nCM,sp_c bO nOM,sp_c bS nSM,sp_m,eB_app];rw [fl_0,fl_1 ha.1,fl_0,fl_0,fl_1 (min_size b)];rfl
theorem spl_storpn {a b c:ByteArray} (ha:IsWd a) (hb:IsWd b) (hc:IsWd c):spl [tOpn,a,tPlu,b,tShu,tCom,tMin,c]=[a,b,tMin++c]:=by simp only [spl,spF,List.foldl,sp_w ha,sp_w hb,sp_w hc,sp_c bC nCM,sp_c bO nOM,sp_c bS nSM,sp_c bP nPM,sp_m,eB_app];rw [fl_0,fl_1 ha.1,fl_1 hb.1,fl_0,fl_0,fl_1 (min_size c)];rfl
theorem spl_stormn {a b c:ByteArray} (ha:IsWd a) (hb:IsWd b) (hc:IsWd c):spl [tOpn,a,tMin,b,tShu,tCom,tMin,c]=[a,tMin++b,tMin++c]:=by simp only [spl,spF,List.foldl,sp_w ha,sp_w hb,sp_w hc,sp_c bC nCM,sp_c bO nOM,sp_c bS nSM,sp_m,eB_app];rw [fl_0,fl_1 ha.1,fl_1 (min_size b),fl_0,fl_0,fl_1 (min_size c)];rfl
theorem wd_no {t:ByteArray} (h:IsWd t):∀ c∈t.data.toList,c≠43∧c≠45:=fun c hc=>⟨(wb_no (h.2.2.2 c hc)).1,(wb_no (h.2.2.2 c hc)).2.1⟩
theorem wd_last {t:ByteArray} (h:IsWd t):∃ P c,t.data.toList=P++[c]∧c≠44:=by
 have hne:t.data.toList≠[]:=fun e=>h.1 (by rw [← L8.size_list,e];rfl)
 refine⟨t.data.toList.dropLast,t.data.toList.getLast hne,(List.dropLast_concat_getLast hne).symm,?_⟩
 exact (wb_no (h.2.2.2 _ (List.getLast_mem hne))).2.2
theorem offV_plus {m:ByteArray} {P R:List UInt8} (h:m.data.toList=P++43::R) (hR:R≠[]):offV m=true:=by
 have hl:m.size=P.length+1+R.length:=by rw [← L8.size_list,h];simp;omega
 have hr:0<R.length:=List.length_pos_iff.2 hR
 unfold offV
 rw [List.any_eq_true]
 refine⟨P.length,by rw [List.mem_range];omega,?_⟩
 have h43:m.data.toList.getD P.length 0=43:=by rw [h];simp [List.getD]
 simp only [offAt,h43,decide_true,Bool.true_or]
theorem offV_min {m:ByteArray} {P R:List UInt8} {c:UInt8} (h:m.data.toList=P++c::45::R) (hc:c≠44) (hR:R≠[]):offV m=true:=by
 have hl:m.size=P.length+2+R.length:=by rw [← L8.size_list,h];simp;omega
 have hr:0<R.length:=List.length_pos_iff.2 hR
 unfold offV
 rw [List.any_eq_true]
 refine⟨P.length+1,by rw [List.mem_range];omega,?_⟩
 have h45:m.data.toList.getD (P.length+1) 0=45:=by rw [h];simp [List.getD]
 have hcc:m.data.toList.getD P.length 0=c:=by rw [h];simp [List.getD]
 simp only [offAt,h45,Nat.add_sub_cancel,hcc,decide_true,Bool.true_and,Bool.or_eq_true,Bool.and_eq_true,decide_eq_true_eq]
 exact .inr ⟨by omega,hc⟩
theorem off_load {a b:ByteArray} (ha:IsWd a) (hb:IsWd b):offV (joi [a,tCom,tOpn,b,tShu])=false:=offV_no (by
 rw [joi_list]
 intro c hc
 simp only [List.flatMap_cons,List.flatMap_nil,List.append_nil,List.mem_append] at hc
 rcases hc with hc|hc|hc|hc|hc
 ·exact wd_no ha c hc
 ·have:c=44:=by simpa [tCom] using hc
  subst this;exact⟨by decide,by decide⟩
 ·have:c=91:=by simpa [tOpn] using hc
  subst this;exact⟨by decide,by decide⟩
 ·exact wd_no hb c hc
 ·have:c=93:=by simpa [tShu] using hc
  subst this;exact⟨by decide,by decide⟩)
theorem off_stor {a b:ByteArray} (ha:IsWd a) (hb:IsWd b):offV (joi [tOpn,a,tShu,tCom,b])=false:=offV_no (by
 rw [joi_list]
 intro c hc
 simp only [List.flatMap_cons,List.flatMap_nil,List.append_nil,List.mem_append] at hc
 rcases hc with hc|hc|hc|hc|hc
 ·have:c=91:=by simpa [tOpn] using hc
  subst this;exact⟨by decide,by decide⟩
 ·exact wd_no ha c hc
 ·have:c=93:=by simpa [tShu] using hc
  subst this;exact⟨by decide,by decide⟩
 ·have:c=44:=by simpa [tCom] using hc
  subst this;exact⟨by decide,by decide⟩
 ·exact wd_no hb c hc)
theorem off_storn {a b:ByteArray} (ha:IsWd a) (hb:IsWd b):offV (joi [tOpn,a,tShu,tCom,tMin,b])=false:=offV_com (P:=91::a.data.toList++[93]) (R:=b.data.toList) (by rw [joi_list];simp [tOpn,tShu,tCom,tMin]) (by
 intro c hc
 simp only [List.cons_append,List.mem_cons,List.mem_append,List.not_mem_nil,or_false] at hc
 rcases hc with rfl|hc|rfl
 ·exact⟨by decide,by decide⟩
 ·exact wd_no ha c hc
 ·exact⟨by decide,by decide⟩) (wd_no hb)
theorem off_loadp {a b c:ByteArray}:offV (joi [a,tCom,tOpn,b,tPlu,c,tShu])=true:=offV_plus (P:=a.data.toList++44::91::b.data.toList) (R:=c.data.toList++[93]) (by rw [joi_list];simp [tOpn,tShu,tCom,tPlu]) (by simp)
theorem off_storp {a b c:ByteArray}:offV (joi [tOpn,a,tPlu,b,tShu,tCom,c])=true:=offV_plus (P:=91::a.data.toList) (R:=b.data.toList++93::44::c.data.toList) (by rw [joi_list];simp [tOpn,tShu,tCom,tPlu]) (by simp)
theorem off_storpn {a b c:ByteArray}:offV (joi [tOpn,a,tPlu,b,tShu,tCom,tMin,c])=true:=offV_plus (P:=91::a.data.toList) (R:=b.data.toList++93::44::45::c.data.toList) (by rw [joi_list];simp [tOpn,tShu,tCom,tPlu,tMin]) (by simp)
theorem off_loadm {a b c:ByteArray} (hb:IsWd b):offV (joi [a,tCom,tOpn,b,tMin,c,tShu])=true:=by
 obtain⟨P,x,e,hx⟩:=wd_last hb
 exact offV_min (P:=a.data.toList++44::91::P) (c:=x) (R:=c.data.toList++[93]) (by rw [joi_list];simp [tOpn,tShu,tCom,tMin,e]) hx (by simp)
theorem off_storm {a b c:ByteArray} (ha:IsWd a):offV (joi [tOpn,a,tMin,b,tShu,tCom,c])=true:=by
 obtain⟨P,x,e,hx⟩:=wd_last ha
 exact offV_min (P:=91::P) (c:=x) (R:=b.data.toList++93::44::c.data.toList) (by rw [joi_list];simp [tOpn,tShu,tCom,tMin,e]) hx (by simp)
theorem off_stormn {a b c:ByteArray} (ha:IsWd a):offV (joi [tOpn,a,tMin,b,tShu,tCom,tMin,c])=true:=by
 obtain⟨P,x,e,hx⟩:=wd_last ha
 exact offV_min (P:=91::P) (c:=x) (R:=b.data.toList++93::44::45::c.data.toList) (by rw [joi_list];simp [tOpn,tShu,tCom,tMin,e]) hx (by simp)
def nx:ByteArray→List ByteArray→ByteArray × List ByteArray
 | _,[]=>(eB,[])
 | sg,t::r=>if brk t then nx (if t=tMin then tMin else sg) r else (sg++t,r)
def hasW (l:List ByteArray):Bool:=l.any fun t=>!brk t
structure St where
 rest:List ByteArray
 x:Ins
 tg:ByteArray
 mp:ByteArray
inductive Rk
 | dst|sec|src|tgt|hlp|off|i32|i64|mpn
def stp (k:Rk) (s:St):St × Int :=
 let p:=nx eB s.rest
 match k with
 | .dst=>(⟨p.2,{ s.x with dst:=(reV p.1).1 },s.tg,s.mp⟩,(reV p.1).2)
 | .src=>(⟨p.2,{ s.x with src:=(reV p.1).1 },s.tg,s.mp⟩,(reV p.1).2)
 | .sec=>(⟨p.2,(seV s.x p.1).1,s.tg,s.mp⟩,(seV s.x p.1).2)
 | .tgt=>(⟨p.2,s.x,if L2.vd p.1 then p.1 else eB,s.mp⟩,naV p.1)
 | .mpn=>(⟨p.2,s.x,s.tg,if L2.vd p.1 then p.1 else eB⟩,naV p.1)
 | .hlp=>if heV p.1=0 then (⟨p.2,s.x,s.tg,s.mp⟩,7) else (⟨p.2,{ s.x with imm:=heV p.1 },s.tg,s.mp⟩,0)
 | .off=>if s.rest.head?=some tShu then (s,0) else (⟨p.2,{ s.x with off:=(nuV p.1 16).1 },s.tg,s.mp⟩,(nuV p.1 16).2)
 | .i32=>(⟨p.2,{ s.x with imm:=(nuV p.1 32).1 },s.tg,s.mp⟩,(nuV p.1 32).2)
 | .i64=>(⟨p.2,{ s.x with imm:=(nuV p.1 64).1 },s.tg,s.mp⟩,(nuV p.1 64).2)
def runs:List Rk→St→St × Int
 | [],s=>(s,0)
 | k::r,s=>if (stp k s).2≠0 then stp k s else runs r (stp k s).1
def okS (k:Rk) (s:St):Bool:=match k with
 | .off=>decide (s.rest.head?=some tShu) || hasW s.rest
 | _=>hasW s.rest
def OkR:List Rk→St→Prop
 | [],_=>True
 | k::r,s=>okS k s=true∧((stp k s).2=0→OkR r (stp k s).1)
def ksV (f:Int):List Rk :=
 if f=0 then [.dst,.sec] else if f=1 then [.dst] else if f=2 then [.dst,.src] else if f=3 then [.tgt] else if f=4 then [.dst,.sec,.tgt]
 else if f=5 then [.hlp] else if f=7 then [.dst,.src,.off] else if f=8 then [.dst,.off,.i32] else if f=9 then [.dst,.off,.src]
 else if f=10 then [.dst,.i64] else if f=11 then [.dst,.mpn] else []
def SameR (p:St × Int) (q:Rs × Int):Prop:=p.2=q.2∧(p.2=0→p.1.x=q.1.x∧p.1.tg=q.1.tg∧p.1.mp=q.1.mp∧q.1.kind=2∧q.1.d=Df.z)
theorem nx_w {sg a:ByteArray} {r:List ByteArray} (h:IsWd a):nx sg (a::r)=(sg++a,r):=by rw [nx,if_neg (by rw [h.2.1];exact Bool.false_ne_true)]
theorem nx_c {sg t:ByteArray} {r:List ByteArray} (h:brk t=true) (hn:t≠tMin):nx sg (t::r)=nx sg r:=by rw [nx,if_pos h,if_neg hn]
theorem nx_m {sg:ByteArray} {r:List ByteArray}:nx sg (tMin::r)=nx tMin r:=by rw [nx,if_pos bM,if_pos rfl]
theorem nx_C {sg:ByteArray} {r:List ByteArray}:nx sg (tCom::r)=nx sg r:=nx_c bC nCM
theorem nx_O {sg:ByteArray} {r:List ByteArray}:nx sg (tOpn::r)=nx sg r:=nx_c bO nOM
theorem nx_S {sg:ByteArray} {r:List ByteArray}:nx sg (tShu::r)=nx sg r:=nx_c bS nSM
theorem nx_P {sg:ByteArray} {r:List ByteArray}:nx sg (tPlu::r)=nx sg r:=nx_c bP nPM
theorem hw_w {a:ByteArray} {r:List ByteArray} (h:IsWd a):hasW (a::r)=true:=by simp [hasW,h.2.1]
theorem hw_C {t:ByteArray} {r:List ByteArray} (h:brk t=true):hasW (t::r)=hasW r:=by simp [hasW,h]
theorem runs_ops {f op:Int} {q:List ByteArray} (h:Ops f q):OkR (ksV f) ⟨q,⟨op,false,0,0,0,0⟩,eB,eB⟩∧SameR (runs (ksV f) ⟨q,⟨op,false,0,0,0,0⟩,eB,eB⟩) (opV f op (spl q) (offV (joi q))):=by
 cases h with
 | none f h=>subst h;exact⟨trivial,rfl,fun _=>⟨rfl,rfl,rfl,rfl,rfl⟩⟩
 | one f a h ha =>
  rw [spl_one ha]
  generalize offV _=off
  rcases h with rfl|rfl|rfl
  ·by_cases e1:(reV a).2=0 <;> simp [ksV,OkR,okS,stp,runs,SameR,opV,g0,hw_w ha,nx_w ha,eB_app,e1]
  ·cases e1:L2.vd a <;> simp [ksV,OkR,okS,stp,runs,SameR,opV,g0,hw_w ha,nx_w ha,eB_app,naV,e1]
  ·by_cases e1:heV a=0 <;> simp [ksV,OkR,okS,stp,runs,SameR,opV,g0,hw_w ha,nx_w ha,eB_app,e1]
 | two f a b h ha hb =>
  rw [spl_two ha hb]
  generalize offV _=off
  rcases h with rfl|rfl|rfl|rfl
  ·by_cases e1:(reV a).2=0
   ·obtain⟨y,z,hs⟩:∃ y z,seV ⟨op,false,(reV a).1,0,0,0⟩ b=(y,z):=⟨_,_,rfl⟩
    by_cases e2:z=0 <;> simp [ksV,OkR,okS,stp,runs,SameR,opV,g0,hw_w ha,hw_w hb,hw_C bC,nx_C,nx_w ha,nx_w hb,eB_app,e1,hs,e2]
   ·simp [ksV,OkR,okS,stp,runs,SameR,opV,g0,hw_w ha,hw_w hb,hw_C bC,nx_C,nx_w ha,nx_w hb,eB_app,e1]
  ·by_cases e1:(reV a).2=0
   ·by_cases e2:(nuV b 64).2=0 <;> simp [ksV,OkR,okS,stp,runs,SameR,opV,g0,hw_w ha,hw_w hb,hw_C bC,nx_C,nx_w ha,nx_w hb,eB_app,e1,e2]
   ·simp [ksV,OkR,okS,stp,runs,SameR,opV,g0,hw_w ha,hw_w hb,hw_C bC,nx_C,nx_w ha,nx_w hb,eB_app,e1]
  ·by_cases e1:(reV a).2=0
   ·by_cases e2:(reV b).2=0 <;> simp [ksV,OkR,okS,stp,runs,SameR,opV,g0,hw_w ha,hw_w hb,hw_C bC,nx_C,nx_w ha,nx_w hb,eB_app,e1,e2]
   ·simp [ksV,OkR,okS,stp,runs,SameR,opV,g0,hw_w ha,hw_w hb,hw_C bC,nx_C,nx_w ha,nx_w hb,eB_app,e1]
  ·by_cases e1:(reV a).2=0
   ·cases e2:L2.vd b <;> simp [ksV,OkR,okS,stp,runs,SameR,opV,g0,hw_w ha,hw_w hb,hw_C bC,nx_C,nx_w ha,nx_w hb,eB_app,naV,e1,e2]
   ·simp [ksV,OkR,okS,stp,runs,SameR,opV,g0,hw_w ha,hw_w hb,hw_C bC,nx_C,nx_w ha,nx_w hb,eB_app,e1]
 | neg f a b h ha hb =>
  rw [spl_neg ha hb]
  generalize offV _=off
  rcases h with rfl|rfl
  ·by_cases e1:(reV a).2=0
   ·obtain⟨y,z,hs⟩:∃ y z,seV ⟨op,false,(reV a).1,0,0,0⟩ (tMin++b)=(y,z):=⟨_,_,rfl⟩
    by_cases e2:z=0 <;> simp [ksV,OkR,okS,stp,runs,SameR,opV,g0,hw_w ha,hw_w hb,hw_C bC,hw_C bM,nx_C,nx_m,nx_w ha,nx_w hb,eB_app,e1,hs,e2]
   ·simp [ksV,OkR,okS,stp,runs,SameR,opV,g0,hw_w ha,hw_w hb,hw_C bC,hw_C bM,nx_C,nx_m,nx_w ha,nx_w hb,eB_app,e1]
  ·by_cases e1:(reV a).2=0
   ·by_cases e2:(nuV (tMin++b) 64).2=0 <;> simp [ksV,OkR,okS,stp,runs,SameR,opV,g0,hw_w ha,hw_w hb,hw_C bC,hw_C bM,nx_C,nx_m,nx_w ha,nx_w hb,eB_app,e1,e2]
   ·simp [ksV,OkR,okS,stp,runs,SameR,opV,g0,hw_w ha,hw_w hb,hw_C bC,hw_C bM,nx_C,nx_m,nx_w ha,nx_w hb,eB_app,e1]
 | three a b c ha hb hc =>
  rw [spl_three ha hb hc]
  generalize offV _=off
  by_cases e1:(reV a).2=0
  ·obtain⟨y,z,hs⟩:∃ y z,seV ⟨op,false,(reV a).1,0,0,0⟩ b=(y,z):=⟨_,_,rfl⟩
   by_cases e2:z=0
   ·cases e3:L2.vd c <;> simp [ksV,OkR,okS,stp,runs,SameR,opV,g0,hw_w ha,hw_w hb,hw_w hc,hw_C bC,nx_C,nx_w ha,nx_w hb,nx_w hc,eB_app,naV,e1,hs,e2,e3]
   ·simp [ksV,OkR,okS,stp,runs,SameR,opV,g0,hw_w ha,hw_w hb,hw_C bC,nx_C,nx_w ha,nx_w hb,eB_app,e1,hs,e2]
  ·simp [ksV,OkR,okS,stp,runs,SameR,opV,g0,hw_w ha,hw_w hb,hw_C bC,nx_C,nx_w ha,nx_w hb,eB_app,e1]
 | threen a b c ha hb hc =>
  rw [spl_threen ha hb hc]
  generalize offV _=off
  by_cases e1:(reV a).2=0
  ·obtain⟨y,z,hs⟩:∃ y z,seV ⟨op,false,(reV a).1,0,0,0⟩ (tMin++b)=(y,z):=⟨_,_,rfl⟩
   by_cases e2:z=0
   ·cases e3:L2.vd c <;> simp [ksV,OkR,okS,stp,runs,SameR,opV,g0,hw_w ha,hw_w hb,hw_w hc,hw_C bC,hw_C bM,nx_C,nx_m,nx_w ha,nx_w hb,nx_w hc,eB_app,naV,e1,hs,e2,e3]
   ·simp [ksV,OkR,okS,stp,runs,SameR,opV,g0,hw_w ha,hw_w hb,hw_C bC,hw_C bM,nx_C,nx_m,nx_w ha,nx_w hb,eB_app,e1,hs,e2]
  ·simp [ksV,OkR,okS,stp,runs,SameR,opV,g0,hw_w ha,hw_w hb,hw_C bC,hw_C bM,nx_C,nx_m,nx_w ha,nx_w hb,eB_app,e1]
 | load a b ha hb =>
  rw [spl_load ha hb,off_load ha hb]
  by_cases e1:(reV a).2=0
  ·by_cases e2:(reV b).2=0 <;> simp [ksV,OkR,okS,stp,runs,SameR,opV,meV,g0,hw_w ha,hw_w hb,hw_C bC,hw_C bO,nx_C,nx_O,nx_w ha,nx_w hb,eB_app,e1,e2]
  ·simp [ksV,OkR,okS,stp,runs,SameR,opV,g0,hw_w ha,nx_w ha,eB_app,e1]
 | loadp a b c ha hb hc =>
  rw [spl_loadp ha hb hc,off_loadp]
  by_cases e1:(reV a).2=0
  ·by_cases e2:(reV b).2=0
   ·by_cases e3:(nuV c 16).2=0 <;> simp [ksV,OkR,okS,stp,runs,SameR,opV,meV,g0,hw_w ha,hw_w hb,hw_w hc,hw_C bC,hw_C bO,hw_C bP,nx_C,nx_O,nx_P,nx_w ha,nx_w hb,nx_w hc,eB_app,e1,e2,e3,show ¬ tPlu=tShu by decide]
   ·simp [ksV,OkR,okS,stp,runs,SameR,opV,meV,g0,hw_w ha,hw_w hb,hw_C bC,hw_C bO,nx_C,nx_O,nx_w ha,nx_w hb,eB_app,e1,e2]
  ·simp [ksV,OkR,okS,stp,runs,SameR,opV,g0,hw_w ha,nx_w ha,eB_app,e1]
 | loadm a b c ha hb hc =>
  rw [spl_loadm ha hb hc,off_loadm hb]
  by_cases e1:(reV a).2=0
  ·by_cases e2:(reV b).2=0
   ·by_cases e3:(nuV (tMin++c) 16).2=0 <;> simp [ksV,OkR,okS,stp,runs,SameR,opV,meV,g0,hw_w ha,hw_w hb,hw_w hc,hw_C bC,hw_C bO,hw_C bM,nx_C,nx_O,nx_m,nx_w ha,nx_w hb,nx_w hc,eB_app,e1,e2,e3,show ¬ tMin=tShu by decide]
   ·simp [ksV,OkR,okS,stp,runs,SameR,opV,meV,g0,hw_w ha,hw_w hb,hw_C bC,hw_C bO,nx_C,nx_O,nx_w ha,nx_w hb,eB_app,e1,e2]
  ·simp [ksV,OkR,okS,stp,runs,SameR,opV,g0,hw_w ha,nx_w ha,eB_app,e1]
 | stor f a b h ha hb =>
  rw [spl_stor ha hb,off_stor ha hb]
  rcases h with rfl|rfl
  ·by_cases e1:(reV a).2=0
   ·by_cases e2:(nuV b 32).2=0 <;> simp [ksV,OkR,okS,stp,runs,SameR,opV,meV,g0,hw_w ha,hw_w hb,hw_C bC,hw_C bO,hw_C bS,nx_C,nx_O,nx_S,nx_w ha,nx_w hb,eB_app,e1,e2]
   ·simp [ksV,OkR,okS,stp,runs,SameR,opV,meV,g0,hw_w ha,hw_C bO,nx_O,nx_w ha,eB_app,e1]
  ·by_cases e1:(reV a).2=0
   ·by_cases e2:(reV b).2=0 <;> simp [ksV,OkR,okS,stp,runs,SameR,opV,meV,g0,hw_w ha,hw_w hb,hw_C bC,hw_C bO,hw_C bS,nx_C,nx_O,nx_S,nx_w ha,nx_w hb,eB_app,e1,e2]
   ·simp [ksV,OkR,okS,stp,runs,SameR,opV,meV,g0,hw_w ha,hw_C bO,nx_O,nx_w ha,eB_app,e1]
 | storp f a b c h ha hb hc =>
  rw [spl_storp ha hb hc,off_storp]
  rcases h with rfl|rfl
  ·by_cases e1:(reV a).2=0
   ·by_cases e2:(nuV b 16).2=0
    ·by_cases e3:(nuV c 32).2=0 <;> simp [ksV,OkR,okS,stp,runs,SameR,opV,meV,g0,hw_w ha,hw_w hb,hw_w hc,hw_C bC,hw_C bO,hw_C bS,hw_C bP,nx_C,nx_O,nx_S,nx_P,nx_w ha,nx_w hb,nx_w hc,eB_app,e1,e2,e3,show ¬ tPlu=tShu by decide]
    ·simp [ksV,OkR,okS,stp,runs,SameR,opV,meV,g0,hw_w ha,hw_w hb,hw_C bO,hw_C bP,nx_O,nx_P,nx_w ha,nx_w hb,eB_app,e1,e2,show ¬ tPlu=tShu by decide]
   ·simp [ksV,OkR,okS,stp,runs,SameR,opV,meV,g0,hw_w ha,hw_C bO,nx_O,nx_w ha,eB_app,e1]
  ·by_cases e1:(reV a).2=0
   ·by_cases e2:(nuV b 16).2=0
    ·by_cases e3:(reV c).2=0 <;> simp [ksV,OkR,okS,stp,runs,SameR,opV,meV,g0,hw_w ha,hw_w hb,hw_w hc,hw_C bC,hw_C bO,hw_C bS,hw_C bP,nx_C,nx_O,nx_S,nx_P,nx_w ha,nx_w hb,nx_w hc,eB_app,e1,e2,e3,show ¬ tPlu=tShu by decide]
    ·simp [ksV,OkR,okS,stp,runs,SameR,opV,meV,g0,hw_w ha,hw_w hb,hw_C bO,hw_C bP,nx_O,nx_P,nx_w ha,nx_w hb,eB_app,e1,e2,show ¬ tPlu=tShu by decide]
   ·simp [ksV,OkR,okS,stp,runs,SameR,opV,meV,g0,hw_w ha,hw_C bO,nx_O,nx_w ha,eB_app,e1]
 | storm f a b c h ha hb hc =>
  rw [spl_storm ha hb hc,off_storm ha]
  rcases h with rfl|rfl
  ·by_cases e1:(reV a).2=0
   ·by_cases e2:(nuV (tMin++b) 16).2=0
    ·by_cases e3:(nuV c 32).2=0 <;> simp [ksV,OkR,okS,stp,runs,SameR,opV,meV,g0,hw_w ha,hw_w hb,hw_w hc,hw_C bC,hw_C bO,hw_C bS,hw_C bM,nx_C,nx_O,nx_S,nx_m,nx_w ha,nx_w hb,nx_w hc,eB_app,e1,e2,e3,show ¬ tMin=tShu by decide]
    ·simp [ksV,OkR,okS,stp,runs,SameR,opV,meV,g0,hw_w ha,hw_w hb,hw_C bO,hw_C bM,nx_O,nx_m,nx_w ha,nx_w hb,eB_app,e1,e2,show ¬ tMin=tShu by decide]
   ·simp [ksV,OkR,okS,stp,runs,SameR,opV,meV,g0,hw_w ha,hw_C bO,nx_O,nx_w ha,eB_app,e1]
  ·by_cases e1:(reV a).2=0
   ·by_cases e2:(nuV (tMin++b) 16).2=0
    ·by_cases e3:(reV c).2=0 <;> simp [ksV,OkR,okS,stp,runs,SameR,opV,meV,g0,hw_w ha,hw_w hb,hw_w hc,hw_C bC,hw_C bO,hw_C bS,hw_C bM,nx_C,nx_O,nx_S,nx_m,nx_w ha,nx_w hb,nx_w hc,eB_app,e1,e2,e3,show ¬ tMin=tShu by decide]
    ·simp [ksV,OkR,okS,stp,runs,SameR,opV,meV,g0,hw_w ha,hw_w hb,hw_C bO,hw_C bM,nx_O,nx_m,nx_w ha,nx_w hb,eB_app,e1,e2,show ¬ tMin=tShu by decide]
   ·simp [ksV,OkR,okS,stp,runs,SameR,opV,meV,g0,hw_w ha,hw_C bO,nx_O,nx_w ha,eB_app,e1]
 | storn a b ha hb =>
  rw [spl_storn ha hb,off_storn ha hb]
  by_cases e1:(reV a).2=0
  ·by_cases e2:(nuV (tMin++b) 32).2=0 <;> simp [ksV,OkR,okS,stp,runs,SameR,opV,meV,g0,hw_w ha,hw_w hb,hw_C bC,hw_C bO,hw_C bS,hw_C bM,nx_C,nx_O,nx_S,nx_m,nx_w ha,nx_w hb,eB_app,e1,e2]
  ·simp [ksV,OkR,okS,stp,runs,SameR,opV,meV,g0,hw_w ha,hw_C bO,nx_O,nx_w ha,eB_app,e1]
 | storpn a b c ha hb hc =>
  rw [spl_storpn ha hb hc,off_storpn]
  by_cases e1:(reV a).2=0
  ·by_cases e2:(nuV b 16).2=0
   ·by_cases e3:(nuV (tMin++c) 32).2=0 <;> simp [ksV,OkR,okS,stp,runs,SameR,opV,meV,g0,hw_w ha,hw_w hb,hw_w hc,hw_C bC,hw_C bO,hw_C bS,hw_C bP,hw_C bM,nx_C,nx_O,nx_S,nx_P,nx_m,nx_w ha,nx_w hb,nx_w hc,eB_app,e1,e2,e3,show ¬ tPlu=tShu by decide]
   ·simp [ksV,OkR,okS,stp,runs,SameR,opV,meV,g0,hw_w ha,hw_w hb,hw_C bO,hw_C bP,nx_O,nx_P,nx_w ha,nx_w hb,eB_app,e1,e2,show ¬ tPlu=tShu by decide]
  ·simp [ksV,OkR,okS,stp,runs,SameR,opV,meV,g0,hw_w ha,hw_C bO,nx_O,nx_w ha,eB_app,e1]
 | stormn a b c ha hb hc =>
  rw [spl_stormn ha hb hc,off_stormn ha]
  by_cases e1:(reV a).2=0
  ·by_cases e2:(nuV (tMin++b) 16).2=0
   ·by_cases e3:(nuV (tMin++c) 32).2=0 <;> simp [ksV,OkR,okS,stp,runs,SameR,opV,meV,g0,hw_w ha,hw_w hb,hw_w hc,hw_C bC,hw_C bO,hw_C bS,hw_C bM,nx_C,nx_O,nx_S,nx_m,nx_w ha,nx_w hb,nx_w hc,eB_app,e1,e2,e3,show ¬ tMin=tShu by decide]
   ·simp [ksV,OkR,okS,stp,runs,SameR,opV,meV,g0,hw_w ha,hw_w hb,hw_C bO,hw_C bM,nx_O,nx_m,nx_w ha,nx_w hb,eB_app,e1,e2,show ¬ tMin=tShu by decide]
  ·simp [ksV,OkR,okS,stp,runs,SameR,opV,meV,g0,hw_w ha,hw_C bO,nx_O,nx_w ha,eB_app,e1]
end Go.Proofs.YtdgnjhhieemcaaaGreatDoor.L9
end
