/- Lemmas and walks of L9Val, L9Nxt, L9Stp, L9Row, L9Ins, L9Run: what each theorem states; conditions stand in each theorem. -/
import Derived.Test.YtgljoilddjmohaaGreatDoorM10
import Derived.Test.YtgljoilddjmohaaGreatDoorM4
import Derived.Test.YtgljoilddjmohaaGreatDoorM6
section
namespace Go.Proofs.YtgljoilddjmohaaGreatDoor.L9
theorem spl_one {a:ByteArray} (ha:IsWd a):spl [a]=[a]:=by simp only [spl,spF,List.foldl,sp_w ha,eB_app];rw [fl_1 ha.1];rfl
theorem spl_two {a b:ByteArray} (ha:IsWd a) (hb:IsWd b):spl [a,tCom,b]=[a,b]:=by simp only [spl,spF,List.foldl,sp_w ha,sp_w hb,sp_c bC nCM,eB_app];rw [fl_1 ha.1,fl_1 hb.1];rfl
theorem spl_neg {a b:ByteArray} (ha:IsWd a) (hb:IsWd b):spl [a,tCom,tMin,b]=[a,tMin++b]:=by simp only [spl,spF,List.foldl,sp_w ha,sp_w hb,sp_c bC nCM,sp_m,eB_app];rw [fl_1 ha.1,fl_0,fl_1 (min_size b)];rfl
theorem spl_three {a b c:ByteArray} (ha:IsWd a) (hb:IsWd b) (hc:IsWd c):spl [a,tCom,b,tCom,c]=[a,b,c]:=by simp only [spl,spF,List.foldl,sp_w ha,sp_w hb,sp_w hc,sp_c bC nCM,eB_app];rw [fl_1 ha.1,fl_1 hb.1,fl_1 hc.1];rfl
theorem spl_threen {a b c:ByteArray} (ha:IsWd a) (hb:IsWd b) (hc:IsWd c):spl [a,tCom,tMin,b,tCom,c]=[a,tMin++b,c]:=by simp only [spl,spF,List.foldl,sp_w ha,sp_w hb,sp_w hc,sp_c bC nCM,sp_m,eB_app];rw [fl_1 ha.1,fl_0,fl_1 (min_size b),fl_1 hc.1];rfl
theorem spl_load {a b:ByteArray} (ha:IsWd a) (hb:IsWd b):spl [a,tCom,tOpn,b,tShu]=[a,b]:=by simp only [spl,spF,List.foldl,sp_w ha,sp_w hb,sp_c bC nCM,sp_c bO nOM,sp_c bS nSM,eB_app];rw [fl_1 ha.1,fl_0,fl_1 hb.1,fl_0];rfl
theorem spl_loadp {a b c:ByteArray} (ha:IsWd a) (hb:IsWd b) (hc:IsWd c):spl [a,tCom,tOpn,b,tPlu,c,tShu]=[a,b,c]:=by simp only [spl,spF,List.foldl,sp_w ha,sp_w hb,sp_w hc,sp_c bC nCM,sp_c bO nOM,sp_c bS nSM,sp_c bP nPM,eB_app];rw [fl_1 ha.1,fl_0,fl_1 hb.1,fl_1 hc.1,fl_0];rfl
theorem spl_loadm {a b c:ByteArray} (ha:IsWd a) (hb:IsWd b) (hc:IsWd c):spl [a,tCom,tOpn,b,tMin,c,tShu]=[a,b,tMin++c]:=by simp only [spl,spF,List.foldl,sp_w ha,sp_w hb,sp_w hc,sp_c bC nCM,sp_c bO nOM,sp_c bS nSM,sp_m,eB_app];rw [fl_1 ha.1,fl_0,fl_1 hb.1,fl_1 (min_size c),fl_0];rfl
theorem spl_stor {a b:ByteArray} (ha:IsWd a) (hb:IsWd b):spl [tOpn,a,tShu,tCom,b]=[a,b]:=by simp only [spl,spF,List.foldl,sp_w ha,sp_w hb,sp_c bC nCM,sp_c bO nOM,sp_c bS nSM,eB_app];rw [fl_0,fl_1 ha.1,fl_0,fl_1 hb.1];rfl
theorem spl_storp {a b c:ByteArray} (ha:IsWd a) (hb:IsWd b) (hc:IsWd c):spl [tOpn,a,tPlu,b,tShu,tCom,c]=[a,b,c]:=by simp only [spl,spF,List.foldl,sp_w ha,sp_w hb,sp_w hc,sp_c bC nCM,sp_c bO nOM,sp_c bS nSM,sp_c bP nPM,eB_app];rw [fl_0,fl_1 ha.1,fl_1 hb.1,fl_0,fl_1 hc.1];rfl
theorem spl_storm {a b c:ByteArray} (ha:IsWd a) (hb:IsWd b) (hc:IsWd c):spl [tOpn,a,tMin,b,tShu,tCom,c]=[a,tMin++b,c]:=by simp only [spl,spF,List.foldl,sp_w ha,sp_w hb,sp_w hc,sp_c bC nCM,sp_c bO nOM,sp_c bS nSM,sp_m,eB_app];rw [fl_0,fl_1 ha.1,fl_1 (min_size b),fl_0,fl_1 hc.1];rfl
theorem spl_storn {a b:ByteArray} (ha:IsWd a) (hb:IsWd b):spl [tOpn,a,tShu,tCom,tMin,b]=[a,tMin++b]:=by simp only [spl,spF,List.foldl,sp_w ha,sp_w hb,sp_c bC nCM,sp_c bO nOM,sp_c bS nSM,sp_m,eB_app];rw [fl_0,fl_1 ha.1,fl_0,fl_0,fl_1 (min_size b)];rfl
theorem spl_storpn {a b c:ByteArray} (ha:IsWd a) (hb:IsWd b) (hc:IsWd c):spl [tOpn,a,tPlu,b,tShu,tCom,tMin,c]=[a,b,tMin++c]:=by simp only [spl,spF,List.foldl,sp_w ha,sp_w hb,sp_w hc,sp_c bC nCM,sp_c bO nOM,sp_c bS nSM,sp_c bP nPM,sp_m,eB_app];rw [fl_0,fl_1 ha.1,fl_1 hb.1,fl_0,fl_0,fl_1 (min_size c)];rfl
theorem spl_stormn {a b c:ByteArray} (ha:IsWd a) (hb:IsWd b) (hc:IsWd c):spl [tOpn,a,tMin,b,tShu,tCom,tMin,c]=[a,tMin++b,tMin++c]:=by simp only [spl,spF,List.foldl,sp_w ha,sp_w hb,sp_w hc,sp_c bC nCM,sp_c bO nOM,sp_c bS nSM,sp_m,eB_app];rw [fl_0,fl_1 ha.1,fl_1 (min_size b),fl_0,fl_0,fl_1 (min_size c)];rfl
theorem wd_no {t:ByteArray} (h:IsWd t):∀ c∈t.data.toList,c≠43∧c≠45:=fun c hc=>⟨(wb_no (h.2.2.2 c hc)).1,(wb_no (h.2.2.2 c hc)).2.1⟩
theorem wd_last {t:ByteArray} (h:IsWd t):∃ P c,t.data.toList=P++[c]∧c≠44:=by
 have hne:t.data.toList≠[]:=fun e=>h.1 (by rw [← L8.size_list,e];rfl)
 refine⟨t.data.toList.dropLast,t.data.toList.getLast hne,(List.dropLast_concat_getLast hne).symm,?_⟩
 exact (wb_no (h.2.2.2 _ (List.getLast_mem hne))).2.2
theorem offV_plus {m:ByteArray} {P R:List UInt8} (h:m.data.toList=P++43::R) (hR:R≠[]):offV m=true:=by
 have hl:m.size=P.length+1+R.length:=by rw [← L8.size_list,h];simp;omega
 have hr:0<R.length:=List.length_pos_iff.2 hR
 unfold offV
 rw [List.any_eq_true]
 refine⟨P.length,by rw [List.mem_range];omega,?_⟩
 have h43:m.data.toList.getD P.length 0=43:=by rw [h];simp [List.getD]
 simp only [offAt,h43,decide_true,Bool.true_or]
theorem offV_min {m:ByteArray} {P R:List UInt8} {c:UInt8} (h:m.data.toList=P++c::45::R) (hc:c≠44) (hR:R≠[]):offV m=true:=by
 have hl:m.size=P.length+2+R.length:=by rw [← L8.size_list,h];simp;omega
 have hr:0<R.length:=List.length_pos_iff.2 hR
 unfold offV
 rw [List.any_eq_true]
 refine⟨P.length+1,by rw [List.mem_range];omega,?_⟩
 have h45:m.data.toList.getD (P.length+1) 0=45:=by rw [h];simp [List.getD]
 have hcc:m.data.toList.getD P.length 0=c:=by rw [h];simp [List.getD]
 simp only [offAt,h45,Nat.add_sub_cancel,hcc,decide_true,Bool.true_and,Bool.or_eq_true,Bool.and_eq_true,decide_eq_true_eq]
 exact .inr ⟨by omega,hc⟩
theorem off_load {a b:ByteArray} (ha:IsWd a) (hb:IsWd b):offV (joi [a,tCom,tOpn,b,tShu])=false:=offV_no (by
 rw [joi_list]
 intro c hc
 simp only [List.flatMap_cons,List.flatMap_nil,List.append_nil,List.mem_append] at hc
 rcases hc with hc|hc|hc|hc|hc
 ·exact wd_no ha c hc
 ·have:c=44:=by simpa [tCom] using hc
  subst this;exact⟨by decide,by decide⟩
 ·have:c=91:=by simpa [tOpn] using hc
  subst this;exact⟨by decide,by decide⟩
 ·exact wd_no hb c hc
 ·have:c=93:=by simpa [tShu] using hc
  subst this;exact⟨by decide,by decide⟩)
theorem off_stor {a b:ByteArray} (ha:IsWd a) (hb:IsWd b):offV (joi [tOpn,a,tShu,tCom,b])=false:=offV_no (by
 rw [joi_list]
 intro c hc
 simp only [List.flatMap_cons,List.flatMap_nil,List.append_nil,List.mem_append] at hc
 rcases hc with hc|hc|hc|hc|hc
 ·have:c=91:=by simpa [tOpn] using hc
  subst this;exact⟨by decide,by decide⟩
 ·exact wd_no ha c hc
 ·have:c=93:=by simpa [tShu] using hc
  subst this;exact⟨by decide,by decide⟩
 ·have:c=44:=by simpa [tCom] using hc
  subst this;exact⟨by decide,by decide⟩
 ·exact wd_no hb c hc)
theorem off_storn {a b:ByteArray} (ha:IsWd a) (hb:IsWd b):offV (joi [tOpn,a,tShu,tCom,tMin,b])=false:=offV_com (P:=91::a.data.toList++[93]) (R:=b.data.toList) (by rw [joi_list];simp [tOpn,tShu,tCom,tMin]) (by
 intro c hc
 simp only [List.cons_append,List.mem_cons,List.mem_append,List.not_mem_nil,or_false] at hc
 rcases hc with rfl|hc|rfl
 ·exact⟨by decide,by decide⟩
 ·exact wd_no ha c hc
 ·exact⟨by decide,by decide⟩) (wd_no hb)
theorem off_loadp {a b c:ByteArray}:offV (joi [a,tCom,tOpn,b,tPlu,c,tShu])=true:=offV_plus (P:=a.data.toList++44::91::b.data.toList) (R:=c.data.toList++[93]) (by rw [joi_list];simp [tOpn,tShu,tCom,tPlu]) (by simp)
theorem off_storp {a b c:ByteArray}:offV (joi [tOpn,a,tPlu,b,tShu,tCom,c])=true:=offV_plus (P:=91::a.data.toList) (R:=b.data.toList++93::44::c.data.toList) (by rw [joi_list];simp [tOpn,tShu,tCom,tPlu]) (by simp)
theorem off_storpn {a b c:ByteArray}:offV (joi [tOpn,a,tPlu,b,tShu,tCom,tMin,c])=true:=offV_plus (P:=91::a.data.toList) (R:=b.data.toList++93::44::45::c.data.toList) (by rw [joi_list];simp [tOpn,tShu,tCom,tPlu,tMin]) (by simp)
theorem off_loadm {a b c:ByteArray} (hb:IsWd b):offV (joi [a,tCom,tOpn,b,tMin,c,tShu])=true:=by
 obtain⟨P,x,e,hx⟩:=wd_last hb
 exact offV_min (P:=a.data.toList++44::91::P) (c:=x) (R:=c.data.toList++[93]) (by rw [joi_list];simp [tOpn,tShu,tCom,tMin,e]) hx (by simp)
theorem off_storm {a b c:ByteArray} (ha:IsWd a):offV (joi [tOpn,a,tMin,b,tShu,tCom,c])=true:=by
 obtain⟨P,x,e,hx⟩:=wd_last ha
 exact offV_min (P:=91::P) (c:=x) (R:=b.data.toList++93::44::c.data.toList) (by rw [joi_list];simp [tOpn,tShu,tCom,tMin,e]) hx (by simp)
theorem off_stormn {a b c:ByteArray} (ha:IsWd a):offV (joi [tOpn,a,tMin,b,tShu,tCom,tMin,c])=true:=by
 obtain⟨P,x,e,hx⟩:=wd_last ha
 exact offV_min (P:=91::P) (c:=x) (R:=b.data.toList++93::44::45::c.data.toList) (by rw [joi_list];simp [tOpn,tShu,tCom,tMin,e]) hx (by simp)
def nx:ByteArray→List ByteArray→ByteArray × List ByteArray
 | _,[]=>(eB,[])
 | sg,t::r=>if brk t then nx (if t=tMin then tMin else sg) r else (sg++t,r)
def hasW (l:List ByteArray):Bool:=l.any fun t=>!brk t
structure St where
 rest:List ByteArray
 x:Ins
 tg:ByteArray
 mp:ByteArray
inductive Rk
 | dst|sec|src|tgt|hlp|off|i32|i64|mpn
def stp (k:Rk) (s:St):St × Int :=
 let p:=nx eB s.rest
 match k with
 | .dst=>(⟨p.2,{ s.x with dst:=(reV p.1).1 },s.tg,s.mp⟩,(reV p.1).2)
 | .src=>(⟨p.2,{ s.x with src:=(reV p.1).1 },s.tg,s.mp⟩,(reV p.1).2)
 | .sec=>(⟨p.2,(seV s.x p.1).1,s.tg,s.mp⟩,(seV s.x p.1).2)
 | .tgt=>(⟨p.2,s.x,if L2.vd p.1 then p.1 else eB,s.mp⟩,naV p.1)
 | .mpn=>(⟨p.2,s.x,s.tg,if L2.vd p.1 then p.1 else eB⟩,naV p.1)
 | .hlp=>if heV p.1=0 then (⟨p.2,s.x,s.tg,s.mp⟩,7) else (⟨p.2,{ s.x with imm:=heV p.1 },s.tg,s.mp⟩,0)
 | .off=>if s.rest.head?=some tShu then (s,0) else (⟨p.2,{ s.x with off:=(nuV p.1 16).1 },s.tg,s.mp⟩,(nuV p.1 16).2)
 | .i32=>(⟨p.2,{ s.x with imm:=(nuV p.1 32).1 },s.tg,s.mp⟩,(nuV p.1 32).2)
 | .i64=>(⟨p.2,{ s.x with imm:=(nuV p.1 64).1 },s.tg,s.mp⟩,(nuV p.1 64).2)
def runs:List Rk→St→St × Int
 | [],s=>(s,0)
 | k::r,s=>if (stp k s).2≠0 then stp k s else runs r (stp k s).1
def okS (k:Rk) (s:St):Bool:=match k with
 | .off=>decide (s.rest.head?=some tShu) || hasW s.rest
 | _=>hasW s.rest
def OkR:List Rk→St→Prop
 | [],_=>True
 | k::r,s=>okS k s=true∧((stp k s).2=0→OkR r (stp k s).1)
def ksV (f:Int):List Rk :=
 if f=0 then [.dst,.sec] else if f=1 then [.dst] else if f=2 then [.dst,.src] else if f=3 then [.tgt] else if f=4 then [.dst,.sec,.tgt]
 else if f=5 then [.hlp] else if f=7 then [.dst,.src,.off] else if f=8 then [.dst,.off,.i32] else if f=9 then [.dst,.off,.src]
 else if f=10 then [.dst,.i64] else if f=11 then [.dst,.mpn] else []
def SameR (p:St × Int) (q:Rs × Int):Prop:=p.2=q.2∧(p.2=0→p.1.x=q.1.x∧p.1.tg=q.1.tg∧p.1.mp=q.1.mp∧q.1.kind=2∧q.1.d=Df.z)
theorem nx_w {sg a:ByteArray} {r:List ByteArray} (h:IsWd a):nx sg (a::r)=(sg++a,r):=by rw [nx,if_neg (by rw [h.2.1];exact Bool.false_ne_true)]
theorem nx_c {sg t:ByteArray} {r:List ByteArray} (h:brk t=true) (hn:t≠tMin):nx sg (t::r)=nx sg r:=by rw [nx,if_pos h,if_neg hn]
theorem nx_m {sg:ByteArray} {r:List ByteArray}:nx sg (tMin::r)=nx tMin r:=by rw [nx,if_pos bM,if_pos rfl]
theorem nx_C {sg:ByteArray} {r:List ByteArray}:nx sg (tCom::r)=nx sg r:=nx_c bC nCM
theorem nx_O {sg:ByteArray} {r:List ByteArray}:nx sg (tOpn::r)=nx sg r:=nx_c bO nOM
theorem nx_S {sg:ByteArray} {r:List ByteArray}:nx sg (tShu::r)=nx sg r:=nx_c bS nSM
theorem nx_P {sg:ByteArray} {r:List ByteArray}:nx sg (tPlu::r)=nx sg r:=nx_c bP nPM
theorem hw_w {a:ByteArray} {r:List ByteArray} (h:IsWd a):hasW (a::r)=true:=by simp [hasW,h.2.1]
theorem hw_C {t:ByteArray} {r:List ByteArray} (h:brk t=true):hasW (t::r)=hasW r:=by simp [hasW,h]
theorem runs_ops {f op:Int} {q:List ByteArray} (h:Ops f q):OkR (ksV f) ⟨q,⟨op,false,0,0,0,0⟩,eB,eB⟩∧SameR (runs (ksV f) ⟨q,⟨op,false,0,0,0,0⟩,eB,eB⟩) (opV f op (spl q) (offV (joi q))):=by
 cases h with
 | none f h=>subst h;exact⟨trivial,rfl,fun _=>⟨rfl,rfl,rfl,rfl,rfl⟩⟩
 | one f a h ha =>
  rw [spl_one ha]
  generalize offV _=off
  rcases h with rfl|rfl|rfl
  ·by_cases e1:(reV a).2=0 <;> simp [ksV,OkR,okS,stp,runs,SameR,opV,g0,hw_w ha,nx_w ha,eB_app,e1]
  ·cases e1:L2.vd a <;> simp [ksV,OkR,okS,stp,runs,SameR,opV,g0,hw_w ha,nx_w ha,eB_app,naV,e1]
  ·by_cases e1:heV a=0 <;> simp [ksV,OkR,okS,stp,runs,SameR,opV,g0,hw_w ha,nx_w ha,eB_app,e1]
 | two f a b h ha hb =>
  rw [spl_two ha hb]
  generalize offV _=off
  rcases h with rfl|rfl|rfl|rfl
  ·by_cases e1:(reV a).2=0
   ·obtain⟨y,z,hs⟩:∃ y z,seV ⟨op,false,(reV a).1,0,0,0⟩ b=(y,z):=⟨_,_,rfl⟩
    by_cases e2:z=0 <;> simp [ksV,OkR,okS,stp,runs,SameR,opV,g0,hw_w ha,hw_w hb,hw_C bC,nx_C,nx_w ha,nx_w hb,eB_app,e1,hs,e2]
   ·simp [ksV,OkR,okS,stp,runs,SameR,opV,g0,hw_w ha,hw_w hb,hw_C bC,nx_C,nx_w ha,nx_w hb,eB_app,e1]
  ·by_cases e1:(reV a).2=0
   ·by_cases e2:(nuV b 64).2=0 <;> simp [ksV,OkR,okS,stp,runs,SameR,opV,g0,hw_w ha,hw_w hb,hw_C bC,nx_C,nx_w ha,nx_w hb,eB_app,e1,e2]
   ·simp [ksV,OkR,okS,stp,runs,SameR,opV,g0,hw_w ha,hw_w hb,hw_C bC,nx_C,nx_w ha,nx_w hb,eB_app,e1]
  ·by_cases e1:(reV a).2=0
   ·by_cases e2:(reV b).2=0 <;> simp [ksV,OkR,okS,stp,runs,SameR,opV,g0,hw_w ha,hw_w hb,hw_C bC,nx_C,nx_w ha,nx_w hb,eB_app,e1,e2]
   ·simp [ksV,OkR,okS,stp,runs,SameR,opV,g0,hw_w ha,hw_w hb,hw_C bC,nx_C,nx_w ha,nx_w hb,eB_app,e1]
  ·by_cases e1:(reV a).2=0
   ·cases e2:L2.vd b <;> simp [ksV,OkR,okS,stp,runs,SameR,opV,g0,hw_w ha,hw_w hb,hw_C bC,nx_C,nx_w ha,nx_w hb,eB_app,naV,e1,e2]
   ·simp [ksV,OkR,okS,stp,runs,SameR,opV,g0,hw_w ha,hw_w hb,hw_C bC,nx_C,nx_w ha,nx_w hb,eB_app,e1]
 | neg f a b h ha hb =>
  rw [spl_neg ha hb]
  generalize offV _=off
  rcases h with rfl|rfl
  ·by_cases e1:(reV a).2=0
   ·obtain⟨y,z,hs⟩:∃ y z,seV ⟨op,false,(reV a).1,0,0,0⟩ (tMin++b)=(y,z):=⟨_,_,rfl⟩
    by_cases e2:z=0 <;> simp [ksV,OkR,okS,stp,runs,SameR,opV,g0,hw_w ha,hw_w hb,hw_C bC,hw_C bM,nx_C,nx_m,nx_w ha,nx_w hb,eB_app,e1,hs,e2]
   ·simp [ksV,OkR,okS,stp,runs,SameR,opV,g0,hw_w ha,hw_w hb,hw_C bC,hw_C bM,nx_C,nx_m,nx_w ha,nx_w hb,eB_app,e1]
  ·by_cases e1:(reV a).2=0
   ·by_cases e2:(nuV (tMin++b) 64).2=0 <;> simp [ksV,OkR,okS,stp,runs,SameR,opV,g0,hw_w ha,hw_w hb,hw_C bC,hw_C bM,nx_C,nx_m,nx_w ha,nx_w hb,eB_app,e1,e2]
   ·simp [ksV,OkR,okS,stp,runs,SameR,opV,g0,hw_w ha,hw_w hb,hw_C bC,hw_C bM,nx_C,nx_m,nx_w ha,nx_w hb,eB_app,e1]
 | three a b c ha hb hc =>
  rw [spl_three ha hb hc]
  generalize offV _=off
  by_cases e1:(reV a).2=0
  ·obtain⟨y,z,hs⟩:∃ y z,seV ⟨op,false,(reV a).1,0,0,0⟩ b=(y,z):=⟨_,_,rfl⟩
   by_cases e2:z=0
   ·cases e3:L2.vd c <;> simp [ksV,OkR,okS,stp,runs,SameR,opV,g0,hw_w ha,hw_w hb,hw_w hc,hw_C bC,nx_C,nx_w ha,nx_w hb,nx_w hc,eB_app,naV,e1,hs,e2,e3]
   ·simp [ksV,OkR,okS,stp,runs,SameR,opV,g0,hw_w ha,hw_w hb,hw_C bC,nx_C,nx_w ha,nx_w hb,eB_app,e1,hs,e2]
  ·simp [ksV,OkR,okS,stp,runs,SameR,opV,g0,hw_w ha,hw_w hb,hw_C bC,nx_C,nx_w ha,nx_w hb,eB_app,e1]
 | threen a b c ha hb hc =>
  rw [spl_threen ha hb hc]
  generalize offV _=off
  by_cases e1:(reV a).2=0
  ·obtain⟨y,z,hs⟩:∃ y z,seV ⟨op,false,(reV a).1,0,0,0⟩ (tMin++b)=(y,z):=⟨_,_,rfl⟩
   by_cases e2:z=0
   ·cases e3:L2.vd c <;> simp [ksV,OkR,okS,stp,runs,SameR,opV,g0,hw_w ha,hw_w hb,hw_w hc,hw_C bC,hw_C bM,nx_C,nx_m,nx_w ha,nx_w hb,nx_w hc,eB_app,naV,e1,hs,e2,e3]
   ·simp [ksV,OkR,okS,stp,runs,SameR,opV,g0,hw_w ha,hw_w hb,hw_C bC,hw_C bM,nx_C,nx_m,nx_w ha,nx_w hb,eB_app,e1,hs,e2]
  ·simp [ksV,OkR,okS,stp,runs,SameR,opV,g0,hw_w ha,hw_w hb,hw_C bC,hw_C bM,nx_C,nx_m,nx_w ha,nx_w hb,eB_app,e1]
 | load a b ha hb =>
  rw [spl_load ha hb,off_load ha hb]
  by_cases e1:(reV a).2=0
  ·by_cases e2:(reV b).2=0 <;> simp [ksV,OkR,okS,stp,runs,SameR,opV,meV,g0,hw_w ha,hw_w hb,hw_C bC,hw_C bO,nx_C,nx_O,nx_w ha,nx_w hb,eB_app,e1,e2]
  ·simp [ksV,OkR,okS,stp,runs,SameR,opV,g0,hw_w ha,nx_w ha,eB_app,e1]
 | loadp a b c ha hb hc =>
  rw [spl_loadp ha hb hc,off_loadp]
  by_cases e1:(reV a).2=0
  ·by_cases e2:(reV b).2=0
   ·by_cases e3:(nuV c 16).2=0 <;> simp [ksV,OkR,okS,stp,runs,SameR,opV,meV,g0,hw_w ha,hw_w hb,hw_w hc,hw_C bC,hw_C bO,hw_C bP,nx_C,nx_O,nx_P,nx_w ha,nx_w hb,nx_w hc,eB_app,e1,e2,e3,show ¬ tPlu=tShu by decide]
   ·simp [ksV,OkR,okS,stp,runs,SameR,opV,meV,g0,hw_w ha,hw_w hb,hw_C bC,hw_C bO,nx_C,nx_O,nx_w ha,nx_w hb,eB_app,e1,e2]
  ·simp [ksV,OkR,okS,stp,runs,SameR,opV,g0,hw_w ha,nx_w ha,eB_app,e1]
 | loadm a b c ha hb hc =>
  rw [spl_loadm ha hb hc,off_loadm hb]
  by_cases e1:(reV a).2=0
  ·by_cases e2:(reV b).2=0
   ·by_cases e3:(nuV (tMin++c) 16).2=0 <;> simp [ksV,OkR,okS,stp,runs,SameR,opV,meV,g0,hw_w ha,hw_w hb,hw_w hc,hw_C bC,hw_C bO,hw_C bM,nx_C,nx_O,nx_m,nx_w ha,nx_w hb,nx_w hc,eB_app,e1,e2,e3,show ¬ tMin=tShu by decide]
   ·simp [ksV,OkR,okS,stp,runs,SameR,opV,meV,g0,hw_w ha,hw_w hb,hw_C bC,hw_C bO,nx_C,nx_O,nx_w ha,nx_w hb,eB_app,e1,e2]
  ·simp [ksV,OkR,okS,stp,runs,SameR,opV,g0,hw_w ha,nx_w ha,eB_app,e1]
 | stor f a b h ha hb =>
  rw [spl_stor ha hb,off_stor ha hb]
  rcases h with rfl|rfl
  ·by_cases e1:(reV a).2=0
   ·by_cases e2:(nuV b 32).2=0 <;> simp [ksV,OkR,okS,stp,runs,SameR,opV,meV,g0,hw_w ha,hw_w hb,hw_C bC,hw_C bO,hw_C bS,nx_C,nx_O,nx_S,nx_w ha,nx_w hb,eB_app,e1,e2]
   ·simp [ksV,OkR,okS,stp,runs,SameR,opV,meV,g0,hw_w ha,hw_C bO,nx_O,nx_w ha,eB_app,e1]
  ·by_cases e1:(reV a).2=0
   ·by_cases e2:(reV b).2=0 <;> simp [ksV,OkR,okS,stp,runs,SameR,opV,meV,g0,hw_w ha,hw_w hb,hw_C bC,hw_C bO,hw_C bS,nx_C,nx_O,nx_S,nx_w ha,nx_w hb,eB_app,e1,e2]
   ·simp [ksV,OkR,okS,stp,runs,SameR,opV,meV,g0,hw_w ha,hw_C bO,nx_O,nx_w ha,eB_app,e1]
 | storp f a b c h ha hb hc =>
  rw [spl_storp ha hb hc,off_storp]
  rcases h with rfl|rfl
  ·by_cases e1:(reV a).2=0
   ·by_cases e2:(nuV b 16).2=0
    ·by_cases e3:(nuV c 32).2=0 <;> simp [ksV,OkR,okS,stp,runs,SameR,opV,meV,g0,hw_w ha,hw_w hb,hw_w hc,hw_C bC,hw_C bO,hw_C bS,hw_C bP,nx_C,nx_O,nx_S,nx_P,nx_w ha,nx_w hb,nx_w hc,eB_app,e1,e2,e3,show ¬ tPlu=tShu by decide]
    ·simp [ksV,OkR,okS,stp,runs,SameR,opV,meV,g0,hw_w ha,hw_w hb,hw_C bO,hw_C bP,nx_O,nx_P,nx_w ha,nx_w hb,eB_app,e1,e2,show ¬ tPlu=tShu by decide]
   ·simp [ksV,OkR,okS,stp,runs,SameR,opV,meV,g0,hw_w ha,hw_C bO,nx_O,nx_w ha,eB_app,e1]
  ·by_cases e1:(reV a).2=0
   ·by_cases e2:(nuV b 16).2=0
    ·by_cases e3:(reV c).2=0 <;> simp [ksV,OkR,okS,stp,runs,SameR,opV,meV,g0,hw_w ha,hw_w hb,hw_w hc,hw_C bC,hw_C bO,hw_C bS,hw_C bP,nx_C,nx_O,nx_S,nx_P,nx_w ha,nx_w hb,nx_w hc,eB_app,e1,e2,e3,show ¬ tPlu=tShu by decide]
    ·simp [ksV,OkR,okS,stp,runs,SameR,opV,meV,g0,hw_w ha,hw_w hb,hw_C bO,hw_C bP,nx_O,nx_P,nx_w ha,nx_w hb,eB_app,e1,e2,show ¬ tPlu=tShu by decide]
   ·simp [ksV,OkR,okS,stp,runs,SameR,opV,meV,g0,hw_w ha,hw_C bO,nx_O,nx_w ha,eB_app,e1]
 | storm f a b c h ha hb hc =>
  rw [spl_storm ha hb hc,off_storm ha]
  rcases h with rfl|rfl
  ·by_cases e1:(reV a).2=0
   ·by_cases e2:(nuV (tMin++b) 16).2=0
    ·by_cases e3:(nuV c 32).2=0 <;> simp [ksV,OkR,okS,stp,runs,SameR,opV,meV,g0,hw_w ha,hw_w hb,hw_w hc,hw_C bC,hw_C bO,hw_C bS,hw_C bM,nx_C,nx_O,nx_S,nx_m,nx_w ha,nx_w hb,nx_w hc,eB_app,e1,e2,e3,show ¬ tMin=tShu by decide]
    ·simp [ksV,OkR,okS,stp,runs,SameR,opV,meV,g0,hw_w ha,hw_w hb,hw_C bO,hw_C bM,nx_O,nx_m,nx_w ha,nx_w hb,eB_app,e1,e2,show ¬ tMin=tShu by decide]
   ·simp [ksV,OkR,okS,stp,runs,SameR,opV,meV,g0,hw_w ha,hw_C bO,nx_O,nx_w ha,eB_app,e1]
  ·by_cases e1:(reV a).2=0
   ·by_cases e2:(nuV (tMin++b) 16).2=0
    ·by_cases e3:(reV c).2=0 <;> simp [ksV,OkR,okS,stp,runs,SameR,opV,meV,g0,hw_w ha,hw_w hb,hw_w hc,hw_C bC,hw_C bO,hw_C bS,hw_C bM,nx_C,nx_O,nx_S,nx_m,nx_w ha,nx_w hb,nx_w hc,eB_app,e1,e2,e3,show ¬ tMin=tShu by decide]
    ·simp [ksV,OkR,okS,stp,runs,SameR,opV,meV,g0,hw_w ha,hw_w hb,hw_C bO,hw_C bM,nx_O,nx_m,nx_w ha,nx_w hb,eB_app,e1,e2,show ¬ tMin=tShu by decide]
   ·simp [ksV,OkR,okS,stp,runs,SameR,opV,meV,g0,hw_w ha,hw_C bO,nx_O,nx_w ha,eB_app,e1]
 | storn a b ha hb =>
  rw [spl_storn ha hb,off_storn ha hb]
  by_cases e1:(reV a).2=0
  ·by_cases e2:(nuV (tMin++b) 32).2=0 <;> simp [ksV,OkR,okS,stp,runs,SameR,opV,meV,g0,hw_w ha,hw_w hb,hw_C bC,hw_C bO,hw_C bS,hw_C bM,nx_C,nx_O,nx_S,nx_m,nx_w ha,nx_w hb,eB_app,e1,e2]
  ·simp [ksV,OkR,okS,stp,runs,SameR,opV,meV,g0,hw_w ha,hw_C bO,nx_O,nx_w ha,eB_app,e1]
 | storpn a b c ha hb hc =>
  rw [spl_storpn ha hb hc,off_storpn]
  by_cases e1:(reV a).2=0
  ·by_cases e2:(nuV b 16).2=0
   ·by_cases e3:(nuV (tMin++c) 32).2=0 <;> simp [ksV,OkR,okS,stp,runs,SameR,opV,meV,g0,hw_w ha,hw_w hb,hw_w hc,hw_C bC,hw_C bO,hw_C bS,hw_C bP,hw_C bM,nx_C,nx_O,nx_S,nx_P,nx_m,nx_w ha,nx_w hb,nx_w hc,eB_app,e1,e2,e3,show ¬ tPlu=tShu by decide]
   ·simp [ksV,OkR,okS,stp,runs,SameR,opV,meV,g0,hw_w ha,hw_w hb,hw_C bO,hw_C bP,nx_O,nx_P,nx_w ha,nx_w hb,eB_app,e1,e2,show ¬ tPlu=tShu by decide]
  ·simp [ksV,OkR,okS,stp,runs,SameR,opV,meV,g0,hw_w ha,hw_C bO,nx_O,nx_w ha,eB_app,e1]
 | stormn a b c ha hb hc =>
  rw [spl_stormn ha hb hc,off_stormn ha]
  by_cases e1:(reV a).2=0
  ·by_cases e2:(nuV (tMin++b) 16).2=0
   ·by_cases e3:(nuV (tMin++c) 32).2=0 <;> simp [ksV,OkR,okS,stp,runs,SameR,opV,meV,g0,hw_w ha,hw_w hb,hw_w hc,hw_C bC,hw_C bO,hw_C bS,hw_C bM,nx_C,nx_O,nx_S,nx_m,nx_w ha,nx_w hb,nx_w hc,eB_app,e1,e2,e3,show ¬ tMin=tShu by decide]
   ·simp [ksV,OkR,okS,stp,runs,SameR,opV,meV,g0,hw_w ha,hw_w hb,hw_C bO,hw_C bM,nx_O,nx_m,nx_w ha,nx_w hb,eB_app,e1,e2,show ¬ tMin=tShu by decide]
  ·simp [ksV,OkR,okS,stp,runs,SameR,opV,meV,g0,hw_w ha,hw_C bO,nx_O,nx_w ha,eB_app,e1]
end Go.Proofs.YtgljoilddjmohaaGreatDoor.L9
end
section
set_option maxRecDepth 100000
set_option maxHeartbeats 4000000
namespace Go.Proofs.YtgljoilddjmohaaGreatDoor.L9
open Go.RowKit
attribute [local go_sem] Oper.semAt_some
theorem cells9 {w:World} {k:Nat} {a b c d e f g h i:Value} {t:TypeId} (hh:w.heap[k]?=some (.cells #[a,b,c,d,e,f,g,h,i] t)) :
  w.cell? ⟨k,0,none⟩=some a∧w.cell? ⟨k,1,none⟩=some b∧w.cell? ⟨k,2,none⟩=some c∧w.cell? ⟨k,3,none⟩=some d∧w.cell? ⟨k,4,none⟩=some e∧w.cell? ⟨k,5,none⟩=some f∧w.cell? ⟨k,6,none⟩=some g∧w.cell? ⟨k,7,none⟩=some h∧w.cell? ⟨k,8,none⟩=some i:=by
 simp [World.cell?,hh]
abbrev rdC (v:Value) (x:Ins) (tg mp:ByteArray):Array Value:=#[v,.int .i64 x.op,.bool x.reg,.int .i64 x.dst,.int .i64 x.src,.int .i64 x.off,.int .i64 x.imm,.string tg,.string mp]
def RdAt (B g:Nat) (w:World) (s:St):Prop:=∃ (b o n cap:Nat) (xs:L8.Tks),b<B∧B≤g∧n≤cap∧xs.length=n∧n≤100000∧txs xs=s.rest∧(∀ t∈s.rest,t.size≤100000)∧L8.Tksat w b o xs∧w.heap[g]?=some (.cells (rdC (.slice (some ⟨b,o,none⟩) n cap) s.x s.tg s.mp) 264)
theorem gr_refl (w:World) (r:Option Nat):w.grownBy w r:=⟨rfl,rfl,rfl,Nat.le_refl _,fun _ _ _=>rfl⟩
theorem gr_trans {a b c:World} {g:Nat} (h:a.grownBy b (some g)) (k:b.grownBy c (some g)):a.grownBy c (some g) :=
 ⟨k.os.trans h.os,k.tape.trans h.tape,k.output.trans h.output,Nat.le_trans h.size k.size,fun i hi hn=>(k.block i (Nat.lt_of_lt_of_le hi h.size) hn).trans (h.block i hi hn)⟩
theorem gr_below {a b:World} {g:Nat} (h:Below a.heap.size a b):a.grownBy b (some g):=⟨h.os,h.tape,h.output,h.size,fun i hi _=>h.block i hi⟩
theorem gr_set {a b:World} {g:Nat} (h:a.grownBy b (some g)) (i:Nat) (v:Value):a.grownBy (b.setCell ⟨g,i,none⟩ v) (some g) :=
 gr_trans h ⟨rfl,rfl,rfl,by simp [World.setCell],fun k _ hn=>Below.heap_setCell _ _ _ _ (by simpa using hn)⟩
theorem tks_gr {a b:World} {g k o:Nat} {xs:L8.Tks} (h:L8.Tksat a k o xs) (hk:k≠g) (hl:k<a.heap.size) (hg:a.grownBy b (some g)):L8.Tksat b k o xs :=
 fun j hj=>⟨(World.cell?_of_block (hg.block k hl (by simpa using hk))).trans (h j hj).1,(World.cell?_of_block (hg.block k hl (by simpa using hk))).trans (h j hj).2⟩
theorem sub_from (k o n cap a:Nat) (h:a≤n) (hc:n≤cap) (w:World) :
  (Instr.slice 220 (.slice (some ⟨k,o,none⟩) n cap) (some (.int .i64 (a:Int))) none none).run Tryz.prog w=.ok (.slice (some ⟨k,if cap=a then o else o+a*2,none⟩) (n-a) (cap-a)) w:=by
 have h2:a≤cap:=by omega
 by_cases hq:cap=a <;> simp [go_sem,Tryz.underlying220,h,hq]
theorem tks_from {w:World} {b o n cap a:Nat} {xs:L8.Tks} (hx:L8.Tksat w b o xs) (hn:xs.length=n) (hc:n≤cap) (ha:a≤n):L8.Tksat w b (if cap=a then o else o+a*2) (xs.drop a):=by
 intro j hj
 rw [List.length_drop,hn] at hj
 rw [if_neg (by omega)]
 have:=hx (a+j) (by omega)
 rw [show o+a*2+j*2=o+(a+j)*2 by omega]
 simpa using this
theorem nx_step (sg:ByteArray) (l:List ByteArray) (j:Nat) (h:j<l.length):nx sg (l.drop j)=if brk l[j] then nx (if l[j]=tMin then tMin else sg) (l.drop (j+1)) else (sg++l[j],l.drop (j+1)):=by
 rw [List.drop_eq_getElem_cons h,nx]
theorem hasW_drop (l:List ByteArray) (j:Nat) (h:j<l.length):hasW (l.drop j)=(!brk l[j] || hasW (l.drop (j+1))):=by
 rw [List.drop_eq_getElem_cons h];rfl
theorem next_at (B g:Nat) (s:St) (w:World) (h:RdAt B g w s) (hw:hasW s.rest=true) (p:ByteArray) (q:List ByteArray) (hp:nx eB s.rest=(p,q)) :
  Calls Tryz.prog 244 #[.pointer (some ⟨g,0,none⟩)] w fun e w'=>e=.returned (.string p)∧RdAt B g w' ⟨q,s.x,s.tg,s.mp⟩∧w.grownBy w' (some g):=by
 obtain⟨b,o,n,cap,xs,hbB,hBg,hcp,hn,hm,htx,hsz,hc,hr⟩:=h
 have hgl:=lt_of_block hr
 have hbg:b≠g:=by omega
 have hbl:b<w.heap.size:=by omega
 rw [← htx] at hw hp
 have HC:=Lib.hid hc
 have HN:=Lib.hid hn
 have HTX:=Lib.hid htx
 have HSZ:=Lib.hid hsz
 have HP:=Lib.hid hp
 have HR:=Lib.hid hr
 obtain⟨r0,r1,r2,r3,r4,r5,r6,r7,r8⟩:=cells9 hr
 clear r1 r2 r3 r4 r5 r6 r7 r8
 clear hc hn htx hsz hp hr
 go_enter Tryz.func244,Tryz.ntmps244
 go_wp2
 clear r0
 go_loopw [3,11] (fun sv a wr=>∃ (j:Nat) (t:ByteArray),a=.int .i64 (j:Int)∧j≤n∧sv=.string t∧t.size≤1∧Hid (nx t ((txs xs).drop j)=(p,q))∧Hid (hasW ((txs xs).drop j)=true)∧Below w.heap.size w wr) (fun _ a _=>n-(intOf a).toNat)
 case atStart=>exact⟨0,⟨#[]⟩,rfl,Nat.zero_le _,rfl,by decide,HP,Lib.hid hw,Below.refl _ _⟩
 case round =>
  obtain⟨j,t,rfl,hj,rfl,hts,hX,hW,hB⟩:=hrel
  have hlt:j<n:=by
   by_cases hlt:j<n
   ·exact hlt
   ·have:=hW.out
    rw [List.drop_eq_nil_of_le (by rw [txs,List.length_map,HN.out];omega)] at this
    cases this
  have hjx:j<xs.length:=by rw [HN.out];exact hlt
  have hjt:j<(txs xs).length:=by rw [txs,List.length_map];exact hjx
  have hcw:=HC.out.below hbl hB
  obtain⟨c0,c1⟩:=hcw j hjx
  obtain⟨T,hT⟩:∃ T,xs[j].1=T:=⟨_,rfl⟩
  obtain⟨P,hP⟩:∃ P,xs[j].2=P:=⟨_,rfl⟩
  have hjT:(txs xs)[j]=T:=by rw [← hT];simp [txs]
  rw [hT] at c0
  rw [hP] at c1
  have hx1:=hX.out
  rw [nx_step t (txs xs) j hjt,hjT] at hx1
  have hw1:=hW.out
  rw [hasW_drop (txs xs) j hjt,hjT] at hw1
  have hTs:T.size≤100000:=HSZ.out T (by rw [← HTX.out,← hjT];exact List.getElem_mem _)
  have hgw:wr.heap[g]?=some (.cells (rdC (.slice (some ⟨b,o,none⟩) n cap) s.x s.tg s.mp) 264):=(hB.block g hgl).trans HR.out
  obtain⟨r0,r1,r2,r3,r4,r5,r6,r7,r8⟩:=cells9 hgw
  have fz:=frozen_all hgw 0
  have hbs:=hB.size
  have hg2:g<wr.heap.size:=by omega
  clear r1 r2 r3 r4 r5 r6 r7 r8 hT hP hjT hcw hX hW
  rcases brk_bits T with ⟨hk,⟨hne,hbits⟩|⟨hmn,hbits⟩⟩|⟨hk,hbits⟩
  ·have HX:=Lib.hid (show nx t ((txs xs).drop (j+1))=(p,q) by rw [if_pos hk,if_neg hne] at hx1;exact hx1)
   have HW:=Lib.hid (show hasW ((txs xs).drop (j+1))=true by rw [hk] at hw1;simpa using hw1)
   clear hx1 hw1 hk hne
   rcases hbits with ⟨t1,t2,t3,t4,t5⟩|⟨t1,t2,t3,t4,t5⟩|⟨t1,t2,t3,t4,t5⟩|⟨t1,t2,t3,t4,t5⟩
   all_goals
    go_wp2
    go_roundw
    case rel=>exact⟨j+1,t,by go_num,by omega,rfl,hts,HX,HW,L2.bch hB (L8.bnew _ _)⟩
    case measure=>simp [intOf];omega
  ·have HX:=Lib.hid (show nx ⟨#[45]⟩ ((txs xs).drop (j+1))=(p,q) by rw [if_pos hk,if_pos hmn] at hx1;exact hx1)
   have HW:=Lib.hid (show hasW ((txs xs).drop (j+1))=true by rw [hk] at hw1;simpa using hw1)
   clear hx1 hw1 hk hmn
   obtain⟨t1,t2,t3,t4,t5⟩:=hbits
   go_wp2
   go_roundw
   case rel=>exact⟨j+1,⟨#[45]⟩,by go_num,by omega,rfl,by decide,HX,HW,L2.bch hB (L8.bnew _ _)⟩
   case measure=>simp [intOf];omega
  ·have HX:=Lib.hid (show (t++T,(txs xs).drop (j+1))=(p,q) by rw [if_neg (by rw [hk];exact Bool.false_ne_true)] at hx1;exact hx1)
   clear hx1 hw1 hk
   obtain⟨t1,t2,t3,t4,t5⟩:=hbits
   have hsl:=sub_from b o n cap (j+1) (by omega) hcp
   obtain⟨o2,ho2⟩:∃ o2,(if cap=j+1 then o else o+(j+1)*2)=o2:=⟨_,rfl⟩
   rw [ho2] at hsl
   have HO:=Lib.hid ho2
   clear ho2
   have q1:t.size+T.size≤9223372036854775807:=by omega
   have q2:t.size+T.size≤maxLen:=by unfold maxLen;omega
   rw [show ((j+1:Nat):Int)=(j:Int)+1 by omega] at hsl
   go_wp2
   go_ret
   have hX2:=HX.out
   obtain⟨rfl,rfl⟩:t++T=p∧(txs xs).drop (j+1)=q:=by cases hX2;exact⟨rfl,rfl⟩
   have HG:∀ u ob,w.grownBy ((wr.setCell ⟨g,0,none⟩ u).alloc ob) (some g):=fun u ob=>gr_trans (gr_set (gr_below hB) 0 u) (gr_below (L8.bnew _ ob))
   refine⟨rfl,⟨b,o2,n-(j+1),cap-(j+1),xs.drop (j+1),hbB,hBg,by omega,by rw [List.length_drop,HN.out],by omega,by simp [txs],fun t ht=>HSZ.out t (by rw [← HTX.out];exact List.mem_of_mem_drop ht),?_,?_⟩,HG _ _⟩
   ·rw [← HO.out]
    exact tks_gr (tks_from HC.out HN.out hcp (by omega)) hbg hbl (HG _ _)
   ·exact row_up (row_set hgw 0 _) (L8.bnew _ _)
end Go.Proofs.YtgljoilddjmohaaGreatDoor.L9
end
section
set_option maxRecDepth 100000
set_option maxHeartbeats 1000000
namespace Go.Proofs.YtgljoilddjmohaaGreatDoor.L9
open Go.RowKit
attribute [local go_sem] Oper.semAt_some
def Tab (w:World):Prop:=L1.Wid w∧L2.Regs w
theorem Tab.wid {w:World} (h:Tab w):L1.Wid w:=h.1
theorem Tab.reg {w:World} (h:Tab w):L2.Regs w:=h.2
theorem Tab.gr {w w':World} {g:Nat} (h:Tab w) (hg:w.grownBy w' (some g)) (h2:2≤g):Tab w':=by
 obtain⟨⟨t,fr,h0⟩,⟨t',fr',h1⟩⟩:=h
 exact⟨⟨t,fr,(hg.block _ (lt_of_block h0) (by simp;omega)).trans h0⟩,⟨t',fr',(hg.block _ (lt_of_block h1) (by simp;omega)).trans h1⟩⟩
theorem Tab.below {w w':World} {B:Nat} (h:Tab w) (hb:Below B w w') (hB:2≤B):Tab w':=by
 obtain⟨⟨t,fr,h0⟩,⟨t',fr',h1⟩⟩:=h
 exact⟨⟨t,fr,(hb.block _ (by omega)).trans h0⟩,⟨t',fr',(hb.block _ (by omega)).trans h1⟩⟩
theorem Tab.lt {w:World} (h:Tab w):2≤w.heap.size:=by
 obtain⟨⟨t,fr,h0⟩,⟨t',fr',h1⟩⟩:=h
 have:=lt_of_block h0
 have:=lt_of_block h1
 omega
theorem rd_row {B g:Nat} {w:World} {s:St} (h:RdAt B g w s):∃ v,w.heap[g]?=some (.cells (rdC v s.x s.tg s.mp) 264):=by
 obtain⟨b,o,n,cap,xs,_,_,_,_,_,_,_,_,hr⟩:=h
 exact⟨_,hr⟩
theorem rd_set {B g:Nat} {w:World} {s s':St} (h:RdAt B g w s) (i:Nat) (u:Value) (e:∀ v,(rdC v s.x s.tg s.mp).setIfInBounds i u=rdC v s'.x s'.tg s'.mp) (hs:s'.rest=s.rest):RdAt B g (w.setCell ⟨g,i,none⟩ u) s':=by
 obtain⟨b,o,n,cap,xs,hbB,hBg,hcp,hn,hm,htx,hsz,hc,hr⟩:=h
 refine⟨b,o,n,cap,xs,hbB,hBg,hcp,hn,hm,htx.trans hs.symm,by rw [hs];exact hsz,fun j hj=>?_,?_⟩
 ·have hbl:∀ i',(w.setCell ⟨g,i,none⟩ u).cell? ⟨b,i',none⟩=w.cell? ⟨b,i',none⟩:=fun i'=>World.cell?_of_block (Below.heap_setCell _ _ _ _ (by show b≠g;omega))
  rw [hbl,hbl]
  exact hc j hj
 ·rw [← e];exact row_set hr i u
theorem rd_gr {B g:Nat} {w w':World} {s:St} (h:RdAt B g w s) (hg:Below w.heap.size w w'):RdAt B g w' s:=by
 obtain⟨b,o,n,cap,xs,hbB,hBg,hcp,hn,hm,htx,hsz,hc,hr⟩:=h
 have hgl:=lt_of_block hr
 exact⟨b,o,n,cap,xs,hbB,hBg,hcp,hn,hm,htx,hsz,hc.below (by omega) hg,(hg.block g hgl).trans hr⟩
theorem rd_B {B g:Nat} {w:World} {s:St} (h:RdAt B g w s):B≤g:=by
 obtain⟨b,o,n,cap,xs,hbB,hBg,_⟩:=h
 exact hBg
theorem identifier_at (t:ByteArray) (w:World) (hR:L2.Regs w) (u:ByteArray) (x:Int) (hu:(if L2.vd t then t else eB)=u) (hx:naV t=x) :
  Calls Tryz.prog 201 #[.string t] w fun e w'=>e=.returned (.tuple #[.string u,.int .i64 x])∧Below w.heap.size w w':=by
 obtain⟨b,hb⟩:∃ b,L2.vd t=b:=⟨_,rfl⟩
 have HV:=Lib.hid (L2.valid_at t b w hR hb)
 unfold naV at hx
 rw [hb] at hu hx
 clear hb hR
 cases b
 ·obtain rfl:u=⟨#[]⟩:=hu.symm
  obtain rfl:x=7:=hx.symm
  clear hu hx
  go_enter Tryz.func201,Tryz.ntmps201
  go_wp2_with (go_at_call 191;((with_reducible refine (HV.out).mono ?_);rintro e w1 ⟨rfl,hb1⟩))
  go_ret2
  exact⟨rfl,hb1⟩
 ·obtain rfl:u=t:=hu.symm
  obtain rfl:x=0:=hx.symm
  clear hu hx
  go_enter Tryz.func201,Tryz.ntmps201
  go_wp2_with (go_at_call 191;((with_reducible refine (HV.out).mono ?_);rintro e w1 ⟨rfl,hb1⟩))
  go_ret2
  exact⟨rfl,hb1⟩
theorem preg_at (t:ByteArray) (w:World) (hR:L2.Regs w) (v x:Int) (h1:(reV t).1=v) (h2:(reV t).2=x) :
  Calls Tryz.prog 243 #[.string t] w fun e w'=>e=.returned (.tuple #[.int .i64 v,.int .i64 x])∧w=w':=by
 subst h1 h2
 unfold reV
 obtain⟨b,hb⟩:∃ b,(L2.rg t).2=b:=⟨_,rfl⟩
 obtain⟨n,hn⟩:∃ n:Int,((L2.rg t).1:Int)=n:=⟨_,rfl⟩
 have HP:=Lib.hid (L2.register_at t n b w hR hn hb)
 rw [hb,hn]
 clear hb hn hR
 cases b
 ·go_enter Tryz.func243,Tryz.ntmps243
  go_wp2_with (go_at_call 207;((with_reducible refine (HP.out).mono ?_);rintro e w1 ⟨rfl,rfl⟩))
  go_ret2
  exact⟨rfl,rfl⟩
 ·go_enter Tryz.func243,Tryz.ntmps243
  go_wp2_with (go_at_call 207;((with_reducible refine (HP.out).mono ?_);rintro e w1 ⟨rfl,rfl⟩))
  go_ret2
  exact⟨rfl,rfl⟩
theorem pnum_at (t:ByteArray) (b:Int) (w:World) (hW:L1.Wid w) (v x:Int) (h1:(nuV t b).1=v) (h2:(nuV t b).2=x) :
  Calls Tryz.prog 215 #[.string t,.int .i64 b] w fun e w'=>e=.returned (.tuple #[.int .i64 v,.int .i64 x])∧Below w.heap.size w w':=by
 subst h1 h2
 exact L1.parse_any t b w hW
abbrev StpP (B g:Nat) (k:Rk) (s:St) (w:World) (e:Ending) (w':World):Prop:=e=.returned (.int .i64 (stp k s).2)∧RdAt B g w' (stp k s).1∧w.grownBy w' (some g)
theorem dst_at (B g:Nat) (s:St) (w:World) (h:RdAt B g w s) (hk:okS .dst s=true) (hT:Tab w) (h2:2≤B):Calls Tryz.prog 229 #[.pointer (some ⟨g,0,none⟩)] w fun e w'=>StpP B g .dst s w e w':=by
 obtain⟨p,q,hp⟩:∃ p q,nx eB s.rest=(p,q):=⟨_,_,rfl⟩
 obtain⟨v,hv⟩:∃ v,(reV p).1=v:=⟨_,rfl⟩
 obtain⟨x,hx⟩:∃ x,(reV p).2=x:=⟨_,rfl⟩
 have e0:stp .dst s=(⟨q,{ s.x with dst:=v },s.tg,s.mp⟩,x):=by simp only [stp,hp,hv,hx]
 have hBg:=rd_B h
 have HNX:=Lib.hid (next_at B g s w h hk p q hp)
 have HRG:=Lib.hid (fun W (hR:L2.Regs W)=>preg_at p W hR v x hv hx)
 have HT:=Lib.hid hT
 unfold StpP
 rw [e0]
 clear hp hv hx e0 hk h hT
 go_enter Tryz.func229,Tryz.ntmps229
 go_wp2_with (first|(go_at_call 244;((with_reducible refine (HNX.out).mono ?_);rintro e w1 ⟨rfl,hr1,hg1⟩;obtain⟨vv,hrw⟩:=rd_row hr1;obtain⟨r0,r1,r2,r3,r4,r5,r6,r7,r8⟩:=cells9 hrw;have fz:=frozen_all hrw 3;clear hrw r0 r1 r2 r4 r5 r6 r7 r8))|(go_at_call 243;((with_reducible refine (HRG.out _ (HT.out.gr hg1 (by omega)).reg).mono ?_);rintro e w2 ⟨rfl,rfl⟩)))
 go_ret
 exact⟨rfl,rd_set hr1 3 _ (fun _=>rfl) rfl,gr_set hg1 3 _⟩
theorem src_at (B g:Nat) (s:St) (w:World) (h:RdAt B g w s) (hk:okS .src s=true) (hT:Tab w) (h2:2≤B):Calls Tryz.prog 231 #[.pointer (some ⟨g,0,none⟩)] w fun e w'=>StpP B g .src s w e w':=by
 obtain⟨p,q,hp⟩:∃ p q,nx eB s.rest=(p,q):=⟨_,_,rfl⟩
 obtain⟨v,hv⟩:∃ v,(reV p).1=v:=⟨_,rfl⟩
 obtain⟨x,hx⟩:∃ x,(reV p).2=x:=⟨_,rfl⟩
 have e0:stp .src s=(⟨q,{ s.x with src:=v },s.tg,s.mp⟩,x):=by simp only [stp,hp,hv,hx]
 have hBg:=rd_B h
 have HNX:=Lib.hid (next_at B g s w h hk p q hp)
 have HRG:=Lib.hid (fun W (hR:L2.Regs W)=>preg_at p W hR v x hv hx)
 have HT:=Lib.hid hT
 unfold StpP
 rw [e0]
 clear hp hv hx e0 hk h hT
 go_enter Tryz.func231,Tryz.ntmps231
 go_wp2_with (first|(go_at_call 244;((with_reducible refine (HNX.out).mono ?_);rintro e w1 ⟨rfl,hr1,hg1⟩;obtain⟨vv,hrw⟩:=rd_row hr1;obtain⟨r0,r1,r2,r3,r4,r5,r6,r7,r8⟩:=cells9 hrw;have fz:=frozen_all hrw 4;clear hrw r0 r1 r2 r3 r5 r6 r7 r8))|(go_at_call 243;((with_reducible refine (HRG.out _ (HT.out.gr hg1 (by omega)).reg).mono ?_);rintro e w2 ⟨rfl,rfl⟩)))
 go_ret
 exact⟨rfl,rd_set hr1 4 _ (fun _=>rfl) rfl,gr_set hg1 4 _⟩
theorem tgt_at (B g:Nat) (s:St) (w:World) (h:RdAt B g w s) (hk:okS .tgt s=true) (hT:Tab w) (h2:2≤B):Calls Tryz.prog 232 #[.pointer (some ⟨g,0,none⟩)] w fun e w'=>StpP B g .tgt s w e w':=by
 obtain⟨p,q,hp⟩:∃ p q,nx eB s.rest=(p,q):=⟨_,_,rfl⟩
 obtain⟨u,hu⟩:∃ u,(if L2.vd p then p else eB)=u:=⟨_,rfl⟩
 obtain⟨x,hx⟩:∃ x,naV p=x:=⟨_,rfl⟩
 have e0:stp .tgt s=(⟨q,s.x,u,s.mp⟩,x):=by simp only [stp,hp,hu,hx]
 have hBg:=rd_B h
 have HNX:=Lib.hid (next_at B g s w h hk p q hp)
 have HID:=Lib.hid (fun W (hR:L2.Regs W)=>identifier_at p W hR u x hu hx)
 have HT:=Lib.hid hT
 unfold StpP
 rw [e0]
 clear hp hu hx e0 hk h hT
 go_enter Tryz.func232,Tryz.ntmps232
 go_wp2_with (first|(go_at_call 244;((with_reducible refine (HNX.out).mono ?_);rintro e w1 ⟨rfl,hr1,hg1⟩))|(go_at_call 201;((with_reducible refine (HID.out _ (HT.out.gr hg1 (by omega)).reg).mono ?_);rintro e w2 ⟨rfl,hb2⟩;have hr2:=rd_gr hr1 hb2;obtain⟨vv,hrw⟩:=rd_row hr2;obtain⟨r0,r1,r2,r3,r4,r5,r6,r7,r8⟩:=cells9 hrw;have fz:=frozen_all hrw 7;clear hrw r0 r1 r2 r3 r4 r5 r6 r8)))
 go_ret
 exact⟨rfl,rd_set hr2 7 _ (fun _=>rfl) rfl,gr_set (gr_trans hg1 (gr_below hb2)) 7 _⟩
theorem mpn_at (B g:Nat) (s:St) (w:World) (h:RdAt B g w s) (hk:okS .mpn s=true) (hT:Tab w) (h2:2≤B):Calls Tryz.prog 237 #[.pointer (some ⟨g,0,none⟩)] w fun e w'=>StpP B g .mpn s w e w':=by
 obtain⟨p,q,hp⟩:∃ p q,nx eB s.rest=(p,q):=⟨_,_,rfl⟩
 obtain⟨u,hu⟩:∃ u,(if L2.vd p then p else eB)=u:=⟨_,rfl⟩
 obtain⟨x,hx⟩:∃ x,naV p=x:=⟨_,rfl⟩
 have e0:stp .mpn s=(⟨q,s.x,s.tg,u⟩,x):=by simp only [stp,hp,hu,hx]
 have hBg:=rd_B h
 have HNX:=Lib.hid (next_at B g s w h hk p q hp)
 have HID:=Lib.hid (fun W (hR:L2.Regs W)=>identifier_at p W hR u x hu hx)
 have HT:=Lib.hid hT
 unfold StpP
 rw [e0]
 clear hp hu hx e0 hk h hT
 go_enter Tryz.func237,Tryz.ntmps237
 go_wp2_with (first|(go_at_call 244;((with_reducible refine (HNX.out).mono ?_);rintro e w1 ⟨rfl,hr1,hg1⟩))|(go_at_call 201;((with_reducible refine (HID.out _ (HT.out.gr hg1 (by omega)).reg).mono ?_);rintro e w2 ⟨rfl,hb2⟩;have hr2:=rd_gr hr1 hb2;obtain⟨vv,hrw⟩:=rd_row hr2;obtain⟨r0,r1,r2,r3,r4,r5,r6,r7,r8⟩:=cells9 hrw;have fz:=frozen_all hrw 8;clear hrw r0 r1 r2 r3 r4 r5 r6 r7)))
 go_ret
 exact⟨rfl,rd_set hr2 8 _ (fun _=>rfl) rfl,gr_set (gr_trans hg1 (gr_below hb2)) 8 _⟩
theorem immed_at (B g:Nat) (s:St) (w:World) (h:RdAt B g w s) (hT:Tab w) (t:ByteArray) (b v x:Int) (hv:(nuV t b).1=v) (hx:(nuV t b).2=x):Calls Tryz.prog 245 #[.pointer (some ⟨g,0,none⟩),.string t,.int .i64 b] w fun e w'=>e=.returned (.int .i64 x)∧RdAt B g w' ⟨s.rest,{ s.x with imm:=v },s.tg,s.mp⟩∧w.grownBy w' (some g):=by
 have HN:=Lib.hid (pnum_at t b w hT.1 v x hv hx)
 clear hv hx hT
 go_enter Tryz.func245,Tryz.ntmps245
 go_wp2_with (go_at_call 215;((with_reducible refine (HN.out).mono ?_);rintro e w2 ⟨rfl,hb2⟩;have hr2:=rd_gr h hb2;obtain⟨vv,hrw⟩:=rd_row hr2;obtain⟨r0,r1,r2,r3,r4,r5,r6,r7,r8⟩:=cells9 hrw;have fz:=frozen_all hrw 6;clear hrw r0 r1 r2 r3 r4 r5 r7 r8))
 go_ret
 exact⟨rfl,rd_set hr2 6 _ (fun _=>rfl) rfl,gr_set (gr_below hb2) 6 _⟩
theorem i32_at (B g:Nat) (s:St) (w:World) (h:RdAt B g w s) (hk:okS .i32 s=true) (hT:Tab w) (h2:2≤B):Calls Tryz.prog 235 #[.pointer (some ⟨g,0,none⟩)] w fun e w'=>StpP B g .i32 s w e w':=by
 obtain⟨p,q,hp⟩:∃ p q,nx eB s.rest=(p,q):=⟨_,_,rfl⟩
 obtain⟨v,hv⟩:∃ v,(nuV p 32).1=v:=⟨_,rfl⟩
 obtain⟨x,hx⟩:∃ x,(nuV p 32).2=x:=⟨_,rfl⟩
 have e0:stp .i32 s=(⟨q,{ s.x with imm:=v },s.tg,s.mp⟩,x):=by simp only [stp,hp,hv,hx]
 have hBg:=rd_B h
 have HNX:=Lib.hid (next_at B g s w h hk p q hp)
 have HIM:=Lib.hid (fun W (hr:RdAt B g W ⟨q,s.x,s.tg,s.mp⟩) (hT:Tab W)=>immed_at B g _ W hr hT p 32 v x hv hx)
 have HT:=Lib.hid hT
 unfold StpP
 rw [e0]
 clear hp hv hx e0 hk h hT
 go_enter Tryz.func235,Tryz.ntmps235
 go_wp2_with (first|(go_at_call 244;((with_reducible refine (HNX.out).mono ?_);rintro e w1 ⟨rfl,hr1,hg1⟩))|(go_at_call 245;((with_reducible refine (HIM.out _ hr1 (HT.out.gr hg1 (by omega))).mono ?_);rintro e w2 ⟨rfl,hr2,hg2⟩)))
 go_ret
 exact⟨rfl,hr2,gr_trans hg1 hg2⟩
theorem i64_at (B g:Nat) (s:St) (w:World) (h:RdAt B g w s) (hk:okS .i64 s=true) (hT:Tab w) (h2:2≤B):Calls Tryz.prog 236 #[.pointer (some ⟨g,0,none⟩)] w fun e w'=>StpP B g .i64 s w e w':=by
 obtain⟨p,q,hp⟩:∃ p q,nx eB s.rest=(p,q):=⟨_,_,rfl⟩
 obtain⟨v,hv⟩:∃ v,(nuV p 64).1=v:=⟨_,rfl⟩
 obtain⟨x,hx⟩:∃ x,(nuV p 64).2=x:=⟨_,rfl⟩
 have e0:stp .i64 s=(⟨q,{ s.x with imm:=v },s.tg,s.mp⟩,x):=by simp only [stp,hp,hv,hx]
 have hBg:=rd_B h
 have HNX:=Lib.hid (next_at B g s w h hk p q hp)
 have HIM:=Lib.hid (fun W (hr:RdAt B g W ⟨q,s.x,s.tg,s.mp⟩) (hT:Tab W)=>immed_at B g _ W hr hT p 64 v x hv hx)
 have HT:=Lib.hid hT
 unfold StpP
 rw [e0]
 clear hp hv hx e0 hk h hT
 go_enter Tryz.func236,Tryz.ntmps236
 go_wp2_with (first|(go_at_call 244;((with_reducible refine (HNX.out).mono ?_);rintro e w1 ⟨rfl,hr1,hg1⟩))|(go_at_call 245;((with_reducible refine (HIM.out _ hr1 (HT.out.gr hg1 (by omega))).mono ?_);rintro e w2 ⟨rfl,hr2,hg2⟩)))
 go_ret
 exact⟨rfl,hr2,gr_trans hg1 hg2⟩
theorem sec_at (B g:Nat) (s:St) (w:World) (h:RdAt B g w s) (hk:okS .sec s=true) (hT:Tab w) (h2:2≤B):Calls Tryz.prog 230 #[.pointer (some ⟨g,0,none⟩)] w fun e w'=>StpP B g .sec s w e w':=by
 obtain⟨p,q,hp⟩:∃ p q,nx eB s.rest=(p,q):=⟨_,_,rfl⟩
 have hBg:=rd_B h
 have HNX:=Lib.hid (next_at B g s w h hk p q hp)
 have HT:=Lib.hid hT
 unfold StpP
 obtain⟨n,hn⟩:∃ n:Int,((L2.rg p).1:Int)=n:=⟨_,rfl⟩
 cases hb:(L2.rg p).2
 ·obtain⟨v,hv⟩:∃ v,(nuV p 32).1=v:=⟨_,rfl⟩
  obtain⟨x,hx⟩:∃ x,(nuV p 32).2=x:=⟨_,rfl⟩
  have e0:stp .sec s=(⟨q,{ s.x with imm:=v },s.tg,s.mp⟩,x):=by simp only [stp,hp,seV,hb,hv,hx];rfl
  have HRG:=Lib.hid (fun W (hR:L2.Regs W)=>L2.register_at p n false W hR hn hb)
  have HIM:=Lib.hid (fun W (hr:RdAt B g W ⟨q,s.x,s.tg,s.mp⟩) (hT:Tab W)=>immed_at B g _ W hr hT p 32 v x hv hx)
  rw [e0]
  clear hp hv hx e0 hk h hT hn hb
  go_enter Tryz.func230,Tryz.ntmps230
  go_wp2_with (first|(go_at_call 244;((with_reducible refine (HNX.out).mono ?_);rintro e w1 ⟨rfl,hr1,hg1⟩))|(go_at_call 207;((with_reducible refine (HRG.out _ (HT.out.gr hg1 (by omega)).reg).mono ?_);rintro e w2 ⟨rfl,rfl⟩))|(go_at_call 245;((with_reducible refine (HIM.out _ hr1 (HT.out.gr hg1 (by omega))).mono ?_);rintro e w2 ⟨rfl,hr2,hg2⟩)))
  go_ret
  exact⟨rfl,hr2,gr_trans hg1 hg2⟩
 ·have e0:stp .sec s=(⟨q,{ s.x with reg:=true,src:=n },s.tg,s.mp⟩,0):=by simp only [stp,hp,seV,hb,hn];rfl
  have HRG:=Lib.hid (fun W (hR:L2.Regs W)=>L2.register_at p n true W hR hn hb)
  rw [e0]
  clear hp e0 hk h hT hn hb
  go_enter Tryz.func230,Tryz.ntmps230
  go_wp2_with (first|(go_at_call 244;((with_reducible refine (HNX.out).mono ?_);rintro e w1 ⟨rfl,hr1,hg1⟩;obtain⟨vv,hrw⟩:=rd_row hr1;obtain⟨r0,r1,r2,r3,r4,r5,r6,r7,r8⟩:=cells9 hrw;have fy:=frozen_all hrw 4;have fz:=frozen_all hrw 2;clear hrw r0 r1 r3 r5 r6 r7 r8))|(go_at_call 207;((with_reducible refine (HRG.out _ (HT.out.gr hg1 (by omega)).reg).mono ?_);rintro e w2 ⟨rfl,rfl⟩)))
  go_ret
  exact⟨rfl,rd_set (s':=⟨q,{ s.x with reg:=true,src:=n },s.tg,s.mp⟩) (rd_set (s':=⟨q,{ s.x with reg:=true },s.tg,s.mp⟩) hr1 2 _ (fun _=>rfl) rfl) 4 _ (fun _=>rfl) rfl,gr_set (gr_set hg1 2 _) 4 _⟩
theorem heV_four (p:ByteArray):(heV p=0∧(p.toList==[108,111,111,107,117,112])=false∧(p.toList==[117,112,100,97,116,101])=false∧(p.toList==[100,101,108,101,116,101])=false)∨(heV p=1∧(p.toList==[108,111,111,107,117,112])=true)∨(heV p=2∧(p.toList==[108,111,111,107,117,112])=false∧(p.toList==[117,112,100,97,116,101])=true)∨(heV p=3∧(p.toList==[108,111,111,107,117,112])=false∧(p.toList==[117,112,100,97,116,101])=false∧(p.toList==[100,101,108,101,116,101])=true):=by
 unfold heV
 by_cases h1:p=⟨#[108,111,111,107,117,112]⟩
 ·rw [if_pos h1];exact .inr (.inl ⟨rfl,eqb h1⟩)
 rw [if_neg h1]
 by_cases h2:p=⟨#[117,112,100,97,116,101]⟩
 ·rw [if_pos h2];exact .inr (.inr (.inl ⟨rfl,beqt_ne h1,eqb h2⟩))
 rw [if_neg h2]
 by_cases h3:p=⟨#[100,101,108,101,116,101]⟩
 ·rw [if_pos h3];exact .inr (.inr (.inr ⟨rfl,beqt_ne h1,beqt_ne h2,eqb h3⟩))
 rw [if_neg h3]
 exact .inl ⟨rfl,beqt_ne h1,beqt_ne h2,beqt_ne h3⟩
theorem hlp_at (B g:Nat) (s:St) (w:World) (h:RdAt B g w s) (hk:okS .hlp s=true):Calls Tryz.prog 233 #[.pointer (some ⟨g,0,none⟩)] w fun e w'=>StpP B g .hlp s w e w':=by
 obtain⟨p,q,hp⟩:∃ p q,nx eB s.rest=(p,q):=⟨_,_,rfl⟩
 have HNX:=Lib.hid (next_at B g s w h hk p q hp)
 unfold StpP
 rcases heV_four p with ⟨hv,t1,t2,t3⟩|⟨hv,t1⟩|⟨hv,t1,t2⟩|⟨hv,t1,t2,t3⟩
 ·have e0:stp .hlp s=(⟨q,s.x,s.tg,s.mp⟩,7):=by simp only [stp,hp,hv];rfl
  rw [e0]
  clear hp hv e0 hk h
  go_enter Tryz.func233,Tryz.ntmps233
  go_wp2_with (go_at_call 244;((with_reducible refine (HNX.out).mono ?_);rintro e w1 ⟨rfl,hr1,hg1⟩))
  go_ret
  exact⟨rfl,hr1,hg1⟩
 ·have e0:stp .hlp s=(⟨q,{ s.x with imm:=1 },s.tg,s.mp⟩,0):=by simp only [stp,hp,hv];rfl
  rw [e0]
  clear hp hv e0 hk h
  go_enter Tryz.func233,Tryz.ntmps233
  go_wp2_with (go_at_call 244;((with_reducible refine (HNX.out).mono ?_);rintro e w1 ⟨rfl,hr1,hg1⟩;obtain⟨vv,hrw⟩:=rd_row hr1;obtain⟨r0,r1,r2,r3,r4,r5,r6,r7,r8⟩:=cells9 hrw;have fz:=frozen_all hrw 6;clear hrw r0 r1 r2 r3 r4 r5 r7 r8))
  go_ret
  exact⟨rfl,rd_set hr1 6 _ (fun _=>rfl) rfl,gr_set hg1 6 _⟩
 ·have e0:stp .hlp s=(⟨q,{ s.x with imm:=2 },s.tg,s.mp⟩,0):=by simp only [stp,hp,hv];rfl
  rw [e0]
  clear hp hv e0 hk h
  go_enter Tryz.func233,Tryz.ntmps233
  go_wp2_with (go_at_call 244;((with_reducible refine (HNX.out).mono ?_);rintro e w1 ⟨rfl,hr1,hg1⟩;obtain⟨vv,hrw⟩:=rd_row hr1;obtain⟨r0,r1,r2,r3,r4,r5,r6,r7,r8⟩:=cells9 hrw;have fz:=frozen_all hrw 6;clear hrw r0 r1 r2 r3 r4 r5 r7 r8))
  go_ret
  exact⟨rfl,rd_set hr1 6 _ (fun _=>rfl) rfl,gr_set hg1 6 _⟩
 ·have e0:stp .hlp s=(⟨q,{ s.x with imm:=3 },s.tg,s.mp⟩,0):=by simp only [stp,hp,hv];rfl
  rw [e0]
  clear hp hv e0 hk h
  go_enter Tryz.func233,Tryz.ntmps233
  go_wp2_with (go_at_call 244;((with_reducible refine (HNX.out).mono ?_);rintro e w1 ⟨rfl,hr1,hg1⟩;obtain⟨vv,hrw⟩:=rd_row hr1;obtain⟨r0,r1,r2,r3,r4,r5,r6,r7,r8⟩:=cells9 hrw;have fz:=frozen_all hrw 6;clear hrw r0 r1 r2 r3 r4 r5 r7 r8))
  go_ret
  exact⟨rfl,rd_set hr1 6 _ (fun _=>rfl) rfl,gr_set hg1 6 _⟩
theorem head_tok {B g:Nat} {w:World} {s:St} (h:RdAt B g w s) (h0:s.rest≠[]):∃ (b o n cap:Nat) (T:ByteArray),w.heap[g]?=some (.cells (rdC (.slice (some ⟨b,o,none⟩) n cap) s.x s.tg s.mp) 264)∧0<n∧w.cell? ⟨b,o,none⟩=some (.string T)∧s.rest.head?=some T:=by
 obtain⟨b,o,n,cap,xs,hbB,hBg,hcp,hn,hm,htx,hsz,hc,hr⟩:=h
 cases xs with
 | nil=>exact absurd htx.symm h0
 | cons x r =>
  refine⟨b,o,n,cap,x.1,hr,by rw [← hn];simp,?_,by rw [← htx];rfl⟩
  have:=(hc 0 (by simp)).1
  simpa using this
theorem off_at (B g:Nat) (s:St) (w:World) (h:RdAt B g w s) (hk:okS .off s=true) (hT:Tab w) (h2:2≤B):Calls Tryz.prog 234 #[.pointer (some ⟨g,0,none⟩)] w fun e w'=>StpP B g .off s w e w':=by
 have hne:s.rest≠[]:=fun e=>by simp [okS,e,hasW] at hk
 obtain⟨b,o,n,cap,T,hr,hn0,c0,hT0⟩:=head_tok h hne
 have hBg:=rd_B h
 have HT:=Lib.hid hT
 unfold StpP
 obtain⟨r0,r1,r2,r3,r4,r5,r6,r7,r8⟩:=cells9 hr
 clear r1 r2 r3 r4 r5 r6 r7 r8 hr
 by_cases hS:T=tShu
 ·have e0:stp .off s=(s,0):=by simp only [stp,hT0,hS];rfl
  have t1:(T.toList==[93])=true:=eqb hS
  rw [e0]
  clear e0 hk hS hT hne hT0
  go_enter Tryz.func234,Tryz.ntmps234
  go_wp2
  go_ret
  exact⟨rfl,h,gr_refl _ _⟩
 ·obtain⟨p,q,hp⟩:∃ p q,nx eB s.rest=(p,q):=⟨_,_,rfl⟩
  obtain⟨v,hv⟩:∃ v,(nuV p 16).1=v:=⟨_,rfl⟩
  obtain⟨x,hx⟩:∃ x,(nuV p 16).2=x:=⟨_,rfl⟩
  have hS':¬ s.rest.head?=some tShu:=fun e=>hS (by rw [hT0] at e;exact Option.some.inj e)
  have e0:stp .off s=(⟨q,{ s.x with off:=v },s.tg,s.mp⟩,x):=by simp only [stp,hp,hv,hx,if_neg hS']
  have hk':hasW s.rest=true:=by simpa [okS,hS'] using hk
  have HNX:=Lib.hid (next_at B g s w h hk' p q hp)
  have HN:=Lib.hid (fun W (hW:L1.Wid W)=>pnum_at p 16 W hW v x hv hx)
  have t1:(T.toList==[93])=false:=beqt_ne hS
  rw [e0]
  clear e0 hk hS hS' hT hne hT0 hp hv hx hk' h
  go_enter Tryz.func234,Tryz.ntmps234
  go_wp2_with (first|(go_at_call 244;((with_reducible refine (HNX.out).mono ?_);rintro e w1 ⟨rfl,hr1,hg1⟩;clear r0 c0))|(go_at_call 215;((with_reducible refine (HN.out _ (HT.out.gr hg1 (by omega)).wid).mono ?_);rintro e w2 ⟨rfl,hb2⟩;have hr2:=rd_gr hr1 hb2;obtain⟨vv,hrw⟩:=rd_row hr2;obtain⟨r0,r1,r2,r3,r4,r5,r6,r7,r8⟩:=cells9 hrw;have fz:=frozen_all hrw 5;clear hrw r0 r1 r2 r3 r4 r6 r7 r8)))
  go_ret
  exact⟨rfl,rd_set hr2 5 _ (fun _=>rfl) rfl,gr_set (gr_trans hg1 (gr_below hb2)) 5 _⟩
end Go.Proofs.YtgljoilddjmohaaGreatDoor.L9
end
section
set_option maxRecDepth 100000
set_option maxHeartbeats 8000000
namespace Go.Proofs.YtgljoilddjmohaaGreatDoor.L9
open Go.RowKit
attribute [local go_sem] Oper.semAt_some
def fnK:Rk→Nat
 | .dst=>229
 | .sec=>230
 | .src=>231
 | .tgt=>232
 | .hlp=>233
 | .off=>234
 | .i32=>235
 | .i64=>236
 | .mpn=>237
def fnV (g:Nat) (k:Rk):Value:=.func (.func (fnK k)) #[.pointer (some ⟨g,0,none⟩)] #[]
def FnAt (w:World) (v:Value) (ks:List Rk) (g:Nat):Prop:=(∃ k0,v=.slice (some ⟨k0,0,none⟩) ks.length ks.length∧w.heap[k0]?=some (.cells (ks.map (fnV g)).toArray 269))∨(ks=[]∧v=.slice none 0 0)
def RowP (g:Nat) (f:Int) (w:World) (e:Ending) (w':World):Prop:=∃ v1 v2,e=.returned (.tuple #[v1,v2])∧L8.StAt w' v1 (shV f)∧FnAt w' v2 (ksV f) g∧Below w.heap.size w w'
theorem rowP_mk {g:Nat} {f:Int} {w w1:World} {a c:Array Value} {n m:Nat} (l:List ByteArray) (ks:List Rk) (hb:Below w.heap.size w w1) (h1:shV f=l) (h2:ksV f=ks) (h3:(L8.stC l).toArray=a) (h4:(ks.map (fnV g)).toArray=c) (h5:l.length=n) (h6:ks.length=m) :
  RowP g f w (.returned (.tuple #[.slice (some ⟨w1.heap.size,0,none⟩) n n,.slice (some ⟨w1.heap.size+1,0,none⟩) m m])) ((w1.alloc (.cells a 9)).alloc (.cells c 269)):=by
 subst h3 h4 h5 h6
 refine⟨_,_,rfl,?_,?_,L2.bch (L2.bch hb (L8.bnew _ _)) (L8.bnew _ _)⟩
 ·rw [h1];exact (st_new w1 l _).below (L8.bnew _ _)
 ·rw [h2]
  refine .inl ⟨w1.heap.size+1,rfl,?_⟩
  have:=heap_alloc_last (w1.alloc (.cells (L8.stC l).toArray 9)) (.cells (ks.map (fnV g)).toArray 269)
  simpa using this
theorem rowP_mk0 {g:Nat} {f:Int} {w w1:World} {a:Array Value} {n:Nat} (l:List ByteArray) (hb:Below w.heap.size w w1) (h1:shV f=l) (h2:ksV f=[]) (h3:(L8.stC l).toArray=a) (h5:l.length=n) :
  RowP g f w (.returned (.tuple #[.slice (some ⟨w1.heap.size,0,none⟩) n n,.slice none 0 0])) (w1.alloc (.cells a 9)):=by
 subst h3 h5
 exact⟨_,_,rfl,by rw [h1];exact st_new w1 l _,by rw [h2];exact .inr ⟨rfl,rfl⟩,L2.bch hb (L8.bnew _ _)⟩
theorem row_at (B g:Nat) (s:St) (w:World) (h:RdAt B g w s) (f:Int) (hf:L3.frm (L3.ix s.x.op)=f) (hf0:0≤f∧f≤11):Calls Tryz.prog 218 #[.pointer (some ⟨g,0,none⟩)] w fun e w'=>RowP g f w e w':=by
 have hmf:∀ (fn:Fn) (first cap:Array Value) (w:World),(Instr.makeFunc fn first cap).run Tryz.prog w=.ok (.func fn first cap) w:=fun _ _ _ _=>rfl
 obtain⟨vv,hr⟩:=rd_row h
 obtain⟨r0,r1,r2,r3,r4,r5,r6,r7,r8⟩:=cells9 hr
 have HF:=Lib.hid (fun w=>L4.form_at s.x.op f w hf)
 generalize s.x.op=op at r1 HF
 clear r0 r2 r3 r4 r5 r6 r7 r8 hr h hf
 have hfs:f=0∨f=1∨f=2∨f=3∨f=4∨f=5∨f=6∨f=7∨f=8∨f=9∨f=10∨f=11:=by omega
 clear hf0
 rcases hfs with rfl|rfl|rfl|rfl|rfl|rfl|rfl|rfl|rfl|rfl|rfl|rfl
 all_goals
  go_enter Tryz.func218,Tryz.ntmps218
  go_wp2_with (go_at_call 66;((with_reducible refine (HF.out _).mono ?_);rintro e w1 ⟨rfl,hb1⟩))
  go_ret2
 ·exact rowP_mk [sww,swmw] [.dst,.sec] hb1 rfl rfl rfl rfl rfl rfl
 ·exact rowP_mk [sw] [.dst] hb1 rfl rfl rfl rfl rfl rfl
 ·exact rowP_mk [sww] [.dst,.src] hb1 rfl rfl rfl rfl rfl rfl
 ·exact rowP_mk [sw] [.tgt] hb1 rfl rfl rfl rfl rfl rfl
 ·exact rowP_mk [swww,swmww] [.dst,.sec,.tgt] hb1 rfl rfl rfl rfl rfl rfl
 ·exact rowP_mk [sw] [.hlp] hb1 rfl rfl rfl rfl rfl rfl
 ·exact rowP_mk0 [eB] hb1 rfl rfl rfl rfl
 ·exact rowP_mk [swM0,swMp,swMm] [.dst,.src,.off] hb1 rfl rfl rfl rfl rfl rfl
 ·exact rowP_mk [sM0w,sMpw,sMmw,sM0mw,sMpmw,sMmmw] [.dst,.off,.i32] hb1 rfl rfl rfl rfl rfl rfl
 ·exact rowP_mk [sM0w,sMpw,sMmw] [.dst,.off,.src] hb1 rfl rfl rfl rfl rfl rfl
 ·exact rowP_mk [sww,swmw] [.dst,.i64] hb1 rfl rfl rfl rfl rfl rfl
 ·exact rowP_mk [sww] [.dst,.mpn] hb1 rfl rfl rfl rfl rfl rfl
def IdxP (l:List ByteArray) (t:ByteArray) (w:World) (e:Ending) (w':World):Prop:=∃ n:Int,e=.returned (.int .i64 n)∧decide (0≤n)=l.any (fun x=>decide (x=t))∧w=w'
theorem any_take (l:List ByteArray) (t:ByteArray) (j:Nat) (h:j<l.length):(l.take (j+1)).any (fun x=>decide (x=t))=((l.take j).any (fun x=>decide (x=t)) || decide (l[j]=t)):=by
 rw [L8.take_snoc l j h,List.any_append];simp
theorem any_of {l:List ByteArray} {t:ByteArray} {j:Nat} (h:j<l.length) (he:l[j]=t):l.any (fun x=>decide (x=t))=true:=by
 rw [List.any_eq_true];exact⟨l[j],List.getElem_mem _,by simpa using he⟩
theorem index_at (v:Value) (l:List ByteArray) (hl:l.length≤100) (t:ByteArray) (w:World) (hv:L8.StAt w v l):Calls Tryz.prog 238 #[v,.string t] w fun e w'=>IdxP l t w e w':=by
 rcases hv with ⟨b,o,cap,rfl,hb,hc⟩|⟨rfl,a,cap,rfl⟩
 ·obtain⟨n,hn⟩:∃ n,l.length=n:=⟨_,rfl⟩
  rw [hn] at hc hl ⊢
  have HN:=Lib.hid hn
  have HC:=Lib.hid hc
  clear hn hc
  go_enter Tryz.func238,Tryz.ntmps238
  go_wp2
  go_loop [8] (fun a=>∃ j:Nat,a=.int .i64 (j:Int)∧j≤n∧Hid ((l.take j).any (fun x=>decide (x=t))=false)) (fun a=>n-(intOf a).toNat)
  case atStart=>exact⟨0,rfl,Nat.zero_le _,Lib.hid rfl⟩
  case round =>
   obtain⟨j,rfl,hj,hA⟩:=hrel
   by_cases hlt:j<n
   ·have hjx:j<l.length:=by rw [HN.out];exact hlt
    have c0:=HC.out j hlt
    obtain⟨T,hT⟩:∃ T,l[j]=T:=⟨_,rfl⟩
    rw [show l.getD j ByteArray.empty=T by rw [← hT];simp [List.getD,List.getElem?_eq_getElem hjx]] at c0
    by_cases he:T=t
    ·have HF:=Lib.hid (any_of hjx (hT.trans he))
     have t1:=L2.txt_eq he.symm
     clear hT he
     go_wp2
     go_ret
     exact⟨_,rfl,by rw [HF.out];simp,rfl⟩
    ·have HF:=Lib.hid (show (l.take (j+1)).any (fun x=>decide (x=t))=false by rw [any_take l t j hjx,hA.out,hT];simpa using he)
     have t1:=L2.txt_ne (fun e=>he e.symm)
     clear hT he
     go_wp2
     go_round
     case rel=>exact⟨j+1,by go_num,by omega,HF⟩
     case measure=>simp [intOf];omega
   ·obtain rfl:j=n:=by omega
    have HF:=Lib.hid (show l.any (fun x=>decide (x=t))=false by rw [← hA.out,List.take_of_length_le (by rw [HN.out];exact Nat.le_refl _)])
    go_wp2
    go_ret
    exact⟨_,rfl,by rw [HF.out];rfl,rfl⟩
 ·go_enter Tryz.func238,Tryz.ntmps238
  go_wp2
  refine wp_loop_rounds 1 ?_
  rw [rounds_succ]
  go_wp2
  go_ret
  exact⟨_,rfl,rfl,rfl⟩
theorem contains_at (v:Value) (l:List ByteArray) (hl:l.length≤100) (t:ByteArray) (b:Bool) (w:World) (hv:L8.StAt w v l) (hb:l.any (fun x=>decide (x=t))=b):Calls Tryz.prog 219 #[v,.string t] w fun e w'=>e=.returned (.bool b)∧w=w':=by
 subst hb
 have HI:=Lib.hid (index_at v l hl t w hv)
 clear hv
 obtain⟨A,hA⟩:∃ A,l.any (fun x=>decide (x=t))=A:=⟨_,rfl⟩
 have HA:=Lib.hid hA
 rw [hA]
 clear hA
 go_enter Tryz.func219,Tryz.ntmps219
 go_wp2_with (go_at_call 238;((with_reducible refine (HI.out).mono ?_);rintro e w1 ⟨n,rfl,hn,rfl⟩;rw [HA.out] at hn;cases A))
 ·go_ret
  exact⟨rfl,rfl⟩
 ·go_ret
  exact⟨rfl,rfl⟩
theorem fnd_nm:∀ k,k<86→L3.fnd (L3.nm k) 86=((k:Int),true):=by decide +kernel
theorem fnd_no {s:ByteArray}:∀ n,(∀ k,k<n→L3.nm k≠s)→(L3.fnd s n).2=false
 | 0,_=>rfl
 | n+1,h=>by rw [L3.fnd,if_neg (h n (by omega))];exact fnd_no n fun k hk=>h k (by omega)
theorem fnd_fiV (s:ByteArray):(fiV s<0∧(L3.fnd s 86).2=false)∨(∃ k:Nat,k<86∧fiV s=(k:Int)∧L3.fnd s 86=((k:Int),true)):=by
 unfold fiV
 cases e:(List.range 86).find? (fun k=>decide (L3.nm k=s)) with
 | none =>
  refine .inl ⟨by decide,fnd_no 86 fun k hk he=>?_⟩
  rw [List.find?_eq_none] at e
  exact e k (by simpa using hk) (by simpa using he)
 | some k =>
  have hk:k<86:=by simpa using List.mem_of_find?_eq_some e
  have he:L3.nm k=s:=by simpa using List.find?_some e
  exact .inr ⟨k,hk,rfl,by rw [← he];exact fnd_nm k hk⟩
end Go.Proofs.YtgljoilddjmohaaGreatDoor.L9
end
section
set_option maxRecDepth 100000
set_option maxHeartbeats 2000000
namespace Go.Proofs.YtgljoilddjmohaaGreatDoor.L9
open Go.RowKit
attribute [local go_sem] Oper.semAt_some
abbrev codA (x:Ins) (tg mp:ByteArray):Array Value:=#[.int .i64 x.op,.bool x.reg,.int .i64 x.dst,.int .i64 x.src,.int .i64 x.off,.int .i64 x.imm,.string tg,.string mp]
structure Cod where
 x:Ins
 tg:ByteArray
 mp:ByteArray
def Cod.z:Cod:=⟨Ins.z,⟨#[]⟩,⟨#[]⟩⟩
def st0 (op:Int) (q:List ByteArray):St:=⟨q,⟨op,false,0,0,0,0⟩,⟨#[]⟩,⟨#[]⟩⟩
def inR (op:Int) (q:List ByteArray):Cod × Int :=
 let r:=runs (ksV (L3.frm (L3.ix op))) (st0 op q)
 if r.2≠0 then (Cod.z,r.2) else (⟨r.1.x,r.1.tg,r.1.mp⟩,0)
def inV (t:ByteArray) (q:List ByteArray):Cod × Int :=
 if fiV t<0 then (Cod.z,6)
 else if (shV (L3.frm (L3.ix (fiV t)))).any (fun x=>decide (x=shpB q))=false then (Cod.z,2)
 else inR (fiV t) q
theorem cells8 {w:World} {k:Nat} {a b c d e f g h:Value} {t:TypeId} (hh:w.heap[k]?=some (.cells #[a,b,c,d,e,f,g,h] t)) :
  w.cell? ⟨k,0,none⟩=some a∧w.cell? ⟨k,1,none⟩=some b∧w.cell? ⟨k,2,none⟩=some c∧w.cell? ⟨k,3,none⟩=some d∧w.cell? ⟨k,4,none⟩=some e∧w.cell? ⟨k,5,none⟩=some f∧w.cell? ⟨k,6,none⟩=some g∧w.cell? ⟨k,7,none⟩=some h:=by
 simp [World.cell?,hh]
abbrev codZ:Array Value:=#[.int .i64 0,.bool false,.int .i64 0,.int .i64 0,.int .i64 0,.int .i64 0,.string ⟨#[]⟩,.string ⟨#[]⟩]
theorem inst_no (t:ByteArray) (v:Value) (w:World) (hs:t.size≤maxLen) (h:fiV t<0) :
  Calls Tryz.prog 203 #[.string t,v] w fun e w'=>e=.returned (.tuple #[.agg codZ,.int .i64 6])∧Below w.heap.size w w':=by
 have hb:(L3.fnd t 86).2=false:=by
  rcases fnd_fiV t with ⟨_,hb⟩|⟨k,_,hk,_⟩
  ·exact hb
  ·omega
 obtain⟨n,hn⟩:∃ n,(L3.fnd t 86).1=n:=⟨_,rfl⟩
 have HF:=Lib.hid (fun w=>L3.find_at t hs n false w hn hb)
 clear hn hb h
 go_enter Tryz.func203,Tryz.ntmps203
 go_wp2_with (first|(go_at_call 217;((with_reducible refine (HF.out _).mono ?_);rintro e w1 ⟨rfl,b1⟩;have hS:=row_up (heap_alloc_last w (.cells codZ 185)) b1))|(refine wpList_store_row rfl _ _ _ rfl w.heap.size codZ rfl rfl 185 _ hS (by kernel_rfl) rfl (by simp [Value.oneCell']) ?_))
 have hR:=setRow_heap _ _ _ codZ _ _ hS
 obtain⟨q0,q1,q2,q3,q4,q5,q6,q7⟩:=cells8 hR
 exact bodyPost_ret (v:=.tuple #[.agg codZ,.int .i64 6]) (by simp [results,Tryz.results203,go_sem,q0,q1,q2,q3,q4,q5,q6,q7]) rfl ⟨rfl,below_setRow (L2.bch (L8.bnew w _) b1) (Nat.le_refl _) _⟩
theorem rd_new {w w1:World} {b o n cap:Nat} {xs:L8.Tks} (op:Int) (hb:b<w.heap.size) (hc:L8.Tksat w b o xs) (hn:xs.length=n) (hcp:n≤cap) (hm:n≤100000) (hz:∀ t∈txs xs,t.size≤100000) (h1:Below w.heap.size w w1) :
  RdAt w.heap.size w1.heap.size (w1.alloc (.cells #[.slice (some ⟨b,o,none⟩) n cap,.int .i64 op,.bool false,.int .i64 0,.int .i64 0,.int .i64 0,.int .i64 0,.string ⟨#[]⟩,.string ⟨#[]⟩] 264)) (st0 op (txs xs)) :=
 ⟨b,o,n,cap,xs,hb,h1.size,hcp,hn,hm,rfl,hz,hc.below hb (L2.bch h1 (L8.bnew _ _)),heap_alloc_last _ _⟩
theorem kin_f {t:ByteArray} (h:¬ fiV t<0):∃ k:Nat,k<86∧fiV t=(k:Int)∧(L3.fnd t 86).1=(k:Int)∧(L3.fnd t 86).2=true∧0≤L3.frm (L3.ix (fiV t))∧L3.frm (L3.ix (fiV t))≤11:=by
 rcases fnd_fiV t with ⟨h1,_⟩|⟨k,hk,e,hf⟩
 ·exact absurd h1 h
 ·have hx:L3.ix (fiV t)=k:=by rw [e];unfold L3.ix;rw [if_pos (by omega)];simp
  exact⟨k,hk,e,by rw [hf],by rw [hf],by rw [hx];exact frm_in k hk⟩
theorem sh_le (f:Int):(shV f).length≤100:=by
 unfold shV
 split <;> (try split) <;> (try split) <;> (try split) <;> (try split) <;> (try split) <;> (try split) <;> decide
theorem row_gr {w w':World} {k g:Nat} {cs:Array Value} {t:TypeId} (h:w.heap[k]?=some (.cells cs t)) (hg:w.grownBy w' (some g)) (hne:k≠g):w'.heap[k]?=some (.cells cs t):=(hg.block _ (lt_of_block h) (by simpa using hne)).trans h
theorem inst_bad (t:ByteArray) (b o n cap:Nat) (xs:L8.Tks) (w:World) (hs:t.size≤maxLen) (hb:b<w.heap.size) (hc:L8.Tksat w b o xs) (hn:xs.length=n) (hcp:n≤cap) (hm:n≤100000) (hz:∀ t∈txs xs,t.size≤100000) (hxt:∀ t∈L8.txt xs,L8.TokT t) (h:¬ fiV t<0) (hk:(shV (L3.frm (L3.ix (fiV t)))).any (fun x=>decide (x=shpB (txs xs)))=false) :
  Calls Tryz.prog 203 #[.string t,.slice (some ⟨b,o,none⟩) n cap] w fun e w'=>e=.returned (.tuple #[.agg codZ,.int .i64 2])∧Below w.heap.size w w':=by
 obtain⟨k,hk86,e,f1,f2,hf⟩:=kin_f h
 rw [e] at hk hf
 obtain⟨f,hfe⟩:∃ f,L3.frm (L3.ix (k:Int))=f:=⟨_,rfl⟩
 rw [hfe] at hk hf
 have HF:=Lib.hid (fun w=>L3.find_at t hs (k:Int) true w f1 f2)
 have HROW:=Lib.hid (fun (W:World) (g:Nat) (hr:RdAt w.heap.size g W (st0 (k:Int) (txs xs)))=>row_at w.heap.size g _ W hr f hfe hf)
 have HNEW:=Lib.hid (fun (w1:World) (h1:Below w.heap.size w w1)=>rd_new (k:Int) hb hc hn hcp hm hz h1)
 have HSH:=Lib.hid (fun (W:World) (hB:Below w.heap.size w W)=>L8.shape8 xs (.slice (some ⟨b,o,none⟩) n cap) W (by omega) hxt (.inl ⟨b,o,cap,by rw [hn],by omega,Nat.lt_of_lt_of_le hb hB.size,hc.below hb hB⟩))
 rw [shp_txs] at HSH
 have HCO:=Lib.hid (fun (W:World) (v:Value) (hv:L8.StAt W v (shV f))=>contains_at v (shV f) (sh_le f) (shpB (txs xs)) false W hv hk)
 clear hk hf hfe f1 f2 e h hxt hz hm hcp hn hc
 go_enter Tryz.func203,Tryz.ntmps203
 go_wp2_with (first
  | (go_at_call 217;((with_reducible refine (HF.out _).mono ?_);rintro e w1 ⟨rfl,b1⟩;have hS:=row_up (heap_alloc_last w (.cells codZ 185)) b1;have B1:=L2.bch (L8.bnew w _) b1))
  | (go_at_call 218;((with_reducible refine (HROW.out _ _ (HNEW.out _ B1)).mono ?_);rintro e w3 ⟨v1,v2,rfl,hst,hfn,b3⟩;have hS3:=row_up (row_up hS (L8.bnew w1 _)) b3;have B3:=L2.bch (L2.bch B1 (L8.bnew w1 _)) b3;clear hS hfn))
  | (go_at_call 200;((with_reducible refine (HSH.out _ B3).mono ?_);rintro e w4 ⟨rfl,b4⟩;have hS4:=row_up hS3 b4;have B4:=L2.bch B3 b4;have hst4:=hst.below b4;clear hst hS3))
  | (go_at_call 219;((with_reducible refine (HCO.out _ _ hst4).mono ?_);rintro e w5 ⟨rfl,rfl⟩))
  | (refine wpList_store_row rfl _ _ _ rfl w.heap.size codZ rfl rfl 185 _ hS4 (by kernel_rfl) rfl (by simp [Value.oneCell']) ?_))
 have hR:=setRow_heap _ _ _ codZ _ _ hS4
 obtain⟨q0,q1,q2,q3,q4,q5,q6,q7⟩:=cells8 hR
 exact bodyPost_ret (v:=.tuple #[.agg codZ,.int .i64 2]) (by simp [results,Tryz.results203,go_sem,q0,q1,q2,q3,q4,q5,q6,q7]) rfl ⟨rfl,below_setRow B4 (Nat.le_refl _) _⟩
end Go.Proofs.YtgljoilddjmohaaGreatDoor.L9
end
section
set_option maxRecDepth 100000
set_option maxHeartbeats 8000000
namespace Go.Proofs.YtgljoilddjmohaaGreatDoor.L9
open Go.RowKit
attribute [local go_sem] Oper.semAt_some
theorem stp_at (k:Rk) (B g:Nat) (s s':St) (x:Int) (w:World) (h:RdAt B g w s) (hk:okS k s=true) (hT:Tab w) (h2:2≤B) (hs:stp k s=(s',x)):Calls Tryz.prog (fnK k) #[.pointer (some ⟨g,0,none⟩)] w fun e w'=>e=.returned (.int .i64 x)∧RdAt B g w' s'∧w.grownBy w' (some g):=by
 have e1:(stp k s).2=x:=by rw [hs]
 have e2:(stp k s).1=s':=by rw [hs]
 have H:Calls Tryz.prog (fnK k) #[.pointer (some ⟨g,0,none⟩)] w fun e w'=>StpP B g k s w e w':=by
  cases k
  ·exact dst_at B g s w h hk hT h2
  ·exact sec_at B g s w h hk hT h2
  ·exact src_at B g s w h hk hT h2
  ·exact tgt_at B g s w h hk hT h2
  ·exact hlp_at B g s w h hk
  ·exact off_at B g s w h hk hT h2
  ·exact i32_at B g s w h hk hT h2
  ·exact i64_at B g s w h hk hT h2
  ·exact mpn_at B g s w h hk hT h2
 unfold StpP at H
 rw [e1,e2] at H
 exact H
def fin (p:St × Int):Cod × Int:=if p.2≠0 then (Cod.z,p.2) else (⟨p.1.x,p.1.tg,p.1.mp⟩,0)
theorem inR_fin (op:Int) (q:List ByteArray):inR op q=fin (runs (ksV (L3.frm (L3.ix op))) (st0 op q)):=rfl
theorem ks_le (f:Int):(ksV f).length≤3:=by
 unfold ksV
 split <;> (try split) <;> (try split) <;> (try split) <;> (try split) <;> (try split) <;> (try split) <;> (try split) <;> (try split) <;> (try split) <;> (try split) <;> decide
theorem fn_cell {w:World} {k0 g:Nat} {ks:List Rk} (h:w.heap[k0]?=some (.cells (ks.map (fnV g)).toArray 269)) (j:Nat) (hj:j<ks.length):w.cell? ⟨k0,j,none⟩=some (fnV g ks[j]):=by
 simp [World.cell?,h,hj]
theorem fn_form {w:World} {v:Value} {ks:List Rk} {g m:Nat} (h:FnAt w v ks g) (hm:ks.length=m):∃ a,v=.slice a m m∧(0<m→∃ k0,a=some ⟨k0,0,none⟩∧w.heap[k0]?=some (.cells (ks.map (fnV g)).toArray 269)):=by
 rcases h with ⟨k0,rfl,hh⟩|⟨rfl,rfl⟩
 ·exact⟨_,by rw [hm],fun _=>⟨k0,rfl,hh⟩⟩
 ·subst hm
  exact⟨none,rfl,fun h=>absurd h (by decide)⟩
theorem fn_ne {w:World} {k0 g:Nat} {a b:Array Value} (h1:w.heap[k0]?=some (.cells a 269)) (h2:w.heap[g]?=some (.cells b 264)):k0≠g:=by
 rintro rfl
 rw [h1] at h2
 injection h2 with h2
 injection h2 with _ h2
 exact absurd h2 (by decide)
theorem fin_err {ks:List Rk} {k:Rk} {s s':St} {x:Int} {R:Cod × Int} (hs:stp k s=(s',x)) (hx:¬ x=0) (h:fin (runs (k::ks) s)=R):R=(Cod.z,x):=by
 rw [← h,runs,hs,if_pos hx,fin,if_pos hx]
theorem fin_go {ks:List Rk} {k:Rk} {s s':St} {R:Cod × Int} (hs:stp k s=(s',0)) (h:fin (runs (k::ks) s)=R):fin (runs ks s')=R:=by
 rw [← h,runs,hs,if_neg (by simp)]
theorem ok_go {ks:List Rk} {k:Rk} {s s':St} (hs:stp k s=(s',0)) (h:OkR (k::ks) s):OkR ks s':=by
 have:=h.2
 rw [hs] at this
 exact this rfl
theorem inst_run (t:ByteArray) (b o n cap:Nat) (xs:L8.Tks) (w:World) (hT:Tab w) (hs:t.size≤maxLen) (hb:b<w.heap.size) (hc:L8.Tksat w b o xs) (hn:xs.length=n) (hcp:n≤cap) (hm:n≤100000) (hz:∀ t∈txs xs,t.size≤100000) (hxt:∀ t∈L8.txt xs,L8.TokT t) (h:¬ fiV t<0) (hk:(shV (L3.frm (L3.ix (fiV t)))).any (fun x=>decide (x=shpB (txs xs)))=true) (hok:OkR (ksV (L3.frm (L3.ix (fiV t)))) (st0 (fiV t) (txs xs))) (c:Cod) (er:Int) (hR:inR (fiV t) (txs xs)=(c,er)) :
  Calls Tryz.prog 203 #[.string t,.slice (some ⟨b,o,none⟩) n cap] w fun e w'=>e=.returned (.tuple #[.agg (codA c.x c.tg c.mp),.int .i64 er])∧Below w.heap.size w w':=by
 obtain⟨k,hk86,e,f1,f2,hf⟩:=kin_f h
 rw [inR_fin] at hR
 rw [e] at hk hf hok hR
 obtain⟨f,hfe⟩:∃ f,L3.frm (L3.ix (k:Int))=f:=⟨_,rfl⟩
 rw [hfe] at hk hf hok hR
 have hkl:=ks_le f
 have HF:=Lib.hid (fun w=>L3.find_at t hs (k:Int) true w f1 f2)
 have HROW:=Lib.hid (fun (W:World) (g:Nat) (hr:RdAt w.heap.size g W (st0 (k:Int) (txs xs)))=>row_at w.heap.size g _ W hr f hfe hf)
 have HNEW:=Lib.hid (fun (w1:World) (h1:Below w.heap.size w w1)=>rd_new (k:Int) hb hc hn hcp hm hz h1)
 have HSH:=Lib.hid (fun (W:World) (hB:Below w.heap.size w W)=>L8.shape8 xs (.slice (some ⟨b,o,none⟩) n cap) W (by omega) hxt (.inl ⟨b,o,cap,by rw [hn],by omega,Nat.lt_of_lt_of_le hb hB.size,hc.below hb hB⟩))
 rw [shp_txs] at HSH
 have HCO:=Lib.hid (fun (W:World) (v:Value) (hv:L8.StAt W v (shV f))=>contains_at v (shV f) (sh_le f) (shpB (txs xs)) true W hv hk)
 obtain⟨ks,hks⟩:∃ ks,ksV f=ks:=⟨_,rfl⟩
 rw [hks] at hok hR hkl
 obtain⟨m,hml⟩:∃ m,ks.length=m:=⟨_,rfl⟩
 rw [hml] at hkl
 have HM:=Lib.hid hml
 have HKS:=Lib.hid hks
 have HOK:=Lib.hid hok
 have HR:=Lib.hid hR
 have HT:=Lib.hid hT
 have h2:=hT.lt
 clear hk hf hfe f1 f2 e h hxt hz hm hcp hn hc hks hok hR hT hml
 go_enter Tryz.func203,Tryz.ntmps203
 go_wp2_with (first
  | (go_at_call 217;((with_reducible refine (HF.out _).mono ?_);rintro e w1 ⟨rfl,b1⟩;have hS:=row_up (heap_alloc_last w (.cells codZ 185)) b1;have B1:=L2.bch (L8.bnew w _) b1;have hlt1:w.heap.size<w1.heap.size:=Nat.lt_of_lt_of_le (by simp) b1.size))
  | (go_at_call 218;((with_reducible refine (HROW.out _ _ (HNEW.out _ B1)).mono ?_);rintro e w3 ⟨v1,v2,rfl,hst,hfn,b3⟩;rw [HKS.out] at hfn;obtain⟨a0,rfl,hfa⟩:=fn_form hfn HM.out;have HFA:=Lib.hid hfa;clear hfa hfn;have hS3:=row_up (row_up hS (L8.bnew w1 _)) b3;have B3:=L2.bch (L2.bch B1 (L8.bnew w1 _)) b3;have R3:=rd_gr (HNEW.out _ B1) b3;clear hS))
  | (go_at_call 200;((with_reducible refine (HSH.out _ B3).mono ?_);rintro e w4 ⟨rfl,b4⟩;have hS4:=row_up hS3 b4;have B4:=L2.bch B3 b4;have hst4:=hst.below b4;have R4:=rd_gr R3 b4;clear hst hS3 R3))
  | (go_at_call 219;((with_reducible refine (HCO.out _ _ hst4).mono ?_);rintro e w5 ⟨rfl,rfl⟩)))
 have HFB:=Lib.hid (fun h0:0<m=>(HFA.out h0).elim fun k0 hk=>(⟨k0,hk.1,row_up hk.2 b4⟩:∃ k0,a0=some ⟨k0,0,none⟩∧w4.heap[k0]?=some (.cells (ks.map (fnV w1.heap.size)).toArray 269)))
 have T4:=HT.out.below B4 h2
 clear HFA HROW HNEW HSH HCO HF hst4 b4 b3 b1 B1 B3
 generalize w1.heap.size=g at R4 hlt1 HFB ⊢
 go_loopw [41] (fun a wr=>∃ (j:Nat) (s:St),a=.int .i64 (j:Int)∧j≤m∧RdAt w.heap.size g wr s∧Hid (OkR (ks.drop j) s)∧Hid (fin (runs (ks.drop j) s)=(c,er))∧wr.heap[w.heap.size]?=some (.cells codZ 185)∧Hid (0<m→∃ k0,a0=some ⟨k0,0,none⟩∧wr.heap[k0]?=some (.cells (ks.map (fnV g)).toArray 269))∧Tab wr∧Below w.heap.size w wr) (fun a _=>m-(intOf a).toNat)
 case atStart=>exact⟨0,_,rfl,Nat.zero_le _,R4,HOK,HR,hS4,HFB,T4,B4⟩
 case round =>
  clear R4 HOK HR hS4 HFB T4 B4
  obtain⟨j,s,rfl,hj,hrd,hOk,hFin,hS,hFB,hTb,hB⟩:=hrel
  have hTT:=Lib.hid hTb
  clear hTb
  by_cases hlt:j<m
  ·obtain⟨k0,rfl,hfn⟩:=hFB.out (by omega)
   have hjx:j<ks.length:=by rw [HM.out];exact hlt
   have cf':=fn_cell hfn j hjx
   obtain⟨kd,hkd⟩:∃ kd,ks[j]=kd:=⟨_,rfl⟩
   have hd:ks.drop j=kd::ks.drop (j+1):=by rw [List.drop_eq_getElem_cons hjx,hkd]
   rw [hkd] at cf'
   have hok1:=hOk.out
   have hfin1:=hFin.out
   rw [hd] at hok1 hfin1
   obtain⟨s',x,hst⟩:∃ s' x,stp kd s=(s',x):=⟨_,_,rfl⟩
   have hC':=stp_at kd w.heap.size g s s' x wr hrd hok1.1 hTT.out h2 hst
   have hne:w.heap.size≠g:=by omega
   obtain⟨vv,hrow⟩:=rd_row hrd
   have hkg:=fn_ne hfn hrow
   by_cases hx0:x=0
   ·subst hx0
    have HOK2:=Lib.hid (ok_go hst hok1)
    have HFIN2:=Lib.hid (fin_go hst hfin1)
    have HFN:=Lib.hid hfn
    clear hst hok1 hfin1 hd hkd hrow hOk hFin hFB hfn
    cases kd
    ·have HC:Hid (Calls Tryz.prog 229 #[.pointer (some ⟨g,0,none⟩)] wr fun e w'=>e=.returned (.int .i64 0)∧RdAt w.heap.size g w' s'∧wr.grownBy w' (some g)):=Lib.hid hC'
     have cf:wr.cell? ⟨k0,j,none⟩=some (.func (.func 229) #[.pointer (some ⟨g,0,none⟩)] #[]):=cf'
     clear cf' hC'
     go_wp2_with (go_at_call 229;((with_reducible refine (HC.out).mono ?_);rintro e w5 ⟨rfl,hr5,hg5⟩;clear cf))
     go_roundw
     case rel=>exact⟨j+1,s',by go_num,by omega,hr5,HOK2,HFIN2,row_gr hS hg5 hne,Lib.hid (fun _=>⟨k0,rfl,row_gr HFN.out hg5 hkg⟩),hTT.out.gr hg5 (by omega),hB.grown hg5 hB.size (fun k hk=>by cases hk;omega)⟩
     case measure=>simp [intOf];omega
    ·have HC:Hid (Calls Tryz.prog 230 #[.pointer (some ⟨g,0,none⟩)] wr fun e w'=>e=.returned (.int .i64 0)∧RdAt w.heap.size g w' s'∧wr.grownBy w' (some g)):=Lib.hid hC'
     have cf:wr.cell? ⟨k0,j,none⟩=some (.func (.func 230) #[.pointer (some ⟨g,0,none⟩)] #[]):=cf'
     clear cf' hC'
     go_wp2_with (go_at_call 230;((with_reducible refine (HC.out).mono ?_);rintro e w5 ⟨rfl,hr5,hg5⟩;clear cf))
     go_roundw
     case rel=>exact⟨j+1,s',by go_num,by omega,hr5,HOK2,HFIN2,row_gr hS hg5 hne,Lib.hid (fun _=>⟨k0,rfl,row_gr HFN.out hg5 hkg⟩),hTT.out.gr hg5 (by omega),hB.grown hg5 hB.size (fun k hk=>by cases hk;omega)⟩
     case measure=>simp [intOf];omega
    ·have HC:Hid (Calls Tryz.prog 231 #[.pointer (some ⟨g,0,none⟩)] wr fun e w'=>e=.returned (.int .i64 0)∧RdAt w.heap.size g w' s'∧wr.grownBy w' (some g)):=Lib.hid hC'
     have cf:wr.cell? ⟨k0,j,none⟩=some (.func (.func 231) #[.pointer (some ⟨g,0,none⟩)] #[]):=cf'
     clear cf' hC'
     go_wp2_with (go_at_call 231;((with_reducible refine (HC.out).mono ?_);rintro e w5 ⟨rfl,hr5,hg5⟩;clear cf))
     go_roundw
     case rel=>exact⟨j+1,s',by go_num,by omega,hr5,HOK2,HFIN2,row_gr hS hg5 hne,Lib.hid (fun _=>⟨k0,rfl,row_gr HFN.out hg5 hkg⟩),hTT.out.gr hg5 (by omega),hB.grown hg5 hB.size (fun k hk=>by cases hk;omega)⟩
     case measure=>simp [intOf];omega
    ·have HC:Hid (Calls Tryz.prog 232 #[.pointer (some ⟨g,0,none⟩)] wr fun e w'=>e=.returned (.int .i64 0)∧RdAt w.heap.size g w' s'∧wr.grownBy w' (some g)):=Lib.hid hC'
     have cf:wr.cell? ⟨k0,j,none⟩=some (.func (.func 232) #[.pointer (some ⟨g,0,none⟩)] #[]):=cf'
     clear cf' hC'
     go_wp2_with (go_at_call 232;((with_reducible refine (HC.out).mono ?_);rintro e w5 ⟨rfl,hr5,hg5⟩;clear cf))
     go_roundw
     case rel=>exact⟨j+1,s',by go_num,by omega,hr5,HOK2,HFIN2,row_gr hS hg5 hne,Lib.hid (fun _=>⟨k0,rfl,row_gr HFN.out hg5 hkg⟩),hTT.out.gr hg5 (by omega),hB.grown hg5 hB.size (fun k hk=>by cases hk;omega)⟩
     case measure=>simp [intOf];omega
    ·have HC:Hid (Calls Tryz.prog 233 #[.pointer (some ⟨g,0,none⟩)] wr fun e w'=>e=.returned (.int .i64 0)∧RdAt w.heap.size g w' s'∧wr.grownBy w' (some g)):=Lib.hid hC'
     have cf:wr.cell? ⟨k0,j,none⟩=some (.func (.func 233) #[.pointer (some ⟨g,0,none⟩)] #[]):=cf'
     clear cf' hC'
     go_wp2_with (go_at_call 233;((with_reducible refine (HC.out).mono ?_);rintro e w5 ⟨rfl,hr5,hg5⟩;clear cf))
     go_roundw
     case rel=>exact⟨j+1,s',by go_num,by omega,hr5,HOK2,HFIN2,row_gr hS hg5 hne,Lib.hid (fun _=>⟨k0,rfl,row_gr HFN.out hg5 hkg⟩),hTT.out.gr hg5 (by omega),hB.grown hg5 hB.size (fun k hk=>by cases hk;omega)⟩
     case measure=>simp [intOf];omega
    ·have HC:Hid (Calls Tryz.prog 234 #[.pointer (some ⟨g,0,none⟩)] wr fun e w'=>e=.returned (.int .i64 0)∧RdAt w.heap.size g w' s'∧wr.grownBy w' (some g)):=Lib.hid hC'
     have cf:wr.cell? ⟨k0,j,none⟩=some (.func (.func 234) #[.pointer (some ⟨g,0,none⟩)] #[]):=cf'
     clear cf' hC'
     go_wp2_with (go_at_call 234;((with_reducible refine (HC.out).mono ?_);rintro e w5 ⟨rfl,hr5,hg5⟩;clear cf))
     go_roundw
     case rel=>exact⟨j+1,s',by go_num,by omega,hr5,HOK2,HFIN2,row_gr hS hg5 hne,Lib.hid (fun _=>⟨k0,rfl,row_gr HFN.out hg5 hkg⟩),hTT.out.gr hg5 (by omega),hB.grown hg5 hB.size (fun k hk=>by cases hk;omega)⟩
     case measure=>simp [intOf];omega
    ·have HC:Hid (Calls Tryz.prog 235 #[.pointer (some ⟨g,0,none⟩)] wr fun e w'=>e=.returned (.int .i64 0)∧RdAt w.heap.size g w' s'∧wr.grownBy w' (some g)):=Lib.hid hC'
     have cf:wr.cell? ⟨k0,j,none⟩=some (.func (.func 235) #[.pointer (some ⟨g,0,none⟩)] #[]):=cf'
     clear cf' hC'
     go_wp2_with (go_at_call 235;((with_reducible refine (HC.out).mono ?_);rintro e w5 ⟨rfl,hr5,hg5⟩;clear cf))
     go_roundw
     case rel=>exact⟨j+1,s',by go_num,by omega,hr5,HOK2,HFIN2,row_gr hS hg5 hne,Lib.hid (fun _=>⟨k0,rfl,row_gr HFN.out hg5 hkg⟩),hTT.out.gr hg5 (by omega),hB.grown hg5 hB.size (fun k hk=>by cases hk;omega)⟩
     case measure=>simp [intOf];omega
    ·have HC:Hid (Calls Tryz.prog 236 #[.pointer (some ⟨g,0,none⟩)] wr fun e w'=>e=.returned (.int .i64 0)∧RdAt w.heap.size g w' s'∧wr.grownBy w' (some g)):=Lib.hid hC'
     have cf:wr.cell? ⟨k0,j,none⟩=some (.func (.func 236) #[.pointer (some ⟨g,0,none⟩)] #[]):=cf'
     clear cf' hC'
     go_wp2_with (go_at_call 236;((with_reducible refine (HC.out).mono ?_);rintro e w5 ⟨rfl,hr5,hg5⟩;clear cf))
     go_roundw
     case rel=>exact⟨j+1,s',by go_num,by omega,hr5,HOK2,HFIN2,row_gr hS hg5 hne,Lib.hid (fun _=>⟨k0,rfl,row_gr HFN.out hg5 hkg⟩),hTT.out.gr hg5 (by omega),hB.grown hg5 hB.size (fun k hk=>by cases hk;omega)⟩
     case measure=>simp [intOf];omega
    ·have HC:Hid (Calls Tryz.prog 237 #[.pointer (some ⟨g,0,none⟩)] wr fun e w'=>e=.returned (.int .i64 0)∧RdAt w.heap.size g w' s'∧wr.grownBy w' (some g)):=Lib.hid hC'
     have cf:wr.cell? ⟨k0,j,none⟩=some (.func (.func 237) #[.pointer (some ⟨g,0,none⟩)] #[]):=cf'
     clear cf' hC'
     go_wp2_with (go_at_call 237;((with_reducible refine (HC.out).mono ?_);rintro e w5 ⟨rfl,hr5,hg5⟩;clear cf))
     go_roundw
     case rel=>exact⟨j+1,s',by go_num,by omega,hr5,HOK2,HFIN2,row_gr hS hg5 hne,Lib.hid (fun _=>⟨k0,rfl,row_gr HFN.out hg5 hkg⟩),hTT.out.gr hg5 (by omega),hB.grown hg5 hB.size (fun k hk=>by cases hk;omega)⟩
     case measure=>simp [intOf];omega
   ·obtain⟨rfl,rfl⟩:c=Cod.z∧er=x:=by
     have:=fin_err hst hx0 hfin1
     cases this;exact⟨rfl,rfl⟩
    clear hst hok1 hfin1 hd hkd hrow hOk hFin hFB hfn
    cases kd
    ·have HC:Hid (Calls Tryz.prog 229 #[.pointer (some ⟨g,0,none⟩)] wr fun e w'=>e=.returned (.int .i64 er)∧RdAt w.heap.size g w' s'∧wr.grownBy w' (some g)):=Lib.hid hC'
     have cf:wr.cell? ⟨k0,j,none⟩=some (.func (.func 229) #[.pointer (some ⟨g,0,none⟩)] #[]):=cf'
     clear cf' hC'
     go_wp2_with (first|(go_at_call 229;((with_reducible refine (HC.out).mono ?_);rintro e w5 ⟨rfl,hr5,hg5⟩;clear cf;have hS5:=row_gr hS hg5 hne))|(refine wpList_store_row rfl _ _ _ rfl w.heap.size codZ rfl rfl 185 _ hS5 (by kernel_rfl) rfl (by simp [Value.oneCell']) ?_))
     have hR:=setRow_heap _ _ _ codZ _ _ hS5
     obtain⟨q0,q1,q2,q3,q4,q5,q6,q7⟩:=cells8 hR
     exact bodyPost_ret (v:=.tuple #[.agg codZ,.int .i64 er]) (by simp [results,Tryz.results203,go_sem,q0,q1,q2,q3,q4,q5,q6,q7]) rfl ⟨rfl,below_setRow (hB.grown hg5 hB.size (fun k hk=>by cases hk;omega)) (Nat.le_refl _) _⟩
    ·have HC:Hid (Calls Tryz.prog 230 #[.pointer (some ⟨g,0,none⟩)] wr fun e w'=>e=.returned (.int .i64 er)∧RdAt w.heap.size g w' s'∧wr.grownBy w' (some g)):=Lib.hid hC'
     have cf:wr.cell? ⟨k0,j,none⟩=some (.func (.func 230) #[.pointer (some ⟨g,0,none⟩)] #[]):=cf'
     clear cf' hC'
     go_wp2_with (first|(go_at_call 230;((with_reducible refine (HC.out).mono ?_);rintro e w5 ⟨rfl,hr5,hg5⟩;clear cf;have hS5:=row_gr hS hg5 hne))|(refine wpList_store_row rfl _ _ _ rfl w.heap.size codZ rfl rfl 185 _ hS5 (by kernel_rfl) rfl (by simp [Value.oneCell']) ?_))
     have hR:=setRow_heap _ _ _ codZ _ _ hS5
     obtain⟨q0,q1,q2,q3,q4,q5,q6,q7⟩:=cells8 hR
     exact bodyPost_ret (v:=.tuple #[.agg codZ,.int .i64 er]) (by simp [results,Tryz.results203,go_sem,q0,q1,q2,q3,q4,q5,q6,q7]) rfl ⟨rfl,below_setRow (hB.grown hg5 hB.size (fun k hk=>by cases hk;omega)) (Nat.le_refl _) _⟩
    ·have HC:Hid (Calls Tryz.prog 231 #[.pointer (some ⟨g,0,none⟩)] wr fun e w'=>e=.returned (.int .i64 er)∧RdAt w.heap.size g w' s'∧wr.grownBy w' (some g)):=Lib.hid hC'
     have cf:wr.cell? ⟨k0,j,none⟩=some (.func (.func 231) #[.pointer (some ⟨g,0,none⟩)] #[]):=cf'
     clear cf' hC'
     go_wp2_with (first|(go_at_call 231;((with_reducible refine (HC.out).mono ?_);rintro e w5 ⟨rfl,hr5,hg5⟩;clear cf;have hS5:=row_gr hS hg5 hne))|(refine wpList_store_row rfl _ _ _ rfl w.heap.size codZ rfl rfl 185 _ hS5 (by kernel_rfl) rfl (by simp [Value.oneCell']) ?_))
     have hR:=setRow_heap _ _ _ codZ _ _ hS5
     obtain⟨q0,q1,q2,q3,q4,q5,q6,q7⟩:=cells8 hR
     exact bodyPost_ret (v:=.tuple #[.agg codZ,.int .i64 er]) (by simp [results,Tryz.results203,go_sem,q0,q1,q2,q3,q4,q5,q6,q7]) rfl ⟨rfl,below_setRow (hB.grown hg5 hB.size (fun k hk=>by cases hk;omega)) (Nat.le_refl _) _⟩
    ·have HC:Hid (Calls Tryz.prog 232 #[.pointer (some ⟨g,0,none⟩)] wr fun e w'=>e=.returned (.int .i64 er)∧RdAt w.heap.size g w' s'∧wr.grownBy w' (some g)):=Lib.hid hC'
     have cf:wr.cell? ⟨k0,j,none⟩=some (.func (.func 232) #[.pointer (some ⟨g,0,none⟩)] #[]):=cf'
     clear cf' hC'
     go_wp2_with (first|(go_at_call 232;((with_reducible refine (HC.out).mono ?_);rintro e w5 ⟨rfl,hr5,hg5⟩;clear cf;have hS5:=row_gr hS hg5 hne))|(refine wpList_store_row rfl _ _ _ rfl w.heap.size codZ rfl rfl 185 _ hS5 (by kernel_rfl) rfl (by simp [Value.oneCell']) ?_))
     have hR:=setRow_heap _ _ _ codZ _ _ hS5
     obtain⟨q0,q1,q2,q3,q4,q5,q6,q7⟩:=cells8 hR
     exact bodyPost_ret (v:=.tuple #[.agg codZ,.int .i64 er]) (by simp [results,Tryz.results203,go_sem,q0,q1,q2,q3,q4,q5,q6,q7]) rfl ⟨rfl,below_setRow (hB.grown hg5 hB.size (fun k hk=>by cases hk;omega)) (Nat.le_refl _) _⟩
    ·have HC:Hid (Calls Tryz.prog 233 #[.pointer (some ⟨g,0,none⟩)] wr fun e w'=>e=.returned (.int .i64 er)∧RdAt w.heap.size g w' s'∧wr.grownBy w' (some g)):=Lib.hid hC'
     have cf:wr.cell? ⟨k0,j,none⟩=some (.func (.func 233) #[.pointer (some ⟨g,0,none⟩)] #[]):=cf'
     clear cf' hC'
     go_wp2_with (first|(go_at_call 233;((with_reducible refine (HC.out).mono ?_);rintro e w5 ⟨rfl,hr5,hg5⟩;clear cf;have hS5:=row_gr hS hg5 hne))|(refine wpList_store_row rfl _ _ _ rfl w.heap.size codZ rfl rfl 185 _ hS5 (by kernel_rfl) rfl (by simp [Value.oneCell']) ?_))
     have hR:=setRow_heap _ _ _ codZ _ _ hS5
     obtain⟨q0,q1,q2,q3,q4,q5,q6,q7⟩:=cells8 hR
     exact bodyPost_ret (v:=.tuple #[.agg codZ,.int .i64 er]) (by simp [results,Tryz.results203,go_sem,q0,q1,q2,q3,q4,q5,q6,q7]) rfl ⟨rfl,below_setRow (hB.grown hg5 hB.size (fun k hk=>by cases hk;omega)) (Nat.le_refl _) _⟩
    ·have HC:Hid (Calls Tryz.prog 234 #[.pointer (some ⟨g,0,none⟩)] wr fun e w'=>e=.returned (.int .i64 er)∧RdAt w.heap.size g w' s'∧wr.grownBy w' (some g)):=Lib.hid hC'
     have cf:wr.cell? ⟨k0,j,none⟩=some (.func (.func 234) #[.pointer (some ⟨g,0,none⟩)] #[]):=cf'
     clear cf' hC'
     go_wp2_with (first|(go_at_call 234;((with_reducible refine (HC.out).mono ?_);rintro e w5 ⟨rfl,hr5,hg5⟩;clear cf;have hS5:=row_gr hS hg5 hne))|(refine wpList_store_row rfl _ _ _ rfl w.heap.size codZ rfl rfl 185 _ hS5 (by kernel_rfl) rfl (by simp [Value.oneCell']) ?_))
     have hR:=setRow_heap _ _ _ codZ _ _ hS5
     obtain⟨q0,q1,q2,q3,q4,q5,q6,q7⟩:=cells8 hR
     exact bodyPost_ret (v:=.tuple #[.agg codZ,.int .i64 er]) (by simp [results,Tryz.results203,go_sem,q0,q1,q2,q3,q4,q5,q6,q7]) rfl ⟨rfl,below_setRow (hB.grown hg5 hB.size (fun k hk=>by cases hk;omega)) (Nat.le_refl _) _⟩
    ·have HC:Hid (Calls Tryz.prog 235 #[.pointer (some ⟨g,0,none⟩)] wr fun e w'=>e=.returned (.int .i64 er)∧RdAt w.heap.size g w' s'∧wr.grownBy w' (some g)):=Lib.hid hC'
     have cf:wr.cell? ⟨k0,j,none⟩=some (.func (.func 235) #[.pointer (some ⟨g,0,none⟩)] #[]):=cf'
     clear cf' hC'
     go_wp2_with (first|(go_at_call 235;((with_reducible refine (HC.out).mono ?_);rintro e w5 ⟨rfl,hr5,hg5⟩;clear cf;have hS5:=row_gr hS hg5 hne))|(refine wpList_store_row rfl _ _ _ rfl w.heap.size codZ rfl rfl 185 _ hS5 (by kernel_rfl) rfl (by simp [Value.oneCell']) ?_))
     have hR:=setRow_heap _ _ _ codZ _ _ hS5
     obtain⟨q0,q1,q2,q3,q4,q5,q6,q7⟩:=cells8 hR
     exact bodyPost_ret (v:=.tuple #[.agg codZ,.int .i64 er]) (by simp [results,Tryz.results203,go_sem,q0,q1,q2,q3,q4,q5,q6,q7]) rfl ⟨rfl,below_setRow (hB.grown hg5 hB.size (fun k hk=>by cases hk;omega)) (Nat.le_refl _) _⟩
    ·have HC:Hid (Calls Tryz.prog 236 #[.pointer (some ⟨g,0,none⟩)] wr fun e w'=>e=.returned (.int .i64 er)∧RdAt w.heap.size g w' s'∧wr.grownBy w' (some g)):=Lib.hid hC'
     have cf:wr.cell? ⟨k0,j,none⟩=some (.func (.func 236) #[.pointer (some ⟨g,0,none⟩)] #[]):=cf'
     clear cf' hC'
     go_wp2_with (first|(go_at_call 236;((with_reducible refine (HC.out).mono ?_);rintro e w5 ⟨rfl,hr5,hg5⟩;clear cf;have hS5:=row_gr hS hg5 hne))|(refine wpList_store_row rfl _ _ _ rfl w.heap.size codZ rfl rfl 185 _ hS5 (by kernel_rfl) rfl (by simp [Value.oneCell']) ?_))
     have hR:=setRow_heap _ _ _ codZ _ _ hS5
     obtain⟨q0,q1,q2,q3,q4,q5,q6,q7⟩:=cells8 hR
     exact bodyPost_ret (v:=.tuple #[.agg codZ,.int .i64 er]) (by simp [results,Tryz.results203,go_sem,q0,q1,q2,q3,q4,q5,q6,q7]) rfl ⟨rfl,below_setRow (hB.grown hg5 hB.size (fun k hk=>by cases hk;omega)) (Nat.le_refl _) _⟩
    ·have HC:Hid (Calls Tryz.prog 237 #[.pointer (some ⟨g,0,none⟩)] wr fun e w'=>e=.returned (.int .i64 er)∧RdAt w.heap.size g w' s'∧wr.grownBy w' (some g)):=Lib.hid hC'
     have cf:wr.cell? ⟨k0,j,none⟩=some (.func (.func 237) #[.pointer (some ⟨g,0,none⟩)] #[]):=cf'
     clear cf' hC'
     go_wp2_with (first|(go_at_call 237;((with_reducible refine (HC.out).mono ?_);rintro e w5 ⟨rfl,hr5,hg5⟩;clear cf;have hS5:=row_gr hS hg5 hne))|(refine wpList_store_row rfl _ _ _ rfl w.heap.size codZ rfl rfl 185 _ hS5 (by kernel_rfl) rfl (by simp [Value.oneCell']) ?_))
     have hR:=setRow_heap _ _ _ codZ _ _ hS5
     obtain⟨q0,q1,q2,q3,q4,q5,q6,q7⟩:=cells8 hR
     exact bodyPost_ret (v:=.tuple #[.agg codZ,.int .i64 er]) (by simp [results,Tryz.results203,go_sem,q0,q1,q2,q3,q4,q5,q6,q7]) rfl ⟨rfl,below_setRow (hB.grown hg5 hB.size (fun k hk=>by cases hk;omega)) (Nat.le_refl _) _⟩
  ·obtain rfl:j=m:=by omega
   have hfin1:=hFin.out
   rw [List.drop_eq_nil_of_le (by rw [HM.out];exact Nat.le_refl _)] at hfin1
   obtain⟨rfl,rfl⟩:c=⟨s.x,s.tg,s.mp⟩∧er=0:=by
    have e:fin (runs [] s)=(⟨s.x,s.tg,s.mp⟩,0):=rfl
    rw [e] at hfin1
    cases hfin1;exact⟨rfl,rfl⟩
   clear hfin1 hOk hFin hFB
   obtain⟨vv,hrow⟩:=rd_row hrd
   obtain⟨r0,r1,r2,r3,r4,r5,r6,r7,r8⟩:=cells9 hrow
   clear hrow r0
   go_wp2_with (refine wpList_store_row rfl _ _ _ rfl w.heap.size (codA s.x s.tg s.mp) rfl rfl 185 _ hS (by kernel_rfl) rfl (by simp [Value.oneCell']) ?_)
   have hR:=setRow_heap _ _ _ (codA s.x s.tg s.mp) _ _ hS
   obtain⟨q0,q1,q2,q3,q4,q5,q6,q7⟩:=cells8 hR
   exact bodyPost_ret (v:=.tuple #[.agg (codA s.x s.tg s.mp),.int .i64 0]) (by simp [results,Tryz.results203,go_sem,q0,q1,q2,q3,q4,q5,q6,q7]) rfl ⟨rfl,below_setRow hB (Nat.le_refl _) _⟩
end Go.Proofs.YtgljoilddjmohaaGreatDoor.L9
end
