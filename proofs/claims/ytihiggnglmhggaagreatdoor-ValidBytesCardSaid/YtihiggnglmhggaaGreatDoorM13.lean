/- Lemmas and walks of L10Sml, L10Cks, L10Ea, L10Cn: what each theorem states; conditions stand in each theorem. -/
import Derived.Test.YtihiggnglmhggaaGreatDoorM12
import Derived.Shelf.Abstract
set_option maxHeartbeats 4000000
set_option maxRecDepth 100000
section
namespace Go.Proofs.YtihiggnglmhggaaGreatDoor.L10
open Go.RowKit Go.Maps
attribute [local go_sem] Oper.semAt_some
theorem cells4 {w:World} {k:Nat} {a b c d:Value} {t:TypeId} (h:w.heap[k]?=some (.cells #[a,b,c,d] t)):w.cell? ⟨k,0,none⟩=some a∧w.cell? ⟨k,1,none⟩=some b∧w.cell? ⟨k,2,none⟩=some c∧w.cell? ⟨k,3,none⟩=some d:=by
 simp [World.cell?,h]
theorem cells9 {w:World} {k:Nat} {a b c d e f g i j:Value} {t:TypeId} (hh:w.heap[k]?=some (.cells #[a,b,c,d,e,f,g,i,j] t)) :
  w.cell? ⟨k,0,none⟩=some a∧w.cell? ⟨k,1,none⟩=some b∧w.cell? ⟨k,2,none⟩=some c∧w.cell? ⟨k,3,none⟩=some d∧w.cell? ⟨k,4,none⟩=some e∧w.cell? ⟨k,5,none⟩=some f∧w.cell? ⟨k,6,none⟩=some g∧w.cell? ⟨k,7,none⟩=some i∧w.cell? ⟨k,8,none⟩=some j:=by
 simp [World.cell?,hh]
theorem unless_at (b:Bool) (e r:Int) (w:World) (h:(if b then 0 else e)=r):Calls Tryz.prog 210 #[.bool b,.int .i64 e] w fun en w'=>en=.returned (.int .i64 r)∧w=w':=by
 subst h
 cases b
 all_goals
  go_enter Tryz.func210,Tryz.ntmps210
  go_wp2
  go_ret
  exact⟨rfl,rfl⟩
theorem upto_at (g n:Int) (b:Bool) (w:World) (h:upB g n=b):Calls Tryz.prog 226 #[.int .i64 g,.int .i64 n] w fun e w'=>e=.returned (.bool b)∧w=w':=by
 subst h
 unfold upB
 go_enter Tryz.func226,Tryz.ntmps226
 go_wp2
 all_goals
  go_ret
  exact⟨L2.ret_bool (by simp;try omega),rfl⟩
theorem checkDef_at (d:L9.Df) (r:Int) (w:World) (hT:L2.Regs w) (h:deE d=r):Calls Tryz.prog 205 #[.agg #[.string d.nm,.int .i64 d.key,.int .i64 d.val,.int .i64 d.ent]] w fun e w'=>e=.returned (.int .i64 r)∧Below w.heap.size w w':=by
 obtain⟨nm,key,val,ent⟩:=d
 unfold deE at h
 simp only at h ⊢
 obtain⟨v,hv⟩:∃ v,L2.vd nm=v:=⟨_,rfl⟩
 obtain⟨p,hp⟩:∃ v,upB 64 key=v:=⟨_,rfl⟩
 obtain⟨q,hq⟩:∃ v,upB 256 val=v:=⟨_,rfl⟩
 obtain⟨u,hu⟩:∃ v,upB 1024 ent=v:=⟨_,rfl⟩
 rw [hv,hp,hq,hu] at h
 subst h
 have HV:=Lib.hid (fun (W:World) (hb:Below w.heap.size w W)=>L2.valid_at nm v W (hT.below hb) hv)
 have HP:=Lib.hid (fun W=>upto_at 64 key p W hp)
 have HQ:=Lib.hid (fun W=>upto_at 256 val q W hq)
 have HU:=Lib.hid (fun W=>upto_at 1024 ent u W hu)
 have HN:=Lib.hid (fun W=>unless_at ((p && q) && u) 9 _ W rfl)
 clear hv hp hq hu hT
 cases v
 ·go_enter Tryz.func205,Tryz.ntmps205
  go_wp2_with (go_at_call 225;((with_reducible refine (HV.out _ (L8.bnew _ _)).mono ?_);rintro e w1 ⟨rfl,b1⟩))
  go_ret
  exact⟨rfl,L2.bch (L8.bnew _ _) b1⟩
 ·cases p <;> cases q <;> cases u
  all_goals
   simp only [Bool.and_self,Bool.and_false,Bool.and_true,if_true,if_false,Bool.false_eq_true] at HN ⊢
   go_enter Tryz.func205,Tryz.ntmps205
   go_wp2_with (first|(go_at_call 225;((with_reducible refine (HV.out _ (L8.bnew _ _)).mono ?_);rintro e w1 ⟨rfl,b1⟩;obtain⟨x0,x1,x2,x3⟩:=cells4 (L8.row_up (heap_alloc_last w _) b1)))|(go_at_call 226;((with_reducible refine (HP.out _).mono ?_);rintro e w2 ⟨rfl,rfl⟩))|(go_at_call 226;((with_reducible refine (HQ.out _).mono ?_);rintro e w2 ⟨rfl,rfl⟩))|(go_at_call 226;((with_reducible refine (HU.out _).mono ?_);rintro e w2 ⟨rfl,rfl⟩))|(go_at_call 210;((with_reducible refine (HN.out _).mono ?_);rintro e w2 ⟨rfl,rfl⟩)))
   go_ret
   exact⟨rfl,L2.bch (L8.bnew _ _) b1⟩
theorem key_of {x:ByteArray} (h:x.size≤maxLen):keyOf Tryz.prog 9 (.string x)=some (L2.txt x):=WideMaps.keyOf_string_mk Tryz.underlying9 h
theorem map_cells {w:World} {g:Nat} {ks:List ByteArray} (h:SetAt w g ks):∀ cs t fr,w.heap[g]?≠some (.cells cs t fr):=by
 intro cs t fr e
 obtain⟨_,_,hh,_⟩:=h
 rw [e] at hh
 cases hh
theorem addB_none (ks:List ByteArray):addB ks []=true:=rfl
structure AddI (g:Nat) (ks labs:List ByteArray) (w:World) (j:Nat) (W:World):Prop where
 set:SetAt W g (ks++labs.take j)
 gr:w.grownBy W (some g)
 res:addB (ks++labs.take j) (labs.drop j)=addB ks labs
theorem add_step (ks labs:List ByteArray) (j:Nat) (h:j<labs.length):addB (ks++labs.take j) (labs.drop j)=if L2.on (ks++labs.take j) labs[j] then false else addB (ks++labs.take (j+1)) (labs.drop (j+1)):=by
 rw [List.drop_eq_getElem_cons h,addB,List.take_add_one,List.getElem?_eq_getElem h,Option.toList,List.append_assoc]
theorem add_end (ks labs:List ByteArray) (j:Nat) (h:labs.length≤j):addB (ks++labs.take j) (labs.drop j)=true:=by
 rw [List.drop_eq_nil_of_le h];rfl
theorem add_some (b o n cap g:Nat) (ks labs:List ByteArray) (w:World) (hn:labs.length=n) (hm:ks.length+n≤100000) (hs:SetAt w g ks) (hz:∀ t∈labs,t.size≤maxLen)
  (hc:∀ j,j<n→w.cell? ⟨b,o+j,none⟩=some (.string (labs.getD j ByteArray.empty))) (hbg:b≠g) (r:Bool) (hr:addB ks labs=r) :
  Calls Tryz.prog 212 #[.map (some g),.slice (some ⟨b,o,none⟩) n cap] w fun e w'=>e=.returned (.bool r)∧w.grownBy w' (some g)∧(r=true→SetAt w' g (ks++labs)):=by
 subst hr
 have HC:=Lib.hid hc
 have HZ:=Lib.hid hz
 have HN:=Lib.hid hn
 have HI:Hid (AddI g ks labs w 0 w):=Lib.hid ⟨by simpa using hs,⟨rfl,rfl,rfl,Nat.le_refl _,fun _ _ _=>rfl⟩,by simp⟩
 clear hc hz hn hs
 go_enter Tryz.func212,Tryz.ntmps212
 go_wp2
 go_loopw [9] (fun i wr=>∃ j:Nat,j≤n∧i=.int .i64 (j:Int)∧AddI g ks labs w j wr) (fun i _=>n-(intOf i).toNat)
 case atStart=>exact⟨0,Nat.zero_le _,rfl,HI.out⟩
 case round =>
  obtain⟨j,hj,rfl,hI⟩:=hrel
  by_cases hlt:j<n
  ·have hjl:j<labs.length:=by rw [HN.out];exact hlt
   obtain⟨x,hx⟩:∃ x,labs[j]=x:=⟨_,rfl⟩
   have hcx:wr.cell? ⟨b,o+j,none⟩=some (.string x):=hI.gr.cell (by rw [HC.out j hlt,List.getD,List.getElem?_eq_getElem hjl,hx];rfl) (by simpa using hbg)
   have hkey:=key_of (HZ.out labs[j] (List.getElem_mem hjl))
   rw [hx] at hkey
   have hown:=hI.set
   have hlen:(ks++labs.take j).length=ks.length+j:=by rw [List.length_append,List.length_take];omega
   have hat:=Sl_at (ks++labs.take j) x
   have hres:=hI.res
   rw [add_step ks labs j hjl,hx] at hres
   obtain⟨c,hcc⟩:∃ c,L2.on (ks++labs.take j) x=c:=⟨_,rfl⟩
   rw [hcc] at hat hres
   have hsn:ks++labs.take (j+1)=(ks++labs.take j)++[x]:=by rw [List.take_add_one,List.getElem?_eq_getElem hjl,hx,Option.toList,List.append_assoc]
   have HS:=Lib.hid hsn
   have HG:=Lib.hid hI.gr
   obtain⟨K,hK⟩:∃ K,ks++labs.take j=K:=⟨_,rfl⟩
   unfold SetAt at hown
   rw [hK] at hown hat HS hlen
   rw [hlen] at hown
   have HL:=Lib.hid hlen
   clear hI hx hcc hsn hK hlen
   cases c
   ·have HR:=Lib.hid hres
    clear hres
    go_wp2_with (first
     | (at_lookup;refine L2.wpList_look_bool _ rfl _ _ 252 rfl 9 4 L2.law9 Tryz.underlying252 Tryz.underlying4 (by kernel_rfl) g _ _ rfl hown _ _ rfl hkey false hat ?_)
     | (at_mapUpdate;refine wpList_mapUpdate_own _ rfl _ _ _ 252 rfl 9 4 L2.law9 Tryz.underlying252 (plainElem (H:=Unit) Tryz.prog 4) g _ _ rfl hown (by unfold maxLen;omega) _ _ _ rfl rfl hkey _ [] (plainElem_bool Tryz.underlying4 true) ?_;intro w1 hown1 hgrow1)
     | go_in)
    go_roundw
    case rel =>
     refine⟨j+1,by omega,by go_num,?_,⟨hgrow1.os.trans HG.out.os,hgrow1.tape.trans HG.out.tape,hgrow1.output.trans HG.out.output,Nat.le_trans HG.out.size hgrow1.size,fun k hk hkg=>(hgrow1.block k (Nat.lt_of_lt_of_le hk HG.out.size) hkg).trans (HG.out.block k hk hkg)⟩,?_⟩
     ·unfold SetAt
      rw [HS.out,Sl_snoc,List.length_append,HL.out]
      exact hown1
     ·simpa using HR.out
    case measure=>simp [intOf];omega
   ·have HR:=Lib.hid hres
    clear hres
    go_wp2_with (first
     | (at_lookup;refine L2.wpList_look_bool _ rfl _ _ 252 rfl 9 4 L2.law9 Tryz.underlying252 Tryz.underlying4 (by kernel_rfl) g _ _ rfl hown _ _ rfl hkey true hat ?_)
     | go_in)
    go_ret
    rw [← HR.out]
    exact⟨rfl,HG.out,fun h=>by simp at h⟩
  ·obtain rfl:j=n:=by omega
   have HI2:=Lib.hid hI
   clear hI
   go_wp2
   go_ret
   have hI:=HI2.out
   have hr:=hI.res
   have hs:=hI.set
   rw [add_end ks labs _ (by rw [HN.out];exact Nat.le_refl _)] at hr
   rw [List.take_of_length_le (by rw [HN.out];exact Nat.le_refl _)] at hs
   rw [← hr]
   exact⟨rfl,hI.gr,fun _=>hs⟩
theorem add_none (a:Option Addr) (cap g:Nat) (ks:List ByteArray) (w:World) (hs:SetAt w g ks) :
  Calls Tryz.prog 212 #[.map (some g),.slice a 0 cap] w fun e w'=>e=.returned (.bool true)∧w.grownBy w' (some g)∧SetAt w' g ks:=by
 have HS:=Lib.hid hs
 clear hs
 go_enter Tryz.func212,Tryz.ntmps212
 go_wp2
 refine wp_loop_rounds 1 ?_
 rw [rounds_succ]
 go_wp2
 go_ret
 exact⟨rfl,⟨rfl,rfl,rfl,Nat.le_refl _,fun _ _ _=>rfl⟩,HS.out⟩
theorem add_at (v:Value) (g:Nat) (ks labs:List ByteArray) (w:World) (hm:ks.length+labs.length≤100000) (hs:SetAt w g ks) (hz:∀ t∈labs,t.size≤maxLen) (hv:L8.StAt w v labs) (r:Bool) (hr:addB ks labs=r) :
  Calls Tryz.prog 212 #[.map (some g),v] w fun e w'=>e=.returned (.bool r)∧w.grownBy w' (some g)∧(r=true→SetAt w' g (ks++labs)):=by
 rcases hv with ⟨b,o,cap,rfl,hlt,hc⟩|⟨rfl,a,cap,rfl⟩
 ·by_cases h0:labs.length=0
  ·have:=List.eq_nil_of_length_eq_zero h0
   subst this
   rw [addB_none] at hr
   subst hr
   exact (add_none _ cap g ks w hs).mono fun e w' ⟨h1,h2,h3⟩=>⟨h1,h2,fun _=>by rw [List.append_nil];exact h3⟩
  ·refine add_some b o _ cap g ks labs w rfl hm hs hz hc ?_ r hr
   rintro rfl
   have:=hc 0 (by omega)
   unfold World.cell? at this
   split at this
   ·exact map_cells hs _ _ _ ‹_›
   ·cases this
 ·rw [addB_none] at hr
  subst hr
  exact (add_none a cap g ks w hs).mono fun e w' ⟨h1,h2,h3⟩=>⟨h1,h2,fun _=>by rw [List.append_nil];exact h3⟩
theorem st_form {w:World} {v:Value} {l:List ByteArray} {n:Nat} (hn:l.length=n) (h:L8.StAt w v l):∃ a c,v=.slice a n c∧(0<n→∃ b o,a=some ⟨b,o,none⟩∧b<w.heap.size∧∀ j,(h:j<l.length)→w.cell? ⟨b,o+j,none⟩=some (.string l[j])):=by
 subst hn
 rcases h with ⟨b,o,cap,rfl,hb,hc⟩|⟨rfl,a,cap,rfl⟩
 ·exact⟨_,_,rfl,fun _=>⟨b,o,rfl,hb,fun j hj=>by have:=hc j hj;simpa [List.getD,List.getElem?_eq_getElem hj] using this⟩⟩
 ·exact⟨a,cap,rfl,fun h=>absurd h (by simp)⟩
abbrev smA (lv:Value) (op:Int) (reg:Bool) (dst src off imm:Int) (tg mp:ByteArray):Array Value:=#[lv,.int .i64 op,.bool reg,.int .i64 dst,.int .i64 src,.int .i64 off,.int .i64 imm,.string tg,.string mp]
def Bt (w W:World) (g:Nat) (cs:Array Value):Prop:=Below w.heap.size w W∧W.heap[g]?=some (.cells cs 80)
theorem Bt.below {w W W':World} {g:Nat} {cs:Array Value} (h:Bt w W g cs) (hb:Below W.heap.size W W'):Bt w W' g cs:=⟨L2.bch h.1 hb,L8.row_up h.2 hb⟩
theorem keepB {w W W':World} {g:Nat} {a b c d e f i j k:Value} (hb:Below W.heap.size W W') (h:Bt w W g #[a,b,c,d,e,f,i,j,k]) :
  Bt w W' g #[a,b,c,d,e,f,i,j,k]∧W'.cell? ⟨g,0,none⟩=some a∧W'.cell? ⟨g,1,none⟩=some b∧W'.cell? ⟨g,2,none⟩=some c∧W'.cell? ⟨g,3,none⟩=some d∧W'.cell? ⟨g,4,none⟩=some e∧W'.cell? ⟨g,5,none⟩=some f∧W'.cell? ⟨g,6,none⟩=some i∧W'.cell? ⟨g,7,none⟩=some j∧W'.cell? ⟨g,8,none⟩=some k :=
 ⟨h.below hb,cells9 (h.below hb).2⟩
theorem keepC {w W W':World} {g:Nat} {a b c d e f i j k:Value} (hb:Below W.heap.size W W') (h:Bt w W g #[a,b,c,d,e,f,i,j,k]∧W.cell? ⟨g,0,none⟩=some a∧W.cell? ⟨g,1,none⟩=some b∧W.cell? ⟨g,2,none⟩=some c∧W.cell? ⟨g,3,none⟩=some d∧W.cell? ⟨g,4,none⟩=some e∧W.cell? ⟨g,5,none⟩=some f∧W.cell? ⟨g,6,none⟩=some i∧W.cell? ⟨g,7,none⟩=some j∧W.cell? ⟨g,8,none⟩=some k) :
  Bt w W' g #[a,b,c,d,e,f,i,j,k]∧W'.cell? ⟨g,0,none⟩=some a∧W'.cell? ⟨g,1,none⟩=some b∧W'.cell? ⟨g,2,none⟩=some c∧W'.cell? ⟨g,3,none⟩=some d∧W'.cell? ⟨g,4,none⟩=some e∧W'.cell? ⟨g,5,none⟩=some f∧W'.cell? ⟨g,6,none⟩=some i∧W'.cell? ⟨g,7,none⟩=some j∧W'.cell? ⟨g,8,none⟩=some k:=keepB hb h.1
theorem kinds3 (f:Int):(L4.jmpF f=true∧(f==11)=false)∨(L4.jmpF f=false∧(f==11)=true)∨(L4.jmpF f=false∧(f==11)=false):=by
 unfold L4.jmpF
 by_cases h3:f=3
 ·subst h3;exact .inl ⟨rfl,rfl⟩
 by_cases h4:f=4
 ·subst h4;exact .inl ⟨rfl,rfl⟩
 by_cases h11:f=11
 ·subst h11;exact .inr (.inl ⟨rfl,rfl⟩)
 ·exact .inr (.inr (by simp [h3,h4,h11]))
theorem stE_eq (labs:List ByteArray) (op:Int) (reg:Bool) (dst src off imm:Int) (tg mp:ByteArray) (f c:Int) (jm rf:Bool) (hf:L3.frm (L3.ix op)=f) (hc:L4.chkF f reg dst src off imm=c) (hj:L4.jmpF f=jm) (hr:(f==11)=rf) :
  stE ⟨labs,⟨op,reg,dst,src,off,imm⟩,tg,mp⟩=if labs.all L2.vd then (if c=0 then (if (jm && off != 0) || (rf && imm != 0) || (!jm && !tg.toList.isEmpty) || (!rf && !mp.toList.isEmpty) then 12 else if (jm && !L2.vd tg) || (rf && !L2.vd mp) then 7 else 0) else c) else 7:=by
 subst hf hc hj hr
 rfl
theorem checkStmt_at (lv:Value) (labs:List ByteArray) (op:Int) (reg:Bool) (dst src off imm:Int) (tg mp:ByteArray) (r:Int) (w:World) (hT:L1.Wid w∧L2.Regs w) (hv:L8.StAt w lv labs) (hm:labs.length≤100000) (h:stE ⟨labs,⟨op,reg,dst,src,off,imm⟩,tg,mp⟩=r) :
  Calls Tryz.prog 208 #[.agg (smA lv op reg dst src off imm tg mp)] w fun e w'=>e=.returned (.int .i64 r)∧Below w.heap.size w w':=by
 obtain⟨n,hn⟩:∃ n,labs.length=n:=⟨_,rfl⟩
 obtain⟨f,hf⟩:∃ f,L3.frm (L3.ix op)=f:=⟨_,rfl⟩
 obtain⟨c,hcc⟩:∃ c,L4.chkF f reg dst src off imm=c:=⟨_,rfl⟩
 obtain⟨jm,hjm⟩:∃ c,L4.jmpF f=c:=⟨_,rfl⟩
 obtain⟨rf,hrf⟩:∃ c,(f==11)=c:=⟨_,rfl⟩
 rw [stE_eq labs op reg dst src off imm tg mp f c jm rf hf hcc hjm hrf] at h
 have HR:=Lib.hid h
 have K3:Hid ((jm=true∧rf=false)∨(jm=false∧rf=true)∨(jm=false∧rf=false)):=Lib.hid (by have:=kinds3 f;rwa [hjm,hrf] at this)
 have HV:=Lib.hid (fun (t:ByteArray) (W:World) (hb:Below w.heap.size w W) (v:Bool) (hv:L2.vd t=v)=>L2.valid_at t v W (hT.2.below hb) hv)
 have HC:=Lib.hid (fun (W:World) (hb:Below w.heap.size w W)=>L4.check_is op reg dst src off imm f c W (L4.wid_below hT.1 hb) hf hcc)
 have HJ:=Lib.hid (fun W=>L4.jumps_at op reg dst src off imm f jm W hf hjm)
 have HF:=Lib.hid (fun W=>L4.form_at op f W hf)
 have HRF:=Lib.hid hrf
 have HA:=Lib.hid (st_form hn hv)
 have HN:=Lib.hid hn
 clear hv h hf hcc hjm hrf hn hT
 obtain⟨a,cap,rfl,hc⟩:=HA.out
 have HD:=Lib.hid hc
 clear hc HA
 have hS:=heap_alloc_last w (.cells (smA (.slice a n cap) op reg dst src off imm tg mp) 80)
 have hB0:=L8.bnew w (.cells (smA (.slice a n cap) op reg dst src off imm tg mp) 80)
 obtain⟨g,hg⟩:∃ g,g=w.heap.size:=⟨_,rfl⟩
 go_enter Tryz.func208,Tryz.ntmps208
 go_wp2
 rw [← hg] at hS ⊢
 clear hg
 generalize w.alloc (.cells (smA (.slice a n cap) op reg dst src off imm tg mp) 80)=W0 at hS hB0 ⊢
 have HW:=Lib.hid (show Below w.heap.size w W0 from hB0)
 clear hB0
 go_loopw [11] (fun i wr=>∃ j:Nat,j≤n∧i=.int .i64 (j:Int)∧Below W0.heap.size W0 wr∧Hid ((labs.drop j).all L2.vd=labs.all L2.vd)) (fun i _=>n-(intOf i).toNat)
 case atStart=>exact⟨0,Nat.zero_le _,rfl,Below.refl _ _,Lib.hid rfl⟩
 case round =>
  obtain⟨j,hj,rfl,hB,hL⟩:=hrel
  by_cases hlt:j<n
  ·have hjl:j<labs.length:=by rw [HN.out];exact hlt
   obtain⟨b,o,rfl,hb,hc⟩:=HD.out (by omega)
   obtain⟨x,hx⟩:∃ x,labs[j]=x:=⟨_,rfl⟩
   have hcx:wr.cell? ⟨b,o+j,none⟩=some (.string x):=(hB.cell (by exact Nat.lt_of_lt_of_le hb HW.out.size)).trans ((HW.out.cell (by exact hb)).trans (by rw [hc j hjl,hx]))
   have hst:labs.all L2.vd=(L2.vd x && (labs.drop (j+1)).all L2.vd):=by rw [← hL.out,List.drop_eq_getElem_cons hjl,List.all_cons,hx]
   obtain⟨v,hv⟩:∃ v,L2.vd x=v:=⟨_,rfl⟩
   rw [hv] at hst
   have HVV:=Lib.hid (HV.out x wr (L2.bch HW.out hB) v hv)
   have HS:=Lib.hid hst
   clear hc hx hst hv hL
   cases v
   ·obtain rfl:r=7:=by rw [← HR.out,HS.out];rfl
    go_wp2_with (go_at_call 225;((with_reducible refine (HVV.out).mono ?_);rintro e w1 ⟨rfl,b1⟩))
    go_ret
    exact⟨rfl,L2.bch HW.out (L2.bch hB b1)⟩
   ·go_wp2_with (go_at_call 225;((with_reducible refine (HVV.out).mono ?_);rintro e w1 ⟨rfl,b1⟩))
    go_roundw
    case rel=>exact⟨j+1,by omega,by go_num,L2.bch hB b1,Lib.hid (by rw [HS.out];rfl)⟩
    case measure=>simp [intOf];omega
  ·obtain rfl:j=n:=by omega
   have hall:labs.all L2.vd=true:=by rw [← hL.out,List.drop_eq_nil_of_le (by rw [HN.out];exact Nat.le_refl _)];rfl
   have hr:=HR.out
   rw [hall,if_pos rfl] at hr
   have hS2:=L8.row_up hS hB
   have B2:=L2.bch HW.out hB
   obtain⟨x0,x1,x2,x3,x4,x5,x6,x7,x8⟩:=cells9 hS2
   clear hall HR hL HD HN hS
   by_cases hc0:c=0
   ·subst hc0
    rw [if_pos rfl] at hr
    have HR:=Lib.hid hr
    clear hr
    go_upto_region 10 with (go_at_call 135;((with_reducible refine (HC.out _ B2).mono ?_);rintro e w1 ⟨rfl,b1⟩))
    have X:Bt w w1 g (smA (.slice a j cap) op reg dst src off imm tg mp):=⟨L2.bch B2 b1,L8.row_up hS2 b1⟩
    have hrf:=HRF.out
    clear hS2 x0 x1 x2 x3 x4 x5 x6 x7 x8 HC
    go_region_held3 (fun W=>Bt w W g (smA (.slice a j cap) op reg dst src off imm tg mp)∧W.cell? ⟨g,0,none⟩=some (.slice a j cap)∧W.cell? ⟨g,1,none⟩=some (.int .i64 op)∧W.cell? ⟨g,2,none⟩=some (.bool reg)∧W.cell? ⟨g,3,none⟩=some (.int .i64 dst)∧W.cell? ⟨g,4,none⟩=some (.int .i64 src)∧W.cell? ⟨g,5,none⟩=some (.int .i64 off)∧W.cell? ⟨g,6,none⟩=some (.int .i64 imm)∧W.cell? ⟨g,7,none⟩=some (.string tg)∧W.cell? ⟨g,8,none⟩=some (.string mp))
     (first|exact keepB (Below.refl _ _).drew X|exact keepC hb9 (by assumption)|assumption)
     (first|(go_at_call 40;((with_reducible refine (HJ.out _).mono ?_);rintro e w9 ⟨rfl,hb9⟩))|(go_at_call 80;((with_reducible refine (HF.out _).mono ?_);rintro e w9 ⟨rfl,hb9⟩)))
    all_goals
     rename_i hh
     obtain⟨X2,y0,y1,y2,y3,y4,y5,y6,y7,y8⟩:=hh
     have HV2:=Lib.hid (fun (t:ByteArray) (v:Bool) (hv:L2.vd t=v)=>HV.out t _ X2.1 v hv)
     have HX:=Lib.hid X2.1
     clear X2 X HJ HF hrf HRF HV
     rcases K3.out with ⟨rfl,rfl⟩|⟨rfl,rfl⟩|⟨rfl,rfl⟩
     ·by_cases ho:off=0
      ·subst ho
       cases hme:mp.toList.isEmpty
       ·obtain rfl:r=12:=by rw [← HR.out];simp [hme]
        clear HR
        go_wp2
        go_ret
        exact⟨rfl,HX.out⟩
       ·obtain⟨v,hv⟩:∃ v,L2.vd tg=v:=⟨_,rfl⟩
        have HVV:=Lib.hid (HV2.out tg v hv)
        cases v
        ·obtain rfl:r=7:=by rw [← HR.out];simp [hme,hv]
         clear HR hv
         go_wp2_with (go_at_call 225;((with_reducible refine (HVV.out).mono ?_);rintro e w2 ⟨rfl,b2⟩))
         go_ret
         exact⟨rfl,L2.bch HX.out b2⟩
        ·obtain rfl:r=0:=by rw [← HR.out];simp [hme,hv]
         clear HR hv
         go_wp2_with (go_at_call 225;((with_reducible refine (HVV.out).mono ?_);rintro e w2 ⟨rfl,b2⟩))
         go_ret
         exact⟨rfl,L2.bch HX.out b2⟩
      ·obtain rfl:r=12:=by rw [← HR.out];simp [ho]
       clear HR
       go_wp2
       go_ret
       exact⟨rfl,HX.out⟩
     ·by_cases ho:imm=0
      ·subst ho
       cases hme:tg.toList.isEmpty
       ·obtain rfl:r=12:=by rw [← HR.out];simp [hme]
        clear HR
        go_wp2
        go_ret
        exact⟨rfl,HX.out⟩
       ·obtain⟨v,hv⟩:∃ v,L2.vd mp=v:=⟨_,rfl⟩
        have HVV:=Lib.hid (HV2.out mp v hv)
        cases v
        ·obtain rfl:r=7:=by rw [← HR.out];simp [hme,hv]
         clear HR hv
         go_wp2_with (go_at_call 225;((with_reducible refine (HVV.out).mono ?_);rintro e w2 ⟨rfl,b2⟩))
         go_ret
         exact⟨rfl,L2.bch HX.out b2⟩
        ·obtain rfl:r=0:=by rw [← HR.out];simp [hme,hv]
         clear HR hv
         go_wp2_with (go_at_call 225;((with_reducible refine (HVV.out).mono ?_);rintro e w2 ⟨rfl,b2⟩))
         go_ret
         exact⟨rfl,L2.bch HX.out b2⟩
      ·obtain rfl:r=12:=by rw [← HR.out];simp [ho]
       clear HR
       go_wp2
       go_ret
       exact⟨rfl,HX.out⟩
     ·cases hte:tg.toList.isEmpty
      ·obtain rfl:r=12:=by rw [← HR.out];simp [hte]
       clear HR
       go_wp2
       go_ret
       exact⟨rfl,HX.out⟩
      ·cases hme:mp.toList.isEmpty
       ·obtain rfl:r=12:=by rw [← HR.out];simp [hte,hme]
        clear HR
        go_wp2
        go_ret
        exact⟨rfl,HX.out⟩
       ·obtain rfl:r=0:=by rw [← HR.out];simp [hte,hme]
        clear HR
        go_wp2
        go_ret
        exact⟨rfl,HX.out⟩
   ·rw [if_neg hc0] at hr
    subst hr
    go_wp2_with (go_at_call 135;((with_reducible refine (HC.out _ B2).mono ?_);rintro e w1 ⟨rfl,b1⟩))
    go_ret
    exact⟨rfl,L2.bch B2 b1⟩
end Go.Proofs.YtihiggnglmhggaaGreatDoor.L10
end
section
namespace Go.Proofs.YtihiggnglmhggaaGreatDoor.L10
open Go.RowKit Go.Maps
attribute [local go_sem] Oper.semAt_some
def NoC (w:World) (o:Option Nat):Prop:=∀ g,o=some g→∀ cs t fr,w.heap[g]?≠some (.cells cs t fr)
theorem gr_cell {w W:World} {o:Option Nat} {p:Addr} {v:Value} (hg:w.grownBy W o) (hn:NoC w o) (h:w.cell? p=some v):W.cell? p=some v:=by
 refine hg.cell h ?_
 intro e
 unfold World.cell? at h
 split at h
 ·exact hn p.block e.symm _ _ _ ‹_›
 ·cases h
theorem gr_row {w W:World} {o:Option Nat} {k:Nat} {cs:Array Value} {t:TypeId} {fr:Nat × Nat} (hg:w.grownBy W o) (hn:NoC w o) (h:w.heap[k]?=some (.cells cs t fr)):W.heap[k]?=some (.cells cs t fr):=by
 refine (hg.block k (Array.getElem?_eq_some_iff.1 h).1 ?_).trans h
 intro e
 exact hn k e.symm _ _ _ h
theorem gr_refl (w:World) (o:Option Nat):w.grownBy w o:=⟨rfl,rfl,rfl,Nat.le_refl _,fun _ _ _=>rfl⟩
theorem gr_of {w W:World} (h:Below w.heap.size w W) (o:Option Nat):w.grownBy W o:=⟨h.os,h.tape,h.output,h.size,fun k hk _=>h.block k hk⟩
theorem gr_to {w W:World} (h:w.grownBy W none):Below w.heap.size w W:=⟨h.os,h.tape,h.output,h.size,fun k hk=>h.block k hk (by simp)⟩
theorem gr_tr {w a b:World} {o:Option Nat} (h:w.grownBy a o) (k:a.grownBy b o):w.grownBy b o:=⟨k.os.trans h.os,k.tape.trans h.tape,k.output.trans h.output,Nat.le_trans h.size k.size,fun x hx hn=>(k.block x (Nat.lt_of_lt_of_le hx h.size) hn).trans (h.block x hx hn)⟩
theorem st_gr {w W:World} {o:Option Nat} {v:Value} {l:List ByteArray} (h:L8.StAt w v l) (hg:w.grownBy W o) (hn:NoC w o):L8.StAt W v l:=by
 rcases h with ⟨b,i,cap,rfl,hlt,hc⟩|h
 ·exact .inl ⟨b,i,cap,rfl,Nat.lt_of_lt_of_le hlt hg.size,fun j hj=>gr_cell hg hn (hc j hj)⟩
 ·exact .inr h
theorem df_form {w:World} {v:Value} {l:List L9.Df} {n:Nat} (hn:l.length=n) (h:DfAt w v l):∃ a c,v=.slice a n c∧(0<n→∃ b o,a=some ⟨b,o,none⟩∧b<w.heap.size∧∀ j,(h:j<l.length)→∀ i u,(dfL l[j])[i]?=some u→w.cell? ⟨b,o+j*4+i,none⟩=some u):=by
 subst hn
 rcases h with ⟨b,o,cap,rfl,hb,hc⟩|⟨rfl,a,cap,rfl⟩
 ·exact⟨_,_,rfl,fun _=>⟨b,o,rfl,hb,hc⟩⟩
 ·exact⟨a,cap,rfl,fun h=>absurd h (by simp)⟩
theorem sm_form {w:World} {v:Value} {l:List Stm} {n:Nat} (hn:l.length=n) (h:SmAt w v l):∃ a c,v=.slice a n c∧(0<n→∃ b o,a=some ⟨b,o,none⟩∧b<w.heap.size∧∀ j,(h:j<l.length)→∃ lv,L8.StAt w lv l[j].labs∧∀ i u,(smL lv l[j])[i]?=some u→w.cell? ⟨b,o+j*9+i,none⟩=some u):=by
 subst hn
 rcases h with ⟨b,o,cap,rfl,hb,hc⟩|⟨rfl,a,cap,rfl⟩
 ·exact⟨_,_,rfl,fun _=>⟨b,o,rfl,hb,hc⟩⟩
 ·exact⟨a,cap,rfl,fun h=>absurd h (by simp)⟩
theorem fe_step {es:List Int} {j n:Nat} (hn:es.length=n) (hj:j<n) (h:feF j (es.drop j)=fe es):(es.getD j 0=0→feF (j+1) (es.drop (j+1))=fe es)∧(es.getD j 0≠0→fe es=(j,es.getD j 0)):=by
 have hjl:j<es.length:=by omega
 have e:es.getD j 0=es[j]:=by simp [List.getD,List.getElem?_eq_getElem hjl]
 rw [feF_step es j hjl] at h
 rw [e]
 exact⟨fun h0=>by rw [if_pos h0] at h;exact h,fun h0=>by rw [if_neg h0] at h;exact h.symm⟩
theorem fe_end {es:List Int} {n:Nat} (hn:es.length=n) (h:feF n (es.drop n)=fe es):fe es=(0,0):=by
 rw [← h,feF_end es n (by omega)]
def EaP (o:Option Nat) (n:Nat) (es:List Int) (Q:Nat→World→Prop) (w:World) (e:Ending) (w':World):Prop :=
 e=.returned (.tuple #[.int .i64 ((fe es).1:Int),.int .i64 (fe es).2])∧w.grownBy w' o∧((fe es).2=0→Q n w')
section
variable (g:Nat) (hg:∀ args w,(callFunc g args).run Tryz.prog w=.ok (.enter g args) w) (o:Option Nat)
include g hg o
theorem each1 (kb kf:Nat) (vm:Value) (l:List L9.Df) (es:List Int) (Q:Nat→World→Prop) (w:World) (hv:DfAt w vm l) (hm:l.length≤100000) (he:es.length=l.length)
  (hb:w.cell? ⟨kb,0,none⟩=some vm) (hf:w.cell? ⟨kf,0,none⟩=some (.func (.func g) #[] #[])) (ho:NoC w o) (h0:Q 0 w)
  (hQ:∀ j W W',Q j W→Below W.heap.size W W'→Q j W')
  (hK:∀ j (h:j<l.length) W,Q j W→Calls Tryz.prog g #[.int .i64 (j:Int),.agg (#[.string l[j].nm,.int .i64 l[j].key,.int .i64 l[j].val,.int .i64 l[j].ent])] W fun e W'=>e=.returned (.int .i64 (es.getD j 0))∧W.grownBy W' o∧(es.getD j 0=0→Q (j+1) W')) :
  Calls Tryz.prog 224 #[.pointer (some ⟨kb,0,none⟩),.pointer (some ⟨kf,0,none⟩)] w fun e w'=>EaP o l.length es Q w e w':=by
 obtain⟨n,hn⟩:∃ n,l.length=n:=⟨_,rfl⟩
 rw [hn] at hm he ⊢
 obtain⟨a,cap,rfl,hc⟩:=df_form hn hv
 have HD:=Lib.hid hc
 have HN:=Lib.hid hn
 have HE:=Lib.hid he
 have HK:=Lib.hid hK
 have HQ:=Lib.hid hQ
 have HO:=Lib.hid ho
 have HF:=Lib.hid hf
 have HI:Hid (w.grownBy w o∧Q 0 w):=Lib.hid ⟨gr_refl w o,h0⟩
 clear hc hn he hK hQ ho hf h0 hv
 go_enter Tryz.func224,Tryz.ntmps224
 go_wp2
 go_loopw [9] (fun i wr=>∃ j:Nat,j≤n∧i=.int .i64 (j:Int)∧Hid (w.grownBy wr o∧Q j wr)∧Hid (feF j (es.drop j)=fe es)) (fun i _=>n-(intOf i).toNat)
 case atStart=>exact⟨0,Nat.zero_le _,rfl,HI,Lib.hid rfl⟩
 case round =>
  obtain⟨j,hj,rfl,hG,hL⟩:=hrel
  by_cases hlt:j<n
  ·have hjl:j<l.length:=by rw [HN.out];exact hlt
   obtain⟨b,o',rfl,hbl,hc⟩:=HD.out (by omega)
   obtain⟨d,hd⟩:∃ d,l[j]=d:=⟨_,rfl⟩
   have hC:=fun i u hu=>gr_cell hG.out.1 HO.out (hc j hjl i u hu)
   have a0:=hC 0 _ rfl
   have a1:=hC 1 _ rfl
   have a2:=hC 2 _ rfl
   have a3:=hC 3 _ rfl
   have hk:=HK.out j hjl
   rw [hd] at a0 a1 a2 a3 hk
   rw [Nat.add_zero] at a0
   clear hC
   have hfc:=gr_cell hG.out.1 HO.out HF.out
   have hkf:kf<wr.heap.size:=World.block_lt_of_cell? wr _ hfc
   have hlt':(j:Int)<(n:Int):=by omega
   obtain⟨ej,hej⟩:∃ ej,es.getD j 0=ej:=⟨_,rfl⟩
   rw [hej] at hk
   obtain⟨hs1,hs2⟩:=fe_step HE.out hlt hL.out
   rw [hej] at hs1 hs2
   have HK2:=Lib.hid (fun W hq=>hk W hq)
   have HS1:=Lib.hid hs1
   have HS2:=Lib.hid hs2
   clear hk hs1 hs2 hej hd hc hL
   by_cases h0:ej=0
   ·subst h0
    go_wp2_with (go_at_fn g;((with_reducible refine (HK2.out _ (HQ.out _ _ _ hG.out.2 (L8.bnew wr _))).mono ?_);rintro e w1 ⟨rfl,g1,q1⟩))
    go_roundw
    case rel=>exact⟨j+1,by omega,by go_num,Lib.hid ⟨gr_tr hG.out.1 (gr_tr (gr_of (L8.bnew wr _) o) g1),q1 (by trivial)⟩,Lib.hid (HS1.out (by trivial))⟩
    case measure=>simp [intOf];omega
   ·go_wp2_with (go_at_fn g;((with_reducible refine (HK2.out _ (HQ.out _ _ _ hG.out.2 (L8.bnew wr _))).mono ?_);rintro e w1 ⟨rfl,g1,q1⟩))
    go_ret2
    unfold EaP
    rw [HS2.out h0]
    exact⟨rfl,gr_tr hG.out.1 (gr_tr (gr_of (L8.bnew wr _) o) g1),fun h=>absurd h h0⟩
  ·obtain rfl:j=n:=by omega
   go_wp2
   go_ret2
   unfold EaP
   rw [fe_end HE.out hL.out]
   exact⟨rfl,hG.out.1,fun _=>hG.out.2⟩
theorem each4 (kb kf k3:Nat) (vm:Value) (l:List L9.Df) (es:List Int) (Q:Nat→World→Prop) (w:World) (hv:DfAt w vm l) (hm:l.length≤100000) (he:es.length=l.length)
  (hb:w.cell? ⟨kb,0,none⟩=some vm) (hf:w.cell? ⟨kf,0,none⟩=some (.func (.func g) #[] #[.pointer (some ⟨k3,0,none⟩)])) (ho:NoC w o) (h0:Q 0 w)
  (hQ:∀ j W W',Q j W→Below W.heap.size W W'→Q j W')
  (hK:∀ j (h:j<l.length) W,Q j W→Calls Tryz.prog g #[.int .i64 (j:Int),.agg (#[.string l[j].nm,.int .i64 l[j].key,.int .i64 l[j].val,.int .i64 l[j].ent]),.pointer (some ⟨k3,0,none⟩)] W fun e W'=>e=.returned (.int .i64 (es.getD j 0))∧W.grownBy W' o∧(es.getD j 0=0→Q (j+1) W')) :
  Calls Tryz.prog 224 #[.pointer (some ⟨kb,0,none⟩),.pointer (some ⟨kf,0,none⟩)] w fun e w'=>EaP o l.length es Q w e w':=by
 obtain⟨n,hn⟩:∃ n,l.length=n:=⟨_,rfl⟩
 rw [hn] at hm he ⊢
 obtain⟨a,cap,rfl,hc⟩:=df_form hn hv
 have HD:=Lib.hid hc
 have HN:=Lib.hid hn
 have HE:=Lib.hid he
 have HK:=Lib.hid hK
 have HQ:=Lib.hid hQ
 have HO:=Lib.hid ho
 have HF:=Lib.hid hf
 have HI:Hid (w.grownBy w o∧Q 0 w):=Lib.hid ⟨gr_refl w o,h0⟩
 clear hc hn he hK hQ ho hf h0 hv
 go_enter Tryz.func224,Tryz.ntmps224
 go_wp2
 go_loopw [9] (fun i wr=>∃ j:Nat,j≤n∧i=.int .i64 (j:Int)∧Hid (w.grownBy wr o∧Q j wr)∧Hid (feF j (es.drop j)=fe es)) (fun i _=>n-(intOf i).toNat)
 case atStart=>exact⟨0,Nat.zero_le _,rfl,HI,Lib.hid rfl⟩
 case round =>
  obtain⟨j,hj,rfl,hG,hL⟩:=hrel
  by_cases hlt:j<n
  ·have hjl:j<l.length:=by rw [HN.out];exact hlt
   obtain⟨b,o',rfl,hbl,hc⟩:=HD.out (by omega)
   obtain⟨d,hd⟩:∃ d,l[j]=d:=⟨_,rfl⟩
   have hC:=fun i u hu=>gr_cell hG.out.1 HO.out (hc j hjl i u hu)
   have a0:=hC 0 _ rfl
   have a1:=hC 1 _ rfl
   have a2:=hC 2 _ rfl
   have a3:=hC 3 _ rfl
   have hk:=HK.out j hjl
   rw [hd] at a0 a1 a2 a3 hk
   rw [Nat.add_zero] at a0
   clear hC
   have hfc:=gr_cell hG.out.1 HO.out HF.out
   have hkf:kf<wr.heap.size:=World.block_lt_of_cell? wr _ hfc
   have hlt':(j:Int)<(n:Int):=by omega
   obtain⟨ej,hej⟩:∃ ej,es.getD j 0=ej:=⟨_,rfl⟩
   rw [hej] at hk
   obtain⟨hs1,hs2⟩:=fe_step HE.out hlt hL.out
   rw [hej] at hs1 hs2
   have HK2:=Lib.hid (fun W hq=>hk W hq)
   have HS1:=Lib.hid hs1
   have HS2:=Lib.hid hs2
   clear hk hs1 hs2 hej hd hc hL
   by_cases h0:ej=0
   ·subst h0
    go_wp2_with (go_at_fn g;((with_reducible refine (HK2.out _ (HQ.out _ _ _ hG.out.2 (L8.bnew wr _))).mono ?_);rintro e w1 ⟨rfl,g1,q1⟩))
    go_roundw
    case rel=>exact⟨j+1,by omega,by go_num,Lib.hid ⟨gr_tr hG.out.1 (gr_tr (gr_of (L8.bnew wr _) o) g1),q1 (by trivial)⟩,Lib.hid (HS1.out (by trivial))⟩
    case measure=>simp [intOf];omega
   ·go_wp2_with (go_at_fn g;((with_reducible refine (HK2.out _ (HQ.out _ _ _ hG.out.2 (L8.bnew wr _))).mono ?_);rintro e w1 ⟨rfl,g1,q1⟩))
    go_ret2
    unfold EaP
    rw [HS2.out h0]
    exact⟨rfl,gr_tr hG.out.1 (gr_tr (gr_of (L8.bnew wr _) o) g1),fun h=>absurd h h0⟩
  ·obtain rfl:j=n:=by omega
   go_wp2
   go_ret2
   unfold EaP
   rw [fe_end HE.out hL.out]
   exact⟨rfl,hG.out.1,fun _=>hG.out.2⟩
theorem each2 (kb kf:Nat) (vm:Value) (l:List Stm) (es:List Int) (Q:Nat→World→Prop) (w:World) (hv:SmAt w vm l) (hm:l.length≤100000) (he:es.length=l.length)
  (hb:w.cell? ⟨kb,0,none⟩=some vm) (hf:w.cell? ⟨kf,0,none⟩=some (.func (.func g) #[] #[])) (ho:NoC w o) (h0:Q 0 w)
  (hQ:∀ j W W',Q j W→Below W.heap.size W W'→Q j W')
  (hK:∀ j (h:j<l.length) lv W,L8.StAt W lv l[j].labs→Q j W→Calls Tryz.prog g #[.int .i64 (j:Int),.agg (smA lv l[j].x.op l[j].x.reg l[j].x.dst l[j].x.src l[j].x.off l[j].x.imm l[j].tg l[j].mp)] W fun e W'=>e=.returned (.int .i64 (es.getD j 0))∧W.grownBy W' o∧(es.getD j 0=0→Q (j+1) W')) :
  Calls Tryz.prog 227 #[.pointer (some ⟨kb,0,none⟩),.pointer (some ⟨kf,0,none⟩)] w fun e w'=>EaP o l.length es Q w e w':=by
 obtain⟨n,hn⟩:∃ n,l.length=n:=⟨_,rfl⟩
 rw [hn] at hm he ⊢
 obtain⟨a,cap,rfl,hc⟩:=sm_form hn hv
 have HD:=Lib.hid hc
 have HN:=Lib.hid hn
 have HE:=Lib.hid he
 have HK:=Lib.hid hK
 have HQ:=Lib.hid hQ
 have HO:=Lib.hid ho
 have HF:=Lib.hid hf
 have HI:Hid (w.grownBy w o∧Q 0 w):=Lib.hid ⟨gr_refl w o,h0⟩
 clear hc hn he hK hQ ho hf h0 hv
 go_enter Tryz.func227,Tryz.ntmps227
 go_wp2
 go_loopw [9] (fun i wr=>∃ j:Nat,j≤n∧i=.int .i64 (j:Int)∧Hid (w.grownBy wr o∧Q j wr)∧Hid (feF j (es.drop j)=fe es)) (fun i _=>n-(intOf i).toNat)
 case atStart=>exact⟨0,Nat.zero_le _,rfl,HI,Lib.hid rfl⟩
 case round =>
  obtain⟨j,hj,rfl,hG,hL⟩:=hrel
  by_cases hlt:j<n
  ·have hjl:j<l.length:=by rw [HN.out];exact hlt
   obtain⟨b,o',rfl,hbl,hc⟩:=HD.out (by omega)
   obtain⟨d,hd⟩:∃ d,l[j]=d:=⟨_,rfl⟩
   obtain⟨lv,hst,hc2⟩:=hc j hjl
   obtain⟨ln,hln⟩:∃ ln,l[j].labs.length=ln:=⟨_,rfl⟩
   obtain⟨la,lc,rfl,-⟩:=st_form hln hst
   have hC:=fun i u hu=>gr_cell hG.out.1 HO.out (hc2 i u hu)
   have a0:=hC 0 _ rfl
   have a1:=hC 1 _ rfl
   have a2:=hC 2 _ rfl
   have a3:=hC 3 _ rfl
   have a4:=hC 4 _ rfl
   have a5:=hC 5 _ rfl
   have a6:=hC 6 _ rfl
   have a7:=hC 7 _ rfl
   have a8:=hC 8 _ rfl
   have hk:=HK.out j hjl (.slice la ln lc)
   rw [hd] at a1 a2 a3 a4 a5 a6 a7 a8 hk hst
   rw [Nat.add_zero] at a0
   have HST:=Lib.hid (st_gr hst hG.out.1 HO.out)
   clear hC hc2 hst hln
   have hfc:=gr_cell hG.out.1 HO.out HF.out
   have hkf:kf<wr.heap.size:=World.block_lt_of_cell? wr _ hfc
   have hlt':(j:Int)<(n:Int):=by omega
   obtain⟨ej,hej⟩:∃ ej,es.getD j 0=ej:=⟨_,rfl⟩
   rw [hej] at hk
   obtain⟨hs1,hs2⟩:=fe_step HE.out hlt hL.out
   rw [hej] at hs1 hs2
   have HK2:=Lib.hid (fun W hq hs=>hk W hs hq)
   have HS1:=Lib.hid hs1
   have HS2:=Lib.hid hs2
   clear hk hs1 hs2 hej hd hc hL
   by_cases h0:ej=0
   ·subst h0
    go_wp2_with (go_at_fn g;((with_reducible refine (HK2.out _ (HQ.out _ _ _ hG.out.2 (L8.bnew wr _)) (HST.out.below (L8.bnew wr _))).mono ?_);rintro e w1 ⟨rfl,g1,q1⟩))
    go_roundw
    case rel=>exact⟨j+1,by omega,by go_num,Lib.hid ⟨gr_tr hG.out.1 (gr_tr (gr_of (L8.bnew wr _) o) g1),q1 (by trivial)⟩,Lib.hid (HS1.out (by trivial))⟩
    case measure=>simp [intOf];omega
   ·go_wp2_with (go_at_fn g;((with_reducible refine (HK2.out _ (HQ.out _ _ _ hG.out.2 (L8.bnew wr _)) (HST.out.below (L8.bnew wr _))).mono ?_);rintro e w1 ⟨rfl,g1,q1⟩))
    go_ret2
    unfold EaP
    rw [HS2.out h0]
    exact⟨rfl,gr_tr hG.out.1 (gr_tr (gr_of (L8.bnew wr _) o) g1),fun h=>absurd h h0⟩
  ·obtain rfl:j=n:=by omega
   go_wp2
   go_ret2
   unfold EaP
   rw [fe_end HE.out hL.out]
   exact⟨rfl,hG.out.1,fun _=>hG.out.2⟩
theorem each5 (kb kf k4:Nat) (vm:Value) (l:List Stm) (es:List Int) (Q:Nat→World→Prop) (w:World) (hv:SmAt w vm l) (hm:l.length≤100000) (he:es.length=l.length)
  (hb:w.cell? ⟨kb,0,none⟩=some vm) (hf:w.cell? ⟨kf,0,none⟩=some (.func (.func g) #[] #[.pointer (some ⟨k4,0,none⟩)])) (ho:NoC w o) (h0:Q 0 w)
  (hQ:∀ j W W',Q j W→Below W.heap.size W W'→Q j W')
  (hK:∀ j (h:j<l.length) lv W,L8.StAt W lv l[j].labs→Q j W→Calls Tryz.prog g #[.int .i64 (j:Int),.agg (smA lv l[j].x.op l[j].x.reg l[j].x.dst l[j].x.src l[j].x.off l[j].x.imm l[j].tg l[j].mp),.pointer (some ⟨k4,0,none⟩)] W fun e W'=>e=.returned (.int .i64 (es.getD j 0))∧W.grownBy W' o∧(es.getD j 0=0→Q (j+1) W')) :
  Calls Tryz.prog 227 #[.pointer (some ⟨kb,0,none⟩),.pointer (some ⟨kf,0,none⟩)] w fun e w'=>EaP o l.length es Q w e w':=by
 obtain⟨n,hn⟩:∃ n,l.length=n:=⟨_,rfl⟩
 rw [hn] at hm he ⊢
 obtain⟨a,cap,rfl,hc⟩:=sm_form hn hv
 have HD:=Lib.hid hc
 have HN:=Lib.hid hn
 have HE:=Lib.hid he
 have HK:=Lib.hid hK
 have HQ:=Lib.hid hQ
 have HO:=Lib.hid ho
 have HF:=Lib.hid hf
 have HI:Hid (w.grownBy w o∧Q 0 w):=Lib.hid ⟨gr_refl w o,h0⟩
 clear hc hn he hK hQ ho hf h0 hv
 go_enter Tryz.func227,Tryz.ntmps227
 go_wp2
 go_loopw [9] (fun i wr=>∃ j:Nat,j≤n∧i=.int .i64 (j:Int)∧Hid (w.grownBy wr o∧Q j wr)∧Hid (feF j (es.drop j)=fe es)) (fun i _=>n-(intOf i).toNat)
 case atStart=>exact⟨0,Nat.zero_le _,rfl,HI,Lib.hid rfl⟩
 case round =>
  obtain⟨j,hj,rfl,hG,hL⟩:=hrel
  by_cases hlt:j<n
  ·have hjl:j<l.length:=by rw [HN.out];exact hlt
   obtain⟨b,o',rfl,hbl,hc⟩:=HD.out (by omega)
   obtain⟨d,hd⟩:∃ d,l[j]=d:=⟨_,rfl⟩
   obtain⟨lv,hst,hc2⟩:=hc j hjl
   obtain⟨ln,hln⟩:∃ ln,l[j].labs.length=ln:=⟨_,rfl⟩
   obtain⟨la,lc,rfl,-⟩:=st_form hln hst
   have hC:=fun i u hu=>gr_cell hG.out.1 HO.out (hc2 i u hu)
   have a0:=hC 0 _ rfl
   have a1:=hC 1 _ rfl
   have a2:=hC 2 _ rfl
   have a3:=hC 3 _ rfl
   have a4:=hC 4 _ rfl
   have a5:=hC 5 _ rfl
   have a6:=hC 6 _ rfl
   have a7:=hC 7 _ rfl
   have a8:=hC 8 _ rfl
   have hk:=HK.out j hjl (.slice la ln lc)
   rw [hd] at a1 a2 a3 a4 a5 a6 a7 a8 hk hst
   rw [Nat.add_zero] at a0
   have HST:=Lib.hid (st_gr hst hG.out.1 HO.out)
   clear hC hc2 hst hln
   have hfc:=gr_cell hG.out.1 HO.out HF.out
   have hkf:kf<wr.heap.size:=World.block_lt_of_cell? wr _ hfc
   have hlt':(j:Int)<(n:Int):=by omega
   obtain⟨ej,hej⟩:∃ ej,es.getD j 0=ej:=⟨_,rfl⟩
   rw [hej] at hk
   obtain⟨hs1,hs2⟩:=fe_step HE.out hlt hL.out
   rw [hej] at hs1 hs2
   have HK2:=Lib.hid (fun W hq hs=>hk W hs hq)
   have HS1:=Lib.hid hs1
   have HS2:=Lib.hid hs2
   clear hk hs1 hs2 hej hd hc hL
   by_cases h0:ej=0
   ·subst h0
    go_wp2_with (go_at_fn g;((with_reducible refine (HK2.out _ (HQ.out _ _ _ hG.out.2 (L8.bnew wr _)) (HST.out.below (L8.bnew wr _))).mono ?_);rintro e w1 ⟨rfl,g1,q1⟩))
    go_roundw
    case rel=>exact⟨j+1,by omega,by go_num,Lib.hid ⟨gr_tr hG.out.1 (gr_tr (gr_of (L8.bnew wr _) o) g1),q1 (by trivial)⟩,Lib.hid (HS1.out (by trivial))⟩
    case measure=>simp [intOf];omega
   ·go_wp2_with (go_at_fn g;((with_reducible refine (HK2.out _ (HQ.out _ _ _ hG.out.2 (L8.bnew wr _)) (HST.out.below (L8.bnew wr _))).mono ?_);rintro e w1 ⟨rfl,g1,q1⟩))
    go_ret2
    unfold EaP
    rw [HS2.out h0]
    exact⟨rfl,gr_tr hG.out.1 (gr_tr (gr_of (L8.bnew wr _) o) g1),fun h=>absurd h h0⟩
  ·obtain rfl:j=n:=by omega
   go_wp2
   go_ret2
   unfold EaP
   rw [fe_end HE.out hL.out]
   exact⟨rfl,hG.out.1,fun _=>hG.out.2⟩
theorem each7 (kb kf k4 k3:Nat) (vm:Value) (l:List Stm) (es:List Int) (Q:Nat→World→Prop) (w:World) (hv:SmAt w vm l) (hm:l.length≤100000) (he:es.length=l.length)
  (hb:w.cell? ⟨kb,0,none⟩=some vm) (hf:w.cell? ⟨kf,0,none⟩=some (.func (.func g) #[] #[.pointer (some ⟨k4,0,none⟩),.pointer (some ⟨k3,0,none⟩)])) (ho:NoC w o) (h0:Q 0 w)
  (hQ:∀ j W W',Q j W→Below W.heap.size W W'→Q j W')
  (hK:∀ j (h:j<l.length) lv W,L8.StAt W lv l[j].labs→Q j W→Calls Tryz.prog g #[.int .i64 (j:Int),.agg (smA lv l[j].x.op l[j].x.reg l[j].x.dst l[j].x.src l[j].x.off l[j].x.imm l[j].tg l[j].mp),.pointer (some ⟨k4,0,none⟩),.pointer (some ⟨k3,0,none⟩)] W fun e W'=>e=.returned (.int .i64 (es.getD j 0))∧W.grownBy W' o∧(es.getD j 0=0→Q (j+1) W')) :
  Calls Tryz.prog 227 #[.pointer (some ⟨kb,0,none⟩),.pointer (some ⟨kf,0,none⟩)] w fun e w'=>EaP o l.length es Q w e w':=by
 obtain⟨n,hn⟩:∃ n,l.length=n:=⟨_,rfl⟩
 rw [hn] at hm he ⊢
 obtain⟨a,cap,rfl,hc⟩:=sm_form hn hv
 have HD:=Lib.hid hc
 have HN:=Lib.hid hn
 have HE:=Lib.hid he
 have HK:=Lib.hid hK
 have HQ:=Lib.hid hQ
 have HO:=Lib.hid ho
 have HF:=Lib.hid hf
 have HI:Hid (w.grownBy w o∧Q 0 w):=Lib.hid ⟨gr_refl w o,h0⟩
 clear hc hn he hK hQ ho hf h0 hv
 go_enter Tryz.func227,Tryz.ntmps227
 go_wp2
 go_loopw [9] (fun i wr=>∃ j:Nat,j≤n∧i=.int .i64 (j:Int)∧Hid (w.grownBy wr o∧Q j wr)∧Hid (feF j (es.drop j)=fe es)) (fun i _=>n-(intOf i).toNat)
 case atStart=>exact⟨0,Nat.zero_le _,rfl,HI,Lib.hid rfl⟩
 case round =>
  obtain⟨j,hj,rfl,hG,hL⟩:=hrel
  by_cases hlt:j<n
  ·have hjl:j<l.length:=by rw [HN.out];exact hlt
   obtain⟨b,o',rfl,hbl,hc⟩:=HD.out (by omega)
   obtain⟨d,hd⟩:∃ d,l[j]=d:=⟨_,rfl⟩
   obtain⟨lv,hst,hc2⟩:=hc j hjl
   obtain⟨ln,hln⟩:∃ ln,l[j].labs.length=ln:=⟨_,rfl⟩
   obtain⟨la,lc,rfl,-⟩:=st_form hln hst
   have hC:=fun i u hu=>gr_cell hG.out.1 HO.out (hc2 i u hu)
   have a0:=hC 0 _ rfl
   have a1:=hC 1 _ rfl
   have a2:=hC 2 _ rfl
   have a3:=hC 3 _ rfl
   have a4:=hC 4 _ rfl
   have a5:=hC 5 _ rfl
   have a6:=hC 6 _ rfl
   have a7:=hC 7 _ rfl
   have a8:=hC 8 _ rfl
   have hk:=HK.out j hjl (.slice la ln lc)
   rw [hd] at a1 a2 a3 a4 a5 a6 a7 a8 hk hst
   rw [Nat.add_zero] at a0
   have HST:=Lib.hid (st_gr hst hG.out.1 HO.out)
   clear hC hc2 hst hln
   have hfc:=gr_cell hG.out.1 HO.out HF.out
   have hkf:kf<wr.heap.size:=World.block_lt_of_cell? wr _ hfc
   have hlt':(j:Int)<(n:Int):=by omega
   obtain⟨ej,hej⟩:∃ ej,es.getD j 0=ej:=⟨_,rfl⟩
   rw [hej] at hk
   obtain⟨hs1,hs2⟩:=fe_step HE.out hlt hL.out
   rw [hej] at hs1 hs2
   have HK2:=Lib.hid (fun W hq hs=>hk W hs hq)
   have HS1:=Lib.hid hs1
   have HS2:=Lib.hid hs2
   clear hk hs1 hs2 hej hd hc hL
   by_cases h0:ej=0
   ·subst h0
    go_wp2_with (go_at_fn g;((with_reducible refine (HK2.out _ (HQ.out _ _ _ hG.out.2 (L8.bnew wr _)) (HST.out.below (L8.bnew wr _))).mono ?_);rintro e w1 ⟨rfl,g1,q1⟩))
    go_roundw
    case rel=>exact⟨j+1,by omega,by go_num,Lib.hid ⟨gr_tr hG.out.1 (gr_tr (gr_of (L8.bnew wr _) o) g1),q1 (by trivial)⟩,Lib.hid (HS1.out (by trivial))⟩
    case measure=>simp [intOf];omega
   ·go_wp2_with (go_at_fn g;((with_reducible refine (HK2.out _ (HQ.out _ _ _ hG.out.2 (L8.bnew wr _)) (HST.out.below (L8.bnew wr _))).mono ?_);rintro e w1 ⟨rfl,g1,q1⟩))
    go_ret2
    unfold EaP
    rw [HS2.out h0]
    exact⟨rfl,gr_tr hG.out.1 (gr_tr (gr_of (L8.bnew wr _) o) g1),fun h=>absurd h h0⟩
  ·obtain rfl:j=n:=by omega
   go_wp2
   go_ret2
   unfold EaP
   rw [fe_end HE.out hL.out]
   exact⟨rfl,hG.out.1,fun _=>hG.out.2⟩
end
end Go.Proofs.YtihiggnglmhggaaGreatDoor.L10
end
section
namespace Go.Proofs.YtihiggnglmhggaaGreatDoor.L10
open Go.RowKit Go.Maps
attribute [local go_sem] Oper.semAt_some
theorem set_of {w W:World} {g:Nat} {ks:List ByteArray} (h:SetAt w g ks) (e:W.heap[g]?=w.heap[g]?):SetAt W g ks:=by
 obtain⟨es,n,h1,h2⟩:=h
 exact⟨es,n,e.trans h1,h2⟩
theorem set_lt {w:World} {g:Nat} {ks:List ByteArray} (h:SetAt w g ks):g<w.heap.size:=by
 obtain⟨es,n,h1,h2⟩:=h
 exact (Array.getElem?_eq_some_iff.1 h1).1
theorem set_below {w W:World} {g:Nat} {ks:List ByteArray} (h:SetAt w g ks) (hb:Below w.heap.size w W):SetAt W g ks:=set_of h (hb.block _ (set_lt h))
theorem one_text (W:World) (t:ByteArray) (ty:TypeId) (k:Nat) (hk:k=W.heap.size):L8.StAt (W.alloc (.cells #[.string t] ty)) (.slice (some ⟨k,0,none⟩) 1 1) [t]:=by
 subst hk
 refine .inl ⟨W.heap.size,0,1,rfl,by simp,fun j hj=>?_⟩
 obtain rfl:j=0:=by simpa using hj
 have h:=heap_alloc_last W (.cells #[.string t] ty)
 unfold World.cell?
 rw [h]
 rfl
theorem look_run {w:World} {g:Nat} {ks:List ByteArray} {x:ByteArray} {b:Bool} (h:SetAt w g ks) (hx:x.size≤maxLen) (hb:L2.on ks x=b):(Instr.lookup 252 (.map (some g)) (.string x) false).run Tryz.prog w=.ok (.bool b) w:=by
 have hz:(zeroValue 4).run Tryz.prog w=.ok (.bool false) w:=by kernel_rfl
 obtain⟨v,ps,hrun,hv⟩:=World.ownsMap.lookup h L2.law9 Tryz.underlying252 hz (plainElem_bool Tryz.underlying4 false) (key_of hx)
 rw [Sl_at,hb] at hv
 obtain⟨y,rfl,hy⟩:=L2.bool_inv Tryz.underlying4 hv
 simp only [Prod.mk.injEq,DataW.lit.injEq,Lit.bool.injEq] at hy
 rw [hrun,hy.1]
theorem c1_at (i:Int) (d:L9.Df) (r:Int) (w:World) (hT:L2.Regs w) (h:deE d=r):Calls Tryz.prog 204 #[.int .i64 i,.agg #[.string d.nm,.int .i64 d.key,.int .i64 d.val,.int .i64 d.ent]] w fun e w'=>e=.returned (.int .i64 r)∧Below w.heap.size w w':=by
 have HD:=Lib.hid (fun (W:World) (hb:Below w.heap.size w W)=>checkDef_at d r W (hT.below hb) h)
 clear hT h
 go_enter Tryz.func204,Tryz.ntmps204
 go_wp2_with (go_at_call 205;((with_reducible refine (HD.out _ (L8.bnew w _)).mono ?_);rintro e w1 ⟨rfl,b1⟩))
 go_ret
 exact⟨rfl,L2.bch (L8.bnew _ _) b1⟩
theorem c2_at (i:Int) (lv:Value) (s:Stm) (r:Int) (w:World) (hT:L1.Wid w∧L2.Regs w) (hv:L8.StAt w lv s.labs) (hm:s.labs.length≤100000) (h:stE s=r):Calls Tryz.prog 207 #[.int .i64 i,.agg (smA lv s.x.op s.x.reg s.x.dst s.x.src s.x.off s.x.imm s.tg s.mp)] w fun e w'=>e=.returned (.int .i64 r)∧Below w.heap.size w w':=by
 have HD:=Lib.hid (fun (W:World) (hb:Below w.heap.size w W)=>checkStmt_at lv s.labs s.x.op s.x.reg s.x.dst s.x.src s.x.off s.x.imm s.tg s.mp r W ⟨L4.wid_below hT.1 hb,hT.2.below hb⟩ (hv.below hb) hm h)
 obtain⟨ln,hln⟩:∃ ln,s.labs.length=ln:=⟨_,rfl⟩
 obtain⟨la,lc,rfl,-⟩:=st_form hln hv
 clear hT h hv hm hln
 go_enter Tryz.func207,Tryz.ntmps207
 go_wp2_with (go_at_call 208;((with_reducible refine (HD.out _ (L8.bnew w _)).mono ?_);rintro e w1 ⟨rfl,b1⟩))
 go_ret
 exact⟨rfl,L2.bch (L8.bnew _ _) b1⟩
theorem c3_at (j:Nat) (a b c:Int) (t:ByteArray) (r:Int) (w:World) (h:(if j<255 then 0 else 16)=r):Calls Tryz.prog 209 #[.int .i64 (j:Int),.agg #[.string t,.int .i64 a,.int .i64 b,.int .i64 c]] w fun e w'=>e=.returned (.int .i64 r)∧Below w.heap.size w w':=by
 obtain⟨v,hv⟩:∃ v,decide ((j:Int)<255)=v:=⟨_,rfl⟩
 have HU:=Lib.hid (fun W=>unless_at v 16 r W (by rw [← h,← hv];by_cases hj:j<255 <;> simp [hj] <;> omega))
 clear h
 cases v
 all_goals
  have hv':=hv
  simp only [decide_eq_true_eq,decide_eq_false_iff_not] at hv'
  go_enter Tryz.func209,Tryz.ntmps209
  go_wp2_with (go_at_call 210;((with_reducible refine (HU.out _).mono ?_);rintro e w1 ⟨rfl,rfl⟩))
  go_ret
  exact⟨rfl,L8.bnew _ _⟩
theorem c4_at (i:Int) (a b c:Int) (t:ByteArray) (k3 g:Nat) (ks:List ByteArray) (r:Int) (w:World) (hc:w.cell? ⟨k3,0,none⟩=some (.map (some g))) (hs:SetAt w g ks) (hz:t.size≤maxLen) (hm:ks.length+1≤100000) (h:(if addB ks [t] then 0 else 10)=r) :
  Calls Tryz.prog 211 #[.int .i64 i,.agg #[.string t,.int .i64 a,.int .i64 b,.int .i64 c],.pointer (some ⟨k3,0,none⟩)] w fun e w'=>e=.returned (.int .i64 r)∧w.grownBy w' (some g)∧(r=0→SetAt w' g (ks++[t])):=by
 obtain⟨v,hv⟩:∃ v,addB ks [t]=v:=⟨_,rfl⟩
 rw [hv] at h
 have HA:=Lib.hid (fun (W:World) (hb:Below w.heap.size w W) (v':Value) (hl:L8.StAt W v' [t])=>add_at v' g ks [t] W (by simpa using hm) (set_below hs hb) (fun x hx=>by simp at hx;rw [hx];exact hz) hl v hv)
 have HU:=Lib.hid (fun W=>unless_at v 10 r W h)
 have HR:=Lib.hid h
 have hk:=World.block_lt_of_cell? w _ hc
 clear hv h hs
 go_enter Tryz.func211,Tryz.ntmps211
 go_wp2_with (first|(go_at_call 212;((with_reducible refine (HA.out _ (L2.bch (L8.bnew w _) (L8.bnew _ _)) _ (one_text _ t _ _ (by simp))).mono ?_);rintro e w1 ⟨rfl,g1,s1⟩))|(go_at_call 210;((with_reducible refine (HU.out _).mono ?_);rintro e w2 ⟨rfl,rfl⟩)))
 go_ret
 refine⟨rfl,gr_tr (gr_of (L2.bch (L8.bnew w _) (L8.bnew _ _)) _) g1,fun h0=>s1 ?_⟩
 cases v
 ·have:=HR.out;simp at this;omega
 ·rfl
theorem c5_at (i:Int) (lv:Value) (s:Stm) (k4 g:Nat) (ks:List ByteArray) (r:Int) (w:World) (hc:w.cell? ⟨k4,0,none⟩=some (.map (some g))) (hs:SetAt w g ks) (hz:∀ t∈s.labs,t.size≤maxLen) (hm:ks.length+s.labs.length≤100000) (hl:L8.StAt w lv s.labs) (h:(if addB ks s.labs then 0 else 10)=r) :
  Calls Tryz.prog 213 #[.int .i64 i,.agg (smA lv s.x.op s.x.reg s.x.dst s.x.src s.x.off s.x.imm s.tg s.mp),.pointer (some ⟨k4,0,none⟩)] w fun e w'=>e=.returned (.int .i64 r)∧w.grownBy w' (some g)∧(r=0→SetAt w' g (ks++s.labs)):=by
 obtain⟨v,hv⟩:∃ v,addB ks s.labs=v:=⟨_,rfl⟩
 rw [hv] at h
 have HA:=Lib.hid (fun (W:World) (hb:Below w.heap.size w W)=>add_at lv g ks s.labs W hm (set_below hs hb) hz (hl.below hb) v hv)
 have HU:=Lib.hid (fun W=>unless_at v 10 r W h)
 have HR:=Lib.hid h
 have hk:=World.block_lt_of_cell? w _ hc
 obtain⟨ln,hln⟩:∃ ln,s.labs.length=ln:=⟨_,rfl⟩
 obtain⟨la,lc,rfl,-⟩:=st_form hln hl
 clear hv h hs hl hln hm hz
 go_enter Tryz.func213,Tryz.ntmps213
 go_wp2_with (first|(go_at_call 212;((with_reducible refine (HA.out _ (L8.bnew w _)).mono ?_);rintro e w1 ⟨rfl,g1,s1⟩))|(go_at_call 210;((with_reducible refine (HU.out _).mono ?_);rintro e w2 ⟨rfl,rfl⟩)))
 go_ret
 refine⟨rfl,gr_tr (gr_of (L8.bnew w _) _) g1,fun h0=>s1 ?_⟩
 cases v
 ·have:=HR.out;simp at this;omega
 ·rfl
theorem c6_at (k1 n cap:Nat) (a:Option Addr) (r:Int) (w:World) (hc:w.cell? ⟨k1,1,none⟩=some (.slice a n cap)) (h:(if 0<n then 0 else 15)=r) :
  Calls Tryz.prog 214 #[.pointer (some ⟨k1,0,none⟩)] w fun e w'=>e=.returned (.tuple #[.int .i64 0,.int .i64 r])∧w=w':=by
 obtain⟨v,hv⟩:∃ v,decide (0<n)=v:=⟨_,rfl⟩
 have HU:=Lib.hid (fun W=>unless_at v 15 r W (by rw [← h,← hv];by_cases hj:0<n <;> simp [hj] <;> omega))
 clear h
 cases v
 all_goals
  simp only [decide_eq_true_eq,decide_eq_false_iff_not] at hv
  have hv1:(0:Int)<(n:Int)↔0<n:=by omega
  go_enter Tryz.func214,Tryz.ntmps214
  go_wp2_with (go_at_call 210;((with_reducible refine (HU.out _).mono ?_);rintro e w1 ⟨rfl,rfl⟩))
  go_ret2
  exact⟨rfl,rfl⟩
theorem c7_at (i:Int) (la:Option Addr) (ln lc:Nat) (s:Stm) (k4 k3 g4 g3:Nat) (ls ms:List ByteArray) (r:Int) (w:World) (hc4:w.cell? ⟨k4,0,none⟩=some (.map (some g4))) (hc3:w.cell? ⟨k3,0,none⟩=some (.map (some g3))) (hs4:SetAt w g4 ls) (hs3:SetAt w g3 ms) (hz:s.tg.size≤maxLen∧s.mp.size≤maxLen)
  (h:(if (s.tg.toList.isEmpty || L2.on ls s.tg) && (s.mp.toList.isEmpty || L2.on ms s.mp) then 0 else 11)=r) :
  Calls Tryz.prog 215 #[.int .i64 i,.agg (smA (.slice la ln lc) s.x.op s.x.reg s.x.dst s.x.src s.x.off s.x.imm s.tg s.mp),.pointer (some ⟨k4,0,none⟩),.pointer (some ⟨k3,0,none⟩)] w fun e w'=>e=.returned (.int .i64 r)∧Below w.heap.size w w':=by
 obtain⟨labs,x,tg,mp⟩:=s
 simp only at hz h ⊢
 obtain⟨bt,hbt⟩:∃ v,L2.on ls tg=v:=⟨_,rfl⟩
 obtain⟨bm,hbm⟩:∃ v,L2.on ms mp=v:=⟨_,rfl⟩
 rw [hbt,hbm] at h
 have hl4:=look_run (set_below hs4 (L8.bnew w (.cells (smA (.slice la ln lc) x.op x.reg x.dst x.src x.off x.imm tg mp) 80))) hz.1 hbt
 have hl3:=look_run (set_below hs3 (L8.bnew w (.cells (smA (.slice la ln lc) x.op x.reg x.dst x.src x.off x.imm tg mp) 80))) hz.2 hbm
 have hk4:=World.block_lt_of_cell? w _ hc4
 have hk3:=World.block_lt_of_cell? w _ hc3
 have HR:=Lib.hid h
 clear hbt hbm hs4 hs3 h hz
 cases hte:tg.toList.isEmpty <;> cases bt <;> cases hme:mp.toList.isEmpty <;> cases bm
 all_goals
  rw [hte,hme] at HR
  have hR:=HR.out
  simp at hR
  subst hR
  clear HR
  go_enter Tryz.func215,Tryz.ntmps215
  go_wp2
  go_ret
  exact⟨rfl,L8.bnew _ _⟩
theorem c8_at (i:Int) (la:Option Addr) (ln lc:Nat) (s:Stm) (r:Int) (w:World) (h:wrE s=r) :
  Calls Tryz.prog 216 #[.int .i64 i,.agg (smA (.slice la ln lc) s.x.op s.x.reg s.x.dst s.x.src s.x.off s.x.imm s.tg s.mp)] w fun e w'=>e=.returned (.int .i64 r)∧Below w.heap.size w w':=by
 obtain⟨v,hv⟩:∃ v,L4.wri (fmI s.x) s.x.dst=v:=⟨_,rfl⟩
 have HW:=Lib.hid (fun W=>L4.writes_at s.x.op s.x.reg s.x.dst s.x.src s.x.off s.x.imm _ v W rfl hv)
 unfold wrE at h
 rw [hv] at h
 clear hv
 by_cases h10:v=10
 ·subst h10
  have HU:=Lib.hid (fun W=>unless_at false 14 r W (by rw [← h];rfl))
  clear h
  go_enter Tryz.func216,Tryz.ntmps216
  go_wp2_with (go_at_call 101;((with_reducible refine (HW.out _).mono ?_);rintro e w1 ⟨rfl,b1⟩))
  refine Calls.mono (HU.out _) ?_
  rintro e w2 ⟨rfl,rfl⟩
  go_wp2
  go_ret
  exact⟨rfl,L2.bch (L8.bnew _ _) b1⟩
 ·have HU:=Lib.hid (fun W=>unless_at (v != 10) 14 r W (by rw [← h,if_neg h10];simp [h10]))
  clear h
  go_enter Tryz.func216,Tryz.ntmps216
  go_wp2_with (go_at_call 101;((with_reducible refine (HW.out _).mono ?_);rintro e w1 ⟨rfl,b1⟩))
  refine Calls.mono (HU.out _) ?_
  rintro e w2 ⟨rfl,rfl⟩
  go_wp2
  go_ret
  exact⟨rfl,L2.bch (L8.bnew _ _) b1⟩
theorem c9_at (j:Nat) (la:Option Addr) (ln lc:Nat) (s:Stm) (k1 n cap:Nat) (a:Option Addr) (r:Int) (w:World) (hc:w.cell? ⟨k1,1,none⟩=some (.slice a n cap)) (hn:n≤100000) (h:enE n j s=r) :
  Calls Tryz.prog 217 #[.int .i64 (j:Int),.agg (smA (.slice la ln lc) s.x.op s.x.reg s.x.dst s.x.src s.x.off s.x.imm s.tg s.mp),.pointer (some ⟨k1,0,none⟩)] w fun e w'=>e=.returned (.int .i64 r)∧Below w.heap.size w w':=by
 unfold enE at h
 obtain⟨v,hv⟩:∃ v,L4.endF (fmI s.x)=v:=⟨_,rfl⟩
 rw [hv] at h
 have HE:=Lib.hid (fun W=>L4.ends_at s.x.op s.x.reg s.x.dst s.x.src s.x.off s.x.imm _ v W rfl hv)
 have hk:=World.block_lt_of_cell? w _ hc
 have hw:IntKind.i64.wrap ((n:Int)-1)=(n:Int)-1:=IntWalk.i64_in _ (by omega)
 clear hv
 by_cases hj:(j:Int)<(n:Int)-1
 ·obtain rfl:0=r:=by rw [← h];simp [hj]
  clear h
  go_enter Tryz.func217,Tryz.ntmps217
  go_wp2
  go_ret
  exact⟨rfl,L8.bnew _ _⟩
 ·have HU:=Lib.hid (fun W=>unless_at v 15 r W (by rw [← h];simp [hj]))
  clear h
  go_enter Tryz.func217,Tryz.ntmps217
  go_wp2_with (go_at_call 103;((with_reducible refine (HE.out _).mono ?_);rintro e w1 ⟨rfl,b1⟩))
  refine Calls.mono (HU.out _) ?_
  rintro e w2 ⟨rfl,rfl⟩
  go_wp2
  go_ret
  exact⟨rfl,L2.bch (L8.bnew _ _) b1⟩
end Go.Proofs.YtihiggnglmhggaaGreatDoor.L10
end
