/- Lemmas and walks of L10Sml, L10Cks: what each theorem states; conditions stand in each theorem. -/
import Derived.Test.YtdgnjhhieemcaaaGreatDoorM3
set_option maxHeartbeats 4000000
set_option maxRecDepth 100000
section
namespace Go.Proofs.YtdgnjhhieemcaaaGreatDoor.L10
open Go.RowKit Go.Maps
attribute [local go_sem] Oper.semAt_some
theorem cells4 {w:World} {k:Nat} {a b c d:Value} {t:TypeId} (h:w.heap[k]?=some (.cells #[a,b,c,d] t)):w.cell? ⟨k,0,none⟩=some a∧w.cell? ⟨k,1,none⟩=some b∧w.cell? ⟨k,2,none⟩=some c∧w.cell? ⟨k,3,none⟩=some d:=by
 simp [World.cell?,h]
theorem cells9 {w:World} {k:Nat} {a b c d e f g i j:Value} {t:TypeId} (hh:w.heap[k]?=some (.cells #[a,b,c,d,e,f,g,i,j] t)) :
  w.cell? ⟨k,0,none⟩=some a∧w.cell? ⟨k,1,none⟩=some b∧w.cell? ⟨k,2,none⟩=some c∧w.cell? ⟨k,3,none⟩=some d∧w.cell? ⟨k,4,none⟩=some e∧w.cell? ⟨k,5,none⟩=some f∧w.cell? ⟨k,6,none⟩=some g∧w.cell? ⟨k,7,none⟩=some i∧w.cell? ⟨k,8,none⟩=some j:=by
 simp [World.cell?,hh]
theorem unless_at (b:Bool) (e r:Int) (w:World) (h:(if b then 0 else e)=r):Calls Tryz.prog 178 #[.bool b,.int .i64 e] w fun en w'=>en=.returned (.int .i64 r)∧w=w':=by
 subst h
 cases b
 all_goals
  go_enter Tryz.func178,Tryz.ntmps178
  go_wp2
  go_ret
  exact⟨rfl,rfl⟩
theorem upto_at (g n:Int) (b:Bool) (w:World) (h:upB g n=b):Calls Tryz.prog 219 #[.int .i64 g,.int .i64 n] w fun e w'=>e=.returned (.bool b)∧w=w':=by
 subst h
 unfold upB
 go_enter Tryz.func219,Tryz.ntmps219
 go_wp2
 all_goals
  go_ret
  exact⟨L2.ret_bool (by simp;try omega),rfl⟩
theorem checkDef_at (d:L9.Df) (r:Int) (w:World) (hT:L2.Regs w) (h:deE d=r):Calls Tryz.prog 173 #[.agg #[.string d.nm,.int .i64 d.key,.int .i64 d.val,.int .i64 d.ent]] w fun e w'=>e=.returned (.int .i64 r)∧Below w.heap.size w w':=by
 obtain⟨nm,key,val,ent⟩:=d
 unfold deE at h
 simp only at h ⊢
 obtain⟨v,hv⟩:∃ v,L2.vd nm=v:=⟨_,rfl⟩
 obtain⟨p,hp⟩:∃ v,upB 64 key=v:=⟨_,rfl⟩
 obtain⟨q,hq⟩:∃ v,upB 256 val=v:=⟨_,rfl⟩
 obtain⟨u,hu⟩:∃ v,upB 1024 ent=v:=⟨_,rfl⟩
 rw [hv,hp,hq,hu] at h
 subst h
 have HV:=Lib.hid (fun (W:World) (hb:Below w.heap.size w W)=>L2.valid_at nm v W (hT.below hb) hv)
 have HP:=Lib.hid (fun W=>upto_at 64 key p W hp)
 have HQ:=Lib.hid (fun W=>upto_at 256 val q W hq)
 have HU:=Lib.hid (fun W=>upto_at 1024 ent u W hu)
 have HN:=Lib.hid (fun W=>unless_at ((p && q) && u) 9 _ W rfl)
 clear hv hp hq hu hT
 cases v
 ·go_enter Tryz.func173,Tryz.ntmps173
  go_wp2_with (go_at_call 218;((with_reducible refine (HV.out _ (L8.bnew _ _)).mono ?_);rintro e w1 ⟨rfl,b1⟩))
  go_ret
  exact⟨rfl,L2.bch (L8.bnew _ _) b1⟩
 ·cases p <;> cases q <;> cases u
  all_goals
   simp only [Bool.and_self,Bool.and_false,Bool.and_true,if_true,if_false,Bool.false_eq_true] at HN ⊢
   go_enter Tryz.func173,Tryz.ntmps173
   go_wp2_with (first|(go_at_call 218;((with_reducible refine (HV.out _ (L8.bnew _ _)).mono ?_);rintro e w1 ⟨rfl,b1⟩;obtain⟨x0,x1,x2,x3⟩:=cells4 (L8.row_up (heap_alloc_last w _) b1)))|(go_at_call 219;((with_reducible refine (HP.out _).mono ?_);rintro e w2 ⟨rfl,rfl⟩))|(go_at_call 219;((with_reducible refine (HQ.out _).mono ?_);rintro e w2 ⟨rfl,rfl⟩))|(go_at_call 219;((with_reducible refine (HU.out _).mono ?_);rintro e w2 ⟨rfl,rfl⟩))|(go_at_call 178;((with_reducible refine (HN.out _).mono ?_);rintro e w2 ⟨rfl,rfl⟩)))
   go_ret
   exact⟨rfl,L2.bch (L8.bnew _ _) b1⟩
theorem key_of {x:ByteArray} (h:x.size≤maxLen):keyOf Tryz.prog 9 (.string x)=some (L2.txt x):=WideMaps.keyOf_string_mk Tryz.underlying9 h
theorem map_cells {w:World} {g:Nat} {ks:List ByteArray} (h:SetAt w g ks):∀ cs t fr,w.heap[g]?≠some (.cells cs t fr):=by
 intro cs t fr e
 obtain⟨_,_,hh,_⟩:=h
 rw [e] at hh
 cases hh
theorem addB_none (ks:List ByteArray):addB ks []=true:=rfl
structure AddI (g:Nat) (ks labs:List ByteArray) (w:World) (j:Nat) (W:World):Prop where
 set:SetAt W g (ks++labs.take j)
 gr:w.grownBy W (some g)
 res:addB (ks++labs.take j) (labs.drop j)=addB ks labs
theorem add_step (ks labs:List ByteArray) (j:Nat) (h:j<labs.length):addB (ks++labs.take j) (labs.drop j)=if L2.on (ks++labs.take j) labs[j] then false else addB (ks++labs.take (j+1)) (labs.drop (j+1)):=by
 rw [List.drop_eq_getElem_cons h,addB,List.take_add_one,List.getElem?_eq_getElem h,Option.toList,List.append_assoc]
theorem add_end (ks labs:List ByteArray) (j:Nat) (h:labs.length≤j):addB (ks++labs.take j) (labs.drop j)=true:=by
 rw [List.drop_eq_nil_of_le h];rfl
theorem add_some (b o n cap g:Nat) (ks labs:List ByteArray) (w:World) (hn:labs.length=n) (hm:ks.length+n≤100000) (hs:SetAt w g ks) (hz:∀ t∈labs,t.size≤maxLen)
  (hc:∀ j,j<n→w.cell? ⟨b,o+j,none⟩=some (.string (labs.getD j ByteArray.empty))) (hbg:b≠g) (r:Bool) (hr:addB ks labs=r) :
  Calls Tryz.prog 180 #[.map (some g),.slice (some ⟨b,o,none⟩) n cap] w fun e w'=>e=.returned (.bool r)∧w.grownBy w' (some g)∧(r=true→SetAt w' g (ks++labs)):=by
 subst hr
 have HC:=Lib.hid hc
 have HZ:=Lib.hid hz
 have HN:=Lib.hid hn
 have HI:Hid (AddI g ks labs w 0 w):=Lib.hid ⟨by simpa using hs,⟨rfl,rfl,rfl,Nat.le_refl _,fun _ _ _=>rfl⟩,by simp⟩
 clear hc hz hn hs
 go_enter Tryz.func180,Tryz.ntmps180
 go_wp2
 go_loopw [9] (fun i wr=>∃ j:Nat,j≤n∧i=.int .i64 (j:Int)∧AddI g ks labs w j wr) (fun i _=>n-(intOf i).toNat)
 case atStart=>exact⟨0,Nat.zero_le _,rfl,HI.out⟩
 case round =>
  obtain⟨j,hj,rfl,hI⟩:=hrel
  by_cases hlt:j<n
  ·have hjl:j<labs.length:=by rw [HN.out];exact hlt
   obtain⟨x,hx⟩:∃ x,labs[j]=x:=⟨_,rfl⟩
   have hcx:wr.cell? ⟨b,o+j,none⟩=some (.string x):=hI.gr.cell (by rw [HC.out j hlt,List.getD,List.getElem?_eq_getElem hjl,hx];rfl) (by simpa using hbg)
   have hkey:=key_of (HZ.out labs[j] (List.getElem_mem hjl))
   rw [hx] at hkey
   have hown:=hI.set
   have hlen:(ks++labs.take j).length=ks.length+j:=by rw [List.length_append,List.length_take];omega
   have hat:=Sl_at (ks++labs.take j) x
   have hres:=hI.res
   rw [add_step ks labs j hjl,hx] at hres
   obtain⟨c,hcc⟩:∃ c,L2.on (ks++labs.take j) x=c:=⟨_,rfl⟩
   rw [hcc] at hat hres
   have hsn:ks++labs.take (j+1)=(ks++labs.take j)++[x]:=by rw [List.take_add_one,List.getElem?_eq_getElem hjl,hx,Option.toList,List.append_assoc]
   have HS:=Lib.hid hsn
   have HG:=Lib.hid hI.gr
   obtain⟨K,hK⟩:∃ K,ks++labs.take j=K:=⟨_,rfl⟩
   unfold SetAt at hown
   rw [hK] at hown hat HS hlen
   rw [hlen] at hown
   have HL:=Lib.hid hlen
   clear hI hx hcc hsn hK hlen
   cases c
   ·have HR:=Lib.hid hres
    clear hres
    go_wp2_with (first
     | (at_lookup;refine L2.wpList_look_bool _ rfl _ _ 256 rfl 9 4 L2.law9 Tryz.underlying256 Tryz.underlying4 (by kernel_rfl) g _ _ rfl hown _ _ rfl hkey false hat ?_)
     | (at_mapUpdate;refine wpList_mapUpdate_own _ rfl _ _ _ 256 rfl 9 4 L2.law9 Tryz.underlying256 (plainElem (H:=Unit) Tryz.prog 4) g _ _ rfl hown (by unfold maxLen;omega) _ _ _ rfl rfl hkey _ [] (plainElem_bool Tryz.underlying4 true) ?_;intro w1 hown1 hgrow1)
     | go_in)
    go_roundw
    case rel =>
     refine⟨j+1,by omega,by go_num,?_,⟨hgrow1.os.trans HG.out.os,hgrow1.tape.trans HG.out.tape,hgrow1.output.trans HG.out.output,Nat.le_trans HG.out.size hgrow1.size,fun k hk hkg=>(hgrow1.block k (Nat.lt_of_lt_of_le hk HG.out.size) hkg).trans (HG.out.block k hk hkg)⟩,?_⟩
     ·unfold SetAt
      rw [HS.out,Sl_snoc,List.length_append,HL.out]
      exact hown1
     ·simpa using HR.out
    case measure=>simp [intOf];omega
   ·have HR:=Lib.hid hres
    clear hres
    go_wp2_with (first
     | (at_lookup;refine L2.wpList_look_bool _ rfl _ _ 256 rfl 9 4 L2.law9 Tryz.underlying256 Tryz.underlying4 (by kernel_rfl) g _ _ rfl hown _ _ rfl hkey true hat ?_)
     | go_in)
    go_ret
    rw [← HR.out]
    exact⟨rfl,HG.out,fun h=>by simp at h⟩
  ·obtain rfl:j=n:=by omega
   have HI2:=Lib.hid hI
   clear hI
   go_wp2
   go_ret
   have hI:=HI2.out
   have hr:=hI.res
   have hs:=hI.set
   rw [add_end ks labs _ (by rw [HN.out];exact Nat.le_refl _)] at hr
   rw [List.take_of_length_le (by rw [HN.out];exact Nat.le_refl _)] at hs
   rw [← hr]
   exact⟨rfl,hI.gr,fun _=>hs⟩
theorem add_none (a:Option Addr) (cap g:Nat) (ks:List ByteArray) (w:World) (hs:SetAt w g ks) :
  Calls Tryz.prog 180 #[.map (some g),.slice a 0 cap] w fun e w'=>e=.returned (.bool true)∧w.grownBy w' (some g)∧SetAt w' g ks:=by
 have HS:=Lib.hid hs
 clear hs
 go_enter Tryz.func180,Tryz.ntmps180
 go_wp2
 refine wp_loop_rounds 1 ?_
 rw [rounds_succ]
 go_wp2
 go_ret
 exact⟨rfl,⟨rfl,rfl,rfl,Nat.le_refl _,fun _ _ _=>rfl⟩,HS.out⟩
theorem add_at (v:Value) (g:Nat) (ks labs:List ByteArray) (w:World) (hm:ks.length+labs.length≤100000) (hs:SetAt w g ks) (hz:∀ t∈labs,t.size≤maxLen) (hv:L8.StAt w v labs) (r:Bool) (hr:addB ks labs=r) :
  Calls Tryz.prog 180 #[.map (some g),v] w fun e w'=>e=.returned (.bool r)∧w.grownBy w' (some g)∧(r=true→SetAt w' g (ks++labs)):=by
 rcases hv with ⟨b,o,cap,rfl,hlt,hc⟩|⟨rfl,a,cap,rfl⟩
 ·by_cases h0:labs.length=0
  ·have:=List.eq_nil_of_length_eq_zero h0
   subst this
   rw [addB_none] at hr
   subst hr
   exact (add_none _ cap g ks w hs).mono fun e w' ⟨h1,h2,h3⟩=>⟨h1,h2,fun _=>by rw [List.append_nil];exact h3⟩
  ·refine add_some b o _ cap g ks labs w rfl hm hs hz hc ?_ r hr
   rintro rfl
   have:=hc 0 (by omega)
   unfold World.cell? at this
   split at this
   ·exact map_cells hs _ _ _ ‹_›
   ·cases this
 ·rw [addB_none] at hr
  subst hr
  exact (add_none a cap g ks w hs).mono fun e w' ⟨h1,h2,h3⟩=>⟨h1,h2,fun _=>by rw [List.append_nil];exact h3⟩
theorem st_form {w:World} {v:Value} {l:List ByteArray} {n:Nat} (hn:l.length=n) (h:L8.StAt w v l):∃ a c,v=.slice a n c∧(0<n→∃ b o,a=some ⟨b,o,none⟩∧b<w.heap.size∧∀ j,(h:j<l.length)→w.cell? ⟨b,o+j,none⟩=some (.string l[j])):=by
 subst hn
 rcases h with ⟨b,o,cap,rfl,hb,hc⟩|⟨rfl,a,cap,rfl⟩
 ·exact⟨_,_,rfl,fun _=>⟨b,o,rfl,hb,fun j hj=>by have:=hc j hj;simpa [List.getD,List.getElem?_eq_getElem hj] using this⟩⟩
 ·exact⟨a,cap,rfl,fun h=>absurd h (by simp)⟩
abbrev smA (lv:Value) (op:Int) (reg:Bool) (dst src off imm:Int) (tg mp:ByteArray):Array Value:=#[lv,.int .i64 op,.bool reg,.int .i64 dst,.int .i64 src,.int .i64 off,.int .i64 imm,.string tg,.string mp]
def Bt (w W:World) (g:Nat) (cs:Array Value):Prop:=Below w.heap.size w W∧W.heap[g]?=some (.cells cs 65)
theorem Bt.below {w W W':World} {g:Nat} {cs:Array Value} (h:Bt w W g cs) (hb:Below W.heap.size W W'):Bt w W' g cs:=⟨L2.bch h.1 hb,L8.row_up h.2 hb⟩
theorem keepB {w W W':World} {g:Nat} {a b c d e f i j k:Value} (hb:Below W.heap.size W W') (h:Bt w W g #[a,b,c,d,e,f,i,j,k]) :
  Bt w W' g #[a,b,c,d,e,f,i,j,k]∧W'.cell? ⟨g,0,none⟩=some a∧W'.cell? ⟨g,1,none⟩=some b∧W'.cell? ⟨g,2,none⟩=some c∧W'.cell? ⟨g,3,none⟩=some d∧W'.cell? ⟨g,4,none⟩=some e∧W'.cell? ⟨g,5,none⟩=some f∧W'.cell? ⟨g,6,none⟩=some i∧W'.cell? ⟨g,7,none⟩=some j∧W'.cell? ⟨g,8,none⟩=some k :=
 ⟨h.below hb,cells9 (h.below hb).2⟩
theorem keepC {w W W':World} {g:Nat} {a b c d e f i j k:Value} (hb:Below W.heap.size W W') (h:Bt w W g #[a,b,c,d,e,f,i,j,k]∧W.cell? ⟨g,0,none⟩=some a∧W.cell? ⟨g,1,none⟩=some b∧W.cell? ⟨g,2,none⟩=some c∧W.cell? ⟨g,3,none⟩=some d∧W.cell? ⟨g,4,none⟩=some e∧W.cell? ⟨g,5,none⟩=some f∧W.cell? ⟨g,6,none⟩=some i∧W.cell? ⟨g,7,none⟩=some j∧W.cell? ⟨g,8,none⟩=some k) :
  Bt w W' g #[a,b,c,d,e,f,i,j,k]∧W'.cell? ⟨g,0,none⟩=some a∧W'.cell? ⟨g,1,none⟩=some b∧W'.cell? ⟨g,2,none⟩=some c∧W'.cell? ⟨g,3,none⟩=some d∧W'.cell? ⟨g,4,none⟩=some e∧W'.cell? ⟨g,5,none⟩=some f∧W'.cell? ⟨g,6,none⟩=some i∧W'.cell? ⟨g,7,none⟩=some j∧W'.cell? ⟨g,8,none⟩=some k:=keepB hb h.1
theorem kinds3 (f:Int):(L4.jmpF f=true∧(f==11)=false)∨(L4.jmpF f=false∧(f==11)=true)∨(L4.jmpF f=false∧(f==11)=false):=by
 unfold L4.jmpF
 by_cases h3:f=3
 ·subst h3;exact .inl ⟨rfl,rfl⟩
 by_cases h4:f=4
 ·subst h4;exact .inl ⟨rfl,rfl⟩
 by_cases h11:f=11
 ·subst h11;exact .inr (.inl ⟨rfl,rfl⟩)
 ·exact .inr (.inr (by simp [h3,h4,h11]))
theorem stE_eq (labs:List ByteArray) (op:Int) (reg:Bool) (dst src off imm:Int) (tg mp:ByteArray) (f c:Int) (jm rf:Bool) (hf:L3.frm (L3.ix op)=f) (hc:L4.chkF f reg dst src off imm=c) (hj:L4.jmpF f=jm) (hr:(f==11)=rf) :
  stE ⟨labs,⟨op,reg,dst,src,off,imm⟩,tg,mp⟩=if labs.all L2.vd then (if c=0 then (if (jm && off != 0) || (rf && imm != 0) || (!jm && !tg.toList.isEmpty) || (!rf && !mp.toList.isEmpty) then 12 else if (jm && !L2.vd tg) || (rf && !L2.vd mp) then 7 else 0) else c) else 7:=by
 subst hf hc hj hr
 rfl
theorem checkStmt_at (lv:Value) (labs:List ByteArray) (op:Int) (reg:Bool) (dst src off imm:Int) (tg mp:ByteArray) (r:Int) (w:World) (hT:L1.Wid w∧L2.Regs w) (hv:L8.StAt w lv labs) (hm:labs.length≤100000) (h:stE ⟨labs,⟨op,reg,dst,src,off,imm⟩,tg,mp⟩=r) :
  Calls Tryz.prog 176 #[.agg (smA lv op reg dst src off imm tg mp)] w fun e w'=>e=.returned (.int .i64 r)∧Below w.heap.size w w':=by
 obtain⟨n,hn⟩:∃ n,labs.length=n:=⟨_,rfl⟩
 obtain⟨f,hf⟩:∃ f,L3.frm (L3.ix op)=f:=⟨_,rfl⟩
 obtain⟨c,hcc⟩:∃ c,L4.chkF f reg dst src off imm=c:=⟨_,rfl⟩
 obtain⟨jm,hjm⟩:∃ c,L4.jmpF f=c:=⟨_,rfl⟩
 obtain⟨rf,hrf⟩:∃ c,(f==11)=c:=⟨_,rfl⟩
 rw [stE_eq labs op reg dst src off imm tg mp f c jm rf hf hcc hjm hrf] at h
 have HR:=Lib.hid h
 have K3:Hid ((jm=true∧rf=false)∨(jm=false∧rf=true)∨(jm=false∧rf=false)):=Lib.hid (by have:=kinds3 f;rwa [hjm,hrf] at this)
 have HV:=Lib.hid (fun (t:ByteArray) (W:World) (hb:Below w.heap.size w W) (v:Bool) (hv:L2.vd t=v)=>L2.valid_at t v W (hT.2.below hb) hv)
 have HC:=Lib.hid (fun (W:World) (hb:Below w.heap.size w W)=>L4.check_is op reg dst src off imm f c W (L4.wid_below hT.1 hb) hf hcc)
 have HJ:=Lib.hid (fun W=>L4.jumps_at op reg dst src off imm f jm W hf hjm)
 have HF:=Lib.hid (fun W=>L4.form_at op f W hf)
 have HRF:=Lib.hid hrf
 have HA:=Lib.hid (st_form hn hv)
 have HN:=Lib.hid hn
 clear hv h hf hcc hjm hrf hn hT
 obtain⟨a,cap,rfl,hc⟩:=HA.out
 have HD:=Lib.hid hc
 clear hc HA
 have hS:=heap_alloc_last w (.cells (smA (.slice a n cap) op reg dst src off imm tg mp) 65)
 have hB0:=L8.bnew w (.cells (smA (.slice a n cap) op reg dst src off imm tg mp) 65)
 obtain⟨g,hg⟩:∃ g,g=w.heap.size:=⟨_,rfl⟩
 go_enter Tryz.func176,Tryz.ntmps176
 go_wp2
 rw [← hg] at hS ⊢
 clear hg
 generalize w.alloc (.cells (smA (.slice a n cap) op reg dst src off imm tg mp) 65)=W0 at hS hB0 ⊢
 have HW:=Lib.hid (show Below w.heap.size w W0 from hB0)
 clear hB0
 go_loopw [11] (fun i wr=>∃ j:Nat,j≤n∧i=.int .i64 (j:Int)∧Below W0.heap.size W0 wr∧Hid ((labs.drop j).all L2.vd=labs.all L2.vd)) (fun i _=>n-(intOf i).toNat)
 case atStart=>exact⟨0,Nat.zero_le _,rfl,Below.refl _ _,Lib.hid rfl⟩
 case round =>
  obtain⟨j,hj,rfl,hB,hL⟩:=hrel
  by_cases hlt:j<n
  ·have hjl:j<labs.length:=by rw [HN.out];exact hlt
   obtain⟨b,o,rfl,hb,hc⟩:=HD.out (by omega)
   obtain⟨x,hx⟩:∃ x,labs[j]=x:=⟨_,rfl⟩
   have hcx:wr.cell? ⟨b,o+j,none⟩=some (.string x):=(hB.cell (by exact Nat.lt_of_lt_of_le hb HW.out.size)).trans ((HW.out.cell (by exact hb)).trans (by rw [hc j hjl,hx]))
   have hst:labs.all L2.vd=(L2.vd x && (labs.drop (j+1)).all L2.vd):=by rw [← hL.out,List.drop_eq_getElem_cons hjl,List.all_cons,hx]
   obtain⟨v,hv⟩:∃ v,L2.vd x=v:=⟨_,rfl⟩
   rw [hv] at hst
   have HVV:=Lib.hid (HV.out x wr (L2.bch HW.out hB) v hv)
   have HS:=Lib.hid hst
   clear hc hx hst hv hL
   cases v
   ·obtain rfl:r=7:=by rw [← HR.out,HS.out];rfl
    go_wp2_with (go_at_call 218;((with_reducible refine (HVV.out).mono ?_);rintro e w1 ⟨rfl,b1⟩))
    go_ret
    exact⟨rfl,L2.bch HW.out (L2.bch hB b1)⟩
   ·go_wp2_with (go_at_call 218;((with_reducible refine (HVV.out).mono ?_);rintro e w1 ⟨rfl,b1⟩))
    go_roundw
    case rel=>exact⟨j+1,by omega,by go_num,L2.bch hB b1,Lib.hid (by rw [HS.out];rfl)⟩
    case measure=>simp [intOf];omega
  ·obtain rfl:j=n:=by omega
   have hall:labs.all L2.vd=true:=by rw [← hL.out,List.drop_eq_nil_of_le (by rw [HN.out];exact Nat.le_refl _)];rfl
   have hr:=HR.out
   rw [hall,if_pos rfl] at hr
   have hS2:=L8.row_up hS hB
   have B2:=L2.bch HW.out hB
   obtain⟨x0,x1,x2,x3,x4,x5,x6,x7,x8⟩:=cells9 hS2
   clear hall HR hL HD HN hS
   by_cases hc0:c=0
   ·subst hc0
    rw [if_pos rfl] at hr
    have HR:=Lib.hid hr
    clear hr
    go_upto_region 10 with (go_at_call 166;((with_reducible refine (HC.out _ B2).mono ?_);rintro e w1 ⟨rfl,b1⟩))
    have X:Bt w w1 g (smA (.slice a j cap) op reg dst src off imm tg mp):=⟨L2.bch B2 b1,L8.row_up hS2 b1⟩
    have hrf:=HRF.out
    clear hS2 x0 x1 x2 x3 x4 x5 x6 x7 x8 HC
    go_region_held3 (fun W=>Bt w W g (smA (.slice a j cap) op reg dst src off imm tg mp)∧W.cell? ⟨g,0,none⟩=some (.slice a j cap)∧W.cell? ⟨g,1,none⟩=some (.int .i64 op)∧W.cell? ⟨g,2,none⟩=some (.bool reg)∧W.cell? ⟨g,3,none⟩=some (.int .i64 dst)∧W.cell? ⟨g,4,none⟩=some (.int .i64 src)∧W.cell? ⟨g,5,none⟩=some (.int .i64 off)∧W.cell? ⟨g,6,none⟩=some (.int .i64 imm)∧W.cell? ⟨g,7,none⟩=some (.string tg)∧W.cell? ⟨g,8,none⟩=some (.string mp))
     (first|exact keepB (Below.refl _ _).drew X|exact keepC hb9 (by assumption)|assumption)
     (first|(go_at_call 196;((with_reducible refine (HJ.out _).mono ?_);rintro e w9 ⟨rfl,hb9⟩))|(go_at_call 62;((with_reducible refine (HF.out _).mono ?_);rintro e w9 ⟨rfl,hb9⟩)))
    all_goals
     rename_i hh
     obtain⟨X2,y0,y1,y2,y3,y4,y5,y6,y7,y8⟩:=hh
     have HV2:=Lib.hid (fun (t:ByteArray) (v:Bool) (hv:L2.vd t=v)=>HV.out t _ X2.1 v hv)
     have HX:=Lib.hid X2.1
     clear X2 X HJ HF hrf HRF HV
     rcases K3.out with ⟨rfl,rfl⟩|⟨rfl,rfl⟩|⟨rfl,rfl⟩
     ·by_cases ho:off=0
      ·subst ho
       cases hme:mp.toList.isEmpty
       ·obtain rfl:r=12:=by rw [← HR.out];simp [hme]
        clear HR
        go_wp2
        go_ret
        exact⟨rfl,HX.out⟩
       ·obtain⟨v,hv⟩:∃ v,L2.vd tg=v:=⟨_,rfl⟩
        have HVV:=Lib.hid (HV2.out tg v hv)
        cases v
        ·obtain rfl:r=7:=by rw [← HR.out];simp [hme,hv]
         clear HR hv
         go_wp2_with (go_at_call 218;((with_reducible refine (HVV.out).mono ?_);rintro e w2 ⟨rfl,b2⟩))
         go_ret
         exact⟨rfl,L2.bch HX.out b2⟩
        ·obtain rfl:r=0:=by rw [← HR.out];simp [hme,hv]
         clear HR hv
         go_wp2_with (go_at_call 218;((with_reducible refine (HVV.out).mono ?_);rintro e w2 ⟨rfl,b2⟩))
         go_ret
         exact⟨rfl,L2.bch HX.out b2⟩
      ·obtain rfl:r=12:=by rw [← HR.out];simp [ho]
       clear HR
       go_wp2
       go_ret
       exact⟨rfl,HX.out⟩
     ·by_cases ho:imm=0
      ·subst ho
       cases hme:tg.toList.isEmpty
       ·obtain rfl:r=12:=by rw [← HR.out];simp [hme]
        clear HR
        go_wp2
        go_ret
        exact⟨rfl,HX.out⟩
       ·obtain⟨v,hv⟩:∃ v,L2.vd mp=v:=⟨_,rfl⟩
        have HVV:=Lib.hid (HV2.out mp v hv)
        cases v
        ·obtain rfl:r=7:=by rw [← HR.out];simp [hme,hv]
         clear HR hv
         go_wp2_with (go_at_call 218;((with_reducible refine (HVV.out).mono ?_);rintro e w2 ⟨rfl,b2⟩))
         go_ret
         exact⟨rfl,L2.bch HX.out b2⟩
        ·obtain rfl:r=0:=by rw [← HR.out];simp [hme,hv]
         clear HR hv
         go_wp2_with (go_at_call 218;((with_reducible refine (HVV.out).mono ?_);rintro e w2 ⟨rfl,b2⟩))
         go_ret
         exact⟨rfl,L2.bch HX.out b2⟩
      ·obtain rfl:r=12:=by rw [← HR.out];simp [ho]
       clear HR
       go_wp2
       go_ret
       exact⟨rfl,HX.out⟩
     ·cases hte:tg.toList.isEmpty
      ·obtain rfl:r=12:=by rw [← HR.out];simp [hte]
       clear HR
       go_wp2
       go_ret
       exact⟨rfl,HX.out⟩
      ·cases hme:mp.toList.isEmpty
       ·obtain rfl:r=12:=by rw [← HR.out];simp [hte,hme]
        clear HR
        go_wp2
        go_ret
        exact⟨rfl,HX.out⟩
       ·obtain rfl:r=0:=by rw [← HR.out];simp [hte,hme]
        clear HR
        go_wp2
        go_ret
        exact⟨rfl,HX.out⟩
   ·rw [if_neg hc0] at hr
    subst hr
    go_wp2_with (go_at_call 166;((with_reducible refine (HC.out _ B2).mono ?_);rintro e w1 ⟨rfl,b1⟩))
    go_ret
    exact⟨rfl,L2.bch B2 b1⟩
end Go.Proofs.YtdgnjhhieemcaaaGreatDoor.L10
end
