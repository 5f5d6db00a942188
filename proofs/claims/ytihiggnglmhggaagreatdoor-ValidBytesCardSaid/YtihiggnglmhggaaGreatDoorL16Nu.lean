/- What the program's number returns: the number that four bytes are; and readRows: the whole rows of a section. Condition: memory holds the bytes; the sections. -/
import Derived.Test.YtihiggnglmhggaaGreatDoorL16Ob
import Derived.Test.YtihiggnglmhggaaGreatDoorL16Rw
set_option maxHeartbeats 8000000
namespace Go.Proofs.YtihiggnglmhggaaGreatDoor.L16
set_option maxRecDepth 100000
open Go.RowKit L14 L15
attribute [local go_sem] Oper.semAt_some
theorem number_at (v:Value) (d:List UInt8) (V:Int) (w:World) (h:Rw eB w v d) (hd:4≤d.length) (hV:ndA d 0=V) :
  Calls Tryz.prog 153 #[v] w fun e w'=>e=.returned (.int .i64 V)∧∃ q,w'=w.drewN q:=by
 obtain⟨n,hn⟩:∃ n,d.length=n:=⟨_,rfl⟩
 rw [hn] at hd
 obtain⟨a,c,rfl,h1,h2,h3⟩:=h.form hn
 obtain⟨b,o,rfl,hb,hc⟩:=h3 (by omega)
 match d,hn with
 | x::y::z::u::r,hn =>
  have c0:=hc 0 (by simp)
  have c1:=hc 1 (by simp)
  have c2:=hc 2 (by simp)
  have c3:=hc 3 (by simp)
  have o2:=or2 x y
  have o3:=or3 x y z
  have o4:=or4 x y z u
  have b1:=x.toNat_lt
  have b2:=y.toNat_lt
  have b3:=z.toNat_lt
  have b4:=u.toNat_lt
  have e:(x.toNat:Int)+(y.toNat:Int)*256+(z.toNat:Int)*65536+(u.toNat:Int)*16777216=V:=by rw [← hV];simp [ndA,sub,va];omega
  have HV:=Lib.hid e
  simp only [Nat.add_zero,List.getElem_cons_zero,List.getElem_cons_succ,eB] at c0 c1 c2 c3 ⊢
  clear hc h1 h2 h3 hV e h
  go_enter Tryz.func153,Tryz.ntmps153
  go_upto_region 1 with (fail)
  go_quiet (fail)
  go_wp2
  go_ret
  exact⟨congrArg (fun z=>Ending.returned (.int .i64 z)) HV.out,_,rfl⟩
 | [],hn=>simp at hn;omega
 | [_],hn=>simp at hn;omega
 | [_,_],hn=>simp at hn;omega
 | [_,_,_],hn=>simp at hn;omega
def Rs (w:World) (v:Value) (rs:List (List Int)):Prop :=
 ∃ a c,v=.slice a rs.length c∧(0<rs.length→∃ b o,a=some ⟨b,o,none⟩∧b<w.heap.size∧∀ j,(h:j<rs.length)→∃ rv,w.cell? ⟨b,o+j,none⟩=some rv∧Rw eI w rv rs[j])
theorem own_weak {W:World} {B B' e:TypeId} {sz n:Nat} {v:Value} {xs:List Value} (h:W.ownsRow B e sz v n xs) (hb:B'≤B):W.ownsRow B' e sz v n xs:=by
 refine⟨h.1,?_⟩
 rcases h.2 with h|⟨g,cap,cur,hv,hg,r⟩
 ·exact .inl h
 ·exact .inr ⟨g,cap,cur,hv,Nat.le_trans hb hg,r⟩
theorem Rs.form {w:World} {v:Value} {rs:List (List Int)} {n:Nat} (hn:rs.length=n) (h:Rs w v rs):∃ a c,v=.slice a n c∧(0<n→∃ b o,a=some ⟨b,o,none⟩∧b<w.heap.size∧∀ j,(h:j<rs.length)→∃ rv,w.cell? ⟨b,o+j,none⟩=some rv∧Rw eI w rv rs[j]):=by
 subst hn;exact h
def Ro (B:Nat) (w:World) (v:Value) (rs:List (List Int)) (m:Nat):Prop :=
 ∃ vs:List Value,w.ownsRow B 46 1 v rs.length vs∧∀ j,(h:j<rs.length)→∃ a c,vs[j]?=some (.slice a m c)∧w.ownsRow B 3 1 (.slice a m c) m (rs[j].map eI)
theorem Ro.rs {B:Nat} {w:World} {v:Value} {rs:List (List Int)} {m:Nat} (h:Ro B w v rs m) (hm:∀ r∈rs,r.length=m):Rs w v rs:=by
 obtain⟨vs,hov,hin⟩:=h
 rcases hov.2 with ⟨rfl,h0⟩|⟨g,cap,cur,rfl,hb,hg,hnc,hcm,hcs,htk⟩
 ·exact⟨none,0,by rw [h0],fun hp=>by omega⟩
 ·refine⟨_,_,rfl,fun hp=>⟨g,0,rfl,lt_of_block hg,fun j hj=>?_⟩⟩
  obtain⟨a,c,h1,h2⟩:=hin j hj
  exact⟨_,(by rw [← add0];exact hov.cells (g:=g) rfl j _ h1),Rw.own (by rw [hm _ (List.getElem_mem hj)];exact h2)⟩
theorem Ro.weak {B B':Nat} {w:World} {v:Value} {rs:List (List Int)} {m:Nat} (h:Ro B w v rs m) (hb:B'≤B):Ro B' w v rs m:=by
 obtain⟨vs,hov,hin⟩:=h
 exact⟨vs,own_weak hov hb,fun j hj=>by obtain⟨a,c,h1,h2⟩:=hin j hj;exact⟨a,c,h1,own_weak h2 hb⟩⟩
theorem Ro.below {B:Nat} {w w':World} {v:Value} {rs:List (List Int)} {m:Nat} (h:Ro B w v rs m) (hb:Below w.heap.size w w'):Ro B w' v rs m:=by
 obtain⟨vs,hov,hin⟩:=h
 exact⟨vs,own_below hov hb,fun j hj=>by obtain⟨a,c,h1,h2⟩:=hin j hj;exact⟨a,c,h1,own_below h2 hb⟩⟩
theorem gget_at (v:Value) (l:List Sc) (k:Int) (d:List UInt8) (D:Nat) (w:World) (hv:Ss w v l) (hl:l.length≤1000000) (hd:gD l k=d) (hD:d.length=D) :
  Calls Tryz.prog 107 #[v,.int .i64 k] w fun e w'=>(∃ a c b,e=.returned (.tuple #[.slice a D c,.bool b])∧Rw eB w (.slice a D c) d)∧Below w.heap.size w w':=by
 refine (get_at0 v l k w hv hl).mono fun e w' h=>?_
 obtain⟨⟨h0,he⟩|⟨x,a,c,h0,he,hr⟩,hb⟩:=h
 ·have hd0:d=[]:=by rw [← hd,gD,h0];rfl
  subst hd0
  have hD0:D=0:=by rw [← hD];rfl
  subst hD0
  exact⟨⟨none,0,false,he,Rw.nil _ _⟩,hb⟩
 ·have hd0:d=x:=by rw [← hd,gD,h0];rfl
  subst hd0
  subst hD
  exact⟨⟨a,c,true,he,hr⟩,hb⟩
theorem infoRow:(Tryz.prog.info? 46).map (fun i=>(i.zero,i.size,i.bytes))=some (some (.slice none 0 0),1,24):=by kernel_rfl
theorem own_cells {w:World} {g n B:Nat} {cs:Array Value} {t:TypeId} {vs:List Value} (h:w.heap[g]?=some (.cells cs t (0,0))) (hc:cs=vs.toArray) (hn:vs.length=n) (hm:n≤1000) (hB:B≤g):w.ownsRow B t 1 (.slice (some ⟨g,0,none⟩) n n) n vs:=by
 subst hn hc
 exact⟨by simp,.inr ⟨g,_,_,rfl,hB,h,Nat.le_refl _,by unfold maxLen;omega,by simp,by simp⟩⟩
theorem row_full (ns:List Int) (m:Nat) (h:ns.length=m):rowZ eI (.int .i64 0) ns m=(ns.map eI).toArray:=by
 subst h
 unfold rowZ
 simp
theorem readRows_at (v:Value) (l:List Sc) (kind:Int) (m K:Nat) (d:List UInt8) (w:World) (hv:Ss w v l) (hl:l.length≤1000000) (hm0:0<m) (hm4:m≤4) (hd:gD l kind=d) (hdl:d.length≤1000000) (hK:d.length / (4*m)=K) :
  Calls Tryz.prog 109 #[v,.int .i64 kind,.int .i64 (m:Int)] w fun e w'=>(∃ a c,e=.returned (.slice a K c)∧Ro w.heap.size w' (.slice a K c) (rdR m d) m)∧Below w.heap.size w w':=by
 obtain⟨ii,hi,hz0,hz1,hz2⟩:=info_parts infoInt
 obtain⟨ir,ki,kz0,kz1,kz2⟩:=info_parts infoRow
 obtain⟨D,hD⟩:∃ D,d.length=D:=⟨_,rfl⟩
 have HG:=Lib.hid (gget_at v l kind d D w hv hl hd hD)
 obtain⟨va,vc,rfl,-⟩:=id hv
 generalize l.length=L at HG ⊢
 rw [hD] at hdl hK
 have HK:=Lib.hid (fun k=>show k<K↔4*m*k+4*m≤D by
  rw [← hK,Nat.lt_iff_add_one_le,Nat.le_div_iff_mul_le (by omega),Nat.succ_mul,Nat.mul_comm k])
 have HDL:=Lib.hid hD
 have HKD:=Lib.hid hK
 clear hv hl hd hD hK
 go_enter Tryz.func109,Tryz.ntmps109
 go_wp2_with (go_at_call 107;((with_reducible refine (HG.out).mono ?_);rintro e w1 ⟨⟨da,dc,db,rfl,rd0⟩,b1⟩;have rd:=rd0.below b1))
 have HI:Hid (Rw eB w1 (.slice da (D-4*m*0) dc) (d.drop (4*m*0))∧(∃ vs:List Value,w1.ownsRow w1.heap.size 46 1 (.slice none 0 0) 0 vs∧∀ j,j<0→∃ a c,vs[j]?=some (.slice a m c)∧w1.ownsRow w1.heap.size 3 1 (.slice a m c) m ((rowA m d j).map eI))∧Below w1.heap.size w1 w1) :=
  Lib.hid ⟨by simpa using rd,⟨[],World.ownsRow_nil _ _ _ _,fun j h=>absurd h (by omega)⟩,Below.refl _ _⟩
 have HB1:=Lib.hid b1
 clear rd rd0 b1 HG
 go_loopw [7,9] (fun dv av wr=>∃ (k X:Nat) (xa ya:Option Addr) (xc yc:Nat),k≤K∧X≤D∧dv=.slice xa (D-X) xc∧av=.slice ya k yc∧Hid (4*m*k=X)∧Hid (Rw eB w1 (.slice xa (D-X) xc) (d.drop X)∧(∃ vs:List Value,wr.ownsRow w1.heap.size 46 1 (.slice ya k yc) k vs∧∀ j,j<k→∃ a c,vs[j]?=some (.slice a m c)∧wr.ownsRow w1.heap.size 3 1 (.slice a m c) m ((rowA m d j).map eI))∧Below w1.heap.size w1 wr)) (fun dv _ _=>match dv with | .slice _ n _=>n|_=>0)
 case atStart=>exact⟨0,0,da,none,dc,0,Nat.zero_le _,Nat.zero_le _,rfl,rfl,Lib.hid (by simp),HI⟩
 case round =>
  clear HI
  obtain⟨k,X,xa,ya,xc,yc,hk,hXD,rfl,rfl,hX,hI⟩:=hrel
  by_cases hlt:k<K
  ·have hXm:=(HK.out k).1 hlt
   rw [hX.out] at hXm
   have hkX:k≤X:=by rw [← hX.out];exact Nat.le_mul_of_pos_left k (by omega)
   have hge:(m:Int)*4≤((D-X:Nat):Int):=by omega
   obtain⟨E,hE⟩:∃ E,D-X=E:=⟨_,rfl⟩
   rw [hE] at hI hge ⊢
   have hE4:4*m≤E:=by omega
   have hEb:E≤1000000:=by omega
   have HE:=Lib.hid hE
   have HX:=Lib.hid hX.out
   clear hE hX
   obtain⟨hdr,hall,hB⟩:=hI.out
   have hsz:=hB.size
   have HA:=Lib.hid hall
   have HBW:=Lib.hid hB
   have HDR:=Lib.hid hdr
   clear hI hall hB hdr
   go_wp2_with (at_make;refine wpList_make_row _ rfl _ _ 46 rfl 3 ii (.int .i64 0) Tryz.underlying46 hi hz0 hz1 rfl .i64 .i64 m rfl rfl (by rw [hz2];omega) (by omega) ?_)
   rw [rowZ_made eI]
   obtain⟨g,hg⟩:∃ g,wr.heap.size=g:=⟨_,rfl⟩
   have H0:Hid ((wr.alloc (.cells (rowZ eI (.int .i64 0) [] m) 3)).heap[g]?=some (.cells (rowZ eI (.int .i64 0) ((rowA m d k).take 0) m) 3 (0,0))∧Below g wr (wr.alloc (.cells (rowZ eI (.int .i64 0) [] m) 3))):=Lib.hid (by
    subst hg
    exact⟨heap_alloc_new wr _,bnew _ _⟩)
   have HGS:=Lib.hid hg
   rw [hg]
   generalize hW:wr.alloc (.cells (rowZ eI (.int .i64 0) [] m) 3)=W0 at H0 ⊢
   clear hW hg
   go_loopw [11,27] (fun _ q wi=>∃ i:Nat,i≤m∧q=.int .i64 (i:Int)∧Hid (wi.heap[g]?=some (.cells (rowZ eI (.int .i64 0) ((rowA m d k).take i) m) 3 (0,0))∧Below g wr wi)) (fun _ q _=>m-(intOf q).toNat)
   case atStart=>exact⟨0,Nat.zero_le _,rfl,H0⟩
   case round =>
    clear H0
    obtain⟨i,hi2,rfl,hI⟩:=hrel
    by_cases hlt2:i<m
    ·have hlr:((rowA m d k).take i).length=i:=by rw [List.length_take,rowA_len];omega
     have hir:i<(rowA m d k).length:=by rw [rowA_len];exact hlt2
     have hset:=rowZ_set eI (.int .i64 0) ((rowA m d k).take i) (rowA m d k)[i] m (by omega)
     have hnx:=rowZ_next eI (.int .i64 0) ((rowA m d k).take i) m (by omega)
     rw [hlr] at hset hnx
     rw [← take_snoc (rowA m d k) i hir] at hset
     obtain⟨cB,fB⟩:=cell_in (k:=i) hI.out.1
     rw [hnx] at cB
     have hlt3:4*i+4≤E:=by omega
     have hrw:Rw eB wr (.slice xa E xc) (d.drop X):=HDR.out.below (HBW.out.trans (hI.out.2.mono (by rw [← HGS.out];exact hsz)))
     have hdr:=hrw.drop (4*i) (by omega)
     have hsl:∀ W,(Instr.slice 23 (.slice xa E xc) (some (.int .i64 ((i:Int)*4))) none none).run Tryz.prog W=.ok (.slice (if xc=4*i then xa else xa.map (·.add (4*i))) (E-4*i) (xc-4*i)) W:=fun W=>by
      rw [← run_from und8 size8 xa E xc (4*i) (by omega) hrw.at.2.1 W,show ((4*i:Nat):Int)=(i:Int)*4 by omega]
     have hva:ndA ((d.drop X).drop (4*i)) 0=(rowA m d k)[i]:=by
      rw [ndA_drop,ndA_drop,rowA_at,HX.out,Nat.add_zero]
     have hlen:4≤((d.drop X).drop (4*i)).length:=by
      have:=hdr.at.1
      omega
     obtain⟨z,hz⟩:∃ z,(rowA m d k)[i]=z:=⟨_,rfl⟩
     rw [hz] at hset hva
     have HNu:=Lib.hid (fun (Y:World) (h:Rw eB Y (.slice (if xc=4*i then xa else xa.map (·.add (4*i))) (E-4*i) (xc-4*i)) ((d.drop X).drop (4*i)))=>number_at _ _ z Y h hlen hva)
     have HDR2:=Lib.hid hdr
     have HST:=Lib.hid (And.intro hI.out.1 (And.intro hset hI.out.2))
     have hgl:g<wr.heap.size:=lt_of_block hI.out.1
     generalize (if xc=4*i then xa else xa.map (·.add (4*i)))=xa2 at hsl HNu HDR2
     generalize E-4*i=E2 at hsl HNu HDR2
     generalize xc-4*i=xc2 at hsl HNu HDR2
     clear hI hlr hir hset hnx hrw hdr hva hlen hz
     go_wp2_with (go_at_call 153;((with_reducible refine (HNu.out _ HDR2.out).mono ?_);rintro e w5 ⟨rfl,q5,rfl⟩))
     go_roundw
     case rel=>exact⟨i+1,hlt2,by go_num,Lib.hid ⟨by rw [← HST.out.2.1];exact cells_set HST.out.1,(bdN HST.out.2.2 q5).setCell (Nat.le_refl _) _⟩⟩
     case measure=>simp [intOf];omega
    ·obtain rfl:i=m:=by omega
     have hfull:rowZ eI (.int .i64 0) ((rowA i d k).take i) i=((rowA i d k).map eI).toArray:=by
      rw [List.take_of_length_le (by rw [rowA_len];exact Nat.le_refl _)]
      exact row_full _ _ (rowA_len _ _ _)
     obtain⟨hcel,hbel⟩:=hI.out
     rw [hfull] at hcel
     have hwg:w1.heap.size≤g:=by rw [← HGS.out];exact hsz
     have hBi:Below w1.heap.size w1 wr:=HBW.out.trans (hbel.mono hwg)
     have hrow:=own_cells (B:=w1.heap.size) hcel rfl (show _=i by rw [List.length_map,rowA_len]) (by omega) hwg
     obtain⟨vs,hov,hov2⟩:=HA.out
     have hov':=own_below hov (by rw [HGS.out];exact hbel)
     have hgl:g<wr.heap.size:=lt_of_block hcel
     have hOld:=Lib.hid (fun j (h:j<k)=>by
      obtain⟨a,c,h1,h2⟩:=hov2 j h
      exact (⟨a,c,h1,own_below h2 (by rw [HGS.out];exact hbel)⟩:∃ a c,vs[j]?=some (.slice a i c)∧wr.ownsRow w1.heap.size 3 1 (.slice a i c) i ((rowA i d j).map eI)))
     have HRow:=Lib.hid hrow
     have HBi:=Lib.hid hBi
     have hszi:=hBi.size
     have hDR:Rw eB wr (.slice xa E xc) (d.drop X):=HDR.out.below hBi
     have hdr:=HDR.out.drop (4*i) hE4
     have hsl:∀ W,(Instr.slice 23 (.slice xa E xc) (some (.int .i64 ((i:Int)*4))) none none).run Tryz.prog W=.ok (.slice (if xc=4*i then xa else xa.map (·.add (4*i))) (E-4*i) (xc-4*i)) W:=fun W=>by
      rw [← run_from und8 size8 xa E xc (4*i) hE4 hDR.at.2.1 W,show ((4*i:Nat):Int)=(i:Int)*4 by omega]
     have HDR2:=Lib.hid hdr
     have hk3:k≤1000000:=by omega
     generalize (if xc=4*i then xa else xa.map (·.add (4*i)))=xa2 at hsl HDR2
     generalize xc-4*i=xc2 at hsl HDR2
     clear hI hfull hcel hbel hwg hBi hrow hov hov2 hDR hdr
     go_wp2_with (at_builtin;refine wpList_append_own _ rfl _ _ 157 rfl w1.heap.size 46 ir (.slice none 0 0) 1 24 Tryz.underlying157 ki kz0 kz1 kz2 rfl (by decide) _ k _ rfl (hov'.alloc _) ⟨wr.heap.size,0,none⟩ 1 1 [.slice (some ⟨g,0,none⟩) i i] rfl rfl (World.news_of_block (cs:=#[.slice (some ⟨g,0,none⟩) i i]) (t:=46) (fr:=(0,0)) (heap_alloc_last wr _)) (by simp [Value.oneCell']) (by unfold maxLen;omega) (by omega) (by simp;omega) ?_;intro v' w5 hown6 hgrow6 _;have B2:=(HBi.out.alloc hszi _).grown hgrow6 (by simp;omega) (own_base hov');have o2:=own_two (HRow.out.alloc _) (hov'.alloc _) (by decide) hgrow6;obtain⟨na,nc,hvn⟩:=owns_slice hown6;subst hvn)
     have hAll:∃ us:List Value,w5.ownsRow w1.heap.size 46 1 (.slice na (k+1) nc) (k+1) us∧∀ j,j<k+1→∃ a c,us[j]?=some (.slice a i c)∧w5.ownsRow w1.heap.size 3 1 (.slice a i c) i ((rowA i d j).map eI):=by
      refine⟨_,hown6,fun j hj=>?_⟩
      have hvl:vs.length=k:=by simpa using hov'.1
      by_cases hjk:j<k
      ·obtain⟨a,c,h1,h2⟩:=hOld.out j hjk
       exact⟨a,c,by rw [List.getElem?_append_left (by rw [hvl];exact hjk)];exact h1,own_two (h2.alloc _) (hov'.alloc _) (by decide) hgrow6⟩
      ·obtain rfl:j=k:=by omega
       exact⟨_,_,by rw [List.getElem?_append_right (by rw [hvl];exact Nat.le_refl _),hvl];simp,o2⟩
     have HALL:=Lib.hid hAll
     have HBE:=Lib.hid B2
     have hDR5:Rw eB w1 (.slice xa2 (D-(X+4*i)) xc2) (d.drop (X+4*i)):=by
      have h:=HDR2.out
      rw [List.drop_drop] at h
      rw [← Nat.sub_sub,HE.out]
      exact h
     have HD5:=Lib.hid hDR5
     have hES:E-4*i=D-(X+4*i):=by rw [← HE.out,Nat.sub_sub]
     have hlt4:X+4*i≤D:=hXm
     have hEp:D-(X+4*i)<E:=by omega
     clear hAll hDR5 hov' hown6 hgrow6 o2 B2
     go_wp2
     refine⟨⟨k+1,X+4*i,xa2,na,xc2,nc,hlt,hlt4,by rw [hES],rfl,Lib.hid (by rw [Nat.mul_succ,HX.out]),Lib.hid ⟨HD5.out,HALL.out,HBE.out⟩⟩,?_⟩
     rw [← hES] at hEp
     simpa using hEp
  ·obtain rfl:k=K:=by omega
   have hXm:¬ X+4*m≤D:=fun h=>hlt ((HK.out k).2 (by rw [hX.out];exact h))
   obtain⟨-,⟨vs,hov,hin⟩,hB⟩:=hI.out
   have HR:Hid (Ro w.heap.size wr (.slice ya k yc) (rdR m d) m∧Below w1.heap.size w1 wr):=Lib.hid (by
    have hlen:(rdR m d).length=k:=by rw [rdR_len,HDL.out,HKD.out]
    have hww:=HB1.out.size
    refine⟨⟨vs,by rw [hlen];exact own_weak hov hww,fun j hj=>?_⟩,hB⟩
    obtain⟨a,c,h1,h2⟩:=hin j (by omega)
    exact⟨a,c,h1,by rw [rdR_at];exact own_weak h2 hww⟩)
   clear hI hX hov hin hB
   go_wp2
   go_ret
   exact⟨⟨_,_,rfl,HR.out.1⟩,bch HB1.out HR.out.2⟩
end Go.Proofs.YtihiggnglmhggaaGreatDoor.L16
