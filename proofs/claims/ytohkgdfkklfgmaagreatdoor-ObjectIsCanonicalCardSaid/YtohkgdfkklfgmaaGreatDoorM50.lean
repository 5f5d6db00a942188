/- Lemmas and walks of L16Nu, L16Co, L16Se, L16Pk: what each theorem states; conditions stand in each theorem. -/
import Derived.Test.YtohkgdfkklfgmaaGreatDoorM48
import Derived.Test.YtohkgdfkklfgmaaGreatDoorM49
import Derived.Test.YtohkgdfkklfgmaaGreatDoorM45
import Derived.Test.YtohkgdfkklfgmaaGreatDoorM47
import Derived.Test.YtohkgdfkklfgmaaGreatDoorM42
import Derived.Test.YtohkgdfkklfgmaaGreatDoorM30
import Derived.StillTailTactics
import Derived.Deep.RegionHeld3
import Derived.Test.YtohkgdfkklfgmaaGreatDoorM46
section
set_option maxHeartbeats 8000000
namespace Go.Proofs.YtohkgdfkklfgmaaGreatDoor.L16
set_option maxRecDepth 100000
open Go.RowKit L14 L15
attribute [local go_sem] Oper.semAt_some
theorem number_at (v:Value) (d:List UInt8) (V:Int) (w:World) (h:Rw eB w v d) (hd:4≤d.length) (hV:ndA d 0=V) :
  Calls Tryz.prog 97 #[v] w fun e w'=>e=.returned (.int .i64 V)∧∃ q,w'=w.drewN q:=by
 obtain⟨n,hn⟩:∃ n,d.length=n:=⟨_,rfl⟩
 rw [hn] at hd
 obtain⟨a,c,rfl,h1,h2,h3⟩:=h.form hn
 obtain⟨b,o,rfl,hb,hc⟩:=h3 (by omega)
 match d,hn with
 | x::y::z::u::r,hn =>
  have c0:=hc 0 (by simp)
  have c1:=hc 1 (by simp)
  have c2:=hc 2 (by simp)
  have c3:=hc 3 (by simp)
  have o2:=or2 x y
  have o3:=or3 x y z
  have o4:=or4 x y z u
  have b1:=x.toNat_lt
  have b2:=y.toNat_lt
  have b3:=z.toNat_lt
  have b4:=u.toNat_lt
  have e:(x.toNat:Int)+(y.toNat:Int)*256+(z.toNat:Int)*65536+(u.toNat:Int)*16777216=V:=by rw [← hV];simp [ndA,sub,va];omega
  have HV:=Lib.hid e
  simp only [Nat.add_zero,List.getElem_cons_zero,List.getElem_cons_succ,eB] at c0 c1 c2 c3 ⊢
  clear hc h1 h2 h3 hV e h
  go_enter Tryz.func97,Tryz.ntmps97
  go_upto_region 1 with (fail)
  go_quiet (fail)
  go_wp2
  go_ret
  exact⟨congrArg (fun z=>Ending.returned (.int .i64 z)) HV.out,_,rfl⟩
 | [],hn=>simp at hn;omega
 | [_],hn=>simp at hn;omega
 | [_,_],hn=>simp at hn;omega
 | [_,_,_],hn=>simp at hn;omega
def Rs (w:World) (v:Value) (rs:List (List Int)):Prop :=
 ∃ a c,v=.slice a rs.length c∧(0<rs.length→∃ b o,a=some ⟨b,o,none⟩∧b<w.heap.size∧∀ j,(h:j<rs.length)→∃ rv,w.cell? ⟨b,o+j,none⟩=some rv∧Rw eI w rv rs[j])
theorem own_weak {W:World} {B B' e:TypeId} {sz n:Nat} {v:Value} {xs:List Value} (h:W.ownsRow B e sz v n xs) (hb:B'≤B):W.ownsRow B' e sz v n xs:=by
 refine⟨h.1,?_⟩
 rcases h.2 with h|⟨g,cap,cur,hv,hg,r⟩
 ·exact .inl h
 ·exact .inr ⟨g,cap,cur,hv,Nat.le_trans hb hg,r⟩
theorem Rs.below {w w':World} {v:Value} {rs:List (List Int)} (h:Rs w v rs) (hb:Below w.heap.size w w'):Rs w' v rs:=by
 obtain⟨a,c,hv,h3⟩:=h
 refine⟨a,c,hv,fun hp=>?_⟩
 obtain⟨b,o,e,hlt,hc⟩:=h3 hp
 refine⟨b,o,e,Nat.lt_of_lt_of_le hlt hb.size,fun j hj=>?_⟩
 obtain⟨rv,h4,h5⟩:=hc j hj
 exact⟨rv,(hb.cell (by exact hlt)).trans h4,h5.below hb⟩
theorem Rs.form {w:World} {v:Value} {rs:List (List Int)} {n:Nat} (hn:rs.length=n) (h:Rs w v rs):∃ a c,v=.slice a n c∧(0<n→∃ b o,a=some ⟨b,o,none⟩∧b<w.heap.size∧∀ j,(h:j<rs.length)→∃ rv,w.cell? ⟨b,o+j,none⟩=some rv∧Rw eI w rv rs[j]):=by
 subst hn;exact h
def Ro (B:Nat) (w:World) (v:Value) (rs:List (List Int)) (m:Nat):Prop :=
 ∃ vs:List Value,w.ownsRow B 70 1 v rs.length vs∧∀ j,(h:j<rs.length)→∃ a c,vs[j]?=some (.slice a m c)∧w.ownsRow B 3 1 (.slice a m c) m (rs[j].map eI)
theorem Ro.rs {B:Nat} {w:World} {v:Value} {rs:List (List Int)} {m:Nat} (h:Ro B w v rs m) (hm:∀ r∈rs,r.length=m):Rs w v rs:=by
 obtain⟨vs,hov,hin⟩:=h
 rcases hov.2 with ⟨rfl,h0⟩|⟨g,cap,cur,rfl,hb,hg,hnc,hcm,hcs,htk⟩
 ·exact⟨none,0,by rw [h0],fun hp=>by omega⟩
 ·refine⟨_,_,rfl,fun hp=>⟨g,0,rfl,lt_of_block hg,fun j hj=>?_⟩⟩
  obtain⟨a,c,h1,h2⟩:=hin j hj
  exact⟨_,(by rw [← add0];exact hov.cells (g:=g) rfl j _ h1),Rw.own (by rw [hm _ (List.getElem_mem hj)];exact h2)⟩
theorem Ro.weak {B B':Nat} {w:World} {v:Value} {rs:List (List Int)} {m:Nat} (h:Ro B w v rs m) (hb:B'≤B):Ro B' w v rs m:=by
 obtain⟨vs,hov,hin⟩:=h
 exact⟨vs,own_weak hov hb,fun j hj=>by obtain⟨a,c,h1,h2⟩:=hin j hj;exact⟨a,c,h1,own_weak h2 hb⟩⟩
theorem Ro.below {B:Nat} {w w':World} {v:Value} {rs:List (List Int)} {m:Nat} (h:Ro B w v rs m) (hb:Below w.heap.size w w'):Ro B w' v rs m:=by
 obtain⟨vs,hov,hin⟩:=h
 exact⟨vs,own_below hov hb,fun j hj=>by obtain⟨a,c,h1,h2⟩:=hin j hj;exact⟨a,c,h1,own_below h2 hb⟩⟩
theorem gget_at (v:Value) (l:List Sc) (k:Int) (d:List UInt8) (D:Nat) (w:World) (hv:Ss w v l) (hl:l.length≤1000000) (hd:gD l k=d) (hD:d.length=D) :
  Calls Tryz.prog 68 #[v,.int .i64 k] w fun e w'=>(∃ a c b,e=.returned (.tuple #[.slice a D c,.bool b])∧Rw eB w (.slice a D c) d)∧Below w.heap.size w w':=by
 refine (get_at0 v l k w hv hl).mono fun e w' h=>?_
 obtain⟨⟨h0,he⟩|⟨x,a,c,h0,he,hr⟩,hb⟩:=h
 ·have hd0:d=[]:=by rw [← hd,gD,h0];rfl
  subst hd0
  have hD0:D=0:=by rw [← hD];rfl
  subst hD0
  exact⟨⟨none,0,false,he,Rw.nil _ _⟩,hb⟩
 ·have hd0:d=x:=by rw [← hd,gD,h0];rfl
  subst hd0
  subst hD
  exact⟨⟨a,c,true,he,hr⟩,hb⟩
theorem infoRow:(Tryz.prog.info? 70).map (fun i=>(i.zero,i.size,i.bytes))=some (some (.slice none 0 0),1,24):=by kernel_rfl
theorem own_cells {w:World} {g n B:Nat} {cs:Array Value} {t:TypeId} {vs:List Value} (h:w.heap[g]?=some (.cells cs t (0,0))) (hc:cs=vs.toArray) (hn:vs.length=n) (hm:n≤1000) (hB:B≤g):w.ownsRow B t 1 (.slice (some ⟨g,0,none⟩) n n) n vs:=by
 subst hn hc
 exact⟨by simp,.inr ⟨g,_,_,rfl,hB,h,Nat.le_refl _,by unfold maxLen;omega,by simp,by simp⟩⟩
theorem row_full (ns:List Int) (m:Nat) (h:ns.length=m):rowZ eI (.int .i64 0) ns m=(ns.map eI).toArray:=by
 subst h
 unfold rowZ
 simp
theorem readRows_at (v:Value) (l:List Sc) (kind:Int) (m K:Nat) (d:List UInt8) (w:World) (hv:Ss w v l) (hl:l.length≤1000000) (hm0:0<m) (hm4:m≤4) (hd:gD l kind=d) (hdl:d.length≤1000000) (hK:d.length / (4*m)=K) :
  Calls Tryz.prog 70 #[v,.int .i64 kind,.int .i64 (m:Int)] w fun e w'=>(∃ a c,e=.returned (.slice a K c)∧Ro w.heap.size w' (.slice a K c) (rdR m d) m)∧Below w.heap.size w w':=by
 obtain⟨ii,hi,hz0,hz1,hz2⟩:=info_parts infoInt
 obtain⟨ir,ki,kz0,kz1,kz2⟩:=info_parts infoRow
 obtain⟨D,hD⟩:∃ D,d.length=D:=⟨_,rfl⟩
 have HG:=Lib.hid (gget_at v l kind d D w hv hl hd hD)
 obtain⟨va,vc,rfl,-⟩:=id hv
 generalize l.length=L at HG ⊢
 rw [hD] at hdl hK
 have HK:=Lib.hid (fun k=>show k<K↔4*m*k+4*m≤D by
  rw [← hK,Nat.lt_iff_add_one_le,Nat.le_div_iff_mul_le (by omega),Nat.succ_mul,Nat.mul_comm k])
 have HDL:=Lib.hid hD
 have HKD:=Lib.hid hK
 clear hv hl hd hD hK
 go_enter Tryz.func70,Tryz.ntmps70
 go_wp2_with (go_at_call 68;((with_reducible refine (HG.out).mono ?_);rintro e w1 ⟨⟨da,dc,db,rfl,rd0⟩,b1⟩;have rd:=rd0.below b1))
 have HI:Hid (Rw eB w1 (.slice da (D-4*m*0) dc) (d.drop (4*m*0))∧(∃ vs:List Value,w1.ownsRow w1.heap.size 70 1 (.slice none 0 0) 0 vs∧∀ j,j<0→∃ a c,vs[j]?=some (.slice a m c)∧w1.ownsRow w1.heap.size 3 1 (.slice a m c) m ((rowA m d j).map eI))∧Below w1.heap.size w1 w1) :=
  Lib.hid ⟨by simpa using rd,⟨[],World.ownsRow_nil _ _ _ _,fun j h=>absurd h (by omega)⟩,Below.refl _ _⟩
 have HB1:=Lib.hid b1
 clear rd rd0 b1 HG
 go_loopw [7,9] (fun dv av wr=>∃ (k X:Nat) (xa ya:Option Addr) (xc yc:Nat),k≤K∧X≤D∧dv=.slice xa (D-X) xc∧av=.slice ya k yc∧Hid (4*m*k=X)∧Hid (Rw eB w1 (.slice xa (D-X) xc) (d.drop X)∧(∃ vs:List Value,wr.ownsRow w1.heap.size 70 1 (.slice ya k yc) k vs∧∀ j,j<k→∃ a c,vs[j]?=some (.slice a m c)∧wr.ownsRow w1.heap.size 3 1 (.slice a m c) m ((rowA m d j).map eI))∧Below w1.heap.size w1 wr)) (fun dv _ _=>match dv with | .slice _ n _=>n|_=>0)
 case atStart=>exact⟨0,0,da,none,dc,0,Nat.zero_le _,Nat.zero_le _,rfl,rfl,Lib.hid (by simp),HI⟩
 case round =>
  clear HI
  obtain⟨k,X,xa,ya,xc,yc,hk,hXD,rfl,rfl,hX,hI⟩:=hrel
  by_cases hlt:k<K
  ·have hXm:=(HK.out k).1 hlt
   rw [hX.out] at hXm
   have hkX:k≤X:=by rw [← hX.out];exact Nat.le_mul_of_pos_left k (by omega)
   have hge:(m:Int)*4≤((D-X:Nat):Int):=by omega
   obtain⟨E,hE⟩:∃ E,D-X=E:=⟨_,rfl⟩
   rw [hE] at hI hge ⊢
   have hE4:4*m≤E:=by omega
   have hEb:E≤1000000:=by omega
   have HE:=Lib.hid hE
   have HX:=Lib.hid hX.out
   clear hE hX
   obtain⟨hdr,hall,hB⟩:=hI.out
   have hsz:=hB.size
   have HA:=Lib.hid hall
   have HBW:=Lib.hid hB
   have HDR:=Lib.hid hdr
   clear hI hall hB hdr
   go_wp2_with (at_make;refine wpList_make_row _ rfl _ _ 70 rfl 3 ii (.int .i64 0) Tryz.underlying70 hi hz0 hz1 rfl .i64 .i64 m rfl rfl (by rw [hz2];omega) (by omega) ?_)
   rw [rowZ_made eI]
   obtain⟨g,hg⟩:∃ g,wr.heap.size=g:=⟨_,rfl⟩
   have H0:Hid ((wr.alloc (.cells (rowZ eI (.int .i64 0) [] m) 3)).heap[g]?=some (.cells (rowZ eI (.int .i64 0) ((rowA m d k).take 0) m) 3 (0,0))∧Below g wr (wr.alloc (.cells (rowZ eI (.int .i64 0) [] m) 3))):=Lib.hid (by
    subst hg
    exact⟨heap_alloc_new wr _,bnew _ _⟩)
   have HGS:=Lib.hid hg
   rw [hg]
   generalize hW:wr.alloc (.cells (rowZ eI (.int .i64 0) [] m) 3)=W0 at H0 ⊢
   clear hW hg
   go_loopw [11,27] (fun _ q wi=>∃ i:Nat,i≤m∧q=.int .i64 (i:Int)∧Hid (wi.heap[g]?=some (.cells (rowZ eI (.int .i64 0) ((rowA m d k).take i) m) 3 (0,0))∧Below g wr wi)) (fun _ q _=>m-(intOf q).toNat)
   case atStart=>exact⟨0,Nat.zero_le _,rfl,H0⟩
   case round =>
    clear H0
    obtain⟨i,hi2,rfl,hI⟩:=hrel
    by_cases hlt2:i<m
    ·have hlr:((rowA m d k).take i).length=i:=by rw [List.length_take,rowA_len];omega
     have hir:i<(rowA m d k).length:=by rw [rowA_len];exact hlt2
     have hset:=rowZ_set eI (.int .i64 0) ((rowA m d k).take i) (rowA m d k)[i] m (by omega)
     have hnx:=rowZ_next eI (.int .i64 0) ((rowA m d k).take i) m (by omega)
     rw [hlr] at hset hnx
     rw [← take_snoc (rowA m d k) i hir] at hset
     obtain⟨cB,fB⟩:=cell_in (k:=i) hI.out.1
     rw [hnx] at cB
     have hlt3:4*i+4≤E:=by omega
     have hrw:Rw eB wr (.slice xa E xc) (d.drop X):=HDR.out.below (HBW.out.trans (hI.out.2.mono (by rw [← HGS.out];exact hsz)))
     have hdr:=hrw.drop (4*i) (by omega)
     have hsl:∀ W,(Instr.slice 23 (.slice xa E xc) (some (.int .i64 ((i:Int)*4))) none none).run Tryz.prog W=.ok (.slice (if xc=4*i then xa else xa.map (·.add (4*i))) (E-4*i) (xc-4*i)) W:=fun W=>by
      rw [← run_from und8 size8 xa E xc (4*i) (by omega) hrw.at.2.1 W,show ((4*i:Nat):Int)=(i:Int)*4 by omega]
     have hva:ndA ((d.drop X).drop (4*i)) 0=(rowA m d k)[i]:=by
      rw [ndA_drop,ndA_drop,rowA_at,HX.out,Nat.add_zero]
     have hlen:4≤((d.drop X).drop (4*i)).length:=by
      have:=hdr.at.1
      omega
     obtain⟨z,hz⟩:∃ z,(rowA m d k)[i]=z:=⟨_,rfl⟩
     rw [hz] at hset hva
     have HNu:=Lib.hid (fun (Y:World) (h:Rw eB Y (.slice (if xc=4*i then xa else xa.map (·.add (4*i))) (E-4*i) (xc-4*i)) ((d.drop X).drop (4*i)))=>number_at _ _ z Y h hlen hva)
     have HDR2:=Lib.hid hdr
     have HST:=Lib.hid (And.intro hI.out.1 (And.intro hset hI.out.2))
     have hgl:g<wr.heap.size:=lt_of_block hI.out.1
     generalize (if xc=4*i then xa else xa.map (·.add (4*i)))=xa2 at hsl HNu HDR2
     generalize E-4*i=E2 at hsl HNu HDR2
     generalize xc-4*i=xc2 at hsl HNu HDR2
     clear hI hlr hir hset hnx hrw hdr hva hlen hz
     go_wp2_with (go_at_call 97;((with_reducible refine (HNu.out _ HDR2.out).mono ?_);rintro e w5 ⟨rfl,q5,rfl⟩))
     go_roundw
     case rel=>exact⟨i+1,hlt2,by go_num,Lib.hid ⟨by rw [← HST.out.2.1];exact cells_set HST.out.1,(bdN HST.out.2.2 q5).setCell (Nat.le_refl _) _⟩⟩
     case measure=>simp [intOf];omega
    ·obtain rfl:i=m:=by omega
     have hfull:rowZ eI (.int .i64 0) ((rowA i d k).take i) i=((rowA i d k).map eI).toArray:=by
      rw [List.take_of_length_le (by rw [rowA_len];exact Nat.le_refl _)]
      exact row_full _ _ (rowA_len _ _ _)
     obtain⟨hcel,hbel⟩:=hI.out
     rw [hfull] at hcel
     have hwg:w1.heap.size≤g:=by rw [← HGS.out];exact hsz
     have hBi:Below w1.heap.size w1 wr:=HBW.out.trans (hbel.mono hwg)
     have hrow:=own_cells (B:=w1.heap.size) hcel rfl (show _=i by rw [List.length_map,rowA_len]) (by omega) hwg
     obtain⟨vs,hov,hov2⟩:=HA.out
     have hov':=own_below hov (by rw [HGS.out];exact hbel)
     have hgl:g<wr.heap.size:=lt_of_block hcel
     have hOld:=Lib.hid (fun j (h:j<k)=>by
      obtain⟨a,c,h1,h2⟩:=hov2 j h
      exact (⟨a,c,h1,own_below h2 (by rw [HGS.out];exact hbel)⟩:∃ a c,vs[j]?=some (.slice a i c)∧wr.ownsRow w1.heap.size 3 1 (.slice a i c) i ((rowA i d j).map eI)))
     have HRow:=Lib.hid hrow
     have HBi:=Lib.hid hBi
     have hszi:=hBi.size
     have hDR:Rw eB wr (.slice xa E xc) (d.drop X):=HDR.out.below hBi
     have hdr:=HDR.out.drop (4*i) hE4
     have hsl:∀ W,(Instr.slice 23 (.slice xa E xc) (some (.int .i64 ((i:Int)*4))) none none).run Tryz.prog W=.ok (.slice (if xc=4*i then xa else xa.map (·.add (4*i))) (E-4*i) (xc-4*i)) W:=fun W=>by
      rw [← run_from und8 size8 xa E xc (4*i) hE4 hDR.at.2.1 W,show ((4*i:Nat):Int)=(i:Int)*4 by omega]
     have HDR2:=Lib.hid hdr
     have hk3:k≤1000000:=by omega
     generalize (if xc=4*i then xa else xa.map (·.add (4*i)))=xa2 at hsl HDR2
     generalize xc-4*i=xc2 at hsl HDR2
     clear hI hfull hcel hbel hwg hBi hrow hov hov2 hDR hdr
     go_wp2_with (at_builtin;refine wpList_append_own _ rfl _ _ 126 rfl w1.heap.size 70 ir (.slice none 0 0) 1 24 Tryz.underlying126 ki kz0 kz1 kz2 rfl (by decide) _ k _ rfl (hov'.alloc _) ⟨wr.heap.size,0,none⟩ 1 1 [.slice (some ⟨g,0,none⟩) i i] rfl rfl (World.news_of_block (cs:=#[.slice (some ⟨g,0,none⟩) i i]) (t:=70) (fr:=(0,0)) (heap_alloc_last wr _)) (by simp [Value.oneCell']) (by unfold maxLen;omega) (by omega) (by simp;omega) ?_;intro v' w5 hown6 hgrow6 _;have B2:=(HBi.out.alloc hszi _).grown hgrow6 (by simp;omega) (own_base hov');have o2:=own_two (HRow.out.alloc _) (hov'.alloc _) (by decide) hgrow6;obtain⟨na,nc,hvn⟩:=owns_slice hown6;subst hvn)
     have hAll:∃ us:List Value,w5.ownsRow w1.heap.size 70 1 (.slice na (k+1) nc) (k+1) us∧∀ j,j<k+1→∃ a c,us[j]?=some (.slice a i c)∧w5.ownsRow w1.heap.size 3 1 (.slice a i c) i ((rowA i d j).map eI):=by
      refine⟨_,hown6,fun j hj=>?_⟩
      have hvl:vs.length=k:=by simpa using hov'.1
      by_cases hjk:j<k
      ·obtain⟨a,c,h1,h2⟩:=hOld.out j hjk
       exact⟨a,c,by rw [List.getElem?_append_left (by rw [hvl];exact hjk)];exact h1,own_two (h2.alloc _) (hov'.alloc _) (by decide) hgrow6⟩
      ·obtain rfl:j=k:=by omega
       exact⟨_,_,by rw [List.getElem?_append_right (by rw [hvl];exact Nat.le_refl _),hvl];simp,o2⟩
     have HALL:=Lib.hid hAll
     have HBE:=Lib.hid B2
     have hDR5:Rw eB w1 (.slice xa2 (D-(X+4*i)) xc2) (d.drop (X+4*i)):=by
      have h:=HDR2.out
      rw [List.drop_drop] at h
      rw [← Nat.sub_sub,HE.out]
      exact h
     have HD5:=Lib.hid hDR5
     have hES:E-4*i=D-(X+4*i):=by rw [← HE.out,Nat.sub_sub]
     have hlt4:X+4*i≤D:=hXm
     have hEp:D-(X+4*i)<E:=by omega
     clear hAll hDR5 hov' hown6 hgrow6 o2 B2
     go_wp2
     refine⟨⟨k+1,X+4*i,xa2,na,xc2,nc,hlt,hlt4,by rw [hES],rfl,Lib.hid (by rw [Nat.mul_succ,HX.out]),Lib.hid ⟨HD5.out,HALL.out,HBE.out⟩⟩,?_⟩
     rw [← hES] at hEp
     simpa using hEp
  ·obtain rfl:k=K:=by omega
   have hXm:¬ X+4*m≤D:=fun h=>hlt ((HK.out k).2 (by rw [hX.out];exact h))
   obtain⟨-,⟨vs,hov,hin⟩,hB⟩:=hI.out
   have HR:Hid (Ro w.heap.size wr (.slice ya k yc) (rdR m d) m∧Below w1.heap.size w1 wr):=Lib.hid (by
    have hlen:(rdR m d).length=k:=by rw [rdR_len,HDL.out,HKD.out]
    have hww:=HB1.out.size
    refine⟨⟨vs,by rw [hlen];exact own_weak hov hww,fun j hj=>?_⟩,hB⟩
    obtain⟨a,c,h1,h2⟩:=hin j (by omega)
    exact⟨a,c,h1,by rw [rdR_at];exact own_weak h2 hww⟩)
   clear hI hX hov hin hB
   go_wp2
   go_ret
   exact⟨⟨_,_,rfl,HR.out.1⟩,bch HB1.out HR.out.2⟩
end Go.Proofs.YtohkgdfkklfgmaaGreatDoor.L16
end
section
set_option maxHeartbeats 4000000
namespace Go.Proofs.YtohkgdfkklfgmaaGreatDoor.L16
set_option maxRecDepth 100000
open Go.RowKit L14 L15
open L13 (Ob)
attribute [local go_sem] Oper.semAt_some
theorem sub_le (b:List UInt8) (i n:Nat):(sub b i n).length≤b.length:=by
 unfold sub
 rw [List.length_take,List.length_drop];omega
theorem getV_mem:∀ (l:List Sc) (k:Int) (d:List UInt8),getV l k=some d→∃ s∈l,s.2=d
 | [],_,_,h=>by cases h
 | s::r,k,d,h=>by
  unfold getV at h
  split at h
  ·exact⟨s,List.mem_cons_self ..,Option.some.inj h⟩
  ·obtain⟨x,hx,hd⟩:=getV_mem r k d h
   exact⟨x,List.mem_cons_of_mem _ hx,hd⟩
theorem gD_le (b:List UInt8) (n:Nat) (k:Int):(gD (rdT b n) k).length≤b.length:=by
 unfold gD
 cases h:getV (rdT b n) k with
 | none=>simp
 | some d =>
  obtain⟨s,hs,hd⟩:=getV_mem _ _ _ h
  obtain⟨i,hi,rfl⟩:=List.mem_iff_getElem.1 hs
  rw [rdT_at] at hd
  rw [← hd]
  exact sub_le _ _ _
theorem tot_mem:∀ (ts:List (List UInt8)) (t:List UInt8),t∈ts→t.length≤L14.tot ts
 | x::r,t,h=>by
  have e:L14.tot (x::r)=x.length+L14.tot r:=by simp [L14.tot]
  rcases List.mem_cons.1 h with rfl|h
  ·omega
  ·have:=tot_mem r t h
   omega
theorem zip_nm:∀ (ts:List (List UInt8)) (rs:List (List Int)) (d:L9.Df),d∈List.zipWith mkD ts rs→∃ t∈ts,d.nm=mkB t
 | [],_,_,h=>by simp at h
 | _::_,[],_,h=>by simp at h
 | t::r,s::q,d,h=>by
  rw [List.zipWith_cons_cons] at h
  rcases List.mem_cons.1 h with rfl|h
  ·exact⟨t,List.mem_cons_self ..,rfl⟩
  ·obtain⟨x,hx,hd⟩:=zip_nm r q d h
   exact⟨x,List.mem_cons_of_mem _ hx,hd⟩
structure Ct (b:List UInt8) (o:Ob):Prop where
 one:∀ q,Is16 b q→q=o
 sml:OS o
theorem gD_secs (q:Ob):gD (secs q) 1=q.code∧gD (secs q) 2=rwB (r2 q.maps)∧gD (secs q) 4=rwB (r4 q.rels)∧gD (secs q) 5=L14.tb (nmL q.maps):=by
 refine⟨?_,?_,?_,?_⟩ <;> simp [gD,secs,getV]
theorem ct_of {b:List UInt8} {ts:List (List UInt8)} (hb:b.length≤100000) (hp:L14.prV (gD (rdT b (nS b)) 5)=some ts) :
  Ct b (obT (gD (rdT b (nS b)) 1) (gD (rdT b (nS b)) 2) (gD (rdT b (nS b)) 4) ts):=by
 have h1:=gD_le b (nS b) 1
 have h4:=gD_le b (nS b) 4
 have h5:=gD_le b (nS b) 5
 have hf:=L14.prV_few hp
 refine⟨fun q hq=>?_,⟨?_,?_,?_,?_⟩⟩
 ·obtain⟨-,he⟩:=is16_rd hq
  have hg:=gd_of hq.1
  obtain⟨e1,e2,e4,e5⟩:=gD_secs q
  rw [he,e5,prV_secs hg] at hp
  rw [he,e1,e2,e4,← Option.some.inj hp,obT_secs hg]
 ·show (List.zipWith mkD ts _).length≤_
  rw [List.length_zipWith];omega
 ·show (gD (rdT b (nS b)) 1).length≤_
  omega
 ·show ((rdR 2 (gD (rdT b (nS b)) 4)).map mkR).length≤_
  rw [List.length_map,rdR_len];omega
 ·intro d hd
  obtain⟨t,ht,hn⟩:=zip_nm ts _ d hd
  rw [hn,mkB_size]
  have:=tot_mem ts t ht
  unfold maxLen;omega
def CoN (b:List UInt8) (w:World) (e:Ending) (w':World):Prop :=
 (∀ q,¬ Is16 b q)∧e=.returned (.tuple #[.agg #[.slice none 0 0,.slice none 0 0,.slice none 0 0],.bool false])∧Below w.heap.size w w'
def CoY (o:Ob) (w:World) (e:Ending) (w':World):Prop :=
 (∃ vm vc vr,e=.returned (.tuple #[.agg #[vm,vc,vr],.bool true])∧OA w' vm vc vr o)∧Below w.heap.size w w'
abbrev nil3:Array Value:=#[.slice none 0 0,.slice none 0 0,.slice none 0 0]
theorem read_not (a:Option Addr) (n c:Nat) (b:List UInt8) (w:World) (hv:Rw eB w (.slice a n c) b) (hb:n≤1000000) (h:¬ rdOk b) :
  Calls Tryz.prog 20 #[.slice a n c] w fun e w'=>e=.returned (.tuple #[.slice none 0 0,.int .i64 19])∧Below w.heap.size w w':=by
 refine (read_at a n c b w hv hb).mono fun e w' hP=>?_
 obtain⟨⟨-,he⟩|⟨h1,-⟩,hb⟩:=hP
 ·exact⟨he,hb⟩
 ·exact absurd h1 h
theorem read_is (a:Option Addr) (n c:Nat) (b:List UInt8) (w:World) (hv:Rw eB w (.slice a n c) b) (hb:n≤1000000) (h:rdOk b) :
  Calls Tryz.prog 20 #[.slice a n c] w fun e w'=>(∃ a' c',e=.returned (.tuple #[.slice a' (nS b) c',.int .i64 0])∧Ss w' (.slice a' (nS b) c') (rdT b (nS b)))∧Below w.heap.size w w':=by
 refine (read_at a n c b w hv hb).mono fun e w' hP=>?_
 obtain⟨⟨h1,-⟩|⟨-,h2⟩,hb⟩:=hP
 ·exact absurd h h1
 ·exact⟨h2,hb⟩
theorem content_no (a:Option Addr) (n c:Nat) (b:List UInt8) (w:World) (hv:Rw eB w (.slice a n c) b) (hb:n≤100000) (h:¬ rdOk b) :
  Calls Tryz.prog 35 #[.slice a n c] w (CoN b w):=by
 have HR:=Lib.hid (read_not a n c b _ (hv.below (bnew w (.cells nil3 26))) (by omega) h)
 have K0:=Lib.hid (heap_alloc_last w (.cells nil3 26))
 have HB:=Lib.hid (bnew w (.cells nil3 26))
 have HN:=Lib.hid (fun q (hq:Is16 b q)=>h (is16_rd hq).1)
 clear hv h
 go_enter Tryz.func35,Tryz.ntmps35
 go_upto_region 3 with (go_at_call 20;((with_reducible refine (HR.out).mono ?_);rintro e w1 ⟨rfl,b1⟩))
 have q2:=L8.row_up K0.out b1
 have B1:=bch HB.out b1
 go_wp2_with (refine wpList_store_row rfl _ _ _ rfl w.heap.size nil3 rfl rfl 26 _ q2 (by kernel_rfl) rfl (by simp [Value.oneCell']) ?_)
 obtain⟨z0,z1,z2⟩:=L13.cells3 (setRow_heap _ _ _ nil3 _ _ q2)
 exact bodyPost_ret (v:=.tuple #[.agg nil3,.bool false]) (by simp [results,Tryz.results35,go_sem,z0,z1,z2]) rfl ⟨HN.out,rfl,below_setRow B1 (Nat.le_refl _) _⟩
theorem readRows_is (v:Value) (l:List Sc) (kind M:Int) (m K:Nat) (d:List UInt8) (w:World) (hv:Ss w v l) (hl:l.length≤1000000) (hm0:0<m) (hm4:m≤4) (hd:gD l kind=d) (hdl:d.length≤1000000) (hK:d.length / (4*m)=K) (hM:M=(m:Int)) :
  Calls Tryz.prog 70 #[v,.int .i64 kind,.int .i64 M] w fun e w'=>(∃ a c,e=.returned (.slice a K c)∧Ro w.heap.size w' (.slice a K c) (rdR m d) m)∧Below w.heap.size w w':=by
 subst hM
 exact readRows_at v l kind m K d w hv hl hm0 hm4 hd hdl hK
theorem nS_le {b:List UInt8} (h:rdOk b):(rdT b (nS b)).length≤1000000:=by
 have:=(chk0.1 h.2.1).1.1
 omega
theorem content_bad (a:Option Addr) (n c:Nat) (b:List UInt8) (w:World) (hv:Rw eB w (.slice a n c) b) (hb:n≤100000) (h:rdOk b) (hp:L14.prV (gD (rdT b (nS b)) 5)=none) :
  Calls Tryz.prog 35 #[.slice a n c] w (CoN b w):=by
 have hbl:=hv.at.1
 obtain⟨l,hl⟩:∃ l,rdT b (nS b)=l:=⟨_,rfl⟩
 have hl5:=gD_le b (nS b) 5
 have hl2:=gD_le b (nS b) 2
 have hlm:=nS_le h
 have HR:=Lib.hid (hl ▸ read_is a n c b _ (hv.below (bnew w (.cells nil3 26))) (by omega) h)
 rw [hl] at hp hl5 hl2 hlm
 obtain⟨D5,hD5⟩:∃ D,(gD l 5).length=D:=⟨_,rfl⟩
 obtain⟨K2,hK2⟩:∃ K,(gD l 2).length / (4*4)=K:=⟨_,rfl⟩
 have HG:=Lib.hid (fun (X:World) (v:Value) (hs:Ss X v l)=>gget_at v l 5 _ D5 X hs hlm rfl hD5)
 have HP:=Lib.hid (fun (X:World) (v:Value) (hr:Rw eB X v (gD l 5))=>parse_none v (gD l 5) X hr (by omega) hp)
 have HQ:=Lib.hid (fun (X:World) (v:Value) (hs:Ss X v l)=>readRows_is v l 2 4 4 K2 _ X hs hlm (by decide) (by decide) rfl (by omega) hK2 rfl)
 have K0:=Lib.hid (heap_alloc_last w (.cells nil3 26))
 have HB:=Lib.hid (bnew w (.cells nil3 26))
 have HN:Hid (∀ q,¬ Is16 b q):=Lib.hid (fun q hq=>by
  have e:=(is16_rd hq).2
  rw [hl] at e
  rw [e,(gD_secs q).2.2.2,prV_secs (gd_of hq.1)] at hp
  cases hp)
 clear hv h hp hl hl5 hl2 hlm hbl hD5 hK2
 generalize nS b=L at HR
 go_enter Tryz.func35,Tryz.ntmps35
 go_upto_region 8 with (first
  | (go_at_call 20;((with_reducible refine (HR.out).mono ?_);rintro e w1 ⟨⟨ra,rc,rfl,rs⟩,b1⟩;have B1:=bch HB.out b1))
  | (go_at_call 68;((with_reducible refine (HG.out _ _ rs).mono ?_);rintro e w2 ⟨⟨ga,gc,gb,rfl,rg0⟩,b2⟩;have rg:=rg0.below b2;have B2:=bch B1 b2;have rs2:=rs.below b2))
  | (go_at_call 69;((with_reducible refine (HP.out _ _ rg).mono ?_);rintro e w3 ⟨rfl,b3⟩;have B3:=bch B2 b3;have rs3:=rs2.below b3))
  | (go_at_call 70;((with_reducible refine (HQ.out _ _ rs3).mono ?_);rintro e w4 ⟨⟨qa,qc,rfl,-⟩,b4⟩;have B4:=bch B3 b4)))
 have q2:=L8.row_up (L8.row_up (L8.row_up (L8.row_up K0.out b1) b2) b3) b4
 go_wp2_with (refine wpList_store_row rfl _ _ _ rfl w.heap.size nil3 rfl rfl 26 _ q2 (by kernel_rfl) rfl (by simp [Value.oneCell']) ?_)
 obtain⟨z0,z1,z2⟩:=L13.cells3 (setRow_heap _ _ _ nil3 _ _ q2)
 exact bodyPost_ret (v:=.tuple #[.agg nil3,.bool false]) (by simp [results,Tryz.results35,go_sem,z0,z1,z2]) rfl ⟨HN.out,rfl,below_setRow B4 (Nat.le_refl _) _⟩
theorem content_off (a:Option Addr) (n c:Nat) (b:List UInt8) (w:World) (ts:List (List UInt8)) (hv:Rw eB w (.slice a n c) b) (hb:n≤100000) (h:rdOk b) (hp:L14.prV (gD (rdT b (nS b)) 5)=some ts) (hne:(gD (rdT b (nS b)) 2).length / (4*4)≠ts.length) :
  Calls Tryz.prog 35 #[.slice a n c] w (CoN b w):=by
 have hbl:=hv.at.1
 obtain⟨l,hl⟩:∃ l,rdT b (nS b)=l:=⟨_,rfl⟩
 have hl5:=gD_le b (nS b) 5
 have hl2:=gD_le b (nS b) 2
 have hlm:=nS_le h
 have HR:=Lib.hid (hl ▸ read_is a n c b _ (hv.below (bnew w (.cells nil3 26))) (by omega) h)
 rw [hl] at hp hl5 hl2 hlm hne
 obtain⟨D5,hD5⟩:∃ D,(gD l 5).length=D:=⟨_,rfl⟩
 obtain⟨K2,hK2⟩:∃ K,(gD l 2).length / (4*4)=K:=⟨_,rfl⟩
 obtain⟨T,hT⟩:∃ K,ts.length=K:=⟨_,rfl⟩
 have HG:=Lib.hid (fun (X:World) (v:Value) (hs:Ss X v l)=>gget_at v l 5 _ D5 X hs hlm rfl hD5)
 have HP:=Lib.hid (fun (X:World) (v:Value) (hr:Rw eB X v (gD l 5))=>parse_some v (gD l 5) ts T X hr (by omega) hp hT)
 have HQ:=Lib.hid (fun (X:World) (v:Value) (hs:Ss X v l)=>readRows_is v l 2 4 4 K2 _ X hs hlm (by decide) (by decide) rfl (by omega) hK2 rfl)
 have K0:=Lib.hid (heap_alloc_last w (.cells nil3 26))
 have HB:=Lib.hid (bnew w (.cells nil3 26))
 have HN:Hid (∀ q,¬ Is16 b q):=Lib.hid (fun q hq=>by
  have e:=(is16_rd hq).2
  rw [hl] at e
  obtain⟨-,e2,-,e5⟩:=gD_secs q
  rw [e,e5,prV_secs (gd_of hq.1)] at hp
  rw [e,e2,r2_len,← Option.some.inj hp,nmL_len] at hne
  omega)
 rw [hK2,hT] at hne
 have hne':((K2:Int) != (T:Int))=true:=by rw [bne_iff_ne];omega
 clear hv h hp hl hl5 hl2 hlm hbl hD5 hK2 hT hne
 generalize nS b=L at HR
 go_enter Tryz.func35,Tryz.ntmps35
 go_upto_region 8 with (first
  | (go_at_call 20;((with_reducible refine (HR.out).mono ?_);rintro e w1 ⟨⟨ra,rc,rfl,rs⟩,b1⟩;have B1:=bch HB.out b1))
  | (go_at_call 68;((with_reducible refine (HG.out _ _ rs).mono ?_);rintro e w2 ⟨⟨ga,gc,gb,rfl,rg0⟩,b2⟩;have rg:=rg0.below b2;have B2:=bch B1 b2;have rs2:=rs.below b2))
  | (go_at_call 69;((with_reducible refine (HP.out _ _ rg).mono ?_);rintro e w3 ⟨⟨pa,pc,oa,oc,rfl,-,-⟩,b3⟩;have B3:=bch B2 b3;have rs3:=rs2.below b3))
  | (go_at_call 70;((with_reducible refine (HQ.out _ _ rs3).mono ?_);rintro e w4 ⟨⟨qa,qc,rfl,-⟩,b4⟩;have B4:=bch B3 b4)))
 have q2:=L8.row_up (L8.row_up (L8.row_up (L8.row_up K0.out b1) b2) b3) b4
 go_wp2_with (refine wpList_store_row rfl _ _ _ rfl w.heap.size nil3 rfl rfl 26 _ q2 (by kernel_rfl) rfl (by simp [Value.oneCell']) ?_)
 obtain⟨z0,z1,z2⟩:=L13.cells3 (setRow_heap _ _ _ nil3 _ _ q2)
 exact bodyPost_ret (v:=.tuple #[.agg nil3,.bool false]) (by simp [results,Tryz.results35,go_sem,z0,z1,z2]) rfl ⟨HN.out,rfl,below_setRow B4 (Nat.le_refl _) _⟩
end Go.Proofs.YtohkgdfkklfgmaaGreatDoor.L16
end
section
set_option maxHeartbeats 8000000
namespace Go.Proofs.YtohkgdfkklfgmaaGreatDoor.L16
set_option maxRecDepth 100000
open Go.RowKit L14 L15
open L13 (Ob)
attribute [local go_sem] Oper.semAt_some
theorem ss_five (W:World) (k:Nat) (hk:W.heap.size=k) (d1 d2 d3 d4 d5:Value) (x1 x2 x3 x4 x5:List UInt8) (t:TypeId) (W':World) (hW:W'=W.alloc (.cells #[.int .i64 1,d1,.int .i64 2,d2,.int .i64 3,d3,.int .i64 4,d4,.int .i64 5,d5] t)) (h1:Rw eB W' d1 x1) (h2:Rw eB W' d2 x2) (h3:Rw eB W' d3 x3) (h4:Rw eB W' d4 x4) (h5:Rw eB W' d5 x5) :
  Ss W' (.slice (some ⟨k,0,none⟩) 5 5) [(1,x1),(2,x2),(3,x3),(4,x4),(5,x5)]:=by
 subst hk hW
 have hn:=heap_alloc_new W (.cells #[.int .i64 1,d1,.int .i64 2,d2,.int .i64 3,d3,.int .i64 4,d4,.int .i64 5,d5] t)
 have hc:∀ i v,(#[.int .i64 1,d1,.int .i64 2,d2,.int .i64 3,d3,.int .i64 4,d4,.int .i64 5,d5]:Array Value)[i]?=some v→(W.alloc (.cells #[.int .i64 1,d1,.int .i64 2,d2,.int .i64 3,d3,.int .i64 4,d4,.int .i64 5,d5] t)).cell? ⟨W.heap.size,i,none⟩=some v:=by
  intro i v h
  unfold World.cell?
  simp only [hn]
  exact h
 refine⟨_,5,rfl,Nat.le_refl _,fun e=>(by cases e),fun _=>⟨W.heap.size,0,rfl,lt_of_block hn,fun j hj=>?_⟩⟩
 match j,hj with
 | 0,_=>exact⟨hc 0 _ rfl,d1,hc 1 _ rfl,h1⟩
 | 1,_=>exact⟨hc 2 _ rfl,d2,hc 3 _ rfl,h2⟩
 | 2,_=>exact⟨hc 4 _ rfl,d3,hc 5 _ rfl,h3⟩
 | 3,_=>exact⟨hc 6 _ rfl,d4,hc 7 _ rfl,h4⟩
 | 4,_=>exact⟨hc 8 _ rfl,d5,hc 9 _ rfl,h5⟩
theorem rowsD_gd (vm:Value) (o:Ob) (N:Nat) (w:World) (hv:L10.DfAt w vm o.maps) (hg:Gd o) (hN:(rwB (r2 o.maps)).length=N) :
  Calls Tryz.prog 56 #[vm,.func (.func 57) #[] #[]] w (RwP (r2 o.maps) N w):=by
 have h1:=hg.n
 refine rowsD_at vm o.maps (r2 o.maps) N w hv (by omega) (by simp [r2]) (fun r hr=>?_) hN (by rw [← hN,r2_len];omega) (fun j h W=>?_)
 ·obtain⟨d,hd,rfl⟩:=List.mem_map.1 hr
  refine⟨by simp,fun z hz=>?_⟩
  obtain⟨-,h2,h3,h4⟩:=L11.deE_of (hg.df d hd)
  simp only [List.mem_cons,List.not_mem_nil,or_false] at hz
  omega
 ·have e:(r2 o.maps).getD j []=[o.maps[j].key,o.maps[j].val,o.maps[j].ent,0]:=by simp [r2,List.getD,h]
  rw [e]
  exact sec1_at _ _ _ _ _ W
theorem rowsN_gd (v:Value) (l:List Nat) (N:Nat) (w:World) (hv:Rw eN w v l) (hl:l.length≤255) (hb:∀ x∈l,x<4294967296) (hN:(rwB (r3 l)).length=N) :
  Calls Tryz.prog 58 #[v,.func (.func 59) #[] #[]] w (RwP (r3 l) N w):=by
 refine rowsN_at v l (r3 l) N w hv (by omega) (by simp [r3]) (fun r hr=>?_) hN (by rw [← hN,r3_len];omega) (fun j h W=>?_)
 ·obtain⟨i,hi,rfl⟩:=List.mem_iff_getElem.1 hr
  have hi':i<l.length:=by simpa [r3] using hi
  refine⟨by simp [r3],fun z hz=>?_⟩
  have:=hb _ (List.getElem_mem hi')
  simp only [r3,List.getElem_mapIdx,List.mem_cons,List.not_mem_nil,or_false] at hz
  omega
 ·have e:(r3 l).getD j []=[((l[j]:Nat):Int),((j:Nat):Int)]:=by simp [r3,List.getD,h]
  rw [e]
  exact sec2_at _ _ W
theorem rowsR_gd (vr:Value) (o:Ob) (N:Nat) (w:World) (hv:L13.RoAt w vr o.rels) (hg:Gd o) (hN:(rwB (r4 o.rels)).length=N) :
  Calls Tryz.prog 60 #[vr,.func (.func 61) #[] #[]] w (RwP (r4 o.rels) N w):=by
 have h1:=hg.rln
 refine rowsR_at vr o.rels (r4 o.rels) N w hv (by omega) (by simp [r4]) (fun r hr=>?_) hN (by rw [← hN,r4_len];omega) (fun j h W=>?_)
 ·obtain⟨d,hd,rfl⟩:=List.mem_map.1 hr
  refine⟨by simp,fun z hz=>?_⟩
  have:=hg.rels d hd
  simp only [List.mem_cons,List.not_mem_nil,or_false] at hz
  omega
 ·have e:(r4 o.rels).getD j []=[o.rels[j].1,o.rels[j].2]:=by simp [r4,List.getD,h]
  rw [e]
  exact sec3_at _ _ _ W
theorem ofs_lt:∀ (ts:List (List UInt8)) (st:Nat),∀ x∈L14.ofs st ts,x≤st+(L14.tot ts+ts.length)
 | [],_,x,h=>by cases h
 | t::r,st,x,h=>by
  rw [L14.ofs] at h
  have e:L14.tot (t::r)=t.length+L14.tot r:=by simp [L14.tot]
  rcases List.mem_cons.1 h with rfl|h
  ·omega
  ·have:=ofs_lt r _ x h
   rw [e,List.length_cons];omega
theorem keepS {w w':World} {k:Nat} {a b c:Value} {t:TypeId} (h:w.heap[k]?=some (.cells #[a,b,c] t)) (hb:Below w.heap.size w w'):Below w.heap.size w w'∧w'.cell? ⟨k,0,none⟩=some a∧w'.cell? ⟨k,1,none⟩=some b∧w'.cell? ⟨k,2,none⟩=some c:=by
 obtain⟨x,y,z⟩:=L13.cells3 (L8.row_up h hb)
 exact⟨hb,x,y,z⟩
theorem sections_at (vm vc vr:Value) (o:Ob) (w:World) (ho:OA w vm vc vr o) (_:OS o) (hg:Gd o) :
  Calls Tryz.prog 30 #[.agg #[vm,vc,vr]] w fun e w'=>(∃ a c,e=.returned (.slice a 5 c)∧Ss w' (.slice a 5 c) (secs o))∧Below w.heap.size w w':=by
 obtain⟨i0,hi,hz0,hz1,hz2⟩:=info_parts infoText
 obtain⟨n1,hn1⟩:∃ n,o.maps.length=n:=⟨_,rfl⟩
 obtain⟨n2,hn2⟩:∃ n,o.code.length=n:=⟨_,rfl⟩
 obtain⟨n3,hn3⟩:∃ n,o.rels.length=n:=⟨_,rfl⟩
 obtain⟨N2,hN2⟩:∃ n,(rwB (r2 o.maps)).length=n:=⟨_,rfl⟩
 obtain⟨N3,hN3⟩:∃ n,(rwB (r3 (ofs 1 (nmL o.maps)))).length=n:=⟨_,rfl⟩
 obtain⟨N4,hN4⟩:∃ n,(rwB (r4 o.rels)).length=n:=⟨_,rfl⟩
 obtain⟨NT,hNT⟩:∃ n,(tb (nmL o.maps)).length=n:=⟨_,rfl⟩
 have hq1:=hg.n
 have hq2:=hg.tot
 rw [hn1] at hq1
 have hnl:(nmL o.maps).length=n1:=by rw [nmL_len,hn1]
 have HBu:=Lib.hid (fun (X:World) (v:Value) (h:Rw eT X v (nmL o.maps))=>build_yes v (nmL o.maps) n1 NT X h (by omega) (by omega) (fun t ht=>(hg.nms t ht).1) hnl hNT)
 have HD:=Lib.hid (fun (X:World) (hX:Below w.heap.size w X)=>rowsD_gd vm o N2 X (ho.m.below hX) hg hN2)
 have HO:=Lib.hid (fun (X:World) (v:Value) (h:Rw eN X v (ofs 1 (nmL o.maps)))=>rowsN_gd v (ofs 1 (nmL o.maps)) N3 X h (by rw [ofs_len];omega) (fun x hx=>by have:=ofs_lt (nmL o.maps) 1 x hx;omega) hN3)
 have HE:=Lib.hid (fun (X:World) (hX:Below w.heap.size w X)=>rowsR_gd vr o N4 X (ho.r.below hX) hg hN4)
 have HCo:=Lib.hid (fun (X:World) (hX:Below w.heap.size w X)=>ho.c.below hX)
 obtain⟨a1,c1,rfl,hd⟩:=L10.df_form4 hn1 ho.m
 obtain⟨a2,c2,rfl,-⟩:=ho.c.form hn2
 obtain⟨a3,c3,rfl,-⟩:=L13.ro_form hn3 ho.r
 have HM:=Lib.hid hd
 have HN:=Lib.hid (And.intro hn1 hnl)
 have K0:=Lib.hid (heap_alloc_last w (.cells #[.slice a1 n1 c1,.slice a2 n2 c2,.slice a3 n3 c3] 26))
 have HB:=Lib.hid (bnew w (.cells #[.slice a1 n1 c1,.slice a2 n2 c2,.slice a3 n3 c3] 26))
 clear ho hg hn1 hn2 hn3 hd hN2 hN3 hN4 hNT hnl hq2
 go_enter Tryz.func30,Tryz.ntmps30
 go_upto_region 1 with (fail)
 obtain⟨k0,hk0⟩:∃ k,w.heap.size=k:=⟨_,rfl⟩
 rw [hk0] at K0 ⊢
 have HK0:=Lib.hid hk0
 generalize w.alloc (.cells #[.slice a1 n1 c1,.slice a2 n2 c2,.slice a3 n3 c3] 26)=W0 at K0 HB ⊢
 obtain⟨x0,x1,x2⟩:=L13.cells3 K0.out
 have lx:=World.block_lt_of_cell? _ _ x0
 simp only at lx
 clear hk0
 go_wp2
 have HI:Hid (W0.ownsRow W0.heap.size 9 1 (.slice none 0 0) 0 (((nmL o.maps).take 0).map eT)∧Below W0.heap.size W0 W0):=Lib.hid ⟨World.ownsRow_nil _ _ _ _,Below.refl _ _⟩
 go_loopw [3,12] (fun nv q wr=>∃ j:Nat,j≤n1∧q=.int .i64 (j:Int)∧Hid (wr.ownsRow W0.heap.size 9 1 nv j (((nmL o.maps).take j).map eT)∧Below W0.heap.size W0 wr)) (fun _ q _=>n1-(intOf q).toNat)
 case atStart=>exact⟨0,Nat.zero_le _,rfl,HI⟩
 case round =>
  obtain⟨j,hj,rfl,hI⟩:=hrel
  clear HI x0 x1 x2 lx
  obtain⟨va,vc,rfl⟩:=owns_slice hI.out.1
  by_cases hlt:j<n1
  ·have hjl:j<o.maps.length:=by rw [HN.out.1];exact hlt
   have hjn:j<(nmL o.maps).length:=by rw [HN.out.2];exact hlt
   obtain⟨bb,of,rfl,hbl,hcc⟩:=HM.out (by omega)
   obtain⟨z0,z1,z2,z3⟩:=hcc j hjl
   have hBB:=bch HB.out hI.out.2
   have y0:=(hBB.cell (p:=⟨bb,of+j*4,none⟩) (by exact hbl)).trans z0
   have y1:=(hBB.cell (p:=⟨bb,of+j*4+1,none⟩) (by exact hbl)).trans z1
   have y2:=(hBB.cell (p:=⟨bb,of+j*4+2,none⟩) (by exact hbl)).trans z2
   have y3:=(hBB.cell (p:=⟨bb,of+j*4+3,none⟩) (by exact hbl)).trans z3
   have hap:((nmL o.maps).take j).map eT++[.string o.maps[j].nm]=((nmL o.maps).take (j+1)).map eT:=by
    rw [take_snoc _ j hjn,List.map_append]
    simp [nmL,eT,mkB_of]
   have HAP:=Lib.hid hap
   obtain⟨d,hd⟩:∃ d,o.maps[j]=d:=⟨_,rfl⟩
   rw [hd] at y0 y1 y2 y3 HAP
   have hown:=hI.out.1
   have HBW:=Lib.hid hI.out.2
   have hsz:=HBW.out.size
   have hsw:=hBB.size
   clear hcc z0 z1 z2 z3 hBB hap hd hI hjn
   go_wp2_with (at_builtin;refine wpList_append_own _ rfl _ _ 65 rfl W0.heap.size 9 i0 (.string ⟨#[]⟩) 1 16 Tryz.underlying65 hi hz0 hz1 hz2 rfl (by decide) _ j _ rfl ((hown.alloc _).alloc _) ⟨wr.heap.size+1,0,none⟩ 1 1 [.string d.nm] rfl rfl (World.news_of_block (cs:=#[.string d.nm]) (t:=9) (fr:=(0,0)) (by have:=heap_alloc_last (wr.alloc (.cells #[.string d.nm,.int .i64 d.key,.int .i64 d.val,.int .i64 d.ent] 62)) (.cells #[.string d.nm] 9);simpa using this)) (by simp [Value.oneCell']) (by unfold maxLen;omega) (by omega) (by simp;omega) ?_;intro v' w3 hown3 hgrow3 _;have B3:=((HBW.out.alloc hsz (.cells #[.string d.nm,.int .i64 d.key,.int .i64 d.val,.int .i64 d.ent] 62)).alloc (by simp;omega) (.cells #[.string d.nm] 9)).grown hgrow3 (by simp;omega) (own_base hown))
   go_roundw
   case rel=>exact⟨j+1,hlt,by go_num,Lib.hid ⟨by rw [← HAP.out];exact hown3,B3⟩⟩
   case measure=>simp [intOf];omega
  ·obtain rfl:j=n1:=by omega
   have h1:=hI.out
   rw [List.take_of_length_le (by rw [HN.out.2];exact Nat.le_refl _)] at h1
   have hrw:Rw eT wr (.slice va j vc) (nmL o.maps):=Rw.own (by rw [HN.out.2];exact h1.1)
   have B1:=bch HB.out h1.2
   have r1:=L8.row_up K0.out h1.2
   clear hI h1
   go_upto_region 8 with (go_at_call 55;((with_reducible refine (HBu.out _ _ hrw).mono ?_);rintro e w2 ⟨⟨ta,tc,oa,oc,rfl,rt,ro⟩,b2⟩))
   have B2:=bch B1 b2
   have HK2:=Lib.hid (L8.row_up r1 b2)
   have HB2:=Lib.hid B2
   have HTb:=Lib.hid rt
   have HOf:=Lib.hid ro
   clear hrw B1 r1 b2 rt ro B2 HBu HM hq1
   go_region_held3 (fun W=>Below w2.heap.size w2 W∧W.cell? ⟨k0,0,none⟩=some (.slice a1 j c1)∧W.cell? ⟨k0,1,none⟩=some (.slice a2 n2 c2)∧W.cell? ⟨k0,2,none⟩=some (.slice a3 n3 c3))
    (first|exact keepS HK2.out ((Below.refl _ _).drew)|exact keepS HK2.out (bch (And.left (by assumption:Below w2.heap.size w2 _∧_)) hb9)|exact keepS HK2.out (bch (And.left (by assumption:Below w2.heap.size w2 _∧_)) (bnew _ _))|assumption)
    (first
     | (go_at_call 56;((with_reducible refine (HD.out _ (bch HB2.out (And.left (by assumption)))).mono ?_);rintro e w9 ⟨⟨a5,c5,rfl,rD⟩,hb9⟩;(try replace rN:=rN.below hb9);(try replace rR:=rR.below hb9)))
     | (go_at_call 58;((with_reducible refine (HO.out _ _ (HOf.out.below (And.left (by assumption)))).mono ?_);rintro e w9 ⟨⟨a6,c6,rfl,rN⟩,hb9⟩;(try replace rD:=rD.below hb9);(try replace rR:=rR.below hb9)))
     | (go_at_call 60;((with_reducible refine (HE.out _ (bch HB2.out (And.left (by assumption)))).mono ?_);rintro e w9 ⟨⟨a7,c7,rfl,rR⟩,hb9⟩;(try replace rD:=rD.below hb9);(try replace rN:=rN.below hb9))))
   all_goals
    rename_i hh
    go_wp2
    go_ret
    exact⟨⟨_,_,rfl,ss_five _ _ rfl _ _ _ _ _ _ _ _ _ _ _ _ rfl (HCo.out _ (bch HB2.out hh.1)) (rD.below (bnew _ _)) (rN.below (bnew _ _)) (rR.below (bnew _ _)) (HTb.out.below hh.1)⟩,bch HB2.out hh.1⟩
end Go.Proofs.YtohkgdfkklfgmaaGreatDoor.L16
end
section
set_option maxHeartbeats 4000000
namespace Go.Proofs.YtohkgdfkklfgmaaGreatDoor.L16
set_option maxRecDepth 100000
open Go.RowKit L14 L15
open L13 (Ob)
attribute [local go_sem] Oper.semAt_some
def szE (o:Ob):Int:=if chE o=0 then ((pkB o).length:Int) else 0
section
variable (vm vc vr:Value) (o:Ob) (w:World) (ho:OA w vm vc vr o) (hs:OS o) (hT:Tb w)
include ho hs hT
theorem pack_no (R:Int) (hR:chE o=R) (h0:R≠0):Calls Tryz.prog 12 #[.agg #[vm,vc,vr]] w fun e w'=>e=.returned (.tuple #[.slice none 0 0,.int .i64 R])∧Below w.heap.size w w':=by
 have HC:=Lib.hid (fun (X:World) (hX:Below w.heap.size w X)=>ocheck_at vm vc vr o R X (ho.below hX) hs (tb_below hT hX) hR)
 obtain⟨a1,c1,rfl,-⟩:=L10.df_form rfl ho.m
 obtain⟨a2,c2,rfl,-⟩:=ho.c.form rfl
 obtain⟨a3,c3,rfl,-⟩:=L13.ro_form rfl ho.r
 generalize o.maps.length=n1 at HC ⊢
 generalize o.code.length=n2 at HC ⊢
 generalize o.rels.length=n3 at HC ⊢
 have h0':(R != 0)=true:=by simpa using h0
 clear ho hs hT hR
 go_enter Tryz.func12,Tryz.ntmps12
 go_wp2_with (go_at_call 10;((with_reducible refine (HC.out _ (bnew _ _)).mono ?_);rintro e w1 ⟨rfl,b1⟩))
 go_ret2
 exact⟨rfl,bch (bnew _ _) b1⟩
theorem pack_yes (N:Nat) (hR:chE o=0) (hN:(pkB o).length=N):Calls Tryz.prog 12 #[.agg #[vm,vc,vr]] w fun e w'=>(∃ a c,e=.returned (.tuple #[.slice a N c,.int .i64 0])∧Rw eB w' (.slice a N c) (pkB o))∧Below w.heap.size w w':=by
 have hg:=gd_of hR
 have HC:=Lib.hid (fun (X:World) (hX:Below w.heap.size w X)=>ocheck_at vm vc vr o 0 X (ho.below hX) hs (tb_below hT hX) hR)
 have HS:=Lib.hid (fun (X:World) (hX:Below w.heap.size w X)=>sections_at vm vc vr o X (ho.below hX) hs hg)
 have HW:=Lib.hid (fun (X:World) (v:Value) (hv:Ss X v (secs o))=>write_yes v (secs o) N X hv (secs_sml hg) (secs_chk hg) (by rw [← hN,pkB,wr_len]))
 have K0:=Lib.hid (heap_alloc_last w (.cells #[vm,vc,vr] 26))
 obtain⟨a1,c1,rfl,-⟩:=L10.df_form rfl ho.m
 obtain⟨a2,c2,rfl,-⟩:=ho.c.form rfl
 obtain⟨a3,c3,rfl,-⟩:=L13.ro_form rfl ho.r
 generalize o.maps.length=n1 at HC HS K0 ⊢
 generalize o.code.length=n2 at HC HS K0 ⊢
 generalize o.rels.length=n3 at HC HS K0 ⊢
 clear ho hs hT hR hN hg
 go_enter Tryz.func12,Tryz.ntmps12
 go_wp2_with (first
  | (go_at_call 10;((with_reducible refine (HC.out _ (bnew _ _)).mono ?_);rintro e w1 ⟨rfl,b1⟩;have B1:=bch (bnew w _) b1;obtain⟨x0,x1,x2⟩:=L13.cells3 (L8.row_up K0.out b1)))
  | (go_at_call 30;((with_reducible refine (HS.out _ B1).mono ?_);rintro e w2 ⟨⟨sa,sc,rfl,ss⟩,b2⟩;have B2:=bch B1 b2))
  | (go_at_call 29;((with_reducible refine (HW.out _ _ ss).mono ?_);rintro e w3 ⟨⟨ra,rc,rfl,rr⟩,b3⟩;have B3:=bch B2 b3)))
 go_ret2
 exact⟨⟨_,_,rfl,rr⟩,B3⟩
theorem osize_no (R:Int) (hR:chE o=R) (h0:R≠0):Calls Tryz.prog 13 #[.agg #[vm,vc,vr]] w fun e w'=>e=.returned (.int .i64 0)∧Below w.heap.size w w':=by
 have HC:=Lib.hid (fun (X:World) (hX:Below w.heap.size w X)=>ocheck_at vm vc vr o R X (ho.below hX) hs (tb_below hT hX) hR)
 obtain⟨a1,c1,rfl,-⟩:=L10.df_form rfl ho.m
 obtain⟨a2,c2,rfl,-⟩:=ho.c.form rfl
 obtain⟨a3,c3,rfl,-⟩:=L13.ro_form rfl ho.r
 generalize o.maps.length=n1 at HC ⊢
 generalize o.code.length=n2 at HC ⊢
 generalize o.rels.length=n3 at HC ⊢
 have h0':(R != 0)=true:=by simpa using h0
 clear ho hs hT hR
 go_enter Tryz.func13,Tryz.ntmps13
 go_wp2_with (go_at_call 10;((with_reducible refine (HC.out _ (bnew _ _)).mono ?_);rintro e w1 ⟨rfl,b1⟩))
 go_ret
 exact⟨rfl,bch (bnew _ _) b1⟩
theorem osize_yes (N:Nat) (hR:chE o=0) (hN:(pkB o).length=N):Calls Tryz.prog 13 #[.agg #[vm,vc,vr]] w fun e w'=>e=.returned (.int .i64 (N:Int))∧Below w.heap.size w w':=by
 have hg:=gd_of hR
 have HC:=Lib.hid (fun (X:World) (hX:Below w.heap.size w X)=>ocheck_at vm vc vr o 0 X (ho.below hX) hs (tb_below hT hX) hR)
 have HS:=Lib.hid (fun (X:World) (hX:Below w.heap.size w X)=>sections_at vm vc vr o X (ho.below hX) hs hg)
 have HW:=Lib.hid (fun (X:World) (v:Value) (hv:Ss X v (secs o))=>size_at v (secs o) N X hv (secs_sml hg) (by rw [← hN,pkB,wr_len]))
 have K0:=Lib.hid (heap_alloc_last w (.cells #[vm,vc,vr] 26))
 obtain⟨a1,c1,rfl,-⟩:=L10.df_form rfl ho.m
 obtain⟨a2,c2,rfl,-⟩:=ho.c.form rfl
 obtain⟨a3,c3,rfl,-⟩:=L13.ro_form rfl ho.r
 generalize o.maps.length=n1 at HC HS K0 ⊢
 generalize o.code.length=n2 at HC HS K0 ⊢
 generalize o.rels.length=n3 at HC HS K0 ⊢
 clear ho hs hT hR hN hg
 go_enter Tryz.func13,Tryz.ntmps13
 go_wp2_with (first
  | (go_at_call 10;((with_reducible refine (HC.out _ (bnew _ _)).mono ?_);rintro e w1 ⟨rfl,b1⟩;have B1:=bch (bnew w _) b1;obtain⟨x0,x1,x2⟩:=L13.cells3 (L8.row_up K0.out b1)))
  | (go_at_call 30;((with_reducible refine (HS.out _ B1).mono ?_);rintro e w2 ⟨⟨sa,sc,rfl,ss⟩,b2⟩;have B2:=bch B1 b2))
  | (go_at_call 31;((with_reducible refine (HW.out _ _ ss).mono ?_);rintro e w3 ⟨rfl,b3⟩;have B3:=bch B2 b3)))
 go_ret
 exact⟨rfl,B3⟩
end
end Go.Proofs.YtohkgdfkklfgmaaGreatDoor.L16
end
