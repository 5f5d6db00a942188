/- Lemmas and walks of L14Sm, L8Lsh, L4Check, L4Alive, L10Pg: what each theorem states; conditions stand in each theorem. -/
import Derived.Test.YtdgnjhhieemcaaaGreatDoorM5
import Derived.Test.YtdgnjhhieemcaaaGreatDoorL4Cond26
set_option maxHeartbeats 4000000
set_option maxRecDepth 100000
section
namespace Go.Proofs.YtdgnjhhieemcaaaGreatDoor.L14
structure Sg where
 at':Nat
 t:List UInt8
def sg:Nat→List UInt8→List UInt8→List Sg
 | _,_,[]=>[]
 | st,a,c::r=>if c=0 then ⟨st,a⟩::sg (st+a.length+1) [] r else sg st (a++[c]) r
def fz:List UInt8→Option Nat
 | []=>none
 | c::r=>if c=0 then some 0 else (fz r).map (·+1)
def pr:List UInt8→List UInt8→Option (List (List UInt8))
 | a,[]=>if a=[] then some [] else none
 | a,c::r=>if c=0 then (if a=[] then none else (pr [] r).map (a::·)) else pr (a++[c]) r
def en:List UInt8→List UInt8→Bool
 | a,[]=>a.isEmpty
 | a,c::r=>if c=0 then en [] r else en (a++[c]) r
def bd (ts:List (List UInt8)):List UInt8:=ts.flatMap (·++[0])
def tb (ts:List (List UInt8)):List UInt8:=0::bd ts
end Go.Proofs.YtdgnjhhieemcaaaGreatDoor.L14
end
section
namespace Go.Proofs.YtdgnjhhieemcaaaGreatDoor.L8
open Go.RowKit L2
attribute [local go_sem] Oper.semAt_some
theorem TksAt.form {w:World} {v:Value} {xs:Tks} (h:TksAt w v xs):∃ a cap,v=.slice a xs.length cap:=by
 rcases h with ⟨b,o,cap,rfl,_⟩|⟨rfl,a,cap,rfl⟩
 ·exact⟨_,_,rfl⟩
 ·exact⟨_,_,rfl⟩
theorem TksAt.get {w:World} {a:Option Addr} {n cap:Nat} {xs:Tks} (h:TksAt w (.slice a n cap) xs) (hn:0<n):∃ b o,a=some ⟨b,o,none⟩∧n≤cap∧b<w.heap.size∧xs.length=n∧Tksat w b o xs:=by
 rcases h with ⟨b,o,c,hv,hcp,hb,hx⟩|⟨rfl,a',c,hv⟩
 ·cases hv;exact⟨b,o,rfl,hcp,hb,rfl,hx⟩
 ·cases hv;omega
theorem PT_ok {w w':World} {s:ByteArray} {e:Ending} (hb:bad s=-1) (h:PT w s e w'):∃ a cap,e=.returned (.tuple #[.slice a (tks s).length cap,.int .i64 0,.int .i64 0])∧TksAt w' (.slice a (tks s).length cap) (tkX s (tks s))∧Below w.heap.size w w':=by
 obtain⟨v,at_,er,rfl,hB,⟨h0,_⟩|⟨_,rfl,rfl,hv⟩⟩:=h
 ·omega
 ·obtain⟨a,cap,rfl⟩:=hv.form
  rw [tkX_len] at hv ⊢
  exact⟨a,cap,rfl,hv,hB⟩
theorem PT_bad {w w':World} {s:ByteArray} {e:Ending} (hb:0≤bad s) (h:PT w s e w'):∃ a cap,e=.returned (.tuple #[.slice a 0 cap,.int .i64 (bad s),.int .i64 2])∧Below w.heap.size w w':=by
 obtain⟨v,at_,er,rfl,hB,⟨_,rfl,rfl,a,cap,rfl⟩|⟨h0,_⟩⟩:=h
 ·exact⟨a,cap,rfl,hB⟩
 ·omega
theorem TksAt.cells {w:World} {b o:Nat} {xs:Tks} (h:Tksat w b o xs) (j:Nat) (hj:j<xs.length):∃ T q,xs[j]=(T,q)∧w.cell? ⟨b,o+j*2,none⟩=some (.string T)∧w.cell? ⟨b,o+j*2+1,none⟩=some (.int .i64 q):=by
 obtain⟨h1,h2⟩:=h j hj
 exact⟨xs[j].1,xs[j].2,rfl,h1,h2⟩
theorem bdN {B:Nat} {w w':World} (h:Below B w w') (m:Nat):Below B w (w'.drewN m):=⟨h.1,h.2,h.3,h.4,h.5⟩
theorem cells2 {w:World} {k:Nat} {a b:Value} {t:TypeId} (h:w.heap[k]?=some (.cells #[a,b] t)):w.cell? ⟨k,0,none⟩=some a∧w.cell? ⟨k,1,none⟩=some b:=by
 simp [World.cell?,h]
theorem row_up {w w':World} {k:Nat} {cs:Array Value} {t:TypeId} (h:w.heap[k]?=some (.cells cs t)) (hb:Below w.heap.size w w'):w'.heap[k]?=some (.cells cs t):=(hb.block _ (lt_of_block h)).trans h
end Go.Proofs.YtdgnjhhieemcaaaGreatDoor.L8
end
section
namespace Go.Proofs.YtdgnjhhieemcaaaGreatDoor.L4
open Go.RowKit L3 L1
def firstBad:List (Bool × Int)→Int
 | []=>0
 | (b,e)::r=>if b then firstBad r else e
theorem cells14 {w:World} {k:Nat} {a0 a1 a2 a3 a4 a5 a6 a7 a8 a9 a10 a11 a12 a13:Value} {t:TypeId} (h:w.heap[k]?=some (.cells #[a0,a1,a2,a3,a4,a5,a6,a7,a8,a9,a10,a11,a12,a13] t)) :
  w.cell? ⟨k,0,none⟩=some a0∧w.cell? ⟨k,1,none⟩=some a1∧w.cell? ⟨k,2,none⟩=some a2∧w.cell? ⟨k,3,none⟩=some a3∧w.cell? ⟨k,4,none⟩=some a4∧w.cell? ⟨k,5,none⟩=some a5∧w.cell? ⟨k,6,none⟩=some a6 ∧
  w.cell? ⟨k,7,none⟩=some a7∧w.cell? ⟨k,8,none⟩=some a8∧w.cell? ⟨k,9,none⟩=some a9∧w.cell? ⟨k,10,none⟩=some a10∧w.cell? ⟨k,11,none⟩=some a11∧w.cell? ⟨k,12,none⟩=some a12∧w.cell? ⟨k,13,none⟩=some a13:=by
 simp [World.cell?,h]
theorem check_at (op:Int) (reg:Bool) (dst src off imm f R:Int) (vD vS vO vI b1 b2 b3 b4 b5 b6 b7:Bool) (w:World) (hw:Wid w) (hf:frm (ix op)=f) (hD:uD f=vD) (hS:uS f reg=vS) (hO:uO f=vO) (hI:uI f reg=vI)
  (h1:(f != -1)=b1) (h2:(!reg || f==0 || f==4)=b2) (h3:((vD || dst==0) && (vS || src==0))=b3) (h4:((vO || off==0) && (vI || imm==0))=b4) (h5:(isG dst && isG src)=b5) (h6:(sx 16 off==off)=b6) (h7:rng f imm=b7)
  (hR:firstBad [(b1,6),(b2,12),(b3,12),(b4,12),(b5,5),(b6,4),(b7,4)]=R) :
  Calls Tryz.prog 166 #[.agg #[.int .i64 op,.bool reg,.int .i64 dst,.int .i64 src,.int .i64 off,.int .i64 imm]] w fun e w'=>e=.returned (.int .i64 R)∧Below w.heap.size w w':=by
 have HC:=Lib.hid (fun w hw=>conds_at op reg dst src off imm f vD vS vO vI w hf hD hS hO hI hw)
 have H1:=Lib.hid h1
 have H2:=Lib.hid h2
 have H3:=Lib.hid h3
 have H4:=Lib.hid h4
 have H5:=Lib.hid h5
 have H6:=Lib.hid h6
 have H7:=Lib.hid h7
 have HR:=Lib.hid hR
 have HW:=Lib.hid hw
 clear hf hD hS hO hI h1 h2 h3 h4 h5 h6 h7 hR hw
 have wid_new:∀ o,Wid (w.alloc o):=fun o=>by
  obtain⟨t,fr,hw⟩:=HW.out
  exact⟨t,fr,((bnew w o).block _ (lt_of_block hw)).trans hw⟩
 have HN:=Lib.hid wid_new
 clear wid_new HW
 go_enter Tryz.func166,Tryz.ntmps166
 go_wp2_with (first|(go_at_call 215;((with_reducible refine (HC.out _ (HN.out _)).mono ?_);rintro e w1 ⟨g,kx,kf,ku,rfl,hb1,hH,hg⟩)))
 have hb:=bch (bnew w _) hb1
 clear hb1 HN HC
 go_loopw [8] (fun i wr=>∃ k:Nat,k≤7∧i=.int .i64 k∧Below w.heap.size w wr∧Hid (Held wr kx kf ku op reg dst src off imm f vD vS vO vI∧wr.heap[g]?=some (.cells (condC kx kf ku) 296))∧Hid (firstBad (List.drop k [(b1,6),(b2,12),(b3,12),(b4,12),(b5,5),(b6,4),(b7,4)])=R)) (fun i _=>7-(intOf i).toNat)
 case atStart=>exact⟨0,by decide,rfl,hb,Lib.hid ⟨hH,hg⟩,HR⟩
 case round =>
  clear hH hg hb HR
  obtain⟨k,hk,rfl,hb,HG,HR⟩:=hrel
  rename_i wr
  have HN:=Lib.hid (fun o=>HG.out.1.below (bnew wr o))
  have hgl:=lt_of_block HG.out.2
  obtain⟨p0,p1,p2,p3,p4,p5,p6,p7,p8,p9,p10,p11,p12,p13⟩:=cells14 HG.out.2
  rcases (show k=0∨k=1∨k=2∨k=3∨k=4∨k=5∨k=6∨k=7 by omega) with rfl|rfl|rfl|rfl|rfl|rfl|rfl|rfl
  ·clear p2 p3 p4 p5 p6 p7 p8 p9 p10 p11 p12 p13
   cases b1
   ·go_wp2_with (first|(go_at_call 241;((with_reducible refine (c1_at (HN.out _) _ H1.out).mono ?_);rintro e w2 ⟨rfl,rfl⟩)))
    go_ret
    exact⟨by rw [← HR.out] <;> rfl,bch hb (bnew _ _)⟩
   ·go_wp2_with (first|(go_at_call 241;((with_reducible refine (c1_at (HN.out _) _ H1.out).mono ?_);rintro e w2 ⟨rfl,rfl⟩)))
    go_roundw
    case rel=>exact⟨1,by decide,by go_num,bch hb (bnew _ _),Lib.hid ⟨HN.out _,((bnew wr _).block _ hgl).trans HG.out.2⟩,HR⟩
    case measure=>simp [intOf]
  ·clear p0 p1 p4 p5 p6 p7 p8 p9 p10 p11 p12 p13
   cases b2
   ·go_wp2_with (first|(go_at_call 242;((with_reducible refine (c2_at (HN.out _) _ H2.out).mono ?_);rintro e w2 ⟨rfl,rfl⟩)))
    go_ret
    exact⟨by rw [← HR.out] <;> rfl,bch hb (bnew _ _)⟩
   ·go_wp2_with (first|(go_at_call 242;((with_reducible refine (c2_at (HN.out _) _ H2.out).mono ?_);rintro e w2 ⟨rfl,rfl⟩)))
    go_roundw
    case rel=>exact⟨2,by decide,by go_num,bch hb (bnew _ _),Lib.hid ⟨HN.out _,((bnew wr _).block _ hgl).trans HG.out.2⟩,HR⟩
    case measure=>simp [intOf]
  ·clear p0 p1 p2 p3 p6 p7 p8 p9 p10 p11 p12 p13
   cases b3
   ·go_wp2_with (first|(go_at_call 243;((with_reducible refine (c3_at (HN.out _) _ H3.out).mono ?_);rintro e w2 ⟨rfl,rfl⟩)))
    go_ret
    exact⟨by rw [← HR.out] <;> rfl,bch hb (bnew _ _)⟩
   ·go_wp2_with (first|(go_at_call 243;((with_reducible refine (c3_at (HN.out _) _ H3.out).mono ?_);rintro e w2 ⟨rfl,rfl⟩)))
    go_roundw
    case rel=>exact⟨3,by decide,by go_num,bch hb (bnew _ _),Lib.hid ⟨HN.out _,((bnew wr _).block _ hgl).trans HG.out.2⟩,HR⟩
    case measure=>simp [intOf]
  ·clear p0 p1 p2 p3 p4 p5 p8 p9 p10 p11 p12 p13
   cases b4
   ·go_wp2_with (first|(go_at_call 245;((with_reducible refine (c4_at (HN.out _) _ H4.out).mono ?_);rintro e w2 ⟨rfl,rfl⟩)))
    go_ret
    exact⟨by rw [← HR.out] <;> rfl,bch hb (bnew _ _)⟩
   ·go_wp2_with (first|(go_at_call 245;((with_reducible refine (c4_at (HN.out _) _ H4.out).mono ?_);rintro e w2 ⟨rfl,rfl⟩)))
    go_roundw
    case rel=>exact⟨4,by decide,by go_num,bch hb (bnew _ _),Lib.hid ⟨HN.out _,((bnew wr _).block _ hgl).trans HG.out.2⟩,HR⟩
    case measure=>simp [intOf]
  ·clear p0 p1 p2 p3 p4 p5 p6 p7 p10 p11 p12 p13
   cases b5
   ·go_wp2_with (first|(go_at_call 246;((with_reducible refine (c5_at (HN.out _) _ H5.out).mono ?_);rintro e w2 ⟨rfl,rfl⟩)))
    go_ret
    exact⟨by rw [← HR.out] <;> rfl,bch hb (bnew _ _)⟩
   ·go_wp2_with (first|(go_at_call 246;((with_reducible refine (c5_at (HN.out _) _ H5.out).mono ?_);rintro e w2 ⟨rfl,rfl⟩)))
    go_roundw
    case rel=>exact⟨5,by decide,by go_num,bch hb (bnew _ _),Lib.hid ⟨HN.out _,((bnew wr _).block _ hgl).trans HG.out.2⟩,HR⟩
    case measure=>simp [intOf]
  ·clear p0 p1 p2 p3 p4 p5 p6 p7 p8 p9 p12 p13
   cases b6
   ·go_wp2_with (first|(go_at_call 248;((with_reducible refine (c6_at (HN.out _) _ H6.out).mono ?_);rintro e w2 ⟨rfl,rfl⟩)))
    go_ret
    exact⟨by rw [← HR.out] <;> rfl,bch hb (bnew _ _)⟩
   ·go_wp2_with (first|(go_at_call 248;((with_reducible refine (c6_at (HN.out _) _ H6.out).mono ?_);rintro e w2 ⟨rfl,rfl⟩)))
    go_roundw
    case rel=>exact⟨6,by decide,by go_num,bch hb (bnew _ _),Lib.hid ⟨HN.out _,((bnew wr _).block _ hgl).trans HG.out.2⟩,HR⟩
    case measure=>simp [intOf]
  ·clear p0 p1 p2 p3 p4 p5 p6 p7 p8 p9 p10 p11
   cases b7
   ·go_wp2_with (first|(go_at_call 249;((with_reducible refine (c7_at (HN.out _) _ H7.out).mono ?_);rintro e w2 ⟨rfl,rfl⟩)))
    go_ret
    exact⟨by rw [← HR.out] <;> rfl,bch hb (bnew _ _)⟩
   ·go_wp2_with (first|(go_at_call 249;((with_reducible refine (c7_at (HN.out _) _ H7.out).mono ?_);rintro e w2 ⟨rfl,rfl⟩)))
    go_roundw
    case rel=>exact⟨7,by decide,by go_num,bch hb (bnew _ _),Lib.hid ⟨HN.out _,((bnew wr _).block _ hgl).trans HG.out.2⟩,HR⟩
    case measure=>simp [intOf]
  ·clear p0 p1 p2 p3 p4 p5 p6 p7 p8 p9 p10 p11 p12 p13
   go_wp2
   go_ret
   exact⟨by rw [← HR.out] <;> rfl,hb⟩
def chkF (f:Int) (reg:Bool) (dst src off imm:Int):Int :=
 firstBad [(f != -1,6),(!reg || f==0 || f==4,12),((uD f || dst==0) && (uS f reg || src==0),12),((uO f || off==0) && (uI f reg || imm==0),12),(isG dst && isG src,5),(sx 16 off==off,4),(rng f imm,4)]
theorem check_is (op:Int) (reg:Bool) (dst src off imm f R:Int) (w:World) (hw:Wid w) (hf:frm (ix op)=f) (hR:chkF f reg dst src off imm=R) :
  Calls Tryz.prog 166 #[.agg #[.int .i64 op,.bool reg,.int .i64 dst,.int .i64 src,.int .i64 off,.int .i64 imm]] w fun e w'=>e=.returned (.int .i64 R)∧Below w.heap.size w w' :=
 check_at op reg dst src off imm f R _ _ _ _ _ _ _ _ _ _ _ w hw hf rfl rfl rfl rfl rfl rfl rfl rfl rfl rfl rfl hR
theorem wid_below {w w':World} (h:Wid w) (hb:Below w.heap.size w w'):Wid w':=by
 obtain⟨t,fr,hw⟩:=h
 exact⟨t,fr,(hb.block _ (lt_of_block hw)).trans hw⟩
end Go.Proofs.YtdgnjhhieemcaaaGreatDoor.L4
end
section
namespace Go.Proofs.YtdgnjhhieemcaaaGreatDoor.L10
open Go.RowKit Go.Maps
structure Stm where
 labs:List ByteArray
 x:L9.Ins
 tg:ByteArray
 mp:ByteArray
structure Pg where
 maps:List L9.Df
 stmts:List Stm
abbrev dfL (d:L9.Df):List Value:=[.string d.nm,.int .i64 d.key,.int .i64 d.val,.int .i64 d.ent]
abbrev inL (x:L9.Ins):List Value:=[.int .i64 x.op,.bool x.reg,.int .i64 x.dst,.int .i64 x.src,.int .i64 x.off,.int .i64 x.imm]
abbrev smL (lv:Value) (s:Stm):List Value:=[lv,.int .i64 s.x.op,.bool s.x.reg,.int .i64 s.x.dst,.int .i64 s.x.src,.int .i64 s.x.off,.int .i64 s.x.imm,.string s.tg,.string s.mp]
def feF:Nat→List Int→Nat × Int
 | _,[]=>(0,0)
 | k,e::r=>if e=0 then feF (k+1) r else (k,e)
def fe (l:List Int):Nat × Int:=feF 0 l
theorem feF_zero:∀ (l:List Int) (k:Nat),(∀ e∈l,e=0)→feF k l=(0,0)
 | [],_,_=>rfl
 | e::r,k,h=>by rw [feF,if_pos (h e (by simp))];exact feF_zero r (k+1) fun x hx=>h x (by simp [hx])
theorem feF_none:∀ (l:List Int) (k:Nat),(feF k l).2=0→∀ e∈l,e=0
 | [],_,_=>by simp
 | e::r,k,h=>by
  rw [feF] at h
  by_cases he:e=0
  ·rw [if_pos he] at h
   intro x hx
   rcases List.mem_cons.1 hx with rfl|hx
   ·exact he
   ·exact feF_none r (k+1) h x hx
  ·rw [if_neg he] at h;exact absurd h he
theorem feF_step (l:List Int) (j:Nat) (h:j<l.length):feF j (l.drop j)=if l[j]=0 then feF (j+1) (l.drop (j+1)) else (j,l[j]):=by
 rw [List.drop_eq_getElem_cons h,feF]
theorem feF_end (l:List Int) (j:Nat) (h:l.length≤j):feF j (l.drop j)=(0,0):=by
 rw [List.drop_eq_nil_of_le h];rfl
def upB (g n:Int):Bool:=decide (1≤n) && decide (n≤g)
def deE (d:L9.Df):Int:=if L2.vd d.nm then (if (upB 64 d.key && upB 256 d.val) && upB 1024 d.ent then 0 else 9) else 7
def chI (x:L9.Ins):Int:=L4.chkF (L3.frm (L3.ix x.op)) x.reg x.dst x.src x.off x.imm
def fmI (x:L9.Ins):Int:=L3.frm (L3.ix x.op)
def jmI (x:L9.Ins):Bool:=L4.jmpF (fmI x)
def rfI (x:L9.Ins):Bool:=fmI x==11
def badF (s:Stm):Bool:=(jmI s.x && s.x.off != 0) || (rfI s.x && s.x.imm != 0) || (!jmI s.x && !s.tg.toList.isEmpty) || (!rfI s.x && !s.mp.toList.isEmpty)
def badN (s:Stm):Bool:=(jmI s.x && !L2.vd s.tg) || (rfI s.x && !L2.vd s.mp)
def stE (s:Stm):Int:=if s.labs.all L2.vd then (if chI s.x=0 then (if badF s then 12 else if badN s then 7 else 0) else chI s.x) else 7
def addB:List ByteArray→List ByteArray→Bool
 | _,[]=>true
 | ks,x::r=>if L2.on ks x then false else addB (ks++[x]) r
def szE (n:Nat):List Int:=(List.range n).map fun i=>if i<255 then 0 else 16
def dpE:List ByteArray→List (List ByteArray)→List Int
 | _,[]=>[]
 | ks,l::r=>(if addB ks l then 0 else 10)::dpE (ks++l) r
def alL (p:Pg):List ByteArray:=p.stmts.flatMap (·.labs)
def mpL (p:Pg):List ByteArray:=p.maps.map (·.nm)
def unE (p:Pg) (s:Stm):Int:=if (s.tg.toList.isEmpty || L2.on (alL p) s.tg) && (s.mp.toList.isEmpty || L2.on (mpL p) s.mp) then 0 else 11
def wrE (s:Stm):Int:=if L4.wri (fmI s.x) s.x.dst=10 then 14 else 0
def enE (n:Nat) (i:Nat) (s:Stm):Int:=if decide ((i:Int)<(n:Int)-1) || L4.endF (fmI s.x) then 0 else 15
def cnd (p:Pg):List (Bool × Nat × Int) :=
 [(true,fe (p.maps.map deE)),(false,fe (p.stmts.map stE)),(true,fe (szE p.maps.length)),(true,fe (dpE [] (p.maps.map fun d=>[d.nm]))),
  (false,fe (dpE [] (p.stmts.map (·.labs)))),(false,(0,if 0<p.stmts.length then 0 else 15)),(false,fe (p.stmts.map (unE p))),(false,fe (p.stmts.map wrE)),
  (false,fe (p.stmts.mapIdx (enE p.stmts.length)))]
def frB:List (Bool × Nat × Int)→Bool × Nat × Int
 | []=>(false,0,0)
 | c::r=>if c.2.2=0 then frB r else c
def brV (p:Pg):Bool × Nat × Int:=frB (cnd p)
theorem dpE_len:∀ (l:List (List ByteArray)) (ks:List ByteArray),(dpE ks l).length=l.length
 | [],_=>rfl
 | _::r,ks=>by rw [dpE,List.length_cons,List.length_cons,dpE_len r]
theorem dpE_get:∀ (l:List (List ByteArray)) (ks:List ByteArray) (j:Nat) (h:j<l.length),(dpE ks l)[j]?=some (if addB (ks++(l.take j).flatten) l[j] then 0 else 10)
 | a::r,ks,0,_=>by simp [dpE]
 | a::r,ks,j+1,h=>by
  rw [dpE,List.getElem?_cons_succ,dpE_get r (ks++a) j (by simpa using h),List.append_assoc]
  rfl
def stx (ks:List ByteArray):List Lit:=ks.map L2.txt
def Sl (ks:List ByteArray):DataW Unit:=setOf (.lit (.bool true)) (stx ks)
theorem stx_mem (ks:List ByteArray) (x:ByteArray):L2.txt x∈stx ks↔x∈ks:=by
 unfold stx
 rw [List.mem_map]
 constructor
 ·rintro ⟨y,hy,e⟩
  rw [← L2.txt_inj e];exact hy
 ·intro h;exact⟨x,h,rfl⟩
theorem stx_key (ks:List ByteArray):∀ y∈stx ks,WideAt.IsKeyLit y:=by
 intro y hy
 obtain⟨s,_,rfl⟩:=List.mem_map.1 hy
 trivial
theorem Sl_snoc (ks:List ByteArray) (x:ByteArray):Sl (ks++[x])=(Sl ks).put (L2.txt x) (.lit (.bool true)):=by
 unfold Sl stx
 rw [List.map_append]
 exact setOf_snoc _ _ _
theorem Sl_at (ks:List ByteArray) (x:ByteArray):(Sl ks).atKey (L2.txt x) (.lit (.bool false))=.lit (.bool (L2.on ks x)):=by
 cases h:L2.on ks x
 ·rw [Sl,setOf,L2.fold_out _ _ _ _ _ fun h'=>by
   have:=(L2.on_mem ks x).2 ((stx_mem ks x).1 h')
   rw [h] at this;cases this]
  rfl
 ·exact L2.fold_in _ _ _ _ _ isMap_empty (stx_key ks) ((stx_mem ks x).2 ((L2.on_mem ks x).1 h))
abbrev SetAt (w:World) (g:Nat) (ks:List ByteArray):Prop:=w.ownsMap Tryz.prog 9 (plainElem Tryz.prog 4) g ks.length (Sl ks)
def DfAt (w:World) (v:Value) (l:List L9.Df):Prop :=
 (∃ b o cap,v=.slice (some ⟨b,o,none⟩) l.length cap∧b<w.heap.size∧∀ j,(h:j<l.length)→∀ i u,(dfL l[j])[i]?=some u→w.cell? ⟨b,o+j*4+i,none⟩=some u)∨(l=[]∧∃ a cap,v=.slice a 0 cap)
def SmAt (w:World) (v:Value) (l:List Stm):Prop :=
 (∃ b o cap,v=.slice (some ⟨b,o,none⟩) l.length cap∧b<w.heap.size∧∀ j,(h:j<l.length)→∃ lv,L8.StAt w lv l[j].labs∧∀ i u,(smL lv l[j])[i]?=some u→w.cell? ⟨b,o+j*9+i,none⟩=some u)∨(l=[]∧∃ a cap,v=.slice a 0 cap)
theorem DfAt.below {w w':World} {v:Value} {l:List L9.Df} (h:DfAt w v l) (hb:Below w.heap.size w w'):DfAt w' v l:=by
 rcases h with ⟨b,o,cap,rfl,hlt,hc⟩|h
 ·exact .inl ⟨b,o,cap,rfl,Nat.lt_of_lt_of_le hlt hb.size,fun j hj i u hu=>(hb.cell (by exact hlt)).trans (hc j hj i u hu)⟩
 ·exact .inr h
theorem SmAt.below {w w':World} {v:Value} {l:List Stm} (h:SmAt w v l) (hb:Below w.heap.size w w'):SmAt w' v l:=by
 rcases h with ⟨b,o,cap,rfl,hlt,hc⟩|h
 ·refine .inl ⟨b,o,cap,rfl,Nat.lt_of_lt_of_le hlt hb.size,fun j hj=>?_⟩
  obtain⟨lv,h1,h2⟩:=hc j hj
  exact⟨lv,h1.below hb,fun i u hu=>(hb.cell (by exact hlt)).trans (h2 i u hu)⟩
 ·exact .inr h
def PgAt (w:World) (vm vs:Value) (p:Pg):Prop:=DfAt w vm p.maps∧SmAt w vs p.stmts
theorem PgAt.below {w w':World} {vm vs:Value} {p:Pg} (h:PgAt w vm vs p) (hb:Below w.heap.size w w'):PgAt w' vm vs p:=⟨h.1.below hb,h.2.below hb⟩
structure Fits (p:Pg):Prop where
 maps:p.maps.length≤100000
 stmts:p.stmts.length≤100000
 labs:(alL p).length≤100000
 nm:∀ d∈p.maps,d.nm.size≤maxLen
 lb:∀ s∈p.stmts,∀ t∈s.labs,t.size≤maxLen
 tg:∀ s∈p.stmts,s.tg.size≤maxLen∧s.mp.size≤maxLen
end Go.Proofs.YtdgnjhhieemcaaaGreatDoor.L10
end
