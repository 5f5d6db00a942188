/- Lemmas and walks of L4Rten, L4Rcheck: what each theorem states; conditions stand in each theorem. -/
import Derived.Test.YtohkgdfkklfgmaaGreatDoorL4Rstage
import Derived.Deep.RegionHeld3
section
set_option maxRecDepth 100000
set_option maxHeartbeats 8000000
namespace Go.Proofs.YtohkgdfkklfgmaaGreatDoor.L4
open Go.RowKit L3 L1
section
theorem tkr {P:Program} {ops:Array Oper} {Q:Exit→Act→World→Prop} {md:Region.Mode} {S:World→Prop} {i:Nat} {oi:Oper} {fuel:Nat} {listed:Array Bool} {a:Act} {w:World} (hi:ops[i]?=some oi) (hP:∀ c a d v w,Q (.panic c) (Act.put a d v) w→Q (.panic c) a w) (hS:S w)
  (h:wpAnyH P md ops Q S fuel (listed.setIfInBounds i true) (a.put oi.dst undef) w) (hw:Region.wanted oi (yielded ops a.tmps)=false:=by rfl) (hs:Region.noSelect ops=true:=by kernel_rfl) (hf:Region.free md ops listed i=true:=by kernel_rfl) (hr:(Region.ready md ops listed).contains i=true:=by kernel_rfl):wpAnyH P md ops Q S (fuel+1) listed a w :=
 wpAnyH_take hi hs hf hr (fun _ _ _=>hP _ _ _ _ _) (.inr ⟨hw,rfl⟩) hS h
theorem tkl {P:Program} {ops:Array Oper} {Q:Exit→Act→World→Prop} {md:Region.Mode} {S:World→Prop} {i:Nat} {oi:Oper} {v:Value} {fuel:Nat} {listed:Array Bool} {a:Act} {w:World} (hi:ops[i]?=some oi) (hP:∀ c a d v w,Q (.panic c) (Act.put a d v) w→Q (.panic c) a w) (he:∀ w,S w→(execOp a.eval oi).run P w=.ok (.value v) w) (hS:S w)
  (h:wpAnyH P md ops Q S fuel (listed.setIfInBounds i true) (a.put oi.dst v) w) (hw:Region.wanted oi (yielded ops a.tmps)=true:=by rfl) (hs:Region.noSelect ops=true:=by kernel_rfl) (hf:Region.free md ops listed i=true:=by kernel_rfl) (hr:(Region.ready md ops listed).contains i=true:=by kernel_rfl):wpAnyH P md ops Q S (fuel+1) listed a w :=
 wpAnyH_take hi hs hf hr (fun _ _ _=>hP _ _ _ _ _) (.inl ⟨hw,he⟩) hS h
abbrev Rten1:Array Oper:=#[⟨some 85,.move (.tmp 3),3, "ref.go:56",#[],none⟩,⟨some 86,.binOp .eql 3 (.tmp 85) (.const (.int .i64 5)) 3,4, "ref.go:56",#[⟨0,.data⟩],none⟩,⟨some 87,.move (.tmp 86),4, "ref.go:56",#[⟨1,.data⟩],none⟩,⟨some 88,.fieldAddr 92 (.tmp 1) 5,0, "ref.go:56",#[⟨2,.guard⟩],some (2,true)⟩,⟨some 89,.load 2 (.tmp 88),2, "ref.go:56",#[⟨3,.data⟩,⟨2,.guard⟩],some (2,true)⟩,⟨some 90,.binOp .lss 2 (.tmp 89) (.const (.int .i64 1)) 2,4, "ref.go:56",#[⟨4,.data⟩,⟨2,.guard⟩],some (2,true)⟩,⟨some 91,.move (.tmp 90),4, "ref.go:56",#[⟨5,.data⟩,⟨2,.chain⟩,⟨2,.guard⟩],some (2,true)⟩,⟨some 92,.fieldAddr 92 (.tmp 1) 5,0, "ref.go:56",#[⟨6,.guard⟩],some (6,false)⟩,⟨some 93,.load 2 (.tmp 92),2, "ref.go:56",#[⟨7,.data⟩,⟨6,.guard⟩],some (6,false)⟩,⟨some 94,.binOp .gtr 2 (.tmp 93) (.const (.int .i64 3)) 2,4, "ref.go:56",#[⟨8,.data⟩,⟨6,.guard⟩],some (6,false)⟩,⟨some 95,.pick (.tmp 91) (.const (.bool true)) (.tmp 94),4, "ref.go:56",#[⟨6,.data⟩,⟨9,.data⟩,⟨2,.guard⟩],some (2,true)⟩,⟨some 96,.pick (.tmp 87) (.tmp 95) (.const (.bool false)),4, "ref.go:56",#[⟨2,.data⟩,⟨10,.data⟩],none⟩,⟨some 97,.move (.tmp 96),4, "ref.go:56",#[⟨11,.data⟩,⟨6,.chain⟩],none⟩,⟨some 98,.move (.tmp 3),3, "ref.go:56",#[⟨12,.guard⟩],some (12,false)⟩,⟨some 99,.binOp .eql 3 (.tmp 98) (.const (.int .i64 11)) 3,4, "ref.go:56",#[⟨13,.data⟩,⟨12,.guard⟩],some (12,false)⟩,⟨some 100,.move (.tmp 99),4, "ref.go:56",#[⟨14,.data⟩,⟨12,.chain⟩,⟨12,.guard⟩],some (12,false)⟩,⟨some 101,.fieldAddr 92 (.tmp 1) 5,0, "ref.go:56",#[⟨15,.guard⟩],some (15,true)⟩,⟨some 102,.load 2 (.tmp 101),2, "ref.go:56",#[⟨16,.data⟩,⟨15,.guard⟩],some (15,true)⟩,⟨some 103,.binOp .lss 2 (.tmp 102) (.const (.int .i64 0)) 2,4, "ref.go:56",#[⟨17,.data⟩,⟨15,.guard⟩],some (15,true)⟩,⟨some 104,.move (.tmp 103),4, "ref.go:56",#[⟨18,.data⟩,⟨15,.chain⟩,⟨15,.guard⟩],some (15,true)⟩,⟨some 105,.fieldAddr 92 (.tmp 1) 5,0, "ref.go:56",#[⟨19,.guard⟩],some (19,false)⟩,⟨some 106,.load 2 (.tmp 105),2, "ref.go:56",#[⟨20,.data⟩,⟨19,.guard⟩],some (19,false)⟩,⟨some 107,.binOp .gtr 2 (.tmp 106) (.const (.int .i64 254)) 2,4, "ref.go:56",#[⟨21,.data⟩,⟨19,.guard⟩],some (19,false)⟩,⟨some 108,.pick (.tmp 104) (.const (.bool true)) (.tmp 107),4, "ref.go:56",#[⟨19,.data⟩,⟨22,.data⟩,⟨15,.guard⟩],some (15,true)⟩,⟨some 109,.pick (.tmp 100) (.tmp 108) (.const (.bool false)),4, "ref.go:56",#[⟨15,.data⟩,⟨23,.data⟩,⟨12,.guard⟩],some (12,false)⟩,⟨some 110,.pick (.tmp 97) (.const (.bool true)) (.tmp 109),4, "ref.go:56",#[⟨12,.data⟩,⟨24,.data⟩],none⟩,⟨some 111,.move (.tmp 110),4, "ref.go:56",#[⟨25,.data⟩,⟨19,.chain⟩],none⟩,⟨some 112,.move (.tmp 3),3, "ref.go:56",#[⟨26,.guard⟩],some (26,false)⟩,⟨some 113,.binOp .neq 3 (.tmp 112) (.const (.int .i64 10)) 3,4, "ref.go:56",#[⟨27,.data⟩,⟨26,.guard⟩],some (26,false)⟩,⟨some 114,.move (.tmp 113),4, "ref.go:56",#[⟨28,.data⟩,⟨26,.chain⟩,⟨26,.guard⟩],some (26,false)⟩,⟨some 115,.fieldAddr 92 (.tmp 1) 5,0, "ref.go:56",#[⟨29,.guard⟩],some (29,true)⟩,⟨some 116,.load 2 (.tmp 115),2, "ref.go:56",#[⟨30,.data⟩,⟨29,.guard⟩],some (29,true)⟩,⟨some 117,.convert 2 81 (.tmp 116),81, "ref.go:56",#[⟨31,.data⟩,⟨29,.guard⟩],some (29,true)⟩,⟨some 118,.call { callee:=.value (.func 163),args:=#[.tmp 117,.const (.int .i64 32)],argTypes:=#[81,3] },2, "ref.go:56",#[⟨32,.data⟩,⟨29,.chain⟩,⟨29,.guard⟩],some (29,true)⟩,⟨some 119,.fieldAddr 92 (.tmp 1) 5,0, "ref.go:56",#[⟨29,.guard⟩],some (29,true)⟩,⟨some 120,.load 2 (.tmp 119),2, "ref.go:56",#[⟨34,.data⟩,⟨29,.guard⟩],some (29,true)⟩,⟨some 121,.binOp .neq 2 (.tmp 118) (.tmp 120) 2,4, "ref.go:56",#[⟨33,.data⟩,⟨35,.data⟩,⟨29,.guard⟩],some (29,true)⟩,⟨some 122,.pick (.tmp 114) (.tmp 121) (.const (.bool false)),4, "ref.go:56",#[⟨29,.data⟩,⟨36,.data⟩,⟨26,.guard⟩],some (26,false)⟩,⟨some 123,.pick (.tmp 111) (.const (.bool true)) (.tmp 122),4, "ref.go:56",#[⟨26,.data⟩,⟨37,.data⟩],none⟩]
variable {Q:Exit→Act→World→Prop} {kx:Nat} {imm f:Int} {w:World}
theorem r10_ten  {x:Bool} (hX:rX 10 imm=x) (_:w.cell? ⟨kx,5,none⟩=some (.int .i64 imm)) {u0 u2 u4 u5 u6 u7 u8 u9 u10 u11 u12 u13 u14 u15 u16 u17 u18 u19 u20 u21 u22 u23 u24 u25 u26 u27 u28 u29 u30 u31 u32 u33 u34 u35 u36 u37 u38 u39 u40 u41 u42 u43 u44 u45 u46 u47 u48 u49 u50 u51 u52 u53 u54 u55 u56 u57 u58 u59 u60 u61 u62 u63 u64 u65 u66 u67 u68 u69 u70 u71 u72 u73 u74 u75 u76 u77 u78 u79 u80 u81 u82 u83 u84 u85 u86 u87 u88 u89 u90 u91 u92 u93 u94 u95 u96 u97 u98 u99 u100 u101 u102 u103 u104 u105 u106 u107 u108 u109 u110 u111 u112 u113 u114 u115 u116 u117 u118 u119 u120 u121 u122 u123:Value}
  (hP:∀ c a d v w,Q (.panic c) (Act.put a d v) w→Q (.panic c) a w) (hQ:Hid (∀ {u0 u2 u4 u5 u6 u7 u8 u9 u10 u11 u12 u13 u14 u15 u16 u17 u18 u19 u20 u21 u22 u23 u24 u25 u26 u27 u28 u29 u30 u31 u32 u33 u34 u35 u36 u37 u38 u39 u40 u41 u42 u43 u44 u45 u46 u47 u48 u49 u50 u51 u52 u53 u54 u55 u56 u57 u58 u59 u60 u61 u62 u63 u64 u65 u66 u67 u68 u69 u70 u71 u72 u73 u74 u75 u76 u77 u78 u79 u80 u81 u82 u83 u84 u85 u86 u87 u88 u89 u90 u91 u92 u93 u94 u95 u96 u97 u98 u99 u100 u101 u102 u103 u104 u105 u106 u107 u108 u109 u110 u111 u112 u113 u114 u115 u116 u117 u118 u119 u120 u121 u122:Value},Q .normal ⟨#[u0,.pointer (some ⟨kx,0,none⟩),u2,.int .i64 10,u4,u5,u6,u7,u8,u9,u10,u11,u12,u13,u14,u15,u16,u17,u18,u19,u20,u21,u22,u23,u24,u25,u26,u27,u28,u29,u30,u31,u32,u33,u34,u35,u36,u37,u38,u39,u40,u41,u42,u43,u44,u45,u46,u47,u48,u49,u50,u51,u52,u53,u54,u55,u56,u57,u58,u59,u60,u61,u62,u63,u64,u65,u66,u67,u68,u69,u70,u71,u72,u73,u74,u75,u76,u77,u78,u79,u80,u81,u82,u83,u84,u85,u86,u87,u88,u89,u90,u91,u92,u93,u94,u95,u96,u97,u98,u99,u100,u101,u102,u103,u104,u105,u106,u107,u108,u109,u110,u111,u112,u113,u114,u115,u116,u117,u118,u119,u120,u121,u122,.bool x],[]⟩ w.drew)) :
  Code.wp Tryz.prog (Code.region 10 Rten1 true) Q ⟨#[u0,.pointer (some ⟨kx,0,none⟩),u2,.int .i64 10,u4,u5,u6,u7,u8,u9,u10,u11,u12,u13,u14,u15,u16,u17,u18,u19,u20,u21,u22,u23,u24,u25,u26,u27,u28,u29,u30,u31,u32,u33,u34,u35,u36,u37,u38,u39,u40,u41,u42,u43,u44,u45,u46,u47,u48,u49,u50,u51,u52,u53,u54,u55,u56,u57,u58,u59,u60,u61,u62,u63,u64,u65,u66,u67,u68,u69,u70,u71,u72,u73,u74,u75,u76,u77,u78,u79,u80,u81,u82,u83,u84,u85,u86,u87,u88,u89,u90,u91,u92,u93,u94,u95,u96,u97,u98,u99,u100,u101,u102,u103,u104,u105,u106,u107,u108,u109,u110,u111,u112,u113,u114,u115,u116,u117,u118,u119,u120,u121,u122,u123],[]⟩ w:=by
 delta Rten1
 have HX:=Lib.hid hX
 unfold rX at HX
 clear hX
 obtain rfl:x=false:=by rw [← HX.out];rfl
 clear HX
 refine wp_region_held_drew (S:=fun w'=>w'=w.drew) (by kernel_rfl) rfl (fun hH=>?_)
 refine tkl (i:=0) (oi:=⟨some 85,.move (.tmp 3),_,_,_,none⟩) (v:=.int .i64 10) rfl hP (fun wS hS=>by rfl) hH ?_
 simp only [Act.put,zA,zB,zC]
 refine tkl (i:=1) (oi:=⟨some 86,.binOp .eql 3 (.tmp 85) (.const (.int .i64 5)) 3,_,_,_,none⟩) (v:=.bool false) rfl hP (fun wS hS=>by subst hS;go_simp) hH ?_
 simp only [Act.put,zA,zB,zC]
 refine tkl (i:=2) (oi:=⟨some 87,.move (.tmp 86),_,_,_,none⟩) (v:=.bool false) rfl hP (fun wS hS=>by rfl) hH ?_
 simp only [Act.put,zA,zB,zC]
 refine tkr (i:=3) (oi:=⟨some 88,.fieldAddr 92 (.tmp 1) 5,_,_,_,some (2,true)⟩) rfl hP hH ?_
 simp only [Act.put,zA,zB,zC]
 refine tkr (i:=4) (oi:=⟨some 89,.load 2 (.tmp 88),_,_,_,some (2,true)⟩) rfl hP hH ?_
 simp only [Act.put,zA,zB,zC]
 refine tkr (i:=5) (oi:=⟨some 90,.binOp .lss 2 (.tmp 89) (.const (.int .i64 1)) 2,_,_,_,some (2,true)⟩) rfl hP hH ?_
 simp only [Act.put,zA,zB,zC]
 refine tkr (i:=6) (oi:=⟨some 91,.move (.tmp 90),_,_,_,some (2,true)⟩) rfl hP hH ?_
 simp only [Act.put,zA,zB,zC]
 refine tkr (i:=7) (oi:=⟨some 92,.fieldAddr 92 (.tmp 1) 5,_,_,_,some (6,false)⟩) rfl hP hH ?_
 simp only [Act.put,zA,zB,zC]
 refine tkr (i:=8) (oi:=⟨some 93,.load 2 (.tmp 92),_,_,_,some (6,false)⟩) rfl hP hH ?_
 simp only [Act.put,zA,zB,zC]
 refine tkr (i:=9) (oi:=⟨some 94,.binOp .gtr 2 (.tmp 93) (.const (.int .i64 3)) 2,_,_,_,some (6,false)⟩) rfl hP hH ?_
 simp only [Act.put,zA,zB,zC]
 refine tkr (i:=10) (oi:=⟨some 95,.pick (.tmp 91) (.const (.bool true)) (.tmp 94),_,_,_,some (2,true)⟩) rfl hP hH ?_
 simp only [Act.put,zA,zB,zC]
 refine tkl (i:=11) (oi:=⟨some 96,.pick (.tmp 87) (.tmp 95) (.const (.bool false)),_,_,_,none⟩) (v:=.bool false) rfl hP (fun wS hS=>by rfl) hH ?_
 simp only [Act.put,zA,zB,zC]
 refine tkl (i:=12) (oi:=⟨some 97,.move (.tmp 96),_,_,_,none⟩) (v:=.bool false) rfl hP (fun wS hS=>by rfl) hH ?_
 simp only [Act.put,zA,zB,zC]
 refine tkl (i:=13) (oi:=⟨some 98,.move (.tmp 3),_,_,_,some (12,false)⟩) (v:=.int .i64 10) rfl hP (fun wS hS=>by rfl) hH ?_
 simp only [Act.put,zA,zB,zC]
 refine tkl (i:=14) (oi:=⟨some 99,.binOp .eql 3 (.tmp 98) (.const (.int .i64 11)) 3,_,_,_,some (12,false)⟩) (v:=.bool false) rfl hP (fun wS hS=>by subst hS;go_simp) hH ?_
 simp only [Act.put,zA,zB,zC]
 refine tkl (i:=15) (oi:=⟨some 100,.move (.tmp 99),_,_,_,some (12,false)⟩) (v:=.bool false) rfl hP (fun wS hS=>by rfl) hH ?_
 simp only [Act.put,zA,zB,zC]
 refine tkr (i:=16) (oi:=⟨some 101,.fieldAddr 92 (.tmp 1) 5,_,_,_,some (15,true)⟩) rfl hP hH ?_
 simp only [Act.put,zA,zB,zC]
 refine tkr (i:=17) (oi:=⟨some 102,.load 2 (.tmp 101),_,_,_,some (15,true)⟩) rfl hP hH ?_
 simp only [Act.put,zA,zB,zC]
 refine tkr (i:=18) (oi:=⟨some 103,.binOp .lss 2 (.tmp 102) (.const (.int .i64 0)) 2,_,_,_,some (15,true)⟩) rfl hP hH ?_
 simp only [Act.put,zA,zB,zC]
 refine tkr (i:=19) (oi:=⟨some 104,.move (.tmp 103),_,_,_,some (15,true)⟩) rfl hP hH ?_
 simp only [Act.put,zA,zB,zC]
 refine tkr (i:=20) (oi:=⟨some 105,.fieldAddr 92 (.tmp 1) 5,_,_,_,some (19,false)⟩) rfl hP hH ?_
 simp only [Act.put,zA,zB,zC]
 refine tkr (i:=21) (oi:=⟨some 106,.load 2 (.tmp 105),_,_,_,some (19,false)⟩) rfl hP hH ?_
 simp only [Act.put,zA,zB,zC]
 refine tkr (i:=22) (oi:=⟨some 107,.binOp .gtr 2 (.tmp 106) (.const (.int .i64 254)) 2,_,_,_,some (19,false)⟩) rfl hP hH ?_
 simp only [Act.put,zA,zB,zC]
 refine tkr (i:=23) (oi:=⟨some 108,.pick (.tmp 104) (.const (.bool true)) (.tmp 107),_,_,_,some (15,true)⟩) rfl hP hH ?_
 simp only [Act.put,zA,zB,zC]
 refine tkl (i:=24) (oi:=⟨some 109,.pick (.tmp 100) (.tmp 108) (.const (.bool false)),_,_,_,some (12,false)⟩) (v:=.bool false) rfl hP (fun wS hS=>by rfl) hH ?_
 simp only [Act.put,zA,zB,zC]
 refine tkl (i:=25) (oi:=⟨some 110,.pick (.tmp 97) (.const (.bool true)) (.tmp 109),_,_,_,none⟩) (v:=.bool false) rfl hP (fun wS hS=>by rfl) hH ?_
 simp only [Act.put,zA,zB,zC]
 refine tkl (i:=26) (oi:=⟨some 111,.move (.tmp 110),_,_,_,none⟩) (v:=.bool false) rfl hP (fun wS hS=>by rfl) hH ?_
 simp only [Act.put,zA,zB,zC]
 refine tkl (i:=27) (oi:=⟨some 112,.move (.tmp 3),_,_,_,some (26,false)⟩) (v:=.int .i64 10) rfl hP (fun wS hS=>by rfl) hH ?_
 simp only [Act.put,zA,zB,zC]
 refine tkl (i:=28) (oi:=⟨some 113,.binOp .neq 3 (.tmp 112) (.const (.int .i64 10)) 3,_,_,_,some (26,false)⟩) (v:=.bool false) rfl hP (fun wS hS=>by subst hS;go_simp) hH ?_
 simp only [Act.put,zA,zB,zC]
 refine tkl (i:=29) (oi:=⟨some 114,.move (.tmp 113),_,_,_,some (26,false)⟩) (v:=.bool false) rfl hP (fun wS hS=>by rfl) hH ?_
 simp only [Act.put,zA,zB,zC]
 refine tkr (i:=30) (oi:=⟨some 115,.fieldAddr 92 (.tmp 1) 5,_,_,_,some (29,true)⟩) rfl hP hH ?_
 simp only [Act.put,zA,zB,zC]
 refine tkr (i:=31) (oi:=⟨some 116,.load 2 (.tmp 115),_,_,_,some (29,true)⟩) rfl hP hH ?_
 simp only [Act.put,zA,zB,zC]
 refine tkr (i:=32) (oi:=⟨some 117,.convert 2 81 (.tmp 116),_,_,_,some (29,true)⟩) rfl hP hH ?_
 simp only [Act.put,zA,zB,zC]
 refine tkr (i:=34) (oi:=⟨some 119,.fieldAddr 92 (.tmp 1) 5,_,_,_,some (29,true)⟩) rfl hP hH ?_
 simp only [Act.put,zA,zB,zC]
 refine tkr (i:=35) (oi:=⟨some 120,.load 2 (.tmp 119),_,_,_,some (29,true)⟩) rfl hP hH ?_
 simp only [Act.put,zA,zB,zC]
 refine tkr (i:=33) (oi:=⟨some 118,.call { callee:=.value (.func 163),args:=#[.tmp 117,.const (.int .i64 32)],argTypes:=#[81,3] },_,_,_,some (29,true)⟩) rfl hP hH ?_
 simp only [Act.put,zA,zB,zC]
 refine tkr (i:=36) (oi:=⟨some 121,.binOp .neq 2 (.tmp 118) (.tmp 120) 2,_,_,_,some (29,true)⟩) rfl hP hH ?_
 simp only [Act.put,zA,zB,zC]
 refine tkl (i:=37) (oi:=⟨some 122,.pick (.tmp 114) (.tmp 121) (.const (.bool false)),_,_,_,some (26,false)⟩) (v:=.bool false) rfl hP (fun wS hS=>by rfl) hH ?_
 simp only [Act.put,zA,zB,zC]
 refine tkl (i:=38) (oi:=⟨some 123,.pick (.tmp 111) (.const (.bool true)) (.tmp 122),_,_,_,none⟩) (v:=.bool false) rfl hP (fun wS hS=>by rfl) hH ?_
 simp only [Act.put,zA,zB,zC]
 refine wpAnyH_done (by kernel_rfl) ?_ _
 exact hQ.out
theorem r10_el  {x:Bool} (hX:rX 11 imm=x) (x5:w.cell? ⟨kx,5,none⟩=some (.int .i64 imm)) {u0 u2 u4 u5 u6 u7 u8 u9 u10 u11 u12 u13 u14 u15 u16 u17 u18 u19 u20 u21 u22 u23 u24 u25 u26 u27 u28 u29 u30 u31 u32 u33 u34 u35 u36 u37 u38 u39 u40 u41 u42 u43 u44 u45 u46 u47 u48 u49 u50 u51 u52 u53 u54 u55 u56 u57 u58 u59 u60 u61 u62 u63 u64 u65 u66 u67 u68 u69 u70 u71 u72 u73 u74 u75 u76 u77 u78 u79 u80 u81 u82 u83 u84 u85 u86 u87 u88 u89 u90 u91 u92 u93 u94 u95 u96 u97 u98 u99 u100 u101 u102 u103 u104 u105 u106 u107 u108 u109 u110 u111 u112 u113 u114 u115 u116 u117 u118 u119 u120 u121 u122 u123:Value}
  (hP:∀ c a d v w,Q (.panic c) (Act.put a d v) w→Q (.panic c) a w) (hQ:Hid (∀ {u0 u2 u4 u5 u6 u7 u8 u9 u10 u11 u12 u13 u14 u15 u16 u17 u18 u19 u20 u21 u22 u23 u24 u25 u26 u27 u28 u29 u30 u31 u32 u33 u34 u35 u36 u37 u38 u39 u40 u41 u42 u43 u44 u45 u46 u47 u48 u49 u50 u51 u52 u53 u54 u55 u56 u57 u58 u59 u60 u61 u62 u63 u64 u65 u66 u67 u68 u69 u70 u71 u72 u73 u74 u75 u76 u77 u78 u79 u80 u81 u82 u83 u84 u85 u86 u87 u88 u89 u90 u91 u92 u93 u94 u95 u96 u97 u98 u99 u100 u101 u102 u103 u104 u105 u106 u107 u108 u109 u110 u111 u112 u113 u114 u115 u116 u117 u118 u119 u120 u121 u122:Value},Q .normal ⟨#[u0,.pointer (some ⟨kx,0,none⟩),u2,.int .i64 11,u4,u5,u6,u7,u8,u9,u10,u11,u12,u13,u14,u15,u16,u17,u18,u19,u20,u21,u22,u23,u24,u25,u26,u27,u28,u29,u30,u31,u32,u33,u34,u35,u36,u37,u38,u39,u40,u41,u42,u43,u44,u45,u46,u47,u48,u49,u50,u51,u52,u53,u54,u55,u56,u57,u58,u59,u60,u61,u62,u63,u64,u65,u66,u67,u68,u69,u70,u71,u72,u73,u74,u75,u76,u77,u78,u79,u80,u81,u82,u83,u84,u85,u86,u87,u88,u89,u90,u91,u92,u93,u94,u95,u96,u97,u98,u99,u100,u101,u102,u103,u104,u105,u106,u107,u108,u109,u110,u111,u112,u113,u114,u115,u116,u117,u118,u119,u120,u121,u122,.bool x],[]⟩ w.drew)) :
  Code.wp Tryz.prog (Code.region 10 Rten1 true) Q ⟨#[u0,.pointer (some ⟨kx,0,none⟩),u2,.int .i64 11,u4,u5,u6,u7,u8,u9,u10,u11,u12,u13,u14,u15,u16,u17,u18,u19,u20,u21,u22,u23,u24,u25,u26,u27,u28,u29,u30,u31,u32,u33,u34,u35,u36,u37,u38,u39,u40,u41,u42,u43,u44,u45,u46,u47,u48,u49,u50,u51,u52,u53,u54,u55,u56,u57,u58,u59,u60,u61,u62,u63,u64,u65,u66,u67,u68,u69,u70,u71,u72,u73,u74,u75,u76,u77,u78,u79,u80,u81,u82,u83,u84,u85,u86,u87,u88,u89,u90,u91,u92,u93,u94,u95,u96,u97,u98,u99,u100,u101,u102,u103,u104,u105,u106,u107,u108,u109,u110,u111,u112,u113,u114,u115,u116,u117,u118,u119,u120,u121,u122,u123],[]⟩ w:=by
 delta Rten1
 have HX:=Lib.hid hX
 unfold rX at HX
 clear hX
 cases i0:decide (imm<0)
 ·cases i4:decide (254<imm)
  ·skip
   cases se:(sx 32 imm==imm)
   ·have sn:(sx 32 imm != imm)=true:=by rw [bne,se];rfl
    obtain rfl:x=true:=by rw [← HX.out,i0,i4,sn];rfl
    clear HX
    refine wp_region_held_drew (S:=fun w'=>w'=w.drew) (by kernel_rfl) rfl (fun hH=>?_)
    refine tkl (i:=0) (oi:=⟨some 85,.move (.tmp 3),_,_,_,none⟩) (v:=.int .i64 11) rfl hP (fun wS hS=>by rfl) hH ?_
    simp only [Act.put,zA,zB,zC]
    refine tkl (i:=1) (oi:=⟨some 86,.binOp .eql 3 (.tmp 85) (.const (.int .i64 5)) 3,_,_,_,none⟩) (v:=.bool false) rfl hP (fun wS hS=>by subst hS;go_simp) hH ?_
    simp only [Act.put,zA,zB,zC]
    refine tkl (i:=2) (oi:=⟨some 87,.move (.tmp 86),_,_,_,none⟩) (v:=.bool false) rfl hP (fun wS hS=>by rfl) hH ?_
    simp only [Act.put,zA,zB,zC]
    refine tkr (i:=3) (oi:=⟨some 88,.fieldAddr 92 (.tmp 1) 5,_,_,_,some (2,true)⟩) rfl hP hH ?_
    simp only [Act.put,zA,zB,zC]
    refine tkr (i:=4) (oi:=⟨some 89,.load 2 (.tmp 88),_,_,_,some (2,true)⟩) rfl hP hH ?_
    simp only [Act.put,zA,zB,zC]
    refine tkr (i:=5) (oi:=⟨some 90,.binOp .lss 2 (.tmp 89) (.const (.int .i64 1)) 2,_,_,_,some (2,true)⟩) rfl hP hH ?_
    simp only [Act.put,zA,zB,zC]
    refine tkr (i:=6) (oi:=⟨some 91,.move (.tmp 90),_,_,_,some (2,true)⟩) rfl hP hH ?_
    simp only [Act.put,zA,zB,zC]
    refine tkr (i:=7) (oi:=⟨some 92,.fieldAddr 92 (.tmp 1) 5,_,_,_,some (6,false)⟩) rfl hP hH ?_
    simp only [Act.put,zA,zB,zC]
    refine tkr (i:=8) (oi:=⟨some 93,.load 2 (.tmp 92),_,_,_,some (6,false)⟩) rfl hP hH ?_
    simp only [Act.put,zA,zB,zC]
    refine tkr (i:=9) (oi:=⟨some 94,.binOp .gtr 2 (.tmp 93) (.const (.int .i64 3)) 2,_,_,_,some (6,false)⟩) rfl hP hH ?_
    simp only [Act.put,zA,zB,zC]
    refine tkr (i:=10) (oi:=⟨some 95,.pick (.tmp 91) (.const (.bool true)) (.tmp 94),_,_,_,some (2,true)⟩) rfl hP hH ?_
    simp only [Act.put,zA,zB,zC]
    refine tkl (i:=11) (oi:=⟨some 96,.pick (.tmp 87) (.tmp 95) (.const (.bool false)),_,_,_,none⟩) (v:=.bool false) rfl hP (fun wS hS=>by rfl) hH ?_
    simp only [Act.put,zA,zB,zC]
    refine tkl (i:=12) (oi:=⟨some 97,.move (.tmp 96),_,_,_,none⟩) (v:=.bool false) rfl hP (fun wS hS=>by rfl) hH ?_
    simp only [Act.put,zA,zB,zC]
    refine tkl (i:=13) (oi:=⟨some 98,.move (.tmp 3),_,_,_,some (12,false)⟩) (v:=.int .i64 11) rfl hP (fun wS hS=>by rfl) hH ?_
    simp only [Act.put,zA,zB,zC]
    refine tkl (i:=14) (oi:=⟨some 99,.binOp .eql 3 (.tmp 98) (.const (.int .i64 11)) 3,_,_,_,some (12,false)⟩) (v:=.bool true) rfl hP (fun wS hS=>by subst hS;go_simp) hH ?_
    simp only [Act.put,zA,zB,zC]
    refine tkl (i:=15) (oi:=⟨some 100,.move (.tmp 99),_,_,_,some (12,false)⟩) (v:=.bool true) rfl hP (fun wS hS=>by rfl) hH ?_
    simp only [Act.put,zA,zB,zC]
    refine tkl (i:=16) (oi:=⟨some 101,.fieldAddr 92 (.tmp 1) 5,_,_,_,some (15,true)⟩) (v:=.pointer (some ⟨kx,5,none⟩)) rfl hP (fun wS hS=>by subst hS;go_simp) hH ?_
    simp only [Act.put,zA,zB,zC]
    refine tkl (i:=17) (oi:=⟨some 102,.load 2 (.tmp 101),_,_,_,some (15,true)⟩) (v:=.int .i64 imm) rfl hP (fun wS hS=>by subst hS;go_simp) hH ?_
    simp only [Act.put,zA,zB,zC]
    refine tkl (i:=18) (oi:=⟨some 103,.binOp .lss 2 (.tmp 102) (.const (.int .i64 0)) 2,_,_,_,some (15,true)⟩) (v:=.bool false) rfl hP (fun wS hS=>by subst hS;go_simp) hH ?_
    simp only [Act.put,zA,zB,zC]
    refine tkl (i:=19) (oi:=⟨some 104,.move (.tmp 103),_,_,_,some (15,true)⟩) (v:=.bool false) rfl hP (fun wS hS=>by rfl) hH ?_
    simp only [Act.put,zA,zB,zC]
    refine tkl (i:=20) (oi:=⟨some 105,.fieldAddr 92 (.tmp 1) 5,_,_,_,some (19,false)⟩) (v:=.pointer (some ⟨kx,5,none⟩)) rfl hP (fun wS hS=>by subst hS;go_simp) hH ?_
    simp only [Act.put,zA,zB,zC]
    refine tkl (i:=21) (oi:=⟨some 106,.load 2 (.tmp 105),_,_,_,some (19,false)⟩) (v:=.int .i64 imm) rfl hP (fun wS hS=>by subst hS;go_simp) hH ?_
    simp only [Act.put,zA,zB,zC]
    refine tkl (i:=22) (oi:=⟨some 107,.binOp .gtr 2 (.tmp 106) (.const (.int .i64 254)) 2,_,_,_,some (19,false)⟩) (v:=.bool false) rfl hP (fun wS hS=>by subst hS;go_simp) hH ?_
    simp only [Act.put,zA,zB,zC]
    refine tkl (i:=23) (oi:=⟨some 108,.pick (.tmp 104) (.const (.bool true)) (.tmp 107),_,_,_,some (15,true)⟩) (v:=.bool false) rfl hP (fun wS hS=>by rfl) hH ?_
    simp only [Act.put,zA,zB,zC]
    refine tkl (i:=24) (oi:=⟨some 109,.pick (.tmp 100) (.tmp 108) (.const (.bool false)),_,_,_,some (12,false)⟩) (v:=.bool false) rfl hP (fun wS hS=>by rfl) hH ?_
    simp only [Act.put,zA,zB,zC]
    refine tkl (i:=25) (oi:=⟨some 110,.pick (.tmp 97) (.const (.bool true)) (.tmp 109),_,_,_,none⟩) (v:=.bool false) rfl hP (fun wS hS=>by rfl) hH ?_
    simp only [Act.put,zA,zB,zC]
    refine tkl (i:=26) (oi:=⟨some 111,.move (.tmp 110),_,_,_,none⟩) (v:=.bool false) rfl hP (fun wS hS=>by rfl) hH ?_
    simp only [Act.put,zA,zB,zC]
    refine tkl (i:=27) (oi:=⟨some 112,.move (.tmp 3),_,_,_,some (26,false)⟩) (v:=.int .i64 11) rfl hP (fun wS hS=>by rfl) hH ?_
    simp only [Act.put,zA,zB,zC]
    refine tkl (i:=28) (oi:=⟨some 113,.binOp .neq 3 (.tmp 112) (.const (.int .i64 10)) 3,_,_,_,some (26,false)⟩) (v:=.bool true) rfl hP (fun wS hS=>by subst hS;go_simp) hH ?_
    simp only [Act.put,zA,zB,zC]
    refine tkl (i:=29) (oi:=⟨some 114,.move (.tmp 113),_,_,_,some (26,false)⟩) (v:=.bool true) rfl hP (fun wS hS=>by rfl) hH ?_
    simp only [Act.put,zA,zB,zC]
    refine tkl (i:=30) (oi:=⟨some 115,.fieldAddr 92 (.tmp 1) 5,_,_,_,some (29,true)⟩) (v:=.pointer (some ⟨kx,5,none⟩)) rfl hP (fun wS hS=>by subst hS;go_simp) hH ?_
    simp only [Act.put,zA,zB,zC]
    refine tkl (i:=31) (oi:=⟨some 116,.load 2 (.tmp 115),_,_,_,some (29,true)⟩) (v:=.int .i64 imm) rfl hP (fun wS hS=>by subst hS;go_simp) hH ?_
    simp only [Act.put,zA,zB,zC]
    refine tkl (i:=32) (oi:=⟨some 117,.convert 2 81 (.tmp 116),_,_,_,some (29,true)⟩) (v:=.int .u64 (IntKind.u64.wrap imm)) rfl hP (fun wS hS=>by first|rfl|(subst hS;go_simp)) hH ?_
    simp only [Act.put,zA,zB,zC]
    refine tkl (i:=34) (oi:=⟨some 119,.fieldAddr 92 (.tmp 1) 5,_,_,_,some (29,true)⟩) (v:=.pointer (some ⟨kx,5,none⟩)) rfl hP (fun wS hS=>by subst hS;go_simp) hH ?_
    simp only [Act.put,zA,zB,zC]
    refine tkl (i:=35) (oi:=⟨some 120,.load 2 (.tmp 119),_,_,_,some (29,true)⟩) (v:=.int .i64 imm) rfl hP (fun wS hS=>by subst hS;go_simp) hH ?_
    simp only [Act.put,zA,zB,zC]
    refine wpAnyH_ready (rs:=[33]) (by kernel_rfl) (by simp) ?_
    refine AllReadyH.cons (o:=⟨some 118,.call { callee:=.value (.func 163),args:=#[.tmp 117,.const (.int .i64 32)],argTypes:=#[81,3] },_,_,_,some (29,true)⟩) rfl (fun K hK=>?_) AllReadyH.nil
    go_simp
    with_reducible refine (extend_is imm _ _ rfl).mono ?_
    rintro e w1 ⟨rfl,rfl⟩
    refine hK.out _ _ rfl (fun hH2=>?_)
    clear hK K hH
    refine tkl (i:=36) (oi:=⟨some 121,.binOp .neq 2 (.tmp 118) (.tmp 120) 2,_,_,_,some (29,true)⟩) (v:=.bool true) rfl hP (fun wS hS=>by subst hS;go_simp) hH2 ?_
    simp only [Act.put,zA,zB,zC]
    refine tkl (i:=37) (oi:=⟨some 122,.pick (.tmp 114) (.tmp 121) (.const (.bool false)),_,_,_,some (26,false)⟩) (v:=.bool true) rfl hP (fun wS hS=>by rfl) hH2 ?_
    simp only [Act.put,zA,zB,zC]
    refine tkl (i:=38) (oi:=⟨some 123,.pick (.tmp 111) (.const (.bool true)) (.tmp 122),_,_,_,none⟩) (v:=.bool true) rfl hP (fun wS hS=>by rfl) hH2 ?_
    simp only [Act.put,zA,zB,zC]
    refine wpAnyH_done (by kernel_rfl) ?_ _
    exact hQ.out
   ·have sn:(sx 32 imm != imm)=false:=by rw [bne,se];rfl
    obtain rfl:x=false:=by rw [← HX.out,i0,i4,sn];rfl
    clear HX
    refine wp_region_held_drew (S:=fun w'=>w'=w.drew) (by kernel_rfl) rfl (fun hH=>?_)
    refine tkl (i:=0) (oi:=⟨some 85,.move (.tmp 3),_,_,_,none⟩) (v:=.int .i64 11) rfl hP (fun wS hS=>by rfl) hH ?_
    simp only [Act.put,zA,zB,zC]
    refine tkl (i:=1) (oi:=⟨some 86,.binOp .eql 3 (.tmp 85) (.const (.int .i64 5)) 3,_,_,_,none⟩) (v:=.bool false) rfl hP (fun wS hS=>by subst hS;go_simp) hH ?_
    simp only [Act.put,zA,zB,zC]
    refine tkl (i:=2) (oi:=⟨some 87,.move (.tmp 86),_,_,_,none⟩) (v:=.bool false) rfl hP (fun wS hS=>by rfl) hH ?_
    simp only [Act.put,zA,zB,zC]
    refine tkr (i:=3) (oi:=⟨some 88,.fieldAddr 92 (.tmp 1) 5,_,_,_,some (2,true)⟩) rfl hP hH ?_
    simp only [Act.put,zA,zB,zC]
    refine tkr (i:=4) (oi:=⟨some 89,.load 2 (.tmp 88),_,_,_,some (2,true)⟩) rfl hP hH ?_
    simp only [Act.put,zA,zB,zC]
    refine tkr (i:=5) (oi:=⟨some 90,.binOp .lss 2 (.tmp 89) (.const (.int .i64 1)) 2,_,_,_,some (2,true)⟩) rfl hP hH ?_
    simp only [Act.put,zA,zB,zC]
    refine tkr (i:=6) (oi:=⟨some 91,.move (.tmp 90),_,_,_,some (2,true)⟩) rfl hP hH ?_
    simp only [Act.put,zA,zB,zC]
    refine tkr (i:=7) (oi:=⟨some 92,.fieldAddr 92 (.tmp 1) 5,_,_,_,some (6,false)⟩) rfl hP hH ?_
    simp only [Act.put,zA,zB,zC]
    refine tkr (i:=8) (oi:=⟨some 93,.load 2 (.tmp 92),_,_,_,some (6,false)⟩) rfl hP hH ?_
    simp only [Act.put,zA,zB,zC]
    refine tkr (i:=9) (oi:=⟨some 94,.binOp .gtr 2 (.tmp 93) (.const (.int .i64 3)) 2,_,_,_,some (6,false)⟩) rfl hP hH ?_
    simp only [Act.put,zA,zB,zC]
    refine tkr (i:=10) (oi:=⟨some 95,.pick (.tmp 91) (.const (.bool true)) (.tmp 94),_,_,_,some (2,true)⟩) rfl hP hH ?_
    simp only [Act.put,zA,zB,zC]
    refine tkl (i:=11) (oi:=⟨some 96,.pick (.tmp 87) (.tmp 95) (.const (.bool false)),_,_,_,none⟩) (v:=.bool false) rfl hP (fun wS hS=>by rfl) hH ?_
    simp only [Act.put,zA,zB,zC]
    refine tkl (i:=12) (oi:=⟨some 97,.move (.tmp 96),_,_,_,none⟩) (v:=.bool false) rfl hP (fun wS hS=>by rfl) hH ?_
    simp only [Act.put,zA,zB,zC]
    refine tkl (i:=13) (oi:=⟨some 98,.move (.tmp 3),_,_,_,some (12,false)⟩) (v:=.int .i64 11) rfl hP (fun wS hS=>by rfl) hH ?_
    simp only [Act.put,zA,zB,zC]
    refine tkl (i:=14) (oi:=⟨some 99,.binOp .eql 3 (.tmp 98) (.const (.int .i64 11)) 3,_,_,_,some (12,false)⟩) (v:=.bool true) rfl hP (fun wS hS=>by subst hS;go_simp) hH ?_
    simp only [Act.put,zA,zB,zC]
    refine tkl (i:=15) (oi:=⟨some 100,.move (.tmp 99),_,_,_,some (12,false)⟩) (v:=.bool true) rfl hP (fun wS hS=>by rfl) hH ?_
    simp only [Act.put,zA,zB,zC]
    refine tkl (i:=16) (oi:=⟨some 101,.fieldAddr 92 (.tmp 1) 5,_,_,_,some (15,true)⟩) (v:=.pointer (some ⟨kx,5,none⟩)) rfl hP (fun wS hS=>by subst hS;go_simp) hH ?_
    simp only [Act.put,zA,zB,zC]
    refine tkl (i:=17) (oi:=⟨some 102,.load 2 (.tmp 101),_,_,_,some (15,true)⟩) (v:=.int .i64 imm) rfl hP (fun wS hS=>by subst hS;go_simp) hH ?_
    simp only [Act.put,zA,zB,zC]
    refine tkl (i:=18) (oi:=⟨some 103,.binOp .lss 2 (.tmp 102) (.const (.int .i64 0)) 2,_,_,_,some (15,true)⟩) (v:=.bool false) rfl hP (fun wS hS=>by subst hS;go_simp) hH ?_
    simp only [Act.put,zA,zB,zC]
    refine tkl (i:=19) (oi:=⟨some 104,.move (.tmp 103),_,_,_,some (15,true)⟩) (v:=.bool false) rfl hP (fun wS hS=>by rfl) hH ?_
    simp only [Act.put,zA,zB,zC]
    refine tkl (i:=20) (oi:=⟨some 105,.fieldAddr 92 (.tmp 1) 5,_,_,_,some (19,false)⟩) (v:=.pointer (some ⟨kx,5,none⟩)) rfl hP (fun wS hS=>by subst hS;go_simp) hH ?_
    simp only [Act.put,zA,zB,zC]
    refine tkl (i:=21) (oi:=⟨some 106,.load 2 (.tmp 105),_,_,_,some (19,false)⟩) (v:=.int .i64 imm) rfl hP (fun wS hS=>by subst hS;go_simp) hH ?_
    simp only [Act.put,zA,zB,zC]
    refine tkl (i:=22) (oi:=⟨some 107,.binOp .gtr 2 (.tmp 106) (.const (.int .i64 254)) 2,_,_,_,some (19,false)⟩) (v:=.bool false) rfl hP (fun wS hS=>by subst hS;go_simp) hH ?_
    simp only [Act.put,zA,zB,zC]
    refine tkl (i:=23) (oi:=⟨some 108,.pick (.tmp 104) (.const (.bool true)) (.tmp 107),_,_,_,some (15,true)⟩) (v:=.bool false) rfl hP (fun wS hS=>by rfl) hH ?_
    simp only [Act.put,zA,zB,zC]
    refine tkl (i:=24) (oi:=⟨some 109,.pick (.tmp 100) (.tmp 108) (.const (.bool false)),_,_,_,some (12,false)⟩) (v:=.bool false) rfl hP (fun wS hS=>by rfl) hH ?_
    simp only [Act.put,zA,zB,zC]
    refine tkl (i:=25) (oi:=⟨some 110,.pick (.tmp 97) (.const (.bool true)) (.tmp 109),_,_,_,none⟩) (v:=.bool false) rfl hP (fun wS hS=>by rfl) hH ?_
    simp only [Act.put,zA,zB,zC]
    refine tkl (i:=26) (oi:=⟨some 111,.move (.tmp 110),_,_,_,none⟩) (v:=.bool false) rfl hP (fun wS hS=>by rfl) hH ?_
    simp only [Act.put,zA,zB,zC]
    refine tkl (i:=27) (oi:=⟨some 112,.move (.tmp 3),_,_,_,some (26,false)⟩) (v:=.int .i64 11) rfl hP (fun wS hS=>by rfl) hH ?_
    simp only [Act.put,zA,zB,zC]
    refine tkl (i:=28) (oi:=⟨some 113,.binOp .neq 3 (.tmp 112) (.const (.int .i64 10)) 3,_,_,_,some (26,false)⟩) (v:=.bool true) rfl hP (fun wS hS=>by subst hS;go_simp) hH ?_
    simp only [Act.put,zA,zB,zC]
    refine tkl (i:=29) (oi:=⟨some 114,.move (.tmp 113),_,_,_,some (26,false)⟩) (v:=.bool true) rfl hP (fun wS hS=>by rfl) hH ?_
    simp only [Act.put,zA,zB,zC]
    refine tkl (i:=30) (oi:=⟨some 115,.fieldAddr 92 (.tmp 1) 5,_,_,_,some (29,true)⟩) (v:=.pointer (some ⟨kx,5,none⟩)) rfl hP (fun wS hS=>by subst hS;go_simp) hH ?_
    simp only [Act.put,zA,zB,zC]
    refine tkl (i:=31) (oi:=⟨some 116,.load 2 (.tmp 115),_,_,_,some (29,true)⟩) (v:=.int .i64 imm) rfl hP (fun wS hS=>by subst hS;go_simp) hH ?_
    simp only [Act.put,zA,zB,zC]
    refine tkl (i:=32) (oi:=⟨some 117,.convert 2 81 (.tmp 116),_,_,_,some (29,true)⟩) (v:=.int .u64 (IntKind.u64.wrap imm)) rfl hP (fun wS hS=>by first|rfl|(subst hS;go_simp)) hH ?_
    simp only [Act.put,zA,zB,zC]
    refine tkl (i:=34) (oi:=⟨some 119,.fieldAddr 92 (.tmp 1) 5,_,_,_,some (29,true)⟩) (v:=.pointer (some ⟨kx,5,none⟩)) rfl hP (fun wS hS=>by subst hS;go_simp) hH ?_
    simp only [Act.put,zA,zB,zC]
    refine tkl (i:=35) (oi:=⟨some 120,.load 2 (.tmp 119),_,_,_,some (29,true)⟩) (v:=.int .i64 imm) rfl hP (fun wS hS=>by subst hS;go_simp) hH ?_
    simp only [Act.put,zA,zB,zC]
    refine wpAnyH_ready (rs:=[33]) (by kernel_rfl) (by simp) ?_
    refine AllReadyH.cons (o:=⟨some 118,.call { callee:=.value (.func 163),args:=#[.tmp 117,.const (.int .i64 32)],argTypes:=#[81,3] },_,_,_,some (29,true)⟩) rfl (fun K hK=>?_) AllReadyH.nil
    go_simp
    with_reducible refine (extend_is imm _ _ rfl).mono ?_
    rintro e w1 ⟨rfl,rfl⟩
    refine hK.out _ _ rfl (fun hH2=>?_)
    clear hK K hH
    refine tkl (i:=36) (oi:=⟨some 121,.binOp .neq 2 (.tmp 118) (.tmp 120) 2,_,_,_,some (29,true)⟩) (v:=.bool false) rfl hP (fun wS hS=>by subst hS;go_simp) hH2 ?_
    simp only [Act.put,zA,zB,zC]
    refine tkl (i:=37) (oi:=⟨some 122,.pick (.tmp 114) (.tmp 121) (.const (.bool false)),_,_,_,some (26,false)⟩) (v:=.bool false) rfl hP (fun wS hS=>by rfl) hH2 ?_
    simp only [Act.put,zA,zB,zC]
    refine tkl (i:=38) (oi:=⟨some 123,.pick (.tmp 111) (.const (.bool true)) (.tmp 122),_,_,_,none⟩) (v:=.bool false) rfl hP (fun wS hS=>by rfl) hH2 ?_
    simp only [Act.put,zA,zB,zC]
    refine wpAnyH_done (by kernel_rfl) ?_ _
    exact hQ.out
  ·skip
   obtain rfl:x=true:=by rw [← HX.out,i0,i4];rfl
   clear HX
   refine wp_region_held_drew (S:=fun w'=>w'=w.drew) (by kernel_rfl) rfl (fun hH=>?_)
   refine tkl (i:=0) (oi:=⟨some 85,.move (.tmp 3),_,_,_,none⟩) (v:=.int .i64 11) rfl hP (fun wS hS=>by rfl) hH ?_
   simp only [Act.put,zA,zB,zC]
   refine tkl (i:=1) (oi:=⟨some 86,.binOp .eql 3 (.tmp 85) (.const (.int .i64 5)) 3,_,_,_,none⟩) (v:=.bool false) rfl hP (fun wS hS=>by subst hS;go_simp) hH ?_
   simp only [Act.put,zA,zB,zC]
   refine tkl (i:=2) (oi:=⟨some 87,.move (.tmp 86),_,_,_,none⟩) (v:=.bool false) rfl hP (fun wS hS=>by rfl) hH ?_
   simp only [Act.put,zA,zB,zC]
   refine tkr (i:=3) (oi:=⟨some 88,.fieldAddr 92 (.tmp 1) 5,_,_,_,some (2,true)⟩) rfl hP hH ?_
   simp only [Act.put,zA,zB,zC]
   refine tkr (i:=4) (oi:=⟨some 89,.load 2 (.tmp 88),_,_,_,some (2,true)⟩) rfl hP hH ?_
   simp only [Act.put,zA,zB,zC]
   refine tkr (i:=5) (oi:=⟨some 90,.binOp .lss 2 (.tmp 89) (.const (.int .i64 1)) 2,_,_,_,some (2,true)⟩) rfl hP hH ?_
   simp only [Act.put,zA,zB,zC]
   refine tkr (i:=6) (oi:=⟨some 91,.move (.tmp 90),_,_,_,some (2,true)⟩) rfl hP hH ?_
   simp only [Act.put,zA,zB,zC]
   refine tkr (i:=7) (oi:=⟨some 92,.fieldAddr 92 (.tmp 1) 5,_,_,_,some (6,false)⟩) rfl hP hH ?_
   simp only [Act.put,zA,zB,zC]
   refine tkr (i:=8) (oi:=⟨some 93,.load 2 (.tmp 92),_,_,_,some (6,false)⟩) rfl hP hH ?_
   simp only [Act.put,zA,zB,zC]
   refine tkr (i:=9) (oi:=⟨some 94,.binOp .gtr 2 (.tmp 93) (.const (.int .i64 3)) 2,_,_,_,some (6,false)⟩) rfl hP hH ?_
   simp only [Act.put,zA,zB,zC]
   refine tkr (i:=10) (oi:=⟨some 95,.pick (.tmp 91) (.const (.bool true)) (.tmp 94),_,_,_,some (2,true)⟩) rfl hP hH ?_
   simp only [Act.put,zA,zB,zC]
   refine tkl (i:=11) (oi:=⟨some 96,.pick (.tmp 87) (.tmp 95) (.const (.bool false)),_,_,_,none⟩) (v:=.bool false) rfl hP (fun wS hS=>by rfl) hH ?_
   simp only [Act.put,zA,zB,zC]
   refine tkl (i:=12) (oi:=⟨some 97,.move (.tmp 96),_,_,_,none⟩) (v:=.bool false) rfl hP (fun wS hS=>by rfl) hH ?_
   simp only [Act.put,zA,zB,zC]
   refine tkl (i:=13) (oi:=⟨some 98,.move (.tmp 3),_,_,_,some (12,false)⟩) (v:=.int .i64 11) rfl hP (fun wS hS=>by rfl) hH ?_
   simp only [Act.put,zA,zB,zC]
   refine tkl (i:=14) (oi:=⟨some 99,.binOp .eql 3 (.tmp 98) (.const (.int .i64 11)) 3,_,_,_,some (12,false)⟩) (v:=.bool true) rfl hP (fun wS hS=>by subst hS;go_simp) hH ?_
   simp only [Act.put,zA,zB,zC]
   refine tkl (i:=15) (oi:=⟨some 100,.move (.tmp 99),_,_,_,some (12,false)⟩) (v:=.bool true) rfl hP (fun wS hS=>by rfl) hH ?_
   simp only [Act.put,zA,zB,zC]
   refine tkl (i:=16) (oi:=⟨some 101,.fieldAddr 92 (.tmp 1) 5,_,_,_,some (15,true)⟩) (v:=.pointer (some ⟨kx,5,none⟩)) rfl hP (fun wS hS=>by subst hS;go_simp) hH ?_
   simp only [Act.put,zA,zB,zC]
   refine tkl (i:=17) (oi:=⟨some 102,.load 2 (.tmp 101),_,_,_,some (15,true)⟩) (v:=.int .i64 imm) rfl hP (fun wS hS=>by subst hS;go_simp) hH ?_
   simp only [Act.put,zA,zB,zC]
   refine tkl (i:=18) (oi:=⟨some 103,.binOp .lss 2 (.tmp 102) (.const (.int .i64 0)) 2,_,_,_,some (15,true)⟩) (v:=.bool false) rfl hP (fun wS hS=>by subst hS;go_simp) hH ?_
   simp only [Act.put,zA,zB,zC]
   refine tkl (i:=19) (oi:=⟨some 104,.move (.tmp 103),_,_,_,some (15,true)⟩) (v:=.bool false) rfl hP (fun wS hS=>by rfl) hH ?_
   simp only [Act.put,zA,zB,zC]
   refine tkl (i:=20) (oi:=⟨some 105,.fieldAddr 92 (.tmp 1) 5,_,_,_,some (19,false)⟩) (v:=.pointer (some ⟨kx,5,none⟩)) rfl hP (fun wS hS=>by subst hS;go_simp) hH ?_
   simp only [Act.put,zA,zB,zC]
   refine tkl (i:=21) (oi:=⟨some 106,.load 2 (.tmp 105),_,_,_,some (19,false)⟩) (v:=.int .i64 imm) rfl hP (fun wS hS=>by subst hS;go_simp) hH ?_
   simp only [Act.put,zA,zB,zC]
   refine tkl (i:=22) (oi:=⟨some 107,.binOp .gtr 2 (.tmp 106) (.const (.int .i64 254)) 2,_,_,_,some (19,false)⟩) (v:=.bool true) rfl hP (fun wS hS=>by subst hS;go_simp) hH ?_
   simp only [Act.put,zA,zB,zC]
   refine tkl (i:=23) (oi:=⟨some 108,.pick (.tmp 104) (.const (.bool true)) (.tmp 107),_,_,_,some (15,true)⟩) (v:=.bool true) rfl hP (fun wS hS=>by rfl) hH ?_
   simp only [Act.put,zA,zB,zC]
   refine tkl (i:=24) (oi:=⟨some 109,.pick (.tmp 100) (.tmp 108) (.const (.bool false)),_,_,_,some (12,false)⟩) (v:=.bool true) rfl hP (fun wS hS=>by rfl) hH ?_
   simp only [Act.put,zA,zB,zC]
   refine tkl (i:=25) (oi:=⟨some 110,.pick (.tmp 97) (.const (.bool true)) (.tmp 109),_,_,_,none⟩) (v:=.bool true) rfl hP (fun wS hS=>by rfl) hH ?_
   simp only [Act.put,zA,zB,zC]
   refine tkl (i:=26) (oi:=⟨some 111,.move (.tmp 110),_,_,_,none⟩) (v:=.bool true) rfl hP (fun wS hS=>by rfl) hH ?_
   simp only [Act.put,zA,zB,zC]
   refine tkr (i:=27) (oi:=⟨some 112,.move (.tmp 3),_,_,_,some (26,false)⟩) rfl hP hH ?_
   simp only [Act.put,zA,zB,zC]
   refine tkr (i:=28) (oi:=⟨some 113,.binOp .neq 3 (.tmp 112) (.const (.int .i64 10)) 3,_,_,_,some (26,false)⟩) rfl hP hH ?_
   simp only [Act.put,zA,zB,zC]
   refine tkr (i:=29) (oi:=⟨some 114,.move (.tmp 113),_,_,_,some (26,false)⟩) rfl hP hH ?_
   simp only [Act.put,zA,zB,zC]
   refine tkr (i:=30) (oi:=⟨some 115,.fieldAddr 92 (.tmp 1) 5,_,_,_,some (29,true)⟩) rfl hP hH ?_
   simp only [Act.put,zA,zB,zC]
   refine tkr (i:=31) (oi:=⟨some 116,.load 2 (.tmp 115),_,_,_,some (29,true)⟩) rfl hP hH ?_
   simp only [Act.put,zA,zB,zC]
   refine tkr (i:=32) (oi:=⟨some 117,.convert 2 81 (.tmp 116),_,_,_,some (29,true)⟩) rfl hP hH ?_
   simp only [Act.put,zA,zB,zC]
   refine tkr (i:=34) (oi:=⟨some 119,.fieldAddr 92 (.tmp 1) 5,_,_,_,some (29,true)⟩) rfl hP hH ?_
   simp only [Act.put,zA,zB,zC]
   refine tkr (i:=35) (oi:=⟨some 120,.load 2 (.tmp 119),_,_,_,some (29,true)⟩) rfl hP hH ?_
   simp only [Act.put,zA,zB,zC]
   refine tkr (i:=33) (oi:=⟨some 118,.call { callee:=.value (.func 163),args:=#[.tmp 117,.const (.int .i64 32)],argTypes:=#[81,3] },_,_,_,some (29,true)⟩) rfl hP hH ?_
   simp only [Act.put,zA,zB,zC]
   refine tkr (i:=36) (oi:=⟨some 121,.binOp .neq 2 (.tmp 118) (.tmp 120) 2,_,_,_,some (29,true)⟩) rfl hP hH ?_
   simp only [Act.put,zA,zB,zC]
   refine tkr (i:=37) (oi:=⟨some 122,.pick (.tmp 114) (.tmp 121) (.const (.bool false)),_,_,_,some (26,false)⟩) rfl hP hH ?_
   simp only [Act.put,zA,zB,zC]
   refine tkl (i:=38) (oi:=⟨some 123,.pick (.tmp 111) (.const (.bool true)) (.tmp 122),_,_,_,none⟩) (v:=.bool true) rfl hP (fun wS hS=>by rfl) hH ?_
   simp only [Act.put,zA,zB,zC]
   refine wpAnyH_done (by kernel_rfl) ?_ _
   exact hQ.out
 ·skip
  obtain rfl:x=true:=by rw [← HX.out,i0];rfl
  clear HX
  refine wp_region_held_drew (S:=fun w'=>w'=w.drew) (by kernel_rfl) rfl (fun hH=>?_)
  refine tkl (i:=0) (oi:=⟨some 85,.move (.tmp 3),_,_,_,none⟩) (v:=.int .i64 11) rfl hP (fun wS hS=>by rfl) hH ?_
  simp only [Act.put,zA,zB,zC]
  refine tkl (i:=1) (oi:=⟨some 86,.binOp .eql 3 (.tmp 85) (.const (.int .i64 5)) 3,_,_,_,none⟩) (v:=.bool false) rfl hP (fun wS hS=>by subst hS;go_simp) hH ?_
  simp only [Act.put,zA,zB,zC]
  refine tkl (i:=2) (oi:=⟨some 87,.move (.tmp 86),_,_,_,none⟩) (v:=.bool false) rfl hP (fun wS hS=>by rfl) hH ?_
  simp only [Act.put,zA,zB,zC]
  refine tkr (i:=3) (oi:=⟨some 88,.fieldAddr 92 (.tmp 1) 5,_,_,_,some (2,true)⟩) rfl hP hH ?_
  simp only [Act.put,zA,zB,zC]
  refine tkr (i:=4) (oi:=⟨some 89,.load 2 (.tmp 88),_,_,_,some (2,true)⟩) rfl hP hH ?_
  simp only [Act.put,zA,zB,zC]
  refine tkr (i:=5) (oi:=⟨some 90,.binOp .lss 2 (.tmp 89) (.const (.int .i64 1)) 2,_,_,_,some (2,true)⟩) rfl hP hH ?_
  simp only [Act.put,zA,zB,zC]
  refine tkr (i:=6) (oi:=⟨some 91,.move (.tmp 90),_,_,_,some (2,true)⟩) rfl hP hH ?_
  simp only [Act.put,zA,zB,zC]
  refine tkr (i:=7) (oi:=⟨some 92,.fieldAddr 92 (.tmp 1) 5,_,_,_,some (6,false)⟩) rfl hP hH ?_
  simp only [Act.put,zA,zB,zC]
  refine tkr (i:=8) (oi:=⟨some 93,.load 2 (.tmp 92),_,_,_,some (6,false)⟩) rfl hP hH ?_
  simp only [Act.put,zA,zB,zC]
  refine tkr (i:=9) (oi:=⟨some 94,.binOp .gtr 2 (.tmp 93) (.const (.int .i64 3)) 2,_,_,_,some (6,false)⟩) rfl hP hH ?_
  simp only [Act.put,zA,zB,zC]
  refine tkr (i:=10) (oi:=⟨some 95,.pick (.tmp 91) (.const (.bool true)) (.tmp 94),_,_,_,some (2,true)⟩) rfl hP hH ?_
  simp only [Act.put,zA,zB,zC]
  refine tkl (i:=11) (oi:=⟨some 96,.pick (.tmp 87) (.tmp 95) (.const (.bool false)),_,_,_,none⟩) (v:=.bool false) rfl hP (fun wS hS=>by rfl) hH ?_
  simp only [Act.put,zA,zB,zC]
  refine tkl (i:=12) (oi:=⟨some 97,.move (.tmp 96),_,_,_,none⟩) (v:=.bool false) rfl hP (fun wS hS=>by rfl) hH ?_
  simp only [Act.put,zA,zB,zC]
  refine tkl (i:=13) (oi:=⟨some 98,.move (.tmp 3),_,_,_,some (12,false)⟩) (v:=.int .i64 11) rfl hP (fun wS hS=>by rfl) hH ?_
  simp only [Act.put,zA,zB,zC]
  refine tkl (i:=14) (oi:=⟨some 99,.binOp .eql 3 (.tmp 98) (.const (.int .i64 11)) 3,_,_,_,some (12,false)⟩) (v:=.bool true) rfl hP (fun wS hS=>by subst hS;go_simp) hH ?_
  simp only [Act.put,zA,zB,zC]
  refine tkl (i:=15) (oi:=⟨some 100,.move (.tmp 99),_,_,_,some (12,false)⟩) (v:=.bool true) rfl hP (fun wS hS=>by rfl) hH ?_
  simp only [Act.put,zA,zB,zC]
  refine tkl (i:=16) (oi:=⟨some 101,.fieldAddr 92 (.tmp 1) 5,_,_,_,some (15,true)⟩) (v:=.pointer (some ⟨kx,5,none⟩)) rfl hP (fun wS hS=>by subst hS;go_simp) hH ?_
  simp only [Act.put,zA,zB,zC]
  refine tkl (i:=17) (oi:=⟨some 102,.load 2 (.tmp 101),_,_,_,some (15,true)⟩) (v:=.int .i64 imm) rfl hP (fun wS hS=>by subst hS;go_simp) hH ?_
  simp only [Act.put,zA,zB,zC]
  refine tkl (i:=18) (oi:=⟨some 103,.binOp .lss 2 (.tmp 102) (.const (.int .i64 0)) 2,_,_,_,some (15,true)⟩) (v:=.bool true) rfl hP (fun wS hS=>by subst hS;go_simp) hH ?_
  simp only [Act.put,zA,zB,zC]
  refine tkl (i:=19) (oi:=⟨some 104,.move (.tmp 103),_,_,_,some (15,true)⟩) (v:=.bool true) rfl hP (fun wS hS=>by rfl) hH ?_
  simp only [Act.put,zA,zB,zC]
  refine tkr (i:=20) (oi:=⟨some 105,.fieldAddr 92 (.tmp 1) 5,_,_,_,some (19,false)⟩) rfl hP hH ?_
  simp only [Act.put,zA,zB,zC]
  refine tkr (i:=21) (oi:=⟨some 106,.load 2 (.tmp 105),_,_,_,some (19,false)⟩) rfl hP hH ?_
  simp only [Act.put,zA,zB,zC]
  refine tkr (i:=22) (oi:=⟨some 107,.binOp .gtr 2 (.tmp 106) (.const (.int .i64 254)) 2,_,_,_,some (19,false)⟩) rfl hP hH ?_
  simp only [Act.put,zA,zB,zC]
  refine tkl (i:=23) (oi:=⟨some 108,.pick (.tmp 104) (.const (.bool true)) (.tmp 107),_,_,_,some (15,true)⟩) (v:=.bool true) rfl hP (fun wS hS=>by rfl) hH ?_
  simp only [Act.put,zA,zB,zC]
  refine tkl (i:=24) (oi:=⟨some 109,.pick (.tmp 100) (.tmp 108) (.const (.bool false)),_,_,_,some (12,false)⟩) (v:=.bool true) rfl hP (fun wS hS=>by rfl) hH ?_
  simp only [Act.put,zA,zB,zC]
  refine tkl (i:=25) (oi:=⟨some 110,.pick (.tmp 97) (.const (.bool true)) (.tmp 109),_,_,_,none⟩) (v:=.bool true) rfl hP (fun wS hS=>by rfl) hH ?_
  simp only [Act.put,zA,zB,zC]
  refine tkl (i:=26) (oi:=⟨some 111,.move (.tmp 110),_,_,_,none⟩) (v:=.bool true) rfl hP (fun wS hS=>by rfl) hH ?_
  simp only [Act.put,zA,zB,zC]
  refine tkr (i:=27) (oi:=⟨some 112,.move (.tmp 3),_,_,_,some (26,false)⟩) rfl hP hH ?_
  simp only [Act.put,zA,zB,zC]
  refine tkr (i:=28) (oi:=⟨some 113,.binOp .neq 3 (.tmp 112) (.const (.int .i64 10)) 3,_,_,_,some (26,false)⟩) rfl hP hH ?_
  simp only [Act.put,zA,zB,zC]
  refine tkr (i:=29) (oi:=⟨some 114,.move (.tmp 113),_,_,_,some (26,false)⟩) rfl hP hH ?_
  simp only [Act.put,zA,zB,zC]
  refine tkr (i:=30) (oi:=⟨some 115,.fieldAddr 92 (.tmp 1) 5,_,_,_,some (29,true)⟩) rfl hP hH ?_
  simp only [Act.put,zA,zB,zC]
  refine tkr (i:=31) (oi:=⟨some 116,.load 2 (.tmp 115),_,_,_,some (29,true)⟩) rfl hP hH ?_
  simp only [Act.put,zA,zB,zC]
  refine tkr (i:=32) (oi:=⟨some 117,.convert 2 81 (.tmp 116),_,_,_,some (29,true)⟩) rfl hP hH ?_
  simp only [Act.put,zA,zB,zC]
  refine tkr (i:=34) (oi:=⟨some 119,.fieldAddr 92 (.tmp 1) 5,_,_,_,some (29,true)⟩) rfl hP hH ?_
  simp only [Act.put,zA,zB,zC]
  refine tkr (i:=35) (oi:=⟨some 120,.load 2 (.tmp 119),_,_,_,some (29,true)⟩) rfl hP hH ?_
  simp only [Act.put,zA,zB,zC]
  refine tkr (i:=33) (oi:=⟨some 118,.call { callee:=.value (.func 163),args:=#[.tmp 117,.const (.int .i64 32)],argTypes:=#[81,3] },_,_,_,some (29,true)⟩) rfl hP hH ?_
  simp only [Act.put,zA,zB,zC]
  refine tkr (i:=36) (oi:=⟨some 121,.binOp .neq 2 (.tmp 118) (.tmp 120) 2,_,_,_,some (29,true)⟩) rfl hP hH ?_
  simp only [Act.put,zA,zB,zC]
  refine tkr (i:=37) (oi:=⟨some 122,.pick (.tmp 114) (.tmp 121) (.const (.bool false)),_,_,_,some (26,false)⟩) rfl hP hH ?_
  simp only [Act.put,zA,zB,zC]
  refine tkl (i:=38) (oi:=⟨some 123,.pick (.tmp 111) (.const (.bool true)) (.tmp 122),_,_,_,none⟩) (v:=.bool true) rfl hP (fun wS hS=>by rfl) hH ?_
  simp only [Act.put,zA,zB,zC]
  refine wpAnyH_done (by kernel_rfl) ?_ _
  exact hQ.out
theorem r10_five  {x:Bool} (hX:rX 5 imm=x) (x5:w.cell? ⟨kx,5,none⟩=some (.int .i64 imm)) {u0 u2 u4 u5 u6 u7 u8 u9 u10 u11 u12 u13 u14 u15 u16 u17 u18 u19 u20 u21 u22 u23 u24 u25 u26 u27 u28 u29 u30 u31 u32 u33 u34 u35 u36 u37 u38 u39 u40 u41 u42 u43 u44 u45 u46 u47 u48 u49 u50 u51 u52 u53 u54 u55 u56 u57 u58 u59 u60 u61 u62 u63 u64 u65 u66 u67 u68 u69 u70 u71 u72 u73 u74 u75 u76 u77 u78 u79 u80 u81 u82 u83 u84 u85 u86 u87 u88 u89 u90 u91 u92 u93 u94 u95 u96 u97 u98 u99 u100 u101 u102 u103 u104 u105 u106 u107 u108 u109 u110 u111 u112 u113 u114 u115 u116 u117 u118 u119 u120 u121 u122 u123:Value}
  (hP:∀ c a d v w,Q (.panic c) (Act.put a d v) w→Q (.panic c) a w) (hQ:Hid (∀ {u0 u2 u4 u5 u6 u7 u8 u9 u10 u11 u12 u13 u14 u15 u16 u17 u18 u19 u20 u21 u22 u23 u24 u25 u26 u27 u28 u29 u30 u31 u32 u33 u34 u35 u36 u37 u38 u39 u40 u41 u42 u43 u44 u45 u46 u47 u48 u49 u50 u51 u52 u53 u54 u55 u56 u57 u58 u59 u60 u61 u62 u63 u64 u65 u66 u67 u68 u69 u70 u71 u72 u73 u74 u75 u76 u77 u78 u79 u80 u81 u82 u83 u84 u85 u86 u87 u88 u89 u90 u91 u92 u93 u94 u95 u96 u97 u98 u99 u100 u101 u102 u103 u104 u105 u106 u107 u108 u109 u110 u111 u112 u113 u114 u115 u116 u117 u118 u119 u120 u121 u122:Value},Q .normal ⟨#[u0,.pointer (some ⟨kx,0,none⟩),u2,.int .i64 5,u4,u5,u6,u7,u8,u9,u10,u11,u12,u13,u14,u15,u16,u17,u18,u19,u20,u21,u22,u23,u24,u25,u26,u27,u28,u29,u30,u31,u32,u33,u34,u35,u36,u37,u38,u39,u40,u41,u42,u43,u44,u45,u46,u47,u48,u49,u50,u51,u52,u53,u54,u55,u56,u57,u58,u59,u60,u61,u62,u63,u64,u65,u66,u67,u68,u69,u70,u71,u72,u73,u74,u75,u76,u77,u78,u79,u80,u81,u82,u83,u84,u85,u86,u87,u88,u89,u90,u91,u92,u93,u94,u95,u96,u97,u98,u99,u100,u101,u102,u103,u104,u105,u106,u107,u108,u109,u110,u111,u112,u113,u114,u115,u116,u117,u118,u119,u120,u121,u122,.bool x],[]⟩ w.drew)) :
  Code.wp Tryz.prog (Code.region 10 Rten1 true) Q ⟨#[u0,.pointer (some ⟨kx,0,none⟩),u2,.int .i64 5,u4,u5,u6,u7,u8,u9,u10,u11,u12,u13,u14,u15,u16,u17,u18,u19,u20,u21,u22,u23,u24,u25,u26,u27,u28,u29,u30,u31,u32,u33,u34,u35,u36,u37,u38,u39,u40,u41,u42,u43,u44,u45,u46,u47,u48,u49,u50,u51,u52,u53,u54,u55,u56,u57,u58,u59,u60,u61,u62,u63,u64,u65,u66,u67,u68,u69,u70,u71,u72,u73,u74,u75,u76,u77,u78,u79,u80,u81,u82,u83,u84,u85,u86,u87,u88,u89,u90,u91,u92,u93,u94,u95,u96,u97,u98,u99,u100,u101,u102,u103,u104,u105,u106,u107,u108,u109,u110,u111,u112,u113,u114,u115,u116,u117,u118,u119,u120,u121,u122,u123],[]⟩ w:=by
 delta Rten1
 have HX:=Lib.hid hX
 unfold rX at HX
 clear hX
 cases i1:decide (imm<1)
 ·cases i3:decide (3<imm)
  ·skip
   cases se:(sx 32 imm==imm)
   ·have sn:(sx 32 imm != imm)=true:=by rw [bne,se];rfl
    obtain rfl:x=true:=by rw [← HX.out,i1,i3,sn];rfl
    clear HX
    refine wp_region_held_drew (S:=fun w'=>w'=w.drew) (by kernel_rfl) rfl (fun hH=>?_)
    refine tkl (i:=0) (oi:=⟨some 85,.move (.tmp 3),_,_,_,none⟩) (v:=.int .i64 5) rfl hP (fun wS hS=>by rfl) hH ?_
    simp only [Act.put,zA,zB,zC]
    refine tkl (i:=1) (oi:=⟨some 86,.binOp .eql 3 (.tmp 85) (.const (.int .i64 5)) 3,_,_,_,none⟩) (v:=.bool true) rfl hP (fun wS hS=>by subst hS;go_simp) hH ?_
    simp only [Act.put,zA,zB,zC]
    refine tkl (i:=2) (oi:=⟨some 87,.move (.tmp 86),_,_,_,none⟩) (v:=.bool true) rfl hP (fun wS hS=>by rfl) hH ?_
    simp only [Act.put,zA,zB,zC]
    refine tkl (i:=3) (oi:=⟨some 88,.fieldAddr 92 (.tmp 1) 5,_,_,_,some (2,true)⟩) (v:=.pointer (some ⟨kx,5,none⟩)) rfl hP (fun wS hS=>by subst hS;go_simp) hH ?_
    simp only [Act.put,zA,zB,zC]
    refine tkl (i:=4) (oi:=⟨some 89,.load 2 (.tmp 88),_,_,_,some (2,true)⟩) (v:=.int .i64 imm) rfl hP (fun wS hS=>by subst hS;go_simp) hH ?_
    simp only [Act.put,zA,zB,zC]
    refine tkl (i:=5) (oi:=⟨some 90,.binOp .lss 2 (.tmp 89) (.const (.int .i64 1)) 2,_,_,_,some (2,true)⟩) (v:=.bool false) rfl hP (fun wS hS=>by subst hS;go_simp) hH ?_
    simp only [Act.put,zA,zB,zC]
    refine tkl (i:=6) (oi:=⟨some 91,.move (.tmp 90),_,_,_,some (2,true)⟩) (v:=.bool false) rfl hP (fun wS hS=>by rfl) hH ?_
    simp only [Act.put,zA,zB,zC]
    refine tkl (i:=7) (oi:=⟨some 92,.fieldAddr 92 (.tmp 1) 5,_,_,_,some (6,false)⟩) (v:=.pointer (some ⟨kx,5,none⟩)) rfl hP (fun wS hS=>by subst hS;go_simp) hH ?_
    simp only [Act.put,zA,zB,zC]
    refine tkl (i:=8) (oi:=⟨some 93,.load 2 (.tmp 92),_,_,_,some (6,false)⟩) (v:=.int .i64 imm) rfl hP (fun wS hS=>by subst hS;go_simp) hH ?_
    simp only [Act.put,zA,zB,zC]
    refine tkl (i:=9) (oi:=⟨some 94,.binOp .gtr 2 (.tmp 93) (.const (.int .i64 3)) 2,_,_,_,some (6,false)⟩) (v:=.bool false) rfl hP (fun wS hS=>by subst hS;go_simp) hH ?_
    simp only [Act.put,zA,zB,zC]
    refine tkl (i:=10) (oi:=⟨some 95,.pick (.tmp 91) (.const (.bool true)) (.tmp 94),_,_,_,some (2,true)⟩) (v:=.bool false) rfl hP (fun wS hS=>by rfl) hH ?_
    simp only [Act.put,zA,zB,zC]
    refine tkl (i:=11) (oi:=⟨some 96,.pick (.tmp 87) (.tmp 95) (.const (.bool false)),_,_,_,none⟩) (v:=.bool false) rfl hP (fun wS hS=>by rfl) hH ?_
    simp only [Act.put,zA,zB,zC]
    refine tkl (i:=12) (oi:=⟨some 97,.move (.tmp 96),_,_,_,none⟩) (v:=.bool false) rfl hP (fun wS hS=>by rfl) hH ?_
    simp only [Act.put,zA,zB,zC]
    refine tkl (i:=13) (oi:=⟨some 98,.move (.tmp 3),_,_,_,some (12,false)⟩) (v:=.int .i64 5) rfl hP (fun wS hS=>by rfl) hH ?_
    simp only [Act.put,zA,zB,zC]
    refine tkl (i:=14) (oi:=⟨some 99,.binOp .eql 3 (.tmp 98) (.const (.int .i64 11)) 3,_,_,_,some (12,false)⟩) (v:=.bool false) rfl hP (fun wS hS=>by subst hS;go_simp) hH ?_
    simp only [Act.put,zA,zB,zC]
    refine tkl (i:=15) (oi:=⟨some 100,.move (.tmp 99),_,_,_,some (12,false)⟩) (v:=.bool false) rfl hP (fun wS hS=>by rfl) hH ?_
    simp only [Act.put,zA,zB,zC]
    refine tkr (i:=16) (oi:=⟨some 101,.fieldAddr 92 (.tmp 1) 5,_,_,_,some (15,true)⟩) rfl hP hH ?_
    simp only [Act.put,zA,zB,zC]
    refine tkr (i:=17) (oi:=⟨some 102,.load 2 (.tmp 101),_,_,_,some (15,true)⟩) rfl hP hH ?_
    simp only [Act.put,zA,zB,zC]
    refine tkr (i:=18) (oi:=⟨some 103,.binOp .lss 2 (.tmp 102) (.const (.int .i64 0)) 2,_,_,_,some (15,true)⟩) rfl hP hH ?_
    simp only [Act.put,zA,zB,zC]
    refine tkr (i:=19) (oi:=⟨some 104,.move (.tmp 103),_,_,_,some (15,true)⟩) rfl hP hH ?_
    simp only [Act.put,zA,zB,zC]
    refine tkr (i:=20) (oi:=⟨some 105,.fieldAddr 92 (.tmp 1) 5,_,_,_,some (19,false)⟩) rfl hP hH ?_
    simp only [Act.put,zA,zB,zC]
    refine tkr (i:=21) (oi:=⟨some 106,.load 2 (.tmp 105),_,_,_,some (19,false)⟩) rfl hP hH ?_
    simp only [Act.put,zA,zB,zC]
    refine tkr (i:=22) (oi:=⟨some 107,.binOp .gtr 2 (.tmp 106) (.const (.int .i64 254)) 2,_,_,_,some (19,false)⟩) rfl hP hH ?_
    simp only [Act.put,zA,zB,zC]
    refine tkr (i:=23) (oi:=⟨some 108,.pick (.tmp 104) (.const (.bool true)) (.tmp 107),_,_,_,some (15,true)⟩) rfl hP hH ?_
    simp only [Act.put,zA,zB,zC]
    refine tkl (i:=24) (oi:=⟨some 109,.pick (.tmp 100) (.tmp 108) (.const (.bool false)),_,_,_,some (12,false)⟩) (v:=.bool false) rfl hP (fun wS hS=>by rfl) hH ?_
    simp only [Act.put,zA,zB,zC]
    refine tkl (i:=25) (oi:=⟨some 110,.pick (.tmp 97) (.const (.bool true)) (.tmp 109),_,_,_,none⟩) (v:=.bool false) rfl hP (fun wS hS=>by rfl) hH ?_
    simp only [Act.put,zA,zB,zC]
    refine tkl (i:=26) (oi:=⟨some 111,.move (.tmp 110),_,_,_,none⟩) (v:=.bool false) rfl hP (fun wS hS=>by rfl) hH ?_
    simp only [Act.put,zA,zB,zC]
    refine tkl (i:=27) (oi:=⟨some 112,.move (.tmp 3),_,_,_,some (26,false)⟩) (v:=.int .i64 5) rfl hP (fun wS hS=>by rfl) hH ?_
    simp only [Act.put,zA,zB,zC]
    refine tkl (i:=28) (oi:=⟨some 113,.binOp .neq 3 (.tmp 112) (.const (.int .i64 10)) 3,_,_,_,some (26,false)⟩) (v:=.bool true) rfl hP (fun wS hS=>by subst hS;go_simp) hH ?_
    simp only [Act.put,zA,zB,zC]
    refine tkl (i:=29) (oi:=⟨some 114,.move (.tmp 113),_,_,_,some (26,false)⟩) (v:=.bool true) rfl hP (fun wS hS=>by rfl) hH ?_
    simp only [Act.put,zA,zB,zC]
    refine tkl (i:=30) (oi:=⟨some 115,.fieldAddr 92 (.tmp 1) 5,_,_,_,some (29,true)⟩) (v:=.pointer (some ⟨kx,5,none⟩)) rfl hP (fun wS hS=>by subst hS;go_simp) hH ?_
    simp only [Act.put,zA,zB,zC]
    refine tkl (i:=31) (oi:=⟨some 116,.load 2 (.tmp 115),_,_,_,some (29,true)⟩) (v:=.int .i64 imm) rfl hP (fun wS hS=>by subst hS;go_simp) hH ?_
    simp only [Act.put,zA,zB,zC]
    refine tkl (i:=32) (oi:=⟨some 117,.convert 2 81 (.tmp 116),_,_,_,some (29,true)⟩) (v:=.int .u64 (IntKind.u64.wrap imm)) rfl hP (fun wS hS=>by first|rfl|(subst hS;go_simp)) hH ?_
    simp only [Act.put,zA,zB,zC]
    refine tkl (i:=34) (oi:=⟨some 119,.fieldAddr 92 (.tmp 1) 5,_,_,_,some (29,true)⟩) (v:=.pointer (some ⟨kx,5,none⟩)) rfl hP (fun wS hS=>by subst hS;go_simp) hH ?_
    simp only [Act.put,zA,zB,zC]
    refine tkl (i:=35) (oi:=⟨some 120,.load 2 (.tmp 119),_,_,_,some (29,true)⟩) (v:=.int .i64 imm) rfl hP (fun wS hS=>by subst hS;go_simp) hH ?_
    simp only [Act.put,zA,zB,zC]
    refine wpAnyH_ready (rs:=[33]) (by kernel_rfl) (by simp) ?_
    refine AllReadyH.cons (o:=⟨some 118,.call { callee:=.value (.func 163),args:=#[.tmp 117,.const (.int .i64 32)],argTypes:=#[81,3] },_,_,_,some (29,true)⟩) rfl (fun K hK=>?_) AllReadyH.nil
    go_simp
    with_reducible refine (extend_is imm _ _ rfl).mono ?_
    rintro e w1 ⟨rfl,rfl⟩
    refine hK.out _ _ rfl (fun hH2=>?_)
    clear hK K hH
    refine tkl (i:=36) (oi:=⟨some 121,.binOp .neq 2 (.tmp 118) (.tmp 120) 2,_,_,_,some (29,true)⟩) (v:=.bool true) rfl hP (fun wS hS=>by subst hS;go_simp) hH2 ?_
    simp only [Act.put,zA,zB,zC]
    refine tkl (i:=37) (oi:=⟨some 122,.pick (.tmp 114) (.tmp 121) (.const (.bool false)),_,_,_,some (26,false)⟩) (v:=.bool true) rfl hP (fun wS hS=>by rfl) hH2 ?_
    simp only [Act.put,zA,zB,zC]
    refine tkl (i:=38) (oi:=⟨some 123,.pick (.tmp 111) (.const (.bool true)) (.tmp 122),_,_,_,none⟩) (v:=.bool true) rfl hP (fun wS hS=>by rfl) hH2 ?_
    simp only [Act.put,zA,zB,zC]
    refine wpAnyH_done (by kernel_rfl) ?_ _
    exact hQ.out
   ·have sn:(sx 32 imm != imm)=false:=by rw [bne,se];rfl
    obtain rfl:x=false:=by rw [← HX.out,i1,i3,sn];rfl
    clear HX
    refine wp_region_held_drew (S:=fun w'=>w'=w.drew) (by kernel_rfl) rfl (fun hH=>?_)
    refine tkl (i:=0) (oi:=⟨some 85,.move (.tmp 3),_,_,_,none⟩) (v:=.int .i64 5) rfl hP (fun wS hS=>by rfl) hH ?_
    simp only [Act.put,zA,zB,zC]
    refine tkl (i:=1) (oi:=⟨some 86,.binOp .eql 3 (.tmp 85) (.const (.int .i64 5)) 3,_,_,_,none⟩) (v:=.bool true) rfl hP (fun wS hS=>by subst hS;go_simp) hH ?_
    simp only [Act.put,zA,zB,zC]
    refine tkl (i:=2) (oi:=⟨some 87,.move (.tmp 86),_,_,_,none⟩) (v:=.bool true) rfl hP (fun wS hS=>by rfl) hH ?_
    simp only [Act.put,zA,zB,zC]
    refine tkl (i:=3) (oi:=⟨some 88,.fieldAddr 92 (.tmp 1) 5,_,_,_,some (2,true)⟩) (v:=.pointer (some ⟨kx,5,none⟩)) rfl hP (fun wS hS=>by subst hS;go_simp) hH ?_
    simp only [Act.put,zA,zB,zC]
    refine tkl (i:=4) (oi:=⟨some 89,.load 2 (.tmp 88),_,_,_,some (2,true)⟩) (v:=.int .i64 imm) rfl hP (fun wS hS=>by subst hS;go_simp) hH ?_
    simp only [Act.put,zA,zB,zC]
    refine tkl (i:=5) (oi:=⟨some 90,.binOp .lss 2 (.tmp 89) (.const (.int .i64 1)) 2,_,_,_,some (2,true)⟩) (v:=.bool false) rfl hP (fun wS hS=>by subst hS;go_simp) hH ?_
    simp only [Act.put,zA,zB,zC]
    refine tkl (i:=6) (oi:=⟨some 91,.move (.tmp 90),_,_,_,some (2,true)⟩) (v:=.bool false) rfl hP (fun wS hS=>by rfl) hH ?_
    simp only [Act.put,zA,zB,zC]
    refine tkl (i:=7) (oi:=⟨some 92,.fieldAddr 92 (.tmp 1) 5,_,_,_,some (6,false)⟩) (v:=.pointer (some ⟨kx,5,none⟩)) rfl hP (fun wS hS=>by subst hS;go_simp) hH ?_
    simp only [Act.put,zA,zB,zC]
    refine tkl (i:=8) (oi:=⟨some 93,.load 2 (.tmp 92),_,_,_,some (6,false)⟩) (v:=.int .i64 imm) rfl hP (fun wS hS=>by subst hS;go_simp) hH ?_
    simp only [Act.put,zA,zB,zC]
    refine tkl (i:=9) (oi:=⟨some 94,.binOp .gtr 2 (.tmp 93) (.const (.int .i64 3)) 2,_,_,_,some (6,false)⟩) (v:=.bool false) rfl hP (fun wS hS=>by subst hS;go_simp) hH ?_
    simp only [Act.put,zA,zB,zC]
    refine tkl (i:=10) (oi:=⟨some 95,.pick (.tmp 91) (.const (.bool true)) (.tmp 94),_,_,_,some (2,true)⟩) (v:=.bool false) rfl hP (fun wS hS=>by rfl) hH ?_
    simp only [Act.put,zA,zB,zC]
    refine tkl (i:=11) (oi:=⟨some 96,.pick (.tmp 87) (.tmp 95) (.const (.bool false)),_,_,_,none⟩) (v:=.bool false) rfl hP (fun wS hS=>by rfl) hH ?_
    simp only [Act.put,zA,zB,zC]
    refine tkl (i:=12) (oi:=⟨some 97,.move (.tmp 96),_,_,_,none⟩) (v:=.bool false) rfl hP (fun wS hS=>by rfl) hH ?_
    simp only [Act.put,zA,zB,zC]
    refine tkl (i:=13) (oi:=⟨some 98,.move (.tmp 3),_,_,_,some (12,false)⟩) (v:=.int .i64 5) rfl hP (fun wS hS=>by rfl) hH ?_
    simp only [Act.put,zA,zB,zC]
    refine tkl (i:=14) (oi:=⟨some 99,.binOp .eql 3 (.tmp 98) (.const (.int .i64 11)) 3,_,_,_,some (12,false)⟩) (v:=.bool false) rfl hP (fun wS hS=>by subst hS;go_simp) hH ?_
    simp only [Act.put,zA,zB,zC]
    refine tkl (i:=15) (oi:=⟨some 100,.move (.tmp 99),_,_,_,some (12,false)⟩) (v:=.bool false) rfl hP (fun wS hS=>by rfl) hH ?_
    simp only [Act.put,zA,zB,zC]
    refine tkr (i:=16) (oi:=⟨some 101,.fieldAddr 92 (.tmp 1) 5,_,_,_,some (15,true)⟩) rfl hP hH ?_
    simp only [Act.put,zA,zB,zC]
    refine tkr (i:=17) (oi:=⟨some 102,.load 2 (.tmp 101),_,_,_,some (15,true)⟩) rfl hP hH ?_
    simp only [Act.put,zA,zB,zC]
    refine tkr (i:=18) (oi:=⟨some 103,.binOp .lss 2 (.tmp 102) (.const (.int .i64 0)) 2,_,_,_,some (15,true)⟩) rfl hP hH ?_
    simp only [Act.put,zA,zB,zC]
    refine tkr (i:=19) (oi:=⟨some 104,.move (.tmp 103),_,_,_,some (15,true)⟩) rfl hP hH ?_
    simp only [Act.put,zA,zB,zC]
    refine tkr (i:=20) (oi:=⟨some 105,.fieldAddr 92 (.tmp 1) 5,_,_,_,some (19,false)⟩) rfl hP hH ?_
    simp only [Act.put,zA,zB,zC]
    refine tkr (i:=21) (oi:=⟨some 106,.load 2 (.tmp 105),_,_,_,some (19,false)⟩) rfl hP hH ?_
    simp only [Act.put,zA,zB,zC]
    refine tkr (i:=22) (oi:=⟨some 107,.binOp .gtr 2 (.tmp 106) (.const (.int .i64 254)) 2,_,_,_,some (19,false)⟩) rfl hP hH ?_
    simp only [Act.put,zA,zB,zC]
    refine tkr (i:=23) (oi:=⟨some 108,.pick (.tmp 104) (.const (.bool true)) (.tmp 107),_,_,_,some (15,true)⟩) rfl hP hH ?_
    simp only [Act.put,zA,zB,zC]
    refine tkl (i:=24) (oi:=⟨some 109,.pick (.tmp 100) (.tmp 108) (.const (.bool false)),_,_,_,some (12,false)⟩) (v:=.bool false) rfl hP (fun wS hS=>by rfl) hH ?_
    simp only [Act.put,zA,zB,zC]
    refine tkl (i:=25) (oi:=⟨some 110,.pick (.tmp 97) (.const (.bool true)) (.tmp 109),_,_,_,none⟩) (v:=.bool false) rfl hP (fun wS hS=>by rfl) hH ?_
    simp only [Act.put,zA,zB,zC]
    refine tkl (i:=26) (oi:=⟨some 111,.move (.tmp 110),_,_,_,none⟩) (v:=.bool false) rfl hP (fun wS hS=>by rfl) hH ?_
    simp only [Act.put,zA,zB,zC]
    refine tkl (i:=27) (oi:=⟨some 112,.move (.tmp 3),_,_,_,some (26,false)⟩) (v:=.int .i64 5) rfl hP (fun wS hS=>by rfl) hH ?_
    simp only [Act.put,zA,zB,zC]
    refine tkl (i:=28) (oi:=⟨some 113,.binOp .neq 3 (.tmp 112) (.const (.int .i64 10)) 3,_,_,_,some (26,false)⟩) (v:=.bool true) rfl hP (fun wS hS=>by subst hS;go_simp) hH ?_
    simp only [Act.put,zA,zB,zC]
    refine tkl (i:=29) (oi:=⟨some 114,.move (.tmp 113),_,_,_,some (26,false)⟩) (v:=.bool true) rfl hP (fun wS hS=>by rfl) hH ?_
    simp only [Act.put,zA,zB,zC]
    refine tkl (i:=30) (oi:=⟨some 115,.fieldAddr 92 (.tmp 1) 5,_,_,_,some (29,true)⟩) (v:=.pointer (some ⟨kx,5,none⟩)) rfl hP (fun wS hS=>by subst hS;go_simp) hH ?_
    simp only [Act.put,zA,zB,zC]
    refine tkl (i:=31) (oi:=⟨some 116,.load 2 (.tmp 115),_,_,_,some (29,true)⟩) (v:=.int .i64 imm) rfl hP (fun wS hS=>by subst hS;go_simp) hH ?_
    simp only [Act.put,zA,zB,zC]
    refine tkl (i:=32) (oi:=⟨some 117,.convert 2 81 (.tmp 116),_,_,_,some (29,true)⟩) (v:=.int .u64 (IntKind.u64.wrap imm)) rfl hP (fun wS hS=>by first|rfl|(subst hS;go_simp)) hH ?_
    simp only [Act.put,zA,zB,zC]
    refine tkl (i:=34) (oi:=⟨some 119,.fieldAddr 92 (.tmp 1) 5,_,_,_,some (29,true)⟩) (v:=.pointer (some ⟨kx,5,none⟩)) rfl hP (fun wS hS=>by subst hS;go_simp) hH ?_
    simp only [Act.put,zA,zB,zC]
    refine tkl (i:=35) (oi:=⟨some 120,.load 2 (.tmp 119),_,_,_,some (29,true)⟩) (v:=.int .i64 imm) rfl hP (fun wS hS=>by subst hS;go_simp) hH ?_
    simp only [Act.put,zA,zB,zC]
    refine wpAnyH_ready (rs:=[33]) (by kernel_rfl) (by simp) ?_
    refine AllReadyH.cons (o:=⟨some 118,.call { callee:=.value (.func 163),args:=#[.tmp 117,.const (.int .i64 32)],argTypes:=#[81,3] },_,_,_,some (29,true)⟩) rfl (fun K hK=>?_) AllReadyH.nil
    go_simp
    with_reducible refine (extend_is imm _ _ rfl).mono ?_
    rintro e w1 ⟨rfl,rfl⟩
    refine hK.out _ _ rfl (fun hH2=>?_)
    clear hK K hH
    refine tkl (i:=36) (oi:=⟨some 121,.binOp .neq 2 (.tmp 118) (.tmp 120) 2,_,_,_,some (29,true)⟩) (v:=.bool false) rfl hP (fun wS hS=>by subst hS;go_simp) hH2 ?_
    simp only [Act.put,zA,zB,zC]
    refine tkl (i:=37) (oi:=⟨some 122,.pick (.tmp 114) (.tmp 121) (.const (.bool false)),_,_,_,some (26,false)⟩) (v:=.bool false) rfl hP (fun wS hS=>by rfl) hH2 ?_
    simp only [Act.put,zA,zB,zC]
    refine tkl (i:=38) (oi:=⟨some 123,.pick (.tmp 111) (.const (.bool true)) (.tmp 122),_,_,_,none⟩) (v:=.bool false) rfl hP (fun wS hS=>by rfl) hH2 ?_
    simp only [Act.put,zA,zB,zC]
    refine wpAnyH_done (by kernel_rfl) ?_ _
    exact hQ.out
  ·skip
   obtain rfl:x=true:=by rw [← HX.out,i1,i3];rfl
   clear HX
   refine wp_region_held_drew (S:=fun w'=>w'=w.drew) (by kernel_rfl) rfl (fun hH=>?_)
   refine tkl (i:=0) (oi:=⟨some 85,.move (.tmp 3),_,_,_,none⟩) (v:=.int .i64 5) rfl hP (fun wS hS=>by rfl) hH ?_
   simp only [Act.put,zA,zB,zC]
   refine tkl (i:=1) (oi:=⟨some 86,.binOp .eql 3 (.tmp 85) (.const (.int .i64 5)) 3,_,_,_,none⟩) (v:=.bool true) rfl hP (fun wS hS=>by subst hS;go_simp) hH ?_
   simp only [Act.put,zA,zB,zC]
   refine tkl (i:=2) (oi:=⟨some 87,.move (.tmp 86),_,_,_,none⟩) (v:=.bool true) rfl hP (fun wS hS=>by rfl) hH ?_
   simp only [Act.put,zA,zB,zC]
   refine tkl (i:=3) (oi:=⟨some 88,.fieldAddr 92 (.tmp 1) 5,_,_,_,some (2,true)⟩) (v:=.pointer (some ⟨kx,5,none⟩)) rfl hP (fun wS hS=>by subst hS;go_simp) hH ?_
   simp only [Act.put,zA,zB,zC]
   refine tkl (i:=4) (oi:=⟨some 89,.load 2 (.tmp 88),_,_,_,some (2,true)⟩) (v:=.int .i64 imm) rfl hP (fun wS hS=>by subst hS;go_simp) hH ?_
   simp only [Act.put,zA,zB,zC]
   refine tkl (i:=5) (oi:=⟨some 90,.binOp .lss 2 (.tmp 89) (.const (.int .i64 1)) 2,_,_,_,some (2,true)⟩) (v:=.bool false) rfl hP (fun wS hS=>by subst hS;go_simp) hH ?_
   simp only [Act.put,zA,zB,zC]
   refine tkl (i:=6) (oi:=⟨some 91,.move (.tmp 90),_,_,_,some (2,true)⟩) (v:=.bool false) rfl hP (fun wS hS=>by rfl) hH ?_
   simp only [Act.put,zA,zB,zC]
   refine tkl (i:=7) (oi:=⟨some 92,.fieldAddr 92 (.tmp 1) 5,_,_,_,some (6,false)⟩) (v:=.pointer (some ⟨kx,5,none⟩)) rfl hP (fun wS hS=>by subst hS;go_simp) hH ?_
   simp only [Act.put,zA,zB,zC]
   refine tkl (i:=8) (oi:=⟨some 93,.load 2 (.tmp 92),_,_,_,some (6,false)⟩) (v:=.int .i64 imm) rfl hP (fun wS hS=>by subst hS;go_simp) hH ?_
   simp only [Act.put,zA,zB,zC]
   refine tkl (i:=9) (oi:=⟨some 94,.binOp .gtr 2 (.tmp 93) (.const (.int .i64 3)) 2,_,_,_,some (6,false)⟩) (v:=.bool true) rfl hP (fun wS hS=>by subst hS;go_simp) hH ?_
   simp only [Act.put,zA,zB,zC]
   refine tkl (i:=10) (oi:=⟨some 95,.pick (.tmp 91) (.const (.bool true)) (.tmp 94),_,_,_,some (2,true)⟩) (v:=.bool true) rfl hP (fun wS hS=>by rfl) hH ?_
   simp only [Act.put,zA,zB,zC]
   refine tkl (i:=11) (oi:=⟨some 96,.pick (.tmp 87) (.tmp 95) (.const (.bool false)),_,_,_,none⟩) (v:=.bool true) rfl hP (fun wS hS=>by rfl) hH ?_
   simp only [Act.put,zA,zB,zC]
   refine tkl (i:=12) (oi:=⟨some 97,.move (.tmp 96),_,_,_,none⟩) (v:=.bool true) rfl hP (fun wS hS=>by rfl) hH ?_
   simp only [Act.put,zA,zB,zC]
   refine tkr (i:=13) (oi:=⟨some 98,.move (.tmp 3),_,_,_,some (12,false)⟩) rfl hP hH ?_
   simp only [Act.put,zA,zB,zC]
   refine tkr (i:=14) (oi:=⟨some 99,.binOp .eql 3 (.tmp 98) (.const (.int .i64 11)) 3,_,_,_,some (12,false)⟩) rfl hP hH ?_
   simp only [Act.put,zA,zB,zC]
   refine tkr (i:=15) (oi:=⟨some 100,.move (.tmp 99),_,_,_,some (12,false)⟩) rfl hP hH ?_
   simp only [Act.put,zA,zB,zC]
   refine tkr (i:=16) (oi:=⟨some 101,.fieldAddr 92 (.tmp 1) 5,_,_,_,some (15,true)⟩) rfl hP hH ?_
   simp only [Act.put,zA,zB,zC]
   refine tkr (i:=17) (oi:=⟨some 102,.load 2 (.tmp 101),_,_,_,some (15,true)⟩) rfl hP hH ?_
   simp only [Act.put,zA,zB,zC]
   refine tkr (i:=18) (oi:=⟨some 103,.binOp .lss 2 (.tmp 102) (.const (.int .i64 0)) 2,_,_,_,some (15,true)⟩) rfl hP hH ?_
   simp only [Act.put,zA,zB,zC]
   refine tkr (i:=19) (oi:=⟨some 104,.move (.tmp 103),_,_,_,some (15,true)⟩) rfl hP hH ?_
   simp only [Act.put,zA,zB,zC]
   refine tkr (i:=20) (oi:=⟨some 105,.fieldAddr 92 (.tmp 1) 5,_,_,_,some (19,false)⟩) rfl hP hH ?_
   simp only [Act.put,zA,zB,zC]
   refine tkr (i:=21) (oi:=⟨some 106,.load 2 (.tmp 105),_,_,_,some (19,false)⟩) rfl hP hH ?_
   simp only [Act.put,zA,zB,zC]
   refine tkr (i:=22) (oi:=⟨some 107,.binOp .gtr 2 (.tmp 106) (.const (.int .i64 254)) 2,_,_,_,some (19,false)⟩) rfl hP hH ?_
   simp only [Act.put,zA,zB,zC]
   refine tkr (i:=23) (oi:=⟨some 108,.pick (.tmp 104) (.const (.bool true)) (.tmp 107),_,_,_,some (15,true)⟩) rfl hP hH ?_
   simp only [Act.put,zA,zB,zC]
   refine tkr (i:=24) (oi:=⟨some 109,.pick (.tmp 100) (.tmp 108) (.const (.bool false)),_,_,_,some (12,false)⟩) rfl hP hH ?_
   simp only [Act.put,zA,zB,zC]
   refine tkl (i:=25) (oi:=⟨some 110,.pick (.tmp 97) (.const (.bool true)) (.tmp 109),_,_,_,none⟩) (v:=.bool true) rfl hP (fun wS hS=>by rfl) hH ?_
   simp only [Act.put,zA,zB,zC]
   refine tkl (i:=26) (oi:=⟨some 111,.move (.tmp 110),_,_,_,none⟩) (v:=.bool true) rfl hP (fun wS hS=>by rfl) hH ?_
   simp only [Act.put,zA,zB,zC]
   refine tkr (i:=27) (oi:=⟨some 112,.move (.tmp 3),_,_,_,some (26,false)⟩) rfl hP hH ?_
   simp only [Act.put,zA,zB,zC]
   refine tkr (i:=28) (oi:=⟨some 113,.binOp .neq 3 (.tmp 112) (.const (.int .i64 10)) 3,_,_,_,some (26,false)⟩) rfl hP hH ?_
   simp only [Act.put,zA,zB,zC]
   refine tkr (i:=29) (oi:=⟨some 114,.move (.tmp 113),_,_,_,some (26,false)⟩) rfl hP hH ?_
   simp only [Act.put,zA,zB,zC]
   refine tkr (i:=30) (oi:=⟨some 115,.fieldAddr 92 (.tmp 1) 5,_,_,_,some (29,true)⟩) rfl hP hH ?_
   simp only [Act.put,zA,zB,zC]
   refine tkr (i:=31) (oi:=⟨some 116,.load 2 (.tmp 115),_,_,_,some (29,true)⟩) rfl hP hH ?_
   simp only [Act.put,zA,zB,zC]
   refine tkr (i:=32) (oi:=⟨some 117,.convert 2 81 (.tmp 116),_,_,_,some (29,true)⟩) rfl hP hH ?_
   simp only [Act.put,zA,zB,zC]
   refine tkr (i:=34) (oi:=⟨some 119,.fieldAddr 92 (.tmp 1) 5,_,_,_,some (29,true)⟩) rfl hP hH ?_
   simp only [Act.put,zA,zB,zC]
   refine tkr (i:=35) (oi:=⟨some 120,.load 2 (.tmp 119),_,_,_,some (29,true)⟩) rfl hP hH ?_
   simp only [Act.put,zA,zB,zC]
   refine tkr (i:=33) (oi:=⟨some 118,.call { callee:=.value (.func 163),args:=#[.tmp 117,.const (.int .i64 32)],argTypes:=#[81,3] },_,_,_,some (29,true)⟩) rfl hP hH ?_
   simp only [Act.put,zA,zB,zC]
   refine tkr (i:=36) (oi:=⟨some 121,.binOp .neq 2 (.tmp 118) (.tmp 120) 2,_,_,_,some (29,true)⟩) rfl hP hH ?_
   simp only [Act.put,zA,zB,zC]
   refine tkr (i:=37) (oi:=⟨some 122,.pick (.tmp 114) (.tmp 121) (.const (.bool false)),_,_,_,some (26,false)⟩) rfl hP hH ?_
   simp only [Act.put,zA,zB,zC]
   refine tkl (i:=38) (oi:=⟨some 123,.pick (.tmp 111) (.const (.bool true)) (.tmp 122),_,_,_,none⟩) (v:=.bool true) rfl hP (fun wS hS=>by rfl) hH ?_
   simp only [Act.put,zA,zB,zC]
   refine wpAnyH_done (by kernel_rfl) ?_ _
   exact hQ.out
 ·skip
  obtain rfl:x=true:=by rw [← HX.out,i1];rfl
  clear HX
  refine wp_region_held_drew (S:=fun w'=>w'=w.drew) (by kernel_rfl) rfl (fun hH=>?_)
  refine tkl (i:=0) (oi:=⟨some 85,.move (.tmp 3),_,_,_,none⟩) (v:=.int .i64 5) rfl hP (fun wS hS=>by rfl) hH ?_
  simp only [Act.put,zA,zB,zC]
  refine tkl (i:=1) (oi:=⟨some 86,.binOp .eql 3 (.tmp 85) (.const (.int .i64 5)) 3,_,_,_,none⟩) (v:=.bool true) rfl hP (fun wS hS=>by subst hS;go_simp) hH ?_
  simp only [Act.put,zA,zB,zC]
  refine tkl (i:=2) (oi:=⟨some 87,.move (.tmp 86),_,_,_,none⟩) (v:=.bool true) rfl hP (fun wS hS=>by rfl) hH ?_
  simp only [Act.put,zA,zB,zC]
  refine tkl (i:=3) (oi:=⟨some 88,.fieldAddr 92 (.tmp 1) 5,_,_,_,some (2,true)⟩) (v:=.pointer (some ⟨kx,5,none⟩)) rfl hP (fun wS hS=>by subst hS;go_simp) hH ?_
  simp only [Act.put,zA,zB,zC]
  refine tkl (i:=4) (oi:=⟨some 89,.load 2 (.tmp 88),_,_,_,some (2,true)⟩) (v:=.int .i64 imm) rfl hP (fun wS hS=>by subst hS;go_simp) hH ?_
  simp only [Act.put,zA,zB,zC]
  refine tkl (i:=5) (oi:=⟨some 90,.binOp .lss 2 (.tmp 89) (.const (.int .i64 1)) 2,_,_,_,some (2,true)⟩) (v:=.bool true) rfl hP (fun wS hS=>by subst hS;go_simp) hH ?_
  simp only [Act.put,zA,zB,zC]
  refine tkl (i:=6) (oi:=⟨some 91,.move (.tmp 90),_,_,_,some (2,true)⟩) (v:=.bool true) rfl hP (fun wS hS=>by rfl) hH ?_
  simp only [Act.put,zA,zB,zC]
  refine tkr (i:=7) (oi:=⟨some 92,.fieldAddr 92 (.tmp 1) 5,_,_,_,some (6,false)⟩) rfl hP hH ?_
  simp only [Act.put,zA,zB,zC]
  refine tkr (i:=8) (oi:=⟨some 93,.load 2 (.tmp 92),_,_,_,some (6,false)⟩) rfl hP hH ?_
  simp only [Act.put,zA,zB,zC]
  refine tkr (i:=9) (oi:=⟨some 94,.binOp .gtr 2 (.tmp 93) (.const (.int .i64 3)) 2,_,_,_,some (6,false)⟩) rfl hP hH ?_
  simp only [Act.put,zA,zB,zC]
  refine tkl (i:=10) (oi:=⟨some 95,.pick (.tmp 91) (.const (.bool true)) (.tmp 94),_,_,_,some (2,true)⟩) (v:=.bool true) rfl hP (fun wS hS=>by rfl) hH ?_
  simp only [Act.put,zA,zB,zC]
  refine tkl (i:=11) (oi:=⟨some 96,.pick (.tmp 87) (.tmp 95) (.const (.bool false)),_,_,_,none⟩) (v:=.bool true) rfl hP (fun wS hS=>by rfl) hH ?_
  simp only [Act.put,zA,zB,zC]
  refine tkl (i:=12) (oi:=⟨some 97,.move (.tmp 96),_,_,_,none⟩) (v:=.bool true) rfl hP (fun wS hS=>by rfl) hH ?_
  simp only [Act.put,zA,zB,zC]
  refine tkr (i:=13) (oi:=⟨some 98,.move (.tmp 3),_,_,_,some (12,false)⟩) rfl hP hH ?_
  simp only [Act.put,zA,zB,zC]
  refine tkr (i:=14) (oi:=⟨some 99,.binOp .eql 3 (.tmp 98) (.const (.int .i64 11)) 3,_,_,_,some (12,false)⟩) rfl hP hH ?_
  simp only [Act.put,zA,zB,zC]
  refine tkr (i:=15) (oi:=⟨some 100,.move (.tmp 99),_,_,_,some (12,false)⟩) rfl hP hH ?_
  simp only [Act.put,zA,zB,zC]
  refine tkr (i:=16) (oi:=⟨some 101,.fieldAddr 92 (.tmp 1) 5,_,_,_,some (15,true)⟩) rfl hP hH ?_
  simp only [Act.put,zA,zB,zC]
  refine tkr (i:=17) (oi:=⟨some 102,.load 2 (.tmp 101),_,_,_,some (15,true)⟩) rfl hP hH ?_
  simp only [Act.put,zA,zB,zC]
  refine tkr (i:=18) (oi:=⟨some 103,.binOp .lss 2 (.tmp 102) (.const (.int .i64 0)) 2,_,_,_,some (15,true)⟩) rfl hP hH ?_
  simp only [Act.put,zA,zB,zC]
  refine tkr (i:=19) (oi:=⟨some 104,.move (.tmp 103),_,_,_,some (15,true)⟩) rfl hP hH ?_
  simp only [Act.put,zA,zB,zC]
  refine tkr (i:=20) (oi:=⟨some 105,.fieldAddr 92 (.tmp 1) 5,_,_,_,some (19,false)⟩) rfl hP hH ?_
  simp only [Act.put,zA,zB,zC]
  refine tkr (i:=21) (oi:=⟨some 106,.load 2 (.tmp 105),_,_,_,some (19,false)⟩) rfl hP hH ?_
  simp only [Act.put,zA,zB,zC]
  refine tkr (i:=22) (oi:=⟨some 107,.binOp .gtr 2 (.tmp 106) (.const (.int .i64 254)) 2,_,_,_,some (19,false)⟩) rfl hP hH ?_
  simp only [Act.put,zA,zB,zC]
  refine tkr (i:=23) (oi:=⟨some 108,.pick (.tmp 104) (.const (.bool true)) (.tmp 107),_,_,_,some (15,true)⟩) rfl hP hH ?_
  simp only [Act.put,zA,zB,zC]
  refine tkr (i:=24) (oi:=⟨some 109,.pick (.tmp 100) (.tmp 108) (.const (.bool false)),_,_,_,some (12,false)⟩) rfl hP hH ?_
  simp only [Act.put,zA,zB,zC]
  refine tkl (i:=25) (oi:=⟨some 110,.pick (.tmp 97) (.const (.bool true)) (.tmp 109),_,_,_,none⟩) (v:=.bool true) rfl hP (fun wS hS=>by rfl) hH ?_
  simp only [Act.put,zA,zB,zC]
  refine tkl (i:=26) (oi:=⟨some 111,.move (.tmp 110),_,_,_,none⟩) (v:=.bool true) rfl hP (fun wS hS=>by rfl) hH ?_
  simp only [Act.put,zA,zB,zC]
  refine tkr (i:=27) (oi:=⟨some 112,.move (.tmp 3),_,_,_,some (26,false)⟩) rfl hP hH ?_
  simp only [Act.put,zA,zB,zC]
  refine tkr (i:=28) (oi:=⟨some 113,.binOp .neq 3 (.tmp 112) (.const (.int .i64 10)) 3,_,_,_,some (26,false)⟩) rfl hP hH ?_
  simp only [Act.put,zA,zB,zC]
  refine tkr (i:=29) (oi:=⟨some 114,.move (.tmp 113),_,_,_,some (26,false)⟩) rfl hP hH ?_
  simp only [Act.put,zA,zB,zC]
  refine tkr (i:=30) (oi:=⟨some 115,.fieldAddr 92 (.tmp 1) 5,_,_,_,some (29,true)⟩) rfl hP hH ?_
  simp only [Act.put,zA,zB,zC]
  refine tkr (i:=31) (oi:=⟨some 116,.load 2 (.tmp 115),_,_,_,some (29,true)⟩) rfl hP hH ?_
  simp only [Act.put,zA,zB,zC]
  refine tkr (i:=32) (oi:=⟨some 117,.convert 2 81 (.tmp 116),_,_,_,some (29,true)⟩) rfl hP hH ?_
  simp only [Act.put,zA,zB,zC]
  refine tkr (i:=34) (oi:=⟨some 119,.fieldAddr 92 (.tmp 1) 5,_,_,_,some (29,true)⟩) rfl hP hH ?_
  simp only [Act.put,zA,zB,zC]
  refine tkr (i:=35) (oi:=⟨some 120,.load 2 (.tmp 119),_,_,_,some (29,true)⟩) rfl hP hH ?_
  simp only [Act.put,zA,zB,zC]
  refine tkr (i:=33) (oi:=⟨some 118,.call { callee:=.value (.func 163),args:=#[.tmp 117,.const (.int .i64 32)],argTypes:=#[81,3] },_,_,_,some (29,true)⟩) rfl hP hH ?_
  simp only [Act.put,zA,zB,zC]
  refine tkr (i:=36) (oi:=⟨some 121,.binOp .neq 2 (.tmp 118) (.tmp 120) 2,_,_,_,some (29,true)⟩) rfl hP hH ?_
  simp only [Act.put,zA,zB,zC]
  refine tkr (i:=37) (oi:=⟨some 122,.pick (.tmp 114) (.tmp 121) (.const (.bool false)),_,_,_,some (26,false)⟩) rfl hP hH ?_
  simp only [Act.put,zA,zB,zC]
  refine tkl (i:=38) (oi:=⟨some 123,.pick (.tmp 111) (.const (.bool true)) (.tmp 122),_,_,_,none⟩) (v:=.bool true) rfl hP (fun wS hS=>by rfl) hH ?_
  simp only [Act.put,zA,zB,zC]
  refine wpAnyH_done (by kernel_rfl) ?_ _
  exact hQ.out
theorem r10_oth (e5:(f==5)=false) (e11:(f==11)=false) (e10:(f==10)=false) {x:Bool} (hX:rX f imm=x) (x5:w.cell? ⟨kx,5,none⟩=some (.int .i64 imm)) {u0 u2 u4 u5 u6 u7 u8 u9 u10 u11 u12 u13 u14 u15 u16 u17 u18 u19 u20 u21 u22 u23 u24 u25 u26 u27 u28 u29 u30 u31 u32 u33 u34 u35 u36 u37 u38 u39 u40 u41 u42 u43 u44 u45 u46 u47 u48 u49 u50 u51 u52 u53 u54 u55 u56 u57 u58 u59 u60 u61 u62 u63 u64 u65 u66 u67 u68 u69 u70 u71 u72 u73 u74 u75 u76 u77 u78 u79 u80 u81 u82 u83 u84 u85 u86 u87 u88 u89 u90 u91 u92 u93 u94 u95 u96 u97 u98 u99 u100 u101 u102 u103 u104 u105 u106 u107 u108 u109 u110 u111 u112 u113 u114 u115 u116 u117 u118 u119 u120 u121 u122 u123:Value}
  (hP:∀ c a d v w,Q (.panic c) (Act.put a d v) w→Q (.panic c) a w) (hQ:Hid (∀ {u0 u2 u4 u5 u6 u7 u8 u9 u10 u11 u12 u13 u14 u15 u16 u17 u18 u19 u20 u21 u22 u23 u24 u25 u26 u27 u28 u29 u30 u31 u32 u33 u34 u35 u36 u37 u38 u39 u40 u41 u42 u43 u44 u45 u46 u47 u48 u49 u50 u51 u52 u53 u54 u55 u56 u57 u58 u59 u60 u61 u62 u63 u64 u65 u66 u67 u68 u69 u70 u71 u72 u73 u74 u75 u76 u77 u78 u79 u80 u81 u82 u83 u84 u85 u86 u87 u88 u89 u90 u91 u92 u93 u94 u95 u96 u97 u98 u99 u100 u101 u102 u103 u104 u105 u106 u107 u108 u109 u110 u111 u112 u113 u114 u115 u116 u117 u118 u119 u120 u121 u122:Value},Q .normal ⟨#[u0,.pointer (some ⟨kx,0,none⟩),u2,.int .i64 f,u4,u5,u6,u7,u8,u9,u10,u11,u12,u13,u14,u15,u16,u17,u18,u19,u20,u21,u22,u23,u24,u25,u26,u27,u28,u29,u30,u31,u32,u33,u34,u35,u36,u37,u38,u39,u40,u41,u42,u43,u44,u45,u46,u47,u48,u49,u50,u51,u52,u53,u54,u55,u56,u57,u58,u59,u60,u61,u62,u63,u64,u65,u66,u67,u68,u69,u70,u71,u72,u73,u74,u75,u76,u77,u78,u79,u80,u81,u82,u83,u84,u85,u86,u87,u88,u89,u90,u91,u92,u93,u94,u95,u96,u97,u98,u99,u100,u101,u102,u103,u104,u105,u106,u107,u108,u109,u110,u111,u112,u113,u114,u115,u116,u117,u118,u119,u120,u121,u122,.bool x],[]⟩ w.drew)) :
  Code.wp Tryz.prog (Code.region 10 Rten1 true) Q ⟨#[u0,.pointer (some ⟨kx,0,none⟩),u2,.int .i64 f,u4,u5,u6,u7,u8,u9,u10,u11,u12,u13,u14,u15,u16,u17,u18,u19,u20,u21,u22,u23,u24,u25,u26,u27,u28,u29,u30,u31,u32,u33,u34,u35,u36,u37,u38,u39,u40,u41,u42,u43,u44,u45,u46,u47,u48,u49,u50,u51,u52,u53,u54,u55,u56,u57,u58,u59,u60,u61,u62,u63,u64,u65,u66,u67,u68,u69,u70,u71,u72,u73,u74,u75,u76,u77,u78,u79,u80,u81,u82,u83,u84,u85,u86,u87,u88,u89,u90,u91,u92,u93,u94,u95,u96,u97,u98,u99,u100,u101,u102,u103,u104,u105,u106,u107,u108,u109,u110,u111,u112,u113,u114,u115,u116,u117,u118,u119,u120,u121,u122,u123],[]⟩ w:=by
 delta Rten1
 have HX:=Lib.hid hX
 unfold rX at HX
 clear hX
 have n10:(f != 10)=true:=by rw [bne,e10];rfl
 cases se:(sx 32 imm==imm)
 ·have sn:(sx 32 imm != imm)=true:=by rw [bne,se];rfl
  obtain rfl:x=true:=by rw [← HX.out,e5,e11,n10,sn];rfl
  clear HX
  refine wp_region_held_drew (S:=fun w'=>w'=w.drew) (by kernel_rfl) rfl (fun hH=>?_)
  refine tkl (i:=0) (oi:=⟨some 85,.move (.tmp 3),_,_,_,none⟩) (v:=.int .i64 f) rfl hP (fun wS hS=>by rfl) hH ?_
  simp only [Act.put,zA,zB,zC]
  refine tkl (i:=1) (oi:=⟨some 86,.binOp .eql 3 (.tmp 85) (.const (.int .i64 5)) 3,_,_,_,none⟩) (v:=.bool false) rfl hP (fun wS hS=>by subst hS;go_simp) hH ?_
  simp only [Act.put,zA,zB,zC]
  refine tkl (i:=2) (oi:=⟨some 87,.move (.tmp 86),_,_,_,none⟩) (v:=.bool false) rfl hP (fun wS hS=>by rfl) hH ?_
  simp only [Act.put,zA,zB,zC]
  refine tkr (i:=3) (oi:=⟨some 88,.fieldAddr 92 (.tmp 1) 5,_,_,_,some (2,true)⟩) rfl hP hH ?_
  simp only [Act.put,zA,zB,zC]
  refine tkr (i:=4) (oi:=⟨some 89,.load 2 (.tmp 88),_,_,_,some (2,true)⟩) rfl hP hH ?_
  simp only [Act.put,zA,zB,zC]
  refine tkr (i:=5) (oi:=⟨some 90,.binOp .lss 2 (.tmp 89) (.const (.int .i64 1)) 2,_,_,_,some (2,true)⟩) rfl hP hH ?_
  simp only [Act.put,zA,zB,zC]
  refine tkr (i:=6) (oi:=⟨some 91,.move (.tmp 90),_,_,_,some (2,true)⟩) rfl hP hH ?_
  simp only [Act.put,zA,zB,zC]
  refine tkr (i:=7) (oi:=⟨some 92,.fieldAddr 92 (.tmp 1) 5,_,_,_,some (6,false)⟩) rfl hP hH ?_
  simp only [Act.put,zA,zB,zC]
  refine tkr (i:=8) (oi:=⟨some 93,.load 2 (.tmp 92),_,_,_,some (6,false)⟩) rfl hP hH ?_
  simp only [Act.put,zA,zB,zC]
  refine tkr (i:=9) (oi:=⟨some 94,.binOp .gtr 2 (.tmp 93) (.const (.int .i64 3)) 2,_,_,_,some (6,false)⟩) rfl hP hH ?_
  simp only [Act.put,zA,zB,zC]
  refine tkr (i:=10) (oi:=⟨some 95,.pick (.tmp 91) (.const (.bool true)) (.tmp 94),_,_,_,some (2,true)⟩) rfl hP hH ?_
  simp only [Act.put,zA,zB,zC]
  refine tkl (i:=11) (oi:=⟨some 96,.pick (.tmp 87) (.tmp 95) (.const (.bool false)),_,_,_,none⟩) (v:=.bool false) rfl hP (fun wS hS=>by rfl) hH ?_
  simp only [Act.put,zA,zB,zC]
  refine tkl (i:=12) (oi:=⟨some 97,.move (.tmp 96),_,_,_,none⟩) (v:=.bool false) rfl hP (fun wS hS=>by rfl) hH ?_
  simp only [Act.put,zA,zB,zC]
  refine tkl (i:=13) (oi:=⟨some 98,.move (.tmp 3),_,_,_,some (12,false)⟩) (v:=.int .i64 f) rfl hP (fun wS hS=>by rfl) hH ?_
  simp only [Act.put,zA,zB,zC]
  refine tkl (i:=14) (oi:=⟨some 99,.binOp .eql 3 (.tmp 98) (.const (.int .i64 11)) 3,_,_,_,some (12,false)⟩) (v:=.bool false) rfl hP (fun wS hS=>by subst hS;go_simp) hH ?_
  simp only [Act.put,zA,zB,zC]
  refine tkl (i:=15) (oi:=⟨some 100,.move (.tmp 99),_,_,_,some (12,false)⟩) (v:=.bool false) rfl hP (fun wS hS=>by rfl) hH ?_
  simp only [Act.put,zA,zB,zC]
  refine tkr (i:=16) (oi:=⟨some 101,.fieldAddr 92 (.tmp 1) 5,_,_,_,some (15,true)⟩) rfl hP hH ?_
  simp only [Act.put,zA,zB,zC]
  refine tkr (i:=17) (oi:=⟨some 102,.load 2 (.tmp 101),_,_,_,some (15,true)⟩) rfl hP hH ?_
  simp only [Act.put,zA,zB,zC]
  refine tkr (i:=18) (oi:=⟨some 103,.binOp .lss 2 (.tmp 102) (.const (.int .i64 0)) 2,_,_,_,some (15,true)⟩) rfl hP hH ?_
  simp only [Act.put,zA,zB,zC]
  refine tkr (i:=19) (oi:=⟨some 104,.move (.tmp 103),_,_,_,some (15,true)⟩) rfl hP hH ?_
  simp only [Act.put,zA,zB,zC]
  refine tkr (i:=20) (oi:=⟨some 105,.fieldAddr 92 (.tmp 1) 5,_,_,_,some (19,false)⟩) rfl hP hH ?_
  simp only [Act.put,zA,zB,zC]
  refine tkr (i:=21) (oi:=⟨some 106,.load 2 (.tmp 105),_,_,_,some (19,false)⟩) rfl hP hH ?_
  simp only [Act.put,zA,zB,zC]
  refine tkr (i:=22) (oi:=⟨some 107,.binOp .gtr 2 (.tmp 106) (.const (.int .i64 254)) 2,_,_,_,some (19,false)⟩) rfl hP hH ?_
  simp only [Act.put,zA,zB,zC]
  refine tkr (i:=23) (oi:=⟨some 108,.pick (.tmp 104) (.const (.bool true)) (.tmp 107),_,_,_,some (15,true)⟩) rfl hP hH ?_
  simp only [Act.put,zA,zB,zC]
  refine tkl (i:=24) (oi:=⟨some 109,.pick (.tmp 100) (.tmp 108) (.const (.bool false)),_,_,_,some (12,false)⟩) (v:=.bool false) rfl hP (fun wS hS=>by rfl) hH ?_
  simp only [Act.put,zA,zB,zC]
  refine tkl (i:=25) (oi:=⟨some 110,.pick (.tmp 97) (.const (.bool true)) (.tmp 109),_,_,_,none⟩) (v:=.bool false) rfl hP (fun wS hS=>by rfl) hH ?_
  simp only [Act.put,zA,zB,zC]
  refine tkl (i:=26) (oi:=⟨some 111,.move (.tmp 110),_,_,_,none⟩) (v:=.bool false) rfl hP (fun wS hS=>by rfl) hH ?_
  simp only [Act.put,zA,zB,zC]
  refine tkl (i:=27) (oi:=⟨some 112,.move (.tmp 3),_,_,_,some (26,false)⟩) (v:=.int .i64 f) rfl hP (fun wS hS=>by rfl) hH ?_
  simp only [Act.put,zA,zB,zC]
  refine tkl (i:=28) (oi:=⟨some 113,.binOp .neq 3 (.tmp 112) (.const (.int .i64 10)) 3,_,_,_,some (26,false)⟩) (v:=.bool true) rfl hP (fun wS hS=>by subst hS;go_simp) hH ?_
  simp only [Act.put,zA,zB,zC]
  refine tkl (i:=29) (oi:=⟨some 114,.move (.tmp 113),_,_,_,some (26,false)⟩) (v:=.bool true) rfl hP (fun wS hS=>by rfl) hH ?_
  simp only [Act.put,zA,zB,zC]
  refine tkl (i:=30) (oi:=⟨some 115,.fieldAddr 92 (.tmp 1) 5,_,_,_,some (29,true)⟩) (v:=.pointer (some ⟨kx,5,none⟩)) rfl hP (fun wS hS=>by subst hS;go_simp) hH ?_
  simp only [Act.put,zA,zB,zC]
  refine tkl (i:=31) (oi:=⟨some 116,.load 2 (.tmp 115),_,_,_,some (29,true)⟩) (v:=.int .i64 imm) rfl hP (fun wS hS=>by subst hS;go_simp) hH ?_
  simp only [Act.put,zA,zB,zC]
  refine tkl (i:=32) (oi:=⟨some 117,.convert 2 81 (.tmp 116),_,_,_,some (29,true)⟩) (v:=.int .u64 (IntKind.u64.wrap imm)) rfl hP (fun wS hS=>by first|rfl|(subst hS;go_simp)) hH ?_
  simp only [Act.put,zA,zB,zC]
  refine tkl (i:=34) (oi:=⟨some 119,.fieldAddr 92 (.tmp 1) 5,_,_,_,some (29,true)⟩) (v:=.pointer (some ⟨kx,5,none⟩)) rfl hP (fun wS hS=>by subst hS;go_simp) hH ?_
  simp only [Act.put,zA,zB,zC]
  refine tkl (i:=35) (oi:=⟨some 120,.load 2 (.tmp 119),_,_,_,some (29,true)⟩) (v:=.int .i64 imm) rfl hP (fun wS hS=>by subst hS;go_simp) hH ?_
  simp only [Act.put,zA,zB,zC]
  refine wpAnyH_ready (rs:=[33]) (by kernel_rfl) (by simp) ?_
  refine AllReadyH.cons (o:=⟨some 118,.call { callee:=.value (.func 163),args:=#[.tmp 117,.const (.int .i64 32)],argTypes:=#[81,3] },_,_,_,some (29,true)⟩) rfl (fun K hK=>?_) AllReadyH.nil
  go_simp
  with_reducible refine (extend_is imm _ _ rfl).mono ?_
  rintro e w1 ⟨rfl,rfl⟩
  refine hK.out _ _ rfl (fun hH2=>?_)
  clear hK K hH
  refine tkl (i:=36) (oi:=⟨some 121,.binOp .neq 2 (.tmp 118) (.tmp 120) 2,_,_,_,some (29,true)⟩) (v:=.bool true) rfl hP (fun wS hS=>by subst hS;go_simp) hH2 ?_
  simp only [Act.put,zA,zB,zC]
  refine tkl (i:=37) (oi:=⟨some 122,.pick (.tmp 114) (.tmp 121) (.const (.bool false)),_,_,_,some (26,false)⟩) (v:=.bool true) rfl hP (fun wS hS=>by rfl) hH2 ?_
  simp only [Act.put,zA,zB,zC]
  refine tkl (i:=38) (oi:=⟨some 123,.pick (.tmp 111) (.const (.bool true)) (.tmp 122),_,_,_,none⟩) (v:=.bool true) rfl hP (fun wS hS=>by rfl) hH2 ?_
  simp only [Act.put,zA,zB,zC]
  refine wpAnyH_done (by kernel_rfl) ?_ _
  exact hQ.out
 ·have sn:(sx 32 imm != imm)=false:=by rw [bne,se];rfl
  obtain rfl:x=false:=by rw [← HX.out,e5,e11,n10,sn];rfl
  clear HX
  refine wp_region_held_drew (S:=fun w'=>w'=w.drew) (by kernel_rfl) rfl (fun hH=>?_)
  refine tkl (i:=0) (oi:=⟨some 85,.move (.tmp 3),_,_,_,none⟩) (v:=.int .i64 f) rfl hP (fun wS hS=>by rfl) hH ?_
  simp only [Act.put,zA,zB,zC]
  refine tkl (i:=1) (oi:=⟨some 86,.binOp .eql 3 (.tmp 85) (.const (.int .i64 5)) 3,_,_,_,none⟩) (v:=.bool false) rfl hP (fun wS hS=>by subst hS;go_simp) hH ?_
  simp only [Act.put,zA,zB,zC]
  refine tkl (i:=2) (oi:=⟨some 87,.move (.tmp 86),_,_,_,none⟩) (v:=.bool false) rfl hP (fun wS hS=>by rfl) hH ?_
  simp only [Act.put,zA,zB,zC]
  refine tkr (i:=3) (oi:=⟨some 88,.fieldAddr 92 (.tmp 1) 5,_,_,_,some (2,true)⟩) rfl hP hH ?_
  simp only [Act.put,zA,zB,zC]
  refine tkr (i:=4) (oi:=⟨some 89,.load 2 (.tmp 88),_,_,_,some (2,true)⟩) rfl hP hH ?_
  simp only [Act.put,zA,zB,zC]
  refine tkr (i:=5) (oi:=⟨some 90,.binOp .lss 2 (.tmp 89) (.const (.int .i64 1)) 2,_,_,_,some (2,true)⟩) rfl hP hH ?_
  simp only [Act.put,zA,zB,zC]
  refine tkr (i:=6) (oi:=⟨some 91,.move (.tmp 90),_,_,_,some (2,true)⟩) rfl hP hH ?_
  simp only [Act.put,zA,zB,zC]
  refine tkr (i:=7) (oi:=⟨some 92,.fieldAddr 92 (.tmp 1) 5,_,_,_,some (6,false)⟩) rfl hP hH ?_
  simp only [Act.put,zA,zB,zC]
  refine tkr (i:=8) (oi:=⟨some 93,.load 2 (.tmp 92),_,_,_,some (6,false)⟩) rfl hP hH ?_
  simp only [Act.put,zA,zB,zC]
  refine tkr (i:=9) (oi:=⟨some 94,.binOp .gtr 2 (.tmp 93) (.const (.int .i64 3)) 2,_,_,_,some (6,false)⟩) rfl hP hH ?_
  simp only [Act.put,zA,zB,zC]
  refine tkr (i:=10) (oi:=⟨some 95,.pick (.tmp 91) (.const (.bool true)) (.tmp 94),_,_,_,some (2,true)⟩) rfl hP hH ?_
  simp only [Act.put,zA,zB,zC]
  refine tkl (i:=11) (oi:=⟨some 96,.pick (.tmp 87) (.tmp 95) (.const (.bool false)),_,_,_,none⟩) (v:=.bool false) rfl hP (fun wS hS=>by rfl) hH ?_
  simp only [Act.put,zA,zB,zC]
  refine tkl (i:=12) (oi:=⟨some 97,.move (.tmp 96),_,_,_,none⟩) (v:=.bool false) rfl hP (fun wS hS=>by rfl) hH ?_
  simp only [Act.put,zA,zB,zC]
  refine tkl (i:=13) (oi:=⟨some 98,.move (.tmp 3),_,_,_,some (12,false)⟩) (v:=.int .i64 f) rfl hP (fun wS hS=>by rfl) hH ?_
  simp only [Act.put,zA,zB,zC]
  refine tkl (i:=14) (oi:=⟨some 99,.binOp .eql 3 (.tmp 98) (.const (.int .i64 11)) 3,_,_,_,some (12,false)⟩) (v:=.bool false) rfl hP (fun wS hS=>by subst hS;go_simp) hH ?_
  simp only [Act.put,zA,zB,zC]
  refine tkl (i:=15) (oi:=⟨some 100,.move (.tmp 99),_,_,_,some (12,false)⟩) (v:=.bool false) rfl hP (fun wS hS=>by rfl) hH ?_
  simp only [Act.put,zA,zB,zC]
  refine tkr (i:=16) (oi:=⟨some 101,.fieldAddr 92 (.tmp 1) 5,_,_,_,some (15,true)⟩) rfl hP hH ?_
  simp only [Act.put,zA,zB,zC]
  refine tkr (i:=17) (oi:=⟨some 102,.load 2 (.tmp 101),_,_,_,some (15,true)⟩) rfl hP hH ?_
  simp only [Act.put,zA,zB,zC]
  refine tkr (i:=18) (oi:=⟨some 103,.binOp .lss 2 (.tmp 102) (.const (.int .i64 0)) 2,_,_,_,some (15,true)⟩) rfl hP hH ?_
  simp only [Act.put,zA,zB,zC]
  refine tkr (i:=19) (oi:=⟨some 104,.move (.tmp 103),_,_,_,some (15,true)⟩) rfl hP hH ?_
  simp only [Act.put,zA,zB,zC]
  refine tkr (i:=20) (oi:=⟨some 105,.fieldAddr 92 (.tmp 1) 5,_,_,_,some (19,false)⟩) rfl hP hH ?_
  simp only [Act.put,zA,zB,zC]
  refine tkr (i:=21) (oi:=⟨some 106,.load 2 (.tmp 105),_,_,_,some (19,false)⟩) rfl hP hH ?_
  simp only [Act.put,zA,zB,zC]
  refine tkr (i:=22) (oi:=⟨some 107,.binOp .gtr 2 (.tmp 106) (.const (.int .i64 254)) 2,_,_,_,some (19,false)⟩) rfl hP hH ?_
  simp only [Act.put,zA,zB,zC]
  refine tkr (i:=23) (oi:=⟨some 108,.pick (.tmp 104) (.const (.bool true)) (.tmp 107),_,_,_,some (15,true)⟩) rfl hP hH ?_
  simp only [Act.put,zA,zB,zC]
  refine tkl (i:=24) (oi:=⟨some 109,.pick (.tmp 100) (.tmp 108) (.const (.bool false)),_,_,_,some (12,false)⟩) (v:=.bool false) rfl hP (fun wS hS=>by rfl) hH ?_
  simp only [Act.put,zA,zB,zC]
  refine tkl (i:=25) (oi:=⟨some 110,.pick (.tmp 97) (.const (.bool true)) (.tmp 109),_,_,_,none⟩) (v:=.bool false) rfl hP (fun wS hS=>by rfl) hH ?_
  simp only [Act.put,zA,zB,zC]
  refine tkl (i:=26) (oi:=⟨some 111,.move (.tmp 110),_,_,_,none⟩) (v:=.bool false) rfl hP (fun wS hS=>by rfl) hH ?_
  simp only [Act.put,zA,zB,zC]
  refine tkl (i:=27) (oi:=⟨some 112,.move (.tmp 3),_,_,_,some (26,false)⟩) (v:=.int .i64 f) rfl hP (fun wS hS=>by rfl) hH ?_
  simp only [Act.put,zA,zB,zC]
  refine tkl (i:=28) (oi:=⟨some 113,.binOp .neq 3 (.tmp 112) (.const (.int .i64 10)) 3,_,_,_,some (26,false)⟩) (v:=.bool true) rfl hP (fun wS hS=>by subst hS;go_simp) hH ?_
  simp only [Act.put,zA,zB,zC]
  refine tkl (i:=29) (oi:=⟨some 114,.move (.tmp 113),_,_,_,some (26,false)⟩) (v:=.bool true) rfl hP (fun wS hS=>by rfl) hH ?_
  simp only [Act.put,zA,zB,zC]
  refine tkl (i:=30) (oi:=⟨some 115,.fieldAddr 92 (.tmp 1) 5,_,_,_,some (29,true)⟩) (v:=.pointer (some ⟨kx,5,none⟩)) rfl hP (fun wS hS=>by subst hS;go_simp) hH ?_
  simp only [Act.put,zA,zB,zC]
  refine tkl (i:=31) (oi:=⟨some 116,.load 2 (.tmp 115),_,_,_,some (29,true)⟩) (v:=.int .i64 imm) rfl hP (fun wS hS=>by subst hS;go_simp) hH ?_
  simp only [Act.put,zA,zB,zC]
  refine tkl (i:=32) (oi:=⟨some 117,.convert 2 81 (.tmp 116),_,_,_,some (29,true)⟩) (v:=.int .u64 (IntKind.u64.wrap imm)) rfl hP (fun wS hS=>by first|rfl|(subst hS;go_simp)) hH ?_
  simp only [Act.put,zA,zB,zC]
  refine tkl (i:=34) (oi:=⟨some 119,.fieldAddr 92 (.tmp 1) 5,_,_,_,some (29,true)⟩) (v:=.pointer (some ⟨kx,5,none⟩)) rfl hP (fun wS hS=>by subst hS;go_simp) hH ?_
  simp only [Act.put,zA,zB,zC]
  refine tkl (i:=35) (oi:=⟨some 120,.load 2 (.tmp 119),_,_,_,some (29,true)⟩) (v:=.int .i64 imm) rfl hP (fun wS hS=>by subst hS;go_simp) hH ?_
  simp only [Act.put,zA,zB,zC]
  refine wpAnyH_ready (rs:=[33]) (by kernel_rfl) (by simp) ?_
  refine AllReadyH.cons (o:=⟨some 118,.call { callee:=.value (.func 163),args:=#[.tmp 117,.const (.int .i64 32)],argTypes:=#[81,3] },_,_,_,some (29,true)⟩) rfl (fun K hK=>?_) AllReadyH.nil
  go_simp
  with_reducible refine (extend_is imm _ _ rfl).mono ?_
  rintro e w1 ⟨rfl,rfl⟩
  refine hK.out _ _ rfl (fun hH2=>?_)
  clear hK K hH
  refine tkl (i:=36) (oi:=⟨some 121,.binOp .neq 2 (.tmp 118) (.tmp 120) 2,_,_,_,some (29,true)⟩) (v:=.bool false) rfl hP (fun wS hS=>by subst hS;go_simp) hH2 ?_
  simp only [Act.put,zA,zB,zC]
  refine tkl (i:=37) (oi:=⟨some 122,.pick (.tmp 114) (.tmp 121) (.const (.bool false)),_,_,_,some (26,false)⟩) (v:=.bool false) rfl hP (fun wS hS=>by rfl) hH2 ?_
  simp only [Act.put,zA,zB,zC]
  refine tkl (i:=38) (oi:=⟨some 123,.pick (.tmp 111) (.const (.bool true)) (.tmp 122),_,_,_,none⟩) (v:=.bool false) rfl hP (fun wS hS=>by rfl) hH2 ?_
  simp only [Act.put,zA,zB,zC]
  refine wpAnyH_done (by kernel_rfl) ?_ _
  exact hQ.out
theorem r10_at {x:Bool} (hX:rX f imm=x) (x5:w.cell? ⟨kx,5,none⟩=some (.int .i64 imm)) {u0 u2 u4 u5 u6 u7 u8 u9 u10 u11 u12 u13 u14 u15 u16 u17 u18 u19 u20 u21 u22 u23 u24 u25 u26 u27 u28 u29 u30 u31 u32 u33 u34 u35 u36 u37 u38 u39 u40 u41 u42 u43 u44 u45 u46 u47 u48 u49 u50 u51 u52 u53 u54 u55 u56 u57 u58 u59 u60 u61 u62 u63 u64 u65 u66 u67 u68 u69 u70 u71 u72 u73 u74 u75 u76 u77 u78 u79 u80 u81 u82 u83 u84 u85 u86 u87 u88 u89 u90 u91 u92 u93 u94 u95 u96 u97 u98 u99 u100 u101 u102 u103 u104 u105 u106 u107 u108 u109 u110 u111 u112 u113 u114 u115 u116 u117 u118 u119 u120 u121 u122 u123:Value}
  (hP:∀ c a d v w,Q (.panic c) (Act.put a d v) w→Q (.panic c) a w) (hQ:Hid (∀ {u0 u2 u4 u5 u6 u7 u8 u9 u10 u11 u12 u13 u14 u15 u16 u17 u18 u19 u20 u21 u22 u23 u24 u25 u26 u27 u28 u29 u30 u31 u32 u33 u34 u35 u36 u37 u38 u39 u40 u41 u42 u43 u44 u45 u46 u47 u48 u49 u50 u51 u52 u53 u54 u55 u56 u57 u58 u59 u60 u61 u62 u63 u64 u65 u66 u67 u68 u69 u70 u71 u72 u73 u74 u75 u76 u77 u78 u79 u80 u81 u82 u83 u84 u85 u86 u87 u88 u89 u90 u91 u92 u93 u94 u95 u96 u97 u98 u99 u100 u101 u102 u103 u104 u105 u106 u107 u108 u109 u110 u111 u112 u113 u114 u115 u116 u117 u118 u119 u120 u121 u122:Value},Q .normal ⟨#[u0,.pointer (some ⟨kx,0,none⟩),u2,.int .i64 f,u4,u5,u6,u7,u8,u9,u10,u11,u12,u13,u14,u15,u16,u17,u18,u19,u20,u21,u22,u23,u24,u25,u26,u27,u28,u29,u30,u31,u32,u33,u34,u35,u36,u37,u38,u39,u40,u41,u42,u43,u44,u45,u46,u47,u48,u49,u50,u51,u52,u53,u54,u55,u56,u57,u58,u59,u60,u61,u62,u63,u64,u65,u66,u67,u68,u69,u70,u71,u72,u73,u74,u75,u76,u77,u78,u79,u80,u81,u82,u83,u84,u85,u86,u87,u88,u89,u90,u91,u92,u93,u94,u95,u96,u97,u98,u99,u100,u101,u102,u103,u104,u105,u106,u107,u108,u109,u110,u111,u112,u113,u114,u115,u116,u117,u118,u119,u120,u121,u122,.bool x],[]⟩ w.drew)) :
  Code.wp Tryz.prog (Code.region 10 Rten1 true) Q ⟨#[u0,.pointer (some ⟨kx,0,none⟩),u2,.int .i64 f,u4,u5,u6,u7,u8,u9,u10,u11,u12,u13,u14,u15,u16,u17,u18,u19,u20,u21,u22,u23,u24,u25,u26,u27,u28,u29,u30,u31,u32,u33,u34,u35,u36,u37,u38,u39,u40,u41,u42,u43,u44,u45,u46,u47,u48,u49,u50,u51,u52,u53,u54,u55,u56,u57,u58,u59,u60,u61,u62,u63,u64,u65,u66,u67,u68,u69,u70,u71,u72,u73,u74,u75,u76,u77,u78,u79,u80,u81,u82,u83,u84,u85,u86,u87,u88,u89,u90,u91,u92,u93,u94,u95,u96,u97,u98,u99,u100,u101,u102,u103,u104,u105,u106,u107,u108,u109,u110,u111,u112,u113,u114,u115,u116,u117,u118,u119,u120,u121,u122,u123],[]⟩ w:=by
 delta Rten1
 cases e5:(f==5)
 ·cases e11:(f==11)
  ·cases e10:(f==10)
   ·exact r10_oth e5 e11 e10 hX x5 hP hQ
   ·obtain rfl:f=10:=by simpa using e10
    exact r10_ten hX x5 hP hQ
  ·obtain rfl:f=11:=by simpa using e11
   exact r10_el hX x5 hP hQ
 ·obtain rfl:f=5:=by simpa using e5
  exact r10_five hX x5 hP hQ
end
end Go.Proofs.YtohkgdfkklfgmaaGreatDoor.L4
end
section
set_option maxRecDepth 100000
set_option maxHeartbeats 4000000
namespace Go.Proofs.YtohkgdfkklfgmaaGreatDoor.L4
open Go.RowKit L3 L1
theorem rcheck_at (op:Int) (reg:Bool) (dst src off imm f:Int) (vD vS vO vI n z g y x:Bool) (w:World) (hf:frm (ix op)=f) (hD:uD f=vD) (hS:uS f reg=vS) (hO:uO f=vO) (hI:uI f reg=vI)
  (hn:decide (f<0)=n) (hz:rZ f reg vD vS vO vI dst src off imm=z) (hg:(isG dst && isG src)=g) (hy:rY off=y) (hx:rX f imm=x) :
  Calls Tryz.prog 143 #[.agg #[.int .i64 op,.bool reg,.int .i64 dst,.int .i64 src,.int .i64 off,.int .i64 imm]] w fun e w'=>e=.returned (.int .i64 (rchk n z g y x))∧Below w.heap.size w w':=by
 have HF:=Lib.hid hf
 have HD:=Lib.hid hD
 have HS:=Lib.hid hS
 have HO:=Lib.hid hO
 have HI:=Lib.hid hI
 have HZ:=Lib.hid hz
 have HY:=Lib.hid hy
 have HX:=Lib.hid hx
 obtain⟨a,ha⟩:∃ a,isG dst=a:=⟨_,rfl⟩
 obtain⟨c,hc⟩:∃ c,isG src=c:=⟨_,rfl⟩
 rw [ha,hc] at hg
 have HA:=Lib.hid ha
 have HC:=Lib.hid hc
 subst hg
 clear hf hD hS hO hI hz hy hx ha hc
 cases n
 ·go_enter Tryz.func143,Tryz.ntmps143
  go_upto_region 4 with (first|(go_at_call 86;((with_reducible refine (rform_at op _ _ HF.out).mono ?_);rintro e w1 ⟨rfl,rfl⟩)))
  have hx0:Ins6 (w.alloc (.cells #[.int .i64 op,.bool reg,.int .i64 dst,.int .i64 src,.int .i64 off,.int .i64 imm] 92)) w.heap.size op reg dst src off imm:=⟨heap_alloc_last _ _⟩
  have hb0:Below w.heap.size w (w.alloc (.cells #[.int .i64 op,.bool reg,.int .i64 dst,.int .i64 src,.int .i64 off,.int .i64 imm] 92)):=bnew _ _
  generalize w.alloc (.cells #[.int .i64 op,.bool reg,.int .i64 dst,.int .i64 src,.int .i64 off,.int .i64 imm] 92)=W at hx0 hb0 ⊢
  go_cut [66] (fun c wx=>c=.bool z∧Below w.heap.size w wx∧Hid (Ins6 wx w.heap.size op reg dst src off imm))
  case first =>
   refine wp_region_list ?_
   refine r4_at HF HD HS HO HI HZ.out (fun hb hx=>?_) _ hb0 hx0
   dsimp only
   go_wp2_with (fail)
   go_meet
   exact⟨rfl,hb,Lib.hid hx⟩
  case rest =>
   obtain⟨rfl,hbc,HXc⟩:=hcut
   obtain⟨x0,x1,x2,x3,x4,x5⟩:=cells6 HXc.out.x
   cases z
   ·cases a
    ·go_wp2_with (first|(go_at_call 162;((with_reducible refine (rreg_at _ _ _ HA.out).mono ?_);rintro e w1 ⟨rfl,rfl⟩)))
     go_ret
     exact⟨rfl,hbc⟩
    ·cases c
     ·go_wp2_with (first|(go_at_call 162;((with_reducible refine (rreg_at _ _ _ HA.out).mono ?_);rintro e w1 ⟨rfl,rfl⟩))|(go_at_call 162;((with_reducible refine (rreg_at _ _ _ HC.out).mono ?_);rintro e w1 ⟨rfl,rfl⟩)))
      go_ret
      exact⟨rfl,hbc⟩
     ·unfold rY at HY
      cases l1:decide (off < -32768)
      ·cases l2:decide (32767<off)
       ·obtain rfl:y=false:=by rw [← HY.out,l1,l2];rfl
        go_wp2_with (first|(go_at_call 162;((with_reducible refine (rreg_at _ _ _ HA.out).mono ?_);rintro e w1 ⟨rfl,rfl⟩))|(go_at_call 162;((with_reducible refine (rreg_at _ _ _ HC.out).mono ?_);rintro e w1 ⟨rfl,rfl⟩)))
        refine wp_region_noPanic ?_
        refine r10_at HX.out x5 (fun _ _ _ _ _ h=>h) (Lib.hid ?_)
        intros
        dsimp only
        cases x
        ·go_wp2
         go_ret
         exact⟨rfl,below_drewN hbc 1⟩
        ·go_wp2
         go_ret
         exact⟨rfl,below_drewN hbc 1⟩
       ·obtain rfl:y=true:=by rw [← HY.out,l1,l2];rfl
        go_wp2_with (first|(go_at_call 162;((with_reducible refine (rreg_at _ _ _ HA.out).mono ?_);rintro e w1 ⟨rfl,rfl⟩))|(go_at_call 162;((with_reducible refine (rreg_at _ _ _ HC.out).mono ?_);rintro e w1 ⟨rfl,rfl⟩)))
        go_ret
        exact⟨rfl,hbc⟩
      ·obtain rfl:y=true:=by rw [← HY.out,l1];rfl
       go_wp2_with (first|(go_at_call 162;((with_reducible refine (rreg_at _ _ _ HA.out).mono ?_);rintro e w1 ⟨rfl,rfl⟩))|(go_at_call 162;((with_reducible refine (rreg_at _ _ _ HC.out).mono ?_);rintro e w1 ⟨rfl,rfl⟩)))
       go_ret
       exact⟨rfl,hbc⟩
   ·go_wp2
    go_ret
    exact⟨rfl,hbc⟩
 ·go_enter Tryz.func143,Tryz.ntmps143
  go_wp2_with (first|(go_at_call 86;((with_reducible refine (rform_at op _ _ HF.out).mono ?_);rintro e w1 ⟨rfl,rfl⟩)))
  go_ret
  exact⟨rfl,bnew _ _⟩
end Go.Proofs.YtohkgdfkklfgmaaGreatDoor.L4
end
