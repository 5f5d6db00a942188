/- What the last condition of the reference's Check comes to: is the number out of its range? No condition. -/
import Derived.Test.YtihiggnglmhggaaGreatDoorL4Rstage
set_option maxRecDepth 100000
set_option maxHeartbeats 8000000
namespace Go.Proofs.YtihiggnglmhggaaGreatDoor.L4
open Go.RowKit L3 L1
section
section
variable {P:Program} {ops:Array Oper} {Q:Exit→Act→World→Prop} {md:Region.Mode} {S:World→Prop} {fuel:Nat} {listed:Array Bool} {a:Act} {w:World} {ty:TypeId} {po:String} {af:Array Edge} {g:Option (Nat × Bool)}
theorem zPn (i d:Nat) (x:Op) (hi:ops[i]?=some ⟨some d,x,ty,po,af,g⟩) (hP:∀ c a d v w,Q (.panic c) (Act.put a d v) w→Q (.panic c) a w) (hS:S w)
  (h:wpAnyH P md ops Q S fuel (listed.setIfInBounds i true) (a.put (some d) undef) w) (hw:Region.wanted ⟨some d,x,ty,po,af,g⟩ (yielded ops a.tmps)=false:=by rfl) (hs:Region.noSelect ops=true:=by kernel_rfl) (hf:Region.free md ops listed i=true:=by kernel_rfl) (hr:(Region.ready md ops listed).contains i=true:=by kernel_rfl):wpAnyH P md ops Q S (fuel+1) listed a w :=
 wpAnyH_take hi hs hf hr (fun _ _ _=>hP _ _ _ _ _) (.inr ⟨hw,rfl⟩) hS h
theorem zP0 (i d:Nat) (x:Op) (v:Value) (hi:ops[i]?=some ⟨some d,x,ty,po,af,g⟩) (hP:∀ c a d v w,Q (.panic c) (Act.put a d v) w→Q (.panic c) a w) (hS:S w)
  (h:wpAnyH P md ops Q S fuel (listed.setIfInBounds i true) (a.put (some d) v) w) (he:∀ w,S w→(execOp a.eval ⟨some d,x,ty,po,af,g⟩).run P w=.ok (.value v) w:=by exact fun _ _=>by rfl) (hw:Region.wanted ⟨some d,x,ty,po,af,g⟩ (yielded ops a.tmps)=true:=by rfl) (hs:Region.noSelect ops=true:=by kernel_rfl) (hf:Region.free md ops listed i=true:=by kernel_rfl) (hr:(Region.ready md ops listed).contains i=true:=by kernel_rfl):wpAnyH P md ops Q S (fuel+1) listed a w :=
 wpAnyH_take hi hs hf hr (fun _ _ _=>hP _ _ _ _ _) (.inl ⟨hw,he⟩) hS h
theorem zP2 (i d:Nat) (x:Op) (v:Value) (hi:ops[i]?=some ⟨some d,x,ty,po,af,g⟩) (hP:∀ c a d v w,Q (.panic c) (Act.put a d v) w→Q (.panic c) a w) (hS:S w)
  (h:wpAnyH P md ops Q S fuel (listed.setIfInBounds i true) (a.put (some d) v) w) (he:∀ w,S w→(execOp a.eval ⟨some d,x,ty,po,af,g⟩).run P w=.ok (.value v) w:=by intro wS hS;subst hS;go_simp) (hw:Region.wanted ⟨some d,x,ty,po,af,g⟩ (yielded ops a.tmps)=true:=by rfl) (hs:Region.noSelect ops=true:=by kernel_rfl) (hf:Region.free md ops listed i=true:=by kernel_rfl) (hr:(Region.ready md ops listed).contains i=true:=by kernel_rfl):wpAnyH P md ops Q S (fuel+1) listed a w :=
 wpAnyH_take hi hs hf hr (fun _ _ _=>hP _ _ _ _ _) (.inl ⟨hw,he⟩) hS h
theorem zP1 (i d:Nat) (x:Op) (v:Value) (hi:ops[i]?=some ⟨some d,x,ty,po,af,g⟩) (hP:∀ c a d v w,Q (.panic c) (Act.put a d v) w→Q (.panic c) a w) (he:∀ w,S w→(execOp a.eval ⟨some d,x,ty,po,af,g⟩).run P w=.ok (.value v) w) (hS:S w)
  (h:wpAnyH P md ops Q S fuel (listed.setIfInBounds i true) (a.put (some d) v) w) (hw:Region.wanted ⟨some d,x,ty,po,af,g⟩ (yielded ops a.tmps)=true:=by rfl) (hs:Region.noSelect ops=true:=by kernel_rfl) (hf:Region.free md ops listed i=true:=by kernel_rfl) (hr:(Region.ready md ops listed).contains i=true:=by kernel_rfl):wpAnyH P md ops Q S (fuel+1) listed a w :=
 wpAnyH_take hi hs hf hr (fun _ _ _=>hP _ _ _ _ _) (.inl ⟨hw,he⟩) hS h
end
abbrev Rten1:Array Oper:=#[⟨some 85,.move (.tmp 3),3, "ref.go:56",#[],none⟩,⟨some 86,.binOp .eql 3 (.tmp 85) (.const (.int .i64 5)) 3,4, "ref.go:56",#[⟨0,.data⟩],none⟩,⟨some 87,.move (.tmp 86),4, "ref.go:56",#[⟨1,.data⟩],none⟩,⟨some 88,.fieldAddr 45 (.tmp 1) 5,0, "ref.go:56",#[⟨2,.guard⟩],some (2,true)⟩,⟨some 89,.load 2 (.tmp 88),2, "ref.go:56",#[⟨3,.data⟩,⟨2,.guard⟩],some (2,true)⟩,⟨some 90,.binOp .lss 2 (.tmp 89) (.const (.int .i64 1)) 2,4, "ref.go:56",#[⟨4,.data⟩,⟨2,.guard⟩],some (2,true)⟩,⟨some 91,.move (.tmp 90),4, "ref.go:56",#[⟨5,.data⟩,⟨2,.chain⟩,⟨2,.guard⟩],some (2,true)⟩,⟨some 92,.fieldAddr 45 (.tmp 1) 5,0, "ref.go:56",#[⟨6,.guard⟩],some (6,false)⟩,⟨some 93,.load 2 (.tmp 92),2, "ref.go:56",#[⟨7,.data⟩,⟨6,.guard⟩],some (6,false)⟩,⟨some 94,.binOp .gtr 2 (.tmp 93) (.const (.int .i64 3)) 2,4, "ref.go:56",#[⟨8,.data⟩,⟨6,.guard⟩],some (6,false)⟩,⟨some 95,.pick (.tmp 91) (.const (.bool true)) (.tmp 94),4, "ref.go:56",#[⟨6,.data⟩,⟨9,.data⟩,⟨2,.guard⟩],some (2,true)⟩,⟨some 96,.pick (.tmp 87) (.tmp 95) (.const (.bool false)),4, "ref.go:56",#[⟨2,.data⟩,⟨10,.data⟩],none⟩,⟨some 97,.move (.tmp 96),4, "ref.go:56",#[⟨11,.data⟩,⟨6,.chain⟩],none⟩,⟨some 98,.move (.tmp 3),3, "ref.go:56",#[⟨12,.guard⟩],some (12,false)⟩,⟨some 99,.binOp .eql 3 (.tmp 98) (.const (.int .i64 11)) 3,4, "ref.go:56",#[⟨13,.data⟩,⟨12,.guard⟩],some (12,false)⟩,⟨some 100,.move (.tmp 99),4, "ref.go:56",#[⟨14,.data⟩,⟨12,.chain⟩,⟨12,.guard⟩],some (12,false)⟩,⟨some 101,.fieldAddr 45 (.tmp 1) 5,0, "ref.go:56",#[⟨15,.guard⟩],some (15,true)⟩,⟨some 102,.load 2 (.tmp 101),2, "ref.go:56",#[⟨16,.data⟩,⟨15,.guard⟩],some (15,true)⟩,⟨some 103,.binOp .lss 2 (.tmp 102) (.const (.int .i64 0)) 2,4, "ref.go:56",#[⟨17,.data⟩,⟨15,.guard⟩],some (15,true)⟩,⟨some 104,.move (.tmp 103),4, "ref.go:56",#[⟨18,.data⟩,⟨15,.chain⟩,⟨15,.guard⟩],some (15,true)⟩,⟨some 105,.fieldAddr 45 (.tmp 1) 5,0, "ref.go:56",#[⟨19,.guard⟩],some (19,false)⟩,⟨some 106,.load 2 (.tmp 105),2, "ref.go:56",#[⟨20,.data⟩,⟨19,.guard⟩],some (19,false)⟩,⟨some 107,.binOp .gtr 2 (.tmp 106) (.const (.int .i64 254)) 2,4, "ref.go:56",#[⟨21,.data⟩,⟨19,.guard⟩],some (19,false)⟩,⟨some 108,.pick (.tmp 104) (.const (.bool true)) (.tmp 107),4, "ref.go:56",#[⟨19,.data⟩,⟨22,.data⟩,⟨15,.guard⟩],some (15,true)⟩,⟨some 109,.pick (.tmp 100) (.tmp 108) (.const (.bool false)),4, "ref.go:56",#[⟨15,.data⟩,⟨23,.data⟩,⟨12,.guard⟩],some (12,false)⟩,⟨some 110,.pick (.tmp 97) (.const (.bool true)) (.tmp 109),4, "ref.go:56",#[⟨12,.data⟩,⟨24,.data⟩],none⟩,⟨some 111,.move (.tmp 110),4, "ref.go:56",#[⟨25,.data⟩,⟨19,.chain⟩],none⟩,⟨some 112,.move (.tmp 3),3, "ref.go:56",#[⟨26,.guard⟩],some (26,false)⟩,⟨some 113,.binOp .neq 3 (.tmp 112) (.const (.int .i64 10)) 3,4, "ref.go:56",#[⟨27,.data⟩,⟨26,.guard⟩],some (26,false)⟩,⟨some 114,.move (.tmp 113),4, "ref.go:56",#[⟨28,.data⟩,⟨26,.chain⟩,⟨26,.guard⟩],some (26,false)⟩,⟨some 115,.fieldAddr 45 (.tmp 1) 5,0, "ref.go:56",#[⟨29,.guard⟩],some (29,true)⟩,⟨some 116,.load 2 (.tmp 115),2, "ref.go:56",#[⟨30,.data⟩,⟨29,.guard⟩],some (29,true)⟩,⟨some 117,.convert 2 114 (.tmp 116),114, "ref.go:56",#[⟨31,.data⟩,⟨29,.guard⟩],some (29,true)⟩,⟨some 118,.call { callee:=.value (.func 74),args:=#[.tmp 117,.const (.int .i64 32)],argTypes:=#[114,3] },2, "ref.go:56",#[⟨32,.data⟩,⟨29,.chain⟩,⟨29,.guard⟩],some (29,true)⟩,⟨some 119,.fieldAddr 45 (.tmp 1) 5,0, "ref.go:56",#[⟨29,.guard⟩],some (29,true)⟩,⟨some 120,.load 2 (.tmp 119),2, "ref.go:56",#[⟨34,.data⟩,⟨29,.guard⟩],some (29,true)⟩,⟨some 121,.binOp .neq 2 (.tmp 118) (.tmp 120) 2,4, "ref.go:56",#[⟨33,.data⟩,⟨35,.data⟩,⟨29,.guard⟩],some (29,true)⟩,⟨some 122,.pick (.tmp 114) (.tmp 121) (.const (.bool false)),4, "ref.go:56",#[⟨29,.data⟩,⟨36,.data⟩,⟨26,.guard⟩],some (26,false)⟩,⟨some 123,.pick (.tmp 111) (.const (.bool true)) (.tmp 122),4, "ref.go:56",#[⟨26,.data⟩,⟨37,.data⟩],none⟩]
variable {Q:Exit→Act→World→Prop} {kx:Nat} {imm f:Int} {w:World}
theorem r10_ten  {x:Bool} (hX:rX 10 imm=x) (_:w.cell? ⟨kx,5,none⟩=some (.int .i64 imm)) {u0 u2 u4 u5 u6 u7 u8 u9 u10 u11 u12 u13 u14 u15 u16 u17 u18 u19 u20 u21 u22 u23 u24 u25 u26 u27 u28 u29 u30 u31 u32 u33 u34 u35 u36 u37 u38 u39 u40 u41 u42 u43 u44 u45 u46 u47 u48 u49 u50 u51 u52 u53 u54 u55 u56 u57 u58 u59 u60 u61 u62 u63 u64 u65 u66 u67 u68 u69 u70 u71 u72 u73 u74 u75 u76 u77 u78 u79 u80 u81 u82 u83 u84 u85 u86 u87 u88 u89 u90 u91 u92 u93 u94 u95 u96 u97 u98 u99 u100 u101 u102 u103 u104 u105 u106 u107 u108 u109 u110 u111 u112 u113 u114 u115 u116 u117 u118 u119 u120 u121 u122 u123:Value}
  (hP:∀ c a d v w,Q (.panic c) (Act.put a d v) w→Q (.panic c) a w) (hQ:Hid (∀ {u0 u2 u4 u5 u6 u7 u8 u9 u10 u11 u12 u13 u14 u15 u16 u17 u18 u19 u20 u21 u22 u23 u24 u25 u26 u27 u28 u29 u30 u31 u32 u33 u34 u35 u36 u37 u38 u39 u40 u41 u42 u43 u44 u45 u46 u47 u48 u49 u50 u51 u52 u53 u54 u55 u56 u57 u58 u59 u60 u61 u62 u63 u64 u65 u66 u67 u68 u69 u70 u71 u72 u73 u74 u75 u76 u77 u78 u79 u80 u81 u82 u83 u84 u85 u86 u87 u88 u89 u90 u91 u92 u93 u94 u95 u96 u97 u98 u99 u100 u101 u102 u103 u104 u105 u106 u107 u108 u109 u110 u111 u112 u113 u114 u115 u116 u117 u118 u119 u120 u121 u122:Value},Q .normal ⟨#[u0,.pointer (some ⟨kx,0,none⟩),u2,.int .i64 10,u4,u5,u6,u7,u8,u9,u10,u11,u12,u13,u14,u15,u16,u17,u18,u19,u20,u21,u22,u23,u24,u25,u26,u27,u28,u29,u30,u31,u32,u33,u34,u35,u36,u37,u38,u39,u40,u41,u42,u43,u44,u45,u46,u47,u48,u49,u50,u51,u52,u53,u54,u55,u56,u57,u58,u59,u60,u61,u62,u63,u64,u65,u66,u67,u68,u69,u70,u71,u72,u73,u74,u75,u76,u77,u78,u79,u80,u81,u82,u83,u84,u85,u86,u87,u88,u89,u90,u91,u92,u93,u94,u95,u96,u97,u98,u99,u100,u101,u102,u103,u104,u105,u106,u107,u108,u109,u110,u111,u112,u113,u114,u115,u116,u117,u118,u119,u120,u121,u122,.bool x],[]⟩ w.drew)) :
  Code.wp Tryz.prog (Code.region 10 Rten1 true) Q ⟨#[u0,.pointer (some ⟨kx,0,none⟩),u2,.int .i64 10,u4,u5,u6,u7,u8,u9,u10,u11,u12,u13,u14,u15,u16,u17,u18,u19,u20,u21,u22,u23,u24,u25,u26,u27,u28,u29,u30,u31,u32,u33,u34,u35,u36,u37,u38,u39,u40,u41,u42,u43,u44,u45,u46,u47,u48,u49,u50,u51,u52,u53,u54,u55,u56,u57,u58,u59,u60,u61,u62,u63,u64,u65,u66,u67,u68,u69,u70,u71,u72,u73,u74,u75,u76,u77,u78,u79,u80,u81,u82,u83,u84,u85,u86,u87,u88,u89,u90,u91,u92,u93,u94,u95,u96,u97,u98,u99,u100,u101,u102,u103,u104,u105,u106,u107,u108,u109,u110,u111,u112,u113,u114,u115,u116,u117,u118,u119,u120,u121,u122,u123],[]⟩ w:=by
 delta Rten1
 have HX:=Lib.hid hX
 unfold rX at HX
 clear hX
 obtain rfl:x=false:=by rw [← HX.out];rfl
 clear HX
 refine wp_region_held_drew (S:=fun w'=>w'=w.drew) (by kernel_rfl) rfl (fun hH=>?_)
 refine zP0 0 85 (.move (.tmp 3)) (.int .i64 10) rfl hP hH ?_
 simp only [zz]
 refine zP2 1 86 (.binOp .eql 3 (.tmp 85) (.const (.int .i64 5)) 3) (.bool false) rfl hP hH ?_
 simp only [zz]
 refine zP0 2 87 (.move (.tmp 86)) (.bool false) rfl hP hH ?_
 simp only [zz]
 refine zPn 3 88 (.fieldAddr 45 (.tmp 1) 5) rfl hP hH ?_
 simp only [zz]
 refine zPn 4 89 (.load 2 (.tmp 88)) rfl hP hH ?_
 simp only [zz]
 refine zPn 5 90 (.binOp .lss 2 (.tmp 89) (.const (.int .i64 1)) 2) rfl hP hH ?_
 simp only [zz]
 refine zPn 6 91 (.move (.tmp 90)) rfl hP hH ?_
 simp only [zz]
 refine zPn 7 92 (.fieldAddr 45 (.tmp 1) 5) rfl hP hH ?_
 simp only [zz]
 refine zPn 8 93 (.load 2 (.tmp 92)) rfl hP hH ?_
 simp only [zz]
 refine zPn 9 94 (.binOp .gtr 2 (.tmp 93) (.const (.int .i64 3)) 2) rfl hP hH ?_
 simp only [zz]
 refine zPn 10 95 (.pick (.tmp 91) (.const (.bool true)) (.tmp 94)) rfl hP hH ?_
 simp only [zz]
 refine zP0 11 96 (.pick (.tmp 87) (.tmp 95) (.const (.bool false))) (.bool false) rfl hP hH ?_
 simp only [zz]
 refine zP0 12 97 (.move (.tmp 96)) (.bool false) rfl hP hH ?_
 simp only [zz]
 refine zP0 13 98 (.move (.tmp 3)) (.int .i64 10) rfl hP hH ?_
 simp only [zz]
 refine zP2 14 99 (.binOp .eql 3 (.tmp 98) (.const (.int .i64 11)) 3) (.bool false) rfl hP hH ?_
 simp only [zz]
 refine zP0 15 100 (.move (.tmp 99)) (.bool false) rfl hP hH ?_
 simp only [zz]
 refine zPn 16 101 (.fieldAddr 45 (.tmp 1) 5) rfl hP hH ?_
 simp only [zz]
 refine zPn 17 102 (.load 2 (.tmp 101)) rfl hP hH ?_
 simp only [zz]
 refine zPn 18 103 (.binOp .lss 2 (.tmp 102) (.const (.int .i64 0)) 2) rfl hP hH ?_
 simp only [zz]
 refine zPn 19 104 (.move (.tmp 103)) rfl hP hH ?_
 simp only [zz]
 refine zPn 20 105 (.fieldAddr 45 (.tmp 1) 5) rfl hP hH ?_
 simp only [zz]
 refine zPn 21 106 (.load 2 (.tmp 105)) rfl hP hH ?_
 simp only [zz]
 refine zPn 22 107 (.binOp .gtr 2 (.tmp 106) (.const (.int .i64 254)) 2) rfl hP hH ?_
 simp only [zz]
 refine zPn 23 108 (.pick (.tmp 104) (.const (.bool true)) (.tmp 107)) rfl hP hH ?_
 simp only [zz]
 refine zP0 24 109 (.pick (.tmp 100) (.tmp 108) (.const (.bool false))) (.bool false) rfl hP hH ?_
 simp only [zz]
 refine zP0 25 110 (.pick (.tmp 97) (.const (.bool true)) (.tmp 109)) (.bool false) rfl hP hH ?_
 simp only [zz]
 refine zP0 26 111 (.move (.tmp 110)) (.bool false) rfl hP hH ?_
 simp only [zz]
 refine zP0 27 112 (.move (.tmp 3)) (.int .i64 10) rfl hP hH ?_
 simp only [zz]
 refine zP2 28 113 (.binOp .neq 3 (.tmp 112) (.const (.int .i64 10)) 3) (.bool false) rfl hP hH ?_
 simp only [zz]
 refine zP0 29 114 (.move (.tmp 113)) (.bool false) rfl hP hH ?_
 simp only [zz]
 refine zPn 30 115 (.fieldAddr 45 (.tmp 1) 5) rfl hP hH ?_
 simp only [zz]
 refine zPn 31 116 (.load 2 (.tmp 115)) rfl hP hH ?_
 simp only [zz]
 refine zPn 32 117 (.convert 2 114 (.tmp 116)) rfl hP hH ?_
 simp only [zz]
 refine zPn 34 119 (.fieldAddr 45 (.tmp 1) 5) rfl hP hH ?_
 simp only [zz]
 refine zPn 35 120 (.load 2 (.tmp 119)) rfl hP hH ?_
 simp only [zz]
 refine zPn 33 118 (.call { callee:=.value (.func 74),args:=#[.tmp 117,.const (.int .i64 32)],argTypes:=#[114,3] }) rfl hP hH ?_
 simp only [zz]
 refine zPn 36 121 (.binOp .neq 2 (.tmp 118) (.tmp 120) 2) rfl hP hH ?_
 simp only [zz]
 refine zP0 37 122 (.pick (.tmp 114) (.tmp 121) (.const (.bool false))) (.bool false) rfl hP hH ?_
 simp only [zz]
 refine zP0 38 123 (.pick (.tmp 111) (.const (.bool true)) (.tmp 122)) (.bool false) rfl hP hH ?_
 simp only [zz]
 refine wpAnyH_done (by kernel_rfl) ?_ _
 exact hQ.out
theorem r10_el  {x:Bool} (hX:rX 11 imm=x) (x5:w.cell? ⟨kx,5,none⟩=some (.int .i64 imm)) {u0 u2 u4 u5 u6 u7 u8 u9 u10 u11 u12 u13 u14 u15 u16 u17 u18 u19 u20 u21 u22 u23 u24 u25 u26 u27 u28 u29 u30 u31 u32 u33 u34 u35 u36 u37 u38 u39 u40 u41 u42 u43 u44 u45 u46 u47 u48 u49 u50 u51 u52 u53 u54 u55 u56 u57 u58 u59 u60 u61 u62 u63 u64 u65 u66 u67 u68 u69 u70 u71 u72 u73 u74 u75 u76 u77 u78 u79 u80 u81 u82 u83 u84 u85 u86 u87 u88 u89 u90 u91 u92 u93 u94 u95 u96 u97 u98 u99 u100 u101 u102 u103 u104 u105 u106 u107 u108 u109 u110 u111 u112 u113 u114 u115 u116 u117 u118 u119 u120 u121 u122 u123:Value}
  (hP:∀ c a d v w,Q (.panic c) (Act.put a d v) w→Q (.panic c) a w) (hQ:Hid (∀ {u0 u2 u4 u5 u6 u7 u8 u9 u10 u11 u12 u13 u14 u15 u16 u17 u18 u19 u20 u21 u22 u23 u24 u25 u26 u27 u28 u29 u30 u31 u32 u33 u34 u35 u36 u37 u38 u39 u40 u41 u42 u43 u44 u45 u46 u47 u48 u49 u50 u51 u52 u53 u54 u55 u56 u57 u58 u59 u60 u61 u62 u63 u64 u65 u66 u67 u68 u69 u70 u71 u72 u73 u74 u75 u76 u77 u78 u79 u80 u81 u82 u83 u84 u85 u86 u87 u88 u89 u90 u91 u92 u93 u94 u95 u96 u97 u98 u99 u100 u101 u102 u103 u104 u105 u106 u107 u108 u109 u110 u111 u112 u113 u114 u115 u116 u117 u118 u119 u120 u121 u122:Value},Q .normal ⟨#[u0,.pointer (some ⟨kx,0,none⟩),u2,.int .i64 11,u4,u5,u6,u7,u8,u9,u10,u11,u12,u13,u14,u15,u16,u17,u18,u19,u20,u21,u22,u23,u24,u25,u26,u27,u28,u29,u30,u31,u32,u33,u34,u35,u36,u37,u38,u39,u40,u41,u42,u43,u44,u45,u46,u47,u48,u49,u50,u51,u52,u53,u54,u55,u56,u57,u58,u59,u60,u61,u62,u63,u64,u65,u66,u67,u68,u69,u70,u71,u72,u73,u74,u75,u76,u77,u78,u79,u80,u81,u82,u83,u84,u85,u86,u87,u88,u89,u90,u91,u92,u93,u94,u95,u96,u97,u98,u99,u100,u101,u102,u103,u104,u105,u106,u107,u108,u109,u110,u111,u112,u113,u114,u115,u116,u117,u118,u119,u120,u121,u122,.bool x],[]⟩ w.drew)) :
  Code.wp Tryz.prog (Code.region 10 Rten1 true) Q ⟨#[u0,.pointer (some ⟨kx,0,none⟩),u2,.int .i64 11,u4,u5,u6,u7,u8,u9,u10,u11,u12,u13,u14,u15,u16,u17,u18,u19,u20,u21,u22,u23,u24,u25,u26,u27,u28,u29,u30,u31,u32,u33,u34,u35,u36,u37,u38,u39,u40,u41,u42,u43,u44,u45,u46,u47,u48,u49,u50,u51,u52,u53,u54,u55,u56,u57,u58,u59,u60,u61,u62,u63,u64,u65,u66,u67,u68,u69,u70,u71,u72,u73,u74,u75,u76,u77,u78,u79,u80,u81,u82,u83,u84,u85,u86,u87,u88,u89,u90,u91,u92,u93,u94,u95,u96,u97,u98,u99,u100,u101,u102,u103,u104,u105,u106,u107,u108,u109,u110,u111,u112,u113,u114,u115,u116,u117,u118,u119,u120,u121,u122,u123],[]⟩ w:=by
 delta Rten1
 have HX:=Lib.hid hX
 unfold rX at HX
 clear hX
 refine wp_region_held_drew (S:=fun w'=>w'=w.drew) (by kernel_rfl) rfl (fun hH=>?_)
 refine zP0 0 85 (.move (.tmp 3)) (.int .i64 11) rfl hP hH ?_
 simp only [zz]
 refine zP2 1 86 (.binOp .eql 3 (.tmp 85) (.const (.int .i64 5)) 3) (.bool false) rfl hP hH ?_
 simp only [zz]
 refine zP0 2 87 (.move (.tmp 86)) (.bool false) rfl hP hH ?_
 simp only [zz]
 refine zPn 3 88 (.fieldAddr 45 (.tmp 1) 5) rfl hP hH ?_
 simp only [zz]
 refine zPn 4 89 (.load 2 (.tmp 88)) rfl hP hH ?_
 simp only [zz]
 refine zPn 5 90 (.binOp .lss 2 (.tmp 89) (.const (.int .i64 1)) 2) rfl hP hH ?_
 simp only [zz]
 refine zPn 6 91 (.move (.tmp 90)) rfl hP hH ?_
 simp only [zz]
 refine zPn 7 92 (.fieldAddr 45 (.tmp 1) 5) rfl hP hH ?_
 simp only [zz]
 refine zPn 8 93 (.load 2 (.tmp 92)) rfl hP hH ?_
 simp only [zz]
 refine zPn 9 94 (.binOp .gtr 2 (.tmp 93) (.const (.int .i64 3)) 2) rfl hP hH ?_
 simp only [zz]
 refine zPn 10 95 (.pick (.tmp 91) (.const (.bool true)) (.tmp 94)) rfl hP hH ?_
 simp only [zz]
 refine zP0 11 96 (.pick (.tmp 87) (.tmp 95) (.const (.bool false))) (.bool false) rfl hP hH ?_
 simp only [zz]
 refine zP0 12 97 (.move (.tmp 96)) (.bool false) rfl hP hH ?_
 simp only [zz]
 refine zP0 13 98 (.move (.tmp 3)) (.int .i64 11) rfl hP hH ?_
 simp only [zz]
 refine zP2 14 99 (.binOp .eql 3 (.tmp 98) (.const (.int .i64 11)) 3) (.bool true) rfl hP hH ?_
 simp only [zz]
 refine zP0 15 100 (.move (.tmp 99)) (.bool true) rfl hP hH ?_
 simp only [zz]
 refine zP2 16 101 (.fieldAddr 45 (.tmp 1) 5) (.pointer (some ⟨kx,5,none⟩)) rfl hP hH ?_
 simp only [zz]
 refine zP2 17 102 (.load 2 (.tmp 101)) (.int .i64 imm) rfl hP hH ?_
 simp only [zz]
 cases i0:decide (imm<0)
 ·refine zP2 18 103 (.binOp .lss 2 (.tmp 102) (.const (.int .i64 0)) 2) (.bool false) rfl hP hH ?_
  simp only [zz]
  refine zP0 19 104 (.move (.tmp 103)) (.bool false) rfl hP hH ?_
  simp only [zz]
  refine zP2 20 105 (.fieldAddr 45 (.tmp 1) 5) (.pointer (some ⟨kx,5,none⟩)) rfl hP hH ?_
  simp only [zz]
  refine zP2 21 106 (.load 2 (.tmp 105)) (.int .i64 imm) rfl hP hH ?_
  simp only [zz]
  cases i4:decide (254<imm)
  ·refine zP2 22 107 (.binOp .gtr 2 (.tmp 106) (.const (.int .i64 254)) 2) (.bool false) rfl hP hH ?_
   simp only [zz]
   refine zP0 23 108 (.pick (.tmp 104) (.const (.bool true)) (.tmp 107)) (.bool false) rfl hP hH ?_
   simp only [zz]
   refine zP0 24 109 (.pick (.tmp 100) (.tmp 108) (.const (.bool false))) (.bool false) rfl hP hH ?_
   simp only [zz]
   refine zP0 25 110 (.pick (.tmp 97) (.const (.bool true)) (.tmp 109)) (.bool false) rfl hP hH ?_
   simp only [zz]
   refine zP0 26 111 (.move (.tmp 110)) (.bool false) rfl hP hH ?_
   simp only [zz]
   refine zP0 27 112 (.move (.tmp 3)) (.int .i64 11) rfl hP hH ?_
   simp only [zz]
   refine zP2 28 113 (.binOp .neq 3 (.tmp 112) (.const (.int .i64 10)) 3) (.bool true) rfl hP hH ?_
   simp only [zz]
   refine zP0 29 114 (.move (.tmp 113)) (.bool true) rfl hP hH ?_
   simp only [zz]
   refine zP2 30 115 (.fieldAddr 45 (.tmp 1) 5) (.pointer (some ⟨kx,5,none⟩)) rfl hP hH ?_
   simp only [zz]
   refine zP2 31 116 (.load 2 (.tmp 115)) (.int .i64 imm) rfl hP hH ?_
   simp only [zz]
   refine zP1 32 117 (.convert 2 114 (.tmp 116)) (.int .u64 (IntKind.u64.wrap imm)) rfl hP (fun wS hS=>by first|rfl|(subst hS;go_simp)) hH ?_
   simp only [zz]
   refine zP2 34 119 (.fieldAddr 45 (.tmp 1) 5) (.pointer (some ⟨kx,5,none⟩)) rfl hP hH ?_
   simp only [zz]
   refine zP2 35 120 (.load 2 (.tmp 119)) (.int .i64 imm) rfl hP hH ?_
   simp only [zz]
   refine wpAnyH_ready (rs:=[33]) (by kernel_rfl) (by simp) ?_
   refine AllReadyH.cons (o:=⟨some 118,.call { callee:=.value (.func 74),args:=#[.tmp 117,.const (.int .i64 32)],argTypes:=#[114,3] },_,_,_,some (29,true)⟩) rfl (fun K hK=>?_) AllReadyH.nil
   go_simp
   with_reducible refine (extend_is imm _ _ rfl).mono ?_
   rintro e w1 ⟨rfl,rfl⟩
   refine hK.out _ _ rfl (fun hH2=>?_)
   clear hK K hH
   cases se:(sx 32 imm==imm)
   ·have sn:(sx 32 imm != imm)=true:=by rw [bne,se];rfl
    obtain rfl:x=true:=by rw [← HX.out,i0,i4,sn];rfl
    clear HX
    refine zP2 36 121 (.binOp .neq 2 (.tmp 118) (.tmp 120) 2) (.bool true) rfl hP hH2 ?_
    simp only [zz]
    refine zP0 37 122 (.pick (.tmp 114) (.tmp 121) (.const (.bool false))) (.bool true) rfl hP hH2 ?_
    simp only [zz]
    refine zP0 38 123 (.pick (.tmp 111) (.const (.bool true)) (.tmp 122)) (.bool true) rfl hP hH2 ?_
    simp only [zz]
    refine wpAnyH_done (by kernel_rfl) ?_ _
    exact hQ.out
   ·have sn:(sx 32 imm != imm)=false:=by rw [bne,se];rfl
    obtain rfl:x=false:=by rw [← HX.out,i0,i4,sn];rfl
    clear HX
    refine zP2 36 121 (.binOp .neq 2 (.tmp 118) (.tmp 120) 2) (.bool false) rfl hP hH2 ?_
    simp only [zz]
    refine zP0 37 122 (.pick (.tmp 114) (.tmp 121) (.const (.bool false))) (.bool false) rfl hP hH2 ?_
    simp only [zz]
    refine zP0 38 123 (.pick (.tmp 111) (.const (.bool true)) (.tmp 122)) (.bool false) rfl hP hH2 ?_
    simp only [zz]
    refine wpAnyH_done (by kernel_rfl) ?_ _
    exact hQ.out
  ·obtain rfl:x=true:=by rw [← HX.out,i0,i4];rfl
   clear HX
   refine zP2 22 107 (.binOp .gtr 2 (.tmp 106) (.const (.int .i64 254)) 2) (.bool true) rfl hP hH ?_
   simp only [zz]
   refine zP0 23 108 (.pick (.tmp 104) (.const (.bool true)) (.tmp 107)) (.bool true) rfl hP hH ?_
   simp only [zz]
   refine zP0 24 109 (.pick (.tmp 100) (.tmp 108) (.const (.bool false))) (.bool true) rfl hP hH ?_
   simp only [zz]
   refine zP0 25 110 (.pick (.tmp 97) (.const (.bool true)) (.tmp 109)) (.bool true) rfl hP hH ?_
   simp only [zz]
   refine zP0 26 111 (.move (.tmp 110)) (.bool true) rfl hP hH ?_
   simp only [zz]
   refine zPn 27 112 (.move (.tmp 3)) rfl hP hH ?_
   simp only [zz]
   refine zPn 28 113 (.binOp .neq 3 (.tmp 112) (.const (.int .i64 10)) 3) rfl hP hH ?_
   simp only [zz]
   refine zPn 29 114 (.move (.tmp 113)) rfl hP hH ?_
   simp only [zz]
   refine zPn 30 115 (.fieldAddr 45 (.tmp 1) 5) rfl hP hH ?_
   simp only [zz]
   refine zPn 31 116 (.load 2 (.tmp 115)) rfl hP hH ?_
   simp only [zz]
   refine zPn 32 117 (.convert 2 114 (.tmp 116)) rfl hP hH ?_
   simp only [zz]
   refine zPn 34 119 (.fieldAddr 45 (.tmp 1) 5) rfl hP hH ?_
   simp only [zz]
   refine zPn 35 120 (.load 2 (.tmp 119)) rfl hP hH ?_
   simp only [zz]
   refine zPn 33 118 (.call { callee:=.value (.func 74),args:=#[.tmp 117,.const (.int .i64 32)],argTypes:=#[114,3] }) rfl hP hH ?_
   simp only [zz]
   refine zPn 36 121 (.binOp .neq 2 (.tmp 118) (.tmp 120) 2) rfl hP hH ?_
   simp only [zz]
   refine zPn 37 122 (.pick (.tmp 114) (.tmp 121) (.const (.bool false))) rfl hP hH ?_
   simp only [zz]
   refine zP0 38 123 (.pick (.tmp 111) (.const (.bool true)) (.tmp 122)) (.bool true) rfl hP hH ?_
   simp only [zz]
   refine wpAnyH_done (by kernel_rfl) ?_ _
   exact hQ.out
 ·obtain rfl:x=true:=by rw [← HX.out,i0];rfl
  clear HX
  refine zP2 18 103 (.binOp .lss 2 (.tmp 102) (.const (.int .i64 0)) 2) (.bool true) rfl hP hH ?_
  simp only [zz]
  refine zP0 19 104 (.move (.tmp 103)) (.bool true) rfl hP hH ?_
  simp only [zz]
  refine zPn 20 105 (.fieldAddr 45 (.tmp 1) 5) rfl hP hH ?_
  simp only [zz]
  refine zPn 21 106 (.load 2 (.tmp 105)) rfl hP hH ?_
  simp only [zz]
  refine zPn 22 107 (.binOp .gtr 2 (.tmp 106) (.const (.int .i64 254)) 2) rfl hP hH ?_
  simp only [zz]
  refine zP0 23 108 (.pick (.tmp 104) (.const (.bool true)) (.tmp 107)) (.bool true) rfl hP hH ?_
  simp only [zz]
  refine zP0 24 109 (.pick (.tmp 100) (.tmp 108) (.const (.bool false))) (.bool true) rfl hP hH ?_
  simp only [zz]
  refine zP0 25 110 (.pick (.tmp 97) (.const (.bool true)) (.tmp 109)) (.bool true) rfl hP hH ?_
  simp only [zz]
  refine zP0 26 111 (.move (.tmp 110)) (.bool true) rfl hP hH ?_
  simp only [zz]
  refine zPn 27 112 (.move (.tmp 3)) rfl hP hH ?_
  simp only [zz]
  refine zPn 28 113 (.binOp .neq 3 (.tmp 112) (.const (.int .i64 10)) 3) rfl hP hH ?_
  simp only [zz]
  refine zPn 29 114 (.move (.tmp 113)) rfl hP hH ?_
  simp only [zz]
  refine zPn 30 115 (.fieldAddr 45 (.tmp 1) 5) rfl hP hH ?_
  simp only [zz]
  refine zPn 31 116 (.load 2 (.tmp 115)) rfl hP hH ?_
  simp only [zz]
  refine zPn 32 117 (.convert 2 114 (.tmp 116)) rfl hP hH ?_
  simp only [zz]
  refine zPn 34 119 (.fieldAddr 45 (.tmp 1) 5) rfl hP hH ?_
  simp only [zz]
  refine zPn 35 120 (.load 2 (.tmp 119)) rfl hP hH ?_
  simp only [zz]
  refine zPn 33 118 (.call { callee:=.value (.func 74),args:=#[.tmp 117,.const (.int .i64 32)],argTypes:=#[114,3] }) rfl hP hH ?_
  simp only [zz]
  refine zPn 36 121 (.binOp .neq 2 (.tmp 118) (.tmp 120) 2) rfl hP hH ?_
  simp only [zz]
  refine zPn 37 122 (.pick (.tmp 114) (.tmp 121) (.const (.bool false))) rfl hP hH ?_
  simp only [zz]
  refine zP0 38 123 (.pick (.tmp 111) (.const (.bool true)) (.tmp 122)) (.bool true) rfl hP hH ?_
  simp only [zz]
  refine wpAnyH_done (by kernel_rfl) ?_ _
  exact hQ.out
theorem r10_five  {x:Bool} (hX:rX 5 imm=x) (x5:w.cell? ⟨kx,5,none⟩=some (.int .i64 imm)) {u0 u2 u4 u5 u6 u7 u8 u9 u10 u11 u12 u13 u14 u15 u16 u17 u18 u19 u20 u21 u22 u23 u24 u25 u26 u27 u28 u29 u30 u31 u32 u33 u34 u35 u36 u37 u38 u39 u40 u41 u42 u43 u44 u45 u46 u47 u48 u49 u50 u51 u52 u53 u54 u55 u56 u57 u58 u59 u60 u61 u62 u63 u64 u65 u66 u67 u68 u69 u70 u71 u72 u73 u74 u75 u76 u77 u78 u79 u80 u81 u82 u83 u84 u85 u86 u87 u88 u89 u90 u91 u92 u93 u94 u95 u96 u97 u98 u99 u100 u101 u102 u103 u104 u105 u106 u107 u108 u109 u110 u111 u112 u113 u114 u115 u116 u117 u118 u119 u120 u121 u122 u123:Value}
  (hP:∀ c a d v w,Q (.panic c) (Act.put a d v) w→Q (.panic c) a w) (hQ:Hid (∀ {u0 u2 u4 u5 u6 u7 u8 u9 u10 u11 u12 u13 u14 u15 u16 u17 u18 u19 u20 u21 u22 u23 u24 u25 u26 u27 u28 u29 u30 u31 u32 u33 u34 u35 u36 u37 u38 u39 u40 u41 u42 u43 u44 u45 u46 u47 u48 u49 u50 u51 u52 u53 u54 u55 u56 u57 u58 u59 u60 u61 u62 u63 u64 u65 u66 u67 u68 u69 u70 u71 u72 u73 u74 u75 u76 u77 u78 u79 u80 u81 u82 u83 u84 u85 u86 u87 u88 u89 u90 u91 u92 u93 u94 u95 u96 u97 u98 u99 u100 u101 u102 u103 u104 u105 u106 u107 u108 u109 u110 u111 u112 u113 u114 u115 u116 u117 u118 u119 u120 u121 u122:Value},Q .normal ⟨#[u0,.pointer (some ⟨kx,0,none⟩),u2,.int .i64 5,u4,u5,u6,u7,u8,u9,u10,u11,u12,u13,u14,u15,u16,u17,u18,u19,u20,u21,u22,u23,u24,u25,u26,u27,u28,u29,u30,u31,u32,u33,u34,u35,u36,u37,u38,u39,u40,u41,u42,u43,u44,u45,u46,u47,u48,u49,u50,u51,u52,u53,u54,u55,u56,u57,u58,u59,u60,u61,u62,u63,u64,u65,u66,u67,u68,u69,u70,u71,u72,u73,u74,u75,u76,u77,u78,u79,u80,u81,u82,u83,u84,u85,u86,u87,u88,u89,u90,u91,u92,u93,u94,u95,u96,u97,u98,u99,u100,u101,u102,u103,u104,u105,u106,u107,u108,u109,u110,u111,u112,u113,u114,u115,u116,u117,u118,u119,u120,u121,u122,.bool x],[]⟩ w.drew)) :
  Code.wp Tryz.prog (Code.region 10 Rten1 true) Q ⟨#[u0,.pointer (some ⟨kx,0,none⟩),u2,.int .i64 5,u4,u5,u6,u7,u8,u9,u10,u11,u12,u13,u14,u15,u16,u17,u18,u19,u20,u21,u22,u23,u24,u25,u26,u27,u28,u29,u30,u31,u32,u33,u34,u35,u36,u37,u38,u39,u40,u41,u42,u43,u44,u45,u46,u47,u48,u49,u50,u51,u52,u53,u54,u55,u56,u57,u58,u59,u60,u61,u62,u63,u64,u65,u66,u67,u68,u69,u70,u71,u72,u73,u74,u75,u76,u77,u78,u79,u80,u81,u82,u83,u84,u85,u86,u87,u88,u89,u90,u91,u92,u93,u94,u95,u96,u97,u98,u99,u100,u101,u102,u103,u104,u105,u106,u107,u108,u109,u110,u111,u112,u113,u114,u115,u116,u117,u118,u119,u120,u121,u122,u123],[]⟩ w:=by
 delta Rten1
 have HX:=Lib.hid hX
 unfold rX at HX
 clear hX
 refine wp_region_held_drew (S:=fun w'=>w'=w.drew) (by kernel_rfl) rfl (fun hH=>?_)
 refine zP0 0 85 (.move (.tmp 3)) (.int .i64 5) rfl hP hH ?_
 simp only [zz]
 refine zP2 1 86 (.binOp .eql 3 (.tmp 85) (.const (.int .i64 5)) 3) (.bool true) rfl hP hH ?_
 simp only [zz]
 refine zP0 2 87 (.move (.tmp 86)) (.bool true) rfl hP hH ?_
 simp only [zz]
 refine zP2 3 88 (.fieldAddr 45 (.tmp 1) 5) (.pointer (some ⟨kx,5,none⟩)) rfl hP hH ?_
 simp only [zz]
 refine zP2 4 89 (.load 2 (.tmp 88)) (.int .i64 imm) rfl hP hH ?_
 simp only [zz]
 cases i1:decide (imm<1)
 ·refine zP2 5 90 (.binOp .lss 2 (.tmp 89) (.const (.int .i64 1)) 2) (.bool false) rfl hP hH ?_
  simp only [zz]
  refine zP0 6 91 (.move (.tmp 90)) (.bool false) rfl hP hH ?_
  simp only [zz]
  refine zP2 7 92 (.fieldAddr 45 (.tmp 1) 5) (.pointer (some ⟨kx,5,none⟩)) rfl hP hH ?_
  simp only [zz]
  refine zP2 8 93 (.load 2 (.tmp 92)) (.int .i64 imm) rfl hP hH ?_
  simp only [zz]
  cases i3:decide (3<imm)
  ·refine zP2 9 94 (.binOp .gtr 2 (.tmp 93) (.const (.int .i64 3)) 2) (.bool false) rfl hP hH ?_
   simp only [zz]
   refine zP0 10 95 (.pick (.tmp 91) (.const (.bool true)) (.tmp 94)) (.bool false) rfl hP hH ?_
   simp only [zz]
   refine zP0 11 96 (.pick (.tmp 87) (.tmp 95) (.const (.bool false))) (.bool false) rfl hP hH ?_
   simp only [zz]
   refine zP0 12 97 (.move (.tmp 96)) (.bool false) rfl hP hH ?_
   simp only [zz]
   refine zP0 13 98 (.move (.tmp 3)) (.int .i64 5) rfl hP hH ?_
   simp only [zz]
   refine zP2 14 99 (.binOp .eql 3 (.tmp 98) (.const (.int .i64 11)) 3) (.bool false) rfl hP hH ?_
   simp only [zz]
   refine zP0 15 100 (.move (.tmp 99)) (.bool false) rfl hP hH ?_
   simp only [zz]
   refine zPn 16 101 (.fieldAddr 45 (.tmp 1) 5) rfl hP hH ?_
   simp only [zz]
   refine zPn 17 102 (.load 2 (.tmp 101)) rfl hP hH ?_
   simp only [zz]
   refine zPn 18 103 (.binOp .lss 2 (.tmp 102) (.const (.int .i64 0)) 2) rfl hP hH ?_
   simp only [zz]
   refine zPn 19 104 (.move (.tmp 103)) rfl hP hH ?_
   simp only [zz]
   refine zPn 20 105 (.fieldAddr 45 (.tmp 1) 5) rfl hP hH ?_
   simp only [zz]
   refine zPn 21 106 (.load 2 (.tmp 105)) rfl hP hH ?_
   simp only [zz]
   refine zPn 22 107 (.binOp .gtr 2 (.tmp 106) (.const (.int .i64 254)) 2) rfl hP hH ?_
   simp only [zz]
   refine zPn 23 108 (.pick (.tmp 104) (.const (.bool true)) (.tmp 107)) rfl hP hH ?_
   simp only [zz]
   refine zP0 24 109 (.pick (.tmp 100) (.tmp 108) (.const (.bool false))) (.bool false) rfl hP hH ?_
   simp only [zz]
   refine zP0 25 110 (.pick (.tmp 97) (.const (.bool true)) (.tmp 109)) (.bool false) rfl hP hH ?_
   simp only [zz]
   refine zP0 26 111 (.move (.tmp 110)) (.bool false) rfl hP hH ?_
   simp only [zz]
   refine zP0 27 112 (.move (.tmp 3)) (.int .i64 5) rfl hP hH ?_
   simp only [zz]
   refine zP2 28 113 (.binOp .neq 3 (.tmp 112) (.const (.int .i64 10)) 3) (.bool true) rfl hP hH ?_
   simp only [zz]
   refine zP0 29 114 (.move (.tmp 113)) (.bool true) rfl hP hH ?_
   simp only [zz]
   refine zP2 30 115 (.fieldAddr 45 (.tmp 1) 5) (.pointer (some ⟨kx,5,none⟩)) rfl hP hH ?_
   simp only [zz]
   refine zP2 31 116 (.load 2 (.tmp 115)) (.int .i64 imm) rfl hP hH ?_
   simp only [zz]
   refine zP1 32 117 (.convert 2 114 (.tmp 116)) (.int .u64 (IntKind.u64.wrap imm)) rfl hP (fun wS hS=>by first|rfl|(subst hS;go_simp)) hH ?_
   simp only [zz]
   refine zP2 34 119 (.fieldAddr 45 (.tmp 1) 5) (.pointer (some ⟨kx,5,none⟩)) rfl hP hH ?_
   simp only [zz]
   refine zP2 35 120 (.load 2 (.tmp 119)) (.int .i64 imm) rfl hP hH ?_
   simp only [zz]
   refine wpAnyH_ready (rs:=[33]) (by kernel_rfl) (by simp) ?_
   refine AllReadyH.cons (o:=⟨some 118,.call { callee:=.value (.func 74),args:=#[.tmp 117,.const (.int .i64 32)],argTypes:=#[114,3] },_,_,_,some (29,true)⟩) rfl (fun K hK=>?_) AllReadyH.nil
   go_simp
   with_reducible refine (extend_is imm _ _ rfl).mono ?_
   rintro e w1 ⟨rfl,rfl⟩
   refine hK.out _ _ rfl (fun hH2=>?_)
   clear hK K hH
   cases se:(sx 32 imm==imm)
   ·have sn:(sx 32 imm != imm)=true:=by rw [bne,se];rfl
    obtain rfl:x=true:=by rw [← HX.out,i1,i3,sn];rfl
    clear HX
    refine zP2 36 121 (.binOp .neq 2 (.tmp 118) (.tmp 120) 2) (.bool true) rfl hP hH2 ?_
    simp only [zz]
    refine zP0 37 122 (.pick (.tmp 114) (.tmp 121) (.const (.bool false))) (.bool true) rfl hP hH2 ?_
    simp only [zz]
    refine zP0 38 123 (.pick (.tmp 111) (.const (.bool true)) (.tmp 122)) (.bool true) rfl hP hH2 ?_
    simp only [zz]
    refine wpAnyH_done (by kernel_rfl) ?_ _
    exact hQ.out
   ·have sn:(sx 32 imm != imm)=false:=by rw [bne,se];rfl
    obtain rfl:x=false:=by rw [← HX.out,i1,i3,sn];rfl
    clear HX
    refine zP2 36 121 (.binOp .neq 2 (.tmp 118) (.tmp 120) 2) (.bool false) rfl hP hH2 ?_
    simp only [zz]
    refine zP0 37 122 (.pick (.tmp 114) (.tmp 121) (.const (.bool false))) (.bool false) rfl hP hH2 ?_
    simp only [zz]
    refine zP0 38 123 (.pick (.tmp 111) (.const (.bool true)) (.tmp 122)) (.bool false) rfl hP hH2 ?_
    simp only [zz]
    refine wpAnyH_done (by kernel_rfl) ?_ _
    exact hQ.out
  ·obtain rfl:x=true:=by rw [← HX.out,i1,i3];rfl
   clear HX
   refine zP2 9 94 (.binOp .gtr 2 (.tmp 93) (.const (.int .i64 3)) 2) (.bool true) rfl hP hH ?_
   simp only [zz]
   refine zP0 10 95 (.pick (.tmp 91) (.const (.bool true)) (.tmp 94)) (.bool true) rfl hP hH ?_
   simp only [zz]
   refine zP0 11 96 (.pick (.tmp 87) (.tmp 95) (.const (.bool false))) (.bool true) rfl hP hH ?_
   simp only [zz]
   refine zP0 12 97 (.move (.tmp 96)) (.bool true) rfl hP hH ?_
   simp only [zz]
   refine zPn 13 98 (.move (.tmp 3)) rfl hP hH ?_
   simp only [zz]
   refine zPn 14 99 (.binOp .eql 3 (.tmp 98) (.const (.int .i64 11)) 3) rfl hP hH ?_
   simp only [zz]
   refine zPn 15 100 (.move (.tmp 99)) rfl hP hH ?_
   simp only [zz]
   refine zPn 16 101 (.fieldAddr 45 (.tmp 1) 5) rfl hP hH ?_
   simp only [zz]
   refine zPn 17 102 (.load 2 (.tmp 101)) rfl hP hH ?_
   simp only [zz]
   refine zPn 18 103 (.binOp .lss 2 (.tmp 102) (.const (.int .i64 0)) 2) rfl hP hH ?_
   simp only [zz]
   refine zPn 19 104 (.move (.tmp 103)) rfl hP hH ?_
   simp only [zz]
   refine zPn 20 105 (.fieldAddr 45 (.tmp 1) 5) rfl hP hH ?_
   simp only [zz]
   refine zPn 21 106 (.load 2 (.tmp 105)) rfl hP hH ?_
   simp only [zz]
   refine zPn 22 107 (.binOp .gtr 2 (.tmp 106) (.const (.int .i64 254)) 2) rfl hP hH ?_
   simp only [zz]
   refine zPn 23 108 (.pick (.tmp 104) (.const (.bool true)) (.tmp 107)) rfl hP hH ?_
   simp only [zz]
   refine zPn 24 109 (.pick (.tmp 100) (.tmp 108) (.const (.bool false))) rfl hP hH ?_
   simp only [zz]
   refine zP0 25 110 (.pick (.tmp 97) (.const (.bool true)) (.tmp 109)) (.bool true) rfl hP hH ?_
   simp only [zz]
   refine zP0 26 111 (.move (.tmp 110)) (.bool true) rfl hP hH ?_
   simp only [zz]
   refine zPn 27 112 (.move (.tmp 3)) rfl hP hH ?_
   simp only [zz]
   refine zPn 28 113 (.binOp .neq 3 (.tmp 112) (.const (.int .i64 10)) 3) rfl hP hH ?_
   simp only [zz]
   refine zPn 29 114 (.move (.tmp 113)) rfl hP hH ?_
   simp only [zz]
   refine zPn 30 115 (.fieldAddr 45 (.tmp 1) 5) rfl hP hH ?_
   simp only [zz]
   refine zPn 31 116 (.load 2 (.tmp 115)) rfl hP hH ?_
   simp only [zz]
   refine zPn 32 117 (.convert 2 114 (.tmp 116)) rfl hP hH ?_
   simp only [zz]
   refine zPn 34 119 (.fieldAddr 45 (.tmp 1) 5) rfl hP hH ?_
   simp only [zz]
   refine zPn 35 120 (.load 2 (.tmp 119)) rfl hP hH ?_
   simp only [zz]
   refine zPn 33 118 (.call { callee:=.value (.func 74),args:=#[.tmp 117,.const (.int .i64 32)],argTypes:=#[114,3] }) rfl hP hH ?_
   simp only [zz]
   refine zPn 36 121 (.binOp .neq 2 (.tmp 118) (.tmp 120) 2) rfl hP hH ?_
   simp only [zz]
   refine zPn 37 122 (.pick (.tmp 114) (.tmp 121) (.const (.bool false))) rfl hP hH ?_
   simp only [zz]
   refine zP0 38 123 (.pick (.tmp 111) (.const (.bool true)) (.tmp 122)) (.bool true) rfl hP hH ?_
   simp only [zz]
   refine wpAnyH_done (by kernel_rfl) ?_ _
   exact hQ.out
 ·obtain rfl:x=true:=by rw [← HX.out,i1];rfl
  clear HX
  refine zP2 5 90 (.binOp .lss 2 (.tmp 89) (.const (.int .i64 1)) 2) (.bool true) rfl hP hH ?_
  simp only [zz]
  refine zP0 6 91 (.move (.tmp 90)) (.bool true) rfl hP hH ?_
  simp only [zz]
  refine zPn 7 92 (.fieldAddr 45 (.tmp 1) 5) rfl hP hH ?_
  simp only [zz]
  refine zPn 8 93 (.load 2 (.tmp 92)) rfl hP hH ?_
  simp only [zz]
  refine zPn 9 94 (.binOp .gtr 2 (.tmp 93) (.const (.int .i64 3)) 2) rfl hP hH ?_
  simp only [zz]
  refine zP0 10 95 (.pick (.tmp 91) (.const (.bool true)) (.tmp 94)) (.bool true) rfl hP hH ?_
  simp only [zz]
  refine zP0 11 96 (.pick (.tmp 87) (.tmp 95) (.const (.bool false))) (.bool true) rfl hP hH ?_
  simp only [zz]
  refine zP0 12 97 (.move (.tmp 96)) (.bool true) rfl hP hH ?_
  simp only [zz]
  refine zPn 13 98 (.move (.tmp 3)) rfl hP hH ?_
  simp only [zz]
  refine zPn 14 99 (.binOp .eql 3 (.tmp 98) (.const (.int .i64 11)) 3) rfl hP hH ?_
  simp only [zz]
  refine zPn 15 100 (.move (.tmp 99)) rfl hP hH ?_
  simp only [zz]
  refine zPn 16 101 (.fieldAddr 45 (.tmp 1) 5) rfl hP hH ?_
  simp only [zz]
  refine zPn 17 102 (.load 2 (.tmp 101)) rfl hP hH ?_
  simp only [zz]
  refine zPn 18 103 (.binOp .lss 2 (.tmp 102) (.const (.int .i64 0)) 2) rfl hP hH ?_
  simp only [zz]
  refine zPn 19 104 (.move (.tmp 103)) rfl hP hH ?_
  simp only [zz]
  refine zPn 20 105 (.fieldAddr 45 (.tmp 1) 5) rfl hP hH ?_
  simp only [zz]
  refine zPn 21 106 (.load 2 (.tmp 105)) rfl hP hH ?_
  simp only [zz]
  refine zPn 22 107 (.binOp .gtr 2 (.tmp 106) (.const (.int .i64 254)) 2) rfl hP hH ?_
  simp only [zz]
  refine zPn 23 108 (.pick (.tmp 104) (.const (.bool true)) (.tmp 107)) rfl hP hH ?_
  simp only [zz]
  refine zPn 24 109 (.pick (.tmp 100) (.tmp 108) (.const (.bool false))) rfl hP hH ?_
  simp only [zz]
  refine zP0 25 110 (.pick (.tmp 97) (.const (.bool true)) (.tmp 109)) (.bool true) rfl hP hH ?_
  simp only [zz]
  refine zP0 26 111 (.move (.tmp 110)) (.bool true) rfl hP hH ?_
  simp only [zz]
  refine zPn 27 112 (.move (.tmp 3)) rfl hP hH ?_
  simp only [zz]
  refine zPn 28 113 (.binOp .neq 3 (.tmp 112) (.const (.int .i64 10)) 3) rfl hP hH ?_
  simp only [zz]
  refine zPn 29 114 (.move (.tmp 113)) rfl hP hH ?_
  simp only [zz]
  refine zPn 30 115 (.fieldAddr 45 (.tmp 1) 5) rfl hP hH ?_
  simp only [zz]
  refine zPn 31 116 (.load 2 (.tmp 115)) rfl hP hH ?_
  simp only [zz]
  refine zPn 32 117 (.convert 2 114 (.tmp 116)) rfl hP hH ?_
  simp only [zz]
  refine zPn 34 119 (.fieldAddr 45 (.tmp 1) 5) rfl hP hH ?_
  simp only [zz]
  refine zPn 35 120 (.load 2 (.tmp 119)) rfl hP hH ?_
  simp only [zz]
  refine zPn 33 118 (.call { callee:=.value (.func 74),args:=#[.tmp 117,.const (.int .i64 32)],argTypes:=#[114,3] }) rfl hP hH ?_
  simp only [zz]
  refine zPn 36 121 (.binOp .neq 2 (.tmp 118) (.tmp 120) 2) rfl hP hH ?_
  simp only [zz]
  refine zPn 37 122 (.pick (.tmp 114) (.tmp 121) (.const (.bool false))) rfl hP hH ?_
  simp only [zz]
  refine zP0 38 123 (.pick (.tmp 111) (.const (.bool true)) (.tmp 122)) (.bool true) rfl hP hH ?_
  simp only [zz]
  refine wpAnyH_done (by kernel_rfl) ?_ _
  exact hQ.out
theorem r10_oth (e5:(f==5)=false) (e11:(f==11)=false) (e10:(f==10)=false) {x:Bool} (hX:rX f imm=x) (x5:w.cell? ⟨kx,5,none⟩=some (.int .i64 imm)) {u0 u2 u4 u5 u6 u7 u8 u9 u10 u11 u12 u13 u14 u15 u16 u17 u18 u19 u20 u21 u22 u23 u24 u25 u26 u27 u28 u29 u30 u31 u32 u33 u34 u35 u36 u37 u38 u39 u40 u41 u42 u43 u44 u45 u46 u47 u48 u49 u50 u51 u52 u53 u54 u55 u56 u57 u58 u59 u60 u61 u62 u63 u64 u65 u66 u67 u68 u69 u70 u71 u72 u73 u74 u75 u76 u77 u78 u79 u80 u81 u82 u83 u84 u85 u86 u87 u88 u89 u90 u91 u92 u93 u94 u95 u96 u97 u98 u99 u100 u101 u102 u103 u104 u105 u106 u107 u108 u109 u110 u111 u112 u113 u114 u115 u116 u117 u118 u119 u120 u121 u122 u123:Value}
  (hP:∀ c a d v w,Q (.panic c) (Act.put a d v) w→Q (.panic c) a w) (hQ:Hid (∀ {u0 u2 u4 u5 u6 u7 u8 u9 u10 u11 u12 u13 u14 u15 u16 u17 u18 u19 u20 u21 u22 u23 u24 u25 u26 u27 u28 u29 u30 u31 u32 u33 u34 u35 u36 u37 u38 u39 u40 u41 u42 u43 u44 u45 u46 u47 u48 u49 u50 u51 u52 u53 u54 u55 u56 u57 u58 u59 u60 u61 u62 u63 u64 u65 u66 u67 u68 u69 u70 u71 u72 u73 u74 u75 u76 u77 u78 u79 u80 u81 u82 u83 u84 u85 u86 u87 u88 u89 u90 u91 u92 u93 u94 u95 u96 u97 u98 u99 u100 u101 u102 u103 u104 u105 u106 u107 u108 u109 u110 u111 u112 u113 u114 u115 u116 u117 u118 u119 u120 u121 u122:Value},Q .normal ⟨#[u0,.pointer (some ⟨kx,0,none⟩),u2,.int .i64 f,u4,u5,u6,u7,u8,u9,u10,u11,u12,u13,u14,u15,u16,u17,u18,u19,u20,u21,u22,u23,u24,u25,u26,u27,u28,u29,u30,u31,u32,u33,u34,u35,u36,u37,u38,u39,u40,u41,u42,u43,u44,u45,u46,u47,u48,u49,u50,u51,u52,u53,u54,u55,u56,u57,u58,u59,u60,u61,u62,u63,u64,u65,u66,u67,u68,u69,u70,u71,u72,u73,u74,u75,u76,u77,u78,u79,u80,u81,u82,u83,u84,u85,u86,u87,u88,u89,u90,u91,u92,u93,u94,u95,u96,u97,u98,u99,u100,u101,u102,u103,u104,u105,u106,u107,u108,u109,u110,u111,u112,u113,u114,u115,u116,u117,u118,u119,u120,u121,u122,.bool x],[]⟩ w.drew)) :
  Code.wp Tryz.prog (Code.region 10 Rten1 true) Q ⟨#[u0,.pointer (some ⟨kx,0,none⟩),u2,.int .i64 f,u4,u5,u6,u7,u8,u9,u10,u11,u12,u13,u14,u15,u16,u17,u18,u19,u20,u21,u22,u23,u24,u25,u26,u27,u28,u29,u30,u31,u32,u33,u34,u35,u36,u37,u38,u39,u40,u41,u42,u43,u44,u45,u46,u47,u48,u49,u50,u51,u52,u53,u54,u55,u56,u57,u58,u59,u60,u61,u62,u63,u64,u65,u66,u67,u68,u69,u70,u71,u72,u73,u74,u75,u76,u77,u78,u79,u80,u81,u82,u83,u84,u85,u86,u87,u88,u89,u90,u91,u92,u93,u94,u95,u96,u97,u98,u99,u100,u101,u102,u103,u104,u105,u106,u107,u108,u109,u110,u111,u112,u113,u114,u115,u116,u117,u118,u119,u120,u121,u122,u123],[]⟩ w:=by
 delta Rten1
 have HX:=Lib.hid hX
 unfold rX at HX
 clear hX
 have n10:(f != 10)=true:=by rw [bne,e10];rfl
 refine wp_region_held_drew (S:=fun w'=>w'=w.drew) (by kernel_rfl) rfl (fun hH=>?_)
 refine zP0 0 85 (.move (.tmp 3)) (.int .i64 f) rfl hP hH ?_
 simp only [zz]
 refine zP2 1 86 (.binOp .eql 3 (.tmp 85) (.const (.int .i64 5)) 3) (.bool false) rfl hP hH ?_
 simp only [zz]
 refine zP0 2 87 (.move (.tmp 86)) (.bool false) rfl hP hH ?_
 simp only [zz]
 refine zPn 3 88 (.fieldAddr 45 (.tmp 1) 5) rfl hP hH ?_
 simp only [zz]
 refine zPn 4 89 (.load 2 (.tmp 88)) rfl hP hH ?_
 simp only [zz]
 refine zPn 5 90 (.binOp .lss 2 (.tmp 89) (.const (.int .i64 1)) 2) rfl hP hH ?_
 simp only [zz]
 refine zPn 6 91 (.move (.tmp 90)) rfl hP hH ?_
 simp only [zz]
 refine zPn 7 92 (.fieldAddr 45 (.tmp 1) 5) rfl hP hH ?_
 simp only [zz]
 refine zPn 8 93 (.load 2 (.tmp 92)) rfl hP hH ?_
 simp only [zz]
 refine zPn 9 94 (.binOp .gtr 2 (.tmp 93) (.const (.int .i64 3)) 2) rfl hP hH ?_
 simp only [zz]
 refine zPn 10 95 (.pick (.tmp 91) (.const (.bool true)) (.tmp 94)) rfl hP hH ?_
 simp only [zz]
 refine zP0 11 96 (.pick (.tmp 87) (.tmp 95) (.const (.bool false))) (.bool false) rfl hP hH ?_
 simp only [zz]
 refine zP0 12 97 (.move (.tmp 96)) (.bool false) rfl hP hH ?_
 simp only [zz]
 refine zP0 13 98 (.move (.tmp 3)) (.int .i64 f) rfl hP hH ?_
 simp only [zz]
 refine zP2 14 99 (.binOp .eql 3 (.tmp 98) (.const (.int .i64 11)) 3) (.bool false) rfl hP hH ?_
 simp only [zz]
 refine zP0 15 100 (.move (.tmp 99)) (.bool false) rfl hP hH ?_
 simp only [zz]
 refine zPn 16 101 (.fieldAddr 45 (.tmp 1) 5) rfl hP hH ?_
 simp only [zz]
 refine zPn 17 102 (.load 2 (.tmp 101)) rfl hP hH ?_
 simp only [zz]
 refine zPn 18 103 (.binOp .lss 2 (.tmp 102) (.const (.int .i64 0)) 2) rfl hP hH ?_
 simp only [zz]
 refine zPn 19 104 (.move (.tmp 103)) rfl hP hH ?_
 simp only [zz]
 refine zPn 20 105 (.fieldAddr 45 (.tmp 1) 5) rfl hP hH ?_
 simp only [zz]
 refine zPn 21 106 (.load 2 (.tmp 105)) rfl hP hH ?_
 simp only [zz]
 refine zPn 22 107 (.binOp .gtr 2 (.tmp 106) (.const (.int .i64 254)) 2) rfl hP hH ?_
 simp only [zz]
 refine zPn 23 108 (.pick (.tmp 104) (.const (.bool true)) (.tmp 107)) rfl hP hH ?_
 simp only [zz]
 refine zP0 24 109 (.pick (.tmp 100) (.tmp 108) (.const (.bool false))) (.bool false) rfl hP hH ?_
 simp only [zz]
 refine zP0 25 110 (.pick (.tmp 97) (.const (.bool true)) (.tmp 109)) (.bool false) rfl hP hH ?_
 simp only [zz]
 refine zP0 26 111 (.move (.tmp 110)) (.bool false) rfl hP hH ?_
 simp only [zz]
 refine zP0 27 112 (.move (.tmp 3)) (.int .i64 f) rfl hP hH ?_
 simp only [zz]
 refine zP2 28 113 (.binOp .neq 3 (.tmp 112) (.const (.int .i64 10)) 3) (.bool true) rfl hP hH ?_
 simp only [zz]
 refine zP0 29 114 (.move (.tmp 113)) (.bool true) rfl hP hH ?_
 simp only [zz]
 refine zP2 30 115 (.fieldAddr 45 (.tmp 1) 5) (.pointer (some ⟨kx,5,none⟩)) rfl hP hH ?_
 simp only [zz]
 refine zP2 31 116 (.load 2 (.tmp 115)) (.int .i64 imm) rfl hP hH ?_
 simp only [zz]
 refine zP1 32 117 (.convert 2 114 (.tmp 116)) (.int .u64 (IntKind.u64.wrap imm)) rfl hP (fun wS hS=>by first|rfl|(subst hS;go_simp)) hH ?_
 simp only [zz]
 refine zP2 34 119 (.fieldAddr 45 (.tmp 1) 5) (.pointer (some ⟨kx,5,none⟩)) rfl hP hH ?_
 simp only [zz]
 refine zP2 35 120 (.load 2 (.tmp 119)) (.int .i64 imm) rfl hP hH ?_
 simp only [zz]
 refine wpAnyH_ready (rs:=[33]) (by kernel_rfl) (by simp) ?_
 refine AllReadyH.cons (o:=⟨some 118,.call { callee:=.value (.func 74),args:=#[.tmp 117,.const (.int .i64 32)],argTypes:=#[114,3] },_,_,_,some (29,true)⟩) rfl (fun K hK=>?_) AllReadyH.nil
 go_simp
 with_reducible refine (extend_is imm _ _ rfl).mono ?_
 rintro e w1 ⟨rfl,rfl⟩
 refine hK.out _ _ rfl (fun hH2=>?_)
 clear hK K hH
 cases se:(sx 32 imm==imm)
 ·have sn:(sx 32 imm != imm)=true:=by rw [bne,se];rfl
  obtain rfl:x=true:=by rw [← HX.out,e5,e11,n10,sn];rfl
  clear HX
  refine zP2 36 121 (.binOp .neq 2 (.tmp 118) (.tmp 120) 2) (.bool true) rfl hP hH2 ?_
  simp only [zz]
  refine zP0 37 122 (.pick (.tmp 114) (.tmp 121) (.const (.bool false))) (.bool true) rfl hP hH2 ?_
  simp only [zz]
  refine zP0 38 123 (.pick (.tmp 111) (.const (.bool true)) (.tmp 122)) (.bool true) rfl hP hH2 ?_
  simp only [zz]
  refine wpAnyH_done (by kernel_rfl) ?_ _
  exact hQ.out
 ·have sn:(sx 32 imm != imm)=false:=by rw [bne,se];rfl
  obtain rfl:x=false:=by rw [← HX.out,e5,e11,n10,sn];rfl
  clear HX
  refine zP2 36 121 (.binOp .neq 2 (.tmp 118) (.tmp 120) 2) (.bool false) rfl hP hH2 ?_
  simp only [zz]
  refine zP0 37 122 (.pick (.tmp 114) (.tmp 121) (.const (.bool false))) (.bool false) rfl hP hH2 ?_
  simp only [zz]
  refine zP0 38 123 (.pick (.tmp 111) (.const (.bool true)) (.tmp 122)) (.bool false) rfl hP hH2 ?_
  simp only [zz]
  refine wpAnyH_done (by kernel_rfl) ?_ _
  exact hQ.out
theorem r10_at {x:Bool} (hX:rX f imm=x) (x5:w.cell? ⟨kx,5,none⟩=some (.int .i64 imm)) {u0 u2 u4 u5 u6 u7 u8 u9 u10 u11 u12 u13 u14 u15 u16 u17 u18 u19 u20 u21 u22 u23 u24 u25 u26 u27 u28 u29 u30 u31 u32 u33 u34 u35 u36 u37 u38 u39 u40 u41 u42 u43 u44 u45 u46 u47 u48 u49 u50 u51 u52 u53 u54 u55 u56 u57 u58 u59 u60 u61 u62 u63 u64 u65 u66 u67 u68 u69 u70 u71 u72 u73 u74 u75 u76 u77 u78 u79 u80 u81 u82 u83 u84 u85 u86 u87 u88 u89 u90 u91 u92 u93 u94 u95 u96 u97 u98 u99 u100 u101 u102 u103 u104 u105 u106 u107 u108 u109 u110 u111 u112 u113 u114 u115 u116 u117 u118 u119 u120 u121 u122 u123:Value}
  (hP:∀ c a d v w,Q (.panic c) (Act.put a d v) w→Q (.panic c) a w) (hQ:Hid (∀ {u0 u2 u4 u5 u6 u7 u8 u9 u10 u11 u12 u13 u14 u15 u16 u17 u18 u19 u20 u21 u22 u23 u24 u25 u26 u27 u28 u29 u30 u31 u32 u33 u34 u35 u36 u37 u38 u39 u40 u41 u42 u43 u44 u45 u46 u47 u48 u49 u50 u51 u52 u53 u54 u55 u56 u57 u58 u59 u60 u61 u62 u63 u64 u65 u66 u67 u68 u69 u70 u71 u72 u73 u74 u75 u76 u77 u78 u79 u80 u81 u82 u83 u84 u85 u86 u87 u88 u89 u90 u91 u92 u93 u94 u95 u96 u97 u98 u99 u100 u101 u102 u103 u104 u105 u106 u107 u108 u109 u110 u111 u112 u113 u114 u115 u116 u117 u118 u119 u120 u121 u122:Value},Q .normal ⟨#[u0,.pointer (some ⟨kx,0,none⟩),u2,.int .i64 f,u4,u5,u6,u7,u8,u9,u10,u11,u12,u13,u14,u15,u16,u17,u18,u19,u20,u21,u22,u23,u24,u25,u26,u27,u28,u29,u30,u31,u32,u33,u34,u35,u36,u37,u38,u39,u40,u41,u42,u43,u44,u45,u46,u47,u48,u49,u50,u51,u52,u53,u54,u55,u56,u57,u58,u59,u60,u61,u62,u63,u64,u65,u66,u67,u68,u69,u70,u71,u72,u73,u74,u75,u76,u77,u78,u79,u80,u81,u82,u83,u84,u85,u86,u87,u88,u89,u90,u91,u92,u93,u94,u95,u96,u97,u98,u99,u100,u101,u102,u103,u104,u105,u106,u107,u108,u109,u110,u111,u112,u113,u114,u115,u116,u117,u118,u119,u120,u121,u122,.bool x],[]⟩ w.drew)) :
  Code.wp Tryz.prog (Code.region 10 Rten1 true) Q ⟨#[u0,.pointer (some ⟨kx,0,none⟩),u2,.int .i64 f,u4,u5,u6,u7,u8,u9,u10,u11,u12,u13,u14,u15,u16,u17,u18,u19,u20,u21,u22,u23,u24,u25,u26,u27,u28,u29,u30,u31,u32,u33,u34,u35,u36,u37,u38,u39,u40,u41,u42,u43,u44,u45,u46,u47,u48,u49,u50,u51,u52,u53,u54,u55,u56,u57,u58,u59,u60,u61,u62,u63,u64,u65,u66,u67,u68,u69,u70,u71,u72,u73,u74,u75,u76,u77,u78,u79,u80,u81,u82,u83,u84,u85,u86,u87,u88,u89,u90,u91,u92,u93,u94,u95,u96,u97,u98,u99,u100,u101,u102,u103,u104,u105,u106,u107,u108,u109,u110,u111,u112,u113,u114,u115,u116,u117,u118,u119,u120,u121,u122,u123],[]⟩ w:=by
 delta Rten1
 cases e5:(f==5)
 ·cases e11:(f==11)
  ·cases e10:(f==10)
   ·exact r10_oth e5 e11 e10 hX x5 hP hQ
   ·obtain rfl:f=10:=by simpa using e10
    exact r10_ten hX x5 hP hQ
  ·obtain rfl:f=11:=by simpa using e11
   exact r10_el hX x5 hP hQ
 ·obtain rfl:f=5:=by simpa using e5
  exact r10_five hX x5 hP hQ
end
end Go.Proofs.YtihiggnglmhggaaGreatDoor.L4
