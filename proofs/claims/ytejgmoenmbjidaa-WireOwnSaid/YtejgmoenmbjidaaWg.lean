/-
  A part of the proof: what the program's functions hand back,as theorems. No condition but those that each theorem names.
-/
import Derived.Test.YtejgmoenmbjidaaWf
set_option linter.unusedSimpArgs false
set_option linter.unusedVariables false
namespace Go.Proofs.Ytejgmoenmbjidaa
open _root_.Go.Proofs.Try (prog)
open Go.RowKit Go.Ev
set_option maxRecDepth 100000
noncomputable section
def F15 (x0 x1 x2 x3 x4 x5 x6 x7 x8 x9 xA xB xC xD xE:Z6):VT:=⟨15,(.node (.node (.node (.node .nil x7 .nil) x3 (.node .nil xB .nil)) x1 (.node (.node .nil x9 .nil) x5 (.node .nil xD .nil))) x0 (.node (.node (.node .nil x8 .nil) x4 (.node .nil xC .nil)) x2 (.node (.node .nil xA .nil) x6 (.node .nil xE .nil))))⟩
theorem lU1 (x0 x1 x2 x3 x4 x5 x6 x7 x8 x9 xA xB xC xD xE:Z6):(F15 x0 x1 x2 x3 x4 x5 x6 x7 x8 x9 xA xB xC xD xE).arr=⟨[x0,x1,x2,x3,x4,x5,x6,x7,x8,x9,xA,xB,xC,xD,xE]⟩:=Z7
def F56 (x0 x1 x2 x3 x4 x5 x6 x7 x8 x9 xA xB xC xD xE xF xG xH xI xJ xK xL xM xN xO xP xQ xR xS xT xU xV xW xX xY xZ yA yB yC yD yE yF yG yH yI yJ yK yL yM yN yO yP yQ yR yS yT:Z6):VT:=⟨56,(.node (.node (.node (.node (.node (.node .nil xV .nil) xF (.node .nil yL .nil)) x7 (.node (.node .nil yD .nil) xN (.node .nil yT .nil))) x3 (.node (.node (.node .nil xZ .nil) xJ (.node .nil yP .nil)) xB (.node (.node .nil yH .nil) xR .nil))) x1 (.node (.node (.node (.node .nil xX .nil) xH (.node .nil yN .nil)) x9 (.node (.node .nil yF .nil) xP .nil)) x5 (.node (.node (.node .nil yB .nil) xL (.node .nil yR .nil)) xD (.node (.node .nil yJ .nil) xT .nil)))) x0 (.node (.node (.node (.node (.node .nil xW .nil) xG (.node .nil yM .nil)) x8 (.node (.node .nil yE .nil) xO .nil)) x4 (.node (.node (.node .nil yA .nil) xK (.node .nil yQ .nil)) xC (.node (.node .nil yI .nil) xS .nil))) x2 (.node (.node (.node (.node .nil xY .nil) xI (.node .nil yO .nil)) xA (.node (.node .nil yG .nil) xQ .nil)) x6 (.node (.node (.node .nil yC .nil) xM (.node .nil yS .nil)) xE (.node (.node .nil yK .nil) xU .nil)))))⟩
theorem lG1 (x0 x1 x2 x3 x4 x5 x6 x7 x8 x9 xA xB xC xD xE xF xG xH xI xJ xK xL xM xN xO xP xQ xR xS xT xU xV xW xX xY xZ yA yB yC yD yE yF yG yH yI yJ yK yL yM yN yO yP yQ yR yS yT:Z6):(F56 x0 x1 x2 x3 x4 x5 x6 x7 x8 x9 xA xB xC xD xE xF xG xH xI xJ xK xL xM xN xO xP xQ xR xS xT xU xV xW xX xY xZ yA yB yC yD yE yF yG yH yI yJ yK yL yM yN yO yP yQ yR yS yT).arr=⟨[x0,x1,x2,x3,x4,x5,x6,x7,x8,x9,xA,xB,xC,xD,xE,xF,xG,xH,xI,xJ,xK,xL,xM,xN,xO,xP,xQ,xR,xS,xT,xU,xV,xW,xX,xY,xZ,yA,yB,yC,yD,yE,yF,yG,yH,yI,yJ,yK,yL,yM,yN,yO,yP,yQ,yR,yS,yT]⟩:=Z7
@[push_cast]theorem F15_g4 (x0 x1 x2 x3 x4 x5 x6 x7 x8 x9 xA xB xC xD xE:Z6):(F15 x0 x1 x2 x3 x4 x5 x6 x7 x8 x9 xA xB xC xD xE).get 4=x4:=Z7
@[push_cast]theorem F56_g0 (x0 x1 x2 x3 x4 x5 x6 x7 x8 x9 xA xB xC xD xE xF xG xH xI xJ xK xL xM xN xO xP xQ xR xS xT xU xV xW xX xY xZ yA yB yC yD yE yF yG yH yI yJ yK yL yM yN yO yP yQ yR yS yT:Z6):(F56 x0 x1 x2 x3 x4 x5 x6 x7 x8 x9 xA xB xC xD xE xF xG xH xI xJ xK xL xM xN xO xP xQ xR xS xT xU xV xW xX xY xZ yA yB yC yD yE yF yG yH yI yJ yK yL yM yN yO yP yQ yR yS yT).get 0=x0:=Z7
theorem eV1 (G:Nat)(h:jB)(R:Z6→jB→Prop):vc3 (pp G) none ir10 ⟨(F56 undef undef undef undef undef undef undef undef undef undef undef undef undef undef undef undef undef undef undef undef undef undef undef undef undef undef undef undef undef undef undef undef undef undef undef undef undef undef undef undef undef undef undef undef undef undef undef undef undef undef undef undef undef undef undef undef),[],h⟩ (jZ prog [(.tmp 0)] R)=(oT (some (.bool false)) none h (@kk ⟨λv1 h2=>oE (bsE (slT prog 22) 1 [(0,(.int .i64 7))] h2) (@kk ⟨λv3 h4=>jK (pp G) (.func (.func 11) #[] #[]) [v3] h4 (@kk ⟨λv5 h6=>oT (some v5) none h6 (@kk ⟨λv7 h8=>oT (some v7) none h8 (@kk ⟨λv9 h10=>oT (jF prog .eql 24 (.tmp 8) (.const (.pointer none)) v9 (.pointer none)) none h10 (@kk ⟨λv11 h12=>oT (some v11) none h12 (@kk ⟨λv13 h14=>gT v13 false (some v7) none h14 (@kk ⟨λv15 h16=>gC (pp G) v13 false (.func (.func 21) #[] #[]) [v15] h16 (@kk ⟨λv17 h18=>gT v13 false (lnB (lnT prog 36) v17) none h18 (@kk ⟨λv19 h20=>gT v13 false (jF prog .neq 3 (.tmp 13) (.const (.int .i64 0)) v19 (.int .i64 0)) none h20 (@kk ⟨λv21 h22=>oT (kI v13 (.bool true) v21) none h22 (@kk ⟨λv23 h24=>jR v23 (@kb ⟨oT (some (.bool false)) none h24 (@kk ⟨λv25 h26=>R v25 h26⟩)⟩) (@kb ⟨oT (some v7) none h24 (@kk ⟨λv27 h28=>oT (bdV (plc prog 31) [(0,(.string (Tx [112,97,121]))),(1,(.int .i64 3))]) none h28 (@kk ⟨λv29 h30=>jK (pp G) (.func (.func 24) #[] #[]) [v27,v29] h30 (@kk ⟨λv31 h32=>oT (some v7) none h32 (@kk ⟨λv33 h34=>jK (pp G) (.func (.func 15) #[] #[]) [v33,(.int .i64 0)] h34 (@kk ⟨λv35 h36=>oT (some v35) none h36 (@kk ⟨λv37 h38=>oT (extV v37 0) none h38 (@kk ⟨λv39 h40=>oT (extV v37 1) none h40 (@kk ⟨λv41 h42=>oE (alE (zro prog 31) 31 h42) (@kk ⟨λv43 h44=>oE (stE (szT prog 31) v43 v39 h44) (@kk ⟨λv45 h46=>oT (some v41) none h46 (@kk ⟨λv47 h48=>oT (some v7) none h48 (@kk ⟨λv49 h50=>jK (pp G) (.func (.func 15) #[] #[]) [v49,(.int .i64 0)] h50 (@kk ⟨λv51 h52=>oT (some v51) none h52 (@kk ⟨λv53 h54=>oT (extV v53 0) none h54 (@kk ⟨λv55 h56=>oT (extV v53 1) none h56 (@kk ⟨λv57 h58=>oE (alE (zro prog 31) 31 h58) (@kk ⟨λv59 h60=>oE (stE (szT prog 31) v59 v55 h60) (@kk ⟨λv61 h62=>oT (some v57) none h62 (@kk ⟨λv63 h64=>oT (some v47) none h64 (@kk ⟨λv65 h66=>oT (unV prog .not v65) none h66 (@kk ⟨λv67 h68=>oT (some v67) none h68 (@kk ⟨λv69 h70=>gT v69 true (some v63) none h70 (@kk ⟨λv71 h72=>oT (kI v69 v71 (.bool false)) none h72 (@kk ⟨λv73 h74=>oT (some v73) none h74 (@kk ⟨λv75 h76=>gT v75 true (faV (fld prog 31 2) v59) none h76 (@kk ⟨λv77 h78=>gT v75 true (jA prog 3 v77 h78) none h78 (@kk ⟨λv79 h80=>gT v75 true (jF prog .eql 3 (.tmp 36) (.const (.int .i64 7)) v79 (.int .i64 7)) none h80 (@kk ⟨λv81 h82=>oT (kI v75 v81 (.bool false)) none h82 (@kk ⟨λv83 h84=>oT (some v83) none h84 (@kk ⟨λv85 h86=>gT v85 true (faV (fld prog 31 1) v59) none h86 (@kk ⟨λv87 h88=>gT v85 true (jA prog 3 v87 h88) none h88 (@kk ⟨λv89 h90=>gT v85 true (jF prog .eql 3 (.tmp 41) (.const (.int .i64 3)) v89 (.int .i64 3)) none h90 (@kk ⟨λv91 h92=>oT (kI v85 v91 (.bool false)) none h92 (@kk ⟨λv93 h94=>oT (some v93) none h94 (@kk ⟨λv95 h96=>gT v95 true (some v7) none h96 (@kk ⟨λv97 h98=>gC (pp G) v95 true (.func (.func 23) #[] #[]) [v97] h98 (@kk ⟨λv99 h100=>gT v95 true (lnB (lnT prog 39) v99) none h100 (@kk ⟨λv101 h102=>gT v95 true (jF prog .eql 3 (.tmp 47) (.const (.int .i64 1)) v101 (.int .i64 1)) none h102 (@kk ⟨λv103 h104=>oT (kI v95 v103 (.bool false)) none h104 (@kk ⟨λv105 h106=>oT (some v105) none h106 (@kk ⟨λv107 h108=>gT v107 true (some v7) none h108 (@kk ⟨λv109 h110=>gC (pp G) v107 true (.func (.func 27) #[] #[]) [v109] h110 (@kk ⟨λv111 h112=>gT v107 true (lnB (lnT prog 22) v111) none h112 (@kk ⟨λv113 h114=>gT v107 true (jF prog .eql 3 (.tmp 53) (.const (.int .i64 0)) v113 (.int .i64 0)) none h114 (@kk ⟨λv115 h116=>oT (kI v107 v115 (.bool false)) none h116 (@kk ⟨λv117 h118=>oT (some v117) none h118 (@kk ⟨λv119 h120=>R v119 h120⟩)⟩)⟩)⟩)⟩)⟩)⟩)⟩)⟩)⟩)⟩)⟩)⟩)⟩)⟩)⟩)⟩)⟩)⟩)⟩)⟩)⟩)⟩)⟩)⟩)⟩)⟩)⟩)⟩)⟩)⟩)⟩)⟩)⟩)⟩)⟩)⟩)⟩)⟩)⟩)⟩)⟩)⟩)⟩)⟩)⟩)⟩)⟩)⟩)⟩)⟩)⟩)⟩)⟩)⟩)⟩)⟩)⟩)⟩)⟩)):=Z7
theorem eJ1 (G:Nat)(h:jB)(a0 a1:Z6)(R:Z6→jB→Prop):vc3 (pp G) none ir22 ⟨(F15 a0 a1 undef undef undef undef undef undef undef undef undef undef undef undef undef),[],h⟩ (jZ prog [(.tmp 4)] R)=(oT (some (.int .i64 0)) none h (@kk ⟨λv1 h2=>oT (some a0) none h2 (@kk ⟨λv3 h4=>oT (some a1) none h4 (@kk ⟨λv5 h6=>oT (jF prog .rem 3 (.tmp 6) (.tmp 7) v3 v5) none h6 (@kk ⟨λv7 h8=>oT (some v7) none h8 (@kk ⟨λv9 h10=>oT (some v9) none h10 (@kk ⟨λv11 h12=>oT (jF prog .lss 3 (.tmp 9) (.const (.int .i64 0)) v11 (.int .i64 0)) none h12 (@kk ⟨λv13 h14=>jR v13 (@kb ⟨oT (some v9) none h14 (@kk ⟨λv15 h16=>oT (some a1) none h16 (@kk ⟨λv17 h18=>oT (jF prog .add 3 (.tmp 11) (.tmp 12) v15 v17) none h18 (@kk ⟨λv19 h20=>oT (some v19) none h20 (@kk ⟨λv21 h22=>oT (some v21) none h22 (@kk ⟨λv23 h24=>oT (some v23) none h24 (@kk ⟨λv25 h26=>R v25 h26⟩)⟩)⟩)⟩)⟩)⟩)⟩) (@kb ⟨oT (some v9) none h14 (@kk ⟨λv27 h28=>oT (some v27) none h28 (@kk ⟨λv29 h30=>R v29 h30⟩)⟩)⟩)⟩)⟩)⟩)⟩)⟩)⟩)⟩)):=Z7
end
end Go.Proofs.Ytejgmoenmbjidaa
namespace Go.Proofs.Ytejgmoenmbjidaa
open _root_.Go.Proofs.Try (prog)
open Go Go.RowKit Go.Ev
noncomputable section
set_option maxRecDepth 100000
variable (G:Nat) (h:jB)
theorem qK {h h':jB}{S:Nat→Prop}(g:jI h h' S)(hl:h.lo≤h.next):h'.lo≤h'.next:=by have:=g.lo;have:=g.next;omega
theorem bO (a m:Int)(h1:1≤m)(h2:m<1000000):jG (pp G) 22 [.int .i64 a,.int .i64 m] h (λv h'=>v=.int .i64 (Wi' a m)∧h'=h):=by
 refine jG.fir4 (jW G) fir22 rfl rfl (lU1 ..) λhlo=>?_
 rw[eJ1]
 have hlt:=Int.tmod_lt_of_pos a (show 0<m by omega)
 have hgt:=Int.lt_tmod_of_pos a (show 0<m by omega)
 have hw:IntKind.i64.wrap (a.tmod m)=a.tmod m:=wrap_i64 Z0 Z0
 have hm:m≠0:=Z0
 unfold Wi'
 by_cases hc:a.tmod m<0
 ·have hw2:IntKind.i64.wrap (a.tmod m+m)=a.tmod m+m:=wrap_i64 Z0 Z0
  simp(disch:=first|omega|(apply id;simp only[push_cast];first|done|omega))only[push_cast,Nat.reduceAdd,Nat.reduceMul,Nat.reduceSub,Nat.reduceLT,Nat.reduceEqDiff,Nat.reduceLeDiff,Int.reduceToNat,reduceCtorEq,Int.reduceLT,Int.reduceLE,Int.reduceAdd,Int.reduceSub,Int.reduceMul,Int.reduceNeg,Int.reduceEq,hw,hm,hc,hw2]
 ·simp(disch:=first|omega|(apply id;simp only[push_cast];first|done|omega))only[push_cast,Nat.reduceAdd,Nat.reduceMul,Nat.reduceSub,Nat.reduceLT,Nat.reduceEqDiff,Nat.reduceLeDiff,Int.reduceToNat,reduceCtorEq,Int.reduceLT,Int.reduceLE,Int.reduceAdd,Int.reduceSub,Int.reduceMul,Int.reduceNeg,Int.reduceEq,hw,hm,hc]
def pay:List Zu:=[112,97,121]
theorem fL1:jG (pp G) 10 [] h (λv h'=>v=.bool true∧Gr h h'):=by
 refine jG.fir4 (jW G) fir10 rfl rfl (lG1 ..) λhlo=>?_
 rw[eV1]
 have hr:bsC 1 3 h (wV0 (List.map (λi=>(i,1)) (List.range 1)) (List.replicate 1 [Value.int IntKind.i64 0]).flatten (.int .i64 7) [] (List.map (λi=>(i,1)) (List.range 1))[0]?)=some (.slice (some ⟨h.next,0,none⟩) 1 1,h.add (O [.int .i64 7] 3 false)):=rowI h 7
 simp(disch:=first|omega|(apply id;simp only[push_cast];first|done|omega))only[push_cast,Nat.reduceAdd,Nat.reduceMul,Nat.reduceSub,Nat.reduceLT,Nat.reduceEqDiff,Nat.reduceLeDiff,Int.reduceToNat,reduceCtorEq,Int.reduceLT,Int.reduceLE,Int.reduceAdd,Int.reduceSub,Int.reduceMul,Int.reduceNeg,Int.reduceEq,hr]
 have c1:=jP (h:=h) [.int .i64 7] 3 false h.next rfl
 have g1:Gr h (h.add (O [.int .i64 7] 3 false)):=jI.add _ _ _
 have n1:(h.add (O [.int .i64 7] 3 false)).next=h.next+1:=jH _
 have l1:=g1.lo
 generalize h.add (O [.int .i64 7] 3 false)=h1 at *
 refine jG.to (oN1 G h1 [7] _ 1 (Sl.row c1 Z0) (λb hb=>by obtain ⟨o,s,e⟩:=hb;cases e;omega) Z1 (λe=>by cases e)) ?_
 rintro _ h2 ⟨⟨p,rfl,a2⟩,g2⟩
 have gg:Gr h h2:=g1.tr' g2 λ_ _ h=>h
 simp(disch:=first|omega|(apply id;simp only[push_cast];first|done|omega))only[push_cast,Nat.reduceAdd,Nat.reduceMul,Nat.reduceSub,Nat.reduceLT,Nat.reduceEqDiff,Nat.reduceLeDiff,Int.reduceToNat,reduceCtorEq,Int.reduceLT,Int.reduceLE,Int.reduceAdd,Int.reduceSub,Int.reduceMul,Int.reduceNeg,Int.reduceEq]
 refine jG.to (cE0 G a2 (gI0 _) Z1) ?_
 rintro _ h3 ⟨⟨af,cf,rfl,_⟩,g3⟩
 have z:((newW [7]).fl.length:Int)=0:=rfl
 have a3:=a2.grew g3 λ_ _ _ h=>h
 have ee:Value.agg ⟨[.string (Tx [112,97,121]),.int .i64 3,.int .i64 0]⟩=.agg ⟨evC ⟨pay,3,0⟩⟩:=rfl
 simp(disch:=first|omega|(apply id;simp only[push_cast];first|done|omega))only[push_cast,Nat.reduceAdd,Nat.reduceMul,Nat.reduceSub,Nat.reduceLT,Nat.reduceEqDiff,Nat.reduceLeDiff,Int.reduceToNat,reduceCtorEq,Int.reduceLT,Int.reduceLE,Int.reduceAdd,Int.reduceSub,Int.reduceMul,Int.reduceNeg,Int.reduceEq,z,ee]
 refine jG.to (sU1 G a3 (gI0 _) Z1 ⟨pay,3,0⟩) ?_
 rintro _ h4 ⟨rfl,g4⟩
 have a4:=g4.at_
 simp(disch:=first|omega|(apply id;simp only[push_cast];first|done|omega))only[push_cast,Nat.reduceAdd,Nat.reduceMul,Nat.reduceSub,Nat.reduceLT,Nat.reduceEqDiff,Nat.reduceLeDiff,Int.reduceToNat,reduceCtorEq,Int.reduceLT,Int.reduceLE,Int.reduceAdd,Int.reduceSub,Int.reduceMul,Int.reduceNeg,Int.reduceEq]
 refine jG.to (yJ0 G a4 (mN0 (gI0 _) _ _) Z1 0) ?_
 rintro _ h5 ⟨rfl,g5⟩
 have a5:=g5.at_
 have d1:jQ (askW (newW [7]) pay 3) 0=((e0,false),{ askW (newW [7]) pay 3 with fl:=[⟨true,⟨pay,3,7⟩⟩],ap:=[⟨pay,3,7⟩],kp:=[⟨pay,3,7⟩] }):=rfl
 rw[d1] at a5 ⊢
 have ok5:=uC0 (mN0 (gI0 [7]) pay 3) 0
 rw[d1] at ok5
 dsimp only at a5 ok5 ⊢
 have hz:evC e0=[.string (Tx []),.int .i64 0,.int .i64 0]:=rfl
 rw[hz]
 have l5:=qK g5.gr (qK g4.gr (qK g3 (qK g2 (qK g1 hlo))))
 simp(disch:=first|omega|(apply id;simp only[push_cast];first|done|omega))only[push_cast,Nat.reduceAdd,Nat.reduceMul,Nat.reduceSub,Nat.reduceLT,Nat.reduceEqDiff,Nat.reduceLeDiff,Int.reduceToNat,reduceCtorEq,Int.reduceLT,Int.reduceLE,Int.reduceAdd,Int.reduceSub,Int.reduceMul,Int.reduceNeg,Int.reduceEq,l5]
 have a6:=λ(x y:jV)=>a5.grew (((Gr.refl h5).add' x).put' h5.next y (Z3 _)) λ_ _ _ h=>h
 refine jG.to (yJ0 G (a6 _ _) ok5 Z1 0) ?_
 rintro _ h7 ⟨rfl,g7⟩
 have a7:=g7.at_
 have d2:jQ { askW (newW [7]) pay 3 with fl:=[⟨true,⟨pay,3,7⟩⟩],ap:=[⟨pay,3,7⟩],kp:=[⟨pay,3,7⟩] } 0=((⟨pay,3,7⟩,true),⟨[7],0,[],[],[⟨pay,3,7⟩],[⟨pay,3,7⟩]⟩):=rfl
 have ok7:=uC0 ok5 0
 dsimp only at d2 a7 ok7 ⊢
 rw[d2] at a7 ok7 ⊢
 dsimp only at a7 ok7 ⊢
 unfold evC pay
 dsimp only
 have g6:Gr h5 ((h5.add (O [.string (Tx []),.int .i64 0,.int .i64 0] 31 false)).put h5.next (O [.string (Tx []),.int .i64 0,.int .i64 0] 31 false)):=((Gr.refl h5).add' _).put' h5.next _ (Z3 _)
 have l7:=qK g7.gr (qK g6 l5)
 have a8:=λ(x y:jV)=>a7.grew (((Gr.refl h7).add' x).put' h7.next y (Z3 _)) λ_ _ _ h=>h
 simp(disch:=first|omega|(apply id;simp only[push_cast];first|done|omega))only[push_cast,Nat.reduceAdd,Nat.reduceMul,Nat.reduceSub,Nat.reduceLT,Nat.reduceEqDiff,Nat.reduceLeDiff,Int.reduceToNat,reduceCtorEq,Int.reduceLT,Int.reduceLE,Int.reduceAdd,Int.reduceSub,Int.reduceMul,Int.reduceNeg,Int.reduceEq,l7]
 refine jG.to (yM0 G (a8 _ _) ok7 Z1) ?_
 rintro _ h9 ⟨⟨ap,cp,rfl,_⟩,g9⟩
 have a9:=(a8 _ _).grew g9 λ_ _ _ h=>h
 have z2:(([⟨pay,3,7⟩]:List Evt).length:Int)=1:=rfl
 simp(disch:=first|omega|(apply id;simp only[push_cast];first|done|omega))only[push_cast,Nat.reduceAdd,Nat.reduceMul,Nat.reduceSub,Nat.reduceLT,Nat.reduceEqDiff,Nat.reduceLeDiff,Int.reduceToNat,reduceCtorEq,Int.reduceLT,Int.reduceLE,Int.reduceAdd,Int.reduceSub,Int.reduceMul,Int.reduceNeg,Int.reduceEq,z2]
 refine jG.to (dE0 G a9 ok7 Z1) ?_
 rintro _ h10 ⟨⟨ao,co,rfl,_⟩,g10⟩
 have z3:(([]:List Opn).length:Int)=0:=rfl
 simp(disch:=first|omega|(apply id;simp only[push_cast];first|done|omega))only[push_cast,Nat.reduceAdd,Nat.reduceMul,Nat.reduceSub,Nat.reduceLT,Nat.reduceEqDiff,Nat.reduceLeDiff,Int.reduceToNat,reduceCtorEq,Int.reduceLT,Int.reduceLE,Int.reduceAdd,Int.reduceSub,Int.reduceMul,Int.reduceNeg,Int.reduceEq,z3]
 have m2:=gg.next
 have m3:=g3.next
 have H6:Gr h h5:=((gg.tr' g3 λ_ _ h=>h).tr' g4.gr λb hb e=>by omega).tr' g5.gr λb hb e=>by omega
 exact (((((H6.tr' g6 λ_ _ h=>h).tr' g7.gr λb hb e=>by have:=g4.gr.next;omega).tr' (((Gr.refl h7).add' _).put' h7.next _ (Z3 _)) λ_ _ h=>h).tr' g9 λ_ _ h=>h).tr' g10 λ_ _ h=>h)
end
end Go.Proofs.Ytejgmoenmbjidaa
namespace Go.Proofs.Ytejgmoenmbjidaa
open _root_.Go.Proofs.Try (prog)
open Go Go.RowKit Go.Ev
noncomputable section
set_option maxRecDepth 100000
variable (G:Nat) (h:jB)
theorem Sl.none_nil {h:jB}{cs:List Z6}(s:Sl h none cs):cs=[]:=by
 rcases s with h0|⟨b,off,full,e,m,ha,_⟩
 ·exact h0.1
 ·cases ha
theorem sQ0 {xs:List Int}(e:ivs xs=[]):xs=[]:=by simpa[ivs] using e
theorem Sl.num {h:jB}{a:Z8 Addr}{xs:List Int}(s:Sl h a (ivs xs)){i:Nat}(hi:i<xs.length):∃ b off,a=some ⟨b,off,none⟩∧ldC (some (false,0)) (off+i) h.lo b (cells h b)=some (.int .i64 (xs.getD i 0)):=by
 obtain ⟨b,off,e,hl⟩:=Sl.load s bJ (bW0 hi)
 rw[bG,bJ] at hl
 exact ⟨b,off,e,hl⟩
end
end Go.Proofs.Ytejgmoenmbjidaa
namespace Go.Proofs.Ytejgmoenmbjidaa
open _root_.Go.Proofs.Try (prog)
open Go Go.RowKit Go.Ev
noncomputable section
set_option maxRecDepth 100000
variable (G:Nat) (h:jB)
theorem yD0 (k:Int):∀ (l m:List Evt),kF k l=none→kF k (l++m)=kF k m
 | [],_,_=>rfl
 | e :: l,m,h=>by
  have h:(if k=e.key then some e.val else kF k l)=none:=h
  show (if k=e.key then some e.val else kF k (l++m))=kF k m
  split at h
  ·cases h
  ·rename_i hk;rw[if_neg hk];exact yD0 k l m h
end
end Go.Proofs.Ytejgmoenmbjidaa
namespace Go.Proofs.Ytejgmoenmbjidaa
open _root_.Go.Proofs.Try (prog)
open Go Go.RowKit Go.Ev
noncomputable section
set_option maxRecDepth 100000
variable (G:Nat) (h:jB)
end
end Go.Proofs.Ytejgmoenmbjidaa
