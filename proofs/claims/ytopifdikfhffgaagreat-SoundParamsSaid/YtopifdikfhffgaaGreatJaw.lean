/- Several texts, joined: SdH, SdI. -/
import Derived.Test.YtopifdikfhffgaaGreatJar
import Derived.Test.YtopifdikfhffgaaGreatJav
import Derived.Test.YtopifdikfhffgaaGreatJat
set_option maxRecDepth 100000
set_option maxHeartbeats 8000000
namespace Go.Proofs.YtopifdikfhffgaaGreat
section
namespace Sd
open Go.RowKit Go.Lib Pg Lim Gl Kv Bk Pw
attribute [local go_sem] Oper.semAt_some
set_option linter.unusedSimpArgs false
set_option linter.unusedVariables false
theorem swalkS {Tp:TypeId->Prop} {X:Nat->Prop} {w:World} {K D:Nat->Prop} {g n N:Nat} {E:Ents} {W:List Ents} {fv tv:Value} {f t:List Int} (h:SA w K D g E W n N) (hN:N<=100000000) (hf:By w fv f) (ht:By w tv t) (hfl:f.length<=1000000000) (htl:t.length<=1000000000) (hX1:∀ b,X b->b=g\/¬ K b) (hXU:∀ b,X b->∀ cs,¬ Blk w b cs 5) (hXl:∀ b,X b->b < w.heap.size) (hT:¬ Tp 66) (hTe:¬ Tp 86) :
  Calls Tryz.prog 71 #[.pointer (some ⟨g,0,none⟩),fv,tv] w fun e w'=>∃ v EL,e=.returned v/\IterG Tp X w.heap.size w' g EL v/\EL.map En.kl2=E.filter (abtw f t)/\Below w.heap.size w w':=by
 obtain ⟨F,V,m,Q,jv,T,oj,hX,rfl,hB⟩:=h.open
 obtain ⟨L,Km,hw⟩:=xwmG hX hN hX1 hXU hXl
 have tW:=walk_any (Tp:=Tp) Km hf ht hfl htl hT hTe
 have c0:=hX.blk.cell (i:=0) rfl
 obtain ⟨fa,fc,rfl,-⟩:=id hf.ex
 obtain ⟨ta,tc,rfl,-⟩:=id ht.ex
 generalize hfn:f.length=fn at *
 generalize htn:t.length=tn at *
 have HX:=hid3 hX
 have HK:=hid3 Km
 have HW:=hid3 hw
 clear hX Km hw h hB hf ht hfn htn hX1 hXU hXl hT hTe
 go_enter Tryz.func71,Tryz.ntmps71
 go_wp2_with first
  | (go_at_call 144; go_must (refine tW.mono ?_); rintro e w1 ⟨bw,rfl,B1,IT⟩; clear tW)
  | (go_at_call 143; go_must (refine counted_mk.mono ?_); rintro e w2 ⟨rfl,k1,k2,B2⟩)
 go_ret
 exact ⟨_,_,rfl,iterG_of HX.out.blk HK.out B1 IT k1 k2 B2 (Nat.le_refl _),HW.out f t,joinB B1 B2⟩
theorem walk0 {B:Nat} {w:World} {K:Nat->Prop} {g:Nat} {E:Ents} {n N:Nat} (h:Sx B w K g E [] n N) (hn:n<=1000000) (hN:N<=1000):Calls Tryz.prog 71 #[pg g,.slice none 0 0,.slice none 0 0] w fun e w'=>∃ b1 b2 EL Rd1,e=.returned (.func (.func 227) #[] #[pg b1,pg b2])/\ItrC TpN g n 227 #[pg b1,pg b2] EL.length (ArC EL) Rd1/\RdAll g w' Rd1/\EL.map En.kl2=E/\(∀ e∈EL,e.kl.length<=1000000000/\e.vl.length<=1000000000)/\Below w.heap.size w w':=by
 have hy:By w (.slice none 0 0) []:=By.nil w
 refine (swalkS (Tp:=TpN) (X:=(· = g)) h.sa (by omega) hy hy (by decide) (by decide) (fun b e=>.inl e) (fun b e cs k => ?_) (fun b e => ?_) (fun h=>h) (fun h=>h)).mono ?_
 ·have e':b=g:=e
  subst e'
  obtain ⟨cs',k'⟩:=h.sa.kv
  exact absurd (k.eq k').2 (by decide)
 ·have e':b=g:=e
  subst e'
  exact h.sa.lt h.sa.top
 rintro e w' ⟨v,EL,rfl,IG,hEL,Bw⟩
 rw [List.filter_eq_self.2 (fun x _=>abtw_all x)] at hEL
 exact it_of h (by omega) IG hEL Bw (Nat.le_refl _)
theorem rmk_Params {w:World}:Calls Tryz.prog 123 #[.func (.func 124) #[] #[]] w fun e w'=>∃ b,e=.returned (.func (.func 205) #[] #[pg b])/\w.heap.size<=b/\Blk w' b [.func (.func 124) #[] #[]] 205/\Below w.heap.size w w':=by
 have BB:=Below.refl w.heap.size w
 refine gc_enter (n:=4) Tryz.func123 rfl ?_
 refine gc_seq (gc_reg (ta 1 [.func (.func 124) #[] #[]] 205 (pg) ?_))
 intro v1 g2 Xg2 hg2 B
 replace BB:=joinB BB B
 refine t 2 (.nilFunc) (gl_nil (ge_then (gc_seq (gc_reg (t 3 (.func (.func 205) #[] #[pg g2]) (t 2 (.func (.func 205) #[] #[pg g2]) (gl_nil (ge_then (gc_ret (ge_ret (.func (.func 205) #[] #[pg g2]) (rs1 2 (by kernel_rfl) (by kernel_rfl)) ?_))))))))))
 exact ⟨_,rfl,hg2,Xg2,BB⟩
theorem rmk_Chain {w:World}:Calls Tryz.prog 125 #[.func (.func 126) #[] #[]] w fun e w'=>∃ b,e=.returned (.func (.func 207) #[] #[pg b])/\w.heap.size<=b/\Blk w' b [.func (.func 126) #[] #[]] 207/\Below w.heap.size w w':=by
 have BB:=Below.refl w.heap.size w
 refine gc_enter (n:=4) Tryz.func125 rfl ?_
 refine gc_seq (gc_reg (ta 1 [.func (.func 126) #[] #[]] 207 (pg) ?_))
 intro v1 g2 Xg2 hg2 B
 replace BB:=joinB BB B
 refine t 2 (.nilFunc) (gl_nil (ge_then (gc_seq (gc_reg (t 3 (.func (.func 207) #[] #[pg g2]) (t 2 (.func (.func 207) #[] #[pg g2]) (gl_nil (ge_then (gc_ret (ge_ret (.func (.func 207) #[] #[pg g2]) (rs1 2 (by kernel_rfl) (by kernel_rfl)) ?_))))))))))
 exact ⟨_,rfl,hg2,Xg2,BB⟩
theorem rmk_Account {w:World}:Calls Tryz.prog 128 #[.func (.func 76) #[] #[]] w fun e w'=>∃ b,e=.returned (.func (.func 209) #[] #[pg b])/\w.heap.size<=b/\Blk w' b [.func (.func 76) #[] #[]] 130/\Below w.heap.size w w':=by
 have BB:=Below.refl w.heap.size w
 refine gc_enter (n:=4) Tryz.func128 rfl ?_
 refine gc_seq (gc_reg (ta 1 [.func (.func 76) #[] #[]] 130 (pg) ?_))
 intro v1 g2 Xg2 hg2 B
 replace BB:=joinB BB B
 refine t 2 (.nilFunc) (gl_nil (ge_then (gc_seq (gc_reg (t 3 (.func (.func 209) #[] #[pg g2]) (t 2 (.func (.func 209) #[] #[pg g2]) (gl_nil (ge_then (gc_ret (ge_ret (.func (.func 209) #[] #[pg g2]) (rs1 2 (by kernel_rfl) (by kernel_rfl)) ?_))))))))))
 exact ⟨_,rfl,hg2,Xg2,BB⟩
theorem rmk_Val {w:World}:Calls Tryz.prog 129 #[.func (.func 130) #[] #[]] w fun e w'=>∃ b,e=.returned (.func (.func 210) #[] #[pg b])/\Below w.heap.size w w':=by
 have BB:=Below.refl w.heap.size w
 refine gc_enter (n:=4) Tryz.func129 rfl ?_
 refine gc_seq (gc_reg (ta 1 [.func (.func 130) #[] #[]] 210 (pg) ?_))
 intro v1 g2 Xg2 hg2 B
 replace BB:=joinB BB B
 refine t 2 (.nilFunc) (gl_nil (ge_then (gc_seq (gc_reg (t 3 (.func (.func 210) #[] #[pg g2]) (t 2 (.func (.func 210) #[] #[pg g2]) (gl_nil (ge_then (gc_ret (ge_ret (.func (.func 210) #[] #[pg g2]) (rs1 2 (by kernel_rfl) (by kernel_rfl)) ?_))))))))))
 exact ⟨_,rfl,BB⟩
theorem rmk_Delegation {w:World}:Calls Tryz.prog 131 #[.func (.func 132) #[] #[]] w fun e w'=>∃ b,e=.returned (.func (.func 213) #[] #[pg b])/\Below w.heap.size w w':=by
 have BB:=Below.refl w.heap.size w
 refine gc_enter (n:=4) Tryz.func131 rfl ?_
 refine gc_seq (gc_reg (ta 1 [.func (.func 132) #[] #[]] 214 (pg) ?_))
 intro v1 g2 Xg2 hg2 B
 replace BB:=joinB BB B
 refine t 2 (.nilFunc) (gl_nil (ge_then (gc_seq (gc_reg (t 3 (.func (.func 213) #[] #[pg g2]) (t 2 (.func (.func 213) #[] #[pg g2]) (gl_nil (ge_then (gc_ret (ge_ret (.func (.func 213) #[] #[pg g2]) (rs1 2 (by kernel_rfl) (by kernel_rfl)) ?_))))))))))
 exact ⟨_,rfl,BB⟩
theorem rmk_History {w:World}:Calls Tryz.prog 133 #[.func (.func 134) #[] #[]] w fun e w'=>∃ b,e=.returned (.func (.func 216) #[] #[pg b])/\Below w.heap.size w w':=by
 have BB:=Below.refl w.heap.size w
 refine gc_enter (n:=4) Tryz.func133 rfl ?_
 refine gc_seq (gc_reg (ta 1 [.func (.func 134) #[] #[]] 218 (pg) ?_))
 intro v1 g2 Xg2 hg2 B
 replace BB:=joinB BB B
 refine t 2 (.nilFunc) (gl_nil (ge_then (gc_seq (gc_reg (t 3 (.func (.func 216) #[] #[pg g2]) (t 2 (.func (.func 216) #[] #[pg g2]) (gl_nil (ge_then (gc_ret (ge_ret (.func (.func 216) #[] #[pg g2]) (rs1 2 (by kernel_rfl) (by kernel_rfl)) ?_))))))))))
 exact ⟨_,rfl,BB⟩
theorem rmk_Cut {w:World}:Calls Tryz.prog 135 #[.func (.func 93) #[] #[]] w fun e w'=>∃ b,e=.returned (.func (.func 219) #[] #[pg b])/\Below w.heap.size w w':=by
 have BB:=Below.refl w.heap.size w
 refine gc_enter (n:=4) Tryz.func135 rfl ?_
 refine gc_seq (gc_reg (ta 1 [.func (.func 93) #[] #[]] 152 (pg) ?_))
 intro v1 g2 Xg2 hg2 B
 replace BB:=joinB BB B
 refine t 2 (.nilFunc) (gl_nil (ge_then (gc_seq (gc_reg (t 3 (.func (.func 219) #[] #[pg g2]) (t 2 (.func (.func 219) #[] #[pg g2]) (gl_nil (ge_then (gc_ret (ge_ret (.func (.func 219) #[] #[pg g2]) (rs1 2 (by kernel_rfl) (by kernel_rfl)) ?_))))))))))
 exact ⟨_,rfl,BB⟩
theorem rmk_Number {w:World}:Calls Tryz.prog 136 #[.func (.func 137) #[] #[]] w fun e w'=>∃ b,e=.returned (.func (.func 220) #[] #[pg b])/\Below w.heap.size w w':=by
 have BB:=Below.refl w.heap.size w
 refine gc_enter (n:=4) Tryz.func136 rfl ?_
 refine gc_seq (gc_reg (ta 1 [.func (.func 137) #[] #[]] 221 (pg) ?_))
 intro v1 g2 Xg2 hg2 B
 replace BB:=joinB BB B
 refine t 2 (.nilFunc) (gl_nil (ge_then (gc_seq (gc_reg (t 3 (.func (.func 220) #[] #[pg g2]) (t 2 (.func (.func 220) #[] #[pg g2]) (gl_nil (ge_then (gc_ret (ge_ret (.func (.func 220) #[] #[pg g2]) (rs1 2 (by kernel_rfl) (by kernel_rfl)) ?_))))))))))
 exact ⟨_,rfl,BB⟩
theorem rmk_Unbonding {w:World}:Calls Tryz.prog 139 #[.func (.func 100) #[] #[]] w fun e w'=>∃ b,e=.returned (.func (.func 223) #[] #[pg b])/\Below w.heap.size w w':=by
 have BB:=Below.refl w.heap.size w
 refine gc_enter (n:=4) Tryz.func139 rfl ?_
 refine gc_seq (gc_reg (ta 1 [.func (.func 100) #[] #[]] 166 (pg) ?_))
 intro v1 g2 Xg2 hg2 B
 replace BB:=joinB BB B
 refine t 2 (.nilFunc) (gl_nil (ge_then (gc_seq (gc_reg (t 3 (.func (.func 223) #[] #[pg g2]) (t 2 (.func (.func 223) #[] #[pg g2]) (gl_nil (ge_then (gc_ret (ge_ret (.func (.func 223) #[] #[pg g2]) (rs1 2 (by kernel_rfl) (by kernel_rfl)) ?_))))))))))
 exact ⟨_,rfl,BB⟩
theorem rmk_Move {w:World}:Calls Tryz.prog 140 #[.func (.func 141) #[] #[]] w fun e w'=>∃ b,e=.returned (.func (.func 224) #[] #[pg b])/\Below w.heap.size w w':=by
 have BB:=Below.refl w.heap.size w
 refine gc_enter (n:=4) Tryz.func140 rfl ?_
 refine gc_seq (gc_reg (ta 1 [.func (.func 141) #[] #[]] 226 (pg) ?_))
 intro v1 g2 Xg2 hg2 B
 replace BB:=joinB BB B
 refine t 2 (.nilFunc) (gl_nil (ge_then (gc_seq (gc_reg (t 3 (.func (.func 224) #[] #[pg g2]) (t 2 (.func (.func 224) #[] #[pg g2]) (gl_nil (ge_then (gc_ret (ge_ret (.func (.func 224) #[] #[pg g2]) (rs1 2 (by kernel_rfl) (by kernel_rfl)) ?_))))))))))
 exact ⟨_,rfl,BB⟩
theorem forms_new {w:World}:Calls Tryz.prog 70 #[] w fun e w'=>∃ b4 b8 b12 b16 b20 b24 b28 b32 b36 b40 b44,e=.returned (.agg #[.nilFunc,.func (.func 205) #[] #[pg b4],.func (.func 207) #[] #[pg b8],.func (.func 127) #[] #[],.func (.func 209) #[] #[pg b12],.func (.func 210) #[] #[pg b16],.func (.func 213) #[] #[pg b20],.func (.func 216) #[] #[pg b24],.func (.func 219) #[] #[pg b28],.func (.func 220) #[] #[pg b32],.func (.func 138) #[] #[],.func (.func 138) #[] #[],.func (.func 223) #[] #[pg b36],.func (.func 224) #[] #[pg b40],.func (.func 142) #[] #[],.func (.func 142) #[] #[],.func (.func 138) #[] #[],.func (.func 220) #[] #[pg b44]])/\w.heap.size<=b4/\w.heap.size<=b8/\w.heap.size<=b12/\Blk w' b4 [.func (.func 124) #[] #[]] 205/\Blk w' b8 [.func (.func 126) #[] #[]] 207/\Blk w' b12 [.func (.func 76) #[] #[]] 130/\Below w.heap.size w w':=by
 have BB:=Below.refl w.heap.size w
 refine gc_enter (n:=13) Tryz.func70 rfl ?_
 refine gc_seq (gc_reg (ta 0 [.nilFunc,.nilFunc,.nilFunc,.nilFunc,.nilFunc,.nilFunc,.nilFunc,.nilFunc,.nilFunc,.nilFunc,.nilFunc,.nilFunc,.nilFunc,.nilFunc,.nilFunc,.nilFunc,.nilFunc,.nilFunc] 118 (pg) ?_))
 intro v1 g2 Xg2 hg2 B
 have sz3:=B.size
 replace BB:=joinB BB B
 refine gl_nil (ge_then (gc_seq (gc_reg ?_)))
 have lb4:=Xg2.lt
 refine tc 1 123 #[.func (.func 124) #[] #[]] (rmk_Params) ?_
 rintro _ v6 ⟨b4,rfl,hb4,R5,B⟩
 refine ⟨_,rfl,?_⟩
 have sz7:=B.size
 replace BB:=joinB BB B
 replace Xg2:=Xg2.keep B
 have lb8:=Xg2.lt
 refine tc 2 125 #[.func (.func 126) #[] #[]] (rmk_Chain) ?_
 rintro _ v10 ⟨b8,rfl,hb8,R9,B⟩
 refine ⟨_,rfl,?_⟩
 have sz11:=B.size
 replace BB:=joinB BB B
 replace Xg2:=Xg2.keep B
 replace R5:=R5.keep B
 have lb12:=Xg2.lt
 refine tc 3 128 #[.func (.func 76) #[] #[]] (rmk_Account) ?_
 rintro _ v14 ⟨b12,rfl,hb12,R13,B⟩
 refine ⟨_,rfl,?_⟩
 have sz15:=B.size
 replace BB:=joinB BB B
 replace Xg2:=Xg2.keep B
 replace R5:=R5.keep B
 replace R9:=R9.keep B
 have lb16:=Xg2.lt
 refine tc 4 129 #[.func (.func 130) #[] #[]] (rmk_Val) ?_
 rintro _ v18 ⟨b16,rfl,B⟩
 refine ⟨_,rfl,?_⟩
 have sz19:=B.size
 replace BB:=joinB BB B
 replace Xg2:=Xg2.keep B
 replace R5:=R5.keep B
 replace R9:=R9.keep B
 replace R13:=R13.keep B
 have lb20:=Xg2.lt
 refine tc 5 131 #[.func (.func 132) #[] #[]] (rmk_Delegation) ?_
 rintro _ v22 ⟨b20,rfl,B⟩
 refine ⟨_,rfl,?_⟩
 have sz23:=B.size
 replace BB:=joinB BB B
 replace Xg2:=Xg2.keep B
 replace R5:=R5.keep B
 replace R9:=R9.keep B
 replace R13:=R13.keep B
 have lb24:=Xg2.lt
 refine tc 6 133 #[.func (.func 134) #[] #[]] (rmk_History) ?_
 rintro _ v26 ⟨b24,rfl,B⟩
 refine ⟨_,rfl,?_⟩
 have sz27:=B.size
 replace BB:=joinB BB B
 replace Xg2:=Xg2.keep B
 replace R5:=R5.keep B
 replace R9:=R9.keep B
 replace R13:=R13.keep B
 have lb28:=Xg2.lt
 refine tc 7 135 #[.func (.func 93) #[] #[]] (rmk_Cut) ?_
 rintro _ v30 ⟨b28,rfl,B⟩
 refine ⟨_,rfl,?_⟩
 have sz31:=B.size
 replace BB:=joinB BB B
 replace Xg2:=Xg2.keep B
 replace R5:=R5.keep B
 replace R9:=R9.keep B
 replace R13:=R13.keep B
 have lb32:=Xg2.lt
 refine tc 8 136 #[.func (.func 137) #[] #[]] (rmk_Number) ?_
 rintro _ v34 ⟨b32,rfl,B⟩
 refine ⟨_,rfl,?_⟩
 have sz35:=B.size
 replace BB:=joinB BB B
 replace Xg2:=Xg2.keep B
 replace R5:=R5.keep B
 replace R9:=R9.keep B
 replace R13:=R13.keep B
 have lb36:=Xg2.lt
 refine tc 9 139 #[.func (.func 100) #[] #[]] (rmk_Unbonding) ?_
 rintro _ v38 ⟨b36,rfl,B⟩
 refine ⟨_,rfl,?_⟩
 have sz39:=B.size
 replace BB:=joinB BB B
 replace Xg2:=Xg2.keep B
 replace R5:=R5.keep B
 replace R9:=R9.keep B
 replace R13:=R13.keep B
 have lb40:=Xg2.lt
 refine tc 10 140 #[.func (.func 141) #[] #[]] (rmk_Move) ?_
 rintro _ v42 ⟨b40,rfl,B⟩
 refine ⟨_,rfl,?_⟩
 have sz43:=B.size
 replace BB:=joinB BB B
 replace Xg2:=Xg2.keep B
 replace R5:=R5.keep B
 replace R9:=R9.keep B
 replace R13:=R13.keep B
 have lb44:=Xg2.lt
 refine tc 11 136 #[.func (.func 137) #[] #[]] (rmk_Number) ?_
 rintro _ v46 ⟨b44,rfl,B⟩
 refine ⟨_,rfl,?_⟩
 have sz47:=B.size
 replace BB:=joinB BB B
 replace Xg2:=Xg2.keep B
 replace R5:=R5.keep B
 replace R9:=R9.keep B
 replace R13:=R13.keep B
 refine t 12 (.agg #[.nilFunc,.func (.func 205) #[] #[pg b4],.func (.func 207) #[] #[pg b8],.func (.func 127) #[] #[],.func (.func 209) #[] #[pg b12],.func (.func 210) #[] #[pg b16],.func (.func 213) #[] #[pg b20],.func (.func 216) #[] #[pg b24],.func (.func 219) #[] #[pg b28],.func (.func 220) #[] #[pg b32],.func (.func 138) #[] #[],.func (.func 138) #[] #[],.func (.func 223) #[] #[pg b36],.func (.func 224) #[] #[pg b40],.func (.func 142) #[] #[],.func (.func 142) #[] #[],.func (.func 138) #[] #[],.func (.func 220) #[] #[pg b44]]) (ts Xg2 0 (.agg #[.nilFunc,.func (.func 205) #[] #[pg b4],.func (.func 207) #[] #[pg b8],.func (.func 127) #[] #[],.func (.func 209) #[] #[pg b12],.func (.func 210) #[] #[pg b16],.func (.func 213) #[] #[pg b20],.func (.func 216) #[] #[pg b24],.func (.func 219) #[] #[pg b28],.func (.func 220) #[] #[pg b32],.func (.func 138) #[] #[],.func (.func 138) #[] #[],.func (.func 223) #[] #[pg b36],.func (.func 224) #[] #[pg b40],.func (.func 142) #[] #[],.func (.func 142) #[] #[],.func (.func 138) #[] #[],.func (.func 220) #[] #[pg b44]]) [.nilFunc,.func (.func 205) #[] #[pg b4],.func (.func 207) #[] #[pg b8],.func (.func 127) #[] #[],.func (.func 209) #[] #[pg b12],.func (.func 210) #[] #[pg b16],.func (.func 213) #[] #[pg b20],.func (.func 216) #[] #[pg b24],.func (.func 219) #[] #[pg b28],.func (.func 220) #[] #[pg b32],.func (.func 138) #[] #[],.func (.func 138) #[] #[],.func (.func 223) #[] #[pg b36],.func (.func 224) #[] #[pg b40],.func (.func 142) #[] #[],.func (.func 142) #[] #[],.func (.func 138) #[] #[],.func (.func 220) #[] #[pg b44]] [.nilFunc,.func (.func 205) #[] #[pg b4],.func (.func 207) #[] #[pg b8],.func (.func 127) #[] #[],.func (.func 209) #[] #[pg b12],.func (.func 210) #[] #[pg b16],.func (.func 213) #[] #[pg b20],.func (.func 216) #[] #[pg b24],.func (.func 219) #[] #[pg b28],.func (.func 220) #[] #[pg b32],.func (.func 138) #[] #[],.func (.func 138) #[] #[],.func (.func 223) #[] #[pg b36],.func (.func 224) #[] #[pg b40],.func (.func 142) #[] #[],.func (.func 142) #[] #[],.func (.func 138) #[] #[],.func (.func 220) #[] #[pg b44]] ?_)
 intro v48 Y C
 have sz49:=C.size
 replace BB:=belowC BB C (by omega)
 replace R5:=R5.chg C (show b4≠g2 by omega)
 replace R9:=R9.chg C (show b8≠g2 by omega)
 replace R13:=R13.chg C (show b12≠g2 by omega)
 have Xg2:=Y
 refine gl_nil (ge_then (gc_ret (ge_ret (.agg #[.nilFunc,.func (.func 205) #[] #[pg b4],.func (.func 207) #[] #[pg b8],.func (.func 127) #[] #[],.func (.func 209) #[] #[pg b12],.func (.func 210) #[] #[pg b16],.func (.func 213) #[] #[pg b20],.func (.func 216) #[] #[pg b24],.func (.func 219) #[] #[pg b28],.func (.func 220) #[] #[pg b32],.func (.func 138) #[] #[],.func (.func 138) #[] #[],.func (.func 223) #[] #[pg b36],.func (.func 224) #[] #[pg b40],.func (.func 142) #[] #[],.func (.func 142) #[] #[],.func (.func 138) #[] #[],.func (.func 220) #[] #[pg b44]]) (rsc 0 (T:=118) (by kernel_rfl) (by kernel_rfl) (lr Xg2 0)) ?_)))
 exact ⟨b4,b8,b12,b16,b20,b24,b28,b32,b36,b40,b44,rfl,by omega,by omega,by omega,R5,R9,R13,BB⟩
theorem rrun_Params {w:World} {v:Value} {b:Nat} (X:Blk w b [.func (.func 124) #[] #[]] 205) (U:ByU w v PV):Calls Tryz.prog 205 #[v,pg b] w fun e w'=>e=.returned (.bool true)/\Below w.heap.size w w':=by
 have BB:=Below.refl w.heap.size w
 refine gc_enter (n:=14) Tryz.func205 rfl ?_
 refine gc_seq (gc_reg (t 3 (bF) (gl_nil (ge_then (gc_seq (gc_reg (tl 7 (.func (.func 124) #[] #[]) X 0 (t 8 (v) (tc 9 124 #[v] (parPV U) ?_)))))))))
 rintro _ v1 ⟨rfl,B⟩
 refine ⟨_,rfl,?_⟩
 have sz2:=B.size
 replace BB:=joinB BB B
 replace X:=X.keep B
 replace U:=byu_keep U B
 refine t 6 (.tuple #[.agg #[iU 1,iU 1,iU 1,iU 0,iU 0,iU 0,iU 0,iU 0,iU 0,iU 16],iI 0]) (t 10 (.agg #[iU 1,iU 1,iU 1,iU 0,iU 0,iU 0,iU 0,iU 0,iU 0,iU 16]) (t 11 (iI 0) ?_))
 have lX:=X.lt
 refine ta 4 [iU 0,iU 0,iU 0,iU 0,iU 0,iU 0,iU 0,iU 0,iU 0,iU 0] 24 (pg) ?_
 intro v3 g4 Xg4 hg4 B
 have sz5:=B.size
 replace BB:=joinB BB B
 replace X:=X.keep B
 replace U:=byu_keep U B
 refine ts Xg4 0 (.agg #[iU 1,iU 1,iU 1,iU 0,iU 0,iU 0,iU 0,iU 0,iU 0,iU 16]) [iU 1,iU 1,iU 1,iU 0,iU 0,iU 0,iU 0,iU 0,iU 0,iU 16] [iU 1,iU 1,iU 1,iU 0,iU 0,iU 0,iU 0,iU 0,iU 0,iU 16] ?_
 intro v6 Y C
 have sz7:=C.size
 replace BB:=belowC BB C (by omega)
 replace X:=X.chg C (show b≠g4 by omega)
 replace U:=byu_cell U Xg4 C (by decide)
 have Xg4:=Y
 refine t 5 (iI 0) (gl_nil (ge_then (gc_seq (gc_reg (t 12 (iI 0) (t 13 (bT) (t 3 (bT) (gl_nil (ge_then (gc_fr [(3,bT)] (gc_ret (ge_ret (bT) (rs1 3 (by kernel_rfl) (by kernel_rfl)) ?_))))))))))))
 exact ⟨rfl,BB⟩
theorem rrun_Chain {w:World} {v:Value} {b:Nat} (X:Blk w b [.func (.func 126) #[] #[]] 207) (U:ByU w v CV):Calls Tryz.prog 207 #[v,pg b] w fun e w'=>e=.returned (.bool true)/\Below w.heap.size w w':=by
 have BB:=Below.refl w.heap.size w
 refine gc_enter (n:=14) Tryz.func207 rfl ?_
 refine gc_seq (gc_reg (t 3 (bF) (gl_nil (ge_then (gc_seq (gc_reg (tl 7 (.func (.func 126) #[] #[]) X 0 (t 8 (v) (tc 9 126 #[v] (chnCV U) ?_)))))))))
 rintro _ v1 ⟨rfl,B⟩
 refine ⟨_,rfl,?_⟩
 have sz2:=B.size
 replace BB:=joinB BB B
 replace X:=X.keep B
 replace U:=byu_keep U B
 refine t 6 (.tuple #[.agg #[iU 1,iU 1],iI 0]) (t 10 (.agg #[iU 1,iU 1]) (t 11 (iI 0) ?_))
 have lX:=X.lt
 refine ta 4 [iU 0,iU 0] 44 (pg) ?_
 intro v3 g4 Xg4 hg4 B
 have sz5:=B.size
 replace BB:=joinB BB B
 replace X:=X.keep B
 replace U:=byu_keep U B
 refine ts Xg4 0 (.agg #[iU 1,iU 1]) [iU 1,iU 1] [iU 1,iU 1] ?_
 intro v6 Y C
 have sz7:=C.size
 replace BB:=belowC BB C (by omega)
 replace X:=X.chg C (show b≠g4 by omega)
 replace U:=byu_cell U Xg4 C (by decide)
 have Xg4:=Y
 refine t 5 (iI 0) (gl_nil (ge_then (gc_seq (gc_reg (t 12 (iI 0) (t 13 (bT) (t 3 (bT) (gl_nil (ge_then (gc_fr [(3,bT)] (gc_ret (ge_ret (bT) (rs1 3 (by kernel_rfl) (by kernel_rfl)) ?_))))))))))))
 exact ⟨rfl,BB⟩
theorem pv_ok {x y:Int} (hx:0<=x/\x < 18446744073709551616) (hy:0<=y/\y < 18446744073709551616):Rc.outR (Rc.stAccount (pv x y))=0:=by
 obtain ⟨ys,h1,h2⟩:=Rc.thr_back (fun o=>([x,y]:List Int).getD o 0) [(0,0),(0,1)] [] (fun _=>0) (by decide) (by
  intro p hp
  simp only [List.mem_cons,List.not_mem_nil,or_false] at hp
  rcases hp with rfl | rfl
  ·exact hx
  ·exact hy)
 rw [List.append_nil] at h1
 have e:Rc.stAccount (pv x y)=(0,[],ys):=h1
 rw [e]
 rfl
theorem acctP {w:World} {v:Value} {c:Int} (h:ByU w v (pv c 0)) (hc:0<=c/\c < 18446744073709551616):Calls Tryz.prog 76 #[v] w fun e w'=>e=.returned (.tuple #[.agg #[.int .u64 c,.int .u64 0],.int .i64 0])/\Below w.heap.size w w':=by
 have u:=acct_any h (Nat.le_trans (pv_len c 0) (by decide))
 rw [(pv_back hc (by decide)).1,(pv_back hc (by decide)).2,pv_ok hc (by decide)] at u
 exact u
theorem rrun_Account {w:World} {v:Value} {b:Nat} {c:Int} (X:Blk w b [.func (.func 76) #[] #[]] 130) (U:ByU w v (pv c 0)) (hc:0<=c/\c < 18446744073709551616):Calls Tryz.prog 209 #[v,pg b] w fun e w'=>e=.returned (.bool true)/\Below w.heap.size w w':=by
 have BB:=Below.refl w.heap.size w
 refine gc_enter (n:=14) Tryz.func209 rfl ?_
 refine gc_seq (gc_reg (t 3 (bF) (gl_nil (ge_then (gc_seq (gc_reg (tl 7 (.func (.func 76) #[] #[]) X 0 (t 8 (v) (tc 9 76 #[v] (acctP U hc) ?_)))))))))
 rintro _ v1 ⟨rfl,B⟩
 refine ⟨_,rfl,?_⟩
 have sz2:=B.size
 replace BB:=joinB BB B
 replace X:=X.keep B
 replace U:=byu_keep U B
 refine t 6 (.tuple #[.agg #[iU c,iU 0],iI 0]) (t 10 (.agg #[iU c,iU 0]) (t 11 (iI 0) ?_))
 have lX:=X.lt
 refine ta 4 [iU 0,iU 0] 39 (pg) ?_
 intro v3 g4 Xg4 hg4 B
 have sz5:=B.size
 replace BB:=joinB BB B
 replace X:=X.keep B
 replace U:=byu_keep U B
 refine ts Xg4 0 (.agg #[iU c,iU 0]) [iU c,iU 0] [iU c,iU 0] ?_
 intro v6 Y C
 have sz7:=C.size
 replace BB:=belowC BB C (by omega)
 replace X:=X.chg C (show b≠g4 by omega)
 replace U:=byu_cell U Xg4 C (by decide)
 have Xg4:=Y
 refine t 5 (iI 0) (gl_nil (ge_then (gc_seq (gc_reg (t 12 (iI 0) (t 13 (bT) (t 3 (bT) (gl_nil (ge_then (gc_fr [(3,bT)] (gc_ret (ge_ret (bT) (rs1 3 (by kernel_rfl) (by kernel_rfl)) ?_))))))))))))
 exact ⟨rfl,BB⟩
def Form1 (E:Ents):Prop:=∀ x∈E,x=(Ky.mk 1 0 0,PV)\/x=(Ky.mk 2 0 0,CV)\/∃ c:Int,(0<=c/\c < 18446744073709551616)/\x=(ak 4,pv c 0)
theorem fr1:Ky.frm (1:Nat)=Ky.fIn (Ky.mk 1 0 0):=by decide +kernel
theorem fr2:Ky.frm (2:Nat)=Ky.fIn (Ky.mk 2 0 0):=by decide +kernel
theorem liesY {B:Nat} {w:World} {K:Nat->Prop} {g:Nat} {E:Ents} {n N:Nat} {k:Int} {l:List Int} (h:Sx B w K g E [] n N) (hl:Kv.look E (Ky.mk k 0 0)=some l) (hE:Ky.mkE k 0 0=false) (hn:n<=1000000) (hN:N<=1000):Calls Tryz.prog 73 #[pg g,.agg #[.int .i64 k,.int .u64 0,.int .u64 0]] w (SxE B w K g E [] (n + 1) N (.bool true)):=by
 have u:=liesS h ⟨by decide,by decide⟩ hE hn hN
 rw [hl] at u
 exact u
theorem liesN {B:Nat} {w:World} {K:Nat->Prop} {g:Nat} {E:Ents} {n N:Nat} {k:Int} (h:Sx B w K g E [] n N) (hl:Kv.look E (Ky.mk k 0 0)=none) (hE:Ky.mkE k 0 0=false) (hn:n<=1000000) (hN:N<=1000):Calls Tryz.prog 73 #[pg g,.agg #[.int .i64 k,.int .u64 0,.int .u64 0]] w (SxE B w K g E [] (n + 1) N (.bool false)):=by
 have u:=liesS h ⟨by decide,by decide⟩ hE hn hN
 rw [hl] at u
 exact u
theorem r1 {B:Nat} {w:World} {K:Nat->Prop} {g:Nat} {E:Ents} {n N:Nat}  (P:Bare E) (h:Sx B w K g E [] n N) (P1:Form1 E) (hE:E.length<=10) (hn:n<=50000) (hN:N<=1000):Calls Tryz.prog 35 #[pg g] w (RlE B w K g E n N 13 (.bool true)):=by
 have A:=h.at
 have DF:=Dfs.nil w.heap.size w
 refine gc_enterM (n:=37) Tryz.func35 rfl (by kernel_rfl) (by kernel_rfl) ?_
 refine gc_seq (gc_reg (ta 2 [bF] 4 (pg) ?_))
 intro v1 g2 Xg2 hg2 B
 obtain ⟨zg2,nXg2,A⟩:=A.al hg2 B
 replace DF:=DF.keep B
 refine gl_nil (ge_then (gc_seq (gc_reg (tc 8 70 #[] (forms_new) ?_))))
 rintro _ v3 ⟨b4,b8,b12,b16,b20,b24,b28,b32,b36,b40,b44,rfl,z1,z2,z4,RP,RC,RA4,B⟩
 refine ⟨_,rfl,?_⟩
 have nRP:¬ K b4:=A.new z1
 have nRC:¬ K b8:=A.new z2
 have nRA4:¬ K b12:=A.new z4
 have nRA:=nRA4
 replace A:=A.keep B
 replace DF:=DF.keep B
 replace Xg2:=Xg2.keep B
 have lXg2:=Xg2.lt
 have lRP:=RP.lt
 have lRC:=RC.lt
 have lRA4:=RA4.lt
 refine ta 3 [.nilFunc,.nilFunc,.nilFunc,.nilFunc,.nilFunc,.nilFunc,.nilFunc,.nilFunc,.nilFunc,.nilFunc,.nilFunc,.nilFunc,.nilFunc,.nilFunc,.nilFunc,.nilFunc,.nilFunc,.nilFunc] 118 (pg) ?_
 intro v4 g5 Xg5 hg5 B
 obtain ⟨zg5,nXg5,A⟩:=A.al hg5 B
 replace DF:=DF.keep B
 replace Xg2:=Xg2.keep B
 replace RP:=RP.keep B
 replace RC:=RC.keep B
 replace RA4:=RA4.keep B
 refine ts Xg5 0 (.agg #[.nilFunc,.func (.func 205) #[] #[pg b4],.func (.func 207) #[] #[pg b8],.func (.func 127) #[] #[],.func (.func 209) #[] #[pg b12],.func (.func 210) #[] #[pg b16],.func (.func 213) #[] #[pg b20],.func (.func 216) #[] #[pg b24],.func (.func 219) #[] #[pg b28],.func (.func 220) #[] #[pg b32],.func (.func 138) #[] #[],.func (.func 138) #[] #[],.func (.func 223) #[] #[pg b36],.func (.func 224) #[] #[pg b40],.func (.func 142) #[] #[],.func (.func 142) #[] #[],.func (.func 138) #[] #[],.func (.func 220) #[] #[pg b44]]) [.nilFunc,.func (.func 205) #[] #[pg b4],.func (.func 207) #[] #[pg b8],.func (.func 127) #[] #[],.func (.func 209) #[] #[pg b12],.func (.func 210) #[] #[pg b16],.func (.func 213) #[] #[pg b20],.func (.func 216) #[] #[pg b24],.func (.func 219) #[] #[pg b28],.func (.func 220) #[] #[pg b32],.func (.func 138) #[] #[],.func (.func 138) #[] #[],.func (.func 223) #[] #[pg b36],.func (.func 224) #[] #[pg b40],.func (.func 142) #[] #[],.func (.func 142) #[] #[],.func (.func 138) #[] #[],.func (.func 220) #[] #[pg b44]] [.nilFunc,.func (.func 205) #[] #[pg b4],.func (.func 207) #[] #[pg b8],.func (.func 127) #[] #[],.func (.func 209) #[] #[pg b12],.func (.func 210) #[] #[pg b16],.func (.func 213) #[] #[pg b20],.func (.func 216) #[] #[pg b24],.func (.func 219) #[] #[pg b28],.func (.func 220) #[] #[pg b32],.func (.func 138) #[] #[],.func (.func 138) #[] #[],.func (.func 223) #[] #[pg b36],.func (.func 224) #[] #[pg b40],.func (.func 142) #[] #[],.func (.func 142) #[] #[],.func (.func 138) #[] #[],.func (.func 220) #[] #[pg b44]] ?_
 intro v6 Y C
 replace A:=Bk.At.cell A Xg5 C zg5 nXg5 (by decide)
 replace DF:=DF.cell Xg5 C
 replace Xg2:=Xg2.chg C (show g2≠g5 by omega)
 replace RP:=RP.chg C (show b4≠g5 by omega)
 replace RC:=RC.chg C (show b8≠g5 by omega)
 replace RA4:=RA4.chg C (show b12≠g5 by omega)
 have Xg5:=Y
 refine gl_nil (ge_then (gc_seq (gc_seq (gc_reg (t 9 (pg g) (tc 10 71 #[pg g,.slice none 0 0,.slice none 0 0] (walk0 A.sx (by omega) (by omega)) ?_))))))
 rintro _ v7 ⟨c1,c2,EL,Rd1,rfl,IT,RA,hEL,hsm,B⟩
 refine ⟨_,rfl,?_⟩
 replace A:=A.keep B
 replace DF:=DF.keep B
 replace Xg2:=Xg2.keep B
 replace RP:=RP.keep B
 replace RC:=RC.keep B
 replace RA4:=RA4.keep B
 replace Xg5:=Xg5.keep B
 refine gl_nil (ge_then (gc_block (gc_fr [(0,pg g),(2,pg g2),(3,pg g5),(10,.func (.func 227) #[] #[pg c1,pg c2])] ?_)))
 have gl:=A.lt A.sx.sa.top
 have n3:g5≠g:=fun e=>nXg5 (by rw [e]; exact A.sx.sa.top)
 have nb1:b4≠g:=fun e=>nRP (by rw [e]; exact A.sx.sa.top)
 have nb2:b8≠g:=fun e=>nRC (by rw [e]; exact A.sx.sa.top)
 have nb4:b12≠g:=fun e=>nRA (by rw [e]; exact A.sx.sa.top)
 have HX:=hid3 Xg5
 have H1:=hid3 RP
 have H2:=hid3 RC
 have H4:=hid3 RA4
 have HEL:=hid3 hEL
 have HM:=hid3 hsm
 have hE1:EL.length<=10:=by have h1:=congrArg List.length hEL; rw [List.length_map] at h1; omega
 refine gc_it IT (enters_of Tryz.func227 (by kernel_rfl) rfl) (fun i args n V W h hc=>h.cel hc) (fun i args n V h=>by obtain ⟨e,kv,vv,s,_,rfl,_⟩:=h; rfl) A.sx RA (fun _=>True) (fun _=>False) (fun _ _ h _=>h) trivial ?_ ?_ ?_
 ·intro a r
  obtain ⟨xx,hxx⟩:=fr_op r
  rw [hxx.trans (show _=#[pg g,xx 1,pg g2,pg g5,xx 4,xx 5,xx 6,xx 7,xx 8,xx 9,.func (.func 227) #[] #[pg c1,pg c2],xx 11,xx 12,xx 13,xx 14,xx 15,xx 16,xx 17,xx 18,xx 19,xx 20,xx 21,xx 22,xx 23,xx 24,xx 25,xx 26,xx 27,xx 28,xx 29,xx 30,xx 31,xx 32,xx 33,xx 34,xx 35,xx 36] from rfl)]
  clear r hxx Xg5 RP RC RA4 A DF IT RA hEL hsm
  rintro l2 i args V Wv hl hlV hrec hiN ⟨hj,hS,hC⟩ hb ⟨e0,kv,vv,s0,he0,rfl,hk0,hv0,_⟩
  obtain ⟨ak0,nk,hk1⟩:=hk0.shape
  obtain ⟨av,nv,hv1⟩:=hv0.shape
  subst hk1 hv1
  simp
  gi_wp2
  refine ⟨Below.refl _ _,?_⟩
  intro V2 W2 hS2 hC2 hb2 hAr2 hoth hsz3 hV2 rl hrec2
  obtain ⟨e1,kv1,vv1,t1,he1,harr,hk2,hv2,ht1⟩:=hAr2
  obtain rfl:e1=e0:=by rw [he0] at he1; cases he1; rfl
  simp at harr
  obtain ⟨rfl,rfl⟩:=harr
  have hm0:=List.mem_of_getElem? he0
  have hkl:=(HM.out e1 hm0).1
  have hF:=P1 e1.kl2 (by rw [<- HEL.out]; exact List.mem_map.2 ⟨e1,hm0,rfl⟩)
  have x3:=(HX.out.chg hC2 n3).keep hb2
  have x1:=(H1.out.chg hC2 nb1).keep hb2
  have x2:=(H2.out.chg hC2 nb2).keep hb2
  have x4:=(H4.out.chg hC2 nb4).keep hb2
  have HS2:=hid3 (hS2.keep hb2)
  have HC2:=hid3 (chgB hC2 hb2)
  have HX3:=hid3 x3
  have HX1:=hid3 x1
  have HX2:=hid3 x2
  have HX4:=hid3 x4
  have HV:=hid3 (ByU.of hv2)
  have HKY:=hid3 hk2.by
  have lkl:=hid3 hkl
  generalize hKl:e1.kl.length=nkl at *
  generalize hVl:e1.vl.length=nvl at *
  clear hS hC hb hk0 hv0 hk2 hv2 hoth hS2 hC2 hb2 he1 ht1 he0 hm0 hsz3 hV2 x1 x2 x3 x4 hkl
  rcases hF with hF | hF | ⟨c,hc,hF⟩
  ·have ek:e1.kl=Ky.mk 1 0 0:=congrArg Prod.fst hF
   have ev:e1.vl=PV:=congrArg Prod.snd hF
   rw [ek] at HKY
   rw [ev] at HV
   have tA:=Ky.read_yes HKY.out lkl.out (r:=1) (by decide) (by decide) fr1
   obtain ⟨cc,hcc⟩:∃ cc,Hid (Ky.rdA 1 (Ky.mk 1 0 0)=cc):=⟨_,rfl⟩
   obtain ⟨ss,hss⟩:∃ ss,Hid (Ky.rdB (Ky.mk 1 0 0)=ss):=⟨_,rfl⟩
   rw [hcc.out,hss.out] at tA
   clear hF ek ev
   gi_wp2_with first
    | (refine ⟨trivial,rfl,?_⟩; gi_at_call 72; refine (CallsIn.inRound l2 (callsIn_wide.2 tA)).mono ?_; rintro e' w3 ⟨rfl,B3⟩; clear tA; have B4:=below_alloc w3 (.cells #[iI 1,iU cc,iU ss] 35); have f3:=(HX3.out.keep (joinB B3 B4)).cell (i:=1) rfl; have tR:=rrun_Params (HX1.out.keep (joinB B3 B4)) (byu_keep HV.out (joinB B3 B4)); have HK2:=hid3 (joinB B3 B4); clear B3 B4)
    | (refine ⟨trivial,rfl,?_⟩; gi_at_call 205; refine (CallsIn.inRound l2 (callsIn_wide.2 tR)).mono ?_; rintro e' w5 ⟨rfl,B5⟩; clear tR f3)
   have B6:=joinB HK2.out B5
   exact ⟨KeepsT.of B6,HS2.out.keep B6,chgB HC2.out B6⟩
  ·have ek:e1.kl=Ky.mk 2 0 0:=congrArg Prod.fst hF
   have ev:e1.vl=CV:=congrArg Prod.snd hF
   rw [ek] at HKY
   rw [ev] at HV
   have tA:=Ky.read_yes HKY.out lkl.out (r:=2) (by decide) (by decide) fr2
   obtain ⟨cc,hcc⟩:∃ cc,Hid (Ky.rdA 2 (Ky.mk 2 0 0)=cc):=⟨_,rfl⟩
   obtain ⟨ss,hss⟩:∃ ss,Hid (Ky.rdB (Ky.mk 2 0 0)=ss):=⟨_,rfl⟩
   rw [hcc.out,hss.out] at tA
   clear hF ek ev
   gi_wp2_with first
    | (refine ⟨trivial,rfl,?_⟩; gi_at_call 72; refine (CallsIn.inRound l2 (callsIn_wide.2 tA)).mono ?_; rintro e' w3 ⟨rfl,B3⟩; clear tA; have B4:=below_alloc w3 (.cells #[iI 2,iU cc,iU ss] 35); have f3:=(HX3.out.keep (joinB B3 B4)).cell (i:=2) rfl; have tR:=rrun_Chain (HX2.out.keep (joinB B3 B4)) (byu_keep HV.out (joinB B3 B4)); have HK2:=hid3 (joinB B3 B4); clear B3 B4)
    | (refine ⟨trivial,rfl,?_⟩; gi_at_call 207; refine (CallsIn.inRound l2 (callsIn_wide.2 tR)).mono ?_; rintro e' w5 ⟨rfl,B5⟩; clear tR f3)
   have B6:=joinB HK2.out B5
   exact ⟨KeepsT.of B6,HS2.out.keep B6,chgB HC2.out B6⟩
  ·have ek:e1.kl=ak 4:=congrArg Prod.fst hF
   have ev:e1.vl=pv c 0:=congrArg Prod.snd hF
   rw [ek] at HKY
   rw [ev] at HV
   have tA:=Ky.read_yes HKY.out lkl.out (r:=4) (by decide) (by decide) ak4.2.2
   obtain ⟨cc,hcc⟩:∃ cc,Hid (Ky.rdA 4 (ak 4)=cc):=⟨_,rfl⟩
   obtain ⟨ss,hss⟩:∃ ss,Hid (Ky.rdB (ak 4)=ss):=⟨_,rfl⟩
   rw [hcc.out,hss.out] at tA
   clear hF ek ev
   gi_wp2_with first
    | (refine ⟨trivial,rfl,?_⟩; gi_at_call 72; refine (CallsIn.inRound l2 (callsIn_wide.2 tA)).mono ?_; rintro e' w3 ⟨rfl,B3⟩; clear tA; have B4:=below_alloc w3 (.cells #[iI 4,iU cc,iU ss] 35); have f3:=(HX3.out.keep (joinB B3 B4)).cell (i:=4) rfl; have tR:=rrun_Account (HX4.out.keep (joinB B3 B4)) (byu_keep HV.out (joinB B3 B4)) hc; have HK2:=hid3 (joinB B3 B4); clear B3 B4)
    | (refine ⟨trivial,rfl,?_⟩; gi_at_call 209; refine (CallsIn.inRound l2 (callsIn_wide.2 tR)).mono ?_; rintro e' w5 ⟨rfl,B5⟩; clear tR f3)
   have B6:=joinB HK2.out B5
   exact ⟨KeepsT.of B6,HS2.out.keep B6,chgB HC2.out B6⟩
 ·intro _ D8 v9 hD8 kD8 S C
  have hC:=C.mono (F':=K) (fun y _ e=>by have e':y=g:=e; rw [e']; exact A.sx.sa.top)
  have hK:∀ b,K b->K b\/v7.heap.size<=b:=fun _ h=>.inl h
  have DF2:=DF.op A.sx.sa hC
  replace DF:=DF.add hD8 A.size DF2 kD8
  clear DF2 hD8 kD8 IT RA
  clear RP
  clear RC
  clear RA4
  clear Xg5
  obtain ⟨Xg2,nXg2⟩:=bk_op Xg2 nXg2 hK hC
  replace A:=A.op S hK hC
  refine ge_bn (ge_then (gc_seq (gc_reg (t 29 (pg g) (t 30 (.agg #[iI 1,iU 0,iU 0]) (tc 31 73 #[pg g,.agg #[iI 1,iU 0,iU 0]] (liesY A.sx P.par (by kernel_rfl) (by omega) (by omega)) ?_))))))
  rintro _ v11 ⟨rfl,K10,S,hK,hC⟩
  refine ⟨_,rfl,?_⟩
  replace DF:=DF.op A.sx.sa hC
  obtain ⟨Xg2,nXg2⟩:=bk_op Xg2 nXg2 hK hC
  replace A:=A.op S hK hC
  refine t 32 (bT) (t 33 (pg g) (t 34 (.agg #[iI 2,iU 0,iU 0]) (tc 35 73 #[pg g,.agg #[iI 2,iU 0,iU 0]] (liesY A.sx P.chn (by kernel_rfl) (by omega) (by omega)) ?_)))
  rintro _ v13 ⟨rfl,K12,S,hK,hC⟩
  refine ⟨_,rfl,?_⟩
  replace DF:=DF.op A.sx.sa hC
  obtain ⟨Xg2,nXg2⟩:=bk_op Xg2 nXg2 hK hC
  replace A:=A.op S hK hC
  refine t 36 (bT) (ts Xg2 0 (bT) [bT] [bT] ?_)
  intro v14 Y C
  replace A:=Bk.At.cell A Xg2 C zg2 nXg2 (by decide)
  replace DF:=DF.cell Xg2 C
  have Xg2:=Y
  refine gl_nil (ge_then (gc_ret (ge_retD (b:=w.heap.size) (v:=bT) [D8] DF (rscM 2 Xg2 (fun _ h=>l1 h 0) (by kernel_rfl) (by kernel_rfl)) ?_)))
  intro Vz Rz
  exact At.rle A Rz (by omega)
 ·intro _ _ _ _ h
  exact h.elim
theorem r1n {B:Nat} {w:World} {K:Nat->Prop} {g:Nat} {n N:Nat}  (h:Sx B w K g [] [] n N) (hn:n<=50000) (hN:N<=1000):Calls Tryz.prog 35 #[pg g] w (RlE B w K g [] n N 13 (.bool false)):=by
 have A:=h.at
 have DF:=Dfs.nil w.heap.size w
 refine gc_enterM (n:=37) Tryz.func35 rfl (by kernel_rfl) (by kernel_rfl) ?_
 refine gc_seq (gc_reg (ta 2 [bF] 4 (pg) ?_))
 intro v1 g2 Xg2 hg2 B
 obtain ⟨zg2,nXg2,A⟩:=A.al hg2 B
 replace DF:=DF.keep B
 refine gl_nil (ge_then (gc_seq (gc_reg (tc 8 70 #[] (forms_new) ?_))))
 rintro _ v3 ⟨b4,b8,b12,b16,b20,b24,b28,b32,b36,b40,b44,rfl,z1,z2,z4,RP,RC,RA4,B⟩
 refine ⟨_,rfl,?_⟩
 have nRP:¬ K b4:=A.new z1
 have nRC:¬ K b8:=A.new z2
 have nRA4:¬ K b12:=A.new z4
 have nRA:=nRA4
 replace A:=A.keep B
 replace DF:=DF.keep B
 replace Xg2:=Xg2.keep B
 have lXg2:=Xg2.lt
 have lRP:=RP.lt
 have lRC:=RC.lt
 have lRA4:=RA4.lt
 refine ta 3 [.nilFunc,.nilFunc,.nilFunc,.nilFunc,.nilFunc,.nilFunc,.nilFunc,.nilFunc,.nilFunc,.nilFunc,.nilFunc,.nilFunc,.nilFunc,.nilFunc,.nilFunc,.nilFunc,.nilFunc,.nilFunc] 118 (pg) ?_
 intro v4 g5 Xg5 hg5 B
 obtain ⟨zg5,nXg5,A⟩:=A.al hg5 B
 replace DF:=DF.keep B
 replace Xg2:=Xg2.keep B
 replace RP:=RP.keep B
 replace RC:=RC.keep B
 replace RA4:=RA4.keep B
 refine ts Xg5 0 (.agg #[.nilFunc,.func (.func 205) #[] #[pg b4],.func (.func 207) #[] #[pg b8],.func (.func 127) #[] #[],.func (.func 209) #[] #[pg b12],.func (.func 210) #[] #[pg b16],.func (.func 213) #[] #[pg b20],.func (.func 216) #[] #[pg b24],.func (.func 219) #[] #[pg b28],.func (.func 220) #[] #[pg b32],.func (.func 138) #[] #[],.func (.func 138) #[] #[],.func (.func 223) #[] #[pg b36],.func (.func 224) #[] #[pg b40],.func (.func 142) #[] #[],.func (.func 142) #[] #[],.func (.func 138) #[] #[],.func (.func 220) #[] #[pg b44]]) [.nilFunc,.func (.func 205) #[] #[pg b4],.func (.func 207) #[] #[pg b8],.func (.func 127) #[] #[],.func (.func 209) #[] #[pg b12],.func (.func 210) #[] #[pg b16],.func (.func 213) #[] #[pg b20],.func (.func 216) #[] #[pg b24],.func (.func 219) #[] #[pg b28],.func (.func 220) #[] #[pg b32],.func (.func 138) #[] #[],.func (.func 138) #[] #[],.func (.func 223) #[] #[pg b36],.func (.func 224) #[] #[pg b40],.func (.func 142) #[] #[],.func (.func 142) #[] #[],.func (.func 138) #[] #[],.func (.func 220) #[] #[pg b44]] [.nilFunc,.func (.func 205) #[] #[pg b4],.func (.func 207) #[] #[pg b8],.func (.func 127) #[] #[],.func (.func 209) #[] #[pg b12],.func (.func 210) #[] #[pg b16],.func (.func 213) #[] #[pg b20],.func (.func 216) #[] #[pg b24],.func (.func 219) #[] #[pg b28],.func (.func 220) #[] #[pg b32],.func (.func 138) #[] #[],.func (.func 138) #[] #[],.func (.func 223) #[] #[pg b36],.func (.func 224) #[] #[pg b40],.func (.func 142) #[] #[],.func (.func 142) #[] #[],.func (.func 138) #[] #[],.func (.func 220) #[] #[pg b44]] ?_
 intro v6 Y C
 replace A:=Bk.At.cell A Xg5 C zg5 nXg5 (by decide)
 replace DF:=DF.cell Xg5 C
 replace Xg2:=Xg2.chg C (show g2≠g5 by omega)
 replace RP:=RP.chg C (show b4≠g5 by omega)
 replace RC:=RC.chg C (show b8≠g5 by omega)
 replace RA4:=RA4.chg C (show b12≠g5 by omega)
 have Xg5:=Y
 refine gl_nil (ge_then (gc_seq (gc_seq (gc_reg (t 9 (pg g) (tc 10 71 #[pg g,.slice none 0 0,.slice none 0 0] (walk0 A.sx (by omega) (by omega)) ?_))))))
 rintro _ v7 ⟨c1,c2,EL,Rd1,rfl,IT,RA,hEL,hsm,B⟩
 refine ⟨_,rfl,?_⟩
 replace A:=A.keep B
 replace DF:=DF.keep B
 replace Xg2:=Xg2.keep B
 replace RP:=RP.keep B
 replace RC:=RC.keep B
 replace RA4:=RA4.keep B
 replace Xg5:=Xg5.keep B
 refine gl_nil (ge_then (gc_block (gc_fr [(0,pg g),(2,pg g2),(3,pg g5),(10,.func (.func 227) #[] #[pg c1,pg c2])] ?_)))
 have gl:=A.lt A.sx.sa.top
 have hE1:EL.length=0:=by have h1:=congrArg List.length hEL; rw [List.length_map] at h1; exact h1
 refine gc_it IT (enters_of Tryz.func227 (by kernel_rfl) rfl) (fun i args n V W h hc=>h.cel hc) (fun i args n V h=>by obtain ⟨e,kv,vv,s,_,rfl,_⟩:=h; rfl) A.sx RA (fun _=>True) (fun _=>False) (fun _ _ h _=>h) trivial ?_ ?_ ?_
 ·intro a r l2 i args V Wv hl hlV hrec hiN
  omega
 ·intro _ D8 v9 hD8 kD8 S C
  have hC:=C.mono (F':=K) (fun y _ e=>by have e':y=g:=e; rw [e']; exact A.sx.sa.top)
  have hK:∀ b,K b->K b\/v7.heap.size<=b:=fun _ h=>.inl h
  have DF2:=DF.op A.sx.sa hC
  replace DF:=DF.add hD8 A.size DF2 kD8
  clear DF2 hD8 kD8 IT RA
  clear RP
  clear RC
  clear RA4
  clear Xg5
  obtain ⟨Xg2,nXg2⟩:=bk_op Xg2 nXg2 hK hC
  replace A:=A.op S hK hC
  refine ge_bn (ge_then (gc_seq (gc_reg (t 29 (pg g) (t 30 (.agg #[iI 1,iU 0,iU 0]) (tc 31 73 #[pg g,.agg #[iI 1,iU 0,iU 0]] (liesN A.sx rfl (by kernel_rfl) (by omega) (by omega)) ?_))))))
  rintro _ v11 ⟨rfl,K10,S,hK,hC⟩
  refine ⟨_,rfl,?_⟩
  replace DF:=DF.op A.sx.sa hC
  obtain ⟨Xg2,nXg2⟩:=bk_op Xg2 nXg2 hK hC
  replace A:=A.op S hK hC
  refine t 32 (bF) (tn 33 (tn 34 (tn 35 (t 36 (bF) (ts Xg2 0 (bF) [bF] [bF] ?_)))))
  intro v12 Y C
  replace A:=Bk.At.cell A Xg2 C zg2 nXg2 (by decide)
  replace DF:=DF.cell Xg2 C
  have Xg2:=Y
  refine gl_nil (ge_then (gc_ret (ge_retD (b:=w.heap.size) (v:=bF) [D8] DF (rscM 2 Xg2 (fun _ h=>l1 h 0) (by kernel_rfl) (by kernel_rfl)) ?_)))
  intro Vz Rz
  exact At.rle A Rz (by omega)
 ·intro _ _ _ _ h
  exact h.elim
end Sd
end
section
namespace Sd
open Go.RowKit Go.Lib Pg Lim Gl Kv Bk Pw
attribute [local go_sem] Oper.semAt_some
set_option linter.unusedSimpArgs false
set_option linter.unusedVariables false
theorem rules_any {w:World}:Calls Tryz.prog 17 #[] w fun e w'=>∃ g,e=.returned (sg 11 g)/\w.heap.size<=g/\Blk w' g [.func (.func 35) #[] #[],.func (.func 36) #[] #[],.func (.func 37) #[] #[],.func (.func 38) #[] #[],.func (.func 39) #[] #[],.func (.func 40) #[] #[],.func (.func 41) #[] #[],.func (.func 42) #[] #[],.func (.func 43) #[] #[],.func (.func 44) #[] #[],.func (.func 45) #[] #[]] 47/\Below w.heap.size w w':=by
 have BB:=Below.refl w.heap.size w
 refine gc_enter (n:=2) Tryz.func17 rfl ?_
 refine gc_seq (gc_reg (t 0 (.slice none 0 0) (gl_nil (ge_then (gc_seq (gc_reg (ta 1 [.func (.func 35) #[] #[],.func (.func 36) #[] #[],.func (.func 37) #[] #[],.func (.func 38) #[] #[],.func (.func 39) #[] #[],.func (.func 40) #[] #[],.func (.func 41) #[] #[],.func (.func 42) #[] #[],.func (.func 43) #[] #[],.func (.func 44) #[] #[],.func (.func 45) #[] #[]] 47 (sg 11) ?_)))))))
 intro v1 g X hg B
 replace BB:=joinB BB B
 refine t 0 (sg 11 g) (gl_nil (ge_then (gc_ret (ge_ret (sg 11 g) (rs1 0 (by kernel_rfl) (by kernel_rfl)) ?_))))
 exact ⟨g,rfl,hg,X,BB⟩
def RU (B:Nat) (E:Ents) (N f:Nat) (r:Bool):Prop:=∀ (w:World) (K:Nat->Prop) (g n:Nat),Sx B w K g E [] n N->n<=20000->Calls Tryz.prog f #[pg g] w (RlE B w K g E n N 100 (.bool r))
theorem ru {B:Nat} {E:Ents} {N f c:Nat} {r:Bool} (hc:c<=100) (h:∀ (w:World) (K:Nat->Prop) (g n:Nat),Sx B w K g E [] n N->n<=20000->Calls Tryz.prog f #[pg g] w (RlE B w K g E n N c (.bool r))):RU B E N f r:=fun w K g n s hn=>(h w K g n s hn).mono (by
 rintro e w' ⟨rfl,K',n',S,q,hK,hC⟩
 exact ⟨rfl,K',n',S,by omega,hK,hC⟩)
theorem copyS {B:Nat} {w:World} {K:Nat->Prop} {g:Nat} {E:Ents} {W:List Ents} {n N:Nat} (h:Sx B w K g E W n N) (hN:N<=100000000):Calls Tryz.prog 16 #[pg g] w fun e w'=>∃ g' K',e=.returned (pg g')/\Sx B w' K' g' E [] 0 N/\(∀ b,K' b->w.heap.size<=b)/\Below w.heap.size w w':=by
 refine (scopy h.sa hN).mono ?_
 rintro e w' ⟨g',K',rfl,S,hK,B⟩
 exact ⟨g',K',rfl,⟨S,Nat.le_trans h.lo B.size,fun b hb=>Nat.le_trans h.lo (hK b hb)⟩,hK,B⟩
theorem check_any {B:Nat} {w:World} {K0:Nat->Prop} {g0:Nat} {E:Ents} {Wn:List Ents} {n0 N:Nat} {b0 b1 b2 b3 b4 b5 b6 b7 b8 b9 b10:Bool} (h0:Sx B w K0 g0 E Wn n0 N) (hN:N<=1000) (H0:RU B E N 35 b0) (H1:b0=true->RU B E N 36 b1) (H2:b0=true->b1=true->RU B E N 37 b2) (H3:b0=true->b1=true->b2=true->RU B E N 38 b3) (H4:b0=true->b1=true->b2=true->b3=true->RU B E N 39 b4) (H5:b0=true->b1=true->b2=true->b3=true->b4=true->RU B E N 40 b5) (H6:b0=true->b1=true->b2=true->b3=true->b4=true->b5=true->RU B E N 41 b6) (H7:b0=true->b1=true->b2=true->b3=true->b4=true->b5=true->b6=true->RU B E N 42 b7) (H8:b0=true->b1=true->b2=true->b3=true->b4=true->b5=true->b6=true->b7=true->RU B E N 43 b8) (H9:b0=true->b1=true->b2=true->b3=true->b4=true->b5=true->b6=true->b7=true->b8=true->RU B E N 44 b9) (H10:b0=true->b1=true->b2=true->b3=true->b4=true->b5=true->b6=true->b7=true->b8=true->b9=true->RU B E N 45 b10):Calls Tryz.prog 8 #[pg g0] w fun e w'=>e=.returned (.int .i64 (cond b0 (cond b1 (cond b2 (cond b3 (cond b4 (cond b5 (cond b6 (cond b7 (cond b8 (cond b9 (cond b10 0 11) 10) 9) 8) 7) 6) 5) 4) 3) 2) 1))/\Below w.heap.size w w':=by
 refine gc_enter (n:=22) Tryz.func8 rfl ?_
 refine gc_seq (gc_reg (t 2 (iI 0) (gl_nil (ge_then (gc_seq (gc_reg (t 6 (pg g0) (tc 7 16 #[pg g0] (copyS h0 (by omega)) ?_))))))))
 rintro _ v1 ⟨g,K,rfl,h,hK1,BC⟩
 refine ⟨_,rfl,?_⟩
 have A:=h.at
 refine t 3 (pg g) (gl_nil (ge_then (gc_seq (gc_seq (gc_reg (tc 8 17 #[] (rules_any) ?_))))))
 rintro _ v2 ⟨gr,rfl,hgr,Xr,B⟩
 refine ⟨_,rfl,?_⟩
 have nXr:¬ K gr:=A.new hgr
 replace A:=A.keep B
 refine t 9 (iI 11) (t 10 (iI 0) (gl_nil (ge_then (gc_block (gc_rds 11 ?_)))))
 refine gc_seq (gc_reg (t 11 (bT) (gl_nil (ge_then (gc_seq (gc_yes (gc_skip (ge_then (gc_seq (gc_block (gc_seq (gc_reg (t 12 (iI 0) (t 13 (pg gr) (tl 14 (.func (.func 35) #[] #[]) Xr 0 (t 4 (iI 0) (t 5 (.func (.func 35) #[] #[]) (gl_nil (ge_then (gc_fr [(2,iI 0),(3,pg g),(4,iI 0),(5,.func (.func 35) #[] #[]),(8,sg 11 gr),(9,iI 11),(10,iI 0),(11,bT),(12,iI 0),(13,pg gr),(14,.func (.func 35) #[] #[])] (gc_seq (gc_reg (t 15 (.func (.func 35) #[] #[]) (t 16 (pg g) (tc 17 35 #[pg g] (H0 _ _ _ _ A.sx (by omega)) ?_)))))))))))))))))))))))))
 rintro _ v5 ⟨rfl,K3,n4,S,qn4,hK,hC⟩
 refine ⟨_,rfl,?_⟩
 obtain ⟨Xr,nXr⟩:=bk_op Xr nXr hK hC
 replace A:=A.op S hK hC
 cases b0
 ·skip
  refine t 18 (bT) (gl_nil (ge_then (gc_yes (gc_seq (gc_reg (t 19 (iI 0) (t 20 (iI 1) (t 2 (iI 1) (gl_nil (ge_then (gc_ret (ge_br (ge_tr (ge_tr (ge_br (ge_tr (ge_ret (iI 1) (rs1 2 (by kernel_rfl) (by kernel_rfl)) ?_)))))))))))))))))
  exact ⟨rfl,BC.trans (A.cc.below hK1 BC.size)⟩
 ·skip
  refine t 18 (bF) (gl_nil (ge_then (gc_no (gc_skip (ge_bn (ge_then (gc_reg (t 21 (iI 1) (t 10 (iI 1) (gl_nil (ge_rd ?_)))))))))))
  refine gc_fr [(2,iI 0),(3,pg g),(4,iI 0),(5,.func (.func 35) #[] #[]),(8,sg 11 gr),(9,iI 11),(10,iI 1),(11,bT),(12,iI 0),(13,pg gr),(14,.func (.func 35) #[] #[]),(15,.func (.func 35) #[] #[]),(16,pg g),(17,bT),(18,bF),(21,iI 1)] (gc_seq (gc_reg (t 11 (bT) (gl_nil (ge_then (gc_seq (gc_yes (gc_skip (ge_then (gc_seq (gc_block (gc_seq (gc_reg (t 12 (iI 1) (t 13 (pq gr 1) (tl 14 (.func (.func 36) #[] #[]) Xr 1 (t 4 (iI 1) (t 5 (.func (.func 36) #[] #[]) (gl_nil (ge_then (gc_seq (gc_reg (t 15 (.func (.func 36) #[] #[]) (t 16 (pg g) (tc 17 36 #[pg g] (H1 rfl _ _ _ _ A.sx (by omega)) ?_)))))))))))))))))))))))))
  rintro _ v8 ⟨rfl,K6,n7,S,qn7,hK,hC⟩
  refine ⟨_,rfl,?_⟩
  obtain ⟨Xr,nXr⟩:=bk_op Xr nXr hK hC
  replace A:=A.op S hK hC
  cases b1
  ·skip
   refine t 18 (bT) (gl_nil (ge_then (gc_yes (gc_seq (gc_reg (t 19 (iI 1) (t 20 (iI 2) (t 2 (iI 2) (gl_nil (ge_then (gc_ret (ge_br (ge_tr (ge_tr (ge_br (ge_tr (ge_ret (iI 2) (rs1 2 (by kernel_rfl) (by kernel_rfl)) ?_)))))))))))))))))
   exact ⟨rfl,BC.trans (A.cc.below hK1 BC.size)⟩
  ·skip
   refine t 18 (bF) (gl_nil (ge_then (gc_no (gc_skip (ge_bn (ge_then (gc_reg (t 21 (iI 2) (t 10 (iI 2) (gl_nil (ge_rd ?_)))))))))))
   refine gc_fr [(2,iI 0),(3,pg g),(4,iI 1),(5,.func (.func 36) #[] #[]),(8,sg 11 gr),(9,iI 11),(10,iI 2),(11,bT),(12,iI 1),(13,pq gr 1),(14,.func (.func 36) #[] #[]),(15,.func (.func 36) #[] #[]),(16,pg g),(17,bT),(18,bF),(21,iI 2)] (gc_seq (gc_reg (t 11 (bT) (gl_nil (ge_then (gc_seq (gc_yes (gc_skip (ge_then (gc_seq (gc_block (gc_seq (gc_reg (t 12 (iI 2) (t 13 (pq gr 2) (tl 14 (.func (.func 37) #[] #[]) Xr 2 (t 4 (iI 2) (t 5 (.func (.func 37) #[] #[]) (gl_nil (ge_then (gc_seq (gc_reg (t 15 (.func (.func 37) #[] #[]) (t 16 (pg g) (tc 17 37 #[pg g] (H2 rfl rfl _ _ _ _ A.sx (by omega)) ?_)))))))))))))))))))))))))
   rintro _ v11 ⟨rfl,K9,n10,S,qn10,hK,hC⟩
   refine ⟨_,rfl,?_⟩
   obtain ⟨Xr,nXr⟩:=bk_op Xr nXr hK hC
   replace A:=A.op S hK hC
   cases b2
   ·skip
    refine t 18 (bT) (gl_nil (ge_then (gc_yes (gc_seq (gc_reg (t 19 (iI 2) (t 20 (iI 3) (t 2 (iI 3) (gl_nil (ge_then (gc_ret (ge_br (ge_tr (ge_tr (ge_br (ge_tr (ge_ret (iI 3) (rs1 2 (by kernel_rfl) (by kernel_rfl)) ?_)))))))))))))))))
    exact ⟨rfl,BC.trans (A.cc.below hK1 BC.size)⟩
   ·skip
    refine t 18 (bF) (gl_nil (ge_then (gc_no (gc_skip (ge_bn (ge_then (gc_reg (t 21 (iI 3) (t 10 (iI 3) (gl_nil (ge_rd ?_)))))))))))
    refine gc_fr [(2,iI 0),(3,pg g),(4,iI 2),(5,.func (.func 37) #[] #[]),(8,sg 11 gr),(9,iI 11),(10,iI 3),(11,bT),(12,iI 2),(13,pq gr 2),(14,.func (.func 37) #[] #[]),(15,.func (.func 37) #[] #[]),(16,pg g),(17,bT),(18,bF),(21,iI 3)] (gc_seq (gc_reg (t 11 (bT) (gl_nil (ge_then (gc_seq (gc_yes (gc_skip (ge_then (gc_seq (gc_block (gc_seq (gc_reg (t 12 (iI 3) (t 13 (pq gr 3) (tl 14 (.func (.func 38) #[] #[]) Xr 3 (t 4 (iI 3) (t 5 (.func (.func 38) #[] #[]) (gl_nil (ge_then (gc_seq (gc_reg (t 15 (.func (.func 38) #[] #[]) (t 16 (pg g) (tc 17 38 #[pg g] (H3 rfl rfl rfl _ _ _ _ A.sx (by omega)) ?_)))))))))))))))))))))))))
    rintro _ v14 ⟨rfl,K12,n13,S,qn13,hK,hC⟩
    refine ⟨_,rfl,?_⟩
    obtain ⟨Xr,nXr⟩:=bk_op Xr nXr hK hC
    replace A:=A.op S hK hC
    cases b3
    ·skip
     refine t 18 (bT) (gl_nil (ge_then (gc_yes (gc_seq (gc_reg (t 19 (iI 3) (t 20 (iI 4) (t 2 (iI 4) (gl_nil (ge_then (gc_ret (ge_br (ge_tr (ge_tr (ge_br (ge_tr (ge_ret (iI 4) (rs1 2 (by kernel_rfl) (by kernel_rfl)) ?_)))))))))))))))))
     exact ⟨rfl,BC.trans (A.cc.below hK1 BC.size)⟩
    ·skip
     refine t 18 (bF) (gl_nil (ge_then (gc_no (gc_skip (ge_bn (ge_then (gc_reg (t 21 (iI 4) (t 10 (iI 4) (gl_nil (ge_rd ?_)))))))))))
     refine gc_fr [(2,iI 0),(3,pg g),(4,iI 3),(5,.func (.func 38) #[] #[]),(8,sg 11 gr),(9,iI 11),(10,iI 4),(11,bT),(12,iI 3),(13,pq gr 3),(14,.func (.func 38) #[] #[]),(15,.func (.func 38) #[] #[]),(16,pg g),(17,bT),(18,bF),(21,iI 4)] (gc_seq (gc_reg (t 11 (bT) (gl_nil (ge_then (gc_seq (gc_yes (gc_skip (ge_then (gc_seq (gc_block (gc_seq (gc_reg (t 12 (iI 4) (t 13 (pq gr 4) (tl 14 (.func (.func 39) #[] #[]) Xr 4 (t 4 (iI 4) (t 5 (.func (.func 39) #[] #[]) (gl_nil (ge_then (gc_seq (gc_reg (t 15 (.func (.func 39) #[] #[]) (t 16 (pg g) (tc 17 39 #[pg g] (H4 rfl rfl rfl rfl _ _ _ _ A.sx (by omega)) ?_)))))))))))))))))))))))))
     rintro _ v17 ⟨rfl,K15,n16,S,qn16,hK,hC⟩
     refine ⟨_,rfl,?_⟩
     obtain ⟨Xr,nXr⟩:=bk_op Xr nXr hK hC
     replace A:=A.op S hK hC
     cases b4
     ·skip
      refine t 18 (bT) (gl_nil (ge_then (gc_yes (gc_seq (gc_reg (t 19 (iI 4) (t 20 (iI 5) (t 2 (iI 5) (gl_nil (ge_then (gc_ret (ge_br (ge_tr (ge_tr (ge_br (ge_tr (ge_ret (iI 5) (rs1 2 (by kernel_rfl) (by kernel_rfl)) ?_)))))))))))))))))
      exact ⟨rfl,BC.trans (A.cc.below hK1 BC.size)⟩
     ·skip
      refine t 18 (bF) (gl_nil (ge_then (gc_no (gc_skip (ge_bn (ge_then (gc_reg (t 21 (iI 5) (t 10 (iI 5) (gl_nil (ge_rd ?_)))))))))))
      refine gc_fr [(2,iI 0),(3,pg g),(4,iI 4),(5,.func (.func 39) #[] #[]),(8,sg 11 gr),(9,iI 11),(10,iI 5),(11,bT),(12,iI 4),(13,pq gr 4),(14,.func (.func 39) #[] #[]),(15,.func (.func 39) #[] #[]),(16,pg g),(17,bT),(18,bF),(21,iI 5)] (gc_seq (gc_reg (t 11 (bT) (gl_nil (ge_then (gc_seq (gc_yes (gc_skip (ge_then (gc_seq (gc_block (gc_seq (gc_reg (t 12 (iI 5) (t 13 (pq gr 5) (tl 14 (.func (.func 40) #[] #[]) Xr 5 (t 4 (iI 5) (t 5 (.func (.func 40) #[] #[]) (gl_nil (ge_then (gc_seq (gc_reg (t 15 (.func (.func 40) #[] #[]) (t 16 (pg g) (tc 17 40 #[pg g] (H5 rfl rfl rfl rfl rfl _ _ _ _ A.sx (by omega)) ?_)))))))))))))))))))))))))
      rintro _ v20 ⟨rfl,K18,n19,S,qn19,hK,hC⟩
      refine ⟨_,rfl,?_⟩
      obtain ⟨Xr,nXr⟩:=bk_op Xr nXr hK hC
      replace A:=A.op S hK hC
      cases b5
      ·skip
       refine t 18 (bT) (gl_nil (ge_then (gc_yes (gc_seq (gc_reg (t 19 (iI 5) (t 20 (iI 6) (t 2 (iI 6) (gl_nil (ge_then (gc_ret (ge_br (ge_tr (ge_tr (ge_br (ge_tr (ge_ret (iI 6) (rs1 2 (by kernel_rfl) (by kernel_rfl)) ?_)))))))))))))))))
       exact ⟨rfl,BC.trans (A.cc.below hK1 BC.size)⟩
      ·skip
       refine t 18 (bF) (gl_nil (ge_then (gc_no (gc_skip (ge_bn (ge_then (gc_reg (t 21 (iI 6) (t 10 (iI 6) (gl_nil (ge_rd ?_)))))))))))
       refine gc_fr [(2,iI 0),(3,pg g),(4,iI 5),(5,.func (.func 40) #[] #[]),(8,sg 11 gr),(9,iI 11),(10,iI 6),(11,bT),(12,iI 5),(13,pq gr 5),(14,.func (.func 40) #[] #[]),(15,.func (.func 40) #[] #[]),(16,pg g),(17,bT),(18,bF),(21,iI 6)] (gc_seq (gc_reg (t 11 (bT) (gl_nil (ge_then (gc_seq (gc_yes (gc_skip (ge_then (gc_seq (gc_block (gc_seq (gc_reg (t 12 (iI 6) (t 13 (pq gr 6) (tl 14 (.func (.func 41) #[] #[]) Xr 6 (t 4 (iI 6) (t 5 (.func (.func 41) #[] #[]) (gl_nil (ge_then (gc_seq (gc_reg (t 15 (.func (.func 41) #[] #[]) (t 16 (pg g) (tc 17 41 #[pg g] (H6 rfl rfl rfl rfl rfl rfl _ _ _ _ A.sx (by omega)) ?_)))))))))))))))))))))))))
       rintro _ v23 ⟨rfl,K21,n22,S,qn22,hK,hC⟩
       refine ⟨_,rfl,?_⟩
       obtain ⟨Xr,nXr⟩:=bk_op Xr nXr hK hC
       replace A:=A.op S hK hC
       cases b6
       ·skip
        refine t 18 (bT) (gl_nil (ge_then (gc_yes (gc_seq (gc_reg (t 19 (iI 6) (t 20 (iI 7) (t 2 (iI 7) (gl_nil (ge_then (gc_ret (ge_br (ge_tr (ge_tr (ge_br (ge_tr (ge_ret (iI 7) (rs1 2 (by kernel_rfl) (by kernel_rfl)) ?_)))))))))))))))))
        exact ⟨rfl,BC.trans (A.cc.below hK1 BC.size)⟩
       ·skip
        refine t 18 (bF) (gl_nil (ge_then (gc_no (gc_skip (ge_bn (ge_then (gc_reg (t 21 (iI 7) (t 10 (iI 7) (gl_nil (ge_rd ?_)))))))))))
        refine gc_fr [(2,iI 0),(3,pg g),(4,iI 6),(5,.func (.func 41) #[] #[]),(8,sg 11 gr),(9,iI 11),(10,iI 7),(11,bT),(12,iI 6),(13,pq gr 6),(14,.func (.func 41) #[] #[]),(15,.func (.func 41) #[] #[]),(16,pg g),(17,bT),(18,bF),(21,iI 7)] (gc_seq (gc_reg (t 11 (bT) (gl_nil (ge_then (gc_seq (gc_yes (gc_skip (ge_then (gc_seq (gc_block (gc_seq (gc_reg (t 12 (iI 7) (t 13 (pq gr 7) (tl 14 (.func (.func 42) #[] #[]) Xr 7 (t 4 (iI 7) (t 5 (.func (.func 42) #[] #[]) (gl_nil (ge_then (gc_seq (gc_reg (t 15 (.func (.func 42) #[] #[]) (t 16 (pg g) (tc 17 42 #[pg g] (H7 rfl rfl rfl rfl rfl rfl rfl _ _ _ _ A.sx (by omega)) ?_)))))))))))))))))))))))))
        rintro _ v26 ⟨rfl,K24,n25,S,qn25,hK,hC⟩
        refine ⟨_,rfl,?_⟩
        obtain ⟨Xr,nXr⟩:=bk_op Xr nXr hK hC
        replace A:=A.op S hK hC
        cases b7
        ·skip
         refine t 18 (bT) (gl_nil (ge_then (gc_yes (gc_seq (gc_reg (t 19 (iI 7) (t 20 (iI 8) (t 2 (iI 8) (gl_nil (ge_then (gc_ret (ge_br (ge_tr (ge_tr (ge_br (ge_tr (ge_ret (iI 8) (rs1 2 (by kernel_rfl) (by kernel_rfl)) ?_)))))))))))))))))
         exact ⟨rfl,BC.trans (A.cc.below hK1 BC.size)⟩
        ·skip
         refine t 18 (bF) (gl_nil (ge_then (gc_no (gc_skip (ge_bn (ge_then (gc_reg (t 21 (iI 8) (t 10 (iI 8) (gl_nil (ge_rd ?_)))))))))))
         refine gc_fr [(2,iI 0),(3,pg g),(4,iI 7),(5,.func (.func 42) #[] #[]),(8,sg 11 gr),(9,iI 11),(10,iI 8),(11,bT),(12,iI 7),(13,pq gr 7),(14,.func (.func 42) #[] #[]),(15,.func (.func 42) #[] #[]),(16,pg g),(17,bT),(18,bF),(21,iI 8)] (gc_seq (gc_reg (t 11 (bT) (gl_nil (ge_then (gc_seq (gc_yes (gc_skip (ge_then (gc_seq (gc_block (gc_seq (gc_reg (t 12 (iI 8) (t 13 (pq gr 8) (tl 14 (.func (.func 43) #[] #[]) Xr 8 (t 4 (iI 8) (t 5 (.func (.func 43) #[] #[]) (gl_nil (ge_then (gc_seq (gc_reg (t 15 (.func (.func 43) #[] #[]) (t 16 (pg g) (tc 17 43 #[pg g] (H8 rfl rfl rfl rfl rfl rfl rfl rfl _ _ _ _ A.sx (by omega)) ?_)))))))))))))))))))))))))
         rintro _ v29 ⟨rfl,K27,n28,S,qn28,hK,hC⟩
         refine ⟨_,rfl,?_⟩
         obtain ⟨Xr,nXr⟩:=bk_op Xr nXr hK hC
         replace A:=A.op S hK hC
         cases b8
         ·skip
          refine t 18 (bT) (gl_nil (ge_then (gc_yes (gc_seq (gc_reg (t 19 (iI 8) (t 20 (iI 9) (t 2 (iI 9) (gl_nil (ge_then (gc_ret (ge_br (ge_tr (ge_tr (ge_br (ge_tr (ge_ret (iI 9) (rs1 2 (by kernel_rfl) (by kernel_rfl)) ?_)))))))))))))))))
          exact ⟨rfl,BC.trans (A.cc.below hK1 BC.size)⟩
         ·skip
          refine t 18 (bF) (gl_nil (ge_then (gc_no (gc_skip (ge_bn (ge_then (gc_reg (t 21 (iI 9) (t 10 (iI 9) (gl_nil (ge_rd ?_)))))))))))
          refine gc_fr [(2,iI 0),(3,pg g),(4,iI 8),(5,.func (.func 43) #[] #[]),(8,sg 11 gr),(9,iI 11),(10,iI 9),(11,bT),(12,iI 8),(13,pq gr 8),(14,.func (.func 43) #[] #[]),(15,.func (.func 43) #[] #[]),(16,pg g),(17,bT),(18,bF),(21,iI 9)] (gc_seq (gc_reg (t 11 (bT) (gl_nil (ge_then (gc_seq (gc_yes (gc_skip (ge_then (gc_seq (gc_block (gc_seq (gc_reg (t 12 (iI 9) (t 13 (pq gr 9) (tl 14 (.func (.func 44) #[] #[]) Xr 9 (t 4 (iI 9) (t 5 (.func (.func 44) #[] #[]) (gl_nil (ge_then (gc_seq (gc_reg (t 15 (.func (.func 44) #[] #[]) (t 16 (pg g) (tc 17 44 #[pg g] (H9 rfl rfl rfl rfl rfl rfl rfl rfl rfl _ _ _ _ A.sx (by omega)) ?_)))))))))))))))))))))))))
          rintro _ v32 ⟨rfl,K30,n31,S,qn31,hK,hC⟩
          refine ⟨_,rfl,?_⟩
          obtain ⟨Xr,nXr⟩:=bk_op Xr nXr hK hC
          replace A:=A.op S hK hC
          cases b9
          ·skip
           refine t 18 (bT) (gl_nil (ge_then (gc_yes (gc_seq (gc_reg (t 19 (iI 9) (t 20 (iI 10) (t 2 (iI 10) (gl_nil (ge_then (gc_ret (ge_br (ge_tr (ge_tr (ge_br (ge_tr (ge_ret (iI 10) (rs1 2 (by kernel_rfl) (by kernel_rfl)) ?_)))))))))))))))))
           exact ⟨rfl,BC.trans (A.cc.below hK1 BC.size)⟩
          ·skip
           refine t 18 (bF) (gl_nil (ge_then (gc_no (gc_skip (ge_bn (ge_then (gc_reg (t 21 (iI 10) (t 10 (iI 10) (gl_nil (ge_rd ?_)))))))))))
           refine gc_fr [(2,iI 0),(3,pg g),(4,iI 9),(5,.func (.func 44) #[] #[]),(8,sg 11 gr),(9,iI 11),(10,iI 10),(11,bT),(12,iI 9),(13,pq gr 9),(14,.func (.func 44) #[] #[]),(15,.func (.func 44) #[] #[]),(16,pg g),(17,bT),(18,bF),(21,iI 10)] (gc_seq (gc_reg (t 11 (bT) (gl_nil (ge_then (gc_seq (gc_yes (gc_skip (ge_then (gc_seq (gc_block (gc_seq (gc_reg (t 12 (iI 10) (t 13 (pq gr 10) (tl 14 (.func (.func 45) #[] #[]) Xr 10 (t 4 (iI 10) (t 5 (.func (.func 45) #[] #[]) (gl_nil (ge_then (gc_seq (gc_reg (t 15 (.func (.func 45) #[] #[]) (t 16 (pg g) (tc 17 45 #[pg g] (H10 rfl rfl rfl rfl rfl rfl rfl rfl rfl rfl _ _ _ _ A.sx (by omega)) ?_)))))))))))))))))))))))))
           rintro _ v35 ⟨rfl,K33,n34,S,qn34,hK,hC⟩
           refine ⟨_,rfl,?_⟩
           obtain ⟨Xr,nXr⟩:=bk_op Xr nXr hK hC
           replace A:=A.op S hK hC
           cases b10
           ·skip
            refine t 18 (bT) (gl_nil (ge_then (gc_yes (gc_seq (gc_reg (t 19 (iI 10) (t 20 (iI 11) (t 2 (iI 11) (gl_nil (ge_then (gc_ret (ge_br (ge_tr (ge_tr (ge_br (ge_tr (ge_ret (iI 11) (rs1 2 (by kernel_rfl) (by kernel_rfl)) ?_)))))))))))))))))
            exact ⟨rfl,BC.trans (A.cc.below hK1 BC.size)⟩
           ·skip
            refine t 18 (bF) (gl_nil (ge_then (gc_no (gc_skip (ge_bn (ge_then (gc_reg (t 21 (iI 11) (t 10 (iI 11) (gl_nil (ge_rd ?_)))))))))))
            refine gc_fr [(2,iI 0),(3,pg g),(4,iI 10),(5,.func (.func 45) #[] #[]),(8,sg 11 gr),(9,iI 11),(10,iI 11),(11,bT),(12,iI 10),(13,pq gr 10),(14,.func (.func 45) #[] #[]),(15,.func (.func 45) #[] #[]),(16,pg g),(17,bT),(18,bF),(21,iI 11)] (gc_seq (gc_reg (t 11 (bF) (gl_nil (ge_then (gc_seq (gc_no (gc_exit (ge_tx (ge_tx (ge_bx (ge_then (gc_seq (gc_reg (t 2 (iI 0) (gl_nil (ge_then (gc_ret (ge_ret (iI 0) (rs1 2 (by kernel_rfl) (by kernel_rfl)) ?_)))))))))))))))))))
            exact ⟨rfl,BC.trans (A.cc.below hK1 BC.size)⟩
def EA:Ents:=[(Ky.mk 2 0 0,CV),(Ky.mk 1 0 0,PV)]
def EC:Ents:=[(ak 4,pv 1 0),(Ky.mk 2 0 0,CV),(Ky.mk 1 0 0,PV)]
def ED:Ents:=[(ak 4,pv 0 0),(Ky.mk 2 0 0,CV),(Ky.mk 1 0 0,PV)]
theorem put_a:put (put [] (Ky.mk 1 0 0) PV) (Ky.mk 2 0 0) CV=EA:=by decide +kernel
theorem put_c:put EA (Ky.mk 4 4 0) (pv 1 0)=EC:=by decide +kernel
theorem put_d:put EC (Ky.mk 4 4 0) (pv 0 0)=ED:=by decide +kernel
theorem bareA:Bare EA:=⟨by decide +kernel,by decide +kernel,by decide +kernel,by decide +kernel⟩
theorem bareC:Bare EC:=⟨by decide +kernel,by decide +kernel,by decide +kernel,by decide +kernel⟩
theorem bareD:Bare ED:=⟨by decide +kernel,by decide +kernel,by decide +kernel,by decide +kernel⟩
theorem oneC:One EC 1:=⟨by decide +kernel⟩
theorem oneD:One ED 0:=⟨by decide +kernel⟩
theorem formA:Form1 EA:=fun x hx=>by
 simp only [EA,List.mem_cons,List.not_mem_nil,or_false] at hx
 rcases hx with rfl | rfl
 ·exact .inr (.inl rfl)
 ·exact .inl rfl
theorem formC:Form1 EC:=fun x hx=>by
 simp only [EC,List.mem_cons,List.not_mem_nil,or_false] at hx
 rcases hx with rfl | rfl | rfl
 ·exact .inr (.inr ⟨1,by decide,rfl⟩)
 ·exact .inr (.inl rfl)
 ·exact .inl rfl
theorem formD:Form1 ED:=fun x hx=>by
 simp only [ED,List.mem_cons,List.not_mem_nil,or_false] at hx
 rcases hx with rfl | rfl | rfl
 ·exact .inr (.inr ⟨0,by decide,rfl⟩)
 ·exact .inr (.inl rfl)
 ·exact .inl rfl
section
variable {B:Nat} {w:World} {K:Nat->Prop} {g:Nat} {W:List Ents} {n N:Nat}
theorem check_A (h:Sx B w K g EA W n N) (hN:N<=1000):Calls Tryz.prog 8 #[pg g] w fun e w'=>e=.returned (.int .i64 0)/\Below w.heap.size w w' :=
 check_any (b0:=true) (b1:=true) (b2:=true) (b3:=true) (b4:=true) (b5:=true) (b6:=true) (b7:=true) (b8:=true) (b9:=true) (b10:=true) h hN
  (ru (c:=13) (by decide) fun _ _ _ _ s hn=>r1 bareA s formA (by decide) (by omega) hN)
  (fun _=>ru (c:=1) (by decide) fun _ _ _ _ s hn=>r2 bareA s (by omega) hN)
  (fun _ _=>ru (c:=5) (by decide) fun _ _ _ _ s hn=>r3a (s:=0) bareA s (by decide +kernel) (by decide +kernel) (by decide +kernel) (by decide) (by omega) hN)
  (fun _ _ _=>ru (c:=7) (by decide) fun _ _ _ _ s hn=>r4 bareA s (by omega) hN)
  (fun _ _ _ _=>ru (c:=2) (by decide) fun _ _ _ _ s hn=>r5 bareA s (by omega) hN)
  (fun _ _ _ _ _=>ru (c:=5) (by decide) fun _ _ _ _ s hn=>r6 bareA s (by omega) hN)
  (fun _ _ _ _ _ _=>ru (c:=1) (by decide) fun _ _ _ _ s hn=>r7 bareA s (by omega) hN)
  (fun _ _ _ _ _ _ _=>ru (c:=1) (by decide) fun _ _ _ _ s hn=>r8 bareA s (by omega) hN)
  (fun _ _ _ _ _ _ _ _=>ru (c:=1) (by decide) fun _ _ _ _ s hn=>r9 bareA s (by omega) hN)
  (fun _ _ _ _ _ _ _ _ _=>ru (c:=6) (by decide) fun _ _ _ _ s hn=>r10a bareA s (by decide +kernel) (by decide +kernel) (by decide +kernel) (by omega) hN)
  (fun _ _ _ _ _ _ _ _ _ _=>ru (c:=10) (by decide) fun _ _ _ _ s hn=>r11 bareA s (by omega) hN)
theorem check_0 (h:Sx B w K g [] W n N) (hN:N<=1000):Calls Tryz.prog 8 #[pg g] w fun e w'=>e=.returned (.int .i64 1)/\Below w.heap.size w w' :=
 check_any (b0:=false) (b1:=true) (b2:=true) (b3:=true) (b4:=true) (b5:=true) (b6:=true) (b7:=true) (b8:=true) (b9:=true) (b10:=true) h hN
  (ru (c:=13) (by decide) fun _ _ _ _ s hn=>r1n s (by omega) hN)
  (fun h=>by cases h) (fun h=>by cases h) (fun h=>by cases h) (fun h=>by cases h) (fun h=>by cases h) (fun h=>by cases h) (fun h=>by cases h) (fun h=>by cases h) (fun h=>by cases h) (fun h=>by cases h)
theorem check_C (h:Sx B w K g EC W n N) (hN:N<=1000):Calls Tryz.prog 8 #[pg g] w fun e w'=>e=.returned (.int .i64 10)/\Below w.heap.size w w' :=
 check_any (b0:=true) (b1:=true) (b2:=true) (b3:=true) (b4:=true) (b5:=true) (b6:=true) (b7:=true) (b8:=true) (b9:=false) (b10:=true) h hN
  (ru (c:=13) (by decide) fun _ _ _ _ s hn=>r1 bareC s formC (by decide) (by omega) hN)
  (fun _=>ru (c:=1) (by decide) fun _ _ _ _ s hn=>r2 bareC s (by omega) hN)
  (fun _ _=>ru (c:=5) (by decide) fun _ _ _ _ s hn=>r3c (s:=1) bareC s oneC (by decide +kernel) (by decide +kernel) (by decide) (by omega) hN)
  (fun _ _ _=>ru (c:=7) (by decide) fun _ _ _ _ s hn=>r4 bareC s (by omega) hN)
  (fun _ _ _ _=>ru (c:=2) (by decide) fun _ _ _ _ s hn=>r5 bareC s (by omega) hN)
  (fun _ _ _ _ _=>ru (c:=5) (by decide) fun _ _ _ _ s hn=>r6 bareC s (by omega) hN)
  (fun _ _ _ _ _ _=>ru (c:=1) (by decide) fun _ _ _ _ s hn=>r7 bareC s (by omega) hN)
  (fun _ _ _ _ _ _ _=>ru (c:=1) (by decide) fun _ _ _ _ s hn=>r8 bareC s (by omega) hN)
  (fun _ _ _ _ _ _ _ _=>ru (c:=1) (by decide) fun _ _ _ _ s hn=>r9 bareC s (by omega) hN)
  (fun _ _ _ _ _ _ _ _ _=>ru (c:=6) (by decide) fun _ _ _ _ s hn=>r10c bareC s (by decide +kernel) (by decide +kernel) (by decide +kernel) (by omega) hN)
  (fun _ _ _ _ _ _ _ _ _ h=>by cases h)
theorem check_D (h:Sx B w K g ED W n N) (hN:N<=1000):Calls Tryz.prog 8 #[pg g] w fun e w'=>e=.returned (.int .i64 3)/\Below w.heap.size w w' :=
 check_any (b0:=true) (b1:=true) (b2:=false) (b3:=true) (b4:=true) (b5:=true) (b6:=true) (b7:=true) (b8:=true) (b9:=true) (b10:=true) h hN
  (ru (c:=13) (by decide) fun _ _ _ _ s hn=>r1 bareD s formD (by decide) (by omega) hN)
  (fun _=>ru (c:=1) (by decide) fun _ _ _ _ s hn=>r2 bareD s (by omega) hN)
  (fun _ _=>ru (c:=5) (by decide) fun _ _ _ _ s hn=>r3d bareD s oneD (by omega) hN)
  (fun _ _ h=>by cases h) (fun _ _ h=>by cases h) (fun _ _ h=>by cases h) (fun _ _ h=>by cases h) (fun _ _ h=>by cases h) (fun _ _ h=>by cases h) (fun _ _ h=>by cases h) (fun _ _ h=>by cases h)
end
end Sd
end
end Go.Proofs.YtopifdikfhffgaaGreat
