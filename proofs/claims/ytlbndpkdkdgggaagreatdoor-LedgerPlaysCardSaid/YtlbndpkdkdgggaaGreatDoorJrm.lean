/- Several texts, joined: Ref3b, Ref3c, LgB, NatZ, Dec5. -/
import Derived.Test.YtlbndpkdkdgggaaGreatDoorJrk
import Derived.Test.YtlbndpkdkdgggaaGreatDoorJrf
import Derived.Test.YtlbndpkdkdgggaaGreatDoorJrl
import Derived.Test.YtlbndpkdkdgggaaGreatDoorJrh
import Derived.Test.YtlbndpkdkdgggaaGreatDoorJna
import Derived.Test.YtlbndpkdkdgggaaGreatDoorJre
set_option maxRecDepth 100000
set_option maxHeartbeats 8000000
namespace Go.Proofs.YtlbndpkdkdgggaaGreatDoor
section
open Go.RowKit Lim
theorem ar_load {ops:Array Oper} {Q:Exit->Act->World->Prop} {S:World->Prop} {fuel:Nat} {listed:Array Bool} {a:Act} {w:World} {rs:List Nat} (i:Nat) (d:Option Tmp) (v:Value) (T:TypeId) (k g o:Nat) (hc:rgWant ops a i d=true) (ho:(ops.getD i default).op=.load T (.tmp k)) (hp:a.eval (.tmp k)=.pointer (some ⟨g,o,none⟩))
  (hl:(loadVar T ⟨g,o,none⟩).run Tryz.prog w=.ok v w) (hS1:S w) (h:wpAnyH Tryz.prog .any ops Q S fuel (listed.setIfInBounds i true) (a.put d v) w)
  (hs:AllReadyH Tryz.prog .any ops Q S fuel listed a w rs):AllReadyH Tryz.prog .any ops Q S fuel listed a w (i :: rs) :=
 ar_val i d v w hc (by
  simp only [execOp,ho,hp]
  simp [Instr.loadAt,Instr.sureAddr,Result.andThen,hl]) hS1 h hs
theorem tAddR {w:World} {B:Nat} {a0 b0:Option Addr} {n0 c0 m0 d0:Nat} {x0 y0:Int} {a1 b1:Option Addr} {n1 c1 m1 d1:Nat} {x1 y1:Int} (h0:NatA w a0 n0 c0 x0) (e0:NatA w b0 m0 d0 y0) (hn0:n0<=B) (hm0:m0<=B) (h1:NatA w a1 n1 c1 x1) (e1:NatA w b1 m1 d1 y1) (hn1:n1<=B) (hm1:m1<=B) (hb:B<=10000000) :
  Calls Tryz.prog 53 #[.agg #[.slice a0 n0 c0,.slice b0 m0 d0],.agg #[.slice a1 n1 c1,.slice b1 m1 d1]] w fun e w'=>∃ a k d a' k' d',e=.returned (.agg #[.slice a k d,.slice a' k' d'])/\QR w' a k d a' k' d' (cn x0 y0 * cd y1 + cn x1 y1 * cd y0) (cd y0 * cd y1) (32 * B + 64)/\Below w.heap.size w w':=by
 have u0p:=cd_pos e0.nonneg
 have u1p:=cd_pos e1.nonneg
 have z0p:=cn_nonneg y0 h0.nonneg
 have z1p:=cn_nonneg y1 h1.nonneg
 have NP:Hid (0<=cn x0 y0 * cd y1 + cn x1 y1 * cd y0/\0 < cd y0 * cd y1):=⟨Int.add_nonneg (Int.mul_nonneg z0p (Int.le_of_lt u1p)) (Int.mul_nonneg z1p (Int.le_of_lt u0p)),Int.mul_pos u0p u1p⟩
 have NE:Hid (cd y0 * cd y1≠0):=Int.mul_ne_zero (cd_ne _) (cd_ne _)
 clear u0p u1p z0p z1p
 have HB:=Below.refl w.heap.size w
 have P0:=box_new (w) [.slice a0 n0 c0,.slice b0 m0 d0] 40
 have BA:=below_alloc (w) (.cells #[.slice a0 n0 c0,.slice b0 m0 d0] 40)
 replace h0:=h0.keep BA
 replace e0:=e0.keep BA
 replace h1:=h1.keep BA
 replace e1:=e1.keep BA
 replace HB:=joinB HB BA
 clear BA
 have P1:=box_new ((w).alloc (.cells #[.slice a0 n0 c0,.slice b0 m0 d0] 40)) [.slice a1 n1 c1,.slice b1 m1 d1] 40
 rw [show ((w).alloc (.cells #[.slice a0 n0 c0,.slice b0 m0 d0] 40)).heap.size=w.heap.size + 1 by simp] at P1
 have BA:=below_alloc ((w).alloc (.cells #[.slice a0 n0 c0,.slice b0 m0 d0] 40)) (.cells #[.slice a1 n1 c1,.slice b1 m1 d1] 40)
 replace h0:=h0.keep BA
 replace e0:=e0.keep BA
 replace h1:=h1.keep BA
 replace e1:=e1.keep BA
 replace P0:=P0.keep BA
 replace HB:=joinB HB BA
 clear BA
 have X4:=box_new (((w).alloc (.cells #[.slice a0 n0 c0,.slice b0 m0 d0] 40)).alloc (.cells #[.slice a1 n1 c1,.slice b1 m1 d1] 40)) [.slice none 0 0,.slice none 0 0] 40
 rw [show (((w).alloc (.cells #[.slice a0 n0 c0,.slice b0 m0 d0] 40)).alloc (.cells #[.slice a1 n1 c1,.slice b1 m1 d1] 40)).heap.size=w.heap.size + 1 + 1 by simp] at X4
 have BA:=below_alloc (((w).alloc (.cells #[.slice a0 n0 c0,.slice b0 m0 d0] 40)).alloc (.cells #[.slice a1 n1 c1,.slice b1 m1 d1] 40)) (.cells #[.slice none 0 0,.slice none 0 0] 40)
 replace h0:=h0.keep BA
 replace e0:=e0.keep BA
 replace h1:=h1.keep BA
 replace e1:=e1.keep BA
 replace P0:=P0.keep BA
 replace P1:=P1.keep BA
 replace HB:=joinB HB BA
 clear BA
 go_enter Tryz.func53,Tryz.ntmps53
 go_wp2_with fail
 generalize ((w.alloc (.cells #[.slice a0 n0 c0,.slice b0 m0 d0] 40)).alloc (.cells #[.slice a1 n1 c1,.slice b1 m1 d1] 40)).alloc (.cells #[.slice none 0 0,.slice none 0 0] 40)=u0 at *
 refine rg_mid (X:=Option Addr × Nat × Nat × Option Addr × Nat × Nat × Option Addr × Nat × Nat × Option Addr × Nat × Nat) (fun ⟨A0,N0,C0,B0,M0,D0,A1,N1,C1,B1,M1,D1⟩=>[(some 5,.agg #[.slice a0 n0 c0,.slice b0 m0 d0]),(some 6,.agg #[.slice A0 N0 C0,.slice B0 M0 D0]),(some 7,.agg #[.slice a1 n1 c1,.slice b1 m1 d1]),(some 8,.agg #[.slice A1 N1 C1,.slice B1 M1 D1])]) (fun ⟨A0,N0,C0,B0,M0,D0,A1,N1,C1,B1,M1,D1⟩ w'=>Box w' (w.heap.size) [.slice A0 N0 C0,.slice B0 M0 D0] 40/\Box w' (w.heap.size + 1) [.slice A1 N1 C1,.slice B1 M1 D1] 40/\NatA w' A0 N0 C0 (cn x0 y0)/\NatA w' B0 M0 D0 (cd y0)/\NatA w' A1 N1 C1 (cn x1 y1)/\NatA w' B1 M1 D1 (cd y1)/\N0<=n0/\M0<=m0 + 2/\N1<=n1/\M1<=m1 + 2/\Box w' (w.heap.size + 1 + 1) [.slice none 0 0,.slice none 0 0] 40/\Below w.heap.size w w') (fun _=>True) (by kernel_rfl) trivial ?_ ?_
 ·replace h0:=h0.drew
  replace e0:=e0.drew
  replace h1:=h1.drew
  replace e1:=e1.drew
  replace P0:=P0.drew
  replace P1:=P1.drew
  replace X4:=X4.drew
  replace HB:=HB.drew
  refine rg_ready [0,2] (by kernel_rfl) (by simp) ?_
  refine ar_load 0 (some 5) (.agg #[.slice a0 n0 c0,.slice b0 m0 d0]) 40 2 (w.heap.size) 0 (by kernel_rfl) (by kernel_rfl) (by kernel_rfl) (load_rat P0) trivial ?_ ?_
  ·refine rg_ready [1,2] (by kernel_rfl) (by simp) ?_
   refine ar_call 1 (some 6) 93 #[.agg #[.slice a0 n0 c0,.slice b0 m0 d0]] (by kernel_rfl) (by kernel_rfl) (tRight h0 e0 (by omega) (by omega)) ?_ ?_
   ·rintro e v2 ⟨A0,N0,C0,B0,M0,D0,rfl,C0',E0',hN0,hM0,hB⟩
    refine ⟨_,rfl,trivial,?_⟩
    replace h0:=h0.keep hB
    replace e0:=e0.keep hB
    replace h1:=h1.keep hB
    replace e1:=e1.keep hB
    replace P0:=P0.keep hB
    replace P1:=P1.keep hB
    replace X4:=X4.keep hB
    replace HB:=joinB HB hB
    clear hB
    refine rg_ready [2] (by kernel_rfl) (by simp) ?_
    refine ar_load 2 (some 7) (.agg #[.slice a1 n1 c1,.slice b1 m1 d1]) 40 3 (w.heap.size + 1) 0 (by kernel_rfl) (by kernel_rfl) (by kernel_rfl) (load_rat P1) trivial ?_ ?_
    ·refine rg_ready [3] (by kernel_rfl) (by simp) ?_
     refine ar_call 3 (some 8) 93 #[.agg #[.slice a1 n1 c1,.slice b1 m1 d1]] (by kernel_rfl) (by kernel_rfl) (tRight h1 e1 (by omega) (by omega)) ?_ ?_
     ·rintro e v4 ⟨A1,N1,C1,B1,M1,D1,rfl,C1',E1',hN1,hM1,hB⟩
      refine ⟨_,rfl,trivial,?_⟩
      replace h0:=h0.keep hB
      replace e0:=e0.keep hB
      replace h1:=h1.keep hB
      replace e1:=e1.keep hB
      replace C0':=C0'.keep hB
      replace E0':=E0'.keep hB
      replace P0:=P0.keep hB
      replace P1:=P1.keep hB
      replace X4:=X4.keep hB
      replace HB:=joinB HB hB
      clear hB
      refine rg_ready [4] (by kernel_rfl) (by simp) ?_
      refine ar_store 4 40 40 2 6 (w.heap.size) [.slice a0 n0 c0,.slice b0 m0 d0] [.slice A0 N0 C0,.slice B0 M0 D0] (by kernel_rfl) (by kernel_rfl) (by kernel_rfl) (by kernel_rfl) P0 (by kernel_rfl) rfl (by kernel_rfl) ?_ ?_
      ·intro v5 Y hw hB
       refine ⟨trivial,?_⟩
       replace HB:=HB.trans (hB.mono (by omega))
       replace h0:=h0.blk P0 (no_ints2 _ _ _ _ _ _) hw
       replace e0:=e0.blk P0 (no_ints2 _ _ _ _ _ _) hw
       replace h1:=h1.blk P0 (no_ints2 _ _ _ _ _ _) hw
       replace e1:=e1.blk P0 (no_ints2 _ _ _ _ _ _) hw
       replace C0':=C0'.blk P0 (no_ints2 _ _ _ _ _ _) hw
       replace E0':=E0'.blk P0 (no_ints2 _ _ _ _ _ _) hw
       replace C1':=C1'.blk P0 (no_ints2 _ _ _ _ _ _) hw
       replace E1':=E1'.blk P0 (no_ints2 _ _ _ _ _ _) hw
       replace P1:=P1.off (by omega) hw
       replace X4:=X4.off (by omega) hw
       replace P0:=Y
       clear hB hw
       refine rg_ready [5] (by kernel_rfl) (by simp) ?_
       refine ar_store 5 40 40 3 8 (w.heap.size + 1) [.slice a1 n1 c1,.slice b1 m1 d1] [.slice A1 N1 C1,.slice B1 M1 D1] (by kernel_rfl) (by kernel_rfl) (by kernel_rfl) (by kernel_rfl) P1 (by kernel_rfl) rfl (by kernel_rfl) ?_ ?_
       ·intro v6 Y hw hB
        refine ⟨trivial,?_⟩
        replace HB:=HB.trans (hB.mono (by omega))
        replace h0:=h0.blk P1 (no_ints2 _ _ _ _ _ _) hw
        replace e0:=e0.blk P1 (no_ints2 _ _ _ _ _ _) hw
        replace h1:=h1.blk P1 (no_ints2 _ _ _ _ _ _) hw
        replace e1:=e1.blk P1 (no_ints2 _ _ _ _ _ _) hw
        replace C0':=C0'.blk P1 (no_ints2 _ _ _ _ _ _) hw
        replace E0':=E0'.blk P1 (no_ints2 _ _ _ _ _ _) hw
        replace C1':=C1'.blk P1 (no_ints2 _ _ _ _ _ _) hw
        replace E1':=E1'.blk P1 (no_ints2 _ _ _ _ _ _) hw
        replace P0:=P0.off (by omega) hw
        replace X4:=X4.off (by omega) hw
        replace P1:=Y
        clear hB hw
        refine rg_done (by kernel_rfl) ?_
        exact ⟨(A0,N0,C0,B0,M0,D0,A1,N1,C1,B1,M1,D1),by kernel_rfl,P0,P1,C0',E0',C1',E1',hN0,hM0,hN1,hM1,X4,HB⟩
       exact ar_nil
      exact ar_nil
     exact ar_nil
    exact ar_nil
   refine ar_load 2 (some 7) (.agg #[.slice a1 n1 c1,.slice b1 m1 d1]) 40 3 (w.heap.size + 1) 0 (by kernel_rfl) (by kernel_rfl) (by kernel_rfl) (load_rat P1) trivial ?_ ?_
   ·refine rg_ready [1] (by kernel_rfl) (by simp) ?_
    refine ar_call 1 (some 6) 93 #[.agg #[.slice a0 n0 c0,.slice b0 m0 d0]] (by kernel_rfl) (by kernel_rfl) (tRight h0 e0 (by omega) (by omega)) ?_ ?_
    ·rintro e v8 ⟨A0,N0,C0,B0,M0,D0,rfl,C0',E0',hN0,hM0,hB⟩
     refine ⟨_,rfl,trivial,?_⟩
     replace h0:=h0.keep hB
     replace e0:=e0.keep hB
     replace h1:=h1.keep hB
     replace e1:=e1.keep hB
     replace P0:=P0.keep hB
     replace P1:=P1.keep hB
     replace X4:=X4.keep hB
     replace HB:=joinB HB hB
     clear hB
     refine rg_ready [3] (by kernel_rfl) (by simp) ?_
     refine ar_call 3 (some 8) 93 #[.agg #[.slice a1 n1 c1,.slice b1 m1 d1]] (by kernel_rfl) (by kernel_rfl) (tRight h1 e1 (by omega) (by omega)) ?_ ?_
     ·rintro e v9 ⟨A1,N1,C1,B1,M1,D1,rfl,C1',E1',hN1,hM1,hB⟩
      refine ⟨_,rfl,trivial,?_⟩
      replace h0:=h0.keep hB
      replace e0:=e0.keep hB
      replace h1:=h1.keep hB
      replace e1:=e1.keep hB
      replace C0':=C0'.keep hB
      replace E0':=E0'.keep hB
      replace P0:=P0.keep hB
      replace P1:=P1.keep hB
      replace X4:=X4.keep hB
      replace HB:=joinB HB hB
      clear hB
      refine rg_ready [4] (by kernel_rfl) (by simp) ?_
      refine ar_store 4 40 40 2 6 (w.heap.size) [.slice a0 n0 c0,.slice b0 m0 d0] [.slice A0 N0 C0,.slice B0 M0 D0] (by kernel_rfl) (by kernel_rfl) (by kernel_rfl) (by kernel_rfl) P0 (by kernel_rfl) rfl (by kernel_rfl) ?_ ?_
      ·intro v10 Y hw hB
       refine ⟨trivial,?_⟩
       replace HB:=HB.trans (hB.mono (by omega))
       replace h0:=h0.blk P0 (no_ints2 _ _ _ _ _ _) hw
       replace e0:=e0.blk P0 (no_ints2 _ _ _ _ _ _) hw
       replace h1:=h1.blk P0 (no_ints2 _ _ _ _ _ _) hw
       replace e1:=e1.blk P0 (no_ints2 _ _ _ _ _ _) hw
       replace C0':=C0'.blk P0 (no_ints2 _ _ _ _ _ _) hw
       replace E0':=E0'.blk P0 (no_ints2 _ _ _ _ _ _) hw
       replace C1':=C1'.blk P0 (no_ints2 _ _ _ _ _ _) hw
       replace E1':=E1'.blk P0 (no_ints2 _ _ _ _ _ _) hw
       replace P1:=P1.off (by omega) hw
       replace X4:=X4.off (by omega) hw
       replace P0:=Y
       clear hB hw
       refine rg_ready [5] (by kernel_rfl) (by simp) ?_
       refine ar_store 5 40 40 3 8 (w.heap.size + 1) [.slice a1 n1 c1,.slice b1 m1 d1] [.slice A1 N1 C1,.slice B1 M1 D1] (by kernel_rfl) (by kernel_rfl) (by kernel_rfl) (by kernel_rfl) P1 (by kernel_rfl) rfl (by kernel_rfl) ?_ ?_
       ·intro v11 Y hw hB
        refine ⟨trivial,?_⟩
        replace HB:=HB.trans (hB.mono (by omega))
        replace h0:=h0.blk P1 (no_ints2 _ _ _ _ _ _) hw
        replace e0:=e0.blk P1 (no_ints2 _ _ _ _ _ _) hw
        replace h1:=h1.blk P1 (no_ints2 _ _ _ _ _ _) hw
        replace e1:=e1.blk P1 (no_ints2 _ _ _ _ _ _) hw
        replace C0':=C0'.blk P1 (no_ints2 _ _ _ _ _ _) hw
        replace E0':=E0'.blk P1 (no_ints2 _ _ _ _ _ _) hw
        replace C1':=C1'.blk P1 (no_ints2 _ _ _ _ _ _) hw
        replace E1':=E1'.blk P1 (no_ints2 _ _ _ _ _ _) hw
        replace P0:=P0.off (by omega) hw
        replace X4:=X4.off (by omega) hw
        replace P1:=Y
        clear hB hw
        refine rg_done (by kernel_rfl) ?_
        exact ⟨(A0,N0,C0,B0,M0,D0,A1,N1,C1,B1,M1,D1),by kernel_rfl,P0,P1,C0',E0',C1',E1',hN0,hM0,hN1,hM1,X4,HB⟩
       exact ar_nil
      exact ar_nil
     exact ar_nil
    exact ar_nil
   exact ar_nil
  refine ar_load 2 (some 7) (.agg #[.slice a1 n1 c1,.slice b1 m1 d1]) 40 3 (w.heap.size + 1) 0 (by kernel_rfl) (by kernel_rfl) (by kernel_rfl) (load_rat P1) trivial ?_ ?_
  ·refine rg_ready [0] (by kernel_rfl) (by simp) ?_
   refine ar_load 0 (some 5) (.agg #[.slice a0 n0 c0,.slice b0 m0 d0]) 40 2 (w.heap.size) 0 (by kernel_rfl) (by kernel_rfl) (by kernel_rfl) (load_rat P0) trivial ?_ ?_
   ·refine rg_ready [1] (by kernel_rfl) (by simp) ?_
    refine ar_call 1 (some 6) 93 #[.agg #[.slice a0 n0 c0,.slice b0 m0 d0]] (by kernel_rfl) (by kernel_rfl) (tRight h0 e0 (by omega) (by omega)) ?_ ?_
    ·rintro e v14 ⟨A0,N0,C0,B0,M0,D0,rfl,C0',E0',hN0,hM0,hB⟩
     refine ⟨_,rfl,trivial,?_⟩
     replace h0:=h0.keep hB
     replace e0:=e0.keep hB
     replace h1:=h1.keep hB
     replace e1:=e1.keep hB
     replace P0:=P0.keep hB
     replace P1:=P1.keep hB
     replace X4:=X4.keep hB
     replace HB:=joinB HB hB
     clear hB
     refine rg_ready [3] (by kernel_rfl) (by simp) ?_
     refine ar_call 3 (some 8) 93 #[.agg #[.slice a1 n1 c1,.slice b1 m1 d1]] (by kernel_rfl) (by kernel_rfl) (tRight h1 e1 (by omega) (by omega)) ?_ ?_
     ·rintro e v15 ⟨A1,N1,C1,B1,M1,D1,rfl,C1',E1',hN1,hM1,hB⟩
      refine ⟨_,rfl,trivial,?_⟩
      replace h0:=h0.keep hB
      replace e0:=e0.keep hB
      replace h1:=h1.keep hB
      replace e1:=e1.keep hB
      replace C0':=C0'.keep hB
      replace E0':=E0'.keep hB
      replace P0:=P0.keep hB
      replace P1:=P1.keep hB
      replace X4:=X4.keep hB
      replace HB:=joinB HB hB
      clear hB
      refine rg_ready [4] (by kernel_rfl) (by simp) ?_
      refine ar_store 4 40 40 2 6 (w.heap.size) [.slice a0 n0 c0,.slice b0 m0 d0] [.slice A0 N0 C0,.slice B0 M0 D0] (by kernel_rfl) (by kernel_rfl) (by kernel_rfl) (by kernel_rfl) P0 (by kernel_rfl) rfl (by kernel_rfl) ?_ ?_
      ·intro v16 Y hw hB
       refine ⟨trivial,?_⟩
       replace HB:=HB.trans (hB.mono (by omega))
       replace h0:=h0.blk P0 (no_ints2 _ _ _ _ _ _) hw
       replace e0:=e0.blk P0 (no_ints2 _ _ _ _ _ _) hw
       replace h1:=h1.blk P0 (no_ints2 _ _ _ _ _ _) hw
       replace e1:=e1.blk P0 (no_ints2 _ _ _ _ _ _) hw
       replace C0':=C0'.blk P0 (no_ints2 _ _ _ _ _ _) hw
       replace E0':=E0'.blk P0 (no_ints2 _ _ _ _ _ _) hw
       replace C1':=C1'.blk P0 (no_ints2 _ _ _ _ _ _) hw
       replace E1':=E1'.blk P0 (no_ints2 _ _ _ _ _ _) hw
       replace P1:=P1.off (by omega) hw
       replace X4:=X4.off (by omega) hw
       replace P0:=Y
       clear hB hw
       refine rg_ready [5] (by kernel_rfl) (by simp) ?_
       refine ar_store 5 40 40 3 8 (w.heap.size + 1) [.slice a1 n1 c1,.slice b1 m1 d1] [.slice A1 N1 C1,.slice B1 M1 D1] (by kernel_rfl) (by kernel_rfl) (by kernel_rfl) (by kernel_rfl) P1 (by kernel_rfl) rfl (by kernel_rfl) ?_ ?_
       ·intro v17 Y hw hB
        refine ⟨trivial,?_⟩
        replace HB:=HB.trans (hB.mono (by omega))
        replace h0:=h0.blk P1 (no_ints2 _ _ _ _ _ _) hw
        replace e0:=e0.blk P1 (no_ints2 _ _ _ _ _ _) hw
        replace h1:=h1.blk P1 (no_ints2 _ _ _ _ _ _) hw
        replace e1:=e1.blk P1 (no_ints2 _ _ _ _ _ _) hw
        replace C0':=C0'.blk P1 (no_ints2 _ _ _ _ _ _) hw
        replace E0':=E0'.blk P1 (no_ints2 _ _ _ _ _ _) hw
        replace C1':=C1'.blk P1 (no_ints2 _ _ _ _ _ _) hw
        replace E1':=E1'.blk P1 (no_ints2 _ _ _ _ _ _) hw
        replace P0:=P0.off (by omega) hw
        replace X4:=X4.off (by omega) hw
        replace P1:=Y
        clear hB hw
        refine rg_done (by kernel_rfl) ?_
        exact ⟨(A0,N0,C0,B0,M0,D0,A1,N1,C1,B1,M1,D1),by kernel_rfl,P0,P1,C0',E0',C1',E1',hN0,hM0,hN1,hM1,X4,HB⟩
       exact ar_nil
      exact ar_nil
     exact ar_nil
    exact ar_nil
   exact ar_nil
  exact ar_nil
 ·clear h0 e0 h1 e1 P0 P1 X4 HB
  rintro ⟨A0,N0,C0,B0,M0,D0,A1,N1,C1,B1,M1,D1⟩ u1 ⟨P0,P1,C0',E0',C1',E1',hN0,hM0,hN1,hM1,X4,HB⟩
  try simp only [putAll,Act.put,List.setIfInBounds_toArray,List.set_cons_zero,List.set_cons_succ]
  go_wp2_with fail
  refine rg_start (S:=fun w'=>Box w' (w.heap.size) [.slice A0 N0 C0,.slice B0 M0 D0] 40/\Box w' (w.heap.size + 1) [.slice A1 N1 C1,.slice B1 M1 D1] 40) (by kernel_rfl) ⟨P0.drew,P1.drew⟩ ?_
  replace C0':=C0'.drew
  replace E0':=E0'.drew
  replace C1':=C1'.drew
  replace E1':=E1'.drew
  replace X4:=X4.drew
  replace HB:=HB.drew
  have hS:=(show _/\_ from ⟨P0.drew,P1.drew⟩)
  clear P0 P1
  refine rg_n 0 9 (.pointer (some ⟨w.heap.size,0,none⟩)) (by kernel_rfl) (fun _ _=>by kernel_rfl) i3 hS ?_
  refine rg_load 1 (some 10) (.slice A0 N0 C0) 33 9 (w.heap.size) 0 (by kernel_rfl) (by kernel_rfl) (by kernel_rfl) (fun _ hs=>load_at (hs.1.cells2.1)) i3 hS ?_
  refine rg_n 2 11 (.pointer (some ⟨w.heap.size + 1,1,none⟩)) (by kernel_rfl) (fun _ _=>by kernel_rfl) i3 hS ?_
  refine rg_load 3 (some 12) (.slice B1 M1 D1) 33 11 (w.heap.size + 1) 1 (by kernel_rfl) (by kernel_rfl) (by kernel_rfl) (fun _ hs=>load_at (hs.2.cells2.2.1)) i3 hS ?_
  refine rg_n 5 14 (.pointer (some ⟨w.heap.size + 1,0,none⟩)) (by kernel_rfl) (fun _ _=>by kernel_rfl) i3 hS ?_
  refine rg_load 6 (some 15) (.slice A1 N1 C1) 33 14 (w.heap.size + 1) 0 (by kernel_rfl) (by kernel_rfl) (by kernel_rfl) (fun _ hs=>load_at (hs.2.cells2.1)) i3 hS ?_
  refine rg_n 7 16 (.pointer (some ⟨w.heap.size,1,none⟩)) (by kernel_rfl) (fun _ _=>by kernel_rfl) i3 hS ?_
  refine rg_load 8 (some 17) (.slice B0 M0 D0) 33 16 (w.heap.size) 1 (by kernel_rfl) (by kernel_rfl) (by kernel_rfl) (fun _ hs=>load_at (hs.1.cells2.2.1)) i3 hS ?_
  refine rg_n 11 20 (.pointer (some ⟨w.heap.size,1,none⟩)) (by kernel_rfl) (fun _ _=>by kernel_rfl) i3 hS ?_
  refine rg_load 12 (some 21) (.slice B0 M0 D0) 33 20 (w.heap.size) 1 (by kernel_rfl) (by kernel_rfl) (by kernel_rfl) (fun _ hs=>load_at (hs.1.cells2.2.1)) i3 hS ?_
  refine rg_n 13 22 (.pointer (some ⟨w.heap.size + 1,1,none⟩)) (by kernel_rfl) (fun _ _=>by kernel_rfl) i3 hS ?_
  refine rg_load 14 (some 23) (.slice B1 M1 D1) 33 22 (w.heap.size + 1) 1 (by kernel_rfl) (by kernel_rfl) (by kernel_rfl) (fun _ hs=>load_at (hs.2.cells2.2.1)) i3 hS ?_
  refine rg_call 4 (some 13) 65 #[.slice A0 N0 C0,.slice B1 M1 D1] (by kernel_rfl) (by kernel_rfl) (rMul C0' E1' (by omega) (by omega)) ?_
  rintro e z1 ⟨F1,K1,H1,rfl,O1,hk1,hB⟩
  refine ⟨_,rfl,⟨hS.1.keep hB,hS.2.keep hB⟩,?_⟩
  replace hS:=(show _/\_ from ⟨hS.1.keep hB,hS.2.keep hB⟩)
  replace C0':=C0'.keep hB
  replace E0':=E0'.keep hB
  replace C1':=C1'.keep hB
  replace E1':=E1'.keep hB
  replace X4:=X4.keep hB
  replace HB:=joinB HB hB
  clear hB
  refine rg_call 9 (some 18) 65 #[.slice A1 N1 C1,.slice B0 M0 D0] (by kernel_rfl) (by kernel_rfl) (rMul C1' E0' (by omega) (by omega)) ?_
  rintro e z2 ⟨F2,K2,H2,rfl,O2,hk2,hB⟩
  refine ⟨_,rfl,⟨hS.1.keep hB,hS.2.keep hB⟩,?_⟩
  replace hS:=(show _/\_ from ⟨hS.1.keep hB,hS.2.keep hB⟩)
  replace C0':=C0'.keep hB
  replace E0':=E0'.keep hB
  replace C1':=C1'.keep hB
  replace E1':=E1'.keep hB
  replace X4:=X4.keep hB
  replace O1:=O1.keep hB
  replace HB:=joinB HB hB
  clear hB
  refine rg_call 10 (some 19) 75 #[.slice F1 K1 H1,.slice F2 K2 H2] (by kernel_rfl) (by kernel_rfl) (rAdd O1.a O2.a (by omega) (by omega)) ?_
  rintro e z3 ⟨F3,K3,H3,rfl,O3,hk3,hB⟩
  refine ⟨_,rfl,⟨hS.1.keep hB,hS.2.keep hB⟩,?_⟩
  replace hS:=(show _/\_ from ⟨hS.1.keep hB,hS.2.keep hB⟩)
  replace C0':=C0'.keep hB
  replace E0':=E0'.keep hB
  replace C1':=C1'.keep hB
  replace E1':=E1'.keep hB
  replace X4:=X4.keep hB
  replace O1:=O1.keep hB
  replace O2:=O2.keep hB
  replace HB:=joinB HB hB
  clear hB
  refine rg_call 15 (some 24) 65 #[.slice B0 M0 D0,.slice B1 M1 D1] (by kernel_rfl) (by kernel_rfl) (rMul E0' E1' (by omega) (by omega)) ?_
  rintro e z4 ⟨F4,K4,H4,rfl,O4,hk4,hB⟩
  refine ⟨_,rfl,⟨hS.1.keep hB,hS.2.keep hB⟩,?_⟩
  replace hS:=(show _/\_ from ⟨hS.1.keep hB,hS.2.keep hB⟩)
  replace C0':=C0'.keep hB
  replace E0':=E0'.keep hB
  replace C1':=C1'.keep hB
  replace E1':=E1'.keep hB
  replace X4:=X4.keep hB
  replace O1:=O1.keep hB
  replace O2:=O2.keep hB
  replace O3:=O3.keep hB
  replace HB:=joinB HB hB
  clear hB
  refine rg_call 16 (some 25) 94 #[.slice F3 K3 H3,.slice F4 K4 H4] (by kernel_rfl) (by kernel_rfl) (tMade O3.a O4.a (by omega) (by omega) NE.out) ?_
  rintro e z5 ⟨Ar,Kr,Dr,As',Ks,Ds,rfl,Or1,Or2,hkr,hks,hB⟩
  refine ⟨_,rfl,⟨hS.1.keep hB,hS.2.keep hB⟩,?_⟩
  replace hS:=(show _/\_ from ⟨hS.1.keep hB,hS.2.keep hB⟩)
  replace C0':=C0'.keep hB
  replace E0':=E0'.keep hB
  replace C1':=C1'.keep hB
  replace E1':=E1'.keep hB
  replace X4:=X4.keep hB
  replace O1:=O1.keep hB
  replace O2:=O2.keep hB
  replace O3:=O3.keep hB
  replace O4:=O4.keep hB
  replace HB:=joinB HB hB
  clear hB
  refine rg_ready [17] (by kernel_rfl) (by simp) ?_
  refine ar_store 17 40 40 4 25 (w.heap.size + 1 + 1) [.slice none 0 0,.slice none 0 0] [.slice Ar Kr Dr,.slice As' Ks Ds] (by kernel_rfl) (by kernel_rfl) (by kernel_rfl) (by kernel_rfl) X4 (by kernel_rfl) rfl (by kernel_rfl) ?_ ar_nil
  intro z6 Y hw hB
  refine ⟨⟨hS.1.off (by omega) hw,hS.2.off (by omega) hw⟩,?_⟩
  replace hS:=(show _/\_ from ⟨hS.1.off (by omega) hw,hS.2.off (by omega) hw⟩)
  replace HB:=HB.trans (hB.mono (by omega))
  replace C0':=C0'.blk X4 (no_ints2 _ _ _ _ _ _) hw
  replace E0':=E0'.blk X4 (no_ints2 _ _ _ _ _ _) hw
  replace C1':=C1'.blk X4 (no_ints2 _ _ _ _ _ _) hw
  replace E1':=E1'.blk X4 (no_ints2 _ _ _ _ _ _) hw
  skip
  replace O1:=O1.blk X4 (no_ints2 _ _ _ _ _ _) hw
  replace O2:=O2.blk X4 (no_ints2 _ _ _ _ _ _) hw
  replace O3:=O3.blk X4 (no_ints2 _ _ _ _ _ _) hw
  replace O4:=O4.blk X4 (no_ints2 _ _ _ _ _ _) hw
  replace Or1:=Or1.blk X4 (no_ints2 _ _ _ _ _ _) hw
  replace Or2:=Or2.blk X4 (no_ints2 _ _ _ _ _ _) hw
  replace X4:=Y
  clear hB hw
  refine rg_done (by kernel_rfl) ?_
  try simp only [Act.put,List.setIfInBounds_toArray,List.set_cons_zero,List.set_cons_succ]
  go_wp2
  refine bodyPost_ret (ret_rat rfl rfl X4) rfl ?_
  exact ⟨_,_,_,_,_,_,rfl,pairR Or1 Or2 (red_of NP.out.1 NP.out.2) NP.out.2 NP.out.1 (by omega) (by omega),HB⟩
theorem tMulR {w:World} {B:Nat} {a0 b0:Option Addr} {n0 c0 m0 d0:Nat} {x0 y0:Int} {a1 b1:Option Addr} {n1 c1 m1 d1:Nat} {x1 y1:Int} (h0:NatA w a0 n0 c0 x0) (e0:NatA w b0 m0 d0 y0) (hn0:n0<=B) (hm0:m0<=B) (h1:NatA w a1 n1 c1 x1) (e1:NatA w b1 m1 d1 y1) (hn1:n1<=B) (hm1:m1<=B) (hb:B<=10000000) :
  Calls Tryz.prog 55 #[.agg #[.slice a0 n0 c0,.slice b0 m0 d0],.agg #[.slice a1 n1 c1,.slice b1 m1 d1]] w fun e w'=>∃ a k d a' k' d',e=.returned (.agg #[.slice a k d,.slice a' k' d'])/\QR w' a k d a' k' d' (cn x0 y0 * cn x1 y1) (cd y0 * cd y1) (32 * B + 64)/\Below w.heap.size w w':=by
 have u0p:=cd_pos e0.nonneg
 have u1p:=cd_pos e1.nonneg
 have z0p:=cn_nonneg y0 h0.nonneg
 have z1p:=cn_nonneg y1 h1.nonneg
 have NP:Hid (0<=cn x0 y0 * cn x1 y1/\0 < cd y0 * cd y1):=⟨Int.mul_nonneg z0p z1p,Int.mul_pos u0p u1p⟩
 have NE:Hid (cd y0 * cd y1≠0):=Int.mul_ne_zero (cd_ne _) (cd_ne _)
 clear u0p u1p z0p z1p
 have HB:=Below.refl w.heap.size w
 have P0:=box_new (w) [.slice a0 n0 c0,.slice b0 m0 d0] 40
 have BA:=below_alloc (w) (.cells #[.slice a0 n0 c0,.slice b0 m0 d0] 40)
 replace h0:=h0.keep BA
 replace e0:=e0.keep BA
 replace h1:=h1.keep BA
 replace e1:=e1.keep BA
 replace HB:=joinB HB BA
 clear BA
 have P1:=box_new ((w).alloc (.cells #[.slice a0 n0 c0,.slice b0 m0 d0] 40)) [.slice a1 n1 c1,.slice b1 m1 d1] 40
 rw [show ((w).alloc (.cells #[.slice a0 n0 c0,.slice b0 m0 d0] 40)).heap.size=w.heap.size + 1 by simp] at P1
 have BA:=below_alloc ((w).alloc (.cells #[.slice a0 n0 c0,.slice b0 m0 d0] 40)) (.cells #[.slice a1 n1 c1,.slice b1 m1 d1] 40)
 replace h0:=h0.keep BA
 replace e0:=e0.keep BA
 replace h1:=h1.keep BA
 replace e1:=e1.keep BA
 replace P0:=P0.keep BA
 replace HB:=joinB HB BA
 clear BA
 have X4:=box_new (((w).alloc (.cells #[.slice a0 n0 c0,.slice b0 m0 d0] 40)).alloc (.cells #[.slice a1 n1 c1,.slice b1 m1 d1] 40)) [.slice none 0 0,.slice none 0 0] 40
 rw [show (((w).alloc (.cells #[.slice a0 n0 c0,.slice b0 m0 d0] 40)).alloc (.cells #[.slice a1 n1 c1,.slice b1 m1 d1] 40)).heap.size=w.heap.size + 1 + 1 by simp] at X4
 have BA:=below_alloc (((w).alloc (.cells #[.slice a0 n0 c0,.slice b0 m0 d0] 40)).alloc (.cells #[.slice a1 n1 c1,.slice b1 m1 d1] 40)) (.cells #[.slice none 0 0,.slice none 0 0] 40)
 replace h0:=h0.keep BA
 replace e0:=e0.keep BA
 replace h1:=h1.keep BA
 replace e1:=e1.keep BA
 replace P0:=P0.keep BA
 replace P1:=P1.keep BA
 replace HB:=joinB HB BA
 clear BA
 go_enter Tryz.func55,Tryz.ntmps55
 go_wp2_with fail
 generalize ((w.alloc (.cells #[.slice a0 n0 c0,.slice b0 m0 d0] 40)).alloc (.cells #[.slice a1 n1 c1,.slice b1 m1 d1] 40)).alloc (.cells #[.slice none 0 0,.slice none 0 0] 40)=u0 at *
 refine rg_mid (X:=Option Addr × Nat × Nat × Option Addr × Nat × Nat × Option Addr × Nat × Nat × Option Addr × Nat × Nat) (fun ⟨A0,N0,C0,B0,M0,D0,A1,N1,C1,B1,M1,D1⟩=>[(some 5,.agg #[.slice a0 n0 c0,.slice b0 m0 d0]),(some 6,.agg #[.slice A0 N0 C0,.slice B0 M0 D0]),(some 7,.agg #[.slice a1 n1 c1,.slice b1 m1 d1]),(some 8,.agg #[.slice A1 N1 C1,.slice B1 M1 D1])]) (fun ⟨A0,N0,C0,B0,M0,D0,A1,N1,C1,B1,M1,D1⟩ w'=>Box w' (w.heap.size) [.slice A0 N0 C0,.slice B0 M0 D0] 40/\Box w' (w.heap.size + 1) [.slice A1 N1 C1,.slice B1 M1 D1] 40/\NatA w' A0 N0 C0 (cn x0 y0)/\NatA w' B0 M0 D0 (cd y0)/\NatA w' A1 N1 C1 (cn x1 y1)/\NatA w' B1 M1 D1 (cd y1)/\N0<=n0/\M0<=m0 + 2/\N1<=n1/\M1<=m1 + 2/\Box w' (w.heap.size + 1 + 1) [.slice none 0 0,.slice none 0 0] 40/\Below w.heap.size w w') (fun _=>True) (by kernel_rfl) trivial ?_ ?_
 ·replace h0:=h0.drew
  replace e0:=e0.drew
  replace h1:=h1.drew
  replace e1:=e1.drew
  replace P0:=P0.drew
  replace P1:=P1.drew
  replace X4:=X4.drew
  replace HB:=HB.drew
  refine rg_ready [0,2] (by kernel_rfl) (by simp) ?_
  refine ar_load 0 (some 5) (.agg #[.slice a0 n0 c0,.slice b0 m0 d0]) 40 2 (w.heap.size) 0 (by kernel_rfl) (by kernel_rfl) (by kernel_rfl) (load_rat P0) trivial ?_ ?_
  ·refine rg_ready [1,2] (by kernel_rfl) (by simp) ?_
   refine ar_call 1 (some 6) 93 #[.agg #[.slice a0 n0 c0,.slice b0 m0 d0]] (by kernel_rfl) (by kernel_rfl) (tRight h0 e0 (by omega) (by omega)) ?_ ?_
   ·rintro e v2 ⟨A0,N0,C0,B0,M0,D0,rfl,C0',E0',hN0,hM0,hB⟩
    refine ⟨_,rfl,trivial,?_⟩
    replace h0:=h0.keep hB
    replace e0:=e0.keep hB
    replace h1:=h1.keep hB
    replace e1:=e1.keep hB
    replace P0:=P0.keep hB
    replace P1:=P1.keep hB
    replace X4:=X4.keep hB
    replace HB:=joinB HB hB
    clear hB
    refine rg_ready [2] (by kernel_rfl) (by simp) ?_
    refine ar_load 2 (some 7) (.agg #[.slice a1 n1 c1,.slice b1 m1 d1]) 40 3 (w.heap.size + 1) 0 (by kernel_rfl) (by kernel_rfl) (by kernel_rfl) (load_rat P1) trivial ?_ ?_
    ·refine rg_ready [3] (by kernel_rfl) (by simp) ?_
     refine ar_call 3 (some 8) 93 #[.agg #[.slice a1 n1 c1,.slice b1 m1 d1]] (by kernel_rfl) (by kernel_rfl) (tRight h1 e1 (by omega) (by omega)) ?_ ?_
     ·rintro e v4 ⟨A1,N1,C1,B1,M1,D1,rfl,C1',E1',hN1,hM1,hB⟩
      refine ⟨_,rfl,trivial,?_⟩
      replace h0:=h0.keep hB
      replace e0:=e0.keep hB
      replace h1:=h1.keep hB
      replace e1:=e1.keep hB
      replace C0':=C0'.keep hB
      replace E0':=E0'.keep hB
      replace P0:=P0.keep hB
      replace P1:=P1.keep hB
      replace X4:=X4.keep hB
      replace HB:=joinB HB hB
      clear hB
      refine rg_ready [4] (by kernel_rfl) (by simp) ?_
      refine ar_store 4 40 40 2 6 (w.heap.size) [.slice a0 n0 c0,.slice b0 m0 d0] [.slice A0 N0 C0,.slice B0 M0 D0] (by kernel_rfl) (by kernel_rfl) (by kernel_rfl) (by kernel_rfl) P0 (by kernel_rfl) rfl (by kernel_rfl) ?_ ?_
      ·intro v5 Y hw hB
       refine ⟨trivial,?_⟩
       replace HB:=HB.trans (hB.mono (by omega))
       replace h0:=h0.blk P0 (no_ints2 _ _ _ _ _ _) hw
       replace e0:=e0.blk P0 (no_ints2 _ _ _ _ _ _) hw
       replace h1:=h1.blk P0 (no_ints2 _ _ _ _ _ _) hw
       replace e1:=e1.blk P0 (no_ints2 _ _ _ _ _ _) hw
       replace C0':=C0'.blk P0 (no_ints2 _ _ _ _ _ _) hw
       replace E0':=E0'.blk P0 (no_ints2 _ _ _ _ _ _) hw
       replace C1':=C1'.blk P0 (no_ints2 _ _ _ _ _ _) hw
       replace E1':=E1'.blk P0 (no_ints2 _ _ _ _ _ _) hw
       replace P1:=P1.off (by omega) hw
       replace X4:=X4.off (by omega) hw
       replace P0:=Y
       clear hB hw
       refine rg_ready [5] (by kernel_rfl) (by simp) ?_
       refine ar_store 5 40 40 3 8 (w.heap.size + 1) [.slice a1 n1 c1,.slice b1 m1 d1] [.slice A1 N1 C1,.slice B1 M1 D1] (by kernel_rfl) (by kernel_rfl) (by kernel_rfl) (by kernel_rfl) P1 (by kernel_rfl) rfl (by kernel_rfl) ?_ ?_
       ·intro v6 Y hw hB
        refine ⟨trivial,?_⟩
        replace HB:=HB.trans (hB.mono (by omega))
        replace h0:=h0.blk P1 (no_ints2 _ _ _ _ _ _) hw
        replace e0:=e0.blk P1 (no_ints2 _ _ _ _ _ _) hw
        replace h1:=h1.blk P1 (no_ints2 _ _ _ _ _ _) hw
        replace e1:=e1.blk P1 (no_ints2 _ _ _ _ _ _) hw
        replace C0':=C0'.blk P1 (no_ints2 _ _ _ _ _ _) hw
        replace E0':=E0'.blk P1 (no_ints2 _ _ _ _ _ _) hw
        replace C1':=C1'.blk P1 (no_ints2 _ _ _ _ _ _) hw
        replace E1':=E1'.blk P1 (no_ints2 _ _ _ _ _ _) hw
        replace P0:=P0.off (by omega) hw
        replace X4:=X4.off (by omega) hw
        replace P1:=Y
        clear hB hw
        refine rg_done (by kernel_rfl) ?_
        exact ⟨(A0,N0,C0,B0,M0,D0,A1,N1,C1,B1,M1,D1),by kernel_rfl,P0,P1,C0',E0',C1',E1',hN0,hM0,hN1,hM1,X4,HB⟩
       exact ar_nil
      exact ar_nil
     exact ar_nil
    exact ar_nil
   refine ar_load 2 (some 7) (.agg #[.slice a1 n1 c1,.slice b1 m1 d1]) 40 3 (w.heap.size + 1) 0 (by kernel_rfl) (by kernel_rfl) (by kernel_rfl) (load_rat P1) trivial ?_ ?_
   ·refine rg_ready [1] (by kernel_rfl) (by simp) ?_
    refine ar_call 1 (some 6) 93 #[.agg #[.slice a0 n0 c0,.slice b0 m0 d0]] (by kernel_rfl) (by kernel_rfl) (tRight h0 e0 (by omega) (by omega)) ?_ ?_
    ·rintro e v8 ⟨A0,N0,C0,B0,M0,D0,rfl,C0',E0',hN0,hM0,hB⟩
     refine ⟨_,rfl,trivial,?_⟩
     replace h0:=h0.keep hB
     replace e0:=e0.keep hB
     replace h1:=h1.keep hB
     replace e1:=e1.keep hB
     replace P0:=P0.keep hB
     replace P1:=P1.keep hB
     replace X4:=X4.keep hB
     replace HB:=joinB HB hB
     clear hB
     refine rg_ready [3] (by kernel_rfl) (by simp) ?_
     refine ar_call 3 (some 8) 93 #[.agg #[.slice a1 n1 c1,.slice b1 m1 d1]] (by kernel_rfl) (by kernel_rfl) (tRight h1 e1 (by omega) (by omega)) ?_ ?_
     ·rintro e v9 ⟨A1,N1,C1,B1,M1,D1,rfl,C1',E1',hN1,hM1,hB⟩
      refine ⟨_,rfl,trivial,?_⟩
      replace h0:=h0.keep hB
      replace e0:=e0.keep hB
      replace h1:=h1.keep hB
      replace e1:=e1.keep hB
      replace C0':=C0'.keep hB
      replace E0':=E0'.keep hB
      replace P0:=P0.keep hB
      replace P1:=P1.keep hB
      replace X4:=X4.keep hB
      replace HB:=joinB HB hB
      clear hB
      refine rg_ready [4] (by kernel_rfl) (by simp) ?_
      refine ar_store 4 40 40 2 6 (w.heap.size) [.slice a0 n0 c0,.slice b0 m0 d0] [.slice A0 N0 C0,.slice B0 M0 D0] (by kernel_rfl) (by kernel_rfl) (by kernel_rfl) (by kernel_rfl) P0 (by kernel_rfl) rfl (by kernel_rfl) ?_ ?_
      ·intro v10 Y hw hB
       refine ⟨trivial,?_⟩
       replace HB:=HB.trans (hB.mono (by omega))
       replace h0:=h0.blk P0 (no_ints2 _ _ _ _ _ _) hw
       replace e0:=e0.blk P0 (no_ints2 _ _ _ _ _ _) hw
       replace h1:=h1.blk P0 (no_ints2 _ _ _ _ _ _) hw
       replace e1:=e1.blk P0 (no_ints2 _ _ _ _ _ _) hw
       replace C0':=C0'.blk P0 (no_ints2 _ _ _ _ _ _) hw
       replace E0':=E0'.blk P0 (no_ints2 _ _ _ _ _ _) hw
       replace C1':=C1'.blk P0 (no_ints2 _ _ _ _ _ _) hw
       replace E1':=E1'.blk P0 (no_ints2 _ _ _ _ _ _) hw
       replace P1:=P1.off (by omega) hw
       replace X4:=X4.off (by omega) hw
       replace P0:=Y
       clear hB hw
       refine rg_ready [5] (by kernel_rfl) (by simp) ?_
       refine ar_store 5 40 40 3 8 (w.heap.size + 1) [.slice a1 n1 c1,.slice b1 m1 d1] [.slice A1 N1 C1,.slice B1 M1 D1] (by kernel_rfl) (by kernel_rfl) (by kernel_rfl) (by kernel_rfl) P1 (by kernel_rfl) rfl (by kernel_rfl) ?_ ?_
       ·intro v11 Y hw hB
        refine ⟨trivial,?_⟩
        replace HB:=HB.trans (hB.mono (by omega))
        replace h0:=h0.blk P1 (no_ints2 _ _ _ _ _ _) hw
        replace e0:=e0.blk P1 (no_ints2 _ _ _ _ _ _) hw
        replace h1:=h1.blk P1 (no_ints2 _ _ _ _ _ _) hw
        replace e1:=e1.blk P1 (no_ints2 _ _ _ _ _ _) hw
        replace C0':=C0'.blk P1 (no_ints2 _ _ _ _ _ _) hw
        replace E0':=E0'.blk P1 (no_ints2 _ _ _ _ _ _) hw
        replace C1':=C1'.blk P1 (no_ints2 _ _ _ _ _ _) hw
        replace E1':=E1'.blk P1 (no_ints2 _ _ _ _ _ _) hw
        replace P0:=P0.off (by omega) hw
        replace X4:=X4.off (by omega) hw
        replace P1:=Y
        clear hB hw
        refine rg_done (by kernel_rfl) ?_
        exact ⟨(A0,N0,C0,B0,M0,D0,A1,N1,C1,B1,M1,D1),by kernel_rfl,P0,P1,C0',E0',C1',E1',hN0,hM0,hN1,hM1,X4,HB⟩
       exact ar_nil
      exact ar_nil
     exact ar_nil
    exact ar_nil
   exact ar_nil
  refine ar_load 2 (some 7) (.agg #[.slice a1 n1 c1,.slice b1 m1 d1]) 40 3 (w.heap.size + 1) 0 (by kernel_rfl) (by kernel_rfl) (by kernel_rfl) (load_rat P1) trivial ?_ ?_
  ·refine rg_ready [0] (by kernel_rfl) (by simp) ?_
   refine ar_load 0 (some 5) (.agg #[.slice a0 n0 c0,.slice b0 m0 d0]) 40 2 (w.heap.size) 0 (by kernel_rfl) (by kernel_rfl) (by kernel_rfl) (load_rat P0) trivial ?_ ?_
   ·refine rg_ready [1] (by kernel_rfl) (by simp) ?_
    refine ar_call 1 (some 6) 93 #[.agg #[.slice a0 n0 c0,.slice b0 m0 d0]] (by kernel_rfl) (by kernel_rfl) (tRight h0 e0 (by omega) (by omega)) ?_ ?_
    ·rintro e v14 ⟨A0,N0,C0,B0,M0,D0,rfl,C0',E0',hN0,hM0,hB⟩
     refine ⟨_,rfl,trivial,?_⟩
     replace h0:=h0.keep hB
     replace e0:=e0.keep hB
     replace h1:=h1.keep hB
     replace e1:=e1.keep hB
     replace P0:=P0.keep hB
     replace P1:=P1.keep hB
     replace X4:=X4.keep hB
     replace HB:=joinB HB hB
     clear hB
     refine rg_ready [3] (by kernel_rfl) (by simp) ?_
     refine ar_call 3 (some 8) 93 #[.agg #[.slice a1 n1 c1,.slice b1 m1 d1]] (by kernel_rfl) (by kernel_rfl) (tRight h1 e1 (by omega) (by omega)) ?_ ?_
     ·rintro e v15 ⟨A1,N1,C1,B1,M1,D1,rfl,C1',E1',hN1,hM1,hB⟩
      refine ⟨_,rfl,trivial,?_⟩
      replace h0:=h0.keep hB
      replace e0:=e0.keep hB
      replace h1:=h1.keep hB
      replace e1:=e1.keep hB
      replace C0':=C0'.keep hB
      replace E0':=E0'.keep hB
      replace P0:=P0.keep hB
      replace P1:=P1.keep hB
      replace X4:=X4.keep hB
      replace HB:=joinB HB hB
      clear hB
      refine rg_ready [4] (by kernel_rfl) (by simp) ?_
      refine ar_store 4 40 40 2 6 (w.heap.size) [.slice a0 n0 c0,.slice b0 m0 d0] [.slice A0 N0 C0,.slice B0 M0 D0] (by kernel_rfl) (by kernel_rfl) (by kernel_rfl) (by kernel_rfl) P0 (by kernel_rfl) rfl (by kernel_rfl) ?_ ?_
      ·intro v16 Y hw hB
       refine ⟨trivial,?_⟩
       replace HB:=HB.trans (hB.mono (by omega))
       replace h0:=h0.blk P0 (no_ints2 _ _ _ _ _ _) hw
       replace e0:=e0.blk P0 (no_ints2 _ _ _ _ _ _) hw
       replace h1:=h1.blk P0 (no_ints2 _ _ _ _ _ _) hw
       replace e1:=e1.blk P0 (no_ints2 _ _ _ _ _ _) hw
       replace C0':=C0'.blk P0 (no_ints2 _ _ _ _ _ _) hw
       replace E0':=E0'.blk P0 (no_ints2 _ _ _ _ _ _) hw
       replace C1':=C1'.blk P0 (no_ints2 _ _ _ _ _ _) hw
       replace E1':=E1'.blk P0 (no_ints2 _ _ _ _ _ _) hw
       replace P1:=P1.off (by omega) hw
       replace X4:=X4.off (by omega) hw
       replace P0:=Y
       clear hB hw
       refine rg_ready [5] (by kernel_rfl) (by simp) ?_
       refine ar_store 5 40 40 3 8 (w.heap.size + 1) [.slice a1 n1 c1,.slice b1 m1 d1] [.slice A1 N1 C1,.slice B1 M1 D1] (by kernel_rfl) (by kernel_rfl) (by kernel_rfl) (by kernel_rfl) P1 (by kernel_rfl) rfl (by kernel_rfl) ?_ ?_
       ·intro v17 Y hw hB
        refine ⟨trivial,?_⟩
        replace HB:=HB.trans (hB.mono (by omega))
        replace h0:=h0.blk P1 (no_ints2 _ _ _ _ _ _) hw
        replace e0:=e0.blk P1 (no_ints2 _ _ _ _ _ _) hw
        replace h1:=h1.blk P1 (no_ints2 _ _ _ _ _ _) hw
        replace e1:=e1.blk P1 (no_ints2 _ _ _ _ _ _) hw
        replace C0':=C0'.blk P1 (no_ints2 _ _ _ _ _ _) hw
        replace E0':=E0'.blk P1 (no_ints2 _ _ _ _ _ _) hw
        replace C1':=C1'.blk P1 (no_ints2 _ _ _ _ _ _) hw
        replace E1':=E1'.blk P1 (no_ints2 _ _ _ _ _ _) hw
        replace P0:=P0.off (by omega) hw
        replace X4:=X4.off (by omega) hw
        replace P1:=Y
        clear hB hw
        refine rg_done (by kernel_rfl) ?_
        exact ⟨(A0,N0,C0,B0,M0,D0,A1,N1,C1,B1,M1,D1),by kernel_rfl,P0,P1,C0',E0',C1',E1',hN0,hM0,hN1,hM1,X4,HB⟩
       exact ar_nil
      exact ar_nil
     exact ar_nil
    exact ar_nil
   exact ar_nil
  exact ar_nil
 ·clear h0 e0 h1 e1 P0 P1 X4 HB
  rintro ⟨A0,N0,C0,B0,M0,D0,A1,N1,C1,B1,M1,D1⟩ u1 ⟨P0,P1,C0',E0',C1',E1',hN0,hM0,hN1,hM1,X4,HB⟩
  try simp only [putAll,Act.put,List.setIfInBounds_toArray,List.set_cons_zero,List.set_cons_succ]
  go_wp2_with fail
  refine rg_start (S:=fun w'=>Box w' (w.heap.size) [.slice A0 N0 C0,.slice B0 M0 D0] 40/\Box w' (w.heap.size + 1) [.slice A1 N1 C1,.slice B1 M1 D1] 40) (by kernel_rfl) ⟨P0.drew,P1.drew⟩ ?_
  replace C0':=C0'.drew
  replace E0':=E0'.drew
  replace C1':=C1'.drew
  replace E1':=E1'.drew
  replace X4:=X4.drew
  replace HB:=HB.drew
  have hS:=(show _/\_ from ⟨P0.drew,P1.drew⟩)
  clear P0 P1
  refine rg_n 0 9 (.pointer (some ⟨w.heap.size,0,none⟩)) (by kernel_rfl) (fun _ _=>by kernel_rfl) i3 hS ?_
  refine rg_load 1 (some 10) (.slice A0 N0 C0) 33 9 (w.heap.size) 0 (by kernel_rfl) (by kernel_rfl) (by kernel_rfl) (fun _ hs=>load_at (hs.1.cells2.1)) i3 hS ?_
  refine rg_n 2 11 (.pointer (some ⟨w.heap.size + 1,0,none⟩)) (by kernel_rfl) (fun _ _=>by kernel_rfl) i3 hS ?_
  refine rg_load 3 (some 12) (.slice A1 N1 C1) 33 11 (w.heap.size + 1) 0 (by kernel_rfl) (by kernel_rfl) (by kernel_rfl) (fun _ hs=>load_at (hs.2.cells2.1)) i3 hS ?_
  refine rg_n 5 14 (.pointer (some ⟨w.heap.size,1,none⟩)) (by kernel_rfl) (fun _ _=>by kernel_rfl) i3 hS ?_
  refine rg_load 6 (some 15) (.slice B0 M0 D0) 33 14 (w.heap.size) 1 (by kernel_rfl) (by kernel_rfl) (by kernel_rfl) (fun _ hs=>load_at (hs.1.cells2.2.1)) i3 hS ?_
  refine rg_n 7 16 (.pointer (some ⟨w.heap.size + 1,1,none⟩)) (by kernel_rfl) (fun _ _=>by kernel_rfl) i3 hS ?_
  refine rg_load 8 (some 17) (.slice B1 M1 D1) 33 16 (w.heap.size + 1) 1 (by kernel_rfl) (by kernel_rfl) (by kernel_rfl) (fun _ hs=>load_at (hs.2.cells2.2.1)) i3 hS ?_
  refine rg_call 4 (some 13) 65 #[.slice A0 N0 C0,.slice A1 N1 C1] (by kernel_rfl) (by kernel_rfl) (rMul C0' C1' (by omega) (by omega)) ?_
  rintro e z1 ⟨F1,K1,H1,rfl,O1,hk1,hB⟩
  refine ⟨_,rfl,⟨hS.1.keep hB,hS.2.keep hB⟩,?_⟩
  replace hS:=(show _/\_ from ⟨hS.1.keep hB,hS.2.keep hB⟩)
  replace C0':=C0'.keep hB
  replace E0':=E0'.keep hB
  replace C1':=C1'.keep hB
  replace E1':=E1'.keep hB
  replace X4:=X4.keep hB
  replace HB:=joinB HB hB
  clear hB
  refine rg_call 9 (some 18) 65 #[.slice B0 M0 D0,.slice B1 M1 D1] (by kernel_rfl) (by kernel_rfl) (rMul E0' E1' (by omega) (by omega)) ?_
  rintro e z2 ⟨F2,K2,H2,rfl,O2,hk2,hB⟩
  refine ⟨_,rfl,⟨hS.1.keep hB,hS.2.keep hB⟩,?_⟩
  replace hS:=(show _/\_ from ⟨hS.1.keep hB,hS.2.keep hB⟩)
  replace C0':=C0'.keep hB
  replace E0':=E0'.keep hB
  replace C1':=C1'.keep hB
  replace E1':=E1'.keep hB
  replace X4:=X4.keep hB
  replace O1:=O1.keep hB
  replace HB:=joinB HB hB
  clear hB
  refine rg_call 10 (some 19) 94 #[.slice F1 K1 H1,.slice F2 K2 H2] (by kernel_rfl) (by kernel_rfl) (tMade O1.a O2.a (by omega) (by omega) NE.out) ?_
  rintro e z3 ⟨Ar,Kr,Dr,As',Ks,Ds,rfl,Or1,Or2,hkr,hks,hB⟩
  refine ⟨_,rfl,⟨hS.1.keep hB,hS.2.keep hB⟩,?_⟩
  replace hS:=(show _/\_ from ⟨hS.1.keep hB,hS.2.keep hB⟩)
  replace C0':=C0'.keep hB
  replace E0':=E0'.keep hB
  replace C1':=C1'.keep hB
  replace E1':=E1'.keep hB
  replace X4:=X4.keep hB
  replace O1:=O1.keep hB
  replace O2:=O2.keep hB
  replace HB:=joinB HB hB
  clear hB
  refine rg_ready [11] (by kernel_rfl) (by simp) ?_
  refine ar_store 11 40 40 4 19 (w.heap.size + 1 + 1) [.slice none 0 0,.slice none 0 0] [.slice Ar Kr Dr,.slice As' Ks Ds] (by kernel_rfl) (by kernel_rfl) (by kernel_rfl) (by kernel_rfl) X4 (by kernel_rfl) rfl (by kernel_rfl) ?_ ar_nil
  intro z4 Y hw hB
  refine ⟨⟨hS.1.off (by omega) hw,hS.2.off (by omega) hw⟩,?_⟩
  replace hS:=(show _/\_ from ⟨hS.1.off (by omega) hw,hS.2.off (by omega) hw⟩)
  replace HB:=HB.trans (hB.mono (by omega))
  replace C0':=C0'.blk X4 (no_ints2 _ _ _ _ _ _) hw
  replace E0':=E0'.blk X4 (no_ints2 _ _ _ _ _ _) hw
  replace C1':=C1'.blk X4 (no_ints2 _ _ _ _ _ _) hw
  replace E1':=E1'.blk X4 (no_ints2 _ _ _ _ _ _) hw
  skip
  replace O1:=O1.blk X4 (no_ints2 _ _ _ _ _ _) hw
  replace O2:=O2.blk X4 (no_ints2 _ _ _ _ _ _) hw
  replace Or1:=Or1.blk X4 (no_ints2 _ _ _ _ _ _) hw
  replace Or2:=Or2.blk X4 (no_ints2 _ _ _ _ _ _) hw
  replace X4:=Y
  clear hB hw
  refine rg_done (by kernel_rfl) ?_
  try simp only [Act.put,List.setIfInBounds_toArray,List.set_cons_zero,List.set_cons_succ]
  go_wp2
  refine bodyPost_ret (ret_rat rfl rfl X4) rfl ?_
  exact ⟨_,_,_,_,_,_,rfl,pairR Or1 Or2 (red_of NP.out.1 NP.out.2) NP.out.2 NP.out.1 (by omega) (by omega),HB⟩
end
section
open Go.RowKit Lim
theorem tOfZ {w:World} {ao ao':Option Addr} {n c n' c':Nat} {y:Int} (h':NatA w ao' n' c' y) (hn':n'<=17179869184) (hz:y=0) :
  Calls Tryz.prog 64 #[.slice ao n c,.slice ao' n' c'] w fun e w'=>e=.returned (.tuple #[.agg #[.slice none 0 0,.slice none 0 0],.int .i64 30])/\Below w.heap.size w w':=by
 have HB:=below_alloc w (.cells #[.slice none 0 0,.slice none 0 0] 40)
 have X4:=box_new w [.slice none 0 0,.slice none 0 0] 40
 replace h':=h'.keep HB
 have HZ:=(show Hid _ from hz)
 clear hz
 go_enter Tryz.func64,Tryz.ntmps64
 go_wp2_with fail
 refine (rNorm h' (by omega)).mono ?_
 rintro e w1 ⟨A1,K1,C1,rfl,O1,hk1,hB⟩
 obtain rfl:K1=0:=natO_zero (O1.eqv HZ.out)
 replace X4:=X4.keep hB
 replace HB:=joinB HB hB
 clear hB O1 hk1 HZ h'
 obtain ⟨i1,i2,i3,i4⟩:=X4.cells2
 have S2:=X4.put2 (.slice none 0 0) (.slice none 0 0)
 have HB2:=below_put2 HB (g:=w.heap.size) (by omega) (.slice none 0 0) (.slice none 0 0)
 clear X4 HB
 go_wp2
 refine bodyPost_ret (ret_rat_tmp rfl rfl rfl S2) rfl ?_
 exact ⟨rfl,HB2⟩
theorem tOf {w:World} {ao ao':Option Addr} {n c n' c':Nat} {x y:Int} {B:Nat} (h:NatA w ao n c x) (h':NatA w ao' n' c' y) (hn:n<=B) (hn':n'<=B) (hb:B<=10000000) (hne:y≠0) :
  Calls Tryz.prog 64 #[.slice ao n c,.slice ao' n' c'] w fun e w'=>∃ a k d a' k' d',e=.returned (.tuple #[.agg #[.slice a k d,.slice a' k' d'],.int .i64 0])/\QR w' a k d a' k' d' x y (2 * B)/\Below w.heap.size w w':=by
 have HP:Hid (0<=x/\0 < y):=⟨h.nonneg,by have:=h'.nonneg; omega⟩
 have HB:=below_alloc w (.cells #[.slice none 0 0,.slice none 0 0] 40)
 have X4:=box_new w [.slice none 0 0,.slice none 0 0] 40
 replace h:=h.keep HB
 replace h':=h'.keep HB
 have HZ:=(show Hid _ from hne)
 clear hne
 go_enter Tryz.func64,Tryz.ntmps64
 go_wp2_with fail
 refine (rNorm h' (by omega)).mono ?_
 rintro e w1 ⟨A1,K1,C1,rfl,O1,hk1,hB⟩
 obtain ⟨j,rfl⟩:∃ j,K1=j + 1:=⟨K1 - 1,by have:=natO_pos O1 HZ.out; omega⟩
 replace h:=h.keep hB
 replace h':=h'.keep hB
 replace X4:=X4.keep hB
 replace HB:=joinB HB hB
 clear hB O1
 go_wp2_with fail
 refine (tMade h h' (by omega) (by omega) HZ.out).mono ?_
 rintro e w2 ⟨Ar,Kr,Dr,As',Ks,Ds,rfl,Or1,Or2,hkr,hks,hB⟩
 replace X4:=X4.keep hB
 replace HB:=joinB HB hB
 clear hB h h'
 obtain ⟨i1,i2,i3,i4⟩:=X4.cells2
 have S2:=X4.put2 (.slice Ar Kr Dr) (.slice As' Ks Ds)
 have Q1:=Or1.put2 X4 (.slice Ar Kr Dr) (.slice As' Ks Ds)
 have Q2:=Or2.put2 X4 (.slice Ar Kr Dr) (.slice As' Ks Ds)
 have HB2:=below_put2 HB (g:=w.heap.size) (by omega) (.slice Ar Kr Dr) (.slice As' Ks Ds)
 clear X4 HB Or1 Or2
 go_wp2
 refine bodyPost_ret (ret_rat_tmp rfl rfl rfl S2) rfl ?_
 exact ⟨_,_,_,_,_,_,rfl,pairR Q1 Q2 (red_of HP.out.1 HP.out.2) HP.out.2 HP.out.1 (by omega) (by omega),HB2⟩
theorem tOfNat {w:World} {ao:Option Addr} {n c:Nat} {x:Int} {B:Nat} (h:NatA w ao n c x) (hn:n<=B) (h2:2<=B) (hb:B<=10000000) :
  Calls Tryz.prog 99 #[.slice ao n c] w fun e w'=>∃ a k d a' k' d',e=.returned (.agg #[.slice a k d,.slice a' k' d'])/\QR w' a k d a' k' d' x 1 (2 * B)/\Below w.heap.size w w':=by
 have HP:Hid (0<=x):=h.nonneg
 have HB:=below_alloc w (.cells #[.slice none 0 0,.slice none 0 0] 40)
 have X4:=box_new w [.slice none 0 0,.slice none 0 0] 40
 replace h:=h.keep HB
 go_enter Tryz.func99,Tryz.ntmps99
 go_wp2_with fail
 refine (rOf (x:=1) (by decide) (by decide)).mono ?_
 rintro e w1 ⟨A1,K1,C1,rfl,O1,hk1,hB⟩
 replace h:=h.keep hB
 replace X4:=X4.keep hB
 replace HB:=joinB HB hB
 clear hB
 go_wp2_with fail
 refine (tMade h O1.a (by omega) (by omega) (by decide)).mono ?_
 rintro e w2 ⟨Ar,Kr,Dr,As',Ks,Ds,rfl,Or1,Or2,hkr,hks,hB⟩
 replace X4:=X4.keep hB
 replace HB:=joinB HB hB
 clear hB h O1
 obtain ⟨i1,i2,i3,i4⟩:=X4.cells2
 have S2:=X4.put2 (.slice Ar Kr Dr) (.slice As' Ks Ds)
 have Q1:=Or1.put2 X4 (.slice Ar Kr Dr) (.slice As' Ks Ds)
 have Q2:=Or2.put2 X4 (.slice Ar Kr Dr) (.slice As' Ks Ds)
 have HB2:=below_put2 HB (g:=w.heap.size) (by omega) (.slice Ar Kr Dr) (.slice As' Ks Ds)
 clear X4 HB Or1 Or2
 go_wp2
 refine bodyPost_ret (ret_rat rfl rfl S2) rfl ?_
 exact ⟨_,_,_,_,_,_,rfl,pairR Q1 Q2 (red_of HP.out (by decide)) (by decide) HP.out (by omega) (by omega),HB2⟩
theorem tOfDec {w:World} {ao:Option Addr} {n c:Nat} {x:Int} {B:Nat} (h:NatA w ao n c x) (hn:n<=B) (h2:38<=B) (hb:B<=10000000) :
  Calls Tryz.prog 56 #[.agg #[.slice ao n c]] w fun e w'=>∃ a k d a' k' d',e=.returned (.agg #[.slice a k d,.slice a' k' d'])/\QR w' a k d a' k' d' x U36 (2 * B)/\Below w.heap.size w w':=by
 have HP:Hid (0<=x):=h.nonneg
 have NE:Hid (U36≠0):=show U36≠0 by decide
 have HB:=below2 w (.cells #[.slice ao n c] 35) (.cells #[.slice none 0 0,.slice none 0 0] 40)
 have P0:=(box_new w [.slice ao n c] 35).keep (below_alloc _ (.cells #[.slice none 0 0,.slice none 0 0] 40))
 have X4:=box_new (w.alloc (.cells #[.slice ao n c] 35)) [.slice none 0 0,.slice none 0 0] 40
 rw [show (w.alloc (.cells #[.slice ao n c] 35)).heap.size=w.heap.size + 1 by simp] at X4
 replace h:=h.keep HB
 go_enter Tryz.func56,Tryz.ntmps56
 go_wp2_with fail
 generalize (w.alloc (.cells #[.slice ao n c] 35)).alloc (.cells #[.slice none 0 0,.slice none 0 0] 40)=u0 at *
 refine rg_start (S:=fun w'=>Box w' w.heap.size [.slice ao n c] 35) (by kernel_rfl) P0.drew ?_
 have hS:=P0.drew
 replace h:=h.drew
 replace X4:=X4.drew
 replace HB:=HB.drew
 clear P0
 refine rg_n 0 3 (.pointer (some ⟨w.heap.size,0,none⟩)) (by kernel_rfl) (fun _ _=>by kernel_rfl) i3 hS ?_
 refine rg_load 1 (some 4) (.slice ao n c) 33 3 (w.heap.size) 0 (by kernel_rfl) (by kernel_rfl) (by kernel_rfl) (fun _ hs=>load_raw hs.slot) i3 hS ?_
 refine rg_call 2 (some 5) 95 #[] (by kernel_rfl) (by kernel_rfl) eOne ?_
 rintro e z1 ⟨A1,K1,C1,rfl,O1,hk1,hB⟩
 refine ⟨_,rfl,hS.keep hB,?_⟩
 replace hS:=hS.keep hB
 replace h:=h.keep hB
 replace X4:=X4.keep hB
 replace HB:=joinB HB hB
 clear hB
 refine rg_call 3 (some 6) 94 #[.slice ao n c,.slice A1 K1 C1] (by kernel_rfl) (by kernel_rfl) (tMade h O1.a (by omega) (by omega) NE.out) ?_
 rintro e z2 ⟨Ar,Kr,Dr,As',Ks,Ds,rfl,Or1,Or2,hkr,hks,hB⟩
 refine ⟨_,rfl,hS.keep hB,?_⟩
 replace hS:=hS.keep hB
 replace X4:=X4.keep hB
 replace HB:=joinB HB hB
 clear hB h O1
 refine rg_ready [4] (by kernel_rfl) (by simp) ?_
 refine ar_store 4 40 40 2 6 (w.heap.size + 1) [.slice none 0 0,.slice none 0 0] [.slice Ar Kr Dr,.slice As' Ks Ds] (by kernel_rfl) (by kernel_rfl) (by kernel_rfl) (by kernel_rfl) X4 (by kernel_rfl) rfl (by kernel_rfl) ?_ ar_nil
 intro z3 Y hw hB
 refine ⟨hS.off (by omega) hw,?_⟩
 replace HB:=HB.trans (hB.mono (by omega))
 replace Or1:=Or1.blk X4 (no_ints2 _ _ _ _ _ _) hw
 replace Or2:=Or2.blk X4 (no_ints2 _ _ _ _ _ _) hw
 replace X4:=Y
 clear hB hw hS Y
 refine rg_done (by kernel_rfl) ?_
 try simp only [Act.put,List.setIfInBounds_toArray,List.set_cons_zero,List.set_cons_succ]
 go_wp2
 refine bodyPost_ret (ret_rat rfl rfl X4) rfl ?_
 exact ⟨_,_,_,_,_,_,rfl,pairR Or1 Or2 (red_of HP.out u36_pos) u36_pos HP.out (by omega) (by omega),HB⟩
theorem tAdd {w:World} {B:Nat} {a0 b0:Option Addr} {n0 c0 m0 d0:Nat} {p0 q0:Int} {a1 b1:Option Addr} {n1 c1 m1 d1:Nat} {p1 q1:Int} (h0:QV w a0 n0 c0 b0 m0 d0 p0 q0 B) (h1:QV w a1 n1 c1 b1 m1 d1 p1 q1 B) (hb:B<=10000000) :
  Calls Tryz.prog 53 #[.agg #[.slice a0 n0 c0,.slice b0 m0 d0],.agg #[.slice a1 n1 c1,.slice b1 m1 d1]] w fun e w'=>∃ a k d a' k' d',e=.returned (.agg #[.slice a k d,.slice a' k' d'])/\QR w' a k d a' k' d' (p0 * q1 + p1 * q0) (q0 * q1) (32 * B + 64)/\Below w.heap.size w w':=by
 obtain ⟨x0,y0,g0,k0,E0⟩:=h0.ex
 obtain ⟨x1,y1,g1,k1,E1⟩:=h1.ex
 have u0:=cd_pos k0.nonneg
 have u1:=cd_pos k1.nonneg
 refine (tAddR g0 k0 h0.hn h0.hm g1 k1 h1.hn h1.hm hb).mono ?_
 rintro e w1 ⟨a,k,d,a',k',d',rfl,O1,hB⟩
 refine ⟨a,k,d,a',k',d',rfl,O1.eqv (Int.mul_pos h0.q0 h1.q0) (Int.add_nonneg (Int.mul_nonneg h0.p0 (Int.le_of_lt h1.q0)) (Int.mul_nonneg h1.p0 (Int.le_of_lt h0.q0))) ?_,hB⟩
 have s1:(cn x0 y0 * cd y1 + cn x1 y1 * cd y0) * (q0 * q1)=cn x0 y0 * q0 * (cd y1 * q1) + cn x1 y1 * q1 * (cd y0 * q0):=by grind
 rw [s1,E0,E1]
 grind
theorem tMul {w:World} {B:Nat} {a0 b0:Option Addr} {n0 c0 m0 d0:Nat} {p0 q0:Int} {a1 b1:Option Addr} {n1 c1 m1 d1:Nat} {p1 q1:Int} (h0:QV w a0 n0 c0 b0 m0 d0 p0 q0 B) (h1:QV w a1 n1 c1 b1 m1 d1 p1 q1 B) (hb:B<=10000000) :
  Calls Tryz.prog 55 #[.agg #[.slice a0 n0 c0,.slice b0 m0 d0],.agg #[.slice a1 n1 c1,.slice b1 m1 d1]] w fun e w'=>∃ a k d a' k' d',e=.returned (.agg #[.slice a k d,.slice a' k' d'])/\QR w' a k d a' k' d' (p0 * p1) (q0 * q1) (32 * B + 64)/\Below w.heap.size w w':=by
 obtain ⟨x0,y0,g0,k0,E0⟩:=h0.ex
 obtain ⟨x1,y1,g1,k1,E1⟩:=h1.ex
 have u0:=cd_pos k0.nonneg
 have u1:=cd_pos k1.nonneg
 refine (tMulR g0 k0 h0.hn h0.hm g1 k1 h1.hn h1.hm hb).mono ?_
 rintro e w1 ⟨a,k,d,a',k',d',rfl,O1,hB⟩
 refine ⟨a,k,d,a',k',d',rfl,O1.eqv (Int.mul_pos h0.q0 h1.q0) (Int.mul_nonneg h0.p0 h1.p0) ?_,hB⟩
 have s1:cn x0 y0 * cn x1 y1 * (q0 * q1)=cn x0 y0 * q0 * (cn x1 y1 * q1):=by grind
 rw [s1,E0,E1]
 grind
end
section
namespace Lg
open Go.RowKit Lim Pg
theorem tpAdd {w:World} {B:Nat} {a0 b0:Option Addr} {n0 c0 m0 d0:Nat} {a1 b1:Option Addr} {n1 c1 m1 d1:Nat} {r0 r1:Rat} (h0:VQ w a0 n0 c0 b0 m0 d0 r0 B) (h1:VQ w a1 n1 c1 b1 m1 d1 r1 B) (hb:B<=10000000) :
  Calls Tryz.prog 53 #[.agg #[.slice a0 n0 c0,.slice b0 m0 d0],.agg #[.slice a1 n1 c1,.slice b1 m1 d1]] w fun e w'=>∃ a k d a' k' d',e=.returned (.agg #[.slice a k d,.slice a' k' d'])/\RQ w' a k d a' k' d' (r0 + r1)/\Below w.heap.size w w':=by
 obtain ⟨p0,q0,x0,e0⟩:=h0.ex
 obtain ⟨p1,q1,x1,e1⟩:=h1.ex
 refine (tAdd x0 x1 (by omega)).mono ?_
 rintro e w1 ⟨a,k,d,a',k',d',rfl,Q,hB⟩
 exact ⟨a,k,d,a',k',d',rfl,⟨_,_,_,Q,by rw [e0,e1,fr_add x0.q0 x1.q0]⟩,hB⟩
theorem tpMul {w:World} {B:Nat} {a0 b0:Option Addr} {n0 c0 m0 d0:Nat} {a1 b1:Option Addr} {n1 c1 m1 d1:Nat} {r0 r1:Rat} (h0:VQ w a0 n0 c0 b0 m0 d0 r0 B) (h1:VQ w a1 n1 c1 b1 m1 d1 r1 B) (hb:B<=10000000) :
  Calls Tryz.prog 55 #[.agg #[.slice a0 n0 c0,.slice b0 m0 d0],.agg #[.slice a1 n1 c1,.slice b1 m1 d1]] w fun e w'=>∃ a k d a' k' d',e=.returned (.agg #[.slice a k d,.slice a' k' d'])/\RQ w' a k d a' k' d' (r0 * r1)/\Below w.heap.size w w':=by
 obtain ⟨p0,q0,x0,e0⟩:=h0.ex
 obtain ⟨p1,q1,x1,e1⟩:=h1.ex
 refine (tMul x0 x1 (by omega)).mono ?_
 rintro e w1 ⟨a,k,d,a',k',d',rfl,Q,hB⟩
 exact ⟨a,k,d,a',k',d',rfl,⟨_,_,_,Q,by rw [e0,e1,fr_mul x0.q0 x1.q0]⟩,hB⟩
theorem tpOfNat {w:World} {ao:Option Addr} {n c:Nat} {x:Int} {B:Nat} (h:NatA w ao n c x) (hn:n<=B) (h1:39<=B) (hb:B<=10000000) :
  Calls Tryz.prog 99 #[.slice ao n c] w fun e w'=>∃ a k d a' k' d',e=.returned (.agg #[.slice a k d,.slice a' k' d'])/\RQ w' a k d a' k' d' ((x:Rat))/\Below w.heap.size w w':=by
 refine (tOfNat h hn (by omega) (by omega)).mono ?_
 rintro e w1 ⟨a,k,d,a',k',d',rfl,Q,hB⟩
 exact ⟨a,k,d,a',k',d',rfl,⟨_,_,_,Q,by rw [show ((1:Int):Rat)=1 by decide +kernel]; grind⟩,hB⟩
theorem tpOfDec {w:World} {ao:Option Addr} {n c:Nat} {x:Int} {B:Nat} (h:NatA w ao n c x) (hn:n<=B) (h1:39<=B) (hb:B<=10000000) :
  Calls Tryz.prog 56 #[.agg #[.slice ao n c]] w fun e w'=>∃ a k d a' k' d',e=.returned (.agg #[.slice a k d,.slice a' k' d'])/\RQ w' a k d a' k' d' ((x:Rat) / (U36:Rat))/\Below w.heap.size w w':=by
 refine (tOfDec h hn (by omega) (by omega)).mono ?_
 rintro e w1 ⟨a,k,d,a',k',d',rfl,Q,hB⟩
 exact ⟨a,k,d,a',k',d',rfl,⟨_,_,_,Q,rfl⟩,hB⟩
theorem tpOf {w:World} {ao ao':Option Addr} {n c n' c':Nat} {x y:Int} {B:Nat} (h:NatA w ao n c x) (h':NatA w ao' n' c' y) (hn:n<=B) (hn':n'<=B) (hb:B<=10000000) (hne:y≠0) :
  Calls Tryz.prog 64 #[.slice ao n c,.slice ao' n' c'] w fun e w'=>∃ a k d a' k' d',e=.returned (.tuple #[.agg #[.slice a k d,.slice a' k' d'],.int .i64 0])/\RQ w' a k d a' k' d' ((x:Rat) / (y:Rat))/\Below w.heap.size w w':=by
 refine (tOf h h' hn hn' hb hne).mono ?_
 rintro e w1 ⟨a,k,d,a',k',d',rfl,Q,hB⟩
 exact ⟨a,k,d,a',k',d',rfl,⟨_,_,_,Q,rfl⟩,hB⟩
end Lg
end
section
open Go.RowKit Lim
end
section
open Go.RowKit Lim
end
end Go.Proofs.YtlbndpkdkdgggaaGreatDoor
