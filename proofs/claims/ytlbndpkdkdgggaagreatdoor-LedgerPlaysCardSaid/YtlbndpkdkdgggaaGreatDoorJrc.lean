/- Several texts, joined: Dec1. -/
import Derived.Test.YtlbndpkdkdgggaaGreatDoorJna
import Derived.Handy
set_option maxRecDepth 100000
set_option maxHeartbeats 8000000
namespace Go.Proofs.YtlbndpkdkdgggaaGreatDoor
open Go.RowKit Lim
theorem dAdd {w:World} {ao ao':Option Addr} {n c n' c':Nat} {x y:Int} (h:NatA w ao n c x) (h':NatA w ao' n' c' y) (hn:n<=1099511627776) (hn':n'<=1099511627776) :
  Calls Tryz.prog 45 #[.agg #[.slice ao n c],.agg #[.slice ao' n' c']] w fun e w'=>∃ a k d,e=.returned (.agg #[.slice a k d])/\NatO w' a k d (x + y)/\k<=n + n' + 1/\Below w.heap.size w w':=by
 have B0:=below3 w (.cells #[.slice ao n c] 35) (.cells #[.slice ao' n' c'] 35) (.cells #[.slice none 0 0] 35)
 have S0:=slot_last3 w (.cells #[.slice ao n c] 35) (.cells #[.slice ao' n' c'] 35) (.slice none 0 0) 35
 have h:=h.keep B0
 have h':=h'.keep B0
 go_enter Tryz.func45,Tryz.ntmps45
 go_wp2_with fail
 refine (nAdd h h' hn hn').mono ?_
 rintro e w1 ⟨a,k,d,rfl,hO,hk,hB⟩
 have S1:=S0.keep hB
 have c1:=S1.cell
 have f1:=S1.free
 have S2:=S1.put (.slice a k d)
 have hO1:=hO.put S1 not_int (.slice a k d)
 have HB:=belowPut B0 hB (g:=w.heap.size + 1 + 1) (by omega) (.slice a k d)
 clear h h' hO hB S0 S1 B0
 go_wp2
 refine bodyPost_ret (ret_dec rfl rfl S2) rfl ?_
 exact ⟨a,k,d,rfl,hO1,hk,HB⟩
theorem dTenTo {w:World} (n:Nat) (hn:n<=4096) :
  Calls Tryz.prog 123 #[.int .i64 n] w fun e w'=>∃ a k d,e=.returned (.slice a k d)/\NatO w' a k d (10 ^ n)/\k<=n + 2/\Below w.heap.size w w':=by
 go_enter Tryz.func123,Tryz.ntmps123
 go_wp2_with fail
 refine (nPow n hn).mono ?_
 rintro e w1 ⟨a,k,d,rfl,hO,hk,hB⟩
 go_wp2
 go_ret
 exact ⟨a,k,d,rfl,hO,hk,hB⟩
def U36:Int:=10 ^ 36
theorem dUnit {w:World}:Calls Tryz.prog 113 #[] w fun e w'=>∃ a k d,e=.returned (.slice a k d)/\NatO w' a k d U36/\k<=38/\Below w.heap.size w w':=by
 go_enter Tryz.func113,Tryz.ntmps113
 go_wp2_with fail
 refine (dTenTo 36 (by decide)).mono ?_
 rintro e w1 ⟨a,k,d,rfl,hO,hk,hB⟩
 go_wp2
 go_ret
 exact ⟨a,k,d,rfl,hO,hk,hB⟩
theorem dOfNat {w:World} {ao:Option Addr} {n c:Nat} {x:Int} (h:NatA w ao n c x) (hn:n<=1099511627776) :
  Calls Tryz.prog 88 #[.slice ao n c] w fun e w'=>∃ a k d,e=.returned (.agg #[.slice a k d])/\NatO w' a k d (x * U36)/\k<=n + 38/\Below w.heap.size w w':=by
 have B0:=below_alloc w (.cells #[.slice none 0 0] 35)
 have S0:=slot_new w (.slice none 0 0) 35
 have h:=h.keep B0
 go_enter Tryz.func88,Tryz.ntmps88
 go_wp2_with fail
 refine dUnit.mono ?_
 rintro e w1 ⟨a,k,d,rfl,hO,hk,hB⟩
 have h:=h.keep hB
 have S0:=S0.keep hB
 have B0:=joinB B0 hB
 clear hB
 go_wp2_with fail
 refine (nMul h hO.a hn (by omega)).mono ?_
 rintro e w2 ⟨a',k',d',rfl,hO',hk',hB⟩
 have S1:=S0.keep hB
 have c1:=S1.cell
 have f1:=S1.free
 have S2:=S1.put (.slice a' k' d')
 have hO1:=hO'.put S1 not_int (.slice a' k' d')
 have HB:=belowPut B0 hB (g:=w.heap.size) (Nat.le_refl _) (.slice a' k' d')
 clear h hO hO' hB S0 S1 B0
 go_wp2
 refine bodyPost_ret (ret_dec rfl rfl S2) rfl ?_
 exact ⟨a',k',d',rfl,hO1,by omega,HB⟩
theorem dOf {w:World} {x:Int} (h0:0<=x) (h1:x < 18446744073709551616) :
  Calls Tryz.prog 46 #[.int .u64 x] w fun e w'=>∃ a k d,e=.returned (.agg #[.slice a k d])/\NatO w' a k d (x * U36)/\k<=39/\Below w.heap.size w w':=by
 have B0:=below_alloc w (.cells #[.slice none 0 0] 35)
 have S0:=slot_new w (.slice none 0 0) 35
 go_enter Tryz.func46,Tryz.ntmps46
 go_wp2_with fail
 refine (nOf h0 h1).mono ?_
 rintro e w1 ⟨a,k,d,rfl,hO,hk,hB⟩
 have S0:=S0.keep hB
 have B0:=joinB B0 hB
 clear hB
 go_wp2_with fail
 refine (dOfNat hO.a (by omega)).mono ?_
 rintro e w2 ⟨a',k',d',rfl,hO',hk',hB⟩
 have S1:=S0.keep hB
 have c1:=S1.cell
 have f1:=S1.free
 have S2:=S1.put (.slice a' k' d')
 have hO1:=hO'.put S1 not_int (.slice a' k' d')
 have HB:=belowPut B0 hB (g:=w.heap.size) (Nat.le_refl _) (.slice a' k' d')
 clear hO hO' hB S0 S1 B0
 go_wp2
 refine bodyPost_ret (ret_dec rfl rfl S2) rfl ?_
 exact ⟨a',k',d',rfl,hO1,by omega,HB⟩
theorem dTimes {w:World} {ao:Option Addr} {n c:Nat} {x y:Int} (h:NatA w ao n c x) (hn:n<=1099511627776) (h0:0<=y) (h1:y < 18446744073709551616) :
  Calls Tryz.prog 100 #[.agg #[.slice ao n c],.int .u64 y] w fun e w'=>∃ a k d,e=.returned (.agg #[.slice a k d])/\NatO w' a k d (x * y)/\k<=n + 1/\Below w.heap.size w w':=by
 have B0:=below2 w (.cells #[.slice ao n c] 35) (.cells #[.slice none 0 0] 35)
 have S0:=slot_last2 w (.cells #[.slice ao n c] 35) (.slice none 0 0) 35
 have SP:=(slot_new w (.slice ao n c) 35).alloc (.cells #[.slice none 0 0] 35)
 have h:=h.keep B0
 go_enter Tryz.func100,Tryz.ntmps100
 go_wp2_with fail
 go_region_with (first
  | (go_at_call 38; refine (nOf h0 h1).mono ?_; rintro e w1 ⟨a,k,d,rfl,hO,hk,hB⟩; have S0:=S0.drew.keep hB; have SP:=SP.drew.keep hB; have cP:=SP.cell; have B0:=joinB B0.drew hB; have h:=h.drew.keep hB; clear hB)
  | (go_at_call 83; refine (nMul h hO.a hn (by omega)).mono ?_; rintro e w2 ⟨a',k',d',rfl,hO',hk',hB⟩; have S1:=S0.keep hB; have c1:=S1.cell; have f1:=S1.free; have S2:=S1.put (.slice a' k' d'); have hO1:=hO'.put S1 not_int (.slice a' k' d'); have HB:=belowPut B0 hB (g:=w.heap.size + 1) (by omega) (.slice a' k' d'); clear h hO hO' hB S0 S1 B0 cP SP))
 all_goals go_wp2
 all_goals refine bodyPost_ret (ret_dec rfl rfl S2) rfl ?_
 all_goals exact ⟨a',k',d',rfl,hO1,by omega,HB⟩
end Go.Proofs.YtlbndpkdkdgggaaGreatDoor
