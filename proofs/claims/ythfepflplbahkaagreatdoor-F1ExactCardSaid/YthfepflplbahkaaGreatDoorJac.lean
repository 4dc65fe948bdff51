/- Several texts, joined: Dec1. -/
import Derived.Test.YthfepflplbahkaaGreatDoorJaa
import Derived.Handy
set_option maxRecDepth 100000
set_option maxHeartbeats 8000000
namespace Go.Proofs.YthfepflplbahkaaGreatDoor
open Go.RowKit Lim
section
variable {w:World}{ao:Option Addr}{n c:Nat}{x:Int}
theorem DP(h:aX w ao n c x)(hn:n<=1099511627776) :
  Calls Tryz.prog 21 #[.agg #[.slice ao n c]] w fun e w'=>e=.returned (.bool (decide (x=0)))/\Below w.heap.size w w':=by
 have B0:=ae w (.cells #[.slice ao n c] 32);have h:=h.keep B0;have t:=nBits h hn;have hm:=rF x h.mh;by_cases hx:x=0
 ·have hm:=hm.2 hx;rw[hm] at t;rw[decide_eq_true hx];clear hm hx h;go_enter Tryz.func21,Tryz.ntmps21;go_wp2_with fail;refine t.mono ?_
  rintro e w1 ⟨rfl,hB⟩;go_wp2;go_ret;exact⟨rfl,ah B0 hB⟩
 ·have hm:bitLen x.toNat≠0:=fun e=>hx (hm.1 e)
  rw[decide_eq_false hx];generalize bitLen x.toNat=m at *;obtain⟨k,rfl⟩:∃ k,m=k + 1:=⟨m - 1,by omega⟩
  clear hm hx h;go_enter Tryz.func21,Tryz.ntmps21;go_wp2_with fail;refine t.mono ?_
  rintro e w1 ⟨rfl,hB⟩;go_wp2;go_ret;refine⟨?_,ah B0 hB⟩;congr 2
theorem Ay(n:Nat)(hn:n<=4096) :
  Calls Tryz.prog 111 #[.int .i64 n] w fun e w'=>∃ a k d,e=.returned (.slice a k d)/\ee w' a k d (10 ^ n)/\k<=n + 2/\Below w.heap.size w w':=by
 go_enter Tryz.func111,Tryz.ntmps111;go_wp2_with fail;refine(nPow n hn).mono ?_
 rintro e w1 ⟨a,k,d,rfl,hO,hk,hB⟩;go_wp2;go_ret;exact⟨a,k,d,rfl,hO,hk,hB⟩
def U36:Int:=10 ^ 36
theorem py:0 < U36:=by decide
theorem qP:Calls Tryz.prog 71 #[] w fun e w'=>∃ a k d,e=.returned (.slice a k d)/\ee w' a k d U36/\k<=38/\Below w.heap.size w w':=by
 go_enter Tryz.func71,Tryz.ntmps71;go_wp2_with fail;refine(Ay 36 (by decide)).mono ?_
 rintro e w1 ⟨a,k,d,rfl,hO,hk,hB⟩;go_wp2;go_ret;exact⟨a,k,d,rfl,hO,hk,hB⟩
theorem dOfNat(h:aX w ao n c x)(hn:n<=1099511627776) :
  Calls Tryz.prog 46 #[.slice ao n c] w fun e w'=>∃ a k d,e=.returned (.agg #[.slice a k d])/\ee w' a k d (x * U36)/\k<=n + 38/\Below w.heap.size w w':=by
 have B0:=ae w (.cells #[.slice none 0 0] 32);have S0:=eO w (.slice none 0 0) 32;have h:=h.keep B0;go_enter Tryz.func46,Tryz.ntmps46;go_wp2_with fail;refine qP.mono ?_
 rintro e w1 ⟨a,k,d,rfl,hO,hk,hB⟩;have h:=h.keep hB;have S0:=S0.keep hB;have B0:=ah B0 hB;clear hB;go_wp2_with fail;refine(nMul h hO.a hn (by omega)).mono ?_
 rintro e w2 ⟨a',k',d',rfl,hO',hk',hB⟩;have S1:=S0.keep hB;have c1:=S1.cell;have f1:=S1.free;have S2:=S1.put (.slice a' k' d');have hO1:=hO'.put S1 oQ (.slice a' k' d');have HB:=qB B0 hB (g:=w.heap.size) (Nat.le_refl _) (.slice a' k' d');clear h hO hO' hB S0 S1 B0;go_wp2;refine bodyPost_ret (lJ rfl rfl S2) rfl ?_
 exact⟨a',k',d',rfl,hO1,by omega,HB⟩
theorem dTrunc(h:aX w ao n c x)(hn:n<=1099511627776) :
  Calls Tryz.prog 37 #[.agg #[.slice ao n c]] w fun e w'=>∃ a k d a' k' d',e=.returned (.tuple #[.slice a k d,.agg #[.slice a' k' d']])/\ee w' a k d (x / U36)/\ee w' a' k' d' (x % U36)/\k<=n/\k'<=n + 38/\Below w.heap.size w w':=by
 have B0:=ql w (.cells #[.slice ao n c] 32) (.cells #[.slice none 0 0] 32);have S0:=lN w (.cells #[.slice ao n c] 32) (.slice none 0 0) 32;have SP:=(eO w (.slice ao n c) 32).alloc (.cells #[.slice none 0 0] 32);have h:=h.keep B0;go_enter Tryz.func37,Tryz.ntmps37;go_wp2_with fail;go_region_with (first
  | (go_at_call 71; refine qP.mono ?_; rintro e w1 ⟨a,k,d,rfl,hO,hk,hB⟩; have S0:=S0.drew.keep hB; have SP:=SP.drew.keep hB; have cP:=SP.cell; have B0:=ah B0.drew hB; have h:=h.drew.keep hB; clear hB)
  | (go_at_call 70; refine(nDiv h hO.a hn (by omega) (by decide)).mono ?_; rintro e w2 ⟨a1,k1,d1,a2,k2,d2,rfl,hO1,hO2,hk1,hk2,hB⟩; have S1:=S0.keep hB; have c1:=S1.cell; have f1:=S1.free; have S2:=S1.put (.slice a2 k2 d2); have hO1:=hO1.put S1 oQ (.slice a2 k2 d2); have hO2:=hO2.put S1 oQ (.slice a2 k2 d2); have HB:=qB B0 hB (g:=w.heap.size + 1) (by omega) (.slice a2 k2 d2); clear h hO hB S0 S1 B0 cP SP))
 all_goals go_wp2
 all_goals refine bodyPost_ret (rM rfl rfl rfl S2) rfl ?_
 all_goals exact⟨a1,k1,d1,a2,k2,d2,rfl,hO1,hO2,hk1,by omega,HB⟩
end
end Go.Proofs.YthfepflplbahkaaGreatDoor
