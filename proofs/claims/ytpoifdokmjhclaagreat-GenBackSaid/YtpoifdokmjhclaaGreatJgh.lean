import Derived.Test.YtpoifdokmjhclaaGreatJgg
set_option maxRecDepth 100000
set_option maxHeartbeats 8000000
namespace Go.Proofs.YtpoifdokmjhclaaGreat
namespace Ky
open Go.RowKit Go.Lib Pg
attribute [local go_sem] Oper.semAt_some
theorem mk_eq {k a b n m0 m1:Int} (hf:frm k=(n,m0,m1)):mk k a b=[m0] ++ (if 8 < n then be 8 (tn k a) else []) ++ (if m1=0 then [] else [m1]) ++ (if 16 < n then be 8 b else []):=by
 unfold mk mkb;rw[hf]
theorem nh (k a b:Int):(mk k a b).length<=18:=by
 unfold mk;rw[List.length_append];have:=wh (frm k) (tn k a);split
 ·rw[aI];omega
 ·simp;omega
end Ky
end Go.Proofs.YtpoifdokmjhclaaGreat
