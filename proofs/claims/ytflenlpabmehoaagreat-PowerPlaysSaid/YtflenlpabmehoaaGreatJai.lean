/- Several texts, joined: Enc0, Enc1, Enc2, GcdOne, Small, Groups, CopyN, RefD, RefB, Enc8, Enc3, Enc4, Enc5, Enc6, Enc9, EncA, EncB, EncC, EncD, Enc7, EncE, RcA, RcB, RcC, RcD, RcE, RcF. -/
import Derived.Test.YtflenlpabmehoaaGreatJah
import Derived.Deep.RegionWith
import Derived.OpenShut
import Derived.Laws.AppendOwnNone
import Derived.Deep.RegionLaw
import Derived.Laws.CopyOwn
import Derived.Great.FillDense
import Derived.Lib.SliceRun
import Derived.Test.YtflenlpabmehoaaGreatJaa
namespace Go.Proofs.YtflenlpabmehoaaGreat
open Go.RowKit Lim
structure ByA (w:World) (b:Nat) (ao:Option Addr) (n c:Nat) (l:List Int):Prop where
 ex:∃ o,l.length=n/\n<=c/\(c<=9223372036854775807/\(ao=none->c=0))/\Octets l/\AtB w ao b o l
theorem ByA.keep {w w':World} {b:Nat} {ao:Option Addr} {n c:Nat} {l:List Int} (h:ByA w b ao n c l) (hb:Below w.heap.size w w'):ByA w' b ao n c l:=by
 obtain ⟨o,h1,h2,h3,h4,h5⟩:=h.ex
 exact ⟨o,h1,h2,h3,h4,h5.keep hb⟩
theorem addr_add (b o n:Nat):(⟨b,o,none⟩:Addr).add n=⟨b,o + n,none⟩:=by
 unfold Addr.add
 split
 ·subst n; rfl
 ·rfl
def restAt (ao:Option Addr) (c n:Nat):Option Addr:=if c=n then ao else ao.map (·.add n)
theorem restAt_none {ao:Option Addr} {c k:Nat} (h:restAt ao c k=none):ao=none:=by
 unfold restAt at h
 split at h
 ·exact h
 ·cases ao with
  | none=>rfl
  | some a=>cases h
theorem ByA.rest {w:World} {b:Nat} {ao:Option Addr} {n c:Nat} {l:List Int} (h:ByA w b ao n c l) {k:Nat} (hk:k<=n):ByA w b (restAt ao c k) (n - k) (c - k) (l.drop k):=by
 obtain ⟨o,h1,h2,h3,h4,h5⟩:=h.ex
 by_cases hn:n=k
 ·have e:l.drop k=[]:=List.drop_eq_nil_of_le (by omega)
  rw [e]
  exact ⟨0,by rw [hn]; simp,by omega,⟨by have:=h3.1; omega,fun e=>by have:=h3.2 (restAt_none e); omega⟩,fun x hx=>by simp at hx,.inl rfl,fun i hi=>by simp at hi⟩
 ·have hl:l≠[]:=fun e=>by rw [e] at h1; simp at h1; omega
  obtain rfl:ao=some ⟨b,o,none⟩:=by
   rcases h5.loc with e | e
   ·exact absurd e hl
   ·exact e
  have e:restAt (some ⟨b,o,none⟩) c k=some ⟨b,o + k,none⟩:=by
   unfold restAt
   rw [if_neg (by omega)]
   exact congrArg some (addr_add b o k)
  rw [e]
  refine ⟨o + k,by rw [List.length_drop]; omega,by omega,⟨by have:=h3.1; omega,fun e=>by cases e⟩,fun x hx=>h4 x (List.mem_of_mem_drop hx),.inr rfl,fun i hi => ?_⟩
  rw [List.length_drop] at hi
  have:=h5.cell (k + i) (by omega)
  rw [show o + k + i=o + (k + i) by omega,this,nth_drop]
theorem ByA.front {w:World} {b:Nat} {ao:Option Addr} {n c:Nat} {l:List Int} (h:ByA w b ao n c l) {k:Nat} (hk:k<=n):ByA w b ao k k (l.take k):=by
 obtain ⟨o,h1,h2,h3,h4,h5⟩:=h.ex
 refine ⟨o,by rw [List.length_take]; omega,Nat.le_refl _,⟨by have:=h3.1; omega,fun e=>by have:=h3.2 e; omega⟩,fun x hx=>h4 x (List.mem_of_mem_take hx),?_,fun i hi => ?_⟩
 ·rcases h5.loc with e | e
  ·exact .inl (by rw [e]; simp)
  ·exact .inr e
 ·rw [List.length_take] at hi
  rw [h5.cell i (by omega),nth_take (by omega)]
theorem Box.two {w:World} {g:Nat} {u v:Value} {t:TypeId} (h:Box w g [u,v] t):w.cell? ⟨g,0,none⟩=some u/\w.cell? ⟨g,1,none⟩=some v/\w.frozen? ⟨g,0,none⟩=false/\w.frozen? ⟨g,1,none⟩=false:=by
 have:=h.blk
 simp [World.cell?,World.frozen?,this]
end Go.Proofs.YtflenlpabmehoaaGreat
namespace Go.Proofs.YtflenlpabmehoaaGreat
open Go.RowKit Lim
theorem AtB.box {w w':World} {ao:Option Addr} {b o g:Nat} {l:List Int} (k:AtB w ao b o l) {cs:List Value} {t:TypeId} (s:Box w g cs t) (hv:∀ v∈cs,∀ x,v≠.int .u8 x) (hw:∀ k,k≠g->w'.heap[k]? = w.heap[k]?):AtB w' ao b o l :=
 ⟨k.loc,fun i hi=>by
  have hc:=k.cell i hi
  by_cases e:b=g
  ·subst e
   simp only [World.cell?,s.blk] at hc
   have h1:cs.toArray[o + i]? = some (.int .u8 (nth l i)):=by simpa using hc
   rw [List.getElem?_toArray] at h1
   exact absurd rfl (hv _ (List.mem_of_getElem? h1) _)
  ·rw [World.cell?_of_block (w:=w) (hw b e)]; exact hc⟩
theorem ByA.box {w w':World} {ao:Option Addr} {b n c g:Nat} {l:List Int} (h:ByA w b ao n c l) {cs:List Value} {t:TypeId} (s:Box w g cs t) (hv:∀ v∈cs,∀ x,v≠.int .u8 x) (hw:∀ k,k≠g->w'.heap[k]? = w.heap[k]?):ByA w' b ao n c l:=by
 obtain ⟨o,h1,h2,h3,h4,h5⟩:=h.ex
 exact ⟨o,h1,h2,h3,h4,h5.box s hv hw⟩
theorem no_u8 (err:Int) (ao:Option Addr) (n c:Nat):∀ v∈[Value.int .i64 err,Value.slice ao n c],∀ x,v≠.int .u8 x:=fun v hv x e=>by
 rcases List.mem_cons.1 hv with h | h
 ·subst h; cases e
 ·rw [List.mem_singleton] at h; subst h; cases e
end Go.Proofs.YtflenlpabmehoaaGreat
namespace Go.Proofs.YtflenlpabmehoaaGreat
open Go.RowKit Lim
structure But (g:Nat) (w w':World):Prop where
 os:w'.os=w.os
 tape:w'.tape=w.tape
 output:w'.output=w.output
 size:w.heap.size<=w'.heap.size
 block:∀ k,k < w.heap.size->k≠g->w'.heap[k]? = w.heap[k]?
theorem But.below {g B:Nat} {w0 w w':World} (h:But g w w') (b:Below B w0 w) (hB:B<=g) (hs:B<=w0.heap.size):Below B w0 w' :=
 ⟨h.os.trans b.os,h.tape.trans b.tape,h.output.trans b.output,Nat.le_trans b.size h.size,fun k hk=>(h.block k (Nat.lt_of_lt_of_le (Nat.lt_of_lt_of_le hk hs) b.size) (by omega)).trans (b.block k hk)⟩
theorem box_put1 {w:World} {g:Nat} {a b:Value} {t:TypeId} (h:Box w g [a,b] t) (v:Value):Box (w.setCell ⟨g,1,none⟩ v) g [a,v] t:=⟨by
 have:=h.blk
 simp only [World.setCell,Array.getElem?_modify,if_true,this]
 simp⟩
theorem box_put0 {w:World} {g:Nat} {a b:Value} {t:TypeId} (h:Box w g [a,b] t) (v:Value):Box (w.setCell ⟨g,0,none⟩ v) g [v,b] t:=⟨by
 have:=h.blk
 simp only [World.setCell,Array.getElem?_modify,if_true,this]
 simp⟩
structure RdA (w:World) (g b:Nat) (err:Int) (l:List Int):Prop where
 ex:∃ ao n c,Box w g [.int .i64 err,.slice ao n c] 337/\ByA w b ao n c l
theorem RdA.keep {w w':World} {g b:Nat} {err:Int} {l:List Int} (h:RdA w g b err l) (hb:Below w.heap.size w w'):RdA w' g b err l:=by
 obtain ⟨ao,n,c,h1,h2⟩:=h.ex
 exact ⟨ao,n,c,h1.keep hb,h2.keep hb⟩
theorem size_set (w:World) (p:Addr) (v:Value):(w.setCell p v).heap.size=w.heap.size:=by simp [World.setCell]
end Go.Proofs.YtflenlpabmehoaaGreat
namespace Go.Proofs.YtflenlpabmehoaaGreat
open Go.RowKit Lim
theorem Row.keep {w w':World} {g:Nat} {l:List Int} (h:Row w g l) (hb:Below w.heap.size w w'):Row w' g l:=by
 unfold Row at *
 rw [hb.block g (Array.getElem?_eq_some_iff.1 h).1]; exact h
end Go.Proofs.YtflenlpabmehoaaGreat
namespace Go.Proofs.YtflenlpabmehoaaGreat
open Go.RowKit Lim
def IsRow (w:World) (a:Option Addr) (len cap:Nat) (zs:List Int):Prop :=
 (a=none/\len=0/\cap=0/\zs=[]) \/
 ∃ x,a=some x/\len<=cap/\cap<=maxLen/\zs.length=cap/\(∀ i,i < zs.length->w.cell? (x.add i)=some (.int .u64 (zs.getD i 0)))/\∀ n∈zs,(Lit.int .u64 n).wf=true
theorem IsRow.open {w:World} {a:Option Addr} {len cap:Nat} {zs:List Int} (h:IsRow w a len cap zs):∃ b o l,l.length=len/\len<=cap/\len<=9223372036854775807/\Words l/\At w a b o l:=by
 rcases h with ⟨rfl,rfl,rfl,rfl⟩ | ⟨x,rfl,h1,h2,h3,h4,h5⟩
 ·exact ⟨0,0,[],rfl,Nat.le_refl _,by decide,Words.nil,.inl rfl,fun i hi=>by simp at hi⟩
 ·have hw:Words (zs.take len):=fun y hy=>by
   have:=h5 y (List.mem_of_mem_take hy)
   have:=bounds_u64 this
   omega
  have hl:(zs.take len).length=len:=by simp; omega
  have hmx:len<=9223372036854775807:=by unfold maxLen at h2; omega
  by_cases h0:len=0
  ·refine ⟨0,0,zs.take len,hl,h1,hmx,hw,.inl (List.eq_nil_of_length_eq_zero (by omega)),fun i hi=>by omega⟩
  ·have hx:=h4 0 (by omega)
   have hsp:x.spot=none:=by
    rw [show x.add 0=x from rfl] at hx
    simp only [World.cell?] at hx
    cases hh:w.heap[x.block]? with
    | none=>rw [hh] at hx; simp at hx
    | some ob =>
     rw [hh] at hx
     cases ob with
     | cells c e f =>
      simp at hx
      cases hs:x.spot with
      | none=>rfl
      | some s=>rw [hs] at hx; simp at hx
     | _=>simp at hx
   obtain ⟨b,o,sp⟩:=x
   simp at hsp
   subst hsp
   refine ⟨b,o,zs.take len,hl,h1,hmx,hw,.inr rfl,fun i hi => ?_⟩
   have h6:=h4 i (by omega)
   rw [nth_take (by omega)]
   have e:(⟨b,o,none⟩:Addr).add i=⟨b,o + i,none⟩:=by
    by_cases hi0:i=0
    ·subst hi0; rfl
    ·simp [Addr.add,hi0]
   rw [e] at h6
   exact h6
end Go.Proofs.YtflenlpabmehoaaGreat
namespace Go.Proofs.YtflenlpabmehoaaGreat
open Go.RowKit Lim
def MineB (w:World) (B:Nat) (v:Value) (l:List Int):Prop:=w.ownsRow B 5 1 v l.length (l.map (Value.int .u8))
theorem own_ge {w:World} {B:Nat} {e:TypeId} {v:Value} {n:Nat} {xs:List Value} (h:w.ownsRow B e 1 v n xs):∀ g,v.ownBlock=some g->B<=g:=by
 intro g hg
 rcases h.2 with ⟨rfl,_⟩ | ⟨g',cap,cur,rfl,hB,_⟩
 ·simp [Value.ownBlock] at hg
 ·simp [Value.ownBlock] at hg; omega
end Go.Proofs.YtflenlpabmehoaaGreat
namespace Go.Proofs.YtflenlpabmehoaaGreat
open Go.RowKit Lim
end Go.Proofs.YtflenlpabmehoaaGreat
namespace Go.Proofs.YtflenlpabmehoaaGreat
open Go.RowKit Lim
def v32:List Int->Int
 | []=>0
 | x :: l=>x + 4294967296 * v32 l
def Dig32 (l:List Int):Prop:=∀ x∈l,0<=x/\x < 4294967296
theorem Dig32.words {l:List Int} (h:Dig32 l):Words l:=fun x hx=>by have:=h x hx; omega
theorem Dig32.nth {l:List Int} (h:Dig32 l) (i:Nat):0<=nth l i/\nth l i < 4294967296:=by
 by_cases hi:i < l.length
 ·exact h _ (nth_mem hi)
 ·rw [nth_ge (by omega)]; decide
theorem Dig32.take {l:List Int} (h:Dig32 l) (k:Nat):Dig32 (l.take k):=fun x hx=>h x (List.mem_of_mem_take hx)
theorem Row.cell {w:World} {g:Nat} {l:List Int} (h:Row w g l) {i:Nat} (hi:i < l.length):w.cell? ⟨g,i,none⟩=some (.int .u64 (nth l i)):=by
 have:=h.at.cell i hi; rwa [Nat.zero_add] at this
theorem Row.set {w:World} {g:Nat} {l:List Int} (h:Row w g l) (i:Nat) (x:Int):Row (w.setCell ⟨g,i,none⟩ (.int .u64 x)) g (l.set i x):=by
 unfold Row at *
 simp only [World.setCell,Array.getElem?_modify,if_true,h]
 simp
end Go.Proofs.YtflenlpabmehoaaGreat
namespace Go.Proofs.YtflenlpabmehoaaGreat
open Go.RowKit Lim
set_option maxHeartbeats 2000000 in
set_option maxRecDepth 100000 in
theorem copyBytes_any (ao : Option Addr) (n c b o : Nat) (l : List Int) (w : World) (hl : l.length = n) (hbig : n ≤ 1099511627776) (hnil : ao = none → c = 0) (ha : AtB w ao b o l) :
    Calls Tryz.prog 72 #[.slice ao n c] w fun e w' => ∃ v, e = .returned v ∧ MineB w' w.heap.size v l ∧ Below w.heap.size w w' := by
  obtain ⟨i0, hi, hz0, hz1, hz2⟩ := info_parts info_u8
  have hown : w.ownsRow w.heap.size 5 1 (.slice none 0 0) 0 [] := World.ownsRow_nil _ _ _ _
  have hge := own_ge hown
  cases ao with
  | none =>
    have e0 : l = [] := by rcases ha.loc with e | e
                           · exact e
                           · simp at e
    subst e0
    have hn0 : n = 0 := hl.symm
    subst hn0
    have hc0 := hnil rfl
    subst hc0
    go_enter Tryz.func72, Tryz.ntmps72
    go_wp2_with (at_builtin; refine wpList_append_own_none rfl _ _ 57 rfl w.heap.size 5 i0 1 under_bytes hi _ _ _ rfl hown rfl ?_)
    go_ret
    exact ⟨_, rfl, hown, Below.refl _ _⟩
  | some x =>
    have hsrc : ∀ j u, (l.map (Value.int .u8))[j]? = some u → w.cell? (x.add j) = some u := by
      intro j u hu
      rw [List.getElem?_map] at hu
      have hj : j < l.length := by
        rcases Nat.lt_or_ge j l.length with hj | hj
        · exact hj
        · rw [List.getElem?_eq_none hj] at hu; simp at hu
      rw [List.getElem?_eq_getElem hj] at hu
      simp at hu
      subst hu
      have hx : x = ⟨b, o, none⟩ := by
        rcases ha.loc with e | e
        · subst e; simp at hj
        · simpa using e
      subst hx
      have := ha.cell j hj
      rw [nth_eq hj] at this
      rw [← this]
      by_cases hj0 : j = 0
      · subst hj0; exact congrArg w.cell? (by simp [Addr.add])
      · exact congrArg w.cell? (by simp [Addr.add, hj0])
    go_enter Tryz.func72, Tryz.ntmps72
    go_wp2_with (at_builtin; refine wpList_append_own _ rfl _ _ 57 rfl w.heap.size 5 i0 (.int .u8 0) 1 1 under_bytes hi hz0 hz1 hz2 rfl (by decide) _ _ _ rfl hown x n c (l.map (Value.int .u8)) rfl (by simp [hl]) ?c1 ?c2 ?c3 ?c4 ?c5 ?_)
    case c1 => exact hsrc
    case c2 => exact ints_oneCell _ _
    case c3 => unfold maxLen; omega
    case c4 => omega
    case c5 => exact Nat.le_refl _
    intro v' w1 hown' hgrow _
    go_wp2
    go_ret
    refine ⟨v', rfl, ?_, (Below.refl _ _).grown hgrow (Nat.le_refl _) hge⟩
    unfold MineB
    rw [hl]
    simpa using hown'
end Go.Proofs.YtflenlpabmehoaaGreat
namespace Go.Proofs.YtflenlpabmehoaaGreat
open Go.RowKit Lim
end Go.Proofs.YtflenlpabmehoaaGreat
namespace Go.Proofs.YtflenlpabmehoaaGreat
open Go.RowKit Lim
def wcells (err:Int) (p:Option Addr) (aw:Int) (lat:List Int) (u:Int):List Value:=.int .i64 err :: .pointer p :: .int .i64 aw :: (lat.map (Value.int .u8) ++ [.int .i64 u])
structure WBox (w:World) (g:Nat) (err:Int) (p:Option Addr) (aw:Int) (lat:List Int) (u:Int):Prop where
 len:lat.length=256
 blk:w.heap[g]? = some (.cells (wcells err p aw lat u).toArray 271 (0,0))
theorem WBox.box {w:World} {g:Nat} {err:Int} {p:Option Addr} {aw:Int} {lat:List Int} {u:Int} (h:WBox w g err p aw lat u):Box w g (wcells err p aw lat u) 271:=⟨h.blk⟩
theorem WBox.lt {w:World} {g:Nat} {err:Int} {p:Option Addr} {aw:Int} {lat:List Int} {u:Int} (h:WBox w g err p aw lat u):g < w.heap.size:=h.box.lt
theorem WBox.keep {w w':World} {g:Nat} {err:Int} {p:Option Addr} {aw:Int} {lat:List Int} {u:Int} (h:WBox w g err p aw lat u) (hb:Below w.heap.size w w'):WBox w' g err p aw lat u:=⟨h.len,(h.box.keep hb).blk⟩
theorem WBox.off {w w':World} {g g':Nat} {err:Int} {p:Option Addr} {aw:Int} {lat:List Int} {u:Int} (h:WBox w g err p aw lat u) (hne:g≠g') (hw:∀ k,k≠g'->w'.heap[k]? = w.heap[k]?):WBox w' g err p aw lat u:=⟨h.len,by rw [hw g hne]; exact h.blk⟩
theorem WBox.free {w:World} {g:Nat} {err:Int} {p:Option Addr} {aw:Int} {lat:List Int} {u:Int} (h:WBox w g err p aw lat u) (k:Nat):w.frozen? ⟨g,k,none⟩=false:=by
 have:=h.blk
 simp [World.frozen?,this]
theorem WBox.c0 {w:World} {g:Nat} {err:Int} {p:Option Addr} {aw:Int} {lat:List Int} {u:Int} (h:WBox w g err p aw lat u):w.cell? ⟨g,0,none⟩=some (.int .i64 err):=by
 have:=h.blk
 simp [World.cell?,this,wcells]
theorem WBox.c1 {w:World} {g:Nat} {err:Int} {p:Option Addr} {aw:Int} {lat:List Int} {u:Int} (h:WBox w g err p aw lat u):w.cell? ⟨g,1,none⟩=some (.pointer p):=by
 have:=h.blk
 simp [World.cell?,this,wcells]
theorem WBox.c2 {w:World} {g:Nat} {err:Int} {p:Option Addr} {aw:Int} {lat:List Int} {u:Int} (h:WBox w g err p aw lat u):w.cell? ⟨g,2,none⟩=some (.int .i64 aw):=by
 have:=h.blk
 simp [World.cell?,this,wcells]
theorem WBox.cl {w:World} {g:Nat} {err:Int} {p:Option Addr} {aw:Int} {lat:List Int} {u:Int} (h:WBox w g err p aw lat u) (i:Nat) (hi:i < 256):w.cell? ⟨g,3 + i,none⟩=some (.int .u8 (nth lat i)):=by
 have hb:=h.blk
 have hl:=h.len
 simp only [World.cell?,hb,wcells]
 rw [show 3 + i=i + 1 + 1 + 1 by omega]
 simp [List.getElem?_append_left,hl,hi,nth_eq (l:=lat) (show i < lat.length by omega)]
theorem run_st {a:Act} {w:World} {o:Oper} {T:TypeId} (k q:Nat) {g off:Nat} {v:Value} (ho:o.op=.store T (.tmp k) (.tmp q)) (hp:a.eval (.tmp k)=.pointer (some ⟨g,off,none⟩)) (hq:a.eval (.tmp q)=v) {w1:World} (hl:(storeVar T ⟨g,off,none⟩ v).run Tryz.prog w=.ok () w1):(execOp a.eval o).run Tryz.prog w=.ok .skip w1:=by
 simp only [execOp,ho,hp,hq]
 simp [Instr.storeAt,Instr.sureAddr,Result.andThen,hl]
end Go.Proofs.YtflenlpabmehoaaGreat
namespace Go.Proofs.YtflenlpabmehoaaGreat
open Go.RowKit Lim
def PcL(w:World):List (Nat×List Int)->Option Addr->List Int->Prop
 | [],p,l=>p=none/\l=[]
 | x::r,p,l=>∃ q s,p=some ⟨x.1,0,none⟩/\l=s ++ x.2/\Box w x.1 (.pointer q::x.2.map (Value.int .u8)) 329/\x.2.length=256/\PcL w r q s
structure Pc(w:World)(p:Option Addr)(l:List Int):Prop where
 ex:∃ L,PcL w L p l
theorem Pc.nil{w}:Pc w none []:=⟨[],rfl,rfl⟩
theorem Pc.cons{w b p ps bs}(hb:Box w b (.pointer p::bs.map (Value.int .u8)) 329)(hl:bs.length=256)(h:Pc w p ps):Pc w (some ⟨b,0,none⟩) (ps ++ bs):=h.ex.elim fun L h=>⟨(b,bs)::L,p,ps,rfl,rfl,hb,hl,h⟩
theorem Pc.ind{w}{M:∀ p l,Pc w p l->Prop}(nil:M _ _ .nil)(cons:∀ {b p ps bs} hb hl (h:Pc w p ps),M p ps h->M _ _ (.cons (b:=b) (bs:=bs) hb hl h)){p l}(h:Pc w p l):M p l h:=by
 obtain ⟨L,e⟩:=h.ex
 induction L generalizing p l with
 | nil=>
  obtain ⟨rfl,rfl⟩:=e
  exact nil
 | cons x r ih=>
  obtain ⟨q,s,rfl,rfl,a,b,c⟩:=e
  exact cons a b ⟨r,c⟩ (ih ⟨r,c⟩ c)
theorem Pc.off {w w':World} {p:Option Addr} {ps:List Int} (h:Pc w p ps) {g:Nat} {cs:List Value} (X:Box w g cs 271) (hw:∀ k,k < w.heap.size->k≠g->w'.heap[k]? = w.heap[k]?):Pc w' p ps:=by
 induction h using Pc.ind with
 | nil=>exact .nil
 | cons hb hl _ ih =>
  refine .cons ⟨?_⟩ hl ih
  rw [hw _ hb.lt (fun e=>by
   subst e
   have h1:=hb.blk
   rw [X.blk] at h1
   simp at h1)]
  exact hb.blk
theorem Pc.keep {w w':World} {p:Option Addr} {ps:List Int} (h:Pc w p ps) (hB:Below w.heap.size w w'):Pc w' p ps:=by
 induction h using Pc.ind with
 | nil=>exact .nil
 | cons hb hl _ ih=>exact .cons (hb.keep hB) hl ih
structure WrA (w:World) (g:Nat) (err:Int) (l:List Int):Prop where
 ex:∃ p ps lat,∃ u:Nat,WBox w g err p (ps.length:Int) lat (u:Int)/\Pc w p ps/\u < 256/\l=ps ++ lat.take u
theorem WrA.lt {w:World} {g:Nat} {err:Int} {l:List Int} (h:WrA w g err l):g < w.heap.size:=by
 obtain ⟨p,ps,lat,u,X,_⟩:=h.ex
 exact X.lt
theorem WrA.keep {w w':World} {g:Nat} {err:Int} {l:List Int} (h:WrA w g err l) (hB:Below w.heap.size w w'):WrA w' g err l:=by
 obtain ⟨p,ps,lat,u,X,P,hu,e⟩:=h.ex
 exact ⟨p,ps,lat,u,X.keep hB,P.keep hB,hu,e⟩
theorem WrA.off {w w':World} {g g':Nat} {err e':Int} {l l':List Int} (h:WrA w g err l) (h':WrA w g' e' l') (hne:g≠g') (hw:But g' w w'):WrA w' g err l:=by
 obtain ⟨p,ps,lat,u,X,P,hu,e⟩:=h.ex
 obtain ⟨_,_,_,_,X',_⟩:=h'.ex
 exact ⟨p,ps,lat,u,⟨X.len,by rw [hw.block g X.lt hne]; exact X.blk⟩,P.off X'.box hw.block,hu,e⟩
theorem But.refl (g:Nat) (w:World):But g w w:=⟨rfl,rfl,rfl,Nat.le_refl _,fun _ _ _=>rfl⟩
theorem But.trans {g:Nat} {w w1 w2:World} (h:But g w w1) (h':But g w1 w2):But g w w2:=⟨h'.os.trans h.os,h'.tape.trans h.tape,h'.output.trans h.output,Nat.le_trans h.size h'.size,fun k h1 h2=>(h'.block k (Nat.lt_of_lt_of_le h1 h.size) h2).trans (h.block k h1 h2)⟩
theorem But.drew {g:Nat} {w w1:World} (h:But g w w1):But g w w1.drew:=⟨h.os,h.tape,h.output,h.size,h.block⟩
theorem But.cell {g:Nat} {w w1:World} (h:But g w w1) {b o:Nat} {v:Value} (hc:w.cell? ⟨b,o,none⟩=some v) (hb:b≠g):w1.cell? ⟨b,o,none⟩=some v:=by
 rw [World.cell?_of_block (w:=w) (h.block b (cell_lt hc) hb)]; exact hc
end Go.Proofs.YtflenlpabmehoaaGreat
namespace Go.Proofs.YtflenlpabmehoaaGreat
open Go.RowKit Lim
def be:Nat->Int->List Int
 | 0,_=>[]
 | m + 1,x=>x / 256 ^ m % 256 :: be m x
theorem be_length (m:Nat) (x:Int):(be m x).length=m:=by
 induction m with
 | zero=>rfl
 | succ m ih=>rw [be,List.length_cons,ih]
theorem be_nth (m:Nat) (x:Int):∀ i,i < m->nth (be m x) i=x / 256 ^ (m - 1 - i) % 256:=by
 induction m with
 | zero=>intro i hi; omega
 | succ m ih =>
  intro i hi
  cases i with
  | zero=>rfl
  | succ i =>
   rw [be,nth_succ,ih i (by omega),show m - 1 - i=m + 1 - 1 - (i + 1) by omega]
theorem be_oct (m:Nat) (x:Int):Octets (be m x):=by
 induction m with
 | zero=>intro y hy; simp [be] at hy
 | succ m ih =>
  intro y hy
  rw [be] at hy
  rcases List.mem_cons.1 hy with e | e
  ·subst e; exact ⟨Int.emod_nonneg _ (by decide),Int.emod_lt_of_pos _ (by decide)⟩
  ·exact ih y e
theorem be_val (m:Nat) {x:Int} (hx:0<=x):bval (be m x)=x % 256 ^ m:=by
 induction m with
 | zero=>simp [be,bval]
 | succ m ih=>rw [be,bval,be_length,ih,<- emod_parts x hx m]
def wrote (err:Int) (L l:List Int):List Int:=if err=0 then L ++ l else L
theorem Box.bytes {w:World} {g:Nat} {ds:List Int} {t:TypeId} (h:Box w g (ds.map (Value.int .u8)) t) {i:Nat} (hi:i < ds.length):w.cell? ⟨g,i,none⟩=some (.int .u8 (nth ds i)):=by
 simp [World.cell?,h.blk,hi,nth_eq hi]
def cntd (m:Nat) (l:List Int):List Int:=be m l.length ++ l
theorem wrote_len (err:Int) (L l:List Int):(wrote err L l).length<=L.length + l.length:=by
 unfold wrote
 split
 ·rw [List.length_append]; exact Nat.le_refl _
 ·exact Nat.le_add_right _ _
theorem But.at {g:Nat} {w w':World} (h:But g w w') {ao:Option Addr} {b o:Nat} {l:List Int} (k:AtB w ao b o l) (hb:b≠g):AtB w' ao b o l:=⟨k.loc,fun i hi=>h.cell (k.cell i hi) hb⟩
def long (err:Int):Int:=if err=0 then 42 else err
end Go.Proofs.YtflenlpabmehoaaGreat
namespace Go.Proofs.YtflenlpabmehoaaGreat
open Go.RowKit Lim
def natB (V:Int):List Int:=be ((bitLen V.toNat + 7) / 8) V
theorem natB_is {V:Int} (hV:0<=V):IsB (natB V) V:=by
 obtain ⟨h1,h2⟩:=bytes_len hV
 unfold natB
 generalize (bitLen V.toNat + 7) / 8=k at *
 refine ⟨be_oct k V,fun hne => ?_,by rw [be_val k hV,Int.emod_eq_of_lt hV h1]⟩
 have hk:k≠0:=fun e=>hne (by rw [e]; rfl)
 rw [be_nth k V 0 (by omega),show k - 1 - 0=k - 1 by omega]
 have hp:(0:Int) < 256 ^ (k - 1):=Int.pow_pos (by decide)
 have q1:1<=V / 256 ^ (k - 1):=by rw [Int.le_ediv_iff_mul_le hp]; have:=h2 hk; omega
 have q2:V / 256 ^ (k - 1) < 256:=by
  rw [Int.ediv_lt_iff_lt_mul hp,Int.mul_comm,<- Int.pow_succ,show (k - 1).succ=k from by omega]; exact h1
 rw [Int.emod_eq_of_lt (by omega) q2]; omega
def natE (V err:Int):Int:=if (natB V).length < 256 then err else long err
def natL (V err:Int) (L:List Int):List Int:=if (natB V).length < 256 then wrote err L (cntd 1 (natB V)) else L
theorem But.of {g:Nat} {w w':World} (h:Below w.heap.size w w'):But g w w':=⟨h.os,h.tape,h.output,h.size,fun k h1 _=>h.block k h1⟩
end Go.Proofs.YtflenlpabmehoaaGreat
namespace Go.Proofs.YtflenlpabmehoaaGreat
open Go.RowKit Lim
def rdE {α:Type} (r:Int ⊕ α × Nat) (err:Int):Int:=if err=0 then (match r with | .inl e=>e | .inr _=>0) else err
def rdL {α:Type} (r:Int ⊕ α × Nat) (err:Int) (l:List Int):List Int:=if err=0 then (match r with | .inl _=>l | .inr p=>l.drop p.2) else l
def rdV {α:Type} (z:α) (r:Int ⊕ α × Nat) (err:Int):α:=if err=0 then (match r with | .inl _=>z | .inr p=>p.1) else z
def pFix (m:Nat) (l:List Int):Int ⊕ Int × Nat:=if m<=l.length then .inr (bval (l.take m),m) else .inl 40
def pBool (l:List Int):Int ⊕ Bool × Nat:=if 1<=l.length then (if 1 < bval (l.take 1) then .inl 41 else .inr (bval (l.take 1) == 1,1)) else .inl 40
def cntOf (m:Nat) (l:List Int):Nat:=(bval (l.take m)).toNat
def pNat (l:List Int):Int ⊕ Int × Nat:=if 1<=l.length then (if 1 + cntOf 1 l<=l.length then (if 0 < cntOf 1 l/\nth (l.drop 1) 0=0 then .inl 41 else .inr (bval ((l.drop 1).take (cntOf 1 l)),1 + cntOf 1 l)) else .inl 40) else .inl 40
theorem rdE_bad {α:Type} {r:Int ⊕ α × Nat} {err:Int} (h:err≠0):rdE r err=err:=by unfold rdE; rw [if_neg h]
theorem ByA.but {w w':World} {b g n c:Nat} {ao:Option Addr} {l:List Int} (h:ByA w b ao n c l) {cs:List Value} {t:TypeId} (s:Box w g cs t) (hv:∀ v∈cs,∀ x,v≠.int .u8 x) (hB:But g w w'):ByA w' b ao n c l:=by
 obtain ⟨o,h1,h2,h3,h4,h5⟩:=h.ex
 refine ⟨o,h1,h2,h3,h4,h5.loc,fun i hi => ?_⟩
 have hc:=h5.cell i hi
 refine hB.cell hc (fun e => ?_)
 subst e
 simp only [World.cell?,s.blk] at hc
 have h6:cs.toArray[o + i]? = some (.int .u8 (nth l i)):=by simpa using hc
 rw [List.getElem?_toArray] at h6
 exact absurd rfl (hv _ (List.mem_of_getElem? h6) _)
theorem RdA.back {w w1:World} {g b n c:Nat} {ao:Option Addr} {l:List Int} {y:Value} (e0:Int) (X:Box w g [.int .i64 0,.slice ao n c] 337) (A:ByA w b ao n c l) (hB:But g w w1) (Y:Box w1 g [.int .i64 0,y] 337) :
  RdA ((w1.setCell ⟨g,1,none⟩ (.slice ao n c)).setCell ⟨g,0,none⟩ (.int .i64 e0)) g b e0 l/\But g w ((w1.setCell ⟨g,1,none⟩ (.slice ao n c)).setCell ⟨g,0,none⟩ (.int .i64 e0)):=by
 have H:But g w ((w1.setCell ⟨g,1,none⟩ (.slice ao n c)).setCell ⟨g,0,none⟩ (.int .i64 e0)):=⟨hB.os,hB.tape,hB.output,by rw [size_set,size_set]; exact hB.size,fun k h1 h2=>by rw [Below.heap_setCell _ _ _ k h2,Below.heap_setCell _ _ _ k h2]; exact hB.block k h1 h2⟩
 exact ⟨⟨ao,n,c,box_put0 (box_put1 Y _) _,A.but X (no_u8 _ _ _ _) H⟩,H⟩
theorem RdA.lt {w:World} {g b:Nat} {err:Int} {l:List Int} (h:RdA w g b err l):g < w.heap.size:=by
 obtain ⟨_,_,_,X,_⟩:=h.ex
 exact X.lt
theorem RdA.oct {w:World} {g b:Nat} {err:Int} {l:List Int} (h:RdA w g b err l):Octets l:=by
 obtain ⟨_,_,_,_,A⟩:=h.ex
 obtain ⟨o,_,_,_,h4,_⟩:=A.ex
 exact h4
end Go.Proofs.YtflenlpabmehoaaGreat
namespace Go.Proofs.YtflenlpabmehoaaGreat
open Go.RowKit Lim
set_option maxHeartbeats 2000000 in
set_option maxRecDepth 100000 in
theorem clone_any (ao : Option Addr) (n c b o : Nat) (l : List Int) (w : World) (hl : l.length = n) (hbig : n ≤ 1099511627776) (hnil : ao = none → c = 0) (ha : AtB w ao b o l) :
    Calls Tryz.prog 259 #[.slice ao n c] w fun e w' => ∃ v, e = .returned v ∧ MineB w' w.heap.size v l ∧ Below w.heap.size w w' := by
  obtain ⟨i0, hi, hz0, hz1, hz2⟩ := info_parts info_u8
  have qT : ∀ (w : World) (a : Option Addr) (n c n' c' : Nat), (binOp .eql 57 (.slice a n c) (.slice none n' c')).run Tryz.prog w = .ok (.bool a.isNone) w := fun w a n c n' c' => Lib.run_eql_slice_nil w _ _ a n c n' c' under_bytes
  cases ao with
  | none =>
    have e0 : l = [] := by rcases ha.loc with e | e
                           · exact e
                           · simp at e
    subst e0
    have hn0 : n = 0 := hl.symm
    subst hn0
    have hc0 := hnil rfl
    subst hc0
    have hown : w.ownsRow w.heap.size 5 1 (.slice none 0 0) 0 [] := World.ownsRow_nil _ _ _ _
    go_enter Tryz.func259, Tryz.ntmps259
    go_wp2
    go_ret
    exact ⟨_, rfl, hown, Below.refl _ _⟩
  | some x =>
    have hB := below_alloc w (.cells #[] 5)
    have hown : (w.alloc (.cells #[] 5)).ownsRow w.heap.size 5 1 (.slice (some ⟨w.heap.size, 0, none⟩) 0 0) 0 [] := ⟨rfl, .inr ⟨w.heap.size, 0, #[], rfl, Nat.le_refl _, (box_new w [] 5).blk, Nat.le_refl _, by decide, rfl, rfl⟩⟩
    have hsrc : ∀ j u, (l.map (Value.int .u8))[j]? = some u → (w.alloc (.cells #[] 5)).cell? (x.add j) = some u := by
      intro j u hu
      rw [List.getElem?_map] at hu
      have hj : j < l.length := by
        rcases Nat.lt_or_ge j l.length with hj | hj
        · exact hj
        · rw [List.getElem?_eq_none hj] at hu; simp at hu
      rw [List.getElem?_eq_getElem hj] at hu
      simp at hu
      subst hu
      have hx : x = ⟨b, o, none⟩ := by
        rcases ha.loc with e | e
        · subst e; simp at hj
        · simpa using e
      subst hx
      have := (ha.keep hB).cell j hj
      rw [nth_eq hj] at this
      rw [addr_add]
      exact this
    have HB := (show Hid _ from hB)
    clear hB
    go_enter Tryz.func259, Tryz.ntmps259
    go_wp2_with (at_builtin; refine wpList_append_own _ rfl _ _ 57 rfl w.heap.size 5 i0 (.int .u8 0) 1 1 under_bytes hi hz0 hz1 hz2 rfl (by decide) _ _ _ rfl hown x n c (l.map (Value.int .u8)) rfl (by simp [hl]) ?c1 ?c2 ?c3 ?c4 ?c5 ?_)
    case c1 => exact hsrc
    case c2 => exact ints_oneCell _ _
    case c3 => unfold maxLen; omega
    case c4 => omega
    case c5 => exact HB.out.size
    intro v' w1 hown' hgrow _
    go_wp2
    go_ret
    refine ⟨v', rfl, ?_, HB.out.grown hgrow HB.out.size (own_ge hown)⟩
    unfold MineB
    rw [hl]
    simpa using hown'
end Go.Proofs.YtflenlpabmehoaaGreat
namespace Go.Proofs.YtflenlpabmehoaaGreat
open Go.RowKit Lim
theorem mineB_keep {w w':World} {B:Nat} {v:Value} {l:List Int} (h:MineB w B v l) (hb:Below w.heap.size w w'):MineB w' B v l:=by
 obtain ⟨h1,h2⟩:=h
 refine ⟨h1,?_⟩
 rcases h2 with h2 | ⟨g,cap,cur,h3,h4,h5,h6⟩
 ·exact .inl h2
 ·refine .inr ⟨g,cap,cur,h3,h4,?_,h6⟩
  rw [hb.block g (by
   rcases Nat.lt_or_ge g w.heap.size with h | h
   ·exact h
   ·rw [Array.getElem?_eq_none h] at h5; cases h5)]
  exact h5
end Go.Proofs.YtflenlpabmehoaaGreat
namespace Go.Proofs.YtflenlpabmehoaaGreat
open Go.RowKit Lim
theorem Slot.bx {w:World} {g:Nat} {v:Value} {t:TypeId} (s:Slot w g v t):Box w g [v] t:=⟨s.blk⟩
theorem RdA.put {w:World} {g b G:Nat} {err:Int} {l:List Int} (h:RdA w g b err l) {v u:Value} {t:TypeId} (s:Slot w G v t) (hG:G≠g) (hv:∀ x,v≠.int .u8 x):RdA (w.setCell ⟨G,0,none⟩ u) g b err l:=by
 obtain ⟨ao,n,c,X,A⟩:=h.ex
 refine ⟨ao,n,c,⟨?_⟩,A.box s.bx (fun v' hv'=>by rw [List.mem_singleton] at hv'; subst hv'; exact hv) fun k hk=>Below.heap_setCell _ _ _ k hk⟩
 rw [Below.heap_setCell _ _ _ g hG.symm]
 exact X.blk
theorem Slot.but {w w':World} {g G:Nat} {v:Value} {t:TypeId} (s:Slot w G v t) (h:But g w w') (hG:G≠g):Slot w' G v t:=⟨by
 rw [h.block G s.bx.lt hG]
 exact s.blk⟩
theorem But.put {w w':World} {g G:Nat} (h:But g w w') (hG:w.heap.size<=G) (u:Value):But g w (w'.setCell ⟨G,0,none⟩ u):=⟨h.os,h.tape,h.output,by rw [size_set]; exact h.size,fun k h1 h2=>by rw [Below.heap_setCell _ _ _ k (by show k≠G; omega)]; exact h.block k h1 h2⟩
end Go.Proofs.YtflenlpabmehoaaGreat
namespace Go.Proofs.YtflenlpabmehoaaGreat
open Go.RowKit Lim
def endE (err:Int) (l:List Int):Int:=if err=0 then (if l.length=0 then 0 else 43) else err
end Go.Proofs.YtflenlpabmehoaaGreat
namespace Go.Proofs.YtflenlpabmehoaaGreat
open Go.RowKit Lim
theorem ld_int {w:World} {g o:Nat} {x:Int} (c:w.cell? ⟨g,o,none⟩=some (.int .i64 x)):(loadVar 3 ⟨g,o,none⟩).run Tryz.prog w=.ok (.int .i64 x) w:=by
 go_simp
end Go.Proofs.YtflenlpabmehoaaGreat
namespace Go.Proofs.YtflenlpabmehoaaGreat
open Go.RowKit Lim
theorem RdA.off {w w':World} {g g' b b':Nat} {err e':Int} {l l':List Int} (h:RdA w g b err l) (h':RdA w g' b' e' l') (hne:g≠g') (hB:But g' w w'):RdA w' g b err l:=by
 obtain ⟨ao,n,c,X,A⟩:=h.ex
 obtain ⟨_,_,_,X',_⟩:=h'.ex
 exact ⟨ao,n,c,⟨by rw [hB.block g X.lt hne]; exact X.blk⟩,A.but X' (no_u8 _ _ _ _) hB⟩
theorem ByA.butN {w w':World} {b g n c:Nat} {ao:Option Addr} {l:List Int} (h:ByA w b ao n c l) (hb:b≠g) (hB:But g w w'):ByA w' b ao n c l:=by
 obtain ⟨o,h1,h2,h3,h4,h5⟩:=h.ex
 exact ⟨o,h1,h2,h3,h4,h5.loc,fun i hi=>hB.cell (h5.cell i hi) hb⟩
theorem RdA.offW {w w':World} {g g' b:Nat} {err:Int} {l:List Int} (h:RdA w g b err l) (hne:g≠g') (hb:b≠g') (hB:But g' w w'):RdA w' g b err l:=by
 obtain ⟨ao,n,c,X,A⟩:=h.ex
 exact ⟨ao,n,c,⟨by rw [hB.block g X.lt hne]; exact X.blk⟩,A.butN hb hB⟩
theorem Pc.off2 {w w':World} {p:Option Addr} {ps:List Int} (h:Pc w p ps) {g:Nat} {cs:List Value} {t:TypeId} (ht:t≠329) (X:Box w g cs t) (hw:∀ k,k < w.heap.size->k≠g->w'.heap[k]? = w.heap[k]?):Pc w' p ps:=by
 induction h using Pc.ind with
 | nil=>exact .nil
 | cons hb hl _ ih =>
  refine .cons ⟨?_⟩ hl ih
  rw [hw _ hb.lt (fun e=>by
   subst e
   have h1:=hb.blk
   rw [X.blk] at h1
   simp at h1
   exact ht h1.2)]
  exact hb.blk
theorem natB_unique {V:Int} {l:List Int} (hV:0<=V) (h:IsB l V):natB V=l:=isB_unique (natB_is hV) h
theorem natB_0:natB 0=[]:=natB_unique (by decide) ⟨fun x hx=>by simp at hx,fun h=>absurd rfl h,rfl⟩
end Go.Proofs.YtflenlpabmehoaaGreat
namespace Go.Proofs.YtflenlpabmehoaaGreat
namespace Rc
open Go.RowKit Go.Lib Pg
attribute [local go_sem] Oper.semAt_some
theorem hid3 {p:Prop} (h:p):Hid p:=h
theorem size_al (w:World) (o:Obj):(w.alloc o).heap.size=w.heap.size + 1:=by
 show (w.heap.push o).size=_
 simp
theorem belowD' (w:World):Below w.heap.size w w.drew:=⟨rfl,rfl,rfl,Nat.le_refl _,fun _ _=>rfl⟩
structure HC (σ:Type) (Inv:σ->World->Prop) (G:Nat->Prop) (rb:Nat) (f1 f2 f3:FuncId) (c:Value) (nx:Nat->Nat->σ->σ) (kd:Nat->Nat) (ok:σ->Prop):Prop where
 oks:∀ k o s,ok (nx k o s)->ok s
 keep:∀ s w w',Inv s w->Below w.heap.size w w'->Inv s w'
 old:∀ s w b,Inv s w->G b->b < w.heap.size
 e1:∀ args w,(callFunc f1 args).run Tryz.prog w=.ok (.enter f1 args) w
 e2:∀ args w,(callFunc f2 args).run Tryz.prog w=.ok (.enter f2 args) w
 e3:∀ args w,(callFunc f3 args).run Tryz.prog w=.ok (.enter f3 args) w
 u:∀ s w o,Inv s w->ok (nx 0 o s)->kd o=0->Calls Tryz.prog f1 #[.pointer (some ⟨rb,o,none⟩),c] w fun e w'=>e=.returned (.tuple #[])/\Inv (nx 0 o s) w'/\Chg G w w'
 t:∀ s w o,Inv s w->ok (nx 1 o s)->kd o=1->Calls Tryz.prog f2 #[.pointer (some ⟨rb,o,none⟩),c] w fun e w'=>e=.returned (.tuple #[])/\Inv (nx 1 o s) w'/\Chg G w w'
 d:∀ s w o,Inv s w->ok (nx 2 o s)->kd o=2->Calls Tryz.prog f3 #[.pointer (some ⟨rb,o,none⟩),c] w fun e w'=>e=.returned (.tuple #[])/\Inv (nx 2 o s) w'/\Chg G w w'
end Rc
end Go.Proofs.YtflenlpabmehoaaGreat
namespace Go.Proofs.YtflenlpabmehoaaGreat
namespace Rc
open Go.RowKit Go.Lib Pg
attribute [local go_sem] Oper.semAt_some
def thr {σ:Type} (nx:Nat->Nat->σ->σ) (l:List (Nat × Nat)) (s:σ):σ:=l.foldl (fun s p=>nx p.1 p.2 s) s
end Rc
end Go.Proofs.YtflenlpabmehoaaGreat
namespace Go.Proofs.YtflenlpabmehoaaGreat
namespace Rc
open Go.RowKit Go.Lib Pg
attribute [local go_sem] Oper.semAt_some
def fit (V:Int):Int:=if (natB V).length < 256 then V else 0
theorem fit_len (V:Int):(natB (fit V)).length < 256:=by
 unfold fit
 split
 ·assumption
 ·rw [natB_0]; decide
def enc1:Nat->Int->List Int
 | 0,x=>be 8 x
 | 1,x=>be 1 x
 | _,x=>cntd 1 (natB (fit x))
theorem But.chg {g:Nat} {w w':World} (h:But g w w'):Chg (· = g) w w':=⟨h.os,h.tape,h.output,h.size,fun b hb hne=>h.block b hb hne⟩
end Rc
end Go.Proofs.YtflenlpabmehoaaGreat
namespace Go.Proofs.YtflenlpabmehoaaGreat
namespace Rc
open Go.RowKit Go.Lib Pg
attribute [local go_sem] Oper.semAt_some
theorem enc1_len (k:Nat) (x:Int):(enc1 k x).length<=300:=by
 unfold enc1
 split
 ·rw [be_length]; decide
 ·rw [be_length]; decide
 ·have:=fit_len x
  simp only [cntd,List.length_append,be_length]
  omega
def pnx (xs:Nat->Int) (k o:Nat) (L:List Int):List Int:=L ++ enc1 k (xs o)
theorem pnx_len (xs:Nat->Int) (l:List (Nat × Nat)):∀ L:List Int,(thr (pnx xs) l L).length<=L.length + 300 * l.length:=by
 induction l with
 | nil=>intro L; simp [thr]
 | cons p l ih =>
  intro L
  have h:=ih (pnx xs p.1 p.2 L)
  have h2:=enc1_len p.1 (xs p.2)
  have e:thr (pnx xs) (p :: l) L=thr (pnx xs) l (pnx xs p.1 p.2 L):=rfl
  rw [e]
  simp only [pnx,List.length_append] at h
  simp only [List.length_cons]
  simp only [pnx]
  omega
structure PI (w0:World) (bw rb:Nat) (cs:List Value) (T:TypeId) (L:List Int) (w:World):Prop where
 wr:WrA w bw 0 L
 bel:Below w0.heap.size w0 w
 blk:Blk w rb cs T
 hb:w0.heap.size<=bw
 ne:rb≠bw
theorem PI.step {w0 w w':World} {bw rb:Nat} {cs:List Value} {T:TypeId} {L L':List Int} (h:PI w0 bw rb cs T L w) (X:WrA w' bw 0 L') (B:But bw w w'):PI w0 bw rb cs T L' w' :=
 ⟨X,B.below h.bel h.hb (Nat.le_refl _),h.blk.chg (But.chg B) (fun e=>h.ne e),h.hb,h.ne⟩
end Rc
end Go.Proofs.YtflenlpabmehoaaGreat
namespace Go.Proofs.YtflenlpabmehoaaGreat
namespace Rc
open Go.RowKit Go.Lib Pg
attribute [local go_sem] Oper.semAt_some
end Rc
end Go.Proofs.YtflenlpabmehoaaGreat
namespace Go.Proofs.YtflenlpabmehoaaGreat
namespace Rc
open Go.RowKit Go.Lib Pg Lim
attribute [local go_sem] Oper.semAt_some
structure NatW (w:World) (B:Nat) (ao:Option Addr) (n c:Nat) (x:Int):Prop where
 ex:∃ b o l,l.length=n/\n<=c/\IsN l x/\At w ao b o l/\B<=b
theorem NatW.o {w:World} {B n c:Nat} {ao:Option Addr} {x:Int} (h:NatW w B ao n c x):NatO w ao n c x:=by
 obtain ⟨b,o,l,h1,h2,h3,h4,_⟩:=h.ex
 exact ⟨b,o,l,h1,h2,h3,h4⟩
theorem NatW.low {w:World} {B B' n c:Nat} {ao:Option Addr} {x:Int} (h:NatW w B ao n c x) (hB:B'<=B):NatW w B' ao n c x:=by
 obtain ⟨b,o,l,h1,h2,h3,h4,h5⟩:=h.ex
 exact ⟨b,o,l,h1,h2,h3,h4,Nat.le_trans hB h5⟩
theorem NatW.off {w w':World} {B n c:Nat} {ao:Option Addr} {x:Int} (h:NatW w B ao n c x) (_hs:w.heap.size<=w'.heap.size) (hw:∀ b,B<=b->b < w.heap.size->w'.heap[b]? = w.heap[b]?):NatW w' B ao n c x:=by
 obtain ⟨b,o,l,h1,h2,h3,h4,h5⟩:=h.ex
 refine ⟨b,o,l,h1,h2,h3,⟨h4.loc,fun i hi => ?_⟩,h5⟩
 have hc:=h4.cell i hi
 rw [World.cell?_of_block (w:=w) (hw b h5 (cell_lt hc))]
 exact hc
end Rc
end Go.Proofs.YtflenlpabmehoaaGreat
