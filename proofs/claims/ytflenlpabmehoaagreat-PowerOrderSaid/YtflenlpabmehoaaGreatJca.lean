/- Several texts, joined: PwO. -/
import Derived.Test.YtflenlpabmehoaaGreatJap
namespace Go.Proofs.YtflenlpabmehoaaGreat
namespace Pw
open Go.RowKit Go.Lib Pg Lim Gl Kv Bk
def Uw (x:Int):Prop:=0<=x/\x < 18446744073709551616
structure Od (tk:Nat->Int) (k:Nat) (E:Ents):Prop where
 len:E.length=k
 key:∀ x∈E,∃ i:Nat,i < k/\x.1=Ky.mk 10 (tk i) (i:Int)
section
variable {tk:Nat->Int} {k:Nat} {E:Ents}
theorem od_nil:Od tk 0 []:=⟨rfl,fun x h=>by simp at h⟩
theorem put_new {q v:List Int} (h:∀ x∈E,x.1≠q):(put E q v).length=E.length + 1:=by
 have key:∀ F:Ents,(∀ x∈F,x.1≠q)->(F.filter (fun x=>decide (Lt x.1 q))).length + (F.filter (fun x=>decide (Lt q x.1))).length=F.length:=by
  intro F hF
  induction F with
  | nil=>simp
  | cons x F ih =>
   have i2:=ih (fun y hy=>hF y (by simp [hy]))
   rcases lt_tri x.1 q with a | a | a
   ·rw [List.filter_cons_of_pos (by simpa using a),List.filter_cons_of_neg (by simpa using a.not)]
    simp only [List.length_cons]
    omega
   ·exact absurd a (hF x (by simp))
   ·rw [List.filter_cons_of_neg (by simpa using a.not),List.filter_cons_of_pos (by simpa using a)]
    simp only [List.length_cons]
    omega
 unfold put
 rw [List.length_append,List.length_cons]
 exact (by omega:∀ a b c:Nat,a + b=c->a + (b + 1)=c + 1) _ _ _ (key E h)
theorem mk10_B {a b:Int} (ha:Uw a) (hb:Uw b):Ky.rdB (Ky.mk 10 a b)=b:=(Ky.mk_back (k:=10) (by decide) (by decide) ha hb (mkE10 a b)).2.2
theorem nat_u {i:Nat} (h:i<=1000):Uw (i:Int):=⟨by omega,by omega⟩
theorem Od.put (h:Od tk k E) (ht:∀ i,i<=k->Uw (tk i)) (hk:k < 1000):Od tk (k + 1) (put E (Ky.mk 10 (tk k) k) []):=by
 refine ⟨?_,fun x hx => ?_⟩
 ·rw [put_new,h.len]
  intro x hx e
  obtain ⟨i,hi,e2⟩:=h.key x hx
  rw [e2] at e
  have q:=congrArg Ky.rdB e
  rw [mk10_B (ht i (by omega)) (nat_u (by omega)),mk10_B (ht k (by omega)) (nat_u (by omega))] at q
  omega
 ·rcases mem_put hx with h1 | rfl
  ·obtain ⟨i,hi,e⟩:=h.key x h1
   exact ⟨i,by omega,e⟩
  ·exact ⟨k,by omega,rfl⟩
theorem Od.pks (h:Od tk k E):(pks 10 105 E).map Prod.snd=E.map (fun x=>Ky.rdB x.1):=by
 unfold Pw.pks
 rw [List.filter_eq_self.2,List.map_map]
 ·rfl
 ·intro x hx
  obtain ⟨i,hi,e⟩:=h.key x hx
  obtain ⟨r,hr⟩:=mk10_head (tk i) i
  rw [e,hr]
  simp
theorem Od.list (h:Od tk k E) (hr:Rise E) (ht:∀ i,i < k->Uw (tk i)) (hk:k<=1000):∃ f:Nat->Nat,((Pw.pks 10 105 E).map Prod.snd).length=k/\(∀ j,j < k->((Pw.pks 10 105 E).map Prod.snd)[j]? = some (f j:Int)/\f j < k)/\∀ j,j + 1 < k->tk (f (j + 1)) < tk (f j)\/(tk (f j)=tk (f (j + 1))/\f j < f (j + 1)):=by
 have each:∀ j,j < k->∃ i:Nat,i < k/\∃ x,E[j]? = some x/\x.1=Ky.mk 10 (tk i) (i:Int):=fun j hj=>by
  have hj2:j < E.length:=by rw [h.len]; exact hj
  obtain ⟨i,hi,e⟩:=h.key E[j] (List.getElem_mem hj2)
  exact ⟨i,hi,_,List.getElem?_eq_getElem hj2,e⟩
 obtain ⟨f,hf⟩:∃ f:Nat->Nat,∀ j,j < k->f j < k/\∃ x,E[j]? = some x/\x.1=Ky.mk 10 (tk (f j)) (f j:Int):=by
  refine ⟨fun j=>if hj:j < k then Classical.choose (each j hj) else 0,fun j hj => ?_⟩
  simp only [dif_pos hj]
  exact Classical.choose_spec (each j hj)
 rw [h.pks]
 refine ⟨f,by rw [List.length_map,h.len],fun j hj => ?_,fun j hj => ?_⟩
 ·obtain ⟨h1,x,h2,h3⟩:=hf j hj
  refine ⟨?_,h1⟩
  rw [List.getElem?_map,h2]
  show some (Ky.rdB x.1)=_
  rw [h3,mk10_B (ht _ h1) (nat_u (by omega))]
 ·obtain ⟨h1,x,h2,h3⟩:=hf j (by omega)
  obtain ⟨g1,y,g2,g3⟩:=hf (j + 1) hj
  have hl:Lt x.1 y.1:=by
   obtain ⟨l1,e1⟩:=List.getElem?_eq_some_iff.1 h2
   obtain ⟨l2,e2⟩:=List.getElem?_eq_some_iff.1 g2
   rw [<- e1,<- e2]
   exact List.pairwise_iff_getElem.1 hr j (j + 1) l1 l2 (by omega)
  rw [h3,g3] at hl
  have q:=(Ky.mk_lt (k:=10) (by decide) (by decide) (ht _ h1) (nat_u (by omega)) (ht _ g1) (nat_u (by omega)) (mkE10 _ _) (mkE10 _ _)).1 hl
  simp at q
  omega
end
end Pw
end Go.Proofs.YtflenlpabmehoaaGreat
