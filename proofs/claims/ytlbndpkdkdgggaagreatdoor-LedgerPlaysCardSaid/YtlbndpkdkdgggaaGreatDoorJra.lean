/- Several texts, joined: Reg. -/
import Derived.Test.YtlbndpkdkdgggaaGreatDoorJna
import Derived.Deep.RegionHeld3
set_option maxRecDepth 100000
set_option maxHeartbeats 8000000
namespace Go.Proofs.YtlbndpkdkdgggaaGreatDoor
open Go.RowKit Lim
theorem load_raw {w:World} {g:Nat} {ao:Option Addr} {n c:Nat} {t:TypeId} (s:Slot w g (.slice ao n c) t):(loadVar 33 ⟨g,0,none⟩).run Tryz.prog w=.ok (.slice ao n c) w:=by
 have hc:=s.cell
 go_simp
section
variable {ops:Array Oper} {Q:Exit->Act->World->Prop} {S:World->Prop} {fuel:Nat} {listed:Array Bool} {a:Act} {w:World}
def rgChk (ops:Array Oper) (listed:Array Bool) (a:Act) (i:Nat) (d:Option Tmp):Bool :=
 Region.noSelect ops && Region.free .any ops listed i && (Region.ready .any ops listed).contains i && decide (i < ops.size) && Region.wanted (ops.getD i default) (yielded ops a.tmps) && decide ((ops.getD i default).dst=d)
def rgLone (ops:Array Oper) (listed:Array Bool) (a:Act) (i:Nat) (d:Option Tmp):Bool :=
 decide (Region.ready .any ops listed=[i]) && decide (i < ops.size) && Region.wanted (ops.getD i default) (yielded ops a.tmps) && decide ((ops.getD i default).dst=d)
theorem at_getD {i:Nat} (h:i < ops.size):ops[i]? = some (ops.getD i default):=by
 simp [Array.getD,h]
theorem rg_take (i:Nat) (d:Option Tmp) (v:Value) (hc:rgChk ops listed a i d=true) (hy:∀ w',S w'->(execOp a.eval (ops.getD i default)).run Tryz.prog w'=.ok (.value v) w')
  (hQ:∀ c a w,Q (.panic c) (a.put d v) w->Q (.panic c) a w) (hS:S w)
  (h:wpAnyH Tryz.prog .any ops Q S fuel (listed.setIfInBounds i true) (a.put d v) w):wpAnyH Tryz.prog .any ops Q S (fuel + 1) listed a w:=by
 simp only [rgChk,Bool.and_eq_true,decide_eq_true_eq] at hc
 obtain ⟨⟨⟨⟨⟨h1,h2⟩,h3⟩,h4⟩,h5⟩,h6⟩:=hc
 subst h6
 exact wpAnyH_take (at_getD h4) h1 h2 h3 hQ (.inl ⟨h5,hy⟩) hS h
theorem i3 {α β γ:Type} {p:α->β->γ->Prop}:∀ c a w,p c a w->p c a w:=fun _ _ _ h=>h
theorem rg_n (i d:Nat) (v:Value) (hc:rgChk ops listed a i (some d)=true) (hy:∀ w',S w'->(execOp a.eval (ops.getD i default)).run Tryz.prog w'=.ok (.value v) w') (hQ:∀ c a w,Q (.panic c) (a.put (some d) v) w->Q (.panic c) a w) (hS:S w) (h:wpAnyH Tryz.prog .any ops Q S fuel (listed.setIfInBounds i true) (a.put (some d) v) w):wpAnyH Tryz.prog .any ops Q S (fuel + 1) listed a w:=rg_take i (some d) v hc hy hQ hS h
theorem rg_load (i:Nat) (d:Option Tmp) (v:Value) (T:TypeId) (k g o:Nat) (hc:rgChk ops listed a i d=true) (ho:(ops.getD i default).op=.load T (.tmp k)) (hp:a.eval (.tmp k)=.pointer (some ⟨g,o,none⟩))
  (hl:∀ w',S w'->(loadVar T ⟨g,o,none⟩).run Tryz.prog w'=.ok v w')
  (hQ:∀ c a w,Q (.panic c) (a.put d v) w->Q (.panic c) a w) (hS:S w)
  (h:wpAnyH Tryz.prog .any ops Q S fuel (listed.setIfInBounds i true) (a.put d v) w):wpAnyH Tryz.prog .any ops Q S (fuel + 1) listed a w :=
 rg_take i d v hc (fun w' hS'=>by
  have:=hl w' hS'
  simp only [execOp,ho,hp]
  simp [Instr.loadAt,Instr.sureAddr,Result.andThen,this]) hQ hS h
theorem rg_call (i:Nat) (d:Option Tmp) (f:FuncId) (args:Array Value) {Qc:Ending->World->Prop} (hc:rgLone ops listed a i d=true) (hrun:(execOp a.eval (ops.getD i default)).run Tryz.prog w=.ok (.enter f args) w)
  (hcall:Calls Tryz.prog f args w Qc) (hk:∀ e w',Qc e w'->∃ v,e=.returned v/\S w'/\wpAnyH Tryz.prog .any ops Q S fuel (listed.setIfInBounds i true) (a.put d v) w') :
  wpAnyH Tryz.prog .any ops Q S (fuel + 1) listed a w:=by
 simp only [rgLone,Bool.and_eq_true,decide_eq_true_eq] at hc
 obtain ⟨⟨⟨h3,h4⟩,h5⟩,h6⟩:=hc
 subst h6
 refine wpAnyH_all h3 (by simp) fun j hj => ?_
 obtain rfl:j=i:=by simpa using hj
 refine wpOp_step (at_getD h4) fun K hK => ?_
 rw [if_pos h5]
 unfold Oper.wp
 rw [hrun]
 refine hcall.mono fun e w' he => ?_
 obtain ⟨v,rfl,hS',hw⟩:=hk e w' he
 exact hK _ _ ⟨hS',hw⟩
theorem rg_done (hr:Region.ready .any ops listed=[]) (h:Q .normal a w):wpAnyH Tryz.prog .any ops Q S fuel listed a w:=wpAnyH_done hr h fuel
theorem rg_start {id:Nat} (hm:Tryz.prog.follows .mixedOrders=true) (hS:S w.drew) (h:wpAnyH Tryz.prog .any ops Q S ops.size (Array.replicate ops.size false) a w.drew):(Code.region id ops true).wp Tryz.prog Q a w :=
 wp_region_held_drew hm hS fun _=>h
end
end Go.Proofs.YtlbndpkdkdgggaaGreatDoor
