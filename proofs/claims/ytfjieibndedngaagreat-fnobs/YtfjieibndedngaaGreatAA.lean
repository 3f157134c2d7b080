import Derived.Test.YtfjieibndedngaaGreatGQ
namespace Go.Proofs.YtfjieibndedngaaGreat
set_option linter.unusedVariables false
set_option linter.unusedSimpArgs false
open Go.ChangeShapes Go.WideShapes Go.ChangeAt Go.RowKit
def Dl (T P C B L:Int):Bool:=Cw T 0 20000 && Cw P 0 255 && Cw C 0 255 && Cw B 0 1 && Cw L 0 31
structure Gx (T P C B L:Int):Prop where
  t0:0≤T
  t1:T≤20000
  p0:0≤P
  p1:P≤255
  c0:0≤C
  c1:C≤255
  b0:0≤B
  b1:B≤1
  l0:0≤L
  l1:L≤31
theorem Il (T P C B L:Int):Dl T P C B L=true ↔ Gx T P C B L:=by
  unfold Dl Cw;simp only [Bool.and_eq_true,decide_eq_true_eq]
  constructor
  · rintro ⟨⟨⟨⟨h1,h2⟩,h3⟩,h4⟩,h5⟩
    exact ⟨by omega,by omega,by omega,by omega,by omega,by omega,by omega,by omega,by omega,by omega⟩
  · intro h
    have:=h.t0; have:=h.t1; have:=h.p0; have:=h.p1; have:=h.c0; have:=h.c1; have:=h.b0; have:=h.b1; have:=h.l0; have:=h.l1
    omega
def Ks (P C:Int):Int:=if C=0 then P else C-1
def Km (C B L:Int):Int:=if C=0∧0<L then 1-B else B
def Kn (T L:Int):Int:=if T%32=0∧0<L then L-1 else L
def Mo (T L:Int) (S Q:Bool):Bool:=if T%32=0∧0<L then Q || (decide (L-1=0) && S) else Q
def Ei (T:Int):Bool:=decide (T%16=15)
def Ti (T C B L:Int):Int:=if T%16=15∧0<Kn T L then 8*Km C B L else 0
def Lg (T P C B L:Int) (S Q:Bool):Value :=
  if Dl T P C B L=true then
    if T=20000 then .tuple #[.agg (aR T P C B L S Q),.i 0,.bool false]
    else .tuple #[.agg (aR (T+1) P (Ks P C) (Km C B L) (Kn T L) S (Mo T L S Q)),.i (Ti T C B L),.bool (Ei T)]
  else .tuple #[.agg (aR 0 0 0 0 0 false false),.i 0,.bool false]
theorem Cm (w:World) (T P C B L:Int) (S Q:Bool):Calls Tryz.prog 49 #[.agg (aR T P C B L S Q)] w
    fun e w'=>e=.returned (.bool (Dl T P C B L))∧Below w.heap.size w w':=by
  unfold Dl
  go_enter Tryz.func49,Tryz.ntmps49
  generalize hT:Cw T 0 20000=bT;generalize hP:Cw P 0 255=bP;generalize hC:Cw C 0 255=bC;generalize hB:Cw B 0 1=bB;generalize hL:Cw L 0 31=bL
  have L0:∀ o,Below w.heap.size w (w.alloc o):=fun o=>(Below.refl _ _).alloc (Nat.le_refl _) _
  cases bT <;> cases bP <;> cases bC <;> cases bB <;> cases bL <;>
    (go_wp2_with (first | (go_at_call 50; refine (Ft _ _).mono ?_; rintro e w' ⟨rfl,rfl⟩; first | rw [hP] | rw [hC]) | (go_at_call 51; refine (Dy _ _ _ _).mono ?_; rintro e w' ⟨rfl,rfl⟩; first | rw [hT] | rw [hB] | rw [hL]))
     go_ret
     exact ⟨rfl,L0 _⟩)
end Go.Proofs.YtfjieibndedngaaGreat
