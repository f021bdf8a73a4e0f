/-
  The two supertasks side by side, in memory.
-/
import Derived.Test.YtnlgophgglgneaaSl6
import Derived.Test.YtnlgophgglgneaaSr6
import Derived.Test.YtnlgophgglgneaaSr5
import Derived.Test.YtnlgophgglgneaaSrB
namespace Go.Proofs.Ytnlgophgglgneaa
open Go.RowKit

structure Both14 (w : World) (g gc cp r : Nat) (am : Option Addr) (lm cm : Nat) (s s2 : SS) (wr : World) : Prop where
  one : SAt wr g gc cp s
  two : RAt wr r am lm cm s2
  lo : w.heap.size ≤ g ∧ w.heap.size ≤ gc ∧ w.heap.size ≤ r
  ap : ¬ (r = g ∨ r = gc)
  ne : ∀ ad : Addr, am = some ad → ¬ (ad.block = g ∨ ad.block = gc)
  bel : Below w.heap.size w wr
section
variable {w wr w' : World} {g gc cp r lm cm : Nat} {am : Option Addr} {s s2 s' : SS}
theorem Both14.below (h : Both14 w g gc cp r am lm cm s s2 wr) (hb : Below wr.heap.size wr w') : Both14 w g gc cp r am lm cm s s2 w' := ⟨h.one.below hb, h.two.below hb, h.lo, h.ap, h.ne, below_next h.bel hb⟩
theorem Both14.first (h : Both14 w g gc cp r am lm cm s s2 wr) (k : Keeps (fun k => k = g ∨ k = gc) wr w') (hs : SAt w' g gc cp s') : Both14 w g gc cp r am lm cm s' s2 w' :=
  ⟨hs, h.two.keeps k h.ap h.ne, h.lo, h.ap, h.ne, k.below h.bel (fun x hx => by have := h.lo; omega) h.bel.size⟩
theorem Both14.second (h : Both14 w g gc cp r am lm cm s s2 wr) (k : Keeps (fun k => k = r) wr w') (hs : RAt w' r am lm cm s') : Both14 w g gc cp r am lm cm s s' w' :=
  ⟨h.one.keeps k (fun e => h.ap (.inl e.symm)) (fun e => h.ap (.inr e.symm)), hs, h.lo, h.ap, h.ne, k.below h.bel (fun x hx => by have h1 := h.lo; have h2 : x = r := hx; omega) h.bel.size⟩
theorem both_new {qs : List (Int × Int)} {w3 w4 : World} (h : Has14 w am lm cm qs g gc cp s w3) (hr : RAt w4 w3.heap.size am lm cm s2) (hb : Below w3.heap.size w3 w4) : Both14 w g gc cp w3.heap.size am lm cm s s2 w4 :=
  ⟨h.at_.below hb, hr, ⟨h.lo.1, h.lo.2, h.bel.size⟩, by have := h.at_.lt; omega, h.ne, below_next h.bel hb⟩
end
end Go.Proofs.Ytnlgophgglgneaa
