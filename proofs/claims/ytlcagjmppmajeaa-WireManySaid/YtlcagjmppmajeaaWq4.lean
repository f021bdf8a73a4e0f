/-
  What package wire's command gives.
-/
import Derived.Test.YtlcagjmppmajeaaWq3
import Derived.Deep.DeepCutAuto
import Derived.Deep.RegionHeld3
import Derived.Deep.RegionLaw
namespace Go.Proofs.Ytlcagjmppmajeaa
open Go.RowKit

/-- parts that lie in memory of their own -/
def PartsN (B : Nat) (W : World) (v : Value) (ps : List (Int × Int)) : Prop := ∃ a cap, v = .slice a ps.length cap ∧ RowT W a ps.length cap ps ∧ Fresh B a
theorem PartsN.nil (B : Nat) (W : World) : PartsN B W (.slice none 0 0) [] := ⟨none, 0, rfl, RowT.nil, Fresh.none⟩
theorem PartsN.at {B : Nat} {W : World} {v : Value} {ps : List (Int × Int)} (h : PartsN B W v ps) : PartsAt W v ps := by
  obtain ⟨a, cap, e, hr, _⟩ := h
  exact ⟨a, cap, e, hr⟩
theorem PartsN.keeps {F : Nat → Prop} {B : Nat} {W W' : World} {v : Value} {ps : List (Int × Int)} (h : PartsN B W v ps) (k : Keeps F W W') (hF : ∀ x, B ≤ x → ¬ F x) : PartsN B W' v ps := by
  obtain ⟨a, cap, e, hr, hf⟩ := h
  exact ⟨a, cap, e, hr.keeps k (fun ad e => hF _ (hf ad e)), hf⟩
def CmdO (k : Int) (vs : Nat → Int) (pa pb : Nat) (S : Nat → World → Prop) (w : World) (e : Ending) (w' : World) : Prop :=
  ∃ v, e = .returned (cmV (commandV k vs) v) ∧ PartsN (w.heap.size + 2) w' v (commandV k vs).parts ∧ S (cntC k vs) w' ∧ Keeps (Two pa pb) w w'
theorem Blk.set_ {w : World} {T : TypeId} {g : Nat} {cs : Array Value} (h : Blk w T g cs) (i : Nat) (u : Value) : Blk (w.setCell ⟨g, i, none⟩ u) T g (cs.setIfInBounds i u) := heap_setCell_same w g i cs T u h
theorem Blk.store9 {W : World} {T : TypeId} {g : Nat} {a b c d e f p q r : Value} (h : Blk W T g #[a, b, c, d, e, f, p, q, r]) (x0 x1 x2 x3 x4 x5 x6 x7 x8 : Value) :
    Blk (((((((((W.setCell ⟨g, 0, none⟩ x0).setCell ⟨g, 1, none⟩ x1).setCell ⟨g, 2, none⟩ x2).setCell ⟨g, 3, none⟩ x3).setCell ⟨g, 4, none⟩ x4).setCell ⟨g, 5, none⟩ x5).setCell ⟨g, 6, none⟩ x6).setCell ⟨g, 7, none⟩ x7).setCell ⟨g, 8, none⟩ x8) T g #[x0, x1, x2, x3, x4, x5, x6, x7, x8] := by
  have h0 : Blk _ T g #[x0, b, c, d, e, f, p, q, r] := h.set_ 0 x0
  have h1 : Blk _ T g #[x0, x1, c, d, e, f, p, q, r] := h0.set_ 1 x1
  have h2 : Blk _ T g #[x0, x1, x2, d, e, f, p, q, r] := h1.set_ 2 x2
  have h3 : Blk _ T g #[x0, x1, x2, x3, e, f, p, q, r] := h2.set_ 3 x3
  have h4 : Blk _ T g #[x0, x1, x2, x3, x4, f, p, q, r] := h3.set_ 4 x4
  have h5 : Blk _ T g #[x0, x1, x2, x3, x4, x5, p, q, r] := h4.set_ 5 x5
  have h6 : Blk _ T g #[x0, x1, x2, x3, x4, x5, x6, q, r] := h5.set_ 6 x6
  have h7 : Blk _ T g #[x0, x1, x2, x3, x4, x5, x6, x7, r] := h6.set_ 7 x7
  have h8 : Blk _ T g #[x0, x1, x2, x3, x4, x5, x6, x7, x8] := h7.set_ 8 x8
  exact h8
/-- command's state, in the loop of parts -/
structure Six (vs : Nat → Int) (pa pb : Nat) (S : Nat → World → Prop) (w : World) (c5 i : Nat) (v : Value) (W : World) : Prop where
  box : Blk W 37 c5 #[.int .i64 6, .int .i64 0, .int .i64 (vs 0 - 1), .int .i64 0, .int .i64 (vs 1), .int .i64 0, .int .i64 0, .bool false, v]
  res : Blk W 37 w.heap.size #[.int .i64 0, .int .i64 0, .int .i64 0, .int .i64 0, .int .i64 0, .int .i64 0, .int .i64 0, .bool false, .slice none 0 0]
  row : W.ownsRow (c5 + 1) 59 2 v i ((partsN vs i).map pc2).flatten
  st : S (3 + 2 * i) W
  kp : Keeps (Two pa pb) w W
end Go.Proofs.Ytlcagjmppmajeaa
