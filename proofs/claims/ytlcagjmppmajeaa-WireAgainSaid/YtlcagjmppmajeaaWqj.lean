/-
  The law's examples (awake): contract.
-/
import Derived.Test.YtlcagjmppmajeaaWqi
namespace Go.Proofs.Ytlcagjmppmajeaa
open Go.RowKit

theorem numI_small {z : Int} (h : z < 128) : numI z = [bt z.toNat] := by
  unfold numI
  rw [num_last (by omega)]
theorem rowF_lit {c : Nat} (w : World) (rs : List (List Value)) (hw : Wide c rs) (T : TypeId) (cs : Array Value) (hc : rs.flatten.toArray = cs) (n : Nat) (hn : rs.length = n) (hb : n ≤ 1000) : RowF (w.alloc (.cells cs T)) (some ⟨w.heap.size, 0, none⟩) n n c rs := by
  subst hc hn
  refine ⟨rfl, Nat.le_refl _, by omega, (fun e => by cases e), fun i hi => ⟨_, _, rfl, fun j hj => ?_⟩⟩
  rw [cell_of_row _ w.heap.size (0 + i * c + j) _ _ _ (heap_alloc_new w _), Nat.zero_add, List.getElem?_toArray]
  exact flat_at rs hw i hi j hj
def ca : Cm := ⟨1, 0, -1, 0, 0, 2, 3, true, []⟩
def cb : Cm := ⟨5, 0, 0, 1, 0, 0, 0, false, []⟩
theorem ca_may : MayC ca := by
  refine ⟨by decide, by decide, fun i => if i = 0 then 0 else if i = 1 then 1 else if i = 2 then 2 else 3, fun i hi => ?_, rfl⟩
  have h4 : i < 4 := hi
  have : i = 0 ∨ i = 1 ∨ i = 2 ∨ i = 3 := by omega
  rcases this with rfl | rfl | rfl | rfl <;> decide
theorem cb_may : MayC cb := by
  refine ⟨by decide, by decide, fun _ => 1, fun i hi => ?_, rfl⟩
  have h4 : i < 1 := hi
  have : i = 0 := by omega
  subst this
  decide
theorem ca_enc : encC ca = [1, 0, 1, 2, 3] := by
  have h : encC ca = numI 1 ++ (numI 0 ++ (numI 1 ++ (numI 2 ++ (numI 3 ++ [])))) := rfl
  rw [h, numI_small (by decide), numI_small (by decide), numI_small (by decide), numI_small (by decide)]
  rfl
theorem cb_enc : encC cb = [5, 1] := by
  have h : encC cb = numI 5 ++ (numI 1 ++ []) := rfl
  rw [h, numI_small (by decide), numI_small (by decide)]
  rfl
theorem cab_enc : encs [ca, cb] = [1, 0, 1, 2, 3, 5, 1] := by
  have h : encs [ca, cb] = encC ca ++ (encC cb ++ []) := rfl
  rw [h, ca_enc, cb_enc]
  rfl
set_option maxRecDepth 20000 in
set_option maxHeartbeats 4000000 in
theorem awake18_any (w : World) : Calls Try.prog 7 #[] w fun e w' => e = .returned (.bool true) ∧ Below w.heap.size w w' := by
  obtain ⟨W1, hW1⟩ : ∃ W1, w.alloc (.cells #[.int .i64 1, .int .i64 0, .int .i64 (-1), .int .i64 0, .int .i64 0, .int .i64 2, .int .i64 3, .bool true, .slice none 0 0] 37) = W1 := ⟨_, rfl⟩
  have B1 := Lib.hid (show Below w.heap.size w W1 by rw [← hW1]; exact wbox _ _)
  have X1 := Lib.hid (show Blk W1 37 w.heap.size #[.int .i64 1, .int .i64 0, .int .i64 (-1), .int .i64 0, .int .i64 0, .int .i64 2, .int .i64 3, .bool true, .slice none 0 0] by rw [← hW1]; exact Blk.new _ _ _)
  have HW1 := Lib.hid hW1
  have e1 := BS_list [1, 0, 1, 2, 3, 5, 1]
  clear hW1
  go_enter Try.func7, Try.ntmps7
  go_upto_region 2 with fail
  rw [HW1.out]
  have x0 := X1.out.cell 0; have x1 := X1.out.cell 1; have x2 := X1.out.cell 2; have x3 := X1.out.cell 3; have x4 := X1.out.cell 4; have x5 := X1.out.cell 5; have x6 := X1.out.cell 6; have x7 := X1.out.cell 7; have x8 := X1.out.cell 8
  simp at x0 x1 x2 x3 x4 x5 x6 x7 x8
  have R2 := Lib.hid (show RowC (W1.alloc (.cells #[.int .i64 1, .int .i64 0, .int .i64 (-1), .int .i64 0, .int .i64 0, .int .i64 2, .int .i64 3, .bool true, .slice none 0 0, .int .i64 5, .int .i64 0, .int .i64 0, .int .i64 1, .int .i64 0, .int .i64 0, .int .i64 0, .bool false, .slice none 0 0] 37)) (some ⟨W1.heap.size, 0, none⟩) 2 2 [(ca, .slice none 0 0), (cb, .slice none 0 0)] from
    ⟨rowF_lit W1 _ (wideC _) _ _ rfl 2 rfl (by omega), fun x hx => by
      simp at hx
      rcases hx with rfl | rfl <;> exact PartsAt.nil _⟩)
  have B2 := Lib.hid (below_next B1.out (wbox W1 (.cells #[.int .i64 1, .int .i64 0, .int .i64 (-1), .int .i64 0, .int .i64 0, .int .i64 2, .int .i64 3, .bool true, .slice none 0 0, .int .i64 5, .int .i64 0, .int .i64 0, .int .i64 1, .int .i64 0, .int .i64 0, .int .i64 0, .bool false, .slice none 0 0] 37)))
  go_wp2_with fail
  refine (wbytes_any _ 2 2 _ _ R2.out (fun x hx => by simp at hx; rcases hx with rfl | rfl; exact ca_may; exact cb_may) (by omega)).mono ?_
  rintro e w3 ⟨rfl, hb⟩
  rw [show ([(ca, Value.slice none 0 0), (cb, Value.slice none 0 0)].map Prod.fst) = [ca, cb] from rfl, cab_enc]
  have B3 := Lib.hid (below_next B2.out hb)
  have X3 := Lib.hid ((X1.out.alloc (.cells #[.int .i64 1, .int .i64 0, .int .i64 (-1), .int .i64 0, .int .i64 0, .int .i64 2, .int .i64 3, .bool true, .slice none 0 0, .int .i64 5, .int .i64 0, .int .i64 0, .int .i64 1, .int .i64 0, .int .i64 0, .int .i64 0, .bool false, .slice none 0 0] 37)).below hb)
  clear hb x0 x1 x2 x3 x4 x5 x6 x7 x8
  have x0 := X3.out.cell 0; have x1 := X3.out.cell 1; have x2 := X3.out.cell 2; have x3 := X3.out.cell 3; have x4 := X3.out.cell 4; have x5 := X3.out.cell 5; have x6 := X3.out.cell 6; have x7 := X3.out.cell 7; have x8 := X3.out.cell 8
  simp at x0 x1 x2 x3 x4 x5 x6 x7 x8
  go_wp2_with fail
  refine (wsize_any ca (.slice none 0 0) _ ca_may (PartsAt.nil _)).mono ?_
  rintro e w4 ⟨rfl, hb⟩
  rw [ca_enc]
  have B4 := Lib.hid (below_next B3.out hb)
  clear hb
  go_wp2
  go_ret
  exact ⟨rfl, B4.out⟩
end Go.Proofs.Ytlcagjmppmajeaa
