/-
  Package wire's Bytes and Size, of commands that may be: contracts.
-/
import Derived.Test.YtlcagjmppmajeaaWqf
namespace Go.Proofs.Ytlcagjmppmajeaa
open Go.RowKit

theorem bys_at (L : List UInt8) (j : Nat) (hj : j < L.length) : (bys L)[j]? = some (.int .u8 (L[j].toNat)) := by
  unfold bys
  rw [List.getElem?_map, List.getElem?_eq_getElem hj]
  rfl
/-- bytes of one's own, as a text -/
theorem conv_own {B : Nat} {w : World} {v : Value} {L : List UInt8} (h : OB B w v L) : (convert 30 9 v).run Try.prog w = .ok (.string (BS L)) w := by
  have hlt : ∀ j (hj : j < L.length), (bys L)[j]? = some (.int .u8 (L[j].toNat)) := bys_at L
  rcases h.2 with ⟨rfl, hn⟩ | ⟨g, cap, cur, rfl, _⟩
  · have : L = [] := List.length_eq_zero_iff.mp hn
    subst this
    rfl
  · refine run_convert_bytes_back (P := Try.prog) _ _ _ 5 ⟨g, 0, none⟩ cap L Try.underlying30 Try.underlying5 Try.underlying9 (fun j hj => ?_)
    exact h.cells (g := g) rfl j _ (hlt j hj)
theorem encC_len {c : Cm} (h : MayC c) : (encC c).length ≤ 100 := by
  obtain ⟨s0, s1, p8, vs, hf, hc, hfs, h19⟩ := h.facts
  unfold encC
  rw [List.length_append]
  have h1 : (numI c.k).length ≤ 5 := num_short 4 (by have := h.hi; omega)
  have h2 := five_len (fieldsV c) (fun z hz => by
    rw [hfs] at hz
    obtain ⟨i, hi, rfl⟩ := List.mem_map.mp hz
    exact Int.le_trans (hf i (List.mem_range.mp hi)).2 (mostC_le _ _))
  have h3 : (fieldsV c).length ≤ 19 := by rw [hfs]; simpa using h19
  omega
theorem encs_len : ∀ l : List Cm, (∀ c ∈ l, MayC c) → (encs l).length ≤ 100 * l.length
  | [], _ => by simp [encs]
  | c :: l, h => by
    have h1 := encs_len l fun x hx => h x (List.mem_cons_of_mem _ hx)
    have h2 := encC_len (h c List.mem_cons_self)
    have e : encs (c :: l) = encC c ++ encs l := by unfold encs encC; simp
    rw [e, List.length_append, List.length_cons]
    omega
theorem parts_blk {w : World} {v : Value} {ps : List (Int × Int)} (h : PartsAt w v ps) : ∀ a len cap, v = .slice a len cap → ∀ ad : Addr, a = some ad → ad.block < w.heap.size := by
  obtain ⟨a, cap, e, hr⟩ := h
  intro a' len' cap' e' ad ea
  rw [e] at e'
  cases e'
  exact hr.2 ad ea
set_option maxRecDepth 20000 in
set_option maxHeartbeats 4000000 in
theorem wsize_any (c : Cm) (v : Value) (w : World) (h : MayC c) (hp : PartsAt w v c.parts) :
    Calls Try.prog 13 #[cmV c v] w fun e w' => e = .returned (.int .i64 (encC c).length) ∧ Below w.heap.size w w' := by
  have MC := Lib.hid h
  have HP := Lib.hid hp
  have EL := encC_len h
  obtain ⟨a, cap, hv, -⟩ := hp
  subst hv
  obtain ⟨k, id, sv, m, co, e, p, early, parts⟩ := c
  obtain ⟨W1, hW1⟩ : ∃ W1, w.alloc (.cells #[.int .i64 k, .int .i64 id, .int .i64 sv, .int .i64 m, .int .i64 co, .int .i64 e, .int .i64 p, .bool early, .slice a parts.length cap] 37) = W1 := ⟨_, rfl⟩
  have B1 := Lib.hid (show Below w.heap.size w W1 by rw [← hW1]; exact wbox _ _)
  have X1 := Lib.hid (show Blk W1 37 w.heap.size #[.int .i64 k, .int .i64 id, .int .i64 sv, .int .i64 m, .int .i64 co, .int .i64 e, .int .i64 p, .bool early, .slice a parts.length cap] by rw [← hW1]; exact Blk.new _ _ _)
  have HW1 := Lib.hid hW1
  clear h hW1
  go_enter Try.func13, Try.ntmps13
  go_upto_region 1 with fail
  rw [HW1.out]
  have x0 := X1.out.cell 0; have x1 := X1.out.cell 1; have x2 := X1.out.cell 2; have x3 := X1.out.cell 3; have x4 := X1.out.cell 4; have x5 := X1.out.cell 5; have x6 := X1.out.cell 6; have x7 := X1.out.cell 7; have x8 := X1.out.cell 8
  simp at x0 x1 x2 x3 x4 x5 x6 x7 x8
  go_wp2_with fail
  refine (wwrite_any W1.heap.size (.slice none 0 0) [] ⟨k, id, sv, m, co, e, p, early, parts⟩ (.slice a parts.length cap) W1 (OB.nil _ _) MC.out (HP.out.below B1.out) (fun _ _ _ _ _ _ q => by simp [Value.ownBlock] at q) (Nat.le_refl _) (by simp)).mono ?_
  rintro e2 W2 ⟨v2, rfl, hw⟩
  obtain ⟨a2, c2, rfl⟩ := hw.own.slice
  have B2 := Lib.hid (show Below w.heap.size w W2 from below_next B1.out (hw.keeps.below (Below.refl _ _) (fun k e => by simp [Value.ownBlock] at e) (Nat.le_refl _)))
  simp only [List.nil_append]
  clear hw
  go_wp2
  go_ret
  exact ⟨rfl, B2.out⟩
set_option maxRecDepth 20000 in
set_option maxHeartbeats 4000000 in
theorem wbytes_any (a : Option Addr) (len cap : Nat) (l : List (Cm × Value)) (w : World) (h : RowC w a len cap l) (hm : ∀ x ∈ l, MayC x.1) (hl : len ≤ 5000) :
    Calls Try.prog 9 #[.slice a len cap] w fun e w' => e = .returned (.string (BS (encs (l.map Prod.fst)))) ∧ Below w.heap.size w w' := by
  have H := Lib.hid h
  have LN := Lib.hid h.len
  have HM := Lib.hid hm
  have L9 := RowF.cap_le h.row
  clear h hm
  go_enter Try.func9, Try.ntmps9
  go_wp2
  go_loopw [3, 8] (fun v u wr => ∃ i : Nat, u = .int .i64 i ∧ i ≤ len ∧ OB w.heap.size wr v (encs ((l.take i).map Prod.fst)) ∧ Below w.heap.size w wr) (fun _ u _ => len - (intOf u).toNat)
  case atStart => exact ⟨0, rfl, by omega, OB.nil _ _, Below.refl _ _⟩
  case round =>
    obtain ⟨i, rfl, i1, ho, hb⟩ := hrel
    have O := Lib.hid ho
    have B := Lib.hid hb
    clear ho hb
    by_cases go : i < len
    · have b1 : decide ((i : Int) < (len : Int)) = true := by simp; omega
      have b1' : decide (i < len) = true := by simp; omega
      obtain ⟨x, hx, hts⟩ := get_of (l := l) (i := i) (by rw [LN.out]; exact go)
      have TS := Lib.hid (show encs ((l.take (i + 1)).map Prod.fst) = encs ((l.take i).map Prod.fst) ++ encC x.1 by rw [hts, List.map_append, ← encs_snoc]; rfl)
      have MX := Lib.hid (HM.out x (List.mem_of_getElem? hx))
      have EL : (encs ((l.take i).map Prod.fst)).length ≤ 500000 := by
        have h1 := encs_len ((l.take i).map Prod.fst) (fun c hc => by
          obtain ⟨y, hy, rfl⟩ := List.mem_map.mp hc
          exact HM.out y (List.mem_of_mem_take hy))
        rw [List.length_map, List.length_take] at h1
        omega
      obtain ⟨b, off, rfl, hpt, hc⟩ := H.out.at hx
      obtain ⟨⟨k, id, sv, m, co, e, p, early, parts⟩, v⟩ := x
      have hpt2 : PartsAt w v parts := hpt
      obtain ⟨pa, pc, hv, -⟩ := hpt2
      subst hv
      have PP := Lib.hid hpt
      have i3 : (i : Int) < (len : Int) := by omega
      have i0 : 0 ≤ (i : Int) := by omega
      have x0 := cell_on B.out (hc 0 _ rfl); have x1 := cell_on B.out (hc 1 _ rfl); have x2 := cell_on B.out (hc 2 _ rfl); have x3 := cell_on B.out (hc 3 _ rfl); have x4 := cell_on B.out (hc 4 _ rfl); have x5 := cell_on B.out (hc 5 _ rfl); have x6 := cell_on B.out (hc 6 _ rfl); have x7 := cell_on B.out (hc 7 _ rfl); have x8 := cell_on B.out (hc 8 _ rfl)
      simp only [Nat.add_zero] at x0
      obtain ⟨P, hP⟩ : ∃ P, encs ((l.take i).map Prod.fst) = P := ⟨_, rfl⟩
      rw [hP] at O TS EL
      obtain ⟨ab, nb, cb, rfl⟩ := O.out.slice3
      obtain ⟨W4, hW4⟩ : ∃ W4, wr.alloc (.cells #[.int .i64 k, .int .i64 id, .int .i64 sv, .int .i64 m, .int .i64 co, .int .i64 e, .int .i64 p, .bool early, .slice pa parts.length pc] 37) = W4 := ⟨_, rfl⟩
      have B4 := Lib.hid (show Below wr.heap.size wr W4 by rw [← hW4]; exact wbox _ _)
      have B5 := Lib.hid (below_next B.out B4.out)
      have R4 := Lib.hid (show Blk W4 37 wr.heap.size #[.int .i64 k, .int .i64 id, .int .i64 sv, .int .i64 m, .int .i64 co, .int .i64 e, .int .i64 p, .bool early, .slice pa parts.length pc] by rw [← hW4]; exact Blk.new _ _ _)
      have O4 := Lib.hid (O.out.below B4.out)
      have P4 := Lib.hid (PP.out.below B5.out)
      have PB := Lib.hid (parts_blk PP.out)
      have y0 := R4.out.cell 0; have y1 := R4.out.cell 1; have y2 := R4.out.cell 2; have y3 := R4.out.cell 3; have y4 := R4.out.cell 4; have y5 := R4.out.cell 5; have y6 := R4.out.cell 6; have y7 := R4.out.cell 7; have y8 := R4.out.cell 8
      simp at y0 y1 y2 y3 y4 y5 y6 y7 y8
      have HW4 := Lib.hid hW4
      clear hx hts hc hpt hP hW4
      go_upto_region 5 with fail
      rw [HW4.out]
      clear x0 x1 x2 x3 x4 x5 x6 x7 x8
      go_wp2_with fail
      refine (wwrite_any w.heap.size (.slice ab nb cb) P ⟨k, id, sv, m, co, e, p, early, parts⟩ (.slice pa parts.length pc) W4 O4.out MX.out P4.out (fun a' l' c' e' ad ea q => by have h1 := PB.out a' l' c' e' ad ea; have h2 := (O4.out.lt q).1; omega) B5.out.size (by omega)).mono ?_
      rintro e2 w5 ⟨v5, rfl, hw⟩
      have O6 := Lib.hid (show OB w.heap.size w5 v5 (encs ((l.take (i + 1)).map Prod.fst)) by rw [TS.out]; exact hw.own)
      have B6 := Lib.hid (show Below w.heap.size w w5 from hw.keeps.below B5.out (fun k e => (O4.out.lt e).1) B5.out.size)
      clear hw y0 y1 y2 y3 y4 y5 y6 y7 y8
      go_wp2
      go_roundw
      case rel => exact ⟨i + 1, by go_num, by omega, O6.out, B6.out⟩
      case measure => simp [intOf]; omega
    · have b1 : decide ((i : Int) < (len : Int)) = false := by simp; omega
      have b1' : decide (i < len) = false := by simp; omega
      have O6 := Lib.hid (show OB w.heap.size wr u3 (encs (l.map Prod.fst)) by have h1 := O.out; rw [List.take_of_length_le (show l.length ≤ i by rw [LN.out]; omega)] at h1; exact h1)
      have hcv := conv_own O6.out
      go_wp2
      go_ret
      exact ⟨rfl, B.out⟩
end Go.Proofs.Ytlcagjmppmajeaa
