/-
  What the document's numbers give back: Parse: contracts.
-/
import Derived.Test.YthelebgalihngaaNatRef8
namespace Go.Proofs.Ythelebgalihngaa
open Go.RowKit

/-- which texts are numbers -/
def GoodS (l : List UInt8) : Prop := l ≠ [] ∧ (∀ c ∈ l, 48 ≤ c.toNat ∧ c.toNat ≤ 57) ∧ ¬ (l.head? = some 48 ∧ 1 < l.length)
def byteD (c : UInt8) : Int := (c.toNat : Int) - 48
/-- the digits of a text, the lowest first -/
def numL (l : List UInt8) : List Int := l.reverse.map byteD
def ParseP (l : List UInt8) (w : World) (e : Ending) (w' : World) : Prop :=
  (GoodS l → GivesE w 0 (fun r => Is 4294967296 r (val 10 (numL l))) e w') ∧ (¬ GoodS l → GivesE w 10 (fun r => Is 4294967296 r 0) e w')
theorem parse_no {l : List UInt8} {w w' : World} (h : ¬ GoodS l) (hb : Below w.heap.size w w') : ParseP l w (.returned (.tuple #[.slice none 0 0, .int .i64 10])) w' :=
  ⟨fun g => absurd g h, fun _ => ⟨none, 0, 0, [], rfl, Row.nil, is_nil, hb, Fresh.none⟩⟩
theorem numL_digs {l : List UInt8} (h : ∀ c ∈ l, 48 ≤ c.toNat ∧ c.toNat ≤ 57) : Digs 10 (numL l) := fun z hz => by
  unfold numL at hz
  rw [List.mem_map] at hz
  obtain ⟨c, hc, rfl⟩ := hz
  have := h c (List.mem_reverse.mp hc)
  unfold byteD
  omega
theorem bytes_drop {s : ByteArray} {i : Nat} (h : i < s.size) : s.data.toList.drop i = s[i] :: s.data.toList.drop (i + 1) := by
  rw [List.drop_eq_getElem_cons (by simpa using h)]; rfl
theorem numL_cons {l : List UInt8} {c : UInt8} : numL (c :: l) = numL l ++ [byteD c] := by simp [numL]

theorem Parse_any (s : ByteArray) (w : World) (h : s.size ≤ 60) :
    Calls Try.prog 23 #[.string s] w (ParseP s.data.toList w) := by
  obtain ⟨i0, hi, hz0, hz1, hz2⟩ := info_parts Try.infoInt
  have tl : s.toList = s.data.toList := ByteArray.toList_eq s
  have len : s.data.toList.length = s.size := by simp
  obtain ⟨L, hL⟩ : ∃ L, s.data.toList = L := ⟨_, rfl⟩
  rw [hL] at tl len ⊢
  have HL := Lib.hid hL
  have HLen := Lib.hid len
  clear hL
  by_cases h0 : s.size = 0
  · have e0 : s.toList = [] := by rw [tl]; exact List.length_eq_zero_iff.mp (by omega)
    have NG := Lib.hid (show ¬ GoodS L from fun g => g.1 (tl ▸ e0))
    clear tl len
    go_enter Try.func23, Try.ntmps23
    go_wp2
    go_ret2
    exact parse_no NG.out (Below.refl _ _)
  · have e3 : 0 < s.size := by omega
    have e1 : ¬ s.toList = [] := by rw [tl]; intro e; rw [e] at len; simp at len; omega
    have e2 : s.toList.isEmpty = false := by simpa using e1
    have hhd : L.head? = some s[0] := by
      have := bytes_drop (s := s) e3
      rw [List.drop_zero, HL.out] at this
      rw [this]; rfl
    by_cases hld : s[0] = 48 ∧ 1 < s.size
    · have NG := Lib.hid (show ¬ GoodS L from fun g => g.2.2 ⟨by rw [hhd, hld.1], by omega⟩)
      have t1 : ((s[0].toNat : Int) == 48) = true := by rw [hld.1]; rfl
      have t2 : decide (1 < (s.size : Int)) = true := by have := hld.2; simp; omega
      clear tl len hhd hld
      go_enter Try.func23, Try.ntmps23
      go_wp2
      go_ret2
      exact parse_no NG.out (Below.refl _ _)
    · have HH := Lib.hid (show ¬ (L.head? = some 48 ∧ 1 < L.length) from fun g => hld ⟨by rw [hhd] at g; exact Option.some.inj g.1, by omega⟩)
      have t0 : (((s[0].toNat : Int) == 48) = false) ∨ (((s[0].toNat : Int) == 48) = true ∧ decide (1 < (s.size : Int)) = false) := by
        by_cases g : s[0] = 48
        · exact .inr ⟨by rw [g]; rfl, by have : ¬ 1 < s.size := fun k => hld ⟨g, k⟩; simp; omega⟩
        · refine .inl ?_
          rw [beq_eq_false_iff_ne]
          intro e
          exact g (UInt8.toNat_inj.mp (by have : (48 : UInt8).toNat = 48 := rfl; omega))
      have NE := Lib.hid (show L ≠ [] from tl ▸ e1)
      clear tl len hhd hld
      rcases t0 with t0 | ⟨t0, t1⟩
      all_goals
        go_enter Try.func23, Try.ntmps23
        go_wp2
        go_loopw [4, 5] (fun v i wr => ∃ (c : Int) (j k : Nat), i = .int .i64 c ∧ c = j - 1 ∧ j ≤ s.size ∧ k + j = s.size ∧ (∀ x ∈ L.drop j, 48 ≤ x.toNat ∧ x.toNat ≤ 57) ∧ wr.ownsRow w.heap.size 3 1 v k ((numL (L.drop j)).map (Value.int .i64)) ∧ Below w.heap.size w wr) (fun _ i _ => (intOf i + 1).toNat)
        case atStart => exact ⟨_, s.size, 0, rfl, rfl, Nat.le_refl _, by omega, (by rw [List.drop_eq_nil_of_le (by rw [HLen.out]; omega)]; intro x hx; cases hx), by rw [List.drop_eq_nil_of_le (by rw [HLen.out]; omega)]; exact World.ownsRow_nil _ _ _ _, Below.refl _ _⟩
        case round =>
          obtain ⟨c, j, k, rfl, hcj, hj, hkj, hgood, hown, hbel⟩ := hrel
          have HG := Lib.hid hgood
          have HO := Lib.hid hown
          have HW := Lib.hid hbel
          have hsz := hbel.size
          clear hgood hown hbel
          cases j with
          | zero =>
            obtain rfl : c = -1 := by omega
            clear hcj
            obtain ⟨a', cap', rfl, hrow, hfr⟩ := row_of_owns HO.out
            have HR := Lib.hid hrow
            have HD := Lib.hid (numL_digs HG.out)
            have VLT := Lib.hid (show val 10 (numL (L.drop 0)) < 10 ^ 60 by
              have h1 := val_lt (by omega) HD.out
              have h2 : (numL (L.drop 0)).length ≤ 60 := by rw [HR.out.len]; omega
              have h3 := ipow_le (B := 10) (by omega) h2
              omega)
            have GS := Lib.hid (show GoodS L from ⟨NE.out, HG.out, HH.out⟩)
            clear hrow hfr
            go_wp2_with (first
              | (go_at_call 45; refine (cut_at 10 _ _ _ _ _ HR.out HD.out).mono ?_; rintro e w' ⟨l2, zs2, rfl, hr2, hp2, rfl⟩; have HR2 := Lib.hid hr2; have HP2 := Lib.hid hp2; have HL2 := Lib.hid hr2.len; clear hr2 hp2)
              | (go_at_call 33; refine (limbs_any _ _ _ _ _ _ HR2.out HP2.out (by rw [← HL2.out]; exact Nat.le_trans (HP2.out.len_le (L := 60) (by omega) VLT.out) (by omega))).mono ?_; rintro e w4 ⟨a4, l4, k4, z4, rfl, hr4, hi4, hb4, hf4⟩; have HR4 := Lib.hid hr4; have HI4 := Lib.hid hi4; have HB4 := Lib.hid hb4; have HF4 := Lib.hid hf4; clear hr4 hi4 hb4 hf4))
            go_ret2
            exact ⟨fun _ => ⟨_, _, _, _, rfl, HR4.out, HI4.out, below_next HW.out HB4.out, HF4.out.mono HW.out.size⟩, fun g => absurd GS.out g⟩
          | succ i =>
            obtain rfl : c = (i : Int) := by omega
            clear hcj
            have hi1 : i < s.size := by omega
            have hdr := bytes_drop hi1
            rw [HL.out] at hdr
            by_cases hb : 48 ≤ s[i].toNat ∧ s[i].toNat ≤ 57
            · obtain ⟨b1, b2⟩ := hb
              have t3 : decide ((s[i].toNat : Int) < 48) = false := by simp; omega
              have t4 : decide (57 < (s[i].toNat : Int)) = false := by simp; omega
              have HDr := Lib.hid hdr
              clear hdr
              go_wp2_with (at_builtin; refine wpList_append_own _ rfl _ _ 52 rfl w.heap.size 3 i0 (.int .i64 0) 1 8 Try.underlying52 hi hz0 hz1 hz2 rfl (by decide) _ _ _ rfl (HO.out.alloc _) ⟨wr.heap.size, 0, none⟩ 1 1 [.int .i64 ((s[i].toNat : Int) - 48)] rfl rfl (one_new _ _ _) (one_cell _ _) (by unfold maxLen; omega) (by omega) (by simp; omega) ?_; intro v2 w2 hown2 hgrow2 hnil2; have HO2 := Lib.hid hown2; have HG2 := Lib.hid hgrow2; clear hown2 hgrow2 hnil2)
              go_roundw
              case rel =>
                refine ⟨_, i, k + 1, rfl, rfl, by omega, by omega, ?_, ?_, below_append HW.out HO.out HG2.out⟩
                · rw [HDr.out]
                  intro x hx
                  rw [List.mem_cons] at hx
                  rcases hx with rfl | hx
                  · exact ⟨b1, b2⟩
                  · exact HG.out x hx
                · rw [HDr.out, numL_cons]
                  exact owns_snoc HO2.out
              case measure => simp [intOf] <;> omega
            · have NG := Lib.hid (show ¬ GoodS L from fun g => hb (g.2.1 s[i] (List.mem_of_mem_drop (by rw [hdr]; exact List.mem_cons_self ..))))
              clear hdr
              by_cases hlo : s[i].toNat < 48
              · have t3 : decide ((s[i].toNat : Int) < 48) = true := by simp; omega
                clear hb
                go_wp2
                go_ret2
                exact parse_no NG.out HW.out
              · have t3 : decide ((s[i].toNat : Int) < 48) = false := by simp; omega
                have t4 : decide (57 < (s[i].toNat : Int)) = true := by simp; omega
                clear hb
                go_wp2
                go_ret2
                exact parse_no NG.out HW.out
end Go.Proofs.Ythelebgalihngaa
