/-
  What package nat's formed and read give back: contracts.
-/
import Derived.Test.YthelebgalihngaaNat11
namespace Go.Proofs.Ythelebgalihngaa
open Go.RowKit

theorem take_bytes {s : ByteArray} {i : Nat} (h : i < s.size) : s.data.toList.take (i + 1) = s.data.toList.take i ++ [s[i]] := by
  rw [List.take_succ_eq_append_getElem (by simpa using h)]; rfl
theorem bool_of_not {r : Bool} {p : Prop} (hr : r = true ↔ p) (h : ¬ p) : r = false := by
  cases r
  · rfl
  · exact absurd (hr.mp rfl) h

theorem formed_any (s : ByteArray) (w : World) (h : s.size ≤ 1000) (r : Bool) (hr : r = true ↔ GoodS s.data.toList) :
    Calls Try.prog 43 #[.string s] w fun e w' => e = .returned (.bool r) ∧ w = w' := by
  have tl : s.toList = s.data.toList := ByteArray.toList_eq s
  have len : s.data.toList.length = s.size := by simp
  obtain ⟨L, hL⟩ : ∃ L, s.data.toList = L := ⟨_, rfl⟩
  rw [hL] at tl len hr
  have HL := Lib.hid hL
  have HLen := Lib.hid len
  have HRr := Lib.hid hr
  clear hL hr
  by_cases h0 : s.size = 0
  · have e0 : s.toList = [] := by rw [tl]; exact List.length_eq_zero_iff.mp (by omega)
    obtain rfl := bool_of_not HRr.out (fun g => g.1 (tl ▸ e0))
    clear tl len
    go_enter Try.func43, Try.ntmps43
    go_wp2
    go_ret
    exact ⟨rfl, rfl⟩
  · have e3 : 0 < s.size := by omega
    have e1 : ¬ s.toList = [] := by rw [tl]; intro e; rw [e] at len; simp at len; omega
    have e2 : s.toList.isEmpty = false := by simpa using e1
    have hhd : L.head? = some s[0] := by
      have := bytes_drop (s := s) e3
      rw [List.drop_zero, HL.out] at this
      rw [this]; rfl
    by_cases hld : s[0] = 48 ∧ 1 < s.size
    · obtain rfl := bool_of_not HRr.out (fun g => g.2.2 ⟨by rw [hhd, hld.1], by omega⟩)
      have t1 : ((s[0].toNat : Int) == 48) = true := by rw [hld.1]; rfl
      have t2 : decide (1 < (s.size : Int)) = true := by have := hld.2; simp; omega
      clear tl len hhd hld
      go_enter Try.func43, Try.ntmps43
      go_wp2
      go_ret
      exact ⟨rfl, rfl⟩
    · have HH := Lib.hid (show ¬ (L.head? = some 48 ∧ 1 < L.length) from fun g => hld ⟨by rw [hhd] at g; exact Option.some.inj g.1, by omega⟩)
      have t0 : (((s[0].toNat : Int) == 48) = false) ∨ (((s[0].toNat : Int) == 48) = true ∧ decide (1 < (s.size : Int)) = false) := by
        by_cases g : s[0] = 48
        · exact .inr ⟨by rw [g]; rfl, by have : ¬ 1 < s.size := fun k => hld ⟨g, k⟩; simp; omega⟩
        · refine .inl ?_
          rw [beq_eq_false_iff_ne]
          intro e
          exact g (UInt8.toNat_inj.mp (by have : (48 : UInt8).toNat = 48 := rfl; omega))
      have NE := Lib.hid (show L ≠ [] from tl ▸ e1)
      clear tl len hhd hld
      rcases t0 with t0 | ⟨t0, t1⟩
      all_goals
        go_enter Try.func43, Try.ntmps43
        go_wp2
        go_loop [18] (fun v => ∃ (i : Nat), v = .int .i64 i ∧ i ≤ s.size ∧ (∀ x ∈ L.take i, 48 ≤ x.toNat ∧ x.toNat ≤ 57)) (fun v => s.size - (intOf v).toNat)
        case atStart => exact ⟨0, rfl, by omega, (by intro x hx; simp at hx)⟩
        case round =>
          obtain ⟨i, rfl, hj, hgood⟩ := hrel
          have HG := Lib.hid hgood
          clear hgood
          by_cases hi1 : i < s.size
          · have b1 : decide ((i : Int) < (s.size : Int)) = true := by simp; omega
            have hdr := take_bytes hi1
            rw [HL.out] at hdr
            by_cases hb : 48 ≤ s[i].toNat ∧ s[i].toNat ≤ 57
            · obtain ⟨b1, b2⟩ := hb
              have t3 : decide ((s[i].toNat : Int) < 48) = false := by simp; omega
              have t4 : decide (57 < (s[i].toNat : Int)) = false := by simp; omega
              have HDr := Lib.hid hdr
              clear hdr
              go_wp2
              go_round
              case rel =>
                refine ⟨i + 1, by go_num, by omega, ?_⟩
                rw [HDr.out]
                intro x hx
                rw [List.mem_append, List.mem_singleton] at hx
                rcases hx with hx | rfl
                · exact HG.out x hx
                · exact ⟨b1, b2⟩
              case measure => simp [intOf]; omega
            · obtain rfl := bool_of_not HRr.out (fun g => hb (g.2.1 s[i] (List.mem_of_mem_take (i := i + 1) (by rw [hdr]; simp))))
              clear hdr
              by_cases hlo : s[i].toNat < 48
              · have t3 : decide ((s[i].toNat : Int) < 48) = true := by simp; omega
                clear hb
                go_wp2
                go_ret
                exact ⟨rfl, rfl⟩
              · have t3 : decide ((s[i].toNat : Int) < 48) = false := by simp; omega
                have t4 : decide (57 < (s[i].toNat : Int)) = true := by simp; omega
                clear hb
                go_wp2
                go_ret
                exact ⟨rfl, rfl⟩
          · have b1 : decide ((i : Int) < (s.size : Int)) = false := by simp; omega
            obtain rfl : r = true := HRr.out.mpr ⟨NE.out, (by have := HG.out; rw [List.take_of_length_le (by rw [HLen.out]; omega)] at this; exact this), HH.out⟩
            go_wp2
            go_ret
            exact ⟨rfl, rfl⟩

theorem numL_append (x y : List UInt8) : numL (x ++ y) = numL y ++ numL x := by simp [numL]
theorem numL_len (x : List UInt8) : (numL x).length = x.length := by simp [numL]

theorem read_any (s : ByteArray) (w : World) (h : s.size ≤ 9) (hg : ∀ x ∈ s.data.toList, 48 ≤ x.toNat ∧ x.toNat ≤ 57) :
    Calls Try.prog 44 #[.string s] w fun e w' => e = .returned (.tuple #[.int .u64 (10 ^ s.size), .int .u64 (val 10 (numL s.data.toList))]) ∧ w = w' := by
  have len : s.data.toList.length = s.size := by simp
  obtain ⟨L, hL⟩ : ∃ L, s.data.toList = L := ⟨_, rfl⟩
  rw [hL] at len hg ⊢
  have HL := Lib.hid hL
  have HLen := Lib.hid len
  have HG := Lib.hid hg
  clear hL hg len
  go_enter Try.func44, Try.ntmps44
  go_wp2
  go_loop [2, 3, 7] (fun u v k => ∃ (i : Nat) (z p : Int), k = .int .i64 i ∧ i ≤ s.size ∧ u = .int .u64 z ∧ v = .int .u64 p ∧ z = 10 ^ i ∧ p = val 10 (numL (L.take i))) (fun _ _ k => s.size - (intOf k).toNat)
  case atStart => exact ⟨0, 1, 0, rfl, by omega, rfl, rfl, by simp, by simp [numL, val]⟩
  case round =>
    obtain ⟨i, z, p, rfl, hi, rfl, rfl, hz, hp⟩ := hrel
    have HZ := Lib.hid hz
    have HP := Lib.hid hp
    have z1 : 1 ≤ z ∧ z ≤ 1000000000 := by
      rw [hz]
      have h1 := ipow_le (B := 10) (by omega) (show i ≤ 9 by omega)
      have h2 := ipow_pos (B := 10) (by omega) i
      rw [show (10 : Int) ^ 9 = 1000000000 by decide +kernel] at h1
      omega
    have p1 : 0 ≤ p ∧ p < 1000000000 := by
      have hd : Digs 10 (numL (L.take i)) := numL_digs (fun c hc => HG.out c (List.mem_of_mem_take hc))
      have h0 := val_nonneg (by omega) hd
      have h1 := val_lt (by omega) hd
      rw [numL_len] at h1
      have h2 := ipow_le (B := 10) (by omega) (show (L.take i).length ≤ 9 by rw [List.length_take]; omega)
      rw [show (10 : Int) ^ 9 = 1000000000 by decide +kernel] at h2
      rw [hp]
      omega
    obtain ⟨z1, z2⟩ := z1
    obtain ⟨p1, p2⟩ := p1
    clear hz hp
    by_cases hi1 : i < s.size
    · have b1 : decide ((i : Int) < (s.size : Int)) = true := by simp; omega
      have hdr := take_bytes hi1
      rw [HL.out] at hdr
      obtain ⟨b2, b3⟩ := HG.out s[i] (List.mem_of_mem_take (i := i + 1) (by rw [hdr]; simp))
      have VN := Lib.hid (show p * 10 + ((s[i].toNat : Int) - 48) = val 10 (numL (L.take (i + 1))) by
        rw [hdr, numL_append, HP.out, val_append]
        simp [numL, val, byteD]; omega)
      clear hdr
      have ZN := Lib.hid (show z * 10 = 10 ^ (i + 1) by rw [Int.pow_succ, HZ.out])
      go_wp2
      go_round
      case rel => exact ⟨i + 1, _, _, by go_num, by omega, rfl, rfl, ZN.out, VN.out⟩
      case measure => simp [intOf]; omega
    · obtain rfl : i = s.size := by omega
      have b1 : decide ((s.size : Int) < (s.size : Int)) = false := by simp
      have VE := Lib.hid (show p = val 10 (numL L) by rw [HP.out, List.take_of_length_le (by rw [HLen.out]; omega)])
      go_wp2
      go_ret2
      exact ⟨ret_two HZ.out VE.out, rfl⟩
end Go.Proofs.Ythelebgalihngaa
