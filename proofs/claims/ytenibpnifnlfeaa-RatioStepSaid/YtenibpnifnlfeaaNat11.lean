/-
  What package nat's Text gives back: contract.
-/
import Derived.Test.YtenibpnifnlfeaaNat10
namespace Go.Proofs.Ytenibpnifnlfeaa
open Go.RowKit

def up (d : Int) : Int := 48 + d
theorem Whose.trim {W : World} {base : Nat} {a : Option Addr} {len cap m : Nat} {zs : List Int} (h : Whose W base a len cap zs) (hm : m ≤ len) : Whose W base a m m (zs.take m) := by
  obtain ⟨h0, h1, h2, h3⟩ := h
  refine ⟨by rw [List.length_take, h0]; omega, Nat.le_refl _, by omega, ?_⟩
  rcases h3 with ⟨rfl, rfl⟩ | ⟨g, rfl, h4, h5⟩
  · exact .inl ⟨rfl, by omega⟩
  · exact .inr ⟨g, rfl, h4, h5.take (by omega)⟩
theorem apart_types {W : World} {g base n : Nat} {zs : List Int} {v : Value} {xs : List Value} (hm : Mine W g zs) (ho : W.ownsRow base 5 1 v n xs) : some g ≠ v.ownBlock := by
  intro e
  obtain ⟨cur, h1, _⟩ := hm
  rcases ho.2 with ⟨rfl, _⟩ | ⟨g', cap, cur', rfl, _, h2, _⟩
  · simp [Value.ownBlock] at e
  · simp [Value.ownBlock] at e
    subst e
    rw [h1] at h2
    simp at h2
theorem Whose.grown8 {W W' : World} {base base' n : Nat} {a : Option Addr} {len cap : Nat} {zs : List Int} {v : Value} {xs : List Value} {o : Obj} (h : Whose W base a len cap zs) (ho : W.ownsRow base' 5 1 v n xs) (hg : (W.alloc o).grownBy W' v.ownBlock) : Whose W' base a len cap zs := by
  obtain ⟨h0, h1, h2, h3⟩ := h
  refine ⟨h0, h1, h2, ?_⟩
  rcases h3 with h3 | ⟨g, rfl, h4, h5⟩
  · exact .inl h3
  · exact .inr ⟨g, rfl, h4, (h5.alloc o).grown hg (apart_types h5 ho)⟩
theorem owns_divided {W W' : World} {base base' n : Nat} {a : Option Addr} {len cap : Nat} {zs : List Int} {v : Value} {xs : List Value} (h : Whose W base a len cap zs) (ho : W.ownsRow base' 5 1 v n xs)
    (hg : ∀ row, (∀ g, a = some ⟨g, 0, none⟩ → row = some g) → W.grownBy W' row) : W'.ownsRow base' 5 1 v n xs := by
  obtain ⟨_, _, _, h3⟩ := h
  rcases h3 with ⟨rfl, _⟩ | ⟨g, rfl, h4, h5⟩
  · exact ho.kept (hg none (fun _ e => by cases e)) (by cases hv : v.ownBlock <;> simp)
  · exact ho.kept (hg (some g) (fun _ e => by cases e; rfl)) (.inr (fun e => apart_types h5 ho e.symm))
theorem owns_len {W : World} {base n : Nat} {e : TypeId} {v : Value} {xs : List Value} (h : W.ownsRow base e 1 v n xs) : lenOf v = n := by
  rcases h.2 with ⟨rfl, rfl⟩ | ⟨g, cap, cur, rfl, _⟩ <;> rfl
theorem len_room {bs : List Int} {c m : Int} (hd : Digs 10 bs) (hc : 0 < c) (h : val 10 bs + 10 ^ bs.length * c = m) (hm : m < 10 ^ 500) : bs.length < 500 := by
  rcases Nat.lt_or_ge bs.length 500 with g | g
  · exact g
  · exfalso
    have h1 := ipow_le (B := 10) (by omega) g
    have h2 := val_nonneg (by omega) hd
    have h3 : (10 : Int) ^ bs.length * 1 ≤ 10 ^ bs.length * c := Int.mul_le_mul_of_nonneg_left (by omega) (Int.le_of_lt (ipow_pos (by omega) _))
    omega
theorem piece_step {n : Nat} {q R : Int} (h : n < 9) : q + 10 ^ (9 - n) * R = q % 10 + 10 * (q / 10 + 10 ^ (9 - (n + 1)) * R) := by
  rw [show 9 - n = (9 - (n + 1)) + 1 by omega, Int.pow_succ, Int.mul_add]
  have : (10 : Int) ^ (9 - (n + 1)) * 10 * R = 10 * (10 ^ (9 - (n + 1)) * R) := by rw [Int.mul_comm ((10 : Int) ^ (9 - (n + 1))) 10, Int.mul_assoc]
  omega
theorem piece_lt {n : Nat} {q : Int} (h : n < 9) (hq : q < 10 ^ (9 - n)) : q / 10 < 10 ^ (9 - (n + 1)) := by
  rw [show 9 - n = (9 - (n + 1)) + 1 by omega, Int.pow_succ] at hq
  omega
theorem owns_up {W : World} {base : Nat} {v : Value} {n : Nat} {bs : List Int} {d : Int} (h : W.ownsRow base 5 1 v (n + 1) (((bs.map up).map (Value.int .u8)) ++ [Value.int .u8 (48 + d)])) :
    W.ownsRow base 5 1 v (n + 1) (((bs ++ [d]).map up).map (Value.int .u8)) := by
  rw [List.map_append, List.map_append]; exact h

theorem conv_text {W : World} {bs : List Int} {g L cap : Nat} (src dst : TypeId) (hd : Digs 10 bs) (hl : bs.length = L) (hm : Mine8 W g (bs.map up).reverse) (hs : Try.prog.underlying src = some (.slice 5)) (hdt : Try.prog.underlying dst = some .string) :
    (convert src dst (.slice (some ⟨g, 0, none⟩) L cap)).run Try.prog W = .ok (.string ⟨(bs.reverse.map digB).toArray⟩) W := by
  have e : (bs.reverse.map digB).length = L := by rw [List.length_map, List.length_reverse, hl]
  rw [← e]
  refine run_convert_bytes_back (P := Try.prog) W src dst 5 ⟨g, 0, none⟩ cap (bs.reverse.map digB) hs Try.underlying5 hdt (fun j hj => ?_)
  rw [List.length_map] at hj
  have h1 := hm.cell (i := j) (by rw [List.length_reverse, List.length_map, ← List.length_reverse]; exact hj)
  have h2 : (⟨g, 0, none⟩ : Addr).add j = ⟨g, j, none⟩ := by unfold Addr.add; split <;> simp_all
  rw [h2, h1]
  rw [← List.map_reverse, List.getD_eq_getElem?_getD, List.getElem?_map, List.getElem?_eq_getElem hj, List.getElem_map]
  have h3 := hd _ (List.mem_reverse.mp (List.getElem_mem hj))
  simp only [Option.map_some, Option.getD_some]
  rw [digB_toNat h3.1 h3.2]
  rfl
theorem Try.infoU8 : (Try.prog.info? 5).map (fun i => (i.zero, i.size, i.bytes)) = some (some (.int .u8 0), 1, 1) := by kernel_rfl

theorem nText_any (a : Option Addr) (la ca : Nat) (za : List Int) (m : Int) (dd : List Int) (w : World)
    (ha : Row .u32 w a la ca za) (ia : Is 4294967296 za m) (la5 : la ≤ 50) (id : Is 10 dd m) :
    Calls Try.prog 45 #[.slice a la ca] w fun e w' => e = .returned (.string ⟨(textL dd).toArray⟩) ∧ Below w.heap.size w w' := by
  obtain ⟨i0, hi, hz0, hz1, hz2⟩ := info_parts Try.infoU8
  have HA := Lib.hid ha
  have IA := Lib.hid ia
  have ID := Lib.hid id
  have VA := Lib.hid (lim_lt ia (by rw [ha.len]; exact la5))
  clear ha ia id
  go_enter Try.func45, Try.ntmps45
  go_wp2_with (first
    | (go_at_call 63; refine (clone_any _ _ _ za _ HA.out (by omega)).mono ?_; rintro e w1 ⟨a1, cp1, rfl, hw1, hb1⟩; have HW1 := Lib.hid hw1; have HB1 := Lib.hid hb1; clear hw1 hb1)
    | (go_at_call 52; refine (ncut_any _ _ _ za _ HW1.out.row IA.out.1).mono ?_; rintro e w3 ⟨m1, l1, rfl, hr1, hi1, rfl⟩; rw [IA.out.2.2] at hi1; have HI1 := Lib.hid hi1; clear hr1 hi1))
  go_loopw [3, 4] (fun v u wr => ∃ (bs : List Int) (R : Int) (lr : Nat) (zr : List Int), u = .slice a1 lr lr ∧ Whose wr w.heap.size a1 lr lr zr ∧ Is 4294967296 zr R ∧ wr.ownsRow w.heap.size 5 1 v bs.length ((bs.map up).map (Value.int .u8)) ∧ Digs 10 bs ∧ bs.length ≤ 500 ∧ val 10 bs + 10 ^ bs.length * R = m ∧ (R = 0 → Top bs) ∧ Below w.heap.size w wr) (fun v _ _ => 501 - lenOf v)
  case atStart => exact ⟨[], m, m1, _, rfl, HW1.out.trim l1, HI1.out, World.ownsRow_nil _ _ _ _, Digs.nil, by simp, by simp [val], (fun _ => by simp [Top]), HB1.out⟩
  case round =>
    obtain ⟨bs, R, lr, zr, rfl, hwr, hir, hown, hdg, hbl, hval, htop, hbel⟩ := hrel
    have HWr := Lib.hid hwr
    have HIr := Lib.hid hir
    have HO := Lib.hid hown
    have HDg := Lib.hid hdg
    have HVal := Lib.hid hval
    have HTop := Lib.hid htop
    have HB := Lib.hid hbel
    have LV := Lib.hid (owns_len hown)
    have hsz := hbel.size
    clear hwr hir hown hdg hval htop hbel
    obtain ⟨wc, rfl⟩ : ∃ wc, wc = wr := ⟨_, rfl⟩
    by_cases go : 0 < lr
    · have b1 : decide (0 < lr) = true := by simp; omega
      have HR := Lib.hid (HIr.out.pos (by omega) (by rw [HWr.out.1]; exact go))
      go_wp2_with (first
        | (go_at_call 64; refine (divide_any w.heap.size _ _ _ zr _ _ HWr.out HIr.out.1 (by omega) (by omega)).mono ?_; rintro e w2 ⟨rfl, qs, hq1, hq2, hq3, hq4⟩; have HQ1 := Lib.hid hq1; have HQ2 := Lib.hid hq2; have HQ3 := Lib.hid hq3; have HQ4 := Lib.hid hq4; clear hq1 hq2 hq3 hq4; rw [HIr.out.2.2])
        | (go_at_call 52; refine (ncut_any _ _ _ qs _ HQ3.out.row HQ1.out).mono ?_; rintro e w3 ⟨m2, l2, rfl, hr2, hi2, rfl⟩; rw [HQ2.out, HIr.out.2.2] at hi2; have HI2 := Lib.hid hi2; clear hr2 hi2))
      have O2 := Lib.hid (owns_divided HWr.out HO.out HQ4.out)
      have W2 := Lib.hid (HQ3.out.trim l2)
      have B2 := Lib.hid (grown_fresh HB.out hsz HWr.out.fresh HQ4.out)
      obtain ⟨q0, hq0⟩ : ∃ q0, R % 1000000000 = q0 := ⟨_, rfl⟩
      obtain ⟨R2, hR2⟩ : ∃ R2, R / 1000000000 = R2 := ⟨_, rfl⟩
      have HRp := HR.out
      have q01 : 0 ≤ q0 := by omega
      have q02 : q0 < 1000000000 := by omega
      have r21 : 0 ≤ R2 := by omega
      have E0 := Lib.hid (show R = q0 + 1000000000 * R2 by omega)
      rw [hR2] at HI2
      rw [hq0]
      clear hq0 hR2 HRp
      go_loopw [3, 5, 6] (fun v u k wr => ∃ (n : Nat) (q : Int) (cs : List Int), k = .int .i64 n ∧ n ≤ 9 ∧ u = .int .u32 q ∧ 0 ≤ q ∧ q < 1000000000 ∧ q < 10 ^ (9 - n) ∧ cs.length = bs.length + n ∧ cs.length ≤ 500 ∧ wr.ownsRow w.heap.size 5 1 v cs.length ((cs.map up).map (Value.int .u8)) ∧ Digs 10 cs ∧ val 10 cs + 10 ^ cs.length * (q + 10 ^ (9 - n) * R2) = m ∧ (R2 = 0 → q = 0 → Top cs) ∧ (n = 0 → 0 < R2 + q) ∧ Whose wr w.heap.size a1 m2 m2 (qs.take m2) ∧ Below w.heap.size w wr) (fun _ _ k _ => 9 - (intOf k).toNat)
      case atStart =>
        have h1 := HR.out
        have h2 := E0.out
        refine ⟨0, q0, bs, rfl, by omega, rfl, q01, q02, by rw [show (10 : Int) ^ (9 - 0) = 1000000000 by decide +kernel]; exact q02, rfl, hbl, O2.out, HDg.out, ?_, (fun e1 e2 => by omega), (fun _ => by omega), W2.out, B2.out⟩
        rw [show (10 : Int) ^ (9 - 0) = 1000000000 by decide +kernel, ← h2]; exact HVal.out
      case round =>
        obtain ⟨n, q, cs, rfl, n9, rfl, q1, q2, q3, hcl, hc5, hown3, hcg, hval3, htop3, hst3, hw3, hb3⟩ := hrel
        have Q3 := Lib.hid q3
        have HCl := Lib.hid hcl
        have HO3 := Lib.hid hown3
        have HCg := Lib.hid hcg
        have HV3 := Lib.hid hval3
        have HT3 := Lib.hid htop3
        have HS3 := Lib.hid hst3
        have HW3 := Lib.hid hw3
        have HB3 := Lib.hid hb3
        have LV3 := Lib.hid (owns_len hown3)
        have hsz3 := hb3.size
        clear q3 hcl hown3 hcg hval3 htop3 hst3 hw3 hb3
        by_cases gn : n < 9
        · have b9 : decide ((n : Int) < 9) = true := by simp; omega
          have PQ := Lib.hid (piece_lt gn Q3.out)
          have VN := Lib.hid (small_next (B := 10) (i := cs.length) rfl (piece_step (q := q) (R := R2) gn) HV3.out)
          have go_on : 0 < m2 ∨ 0 < q → cs.length < 500 := fun h => by
            refine len_room HCg.out ?_ HV3.out VA.out.2
            have h1 : 0 ≤ (10 : Int) ^ (9 - n) * R2 := Int.mul_nonneg (Int.le_of_lt (ipow_pos (by omega) _)) r21
            rcases h with h | h
            · have h2 := HI2.out.pos (by omega) (by rw [List.length_take, HQ3.out.1]; omega)
              have h3 := Int.mul_pos (ipow_pos (B := 10) (by omega) (9 - n)) h2
              omega
            · omega
          by_cases gm : 0 < m2
          · have bm : decide (0 < m2) = true := by simp; omega
            have c5 := go_on (.inl gm)
            clear go_on
            have TN := Lib.hid (show R2 = 0 → q / 10 = 0 → Top (cs ++ [q % 10]) from fun e _ => by
              have h2 := HI2.out.pos (by omega) (by rw [List.length_take, HQ3.out.1]; omega)
              omega)
            go_wp2_with (at_builtin; refine wpList_append_own _ rfl _ _ 72 rfl w.heap.size 5 i0 (.int .u8 0) 1 1 Try.underlying72 hi hz0 hz1 hz2 rfl (by decide) _ _ _ rfl (HO3.out.alloc _) ⟨wr.heap.size, 0, none⟩ 1 1 [.int .u8 (48 + q % 10)] rfl rfl (one_new _ _ _) (one_cell _ _) (by unfold maxLen; omega) (by omega) (by simp; omega) ?_; intro v4 w4 hown4 hgrow4 hnil4; have HO4 := Lib.hid hown4; have HG4 := Lib.hid hgrow4; clear hown4 hgrow4 hnil4)
            go_roundw
            case rel => exact ⟨n + 1, q / 10, cs ++ [q % 10], by go_num, by omega, rfl, by omega, by omega, PQ.out, by rw [List.length_append, HCl.out]; simp; omega, by simp; omega, by rw [List.length_append]; exact owns_up HO4.out, HCg.out.snoc ⟨by omega, by omega⟩, by rw [List.length_append]; exact VN.out, TN.out, (fun e => by omega), HW3.out.grown8 HO3.out HG4.out, below_append HB3.out HO3.out HG4.out⟩
            case measure => simp [intOf]; omega
          · have bm : decide (0 < m2) = false := by simp; omega
            by_cases gq : 0 < q
            · have bq : decide (0 < q) = true := by simp; omega
              have c5 := go_on (.inr gq)
              clear go_on
              have TN := Lib.hid (show R2 = 0 → q / 10 = 0 → Top (cs ++ [q % 10]) from fun _ e => top_snoc (by omega))
              go_wp2_with (at_builtin; refine wpList_append_own _ rfl _ _ 72 rfl w.heap.size 5 i0 (.int .u8 0) 1 1 Try.underlying72 hi hz0 hz1 hz2 rfl (by decide) _ _ _ rfl (HO3.out.alloc _) ⟨wr.heap.size, 0, none⟩ 1 1 [.int .u8 (48 + q % 10)] rfl rfl (one_new _ _ _) (one_cell _ _) (by unfold maxLen; omega) (by omega) (by simp; omega) ?_; intro v4 w4 hown4 hgrow4 hnil4; have HO4 := Lib.hid hown4; have HG4 := Lib.hid hgrow4; clear hown4 hgrow4 hnil4)
              go_roundw
              case rel => exact ⟨n + 1, q / 10, cs ++ [q % 10], by go_num, by omega, rfl, by omega, by omega, PQ.out, by rw [List.length_append, HCl.out]; simp; omega, by simp; omega, by rw [List.length_append]; exact owns_up HO4.out, HCg.out.snoc ⟨by omega, by omega⟩, by rw [List.length_append]; exact VN.out, TN.out, (fun e => by omega), HW3.out.grown8 HO3.out HG4.out, below_append HB3.out HO3.out HG4.out⟩
              case measure => simp [intOf]; omega
            · have bq : decide (0 < q) = false := by simp; omega
              clear go_on
              obtain rfl : q = 0 := by omega
              have VE := Lib.hid (show val 10 cs + 10 ^ cs.length * R2 = m by
                have h1 := HV3.out
                have h0 : R2 = 0 := HI2.out.zero_or (by rw [List.length_take]; omega)
                rw [h0] at h1 ⊢
                simp at h1 ⊢
                exact h1)
              go_wp2
              go_roundw
              case rel => exact ⟨cs, R2, m2, qs.take m2, rfl, HW3.out, HI2.out, HO3.out, HCg.out, hc5, VE.out, (fun e => HT3.out e rfl), HB3.out⟩
              case measure =>
                have h1 := LV3.out
                have h2 := LV.out
                have h3 := HCl.out
                have h4 := HS3.out
                have h0 : R2 = 0 := HI2.out.zero_or (by rw [List.length_take]; omega)
                omega
        · obtain rfl : n = 9 := by omega
          obtain rfl : q = 0 := by have := Q3.out; simp at this; omega
          have VE := Lib.hid (show val 10 cs + 10 ^ cs.length * R2 = m by
            have h1 := HV3.out
            rw [show 9 - 9 = 0 from rfl, Int.pow_zero, Int.one_mul, Int.zero_add] at h1
            exact h1)
          go_wp2
          go_roundw
          case rel => exact ⟨cs, R2, m2, qs.take m2, rfl, HW3.out, HI2.out, HO3.out, HCg.out, hc5, VE.out, (fun e => HT3.out e rfl), HB3.out⟩
          case measure =>
            have h1 := LV3.out
            have h2 := LV.out
            have h3 := HCl.out
            omega
    · obtain rfl : lr = 0 := by omega
      obtain rfl : R = 0 := HIr.out.zero_or HWr.out.1
      have ED := Lib.hid (show bs = dd from is_unique (by omega) ⟨HDg.out, HTop.out rfl, by have := HVal.out; simpa using this⟩ ID.out)
      clear HTop
      rcases HO.out.2 with ⟨hv, hn⟩ | ⟨g, cap, cur, hv, hbg, hg, hnc, hcm, hcs, htk⟩
      · subst hv
        have e0 := Lib.hid (List.length_eq_zero_iff.mp hn)
        clear hn
        go_wp2
        go_ret
        exact ⟨by rw [← ED.out, e0.out]; rfl, HB.out⟩
      · subst hv
        have M8 := Lib.hid (mine8_of_owns HO.out)
        have hbL : bs.length ≤ 500 := hbl
        obtain ⟨L, hL⟩ : ∃ L, bs.length = L := ⟨_, rfl⟩
        rw [hL] at hbL ⊢
        have HL := Lib.hid hL
        clear hL hbl hg hnc hcm hcs htk
        by_cases h0 : L = 0
        · subst h0
          have e0 := Lib.hid (List.length_eq_zero_iff.mp HL.out)
          go_wp2
          go_ret
          exact ⟨by rw [← ED.out, e0.out]; rfl, HB.out⟩
        · have n0 : ((L : Int) == 0) = false := by simp; omega
          have et := Lib.hid (show textL dd = dd.reverse.map digB from if_neg (fun e => h0 (by rw [← HL.out, ED.out, e]; rfl)))
          go_wp2_with (go_at_call 65; refine (reverse_any _ _ _ (bs.map up) _ M8.out (by rw [List.length_map]; exact HL.out) (by omega)).mono ?_; rintro e w5 ⟨rfl, hm5, hg5⟩; have HM5 := Lib.hid hm5; have HG5 := Lib.hid hg5; clear hm5 hg5; have hcv := conv_text (cap := cap) 72 9 HDg.out HL.out HM5.out Try.underlying72 Try.underlying9)
          go_ret
          exact ⟨by rw [et.out, ← ED.out, List.map_reverse]; rfl, HB.out.grown HG5.out hsz (fun k hk => by cases hk; exact hbg)⟩
end Go.Proofs.Ytenibpnifnlfeaa
