/-
  The walk of the law HeapMin, for a package heap that is as P7.1 and P7.2 say.
-/
import Derived.Test.YtimafmalfmeehaaHi1
import Derived.Test.YtimafmalfmeehaaFlat2
namespace Go.Proofs.Ytimafmalfmeehaa
open Go.RowKit

/-- things by the numbers of a row -/
def numT (zs : List Int) (i : Nat) : List Th := (List.range i).map (fun (j : Nat) => (⟨(j : Int), zs.getD j 0⟩ : Th))
theorem numT_len (zs : List Int) (i : Nat) : (numT zs i).length = i := by unfold numT; simp
theorem numT_snoc (zs : List Int) (i : Nat) : numT zs (i + 1) = numT zs i ++ [⟨(i : Int), zs.getD i 0⟩] := by unfold numT; rw [List.range_succ, List.map_append]; rfl
theorem numT_at (zs : List Int) (i j : Nat) (h : j < i) : (numT zs i)[j]? = some ⟨(j : Int), zs.getD j 0⟩ := by unfold numT; rw [List.getElem?_map, List.getElem?_range h]; rfl
theorem numT_mem {zs : List Int} {i : Nat} {t : Th} (h : t ∈ numT zs i) : ∃ j : Nat, j < i ∧ t = ⟨(j : Int), zs.getD j 0⟩ := by
  unfold numT at h
  rw [List.mem_map] at h
  obtain ⟨j, hj, rfl⟩ := h
  exact ⟨j, List.mem_range.mp hj, rfl⟩
theorem numT_new (zs : List Int) (i : Nat) : placeT (numT zs i) (i : Int) = -1 := place_none (fun t ht => by
  obtain ⟨j, hj, rfl⟩ := numT_mem ht
  simp only
  omega)
theorem numT_place (zs : List Int) (i j : Nat) (h : j < i) : placeT (numT zs i) (j : Int) = (j : Int) := place_found (numT_at zs i j h) rfl (fun s hs => by
  have e : (numT zs i).take j = numT zs j := by
    unfold numT
    rw [← List.map_take, List.take_range, Nat.min_eq_left (by omega)]
  rw [e] at hs
  obtain ⟨l, hl, rfl⟩ := numT_mem hs
  simp only
  omega)
/-- there is one such thing alone -/
theorem min_one {ts : List Th} (h : ts.Pairwise (fun a b => a.id ≠ b.id)) {k l : Nat} {t s : Th} (hk : ts[k]? = some t) (hl : ts[l]? = some s) (mk : MinIn ts ts.length k) (ml : MinIn ts ts.length l) : t = s := by
  obtain ⟨t', ht', ha⟩ := mk
  obtain ⟨s', hs', hb⟩ := ml
  obtain rfl : t = t' := by rw [hk] at ht'; simpa using ht'
  obtain rfl : s = s' := by rw [hl] at hs'; simpa using hs'
  rw [List.take_of_length_le (Nat.le_refl _)] at ha hb
  have h1 := ha s (List.mem_of_getElem? hl)
  have h2 := hb t (List.mem_of_getElem? hk)
  have e : t.id = s.id := by unfold AheadT at h1 h2; omega
  have lt : ∀ {i : Nat} {z : Th}, ts[i]? = some z → ∃ q : i < ts.length, ts[i] = z := fun {i z} hz => by
    rcases Nat.lt_or_ge i ts.length with g | g
    · exact ⟨g, by rw [List.getElem?_eq_getElem g] at hz; simpa using hz⟩
    · rw [List.getElem?_eq_none g] at hz; cases hz
  obtain ⟨q1, e1⟩ := lt hk
  obtain ⟨q2, e2⟩ := lt hl
  rw [List.pairwise_iff_getElem] at h
  rcases Nat.lt_trichotomy k l with g | g | g
  · have := h k l q1 q2 g; rw [e1, e2] at this; exact absurd e this
  · subst g; rw [hk] at hl; simpa using hl
  · have := h l k q2 q1 g; rw [e1, e2] at this; exact absurd e.symm this
theorem Mine7.own {Hp : World → Nat → (Nat → Prop) → List Th → Prop} (ok : HeapOk Hp) {w wr : World} {g : Nat} {ts : List Th} (h : Mine7 Hp w g ts wr) : ts.Pairwise (fun a b => a.id ≠ b.id) := by obtain ⟨_, h, _⟩ := h; exact ok.own h
set_option maxRecDepth 20000 in
set_option maxHeartbeats 4000000 in
theorem hmin_walk {Hp : World → Nat → (Nat → Prop) → List Th → Prop} (ok : HeapOk Hp) (a : Option Addr) (len cap : Nat) (zs : List Int) (w : World) (h : Row .i64 w a len cap zs) : Calls Try.prog 6 #[.slice a len cap] w fun e w' => e = .returned (.bool true) ∧ Below w.heap.size w w' := by
  have OK := Lib.hid ok
  have Z := Lib.hid h
  have zc := h.cap_le
  clear h ok
  go_enter Try.func6, Try.ntmps6
  go_wp2_with fail
  refine (l7awake OK.out _).mono ?_
  rintro e w1 ⟨rfl, hb⟩
  have B := Lib.hid hb
  clear hb
  go_wp2_with fail
  refine (m7new OK.out _ B.out).mono ?_
  rintro e w2 ⟨g, rfl, hm⟩
  have M := Lib.hid hm
  clear hm B
  go_wp2
  go_loopw [5] (fun u wr => ∃ i : Nat, u = .int .i64 i ∧ i ≤ len ∧ i ≤ 40 ∧ Mine7 Hp w g (numT zs i) wr) (fun u _ => len - (intOf u).toNat)
  case atStart => exact ⟨0, rfl, by omega, by omega, M.out⟩
  case round =>
    obtain ⟨i, rfl, il, i40, hm⟩ := hrel
    clear M
    have M := Lib.hid hm
    clear hm
    by_cases d1 : i < len
    · have b1 : decide (i < len) = true := by simp; omega
      have b2 : decide ((i : Int) < (len : Int)) = true := by simp; omega
      by_cases d2 : i < 40
      · have b3 : decide ((i : Int) < 40) = true := by simp; omega
        have b3n : decide (i < 40) = true := by simp; omega
        obtain ⟨ba, oa, ha, hca⟩ := Z.out.cell d1
        subst ha
        obtain ⟨x, hx⟩ : ∃ x, zs.getD i 0 = x := ⟨_, rfl⟩
        rw [hx] at hca
        have xc := hb_cell M.out.below hca
        have NS := Lib.hid (show numT zs (i + 1) = numT zs i ++ [⟨(i : Int), x⟩] by rw [numT_snoc, hx])
        clear hca hx
        have i1 : (i : Int) < (len : Int) := by omega
        have i2 : 0 ≤ (i : Int) := by omega
        go_wp2_with fail
        refine (m7push OK.out g (numT zs i) (i : Int) x M.out (by unfold InR; omega) (by rw [numT_len]; omega)).mono ?_
        rintro e w3 (⟨h, _, _⟩ | ⟨_, rfl, hm⟩)
        · rw [numT_new] at h; omega
        rw [← NS.out] at hm
        have M := Lib.hid hm
        clear hm xc
        go_wp2_with fail
        refine (m7min OK.out g _ M.out (by rw [numT_len]; omega)).mono ?_
        rintro e w4 ⟨h | ⟨k, t, ht, hmin, rfl⟩, hm⟩
        · have := numT_len zs (i + 1); rw [h.1] at this; simp at this
        have M := Lib.hid hm
        clear hm
        go_wp2_with fail
        refine (m7min OK.out g _ M.out (by rw [numT_len]; omega)).mono ?_
        rintro e w5 ⟨h | ⟨k', t', ht', hmin', rfl⟩, hm⟩
        · have := numT_len zs (i + 1); rw [h.1] at this; simp at this
        obtain rfl : t = t' := min_one (Mine7.own OK.out hm) ht ht' hmin hmin'
        have M := Lib.hid hm
        have AH := Lib.hid (show ∀ s ∈ numT zs (i + 1), ¬ AheadT s t from fun s hs => by
          obtain ⟨t', ht', ha⟩ := hmin
          obtain rfl : t = t' := by rw [ht] at ht'; simpa using ht'
          rw [List.take_of_length_le (Nat.le_refl _)] at ha
          exact ha s hs)
        clear hm ht ht' hmin hmin'
        go_wp2_with fail
        refine (m7len OK.out g _ M.out (by rw [numT_len]; omega)).mono ?_
        rintro e w6 ⟨rfl, hm⟩
        rw [numT_len]
        have M := Lib.hid hm
        clear hm
        have u1 : (((i + 1 : Nat) : Int) != (i : Int) + 1) = false := by simp
        go_wp2
        go_loopw [12] (fun u wr => ∃ k : Nat, u = .int .i64 k ∧ k ≤ i + 1 ∧ Mine7 Hp w g (numT zs (i + 1)) wr) (fun u _ => i + 1 - (intOf u).toNat)
        case atStart => exact ⟨0, rfl, by omega, M.out⟩
        case round =>
          obtain ⟨k, rfl, kl, hm⟩ := hrel
          clear M
          have M := Lib.hid hm
          clear hm
          by_cases go' : k ≤ i
          · have b5 : decide (k ≤ i) = true := by simp; omega
            have b6 : decide ((k : Int) ≤ (i : Int)) = true := by simp; omega
            obtain ⟨bk, ok', hak, hck⟩ := Z.out.cell (show k < len by omega)
            simp only [Option.some.injEq, Addr.mk.injEq, and_true] at hak
            obtain ⟨rfl, rfl⟩ := hak
            obtain ⟨z, hz⟩ : ∃ z, zs.getD k 0 = z := ⟨_, rfl⟩
            rw [hz] at hck
            have HC := Lib.hid hck
            have k1 : (k : Int) < (len : Int) := by omega
            have k2 : 0 ≤ (k : Int) := by omega
            have NA := AH.out ⟨(k : Int), z⟩ (by rw [← hz]; exact List.mem_of_getElem? (numT_at zs (i + 1) k (by omega)))
            have HZ := Lib.hid hz
            clear hck hz
            go_wp2_with fail
            refine (m7get OK.out g _ (k : Int) M.out (by unfold InR; omega) (by rw [numT_len]; omega)).mono ?_
            rintro e w7 ⟨h | ⟨k', s, hp, hs, rfl⟩, hm⟩
            · have := numT_place zs (i + 1) k (by omega); rw [this] at h; omega
            rw [numT_place zs (i + 1) k (by omega)] at hp
            obtain rfl : k = k' := by omega
            rw [numT_at zs (i + 1) k (by omega), HZ.out] at hs
            obtain rfl : (⟨(k : Int), z⟩ : Th) = s := by simpa using hs
            have M := Lib.hid hm
            have zc2 := hb_cell hm.below HC.out
            clear hm hp hs
            unfold AheadT m15 at NA
            simp only at NA
            obtain ⟨p, hp⟩ : ∃ p, bits .and .i64 z 15 = p := ⟨_, rfl⟩
            obtain ⟨q, hq⟩ : ∃ q, bits .and .i64 t.x 15 = q := ⟨_, rfl⟩
            rw [hp, hq] at NA
            have u2 : decide (p < q) = false := decide_eq_false (by omega)
            by_cases eq : p = q
            · have u3 : (p == q) = true := by simp [eq]
              have u4 : decide ((k : Int) < t.id) = false := decide_eq_false (by omega)
              clear NA eq
              go_wp2
              go_roundw
              case rel => exact ⟨k + 1, by go_num, by omega, M.out⟩
              case measure => simp [intOf]; omega
            · have u3 : (p == q) = false := by simp [eq]
              clear NA eq
              go_wp2
              go_roundw
              case rel => exact ⟨k + 1, by go_num, by omega, M.out⟩
              case measure => simp [intOf]; omega
          · have b5 : decide (k ≤ i) = false := by simp; omega
            have b6 : decide ((k : Int) ≤ (i : Int)) = false := by simp; omega
            go_wp2
            go_roundw
            case rel => exact ⟨i + 1, by go_num, by omega, by omega, M.out⟩
            case measure => simp [intOf]; omega
      · have b3 : decide ((i : Int) < 40) = false := by simp; omega
        have b3n : decide (i < 40) = false := by simp; omega
        go_wp2
        go_ret
        exact ⟨rfl, M.out.below⟩
    · have b1 : decide (i < len) = false := by simp; omega
      have b2 : decide ((i : Int) < (len : Int)) = false := by simp; omega
      go_wp2
      go_ret
      exact ⟨rfl, M.out.below⟩
end Go.Proofs.Ytimafmalfmeehaa
