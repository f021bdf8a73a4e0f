/-
  What the document's own Pick, Rank and Same (regattaref06) and the laws' few give back: contracts.
-/
import Derived.Test.YtkiolkceaibmgaaEn3
namespace Go.Proofs.Ytkiolkceaibmgaa
open Go.RowKit

theorem rank_none {es : List Ent} {id : Int} (h : ∀ x ∈ es, x.id ≠ id) : rankE es id = -1 := by
  unfold rankE
  rw [List.find?_eq_none.mpr (fun x hx => by simp [h x hx])]
theorem rank_found {es : List Ent} {i : Nat} {x : Ent} {id : Int} (hs : es = es.take i ++ x :: es.drop (i + 1)) (h : ∀ y ∈ es.take i, y.id ≠ id) (q : x.id = id) : rankE es id = (es.countP (fun y => lessB y x) : Nat) := by
  have : es.find? (fun y => decide (y.id = id)) = some x := by
    conv => lhs; rw [hs]
    rw [List.find?_append, List.find?_eq_none.mpr (fun y hy => by simp [h y hy])]
    simp [q]
  unfold rankE
  rw [this]

theorem r6pick_any (a : Option Addr) (len cap : Nat) (es : List Ent) (m : Int) (w : World) (h : RowE w a len cap es) (hl : len ≤ 1000) :
    Calls Try.prog 15 #[.slice a len cap, .int .i64 m] w (GivesE w (pickE es m)) := by
  have H := Lib.hid h
  have LN := Lib.hid h.len
  clear h
  by_cases z : m < 1
  · have t1 : decide (m < 1) = true := by simp; omega
    have V := Lib.hid (show pickE es m = [] by unfold pickE; rw [if_pos z])
    go_enter Try.func15, Try.ntmps15
    go_wp2
    go_ret
    exact ⟨_, _, _, rfl, by rw [V.out]; exact RowE.nil, Below.refl _ _, Fresh.none⟩
  · have t1 : decide (m < 1) = false := by simp; omega
    obtain ⟨n, rfl⟩ : ∃ n : Nat, m = (n : Int) := ⟨m.toNat, by omega⟩
    have V := Lib.hid (show pickE es n = (sortE es).take n by unfold pickE; rw [if_neg z]; rfl)
    go_enter Try.func15, Try.ntmps15
    go_wp2_with fail
    refine (r6sort_any a len cap es w H.out hl).mono ?_
    rintro e w1 ⟨ao, lo, co, rfl, hro, hb, hfr⟩
    have RO := Lib.hid hro
    have LO := Lib.hid hro.len
    have ⟨c1, c2⟩ := hro.cap_le
    have B := Lib.hid hb
    have FR := Lib.hid hfr
    clear hro hb hfr
    by_cases g : n < lo
    · have t2 : decide (n < lo) = true := by simp; omega
      have t3 : decide ((n : Int) < (lo : Int)) = true := by simp; omega
      have d1 : (n : Int) ≤ (co : Int) := by omega
      have d2 : 0 ≤ (n : Int) := by omega
      have d3 : n ≤ co := by omega
      obtain ⟨x, hx, _, _⟩ := getE (es := sortE es) (i := 0) (by rw [LO.out]; omega)
      obtain ⟨bo, oo, rfl, _⟩ := RO.out.at hx
      have n0 : ¬ co = 0 := by omega
      clear hx
      go_wp2
      go_ret
      exact ⟨_, _, _, rfl, by rw [V.out]; exact RO.out.take (by omega), B.out, FR.out⟩
    · have t2 : decide (n < lo) = false := by simp; omega
      have t3 : decide ((n : Int) < (lo : Int)) = false := by simp; omega
      go_wp2
      go_ret
      exact ⟨_, _, _, rfl, by rw [V.out, List.take_of_length_le (by rw [LO.out]; omega)]; exact RO.out, B.out, FR.out⟩
set_option maxRecDepth 20000 in
set_option maxHeartbeats 4000000 in
theorem r6rank_any (a : Option Addr) (len cap : Nat) (es : List Ent) (id : Int) (w : World) (h : RowE w a len cap es) (hl : len ≤ 1000) :
    Calls Try.prog 17 #[.slice a len cap, .int .i64 id] w fun e w' => e = .returned (.int .i64 (rankE es id)) ∧ Below w.heap.size w w' := by
  have H := Lib.hid h
  have LN := Lib.hid h.len
  clear h
  go_enter Try.func17, Try.ntmps17
  go_wp2
  go_loopw [5] (fun u wr => ∃ (i : Nat), u = .int .i64 i ∧ i ≤ len ∧ (∀ x ∈ es.take i, x.id ≠ id) ∧ w = wr) (fun u _ => len - (intOf u).toNat)
  case atStart => exact ⟨0, rfl, by omega, by simp, rfl⟩
  case round =>
    obtain ⟨i, rfl, il, hno, rfl⟩ := hrel
    have NO := Lib.hid hno
    clear hno
    by_cases go : i < len
    · have b1 : decide (i < len) = true := by simp; omega
      have b2 : decide ((i : Int) < (len : Int)) = true := by simp; omega
      obtain ⟨x, hx, _, hxs⟩ := getE (es := es) (i := i) (by rw [LN.out]; exact go)
      have XS := Lib.hid hxs
      have TS := Lib.hid (show es.take (i + 1) = es.take i ++ [x] by rw [List.take_add_one, hx]; rfl)
      obtain ⟨bl, ol, rfl, hat⟩ := H.out.at hx
      have XW := Lib.hid hat
      have x0 := hat.c0
      clear hx hat hxs
      have i1 : (i : Int) < (len : Int) := by omega
      have i2 : 0 ≤ (i : Int) := by omega
      by_cases q : x.id = id
      · have t1 : (x.id != id) = false := by simp [q]
        have VR := Lib.hid (rank_found XS.out NO.out q)
        clear q
        go_wp2
        go_loopw [6, 7] (fun v u wr => ∃ (k : Nat), u = .int .i64 k ∧ k ≤ len ∧ v = .int .i64 ((es.take k).countP (fun y => lessB y x) : Nat) ∧ Below w.heap.size w wr) (fun _ u _ => len - (intOf u).toNat)
        case atStart => exact ⟨0, rfl, by omega, rfl, Below.refl _ _⟩
        case round =>
          obtain ⟨k, rfl, kl, rfl, hbel⟩ := hrel
          have B := Lib.hid hbel
          clear hbel
          have cl : (es.take k).countP (fun y => lessB y x) ≤ k := Nat.le_trans List.countP_le_length (by rw [List.length_take]; omega)
          by_cases go' : k < len
          · have b3 : decide (k < len) = true := by simp; omega
            have b4 : decide ((k : Int) < (len : Int)) = true := by simp; omega
            obtain ⟨y, hy, _, _⟩ := getE (es := es) (i := k) (by rw [LN.out]; exact go')
            have TY := Lib.hid (show (es.take (k + 1)).countP (fun y => lessB y x) = (es.take k).countP (fun y => lessB y x) + (if lessB y x then 1 else 0) by rw [List.take_add_one, hy, List.countP_append]; simp [List.countP_cons])
            obtain ⟨c, hc⟩ : ∃ c, (es.take k).countP (fun y => lessB y x) = c := ⟨_, rfl⟩
            rw [hc] at TY cl ⊢
            clear hc
            obtain ⟨bo, oo, hab, hat⟩ := H.out.at hy
            simp only [Option.some.injEq, Addr.mk.injEq, and_true] at hab
            obtain ⟨rfl, rfl⟩ := hab
            have YW := Lib.hid hat
            clear hy hat
            have k1' : (k : Int) < (len : Int) := by omega
            have k2' : 0 ≤ (k : Int) := by omega
            go_upto_region 9 with fail
            have KEPT := Lib.hid (show ∀ w' : World, Below w.heap.size w w' → w'.cell? ⟨bl, ol + k * 6, none⟩ = some (.int .i64 y.id) ∧ w'.cell? ⟨bl, ol + k * 6 + 1, none⟩ = some (.int .i64 y.idx) ∧ w'.cell? ⟨bl, ol + k * 6 + 2, none⟩ = some (.int .i64 y.rel) ∧ w'.cell? ⟨bl, ol + k * 6 + 3, none⟩ = some (.int .i64 y.dl) ∧ w'.cell? ⟨bl, ol + k * 6 + 4, none⟩ = some (.int .i64 y.bit) ∧ w'.cell? ⟨bl, ol + k * 6 + 5, none⟩ = some (.int .i64 y.grp) ∧ w'.cell? ⟨bl, ol + i * 6, none⟩ = some (.int .i64 x.id) ∧ w'.cell? ⟨bl, ol + i * 6 + 1, none⟩ = some (.int .i64 x.idx) ∧ w'.cell? ⟨bl, ol + i * 6 + 2, none⟩ = some (.int .i64 x.rel) ∧ w'.cell? ⟨bl, ol + i * 6 + 3, none⟩ = some (.int .i64 x.dl) ∧ w'.cell? ⟨bl, ol + i * 6 + 4, none⟩ = some (.int .i64 x.bit) ∧ w'.cell? ⟨bl, ol + i * 6 + 5, none⟩ = some (.int .i64 x.grp) from fun w' h => ⟨(YW.out.below h).c0, (YW.out.below h).c1, (YW.out.below h).c2, (YW.out.below h).c3, (YW.out.below h).c4, (YW.out.below h).c5, (XW.out.below h).c0, (XW.out.below h).c1, (XW.out.below h).c2, (XW.out.below h).c3, (XW.out.below h).c4, (XW.out.below h).c5⟩)
            have BL := Lib.hid B.out.drew
            go_region_held3 (fun w' => w'.cell? ⟨bl, ol + k * 6, none⟩ = some (.int .i64 y.id) ∧ w'.cell? ⟨bl, ol + k * 6 + 1, none⟩ = some (.int .i64 y.idx) ∧ w'.cell? ⟨bl, ol + k * 6 + 2, none⟩ = some (.int .i64 y.rel) ∧ w'.cell? ⟨bl, ol + k * 6 + 3, none⟩ = some (.int .i64 y.dl) ∧ w'.cell? ⟨bl, ol + k * 6 + 4, none⟩ = some (.int .i64 y.bit) ∧ w'.cell? ⟨bl, ol + k * 6 + 5, none⟩ = some (.int .i64 y.grp) ∧ w'.cell? ⟨bl, ol + i * 6, none⟩ = some (.int .i64 x.id) ∧ w'.cell? ⟨bl, ol + i * 6 + 1, none⟩ = some (.int .i64 x.idx) ∧ w'.cell? ⟨bl, ol + i * 6 + 2, none⟩ = some (.int .i64 x.rel) ∧ w'.cell? ⟨bl, ol + i * 6 + 3, none⟩ = some (.int .i64 x.dl) ∧ w'.cell? ⟨bl, ol + i * 6 + 4, none⟩ = some (.int .i64 x.bit) ∧ w'.cell? ⟨bl, ol + i * 6 + 5, none⟩ = some (.int .i64 x.grp))
              (exact KEPT.out _ BL.out)
              (first | (go_at_call 19; (with_reducible refine (r6less_any y x _).mono ?_); rintro e w4 ⟨rfl, hb⟩; have BL := Lib.hid (below_next BL.out hb); clear hb))
            all_goals
              obtain ⟨f, hf⟩ : ∃ f, lessB y x = f := ⟨_, rfl⟩
              rw [hf] at TY ⊢
              clear hf
              cases f with
              | true =>
                go_wp2
                go_roundw
                case rel => exact ⟨k + 1, by go_num, by omega, by rw [TY.out]; go_num, BL.out⟩
                case measure => simp [intOf]; omega
              | false =>
                go_wp2
                go_roundw
                case rel => exact ⟨k + 1, by go_num, by omega, by rw [TY.out]; rfl, BL.out⟩
                case measure => simp [intOf]; omega
          have b3 : decide (k < len) = false := by simp; omega
          have b4 : decide ((k : Int) < (len : Int)) = false := by simp; omega
          have EF := Lib.hid (show es.take k = es from List.take_of_length_le (by rw [LN.out]; omega))
          go_wp2
          go_ret
          exact ⟨ret_one (by rw [VR.out, EF.out]), B.out⟩
      · have t1 : (x.id != id) = true := by simp [q]
        have Q := Lib.hid q
        clear q
        go_wp2
        go_roundw
        case rel =>
          refine ⟨i + 1, by go_num, by omega, ?_, by trivial⟩
          rw [TS.out]
          intro z hz
          rcases List.mem_append.mp hz with g | g
          · exact NO.out z g
          · rw [List.mem_singleton.mp g]; exact Q.out
        case measure => simp [intOf]; omega
    · have b1 : decide (i < len) = false := by simp; omega
      have b2 : decide ((i : Int) < (len : Int)) = false := by simp; omega
      have EF := Lib.hid (show es.take i = es from List.take_of_length_le (by rw [LN.out]; omega))
      go_wp2
      go_ret
      exact ⟨ret_one (by rw [rank_none (EF.out ▸ NO.out)]), Below.refl _ _⟩

set_option maxHeartbeats 2000000 in
/-- of two rows that are the same it tells so -/
theorem r6same_yes (a b : Option Addr) (len ca cb : Nat) (es : List Ent) (w : World) (ha : RowE w a len ca es) (hb : RowE w b len cb es) :
    Calls Try.prog 11 #[.slice a len ca, .slice b len cb] w fun e w' => e = .returned (.bool true) ∧ Below w.heap.size w w' := by
  have HA := Lib.hid ha
  have HB := Lib.hid hb
  have LN := Lib.hid ha.len
  have ⟨c1, c2⟩ := ha.cap_le
  clear ha hb
  go_enter Try.func11, Try.ntmps11
  go_wp2
  go_loopw [5] (fun u wr => ∃ (i : Nat), u = .int .i64 i ∧ i ≤ len ∧ Below w.heap.size w wr) (fun u _ => len - (intOf u).toNat)
  case atStart => exact ⟨0, rfl, by omega, Below.refl _ _⟩
  case round =>
    obtain ⟨i, rfl, il, hbel⟩ := hrel
    have B := Lib.hid hbel
    clear hbel
    by_cases go : i < len
    · have b1 : decide (i < len) = true := by simp; omega
      have b2 : decide ((i : Int) < (len : Int)) = true := by simp; omega
      obtain ⟨x, hx, _, _⟩ := getE (es := es) (i := i) (by rw [LN.out]; exact go)
      obtain ⟨bl, ol, rfl, hat⟩ := HA.out.at hx
      obtain ⟨bo, oo, rfl, hbt⟩ := HB.out.at hx
      have XW := Lib.hid hat
      have YW := Lib.hid hbt
      clear hx hat hbt
      have i1 : (i : Int) < (len : Int) := by omega
      have i2 : 0 ≤ (i : Int) := by omega
      go_upto_region 6 with fail
      have KEPT := Lib.hid (show ∀ w' : World, Below w.heap.size w w' → w'.cell? ⟨bl, ol + i * 6, none⟩ = some (.int .i64 x.id) ∧ w'.cell? ⟨bl, ol + i * 6 + 1, none⟩ = some (.int .i64 x.idx) ∧ w'.cell? ⟨bl, ol + i * 6 + 2, none⟩ = some (.int .i64 x.rel) ∧ w'.cell? ⟨bl, ol + i * 6 + 3, none⟩ = some (.int .i64 x.dl) ∧ w'.cell? ⟨bl, ol + i * 6 + 4, none⟩ = some (.int .i64 x.bit) ∧ w'.cell? ⟨bl, ol + i * 6 + 5, none⟩ = some (.int .i64 x.grp) ∧ w'.cell? ⟨bo, oo + i * 6, none⟩ = some (.int .i64 x.id) ∧ w'.cell? ⟨bo, oo + i * 6 + 1, none⟩ = some (.int .i64 x.idx) ∧ w'.cell? ⟨bo, oo + i * 6 + 2, none⟩ = some (.int .i64 x.rel) ∧ w'.cell? ⟨bo, oo + i * 6 + 3, none⟩ = some (.int .i64 x.dl) ∧ w'.cell? ⟨bo, oo + i * 6 + 4, none⟩ = some (.int .i64 x.bit) ∧ w'.cell? ⟨bo, oo + i * 6 + 5, none⟩ = some (.int .i64 x.grp) from fun w' h => ⟨(XW.out.below h).c0, (XW.out.below h).c1, (XW.out.below h).c2, (XW.out.below h).c3, (XW.out.below h).c4, (XW.out.below h).c5, (YW.out.below h).c0, (YW.out.below h).c1, (YW.out.below h).c2, (YW.out.below h).c3, (YW.out.below h).c4, (YW.out.below h).c5⟩)
      have BL := Lib.hid B.out.drew
      go_region_held3 (fun w' => w'.cell? ⟨bl, ol + i * 6, none⟩ = some (.int .i64 x.id) ∧ w'.cell? ⟨bl, ol + i * 6 + 1, none⟩ = some (.int .i64 x.idx) ∧ w'.cell? ⟨bl, ol + i * 6 + 2, none⟩ = some (.int .i64 x.rel) ∧ w'.cell? ⟨bl, ol + i * 6 + 3, none⟩ = some (.int .i64 x.dl) ∧ w'.cell? ⟨bl, ol + i * 6 + 4, none⟩ = some (.int .i64 x.bit) ∧ w'.cell? ⟨bl, ol + i * 6 + 5, none⟩ = some (.int .i64 x.grp) ∧ w'.cell? ⟨bo, oo + i * 6, none⟩ = some (.int .i64 x.id) ∧ w'.cell? ⟨bo, oo + i * 6 + 1, none⟩ = some (.int .i64 x.idx) ∧ w'.cell? ⟨bo, oo + i * 6 + 2, none⟩ = some (.int .i64 x.rel) ∧ w'.cell? ⟨bo, oo + i * 6 + 3, none⟩ = some (.int .i64 x.dl) ∧ w'.cell? ⟨bo, oo + i * 6 + 4, none⟩ = some (.int .i64 x.bit) ∧ w'.cell? ⟨bo, oo + i * 6 + 5, none⟩ = some (.int .i64 x.grp))
        (exact KEPT.out _ BL.out)
        (fail)
      all_goals
        go_wp2
        go_roundw
        case rel => exact ⟨i + 1, by go_num, by omega, BL.out⟩
        case measure => simp [intOf]; omega
    · have b1 : decide (i < len) = false := by simp; omega
      have b2 : decide ((i : Int) < (len : Int)) = false := by simp; omega
      go_wp2
      go_ret
      exact ⟨rfl, B.out⟩

theorem l6few_any (a : Option Addr) (len cap : Nat) (es : List Ent) (w : World) (h : RowE w a len cap es) :
    Calls Try.prog 10 #[.slice a len cap] w fun e w' => ∃ m, e = .returned (.slice a m cap) ∧ RowE w a m cap (es.take 20) ∧ m ≤ 20 ∧ w = w' := by
  have H := Lib.hid h
  have LN := Lib.hid h.len
  have ⟨c1, c2⟩ := h.cap_le
  clear h
  by_cases g : 20 < len
  · have t2 : decide (20 < len) = true := by simp; omega
    have t3 : decide ((20 : Int) < (len : Int)) = true := by simp; omega
    obtain ⟨x, hx, _, _⟩ := getE (es := es) (i := 0) (by rw [LN.out]; omega)
    obtain ⟨bo, oo, rfl, _⟩ := H.out.at hx
    have n0 : ¬ cap = 0 := by omega
    have n1 : (20 : Int) ≤ (cap : Int) := by omega
    have n2 : 20 ≤ cap := by omega
    clear hx
    go_enter Try.func10, Try.ntmps10
    go_wp2
    go_ret
    exact ⟨20, rfl, H.out.take (by omega), by omega, rfl⟩
  · have t2 : decide (20 < len) = false := by simp; omega
    have t3 : decide ((20 : Int) < (len : Int)) = false := by simp; omega
    go_enter Try.func10, Try.ntmps10
    go_wp2
    go_ret
    exact ⟨len, rfl, by rw [List.take_of_length_le (by rw [LN.out]; omega)]; exact H.out, by omega, rfl⟩
end Go.Proofs.Ytkiolkceaibmgaa
