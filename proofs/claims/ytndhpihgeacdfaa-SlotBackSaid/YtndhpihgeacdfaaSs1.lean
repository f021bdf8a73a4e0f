/-
  Rows of slots in memory; the document's Row, Quanta and Moves (regattaref16): contracts.
-/
import Derived.Test.YtndhpihgeacdfaaSs0
namespace Go.Proofs.Ytndhpihgeacdfaa
open Go.RowKit

/-! ### in memory -/
def skc (s : Sk) (v : Option Addr × Nat × Nat) : List Value := [.int .i64 s.tm, .slice v.1 v.2.1 v.2.2]
theorem wideK : ∀ (l : List Sk) (vs : List (Option Addr × Nat × Nat)), Wide 2 (List.zipWith skc l vs)
  | [], _ => by simp [Wide]
  | _ :: _, [] => by simp [Wide]
  | s :: l, v :: vs => fun r hr => by
    rw [List.zipWith_cons_cons] at hr
    rcases List.mem_cons.mp hr with e | e
    · rw [e]; rfl
    · exact wideK l vs r e
/-- the slice that leads to 'a' reads as these slots -/
def RowK (W : World) (a : Option Addr) (len cap : Nat) (l : List Sk) : Prop :=
  ∃ vs : List (Option Addr × Nat × Nat), vs.length = l.length ∧ RowF W a len cap 2 (List.zipWith skc l vs) ∧ ∀ (i : Nat) (s : Sk) (v : Option Addr × Nat × Nat), l[i]? = some s → vs[i]? = some v → RowU W v.1 v.2.1 v.2.2 s.runs
theorem RowK.len {W : World} {a : Option Addr} {len cap : Nat} {l : List Sk} (h : RowK W a len cap l) : l.length = len := by
  obtain ⟨vs, h1, h2, _⟩ := h
  have := h2.1
  rw [List.length_zipWith, h1] at this
  omega
theorem RowK.cap_le {W : World} {a : Option Addr} {len cap : Nat} {l : List Sk} (h : RowK W a len cap l) : len ≤ cap ∧ cap ≤ 9223372036854775807 := by
  obtain ⟨vs, _, h2, _⟩ := h
  exact h2.cap_le
theorem RowK.below {W W' : World} {a : Option Addr} {len cap : Nat} {l : List Sk} (h : RowK W a len cap l) (hb : Below W.heap.size W W') : RowK W' a len cap l := by
  obtain ⟨vs, h1, h2, h3⟩ := h
  exact ⟨vs, h1, RowF.below (wideK l vs) h2 hb, fun i s v hs hv => (h3 i s v hs hv).below hb⟩
theorem RowK.nil {W : World} : RowK W none 0 0 [] := ⟨[], rfl, RowF.nil, fun i s v h => by simp at h⟩
theorem RowK.take {W : World} {a : Option Addr} {len cap m : Nat} {l : List Sk} (h : RowK W a len cap l) (hm : m ≤ len) : RowK W a m cap (l.take m) := by
  obtain ⟨vs, h1, h2, h3⟩ := h
  refine ⟨vs.take m, by rw [List.length_take, List.length_take, h1], by rw [← List.take_zipWith]; exact RowF.take h2 hm, fun i s v hs hv => ?_⟩
  have k1 := lt_of_get hs
  rw [List.length_take] at k1
  rw [List.getElem?_take_of_lt (by omega)] at hs hv
  exact h3 i s v hs hv
theorem RowK.at {W : World} {a : Option Addr} {len cap : Nat} {l : List Sk} (h : RowK W a len cap l) {i : Nat} {s : Sk} (he : l[i]? = some s) :
    ∃ b off ao lo co, a = some ⟨b, off, none⟩ ∧ W.cell? ⟨b, off + i * 2, none⟩ = some (.int .i64 s.tm) ∧ W.cell? ⟨b, off + i * 2 + 1, none⟩ = some (.slice ao lo co) ∧ RowU W ao lo co s.runs := by
  have hl := h.len
  obtain ⟨vs, h1, h2, h3⟩ := h
  have hi := lt_of_get he
  obtain ⟨b, off, ha, hc⟩ := h2.2.2.2.2 i (by omega)
  have hv : vs[i]? = some vs[i] := List.getElem?_eq_getElem (by omega)
  have hg : (List.zipWith skc l vs).getD i [] = skc s vs[i] := by
    rw [List.getD_eq_getElem?_getD, List.getElem?_zipWith, he, hv]; rfl
  rw [hg] at hc
  exact ⟨b, off, _, _, _, ha, hc 0 (by omega), hc 1 (by omega), h3 i s _ he hv⟩
/-- all runs, in order -/
def allR (l : List Sk) : List Ru := l.flatMap Sk.runs
theorem all_snoc (l : List Sk) (s : Sk) : allR (l ++ [s]) = allR l ++ s.runs := by unfold allR; simp
structure SmallK (l : List Sk) : Prop where
  a : l.length ≤ 4096
  b : ∀ s ∈ l, s.runs.length ≤ 4096
theorem SmallK.all : ∀ {l : List Sk}, (∀ s ∈ l, s.runs.length ≤ 4096) → (allR l).length ≤ 4096 * l.length
  | [], _ => by simp [allR]
  | s :: l, h => by
    have h1 := h s List.mem_cons_self
    have h2 := SmallK.all (l := l) fun x hx => h x (List.mem_cons_of_mem _ hx)
    have e : allR (s :: l) = s.runs ++ allR l := by unfold allR; simp
    rw [e, List.length_append, List.length_cons]
    omega
theorem SmallK.pre {l : List Sk} (h : SmallK l) {i : Nat} {s : Sk} (hs : l[i]? = some s) (k : Nat) : (allR (l.take i) ++ s.runs.take k).length ≤ 20000000 := by
  have h1 := SmallK.all (l := l.take i) fun x hx => h.b x (List.mem_of_mem_take hx)
  have h2 := h.b s (List.mem_of_getElem? hs)
  have h3 := h.a
  rw [List.length_take] at h1
  rw [List.length_append, List.length_take]
  omega
theorem SmallK.pre0 {l : List Sk} (h : SmallK l) (i : Nat) : (allR (l.take i)).length ≤ 20000000 := by
  have h1 := SmallK.all (l := l.take i) fun x hx => h.b x (List.mem_of_mem_take hx)
  have h3 := h.a
  rw [List.length_take] at h1
  omega
/-! ### Quanta -/
def quU (l : List Ru) (id : Int) : Nat := l.countP fun r => decide (r.id = id)
theorem qu_snoc (l : List Ru) (r : Ru) (id : Int) : quU (l ++ [r]) id = quU l id + if r.id = id then 1 else 0 := by
  unfold quU
  rw [List.countP_append]
  by_cases h : r.id = id <;> simp [h]
theorem qu_le (l : List Ru) (id : Int) : quU l id ≤ l.length := List.countP_le_length
set_option maxRecDepth 20000 in
set_option maxHeartbeats 4000000 in
theorem r16quanta_any (a : Option Addr) (len cap : Nat) (l : List Sk) (id : Int) (w : World) (h : RowK w a len cap l) (hs : SmallK l) :
    Calls Try.prog 24 #[.slice a len cap, .int .i64 id] w fun e w' => e = .returned (.int .i64 (quU (allR l) id)) ∧ w = w' := by
  have H := Lib.hid h
  have LN := Lib.hid h.len
  have HS := Lib.hid hs
  have len4 : len ≤ 4096 := by rw [← h.len]; exact hs.a
  clear h hs
  go_enter Try.func24, Try.ntmps24
  go_wp2
  go_loopw [5, 6] (fun v u wr => ∃ i : Nat, u = .int .i64 i ∧ i ≤ len ∧ v = .int .i64 (quU (allR (l.take i)) id) ∧ w = wr) (fun _ u _ => len - (intOf u).toNat)
  case atStart => exact ⟨0, rfl, by omega, by simp [allR, quU], rfl⟩
  case round =>
    obtain ⟨i, rfl, i1, rfl, rfl⟩ := hrel
    by_cases go : i < len
    · have b1 : decide ((i : Int) < (len : Int)) = true := by simp; omega
      have b1' : decide (i < len) = true := by simp; omega
      obtain ⟨s, hsi, hts⟩ := get_of (l := l) (i := i) (by rw [LN.out]; exact go)
      have TS := Lib.hid (show allR (l.take (i + 1)) = allR (l.take i) ++ s.runs by rw [hts, all_snoc])
      have PR := Lib.hid (HS.out.pre hsi)
      have RL := Lib.hid (HS.out.b s (List.mem_of_getElem? hsi))
      obtain ⟨ba, oa, ao, lo, co, rfl, x0, x1, hu⟩ := H.out.at hsi
      have HU := Lib.hid hu
      have LU := Lib.hid hu.len
      have i3 : (i : Int) < (len : Int) := by omega
      have i0 : 0 ≤ (i : Int) := by omega
      have lo4 : lo ≤ 4096 := by rw [← hu.len]; exact RL.out
      obtain ⟨rs, hrs⟩ : ∃ rs, s.runs = rs := ⟨_, rfl⟩
      rw [hrs] at TS PR HU LU
      obtain ⟨P, hP⟩ : ∃ P, allR (l.take i) = P := ⟨_, rfl⟩
      rw [hP] at TS PR ⊢
      clear hsi hts hu hrs hP x0
      go_wp2
      clear b1 b1'
      go_loopw [5, 7] (fun v u wx => ∃ k : Nat, u = .int .i64 k ∧ k ≤ lo ∧ v = .int .i64 (quU (P ++ rs.take k) id) ∧ w = wx) (fun _ u _ => lo - (intOf u).toNat)
      case atStart => exact ⟨0, rfl, by omega, by simp, rfl⟩
      case round =>
        obtain ⟨k, rfl, k1, rfl, rfl⟩ := hrel
        have bd := qu_le (P ++ rs.take k) id
        have pr := PR.out k
        by_cases go2 : k < lo
        · have d1 : decide ((k : Int) < (lo : Int)) = true := by simp; omega
          have d1' : decide (k < lo) = true := by simp; omega
          obtain ⟨r, hr, htr⟩ := get_of (l := rs) (i := k) (by rw [LU.out]; exact go2)
          have QN := Lib.hid (show quU (P ++ rs.take (k + 1)) id = quU (P ++ rs.take k) id + if r.id = id then 1 else 0 by rw [htr, ← List.append_assoc, qu_snoc])
          obtain ⟨bu, ou, rfl, hat⟩ := HU.out.at hr
          have y0 := hat.c0
          have k3 : (k : Int) < (lo : Int) := by omega
          have k0 : 0 ≤ (k : Int) := by omega
          obtain ⟨rid, hrid⟩ : ∃ q, r.id = q := ⟨_, rfl⟩
          rw [hrid] at y0 QN
          obtain ⟨q, hq⟩ : ∃ q, quU (P ++ rs.take k) id = q := ⟨_, rfl⟩
          rw [hq] at QN bd ⊢
          have bq : q ≤ 20000000 := by omega
          clear hr htr hat hrid hq bd pr
          by_cases e : rid = id
          · have d2 : (rid == id) = true := by simp [e]
            have NX := Lib.hid (show quU (P ++ rs.take (k + 1)) id = q + 1 by rw [QN.out, if_pos e])
            clear e
            go_wp2
            go_roundw
            case rel => exact ⟨k + 1, by go_num, by omega, by rw [NX.out]; go_num, by trivial⟩
            case measure => simp [intOf]; omega
          · have d2 : (rid == id) = false := by simp [e]
            have NX := Lib.hid (show quU (P ++ rs.take (k + 1)) id = q by rw [QN.out, if_neg e, Nat.add_zero])
            clear e
            go_wp2
            go_roundw
            case rel => exact ⟨k + 1, by go_num, by omega, by rw [NX.out], by trivial⟩
            case measure => simp [intOf]; omega
        · have d1 : decide ((k : Int) < (lo : Int)) = false := by simp; omega
          have d1' : decide (k < lo) = false := by simp; omega
          have NX := Lib.hid (show quU (P ++ rs.take k) id = quU (allR (l.take (i + 1))) id by rw [TS.out, List.take_of_length_le (by rw [LU.out]; omega)])
          clear bd pr
          go_wp2
          go_roundw
          case rel => exact ⟨i + 1, by go_num, by omega, by rw [NX.out], by trivial⟩
          case measure => simp [intOf]; omega
    · have b1 : decide ((i : Int) < (len : Int)) = false := by simp; omega
      have b1' : decide (i < len) = false := by simp; omega
      have e : l.take i = l := List.take_of_length_le (by rw [LN.out]; omega)
      rw [e]
      clear e
      go_wp2
      go_ret
      exact ⟨rfl, rfl⟩
/-! ### Moves -/
def mvStep (id : Int) (st : Nat × Option Int) (r : Ru) : Nat × Option Int :=
  if r.id = id then (st.1 + (match st.2 with | some c => if r.core = c then 0 else 1 | none => 0), some r.core) else st
def mvU (l : List Ru) (id : Int) : Nat × Option Int := l.foldl (mvStep id) (0, none)
theorem mv_snoc (l : List Ru) (r : Ru) (id : Int) : mvU (l ++ [r]) id = mvStep id (mvU l id) r := by unfold mvU; rw [List.foldl_append]; rfl
theorem mv_le : ∀ (l : List Ru) (id : Int) (st : Nat × Option Int), (l.foldl (mvStep id) st).1 ≤ st.1 + l.length
  | [], _, _ => by simp
  | r :: l, id, st => by
    have h := mv_le l id (mvStep id st r)
    have h2 : (mvStep id st r).1 ≤ st.1 + 1 := by
      unfold mvStep
      split
      · cases st.2 with
        | none => simp
        | some c => simp only; split <;> omega
      · omega
    rw [List.foldl_cons, List.length_cons]
    omega
set_option maxRecDepth 20000 in
set_option maxHeartbeats 4000000 in
theorem r16moves_any (a : Option Addr) (len cap : Nat) (l : List Sk) (id : Int) (w : World) (h : RowK w a len cap l) (hs : SmallK l) :
    Calls Try.prog 25 #[.slice a len cap, .int .i64 id] w fun e w' => e = .returned (.int .i64 (mvU (allR l) id).1) ∧ Below w.heap.size w w' := by
  have H := Lib.hid h
  have LN := Lib.hid h.len
  have HS := Lib.hid hs
  have len4 : len ≤ 4096 := by rw [← h.len]; exact hs.a
  clear h hs
  go_enter Try.func25, Try.ntmps25
  go_wp2
  go_loopw [5, 6, 7, 8] (fun v x y u wr => ∃ (i n : Nat) (c : Option Int), u = .int .i64 i ∧ i ≤ len ∧ v = .int .i64 n ∧ x = .int .i64 (c.getD (-1)) ∧ y = .bool c.isSome ∧ mvU (allR (l.take i)) id = (n, c) ∧ Below w.heap.size w wr) (fun _ _ _ u _ => len - (intOf u).toNat)
  case atStart => exact ⟨0, 0, none, rfl, by omega, rfl, rfl, rfl, by simp [allR, mvU], Below.refl _ _⟩
  case round =>
    obtain ⟨i, n, c, rfl, i1, rfl, rfl, rfl, hmv, hb⟩ := hrel
    have MV := Lib.hid hmv
    have B := Lib.hid hb
    clear hmv hb
    by_cases go : i < len
    · have b1 : decide ((i : Int) < (len : Int)) = true := by simp; omega
      have b1' : decide (i < len) = true := by simp; omega
      obtain ⟨s, hsi, hts⟩ := get_of (l := l) (i := i) (by rw [LN.out]; exact go)
      have TS := Lib.hid (show allR (l.take (i + 1)) = allR (l.take i) ++ s.runs by rw [hts, all_snoc])
      have PR := Lib.hid (HS.out.pre hsi)
      have RL := Lib.hid (HS.out.b s (List.mem_of_getElem? hsi))
      obtain ⟨ba, oa, ao, lo, co, rfl, x0, x1, hu⟩ := H.out.at hsi
      have HU := Lib.hid hu
      have LU := Lib.hid hu.len
      have HX := Lib.hid x1
      have x1 := cell_on B.out HX.out
      have i3 : (i : Int) < (len : Int) := by omega
      have i0 : 0 ≤ (i : Int) := by omega
      have lo4 : lo ≤ 4096 := by rw [← hu.len]; exact RL.out
      obtain ⟨rs, hrs⟩ : ∃ rs, s.runs = rs := ⟨_, rfl⟩
      rw [hrs] at TS PR HU LU
      obtain ⟨P, hP⟩ : ∃ P, allR (l.take i) = P := ⟨_, rfl⟩
      rw [hP] at TS PR MV
      clear hsi hts hu hrs hP x0
      go_wp2
      clear b1 b1' x1
      go_loopw [5, 6, 7, 9] (fun v x y u wx => ∃ (k n : Nat) (c : Option Int), u = .int .i64 k ∧ k ≤ lo ∧ v = .int .i64 n ∧ x = .int .i64 (c.getD (-1)) ∧ y = .bool c.isSome ∧ mvU (P ++ rs.take k) id = (n, c) ∧ Below w.heap.size w wx) (fun _ _ _ u _ => lo - (intOf u).toNat)
      case atStart => exact ⟨0, n, c, rfl, by omega, rfl, rfl, rfl, by simpa using MV.out, B.out⟩
      case round =>
        obtain ⟨k, n', c', rfl, k1, rfl, rfl, rfl, hmv, hb⟩ := hrel
        clear B MV
        have MV := Lib.hid hmv
        have B := Lib.hid hb
        have x1 := cell_on hb HX.out
        have pr := PR.out k
        have bd : n' ≤ 20000000 := by have h1 := mv_le (P ++ rs.take k) id (0, none); have h2 : mvU (P ++ rs.take k) id = (n', c') := hmv; unfold mvU at h2; rw [h2] at h1; simp only at h1; omega
        clear hmv hb pr
        by_cases go2 : k < lo
        · have d1 : decide ((k : Int) < (lo : Int)) = true := by simp; omega
          have d1' : decide (k < lo) = true := by simp; omega
          obtain ⟨r, hr, htr⟩ := get_of (l := rs) (i := k) (by rw [LU.out]; exact go2)
          have MN := Lib.hid (show mvU (P ++ rs.take (k + 1)) id = mvStep id (n', c') r by rw [htr, ← List.append_assoc, mv_snoc, MV.out])
          obtain ⟨bu, ou, rfl, hat⟩ := HU.out.at hr
          have XA := Lib.hid (hat.below B.out)
          have y0 := XA.out.c0; have y1 := XA.out.c1; have y2 := XA.out.c2
          have k3 : (k : Int) < (lo : Int) := by omega
          have k0 : 0 ≤ (k : Int) := by omega
          obtain ⟨rid, core, idx⟩ := r
          replace y0 : wr.cell? ⟨bu, ou + k * 3, none⟩ = some (.int .i64 rid) := y0
          replace y1 : wr.cell? ⟨bu, ou + k * 3 + 1, none⟩ = some (.int .i64 core) := y1
          replace y2 : wr.cell? ⟨bu, ou + k * 3 + 2, none⟩ = some (.int .i64 idx) := y2
          obtain ⟨W2, hW2⟩ : ∃ W2, wr.alloc (.cells #[.int .i64 rid, .int .i64 core, .int .i64 idx] 44) = W2 := ⟨_, rfl⟩
          have B2 := Lib.hid (show Below w.heap.size w W2 by rw [← hW2]; exact below_next B.out (wbox _ _))
          have R2 := Lib.hid (show Blk W2 44 wr.heap.size #[.int .i64 rid, .int .i64 core, .int .i64 idx] by rw [← hW2]; exact Blk.new _ _ _)
          have r0 := R2.out.cell 0; have r1 := R2.out.cell 1
          simp at r0 r1
          clear hr htr hat XA
          by_cases e : rid = id
          · have d2 : (rid == id) = true := by simp [e]
            have E := Lib.hid e
            clear e
            cases c' with
            | none =>
              have NX := Lib.hid (show mvU (P ++ rs.take (k + 1)) id = (n', some core) by rw [MN.out]; unfold mvStep; rw [if_pos E.out]; rfl)
              simp only [Option.isSome_none, Option.getD_none]
              go_wp2
              go_roundw
              case rel => exact ⟨k + 1, n', some core, by go_num, by omega, rfl, rfl, rfl, NX.out, B2.out⟩
              case measure => simp [intOf]; omega
            | some cc =>
              simp only [Option.isSome_some, Option.getD_some]
              by_cases e2 : core = cc
              · have d3 : (core != cc) = false := by simp [e2]
                have NX := Lib.hid (show mvU (P ++ rs.take (k + 1)) id = (n', some core) by rw [MN.out]; unfold mvStep; rw [if_pos E.out]; simp [e2])
                clear e2
                go_wp2
                go_roundw
                case rel => exact ⟨k + 1, n', some core, by go_num, by omega, rfl, rfl, rfl, NX.out, B2.out⟩
                case measure => simp [intOf]; omega
              · have d3 : (core != cc) = true := by simp [e2]
                have NX := Lib.hid (show mvU (P ++ rs.take (k + 1)) id = (n' + 1, some core) by rw [MN.out]; unfold mvStep; rw [if_pos E.out]; simp [e2])
                clear e2
                go_wp2
                go_roundw
                case rel => exact ⟨k + 1, n' + 1, some core, by go_num, by omega, by go_num, rfl, rfl, NX.out, B2.out⟩
                case measure => simp [intOf]; omega
          · have d2 : (rid == id) = false := by simp [e]
            have NX := Lib.hid (show mvU (P ++ rs.take (k + 1)) id = (n', c') by rw [MN.out]; unfold mvStep; rw [if_neg e])
            clear e
            go_wp2
            go_roundw
            case rel => exact ⟨k + 1, n', c', by go_num, by omega, rfl, rfl, rfl, NX.out, B2.out⟩
            case measure => simp [intOf]; omega
        · have d1 : decide ((k : Int) < (lo : Int)) = false := by simp; omega
          have d1' : decide (k < lo) = false := by simp; omega
          have NX := Lib.hid (show mvU (allR (l.take (i + 1))) id = (n', c') by rw [TS.out, ← MV.out, List.take_of_length_le (by rw [LU.out]; omega)])
          go_wp2
          go_roundw
          case rel => exact ⟨i + 1, n', c', by go_num, by omega, rfl, rfl, rfl, NX.out, B.out⟩
          case measure => simp [intOf]; omega
    · have b1 : decide ((i : Int) < (len : Int)) = false := by simp; omega
      have b1' : decide (i < len) = false := by simp; omega
      have V := Lib.hid (show mvU (allR l) id = (n, c) by rw [← MV.out, List.take_of_length_le (by rw [LN.out]; omega)])
      go_wp2
      go_ret
      exact ⟨by rw [V.out]; rfl, B.out⟩
end Go.Proofs.Ytndhpihgeacdfaa
