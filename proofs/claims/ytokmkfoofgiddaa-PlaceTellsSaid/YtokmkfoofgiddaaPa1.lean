/-
  The document's Moves, in and Same (regattaref15), package place's Moves: contracts.
-/
import Derived.Test.YtokmkfoofgiddaaPa0
namespace Go.Proofs.Ytokmkfoofgiddaa
open Go.RowKit

theorem moves_step {l : List Rn} {cs : List Int} {i : Nat} {r : Rn} {c : Int} (hr : l[i]? = some r) (hc : cs[i]? = some c) : movesR (l.take (i + 1)) (cs.take (i + 1)) = movesR (l.take i) (cs.take i) + if r.last ≠ -1 ∧ r.last ≠ c then 1 else 0 := by
  induction l generalizing cs i with
  | nil => simp at hr
  | cons x l ih =>
    cases cs with
    | nil => simp at hc
    | cons d cs =>
      cases i with
      | zero =>
        simp at hr hc
        subst hr hc
        simp [movesR]
      | succ i =>
        have := ih (cs := cs) (i := i) (by simpa using hr) (by simpa using hc)
        rw [List.take_succ_cons, List.take_succ_cons, movesR, this, List.take_succ_cons, List.take_succ_cons, movesR]
        omega
theorem moves_end : ∀ (l : List Rn) (cs : List Int) (k : Nat), (k = l.length ∨ k = cs.length) → k ≤ l.length → k ≤ cs.length → movesR (l.take k) (cs.take k) = movesR l cs
  | [], cs, k, _, h, _ => by simp at h; subst h; simp [movesR]
  | _ :: _, [], k, _, _, h => by simp at h; subst h; simp [movesR]
  | r :: l, c :: cs, k, h, h1, h2 => by
    cases k with
    | zero => simp at h
    | succ k =>
      rw [List.take_succ_cons, List.take_succ_cons, movesR, movesR, moves_end l cs k (by simpa using h) (by simpa using h1) (by simpa using h2)]
theorem moves_bd (l : List Rn) (cs : List Int) (i : Nat) : movesR (l.take i) (cs.take i) ≤ i := by
  have := moves_le (l.take i) (cs.take i)
  rw [List.length_take] at this
  omega
theorem getI {cs : List Int} {i : Nat} (hi : i < cs.length) : ∃ c, cs[i]? = some c ∧ cs.getD i 0 = c :=
  ⟨cs[i], List.getElem?_eq_getElem hi, by rw [List.getD_eq_getElem?_getD, List.getElem?_eq_getElem hi]; rfl⟩

set_option maxRecDepth 20000 in
set_option maxHeartbeats 2000000 in
theorem r15moves_any (a : Option Addr) (len cap : Nat) (l : List Rn) (b : Option Addr) (lb cb : Nat) (cs : List Int) (w : World) (h : RowR w a len cap l) (g : Row .i64 w b lb cb cs) (hl : len ≤ 1024) :
    Calls Try.prog 22 #[.slice a len cap, .slice b lb cb] w fun e w' => e = .returned (.int .i64 (movesR l cs)) ∧ Below w.heap.size w w' := by
  have H := Lib.hid h
  have G := Lib.hid g
  have LN := Lib.hid h.len
  have LC := Lib.hid g.len
  clear h g
  go_enter Try.func22, Try.ntmps22
  go_wp2
  go_loopw [5, 6] (fun v u wr => ∃ i : Nat, u = .int .i64 i ∧ i ≤ len ∧ i ≤ lb ∧ v = .int .i64 (movesR (l.take i) (cs.take i)) ∧ Below w.heap.size w wr) (fun _ u _ => len - (intOf u).toNat)
  case atStart => exact ⟨0, rfl, by omega, by omega, by simp [movesR], Below.refl _ _⟩
  case round =>
    obtain ⟨i, rfl, i1, i2, rfl, hb⟩ := hrel
    have B := Lib.hid hb
    clear hb
    have hbd := moves_bd l cs i
    have ME := Lib.hid (fun (q : i = len ∨ i = lb) => moves_end l cs i (by rw [LN.out, LC.out]; exact q) (by rw [LN.out]; exact i1) (by rw [LC.out]; exact i2))
    obtain ⟨n, hn⟩ : ∃ n, movesR (l.take i) (cs.take i) = n := ⟨_, rfl⟩
    have HN := Lib.hid hn
    rw [hn] at hbd ME ⊢
    clear hn
    by_cases go1 : i < len
    · have b1 : decide ((i : Int) < (len : Int)) = true := by simp; omega
      have b1' : decide (i < len) = true := by simp; omega
      by_cases go2 : i < lb
      · have b2 : decide ((i : Int) < (lb : Int)) = true := by simp; omega
        have b2' : decide (i < lb) = true := by simp; omega
        obtain ⟨r, hr, _⟩ := getR (l := l) (i := i) (by rw [LN.out]; exact go1)
        obtain ⟨c, hc, hcd⟩ := getI (cs := cs) (i := i) (by rw [LC.out]; exact go2)
        have MS := Lib.hid (moves_step hr hc)
        obtain ⟨ba, oa, rfl, hat⟩ := H.out.at hr
        obtain ⟨bb, ob, rfl, hcell⟩ := G.out.cell go2
        rw [hcd] at hcell
        have XA := Lib.hid (hat.below B.out)
        have x2 := XA.out.c2
        have y := cell_on B.out hcell
        have i3 : (i : Int) < (len : Int) := by omega
        have i4 : (i : Int) < (lb : Int) := by omega
        have i0 : 0 ≤ (i : Int) := by omega
        clear hr hc hat hcell hcd
        have ww : IntKind.i64.wrap ((n : Int) + 1) = n + 1 := IntWalk.i64_in _ (by omega)
        have MN := Lib.hid HN.out
        obtain ⟨z, hz⟩ : ∃ z, r.last = z := ⟨_, rfl⟩
        rw [hz] at x2 MS
        clear hz
        by_cases t1 : z = -1
        · have b3 : (z != -1) = false := by simp [t1]
          have NX := Lib.hid (show movesR (l.take (i + 1)) (cs.take (i + 1)) = n by rw [MS.out, MN.out, if_neg (fun q => q.1 t1), Nat.add_zero])
          clear t1
          go_upto_region 5 with fail
          go_quiet (fail)
          go_wp2
          go_roundw
          case rel => exact ⟨i + 1, by go_num, by omega, by omega, by rw [NX.out], bdN B.out _⟩
          case measure => simp [intOf]; omega
        · have b3 : (z != -1) = true := by simp [t1]
          by_cases t2 : z = c
          · have b4 : (z != c) = false := by simp [t2]
            have NX := Lib.hid (show movesR (l.take (i + 1)) (cs.take (i + 1)) = n by rw [MS.out, MN.out, if_neg (fun q => q.2 t2), Nat.add_zero])
            clear t1 t2
            go_upto_region 5 with fail
            go_quiet (fail)
            go_wp2
            go_roundw
            case rel => exact ⟨i + 1, by go_num, by omega, by omega, by rw [NX.out], bdN B.out _⟩
            case measure => simp [intOf]; omega
          · have b4 : (z != c) = true := by simp [t2]
            have NX := Lib.hid (show movesR (l.take (i + 1)) (cs.take (i + 1)) = n + 1 by rw [MS.out, MN.out, if_pos ⟨t1, t2⟩])
            clear t1 t2
            go_upto_region 5 with fail
            go_quiet (fail)
            go_wp2
            go_roundw
            case rel => exact ⟨i + 1, by go_num, by omega, by omega, by rw [NX.out]; go_num, bdN B.out _⟩
            case measure => simp [intOf]; omega
      · have b2 : decide ((i : Int) < (lb : Int)) = false := by simp; omega
        have b2' : decide (i < lb) = false := by simp; omega
        go_wp2
        go_ret
        exact ⟨ret_one (by rw [← ME.out (.inr (by omega))]), B.out⟩
    · have b1 : decide ((i : Int) < (len : Int)) = false := by simp; omega
      have b1' : decide (i < len) = false := by simp; omega
      go_wp2
      go_ret
      exact ⟨ret_one (by rw [← ME.out (.inl (by omega))]), B.out⟩
/-- is it one of them? -/
def inB (cs : List Int) (c : Int) : Bool := decide (c ∈ cs)
theorem r15in_any (b : Option Addr) (lb cb : Nat) (cs : List Int) (c : Int) (w : World) (g : Row .i64 w b lb cb cs) :
    Calls Try.prog 25 #[.slice b lb cb, .int .i64 c] w fun e w' => e = .returned (.bool (inB cs c)) ∧ w = w' := by
  have G := Lib.hid g
  have LC := Lib.hid g.len
  have ⟨c1, c2⟩ := g.cap_le
  clear g
  go_enter Try.func25, Try.ntmps25
  go_wp2
  go_loopw [5] (fun u wr => ∃ i : Nat, u = .int .i64 i ∧ i ≤ lb ∧ c ∉ cs.take i ∧ w = wr) (fun u _ => lb - (intOf u).toNat)
  case atStart => exact ⟨0, rfl, by omega, by simp, rfl⟩
  case round =>
    obtain ⟨i, rfl, i1, hno, rfl⟩ := hrel
    have NO := Lib.hid hno
    clear hno
    by_cases go : i < lb
    · have b1 : decide ((i : Int) < (lb : Int)) = true := by simp; omega
      have b2 : decide (i < lb) = true := by simp; omega
      obtain ⟨x, hx, hxd⟩ := getI (cs := cs) (i := i) (by rw [LC.out]; exact go)
      obtain ⟨bb, ob, rfl, y⟩ := G.out.cell go
      rw [hxd] at y
      have HX := Lib.hid hx
      have i3 : (i : Int) < (lb : Int) := by omega
      have i0 : 0 ≤ (i : Int) := by omega
      clear hx hxd
      by_cases t : x = c
      · have b3 : (x == c) = true := by simp [t]
        have V := Lib.hid (show inB cs c = true by unfold inB; have := List.mem_of_getElem? HX.out; rw [t] at this; simp [this])
        clear t
        go_wp2
        go_ret
        exact ⟨ret_b V.out.symm, rfl⟩
      · have b3 : (x == c) = false := by simp [t]
        have NX := Lib.hid (show c ∉ cs.take (i + 1) by
          rw [List.take_add_one, HX.out]
          intro hm
          rcases List.mem_append.mp hm with q | q
          · exact NO.out q
          · exact t (show x = c from (by simpa using q : c = x).symm))
        clear t
        go_wp2
        go_roundw
        case rel => exact ⟨i + 1, by go_num, by omega, NX.out, by trivial⟩
        case measure => simp [intOf]; omega
    · have b1 : decide ((i : Int) < (lb : Int)) = false := by simp; omega
      have b2 : decide (i < lb) = false := by simp; omega
      have V := Lib.hid (show inB cs c = false by unfold inB; have := NO.out; rw [List.take_of_length_le (by rw [LC.out]; omega)] at this; simp [this])
      go_wp2
      go_ret
      exact ⟨ret_b V.out.symm, rfl⟩
theorem r15same_any (a : Option Addr) (la ca : Nat) (xs : List Int) (b : Option Addr) (lb cb : Nat) (cs : List Int) (w : World) (h : Row .i64 w a la ca xs) (g : Row .i64 w b lb cb cs) (v : Bool) (hv : decide (xs = cs) = v) :
    Calls Try.prog 19 #[.slice a la ca, .slice b lb cb] w fun e w' => e = .returned (.bool v) ∧ Below w.heap.size w w' := by
  have H := Lib.hid h
  have G := Lib.hid g
  have LA := Lib.hid h.len
  have LC := Lib.hid g.len
  have V := Lib.hid hv
  have ⟨c1, c2⟩ := h.cap_le
  clear h g hv
  by_cases q : la = lb
  · subst q
    have b0 : ((la : Int) != (la : Int)) = false := by simp
    go_enter Try.func19, Try.ntmps19
    go_wp2
    go_loopw [5] (fun u wr => ∃ i : Nat, u = .int .i64 i ∧ i ≤ la ∧ xs.take i = cs.take i ∧ Below w.heap.size w wr) (fun u _ => la - (intOf u).toNat)
    case atStart => exact ⟨0, rfl, by omega, by simp, Below.refl _ _⟩
    case round =>
      obtain ⟨i, rfl, i1, hno, hb⟩ := hrel
      have NO := Lib.hid hno
      have B := Lib.hid hb
      clear hno hb
      by_cases go : i < la
      · have b1 : decide ((i : Int) < (la : Int)) = true := by simp; omega
        have b2 : decide (i < la) = true := by simp; omega
        obtain ⟨x, hx, hxd⟩ := getI (cs := xs) (i := i) (by rw [LA.out]; exact go)
        obtain ⟨z, hz, hzd⟩ := getI (cs := cs) (i := i) (by rw [LC.out]; exact go)
        obtain ⟨ba, oa, rfl, hxc⟩ := H.out.cell go
        obtain ⟨bb, ob, rfl, hzc⟩ := G.out.cell go
        rw [hxd] at hxc
        rw [hzd] at hzc
        have x0 := cell_on B.out hxc
        have z0 := cell_on B.out hzc
        have HX := Lib.hid hx
        have HZ := Lib.hid hz
        have i3 : (i : Int) < (la : Int) := by omega
        have i0 : 0 ≤ (i : Int) := by omega
        clear hx hxd hz hzd hxc hzc
        by_cases t : x = z
        · have b3 : (x != z) = false := by simp [t]
          have NX := Lib.hid (show xs.take (i + 1) = cs.take (i + 1) by rw [List.take_add_one, List.take_add_one, HX.out, HZ.out, NO.out, t])
          clear t
          go_upto_region 6 with fail
          go_quiet (fail)
          go_wp2
          go_roundw
          case rel => exact ⟨i + 1, by go_num, by omega, NX.out, bdN B.out _⟩
          case measure => simp [intOf]; omega
        · have b3 : (x != z) = true := by simp [t]
          have W' := Lib.hid (show v = false by
            rw [← V.out]
            simp
            intro e
            have h1 := HX.out
            rw [e, HZ.out] at h1
            exact t (by simpa using h1.symm))
          clear t
          go_upto_region 6 with fail
          go_quiet (fail)
          go_wp2
          go_ret
          exact ⟨ret_b W'.out.symm, bdN B.out _⟩
      · have b1 : decide ((i : Int) < (la : Int)) = false := by simp; omega
        have b2 : decide (i < la) = false := by simp; omega
        have W' := Lib.hid (show v = true by
          rw [← V.out]
          have := NO.out
          rw [List.take_of_length_le (by rw [LA.out]; omega), List.take_of_length_le (by rw [LC.out]; omega)] at this
          simp [this])
        go_wp2
        go_ret
        exact ⟨ret_b W'.out.symm, B.out⟩
  · have b0 : ((la : Int) != (lb : Int)) = true := by simp; omega
    have W' := Lib.hid (show v = false by
      rw [← V.out]
      simp
      intro e
      have h1 := LA.out
      rw [e, LC.out] at h1
      exact q h1.symm)
    go_enter Try.func19, Try.ntmps19
    go_wp2
    go_ret
    exact ⟨ret_b W'.out.symm, Below.refl _ _⟩
end Go.Proofs.Ytokmkfoofgiddaa
