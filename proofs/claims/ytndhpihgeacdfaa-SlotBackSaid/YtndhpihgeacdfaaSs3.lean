/-
  Numbers as bytes; the document's Number (regattaref16): contract.
-/
import Derived.Test.YtndhpihgeacdfaaSs2
import Derived.Laws.IdiomStrings
namespace Go.Proofs.Ytndhpihgeacdfaa
open Go.RowKit

def bt (d : Int) : UInt8 := UInt8.ofNat d.toNat
theorem bt_toNat {x : Int} (h0 : 0 ≤ x) (h1 : x < 256) : ((bt x).toNat : Int) = x := by
  unfold bt
  rw [UInt8.toNat_ofNat']
  omega
/-- a number's bytes, 7 bits in each, the lowest first -/
def num (n : Nat) : List UInt8 := if n < 128 then [bt n] else bt ((n % 128 : Nat) + 128 : Int) :: num (n / 128)
termination_by n
decreasing_by omega
theorem conv_byte {w : World} {g : Nat} {x : Int} (h0 : 0 ≤ x) (h1 : x < 256) (hg : w.heap[g]? = some (.cells #[.int .u8 x] 5 (0, 0))) :
    (convert 30 9 (.slice (some ⟨g, 0, none⟩) 1 1)).run Try.prog w = .ok (.string ⟨[bt x].toArray⟩) w := by
  refine run_convert_bytes_back (P := Try.prog) _ _ _ 5 ⟨g, 0, none⟩ 1 [bt x] Try.underlying30 Try.underlying5 Try.underlying9 (fun j hj => ?_)
  match j, hj with
  | 0, _ =>
    have := cell_of_row w g 0 #[.int .u8 x] 5 (0, 0) hg
    simp [Addr.add, bt_toNat h0 h1]
    simpa using this
theorem cat_bytes (a : UInt8) (l : List UInt8) : (⟨[a].toArray⟩ : ByteArray) ++ ⟨l.toArray⟩ = ⟨(a :: l).toArray⟩ := by
  apply ByteArray.ext
  simp [ByteArray.data_append]
theorem num_len : ∀ n : Nat, (num n).length ≤ n + 1 := by
  intro n
  induction n using Nat.strongRecOn with
  | _ n ih =>
    rw [num]
    split
    · simp
    · have := ih (n / 128) (by omega)
      rw [List.length_cons]
      omega
theorem num_short {n : Nat} : ∀ k : Nat, n < 128 ^ (k + 1) → (num n).length ≤ k + 1 := by
  intro k
  induction k generalizing n with
  | zero => intro h; rw [num, if_pos (by simpa using h)]; simp
  | succ k ih =>
    intro h
    rw [num]
    split
    · simp
    · have := ih (n := n / 128) (by rw [Nat.div_lt_iff_lt_mul (by omega)]; rw [Nat.pow_succ] at h; exact h)
      rw [List.length_cons]
      omega
section
variable {P : Program} {ops : Array Oper} {Q : Exit → Act → World → Prop} {md : Region.Mode} {S : World → Prop}
/-- take number i first: it is wanted -/
theorem takeY {i : Nat} {oi : Oper} {v : Value} {fuel : Nat} {listed : Array Bool} {a : Act} {w : World} (hi : ops[i]? = some oi)
    (hs : Region.noSelect ops = true) (hf : Region.free md ops listed i = true) (hr : (Region.ready md ops listed).contains i = true)
    (hQ : ∀ c a w, Q (.panic c) (a.put oi.dst v) w → Q (.panic c) a w) (hw : Region.wanted oi (yielded ops a.tmps) = true) (hy : ∀ w, S w → (execOp a.eval oi).run P w = .ok (.value v) w) (hS : S w)
    (h : wpAnyH P md ops Q S fuel (listed.setIfInBounds i true) (a.put oi.dst v) w) : wpAnyH P md ops Q S (fuel + 1) listed a w :=
  wpAnyH_take hi hs hf hr hQ (.inl ⟨hw, hy⟩) hS h
/-- .. it is not wanted -/
theorem takeN {i : Nat} {oi : Oper} {fuel : Nat} {listed : Array Bool} {a : Act} {w : World} (hi : ops[i]? = some oi)
    (hs : Region.noSelect ops = true) (hf : Region.free md ops listed i = true) (hr : (Region.ready md ops listed).contains i = true)
    (hQ : ∀ c a w, Q (.panic c) (a.put oi.dst undef) w → Q (.panic c) a w) (hw : Region.wanted oi (yielded ops a.tmps) = false) (hS : S w)
    (h : wpAnyH P md ops Q S fuel (listed.setIfInBounds i true) (a.put oi.dst undef) w) : wpAnyH P md ops Q S (fuel + 1) listed a w :=
  wpAnyH_take hi hs hf hr hQ (.inr ⟨hw, rfl⟩) hS h
end
theorem conv_after {w W5 : World} {x : Int} (h0 : 0 ≤ x) (h1 : x < 256) (hb : Below (w.alloc (.cells #[.int .u8 x] 5)).drew.heap.size (w.alloc (.cells #[.int .u8 x] 5)).drew W5) :
    (convert 30 9 (.slice (some ⟨w.heap.size, 0, none⟩) 1 1)).run Try.prog W5 = .ok (.string ⟨[bt x].toArray⟩) W5 ∧ Below w.heap.size w W5 := by
  have h2 : w.heap.size < (w.alloc (.cells #[.int .u8 x] 5)).drew.heap.size := by
    show w.heap.size < (w.alloc (.cells #[.int .u8 x] 5)).heap.size
    simp
  refine ⟨conv_byte h0 h1 ((hb.block w.heap.size h2).trans (heap_alloc_new w _)), ?_⟩
  exact below_next (wbox w (.cells #[.int .u8 x] 5)) ⟨hb.os, hb.tape, hb.output, hb.size, hb.block⟩
set_option maxRecDepth 20000 in
set_option maxHeartbeats 2000000 in
theorem r16number_any : ∀ (n : Nat) (w : World), n ≤ 9223372036854775807 → Calls Try.prog 27 #[.int .i64 n] w fun e w' => e = .returned (.string ⟨(num n).toArray⟩) ∧ Below w.heap.size w w' := by
  intro n
  induction n using Nat.strongRecOn with
  | _ n ih =>
    intro w hn
    by_cases h : n < 128
    · have b1 : decide ((n : Int) < 128) = true := by simp; omega
      have V := Lib.hid (show num n = [bt n] by rw [num, if_pos h])
      have c1 : IntKind.u8.wrap (n : Int) = (n : Int) := by show (n : Int) % 256 = n; omega
      have hcv := conv_byte (w := w.alloc (.cells #[.int .u8 (n : Int)] 5)) (g := w.heap.size) (x := (n : Int)) (by omega) (by omega) (heap_alloc_new _ _)
      clear ih
      go_enter Try.func27, Try.ntmps27
      go_wp2
      go_ret
      exact ⟨by rw [V.out]; rfl, wbox _ _⟩
    · have b1 : decide ((n : Int) < 128) = false := by simp; omega
      have V := Lib.hid (show num n = bt ((n % 128 : Nat) + 128 : Int) :: num (n / 128) by rw [num, if_neg h])
      have IH := Lib.hid (fun W : World => ih (n / 128) (by omega) W (by omega))
      have q1 : (n : Int) / 128 = ((n / 128 : Nat) : Int) := by omega
      have q2 : (n : Int).tdiv 128 = ((n / 128 : Nat) : Int) := by rw [Int.tdiv_eq_ediv_of_nonneg (by omega)]; omega
      have q3 : (n : Int).tmod 128 = ((n % 128 : Nat) : Int) := by rw [Int.tmod_eq_emod_of_nonneg (by omega)]; omega
      have q4 : (n : Int) % 128 = ((n % 128 : Nat) : Int) := by omega
      obtain ⟨d, hd⟩ : ∃ d, n / 128 = d := ⟨_, rfl⟩
      obtain ⟨r, hr⟩ : ∃ r, n % 128 = r := ⟨_, rfl⟩
      rw [hd] at V IH q1 q2
      rw [hr] at V q3 q4
      have r1 : r < 128 := by omega
      have d1 : d ≤ 9223372036854775807 := by omega
      have w1 : IntKind.i64.wrap ((r : Int) + 128) = (r : Int) + 128 := IntWalk.i64_in _ (by omega)
      have w2 : IntKind.u8.wrap ((r : Int) + 128) = (r : Int) + 128 := by show ((r : Int) + 128) % 256 = _; omega
      have w3 : IntKind.i64.wrap (d : Int) = (d : Int) := IntWalk.i64_in _ (by omega)
      have w4 : IntKind.i64.wrap (r : Int) = (r : Int) := IntWalk.i64_in _ (by omega)
      clear ih hd hr h
      go_enter Try.func27, Try.ntmps27
      go_upto_region 3 with fail
      have NS := Lib.hid (num_short (n := d) 8 (by omega))
      obtain ⟨D, hD⟩ : ∃ D : ByteArray, (⟨[bt ((r : Int) + 128)].toArray⟩ : ByteArray) = D := ⟨_, rfl⟩
      obtain ⟨S, hS⟩ : ∃ S : ByteArray, (⟨(num d).toArray⟩ : ByteArray) = S := ⟨_, rfl⟩
      have s1 : S.size ≤ 9 := by
        rw [← hS]
        show ((num d).toArray).size ≤ 9
        have := NS.out
        simp; omega
      have s2 : D.size ≤ 1 := by rw [← hD]; exact Nat.le_refl _
      have HT := Lib.hid (show D ++ S = ⟨(num n).toArray⟩ by rw [← hS, ← hD, cat_bytes, V.out])
      have HD := Lib.hid hD
      have hA := conv_byte (w := (w.alloc (.cells #[.int .u8 ((r : Int) + 128)] 5)).drew) (g := w.heap.size) (x := (r : Int) + 128) (by omega) (by omega) (heap_alloc_new w _)
      rw [hD] at hA
      rw [hS] at IH
      clear hD hS
      refine wp_region_noPanic ?_
      refine wp_region_held_drew (S := fun w' => True) (by kernel_rfl) (trivial) (fun hHeld => ?_)
      refine' takeY (i := 0) (oi := _) (v := _) ?hin1 (by kernel_rfl) (by kernel_rfl) (by kernel_rfl) (fun _ _ _ h => h) ?hwn1 ?hyn1 hHeld ?restn1
      case hin1 => (simp only [List.getElem?_toArray, List.getElem?_cons_zero]; rfl)
      case hwn1 => rfl
      case hyn1 => (intro w hSw; (try dsimp only at hSw); go_simp; try with_reducible rfl)
      try simp only [Act.put, List.setIfInBounds_toArray, List.set_cons_zero, List.set_cons_succ]
      refine' takeY (i := 1) (oi := _) (v := _) ?hin2 (by kernel_rfl) (by kernel_rfl) (by kernel_rfl) (fun _ _ _ h => h) ?hwn2 ?hyn2 hHeld ?restn2
      case hin2 => (simp only [List.getElem?_toArray, List.getElem?_cons_succ, List.getElem?_cons_zero]; rfl)
      case hwn2 => rfl
      case hyn2 => (intro w hSw; (try dsimp only at hSw); go_simp; try with_reducible rfl)
      try simp only [Act.put, List.setIfInBounds_toArray, List.set_cons_zero, List.set_cons_succ]
      refine' takeY (i := 2) (oi := _) (v := _) ?hin3 (by kernel_rfl) (by kernel_rfl) (by kernel_rfl) (fun _ _ _ h => h) ?hwn3 ?hyn3 hHeld ?restn3
      case hin3 => (simp only [List.getElem?_toArray, List.getElem?_cons_succ, List.getElem?_cons_zero]; rfl)
      case hwn3 => rfl
      case hyn3 => (intro w hSw; (try dsimp only at hSw); go_simp; try with_reducible rfl)
      try simp only [Act.put, List.setIfInBounds_toArray, List.set_cons_zero, List.set_cons_succ]
      refine' takeY (i := 3) (oi := _) (v := _) ?hin4 (by kernel_rfl) (by kernel_rfl) (by kernel_rfl) (fun _ _ _ h => h) ?hwn4 ?hyn4 hHeld ?restn4
      case hin4 => (simp only [List.getElem?_toArray, List.getElem?_cons_succ, List.getElem?_cons_zero]; rfl)
      case hwn4 => rfl
      case hyn4 => (intro w hSw; (try dsimp only at hSw); go_simp; try with_reducible rfl)
      try simp only [Act.put, List.setIfInBounds_toArray, List.set_cons_zero, List.set_cons_succ]
      refine' takeY (i := 6) (oi := _) (v := _) ?hin5 (by kernel_rfl) (by kernel_rfl) (by kernel_rfl) (fun _ _ _ h => h) ?hwn5 ?hyn5 hHeld ?restn5
      case hin5 => (simp only [List.getElem?_toArray, List.getElem?_cons_succ, List.getElem?_cons_zero]; rfl)
      case hwn5 => rfl
      case hyn5 => (intro w hSw; (try dsimp only at hSw); go_simp; try with_reducible rfl)
      try simp only [Act.put, List.setIfInBounds_toArray, List.set_cons_zero, List.set_cons_succ]
      refine' takeY (i := 7) (oi := _) (v := _) ?hin6 (by kernel_rfl) (by kernel_rfl) (by kernel_rfl) (fun _ _ _ h => h) ?hwn6 ?hyn6 hHeld ?restn6
      case hin6 => (simp only [List.getElem?_toArray, List.getElem?_cons_succ, List.getElem?_cons_zero]; rfl)
      case hwn6 => rfl
      case hyn6 => (intro w hSw; (try dsimp only at hSw); go_simp; try with_reducible rfl)
      try simp only [Act.put, List.setIfInBounds_toArray, List.set_cons_zero, List.set_cons_succ]
      refine wpAnyH_ready (rs := [4, 8]) (by kernel_rfl) (by simp) ?_
      refine' AllReadyH.cons (o := _) ?hin8 (fun K hK => ?stepn8) (AllReadyH.cons (o := _) ?hin7 (fun K hK => ?stepn7) (AllReadyH.nil))
      case hin8 => (simp only [List.getElem?_toArray, List.getElem?_cons_succ, List.getElem?_cons_zero]; rfl)
      case hin7 => (simp only [List.getElem?_toArray, List.getElem?_cons_succ, List.getElem?_cons_zero]; rfl)
      case stepn8 =>
        go_simp
        clear hHeld
        refine hK.out _ _ (trivial) (fun hHeld => ?_)
        clear hK K
        try simp only [Act.put, List.setIfInBounds_toArray, List.set_cons_zero, List.set_cons_succ]
        refine wpAnyH_ready (rs := [5, 8]) (by kernel_rfl) (by simp) ?_
        refine' AllReadyH.cons (o := _) ?hin10 (fun K hK => ?stepn10) (AllReadyH.cons (o := _) ?hin9 (fun K hK => ?stepn9) (AllReadyH.nil))
        case hin10 => (simp only [List.getElem?_toArray, List.getElem?_cons_succ, List.getElem?_cons_zero]; rfl)
        case hin9 => (simp only [List.getElem?_toArray, List.getElem?_cons_succ, List.getElem?_cons_zero]; rfl)
        case stepn10 =>
          go_simp
          clear hHeld
          refine hK.out _ _ (trivial) (fun hHeld => ?_)
          clear hK K
          try simp only [Act.put, List.setIfInBounds_toArray, List.set_cons_zero, List.set_cons_succ]
          refine wpAnyH_ready (rs := [8]) (by kernel_rfl) (by simp) ?_
          refine' AllReadyH.cons (o := _) ?hin11 (fun K hK => ?stepn11) (AllReadyH.nil)
          case hin11 => (simp only [List.getElem?_toArray, List.getElem?_cons_succ, List.getElem?_cons_zero]; rfl)
          case stepn11 =>
            go_simp
            (go_at_call 27; ((with_reducible refine (IH.out _).mono ?_)); rintro e w5 ⟨rfl, hb⟩; have hB := conv_after (x := (r : Int) + 128) (by omega) (by omega) hb; obtain ⟨hB1, hB2⟩ := hB; rw [HD.out] at hB1; have BL := Lib.hid hB2; clear hb hB2)
            go_wp2_with fail
            clear hHeld
            refine hK.out _ _ (trivial) (fun hHeld => ?_)
            clear hK K
            try simp only [Act.put, List.setIfInBounds_toArray, List.set_cons_zero, List.set_cons_succ]
            refine wpAnyH_ready (rs := [9]) (by kernel_rfl) (by simp) ?_
            refine' AllReadyH.cons (o := _) ?hin12 (fun K hK => ?stepn12) (AllReadyH.nil)
            case hin12 => (simp only [List.getElem?_toArray, List.getElem?_cons_succ, List.getElem?_cons_zero]; rfl)
            case stepn12 =>
              go_simp
              (skip)
              go_wp2_with fail
              clear hHeld
              refine hK.out _ _ (trivial) (fun hHeld => ?_)
              clear hK K
              try simp only [Act.put, List.setIfInBounds_toArray, List.set_cons_zero, List.set_cons_succ]
              refine' takeY (i := 10) (oi := _) (v := _) ?hin13 (by kernel_rfl) (by kernel_rfl) (by kernel_rfl) (fun _ _ _ h => h) ?hwn13 ?hyn13 hHeld ?restn13
              case hin13 => (simp only [List.getElem?_toArray, List.getElem?_cons_succ, List.getElem?_cons_zero]; rfl)
              case hwn13 => rfl
              case hyn13 => (intro w hSw; (try dsimp only at hSw); go_simp; try with_reducible rfl)
              try simp only [Act.put, List.setIfInBounds_toArray, List.set_cons_zero, List.set_cons_succ]
              refine wpAnyH_done (by kernel_rfl) ?_ _
              refine NoPanic.normal ?_
              go_wp2
              go_ret
              exact ⟨by rw [← HT.out]; rfl, BL.out⟩
        case stepn9 =>
          go_simp
          (go_at_call 27; ((with_reducible refine (IH.out _).mono ?_)); rintro e w5 ⟨rfl, hb⟩; have hB := conv_after (x := (r : Int) + 128) (by omega) (by omega) hb; obtain ⟨hB1, hB2⟩ := hB; rw [HD.out] at hB1; have BL := Lib.hid hB2; clear hb hB2)
          go_wp2_with fail
          clear hHeld
          refine hK.out _ _ (trivial) (fun hHeld => ?_)
          clear hK K
          try simp only [Act.put, List.setIfInBounds_toArray, List.set_cons_zero, List.set_cons_succ]
          refine wpAnyH_ready (rs := [5]) (by kernel_rfl) (by simp) ?_
          refine' AllReadyH.cons (o := _) ?hin14 (fun K hK => ?stepn14) (AllReadyH.nil)
          case hin14 => (simp only [List.getElem?_toArray, List.getElem?_cons_succ, List.getElem?_cons_zero]; rfl)
          case stepn14 =>
            go_simp
            clear hHeld
            refine hK.out _ _ (trivial) (fun hHeld => ?_)
            clear hK K
            try simp only [Act.put, List.setIfInBounds_toArray, List.set_cons_zero, List.set_cons_succ]
            refine wpAnyH_ready (rs := [9]) (by kernel_rfl) (by simp) ?_
            refine' AllReadyH.cons (o := _) ?hin15 (fun K hK => ?stepn15) (AllReadyH.nil)
            case hin15 => (simp only [List.getElem?_toArray, List.getElem?_cons_succ, List.getElem?_cons_zero]; rfl)
            case stepn15 =>
              go_simp
              (skip)
              go_wp2_with fail
              clear hHeld
              refine hK.out _ _ (trivial) (fun hHeld => ?_)
              clear hK K
              try simp only [Act.put, List.setIfInBounds_toArray, List.set_cons_zero, List.set_cons_succ]
              refine' takeY (i := 10) (oi := _) (v := _) ?hin16 (by kernel_rfl) (by kernel_rfl) (by kernel_rfl) (fun _ _ _ h => h) ?hwn16 ?hyn16 hHeld ?restn16
              case hin16 => (simp only [List.getElem?_toArray, List.getElem?_cons_succ, List.getElem?_cons_zero]; rfl)
              case hwn16 => rfl
              case hyn16 => (intro w hSw; (try dsimp only at hSw); go_simp; try with_reducible rfl)
              try simp only [Act.put, List.setIfInBounds_toArray, List.set_cons_zero, List.set_cons_succ]
              refine wpAnyH_done (by kernel_rfl) ?_ _
              refine NoPanic.normal ?_
              go_wp2
              go_ret
              exact ⟨by rw [← HT.out]; rfl, BL.out⟩
      case stepn7 =>
        go_simp
        (go_at_call 27; ((with_reducible refine (IH.out _).mono ?_)); rintro e w5 ⟨rfl, hb⟩; have hC := conv_byte (w := w5.alloc (.cells #[.int .u8 ((r : Int) + 128)] 5)) (g := w5.heap.size) (x := (r : Int) + 128) (by omega) (by omega) (heap_alloc_new w5 _); rw [HD.out] at hC; have BL := Lib.hid (show Below w.heap.size w (w5.alloc (.cells #[.int .u8 ((r : Int) + 128)] 5)) from below_next (show Below w.heap.size w w5 from ⟨hb.os, hb.tape, hb.output, hb.size, hb.block⟩) (wbox w5 _)); clear hb)
        go_wp2_with fail
        clear hHeld
        refine hK.out _ _ (trivial) (fun hHeld => ?_)
        clear hK K
        try simp only [Act.put, List.setIfInBounds_toArray, List.set_cons_zero, List.set_cons_succ]
        refine wpAnyH_ready (rs := [4]) (by kernel_rfl) (by simp) ?_
        refine' AllReadyH.cons (o := _) ?hin17 (fun K hK => ?stepn17) (AllReadyH.nil)
        case hin17 => (simp only [List.getElem?_toArray, List.getElem?_cons_succ, List.getElem?_cons_zero]; rfl)
        case stepn17 =>
          go_simp
          clear hHeld
          refine hK.out _ _ (trivial) (fun hHeld => ?_)
          clear hK K
          try simp only [Act.put, List.setIfInBounds_toArray, List.set_cons_zero, List.set_cons_succ]
          refine wpAnyH_ready (rs := [5]) (by kernel_rfl) (by simp) ?_
          refine' AllReadyH.cons (o := _) ?hin18 (fun K hK => ?stepn18) (AllReadyH.nil)
          case hin18 => (simp only [List.getElem?_toArray, List.getElem?_cons_succ, List.getElem?_cons_zero]; rfl)
          case stepn18 =>
            go_simp
            clear hHeld
            refine hK.out _ _ (trivial) (fun hHeld => ?_)
            clear hK K
            try simp only [Act.put, List.setIfInBounds_toArray, List.set_cons_zero, List.set_cons_succ]
            refine wpAnyH_ready (rs := [9]) (by kernel_rfl) (by simp) ?_
            refine' AllReadyH.cons (o := _) ?hin19 (fun K hK => ?stepn19) (AllReadyH.nil)
            case hin19 => (simp only [List.getElem?_toArray, List.getElem?_cons_succ, List.getElem?_cons_zero]; rfl)
            case stepn19 =>
              go_simp
              (skip)
              go_wp2_with fail
              clear hHeld
              refine hK.out _ _ (trivial) (fun hHeld => ?_)
              clear hK K
              try simp only [Act.put, List.setIfInBounds_toArray, List.set_cons_zero, List.set_cons_succ]
              refine' takeY (i := 10) (oi := _) (v := _) ?hin20 (by kernel_rfl) (by kernel_rfl) (by kernel_rfl) (fun _ _ _ h => h) ?hwn20 ?hyn20 hHeld ?restn20
              case hin20 => (simp only [List.getElem?_toArray, List.getElem?_cons_succ, List.getElem?_cons_zero]; rfl)
              case hwn20 => rfl
              case hyn20 => (intro w hSw; (try dsimp only at hSw); go_simp; try with_reducible rfl)
              try simp only [Act.put, List.setIfInBounds_toArray, List.set_cons_zero, List.set_cons_succ]
              refine wpAnyH_done (by kernel_rfl) ?_ _
              refine NoPanic.normal ?_
              go_wp2
              go_ret
              exact ⟨by rw [← HT.out]; rfl, BL.out⟩
end Go.Proofs.Ytndhpihgeacdfaa
