/-
  A row's bytes; the document's Bytes (regattaref16): contract.
-/
import Derived.Test.YtndhpihgeacdfaaSs3
import Derived.Laws.Concat
namespace Go.Proofs.Ytndhpihgeacdfaa
open Go.RowKit

/-- a number that is not below 0, as bytes -/
def numI (x : Int) : List UInt8 := num x.toNat
/-- runs as bytes, the one ahead being on core c -/
def runsB : Int → List Ru → List UInt8
  | _, [] => []
  | c, r :: rs => numI (r.core - c) ++ numI r.id ++ numI r.idx ++ runsB r.core rs
def slotB (s : Sk) : List UInt8 := num s.runs.length ++ runsB 0 s.runs
def slotsB (l : List Sk) : List UInt8 := l.flatMap slotB
def headAt : List Sk → Int | [] => 0 | s :: _ => s.tm
def bytesL (l : List Sk) : List UInt8 := num l.length ++ numI (headAt l) ++ slotsB l
noncomputable def bytesK (l : List Sk) : List UInt8 := if rowB l 1024 then bytesL l else []
/-- the core of the last one -/
def lastC : Int → List Ru → Int
  | c, [] => c
  | _, r :: rs => lastC r.core rs
theorem runsB_append : ∀ (x y : List Ru) (c : Int), runsB c (x ++ y) = runsB c x ++ runsB (lastC c x) y
  | [], y, c => rfl
  | r :: x, y, c => by rw [List.cons_append, runsB, runsB, runsB_append x y, lastC]; simp
theorem lastC_append : ∀ (x y : List Ru) (c : Int), lastC c (x ++ y) = lastC (lastC c x) y
  | [], y, c => rfl
  | r :: x, y, c => by rw [List.cons_append, lastC, lastC_append x y, lastC]
theorem lastC_ge : ∀ (x : List Ru) (c : Int), 0 ≤ c → (∀ y ∈ x, 0 ≤ y.core) → 0 ≤ lastC c x
  | [], _, h, _ => h
  | r :: x, _, _, h => lastC_ge x r.core (h r List.mem_cons_self) fun y hy => h y (List.mem_cons_of_mem _ hy)
theorem lastC_le : ∀ (x : List Ru) (c q : Int), c ≤ q → (∀ y ∈ x, y.core ≤ q) → lastC c x ≤ q
  | [], _, _, h, _ => h
  | r :: x, _, q, _, h => lastC_le x r.core q (h r List.mem_cons_self) fun y hy => h y (List.mem_cons_of_mem _ hy)
theorem slots_snoc (l : List Sk) (s : Sk) : slotsB (l ++ [s]) = slotsB l ++ slotB s := by unfold slotsB; simp
theorem numI_len {x : Int} (h : x ≤ 1099511627776) : (numI x).length ≤ 6 := num_short 5 (by omega)
theorem runsB_len : ∀ (rs : List Ru) (c : Int), 0 ≤ c → (∀ r ∈ rs, 0 ≤ r.core ∧ r.core ≤ 1024 ∧ r.id ≤ 1023 ∧ r.idx ≤ 1099511627776) → (runsB c rs).length ≤ 18 * rs.length
  | [], _, _, _ => by simp [runsB]
  | r :: rs, c, h0, h => by
    have hr := h r List.mem_cons_self
    have ih := runsB_len rs r.core hr.1 fun x hx => h x (List.mem_cons_of_mem _ hx)
    have a := numI_len (x := r.core - c) (by omega)
    have b := numI_len (x := r.id) (by omega)
    have d := numI_len (x := r.idx) (by omega)
    rw [runsB, List.length_append, List.length_append, List.length_append, List.length_cons]
    omega
theorem slotsB_len : ∀ (l : List Sk) (m : Int), m ≤ 1024 → (∀ s ∈ l, s.runs.length ≤ 4096 ∧ MayS s m) → (slotsB l).length ≤ 80000 * l.length
  | [], _, _, _ => by simp [slotsB]
  | s :: l, m, hm, h => by
    have hs := h s List.mem_cons_self
    have ih := slotsB_len l m hm fun x hx => h x (List.mem_cons_of_mem _ hx)
    have e : slotsB (s :: l) = slotB s ++ slotsB l := by unfold slotsB; simp
    have a : (num s.runs.length).length ≤ 6 := num_short 5 (by omega)
    have b := runsB_len s.runs 0 (by omega) fun r hr => by
      have := hs.2.runs.each r (by rw [List.take_length]; exact hr)
      omega
    have c : (slotB s).length ≤ 80000 := by
      unfold slotB
      rw [List.length_append]
      omega
    rw [e, List.length_append, List.length_cons]
    omega
def BS (l : List UInt8) : ByteArray := ⟨l.toArray⟩
theorem BS_size (l : List UInt8) : (BS l).size = l.length := by show (l.toArray).size = _; simp
theorem BS_add (a b : List UInt8) : BS a ++ BS b = BS (a ++ b) := by
  apply ByteArray.ext
  simp [BS, ByteArray.data_append]
theorem add_run (t : TypeId) (D S : List UInt8) (h : D.length + S.length ≤ 1000000000) : ∀ w : World, (binOp .add t (.string (BS D)) (.string (BS S))).run Try.prog w = .ok (.string (BS (D ++ S))) w := by
  intro w
  rw [← BS_add, binOp_string_add]
  have h1 := BS_size D
  have h2 := BS_size S
  exact run_string_add_sum w _ _ (by omega)
theorem num_any (x : Int) (w : World) (h0 : 0 ≤ x) (h1 : x ≤ 9223372036854775807) : Calls Try.prog 27 #[.int .i64 x] w fun e w' => e = .returned (.string (BS (numI x))) ∧ Below w.heap.size w w' := by
  obtain ⟨n, rfl⟩ := Int.eq_ofNat_of_zero_le h0
  exact r16number_any n w (by omega)
/-- what is written of the first i slots -/
theorem bytes_may {l : List Sk} {m : Int} (h : RowTo l m l.length) : ∀ s ∈ l, MayS s m := fun s hs => by
  obtain ⟨j, hj, e⟩ := List.getElem_of_mem hs
  exact (h j s hj (by rw [List.getElem?_eq_getElem hj, e])).1
set_option maxRecDepth 20000 in
set_option maxHeartbeats 4000000 in
theorem r16bytes_any (a : Option Addr) (len cap : Nat) (l : List Sk) (w : World) (h : RowK w a len cap l) (hs : SmallK l) :
    Calls Try.prog 12 #[.slice a len cap] w fun e w' => e = .returned (.string (BS (bytesK l))) ∧ Below w.heap.size w w' := by
  have H := Lib.hid h
  have LN := Lib.hid h.len
  have HS := Lib.hid hs
  have len4 : len ≤ 4096 := by rw [← h.len]; exact hs.a
  clear h hs
  go_enter Try.func12, Try.ntmps12
  go_wp2_with fail
  refine (r16row_any a len cap l 1024 w H.out).mono ?_
  rintro e w1 ⟨rfl, hb⟩
  have B := Lib.hid hb
  have H1 := Lib.hid (H.out.below hb)
  clear hb
  cases hr : rowB l 1024 with
  | false =>
    have V := Lib.hid (show bytesK l = [] by unfold bytesK; rw [hr]; rfl)
    clear hr
    go_wp2
    go_ret
    exact ⟨by rw [V.out]; rfl, B.out⟩
  | true =>
    have V := Lib.hid (show bytesK l = bytesL l by unfold bytesK; rw [hr]; rfl)
    have RT := Lib.hid (rowB_true.mp hr)
    have MY := Lib.hid (bytes_may (rowB_true.mp hr))
    clear hr
    have HB := Lib.hid (show 0 ≤ headAt l ∧ headAt l ≤ 1099511627776 by
      cases l with
      | nil => simp [headAt]
      | cons s l => have := MY.out s List.mem_cons_self; exact ⟨this.t0, this.t1⟩)
    by_cases z : 0 < len
    · have b1 : decide ((0 : Int) < (len : Int)) = true := by simp; omega
      have b1' : decide (0 < len) = true := by simp; omega
      obtain ⟨s, hs, -⟩ := get_of (l := l) (i := 0) (by rw [LN.out]; exact z)
      obtain ⟨ba, oa, ao, lo, co, rfl, x0, _, _⟩ := H1.out.at hs
      have hh : headAt l = s.tm := by cases l with
        | nil => simp at hs
        | cons y l => simp at hs; rw [← hs]; rfl
      rw [← hh, Nat.zero_mul, Nat.add_zero] at x0
      have j0 : (0 : Int) < (len : Int) := by omega
      clear hs hh
      have NL := Lib.hid (numI_len (x := (len : Int)) (by omega))
      have NA := Lib.hid (numI_len (x := (headAt l)) HB.out.2)
      go_wp2_with fail
      refine (num_any (len : Int) w1 (by omega) (by omega)).mono ?_
      rintro e w2 ⟨rfl, hb⟩
      have B2 := Lib.hid (below_next B.out hb)
      have H2 := Lib.hid (H1.out.below hb)
      clear hb
      go_wp2_with fail
      refine (num_any (headAt l) w2 HB.out.1 (by have := HB.out.2; omega)).mono ?_
      rintro e w3 ⟨rfl, hb⟩
      have B3 := Lib.hid (below_next B2.out hb)
      have H3 := Lib.hid (H2.out.below hb)
      clear hb
      have s1 : (BS (numI (len : Int))).size ≤ 6 := by rw [BS_size]; exact NL.out
      have s2 : (BS (numI (headAt l))).size ≤ 6 := by rw [BS_size]; exact NA.out
      have HE := Lib.hid (show BS (numI (len : Int)) ++ BS (numI (headAt l)) = BS ((num l.length ++ numI (headAt l)) ++ slotsB (l.take 0)) by
        rw [BS_add, LN.out, List.take_zero, show slotsB [] = [] from rfl, List.append_nil]
        all_goals (unfold numI; rw [Int.toNat_natCast]))
      have VE := Lib.hid (show bytesL l = (num l.length ++ numI (headAt l)) ++ slotsB l from rfl)
      have QL := Lib.hid (show (num l.length ++ numI (headAt l)).length ≤ 12 by
        have h1 := NL.out
        have h2 := NA.out
        unfold numI at h1
        rw [Int.toNat_natCast] at h1
        rw [List.length_append, LN.out]
        omega)
      obtain ⟨Q, hQ⟩ : ∃ Q, num l.length ++ numI (headAt l) = Q := ⟨_, rfl⟩
      rw [hQ] at HE VE QL
      clear hQ x0
      go_wp2
      clear b1 b1' s1 s2
      go_loopw [5, 6] (fun v u wr => ∃ i : Nat, u = .int .i64 i ∧ i ≤ len ∧ v = .string (BS (Q ++ slotsB (l.take i))) ∧ Below w.heap.size w wr) (fun _ u _ => len - (intOf u).toNat)
      case atStart => exact ⟨0, rfl, by omega, by rw [← HE.out], B3.out⟩
      case round =>
        obtain ⟨i, rfl, i1, rfl, hb⟩ := hrel
        have B4 := Lib.hid hb
        clear hb
        have SL := Lib.hid (show (Q ++ slotsB (l.take i)).length ≤ 400000000 by
          have h1 := slotsB_len (l.take i) 1024 (by omega) fun x hx => ⟨HS.out.b x (List.mem_of_mem_take hx), MY.out x (List.mem_of_mem_take hx)⟩
          have h2 := QL.out
          rw [List.length_take] at h1
          rw [List.length_append]
          omega)
        by_cases go : i < len
        · have b1 : decide ((i : Int) < (len : Int)) = true := by simp; omega
          have b1' : decide (i < len) = true := by simp; omega
          obtain ⟨s, hs, hts⟩ := get_of (l := l) (i := i) (by rw [LN.out]; exact go)
          have TS := Lib.hid (show slotsB (l.take (i + 1)) = slotsB (l.take i) ++ slotB s by rw [hts, slots_snoc])
          have RL := Lib.hid (HS.out.b s (List.mem_of_getElem? hs))
          have MS := Lib.hid (MY.out s (List.mem_of_getElem? hs))
          obtain ⟨ba', oa', ao, lo, co, e', x0, x1, hu⟩ := H.out.at hs
          have HX := Lib.hid x1
          have HU := Lib.hid hu
          have LU := Lib.hid hu.len
          have x1 := cell_on B4.out HX.out
          have lo4 : lo ≤ 4096 := by rw [← hu.len]; exact RL.out
          cases e'
          have i3 : (i : Int) < (len : Int) := by omega
          have i0 : 0 ≤ (i : Int) := by omega
          have SB := Lib.hid (show slotB s = num lo ++ runsB 0 s.runs by unfold slotB; rw [LU.out])
          have RE := Lib.hid (show ∀ r ∈ s.runs, 0 ≤ r.core ∧ r.core < 1024 ∧ 0 ≤ r.id ∧ r.id ≤ 1023 ∧ 1 ≤ r.idx ∧ r.idx ≤ 1099511627776 from fun r hr => MS.out.runs.each r (by rw [List.take_length]; exact hr))
          have CO := Lib.hid (show s.runs.Pairwise (fun a b => a.core < b.core) by have := MS.out.runs.cores; rwa [List.take_length] at this)
          obtain ⟨rs, hrs⟩ : ∃ rs, s.runs = rs := ⟨_, rfl⟩
          rw [hrs] at HU LU SB RE CO
          obtain ⟨P, hP⟩ : ∃ P, Q ++ slotsB (l.take i) = P := ⟨_, rfl⟩
          have TP := Lib.hid (show Q ++ slotsB (l.take (i + 1)) = P ++ num lo ++ runsB 0 rs by rw [TS.out, SB.out, ← hP]; simp)
          rw [hP] at SL ⊢
          clear hs hts hu hrs hP x0
          have s1 : (BS P).size ≤ 400000000 := by rw [BS_size]; exact SL.out
          have NO := Lib.hid (numI_len (x := (lo : Int)) (by omega))
          have s2 : (BS (numI (lo : Int))).size ≤ 6 := by rw [BS_size]; exact NO.out
          go_wp2_with fail
          refine (num_any (lo : Int) wr (by omega) (by omega)).mono ?_
          rintro e w5 ⟨rfl, hb⟩
          have B5 := Lib.hid (below_next B4.out hb)
          clear hb x1
          have x1 := cell_on B5.out HX.out
          have HP2 := Lib.hid (show BS P ++ BS (numI (lo : Int)) = BS (P ++ num lo ++ runsB 0 (rs.take 0)) by
            rw [BS_add, List.take_zero, show runsB 0 [] = [] from rfl, List.append_nil]
            all_goals (unfold numI; rw [Int.toNat_natCast]))
          have PL := Lib.hid (show (P ++ num lo).length ≤ 400000006 by
            have h1 := NO.out
            have h2 := SL.out
            unfold numI at h1
            rw [Int.toNat_natCast] at h1
            rw [List.length_append]
            omega)
          obtain ⟨P2, hP2⟩ : ∃ P2, P ++ num lo = P2 := ⟨_, rfl⟩
          rw [hP2] at HP2 PL TP
          clear hP2
          go_wp2
          clear b1 b1' s1 s2 x1
          go_loopw [5, 7, 8] (fun v c' u wx => ∃ (k : Nat) (c : Int), u = .int .i64 k ∧ k ≤ lo ∧ c' = .int .i64 c ∧ v = .string (BS (P2 ++ runsB 0 (rs.take k))) ∧ lastC 0 (rs.take k) = c ∧ Below w.heap.size w wx) (fun _ _ u _ => lo - (intOf u).toNat)
          case atStart => exact ⟨0, 0, rfl, by omega, rfl, by rw [← HP2.out], by simp [lastC], B5.out⟩
          case round =>
            obtain ⟨k, c, rfl, k1, rfl, rfl, hc, hb⟩ := hrel
            have B6 := Lib.hid hb
            have LC := Lib.hid hc
            clear hb hc
            have x1 := cell_on B6.out HX.out
            by_cases go2 : k < lo
            · have d1 : decide ((k : Int) < (lo : Int)) = true := by simp; omega
              have d1' : decide (k < lo) = true := by simp; omega
              obtain ⟨r, hr, htr⟩ := get_of (l := rs) (i := k) (by rw [LU.out]; exact go2)
              have e6 := RE.out r (List.mem_of_getElem? hr)
              have cr : 0 ≤ c ∧ c ≤ r.core := by
                have pw := CO.out.sublist (List.take_sublist (k + 1) rs)
                rw [htr] at pw
                rw [← LC.out]
                exact ⟨lastC_ge _ _ (by omega) fun y hy => (RE.out y (List.mem_of_mem_take hy)).1, lastC_le _ _ _ e6.1 fun y hy => by have := (List.pairwise_append.mp pw).2.2 y hy r (by simp); omega⟩
              have CN := Lib.hid (show lastC 0 (rs.take (k + 1)) = r.core by rw [htr, lastC_append]; rfl)
              have ST1 := Lib.hid (show BS (P2 ++ runsB 0 (rs.take k)) ++ BS (numI (r.core - c)) ++ BS (numI r.id) ++ BS (numI r.idx) = BS (P2 ++ runsB 0 (rs.take (k + 1))) by
                rw [BS_add, BS_add, BS_add, htr, runsB_append, LC.out]
                simp [runsB])
              have s1 : (BS (P2 ++ runsB 0 (rs.take k))).size ≤ 500000000 := by
                have h1 := PL.out
                have h2 := runsB_len (rs.take k) 0 (by omega) fun y hy => by have := RE.out y (List.mem_of_mem_take hy); omega
                rw [List.length_take] at h2
                rw [BS_size, List.length_append]
                omega
              obtain ⟨bu, ou, rfl, hat⟩ := HU.out.at hr
              have XA := Lib.hid (hat.below B6.out)
              have y0 := XA.out.c0; have y1 := XA.out.c1; have y2 := XA.out.c2
              have k3 : (k : Int) < (lo : Int) := by omega
              have k0 : 0 ≤ (k : Int) := by omega
              obtain ⟨id, core, idx⟩ := r
              replace y0 : wr.cell? ⟨bu, ou + k * 3, none⟩ = some (.int .i64 id) := y0
              replace y1 : wr.cell? ⟨bu, ou + k * 3 + 1, none⟩ = some (.int .i64 core) := y1
              replace y2 : wr.cell? ⟨bu, ou + k * 3 + 2, none⟩ = some (.int .i64 idx) := y2
              replace e6 : 0 ≤ core ∧ core < 1024 ∧ 0 ≤ id ∧ id ≤ 1023 ∧ 1 ≤ idx ∧ idx ≤ 1099511627776 := e6
              replace cr : 0 ≤ c ∧ c ≤ core := cr
              replace CN := Lib.hid (show lastC 0 (rs.take (k + 1)) = core from CN.out)
              replace ST1 := Lib.hid (show BS (P2 ++ runsB 0 (rs.take k)) ++ BS (numI (core - c)) ++ BS (numI id) ++ BS (numI idx) = BS (P2 ++ runsB 0 (rs.take (k + 1))) from ST1.out)
              have s2 : (BS (numI (core - c))).size ≤ 6 := by rw [BS_size]; exact numI_len (by omega)
              have s3 : (BS (numI id)).size ≤ 6 := by rw [BS_size]; exact numI_len (by omega)
              have s4 : (BS (numI idx)).size ≤ 6 := by rw [BS_size]; exact numI_len (by omega)
              obtain ⟨A, hA⟩ : ∃ A, P2 ++ runsB 0 (rs.take k) = A := ⟨_, rfl⟩
              rw [hA] at ST1 s1 ⊢
              obtain ⟨W2, hW2⟩ : ∃ W2, wr.alloc (.cells #[.int .i64 id, .int .i64 core, .int .i64 idx] 44) = W2 := ⟨_, rfl⟩
              have B7 := Lib.hid (show Below w.heap.size w W2 by rw [← hW2]; exact below_next B6.out (wbox _ _))
              have R2 := Lib.hid (show Blk W2 44 wr.heap.size #[.int .i64 id, .int .i64 core, .int .i64 idx] by rw [← hW2]; exact Blk.new _ _ _)
              have r0 := R2.out.cell 0; have r1 := R2.out.cell 1; have r2 := R2.out.cell 2
              simp at r0 r1 r2
              have q0 : 0 ≤ core - c ∧ core - c ≤ 1024 := by omega
              have wr0 : IntKind.i64.wrap (core - c) = core - c := IntWalk.i64_in _ (by omega)
              clear hr htr hat XA hA
              go_upto_region 17 with fail
              clear hW2 x1 y0 y1 y2 d1 d1'
              have KEPT := Lib.hid (fun (W : World) (hb : Below W2.heap.size W2 W) => (⟨cell_on hb r0, cell_on hb r1, cell_on hb r2⟩ : W.cell? ⟨wr.heap.size, 0, none⟩ = some (.int .i64 id) ∧ W.cell? ⟨wr.heap.size, 1, none⟩ = some (.int .i64 core) ∧ W.cell? ⟨wr.heap.size, 2, none⟩ = some (.int .i64 idx)))
              have BL := Lib.hid (show Below W2.heap.size W2 W2.drew from bdN (Below.refl _ _) 1)
              clear r0 r1 r2

              refine wp_region_noPanic ?_
              refine wp_region_held_drew (S := fun w' => w'.cell? ⟨wr.heap.size, 0, none⟩ = some (.int .i64 id) ∧ w'.cell? ⟨wr.heap.size, 1, none⟩ = some (.int .i64 core) ∧ w'.cell? ⟨wr.heap.size, 2, none⟩ = some (.int .i64 idx)) (by kernel_rfl) (KEPT.out _ BL.out) (fun hHeld => ?_)
              refine' takeY (i := 0) (oi := _) (v := _) ?him1 (by kernel_rfl) (by kernel_rfl) (by kernel_rfl) (fun _ _ _ h => h) ?hwm1 ?hym1 hHeld ?restm1
              case him1 => (simp only [List.getElem?_toArray, List.getElem?_cons_zero]; rfl)
              case hwm1 => rfl
              case hym1 => (intro w hSw; (try dsimp only at hSw); go_simp; try with_reducible rfl)
              try simp only [Act.put, List.setIfInBounds_toArray, List.set_cons_zero, List.set_cons_succ]
              refine' takeY (i := 1) (oi := _) (v := _) ?him2 (by kernel_rfl) (by kernel_rfl) (by kernel_rfl) (fun _ _ _ h => h) ?hwm2 ?hym2 hHeld ?restm2
              case him2 => (simp only [List.getElem?_toArray, List.getElem?_cons_succ, List.getElem?_cons_zero]; rfl)
              case hwm2 => rfl
              case hym2 => (intro w hSw; (try dsimp only at hSw); go_simp; try with_reducible rfl)
              try simp only [Act.put, List.setIfInBounds_toArray, List.set_cons_zero, List.set_cons_succ]
              refine' takeY (i := 2) (oi := _) (v := _) ?him3 (by kernel_rfl) (by kernel_rfl) (by kernel_rfl) (fun _ _ _ h => h) ?hwm3 ?hym3 hHeld ?restm3
              case him3 => (simp only [List.getElem?_toArray, List.getElem?_cons_succ, List.getElem?_cons_zero]; rfl)
              case hwm3 => rfl
              case hym3 => (intro w hSw; (try dsimp only at hSw); go_simp; try with_reducible rfl)
              try simp only [Act.put, List.setIfInBounds_toArray, List.set_cons_zero, List.set_cons_succ]
              refine' takeY (i := 3) (oi := _) (v := _) ?him4 (by kernel_rfl) (by kernel_rfl) (by kernel_rfl) (fun _ _ _ h => h) ?hwm4 ?hym4 hHeld ?restm4
              case him4 => (simp only [List.getElem?_toArray, List.getElem?_cons_succ, List.getElem?_cons_zero]; rfl)
              case hwm4 => rfl
              case hym4 => (intro w hSw; (try dsimp only at hSw); go_simp; try with_reducible rfl)
              try simp only [Act.put, List.setIfInBounds_toArray, List.set_cons_zero, List.set_cons_succ]
              refine' takeY (i := 4) (oi := _) (v := _) ?him5 (by kernel_rfl) (by kernel_rfl) (by kernel_rfl) (fun _ _ _ h => h) ?hwm5 ?hym5 hHeld ?restm5
              case him5 => (simp only [List.getElem?_toArray, List.getElem?_cons_succ, List.getElem?_cons_zero]; rfl)
              case hwm5 => rfl
              case hym5 => (intro w hSw; (try dsimp only at hSw); go_simp; try with_reducible rfl)
              try simp only [Act.put, List.setIfInBounds_toArray, List.set_cons_zero, List.set_cons_succ]
              refine' takeY (i := 7) (oi := _) (v := _) ?him6 (by kernel_rfl) (by kernel_rfl) (by kernel_rfl) (fun _ _ _ h => h) ?hwm6 ?hym6 hHeld ?restm6
              case him6 => (simp only [List.getElem?_toArray, List.getElem?_cons_succ, List.getElem?_cons_zero]; rfl)
              case hwm6 => rfl
              case hym6 => (intro w hSw; (try dsimp only at hSw); go_simp; try with_reducible rfl)
              try simp only [Act.put, List.setIfInBounds_toArray, List.set_cons_zero, List.set_cons_succ]
              refine' takeY (i := 8) (oi := _) (v := _) ?him7 (by kernel_rfl) (by kernel_rfl) (by kernel_rfl) (fun _ _ _ h => h) ?hwm7 ?hym7 hHeld ?restm7
              case him7 => (simp only [List.getElem?_toArray, List.getElem?_cons_succ, List.getElem?_cons_zero]; rfl)
              case hwm7 => rfl
              case hym7 => (intro w hSw; (try dsimp only at hSw); go_simp; try with_reducible rfl)
              try simp only [Act.put, List.setIfInBounds_toArray, List.set_cons_zero, List.set_cons_succ]
              refine' takeY (i := 11) (oi := _) (v := _) ?him8 (by kernel_rfl) (by kernel_rfl) (by kernel_rfl) (fun _ _ _ h => h) ?hwm8 ?hym8 hHeld ?restm8
              case him8 => (simp only [List.getElem?_toArray, List.getElem?_cons_succ, List.getElem?_cons_zero]; rfl)
              case hwm8 => rfl
              case hym8 => (intro w hSw; (try dsimp only at hSw); go_simp; try with_reducible rfl)
              try simp only [Act.put, List.setIfInBounds_toArray, List.set_cons_zero, List.set_cons_succ]
              refine' takeY (i := 12) (oi := _) (v := _) ?him9 (by kernel_rfl) (by kernel_rfl) (by kernel_rfl) (fun _ _ _ h => h) ?hwm9 ?hym9 hHeld ?restm9
              case him9 => (simp only [List.getElem?_toArray, List.getElem?_cons_succ, List.getElem?_cons_zero]; rfl)
              case hwm9 => rfl
              case hym9 => (intro w hSw; (try dsimp only at hSw); go_simp; try with_reducible rfl)
              try simp only [Act.put, List.setIfInBounds_toArray, List.set_cons_zero, List.set_cons_succ]
              refine wpAnyH_ready (rs := [5]) (by kernel_rfl) (by simp) ?_
              refine' AllReadyH.cons (o := _) ?him10 (fun K hK => ?stepm10) (AllReadyH.nil)
              case him10 => (simp only [List.getElem?_toArray, List.getElem?_cons_succ, List.getElem?_cons_zero]; rfl)
              case stepm10 =>
                go_simp
                (go_at_call 27; ((with_reducible refine (num_any (core - c) _ (by omega) (by omega)).mono ?_)); rintro e w6 ⟨rfl, hb⟩; have BL := Lib.hid (below_next BL.out hb); clear hb)
                go_wp2_with fail
                clear hHeld
                refine hK.out _ _ (KEPT.out _ BL.out) (fun hHeld => ?_)
                clear hK K
                try simp only [Act.put, List.setIfInBounds_toArray, List.set_cons_zero, List.set_cons_succ]
                refine wpAnyH_ready (rs := [6, 9]) (by kernel_rfl) (by simp) ?_
                refine' AllReadyH.cons (o := _) ?him12 (fun K hK => ?stepm12) (AllReadyH.cons (o := _) ?him11 (fun K hK => ?stepm11) (AllReadyH.nil))
                case him12 => (simp only [List.getElem?_toArray, List.getElem?_cons_succ, List.getElem?_cons_zero]; rfl)
                case him11 => (simp only [List.getElem?_toArray, List.getElem?_cons_succ, List.getElem?_cons_zero]; rfl)
                case stepm12 =>
                  go_simp
                  (skip)
                  go_wp2_with fail
                  clear hHeld
                  refine hK.out _ _ (KEPT.out _ BL.out) (fun hHeld => ?_)
                  clear hK K
                  try simp only [Act.put, List.setIfInBounds_toArray, List.set_cons_zero, List.set_cons_succ]
                  refine wpAnyH_ready (rs := [9]) (by kernel_rfl) (by simp) ?_
                  refine' AllReadyH.cons (o := _) ?him13 (fun K hK => ?stepm13) (AllReadyH.nil)
                  case him13 => (simp only [List.getElem?_toArray, List.getElem?_cons_succ, List.getElem?_cons_zero]; rfl)
                  case stepm13 =>
                    go_simp
                    (go_at_call 27; ((with_reducible refine (num_any id _ (by omega) (by omega)).mono ?_)); rintro e w6 ⟨rfl, hb⟩; have BL := Lib.hid (below_next BL.out hb); clear hb)
                    go_wp2_with fail
                    clear hHeld
                    refine hK.out _ _ (KEPT.out _ BL.out) (fun hHeld => ?_)
                    clear hK K
                    try simp only [Act.put, List.setIfInBounds_toArray, List.set_cons_zero, List.set_cons_succ]
                    refine wpAnyH_ready (rs := [10, 13]) (by kernel_rfl) (by simp) ?_
                    refine' AllReadyH.cons (o := _) ?him15 (fun K hK => ?stepm15) (AllReadyH.cons (o := _) ?him14 (fun K hK => ?stepm14) (AllReadyH.nil))
                    case him15 => (simp only [List.getElem?_toArray, List.getElem?_cons_succ, List.getElem?_cons_zero]; rfl)
                    case him14 => (simp only [List.getElem?_toArray, List.getElem?_cons_succ, List.getElem?_cons_zero]; rfl)
                    case stepm15 =>
                      go_simp
                      (skip)
                      go_wp2_with fail
                      clear hHeld
                      refine hK.out _ _ (KEPT.out _ BL.out) (fun hHeld => ?_)
                      clear hK K
                      try simp only [Act.put, List.setIfInBounds_toArray, List.set_cons_zero, List.set_cons_succ]
                      refine wpAnyH_ready (rs := [13]) (by kernel_rfl) (by simp) ?_
                      refine' AllReadyH.cons (o := _) ?him16 (fun K hK => ?stepm16) (AllReadyH.nil)
                      case him16 => (simp only [List.getElem?_toArray, List.getElem?_cons_succ, List.getElem?_cons_zero]; rfl)
                      case stepm16 =>
                        go_simp
                        (go_at_call 27; ((with_reducible refine (num_any idx _ (by omega) (by omega)).mono ?_)); rintro e w6 ⟨rfl, hb⟩; have BL := Lib.hid (below_next BL.out hb); clear hb)
                        go_wp2_with fail
                        clear hHeld
                        refine hK.out _ _ (KEPT.out _ BL.out) (fun hHeld => ?_)
                        clear hK K
                        try simp only [Act.put, List.setIfInBounds_toArray, List.set_cons_zero, List.set_cons_succ]
                        refine wpAnyH_ready (rs := [14]) (by kernel_rfl) (by simp) ?_
                        refine' AllReadyH.cons (o := _) ?him17 (fun K hK => ?stepm17) (AllReadyH.nil)
                        case him17 => (simp only [List.getElem?_toArray, List.getElem?_cons_succ, List.getElem?_cons_zero]; rfl)
                        case stepm17 =>
                          go_simp
                          (skip)
                          go_wp2_with fail
                          clear hHeld
                          refine hK.out _ _ (KEPT.out _ BL.out) (fun hHeld => ?_)
                          clear hK K
                          try simp only [Act.put, List.setIfInBounds_toArray, List.set_cons_zero, List.set_cons_succ]
                          refine' takeY (i := 15) (oi := _) (v := _) ?him18 (by kernel_rfl) (by kernel_rfl) (by kernel_rfl) (fun _ _ _ h => h) ?hwm18 ?hym18 hHeld ?restm18
                          case him18 => (simp only [List.getElem?_toArray, List.getElem?_cons_succ, List.getElem?_cons_zero]; rfl)
                          case hwm18 => rfl
                          case hym18 => (intro w hSw; (try dsimp only at hSw); go_simp; try with_reducible rfl)
                          try simp only [Act.put, List.setIfInBounds_toArray, List.set_cons_zero, List.set_cons_succ]
                          refine wpAnyH_done (by kernel_rfl) ?_ _
                          refine NoPanic.normal ?_
                          have KK := KEPT.out _ BL.out
                          have q1 := KK.2.1
                          have BF := Lib.hid (below_next B7.out BL.out)
                          clear KK KEPT BL
                          go_wp2
                          go_roundw
                          case rel => exact ⟨k + 1, core, by go_num, by omega, by rfl, by rw [← ST1.out], CN.out, BF.out⟩
                          case measure => simp [intOf]; omega
                    case stepm14 =>
                      go_simp
                      (go_at_call 27; ((with_reducible refine (num_any idx _ (by omega) (by omega)).mono ?_)); rintro e w6 ⟨rfl, hb⟩; have BL := Lib.hid (below_next BL.out hb); clear hb)
                      go_wp2_with fail
                      clear hHeld
                      refine hK.out _ _ (KEPT.out _ BL.out) (fun hHeld => ?_)
                      clear hK K
                      try simp only [Act.put, List.setIfInBounds_toArray, List.set_cons_zero, List.set_cons_succ]
                      refine wpAnyH_ready (rs := [10]) (by kernel_rfl) (by simp) ?_
                      refine' AllReadyH.cons (o := _) ?him19 (fun K hK => ?stepm19) (AllReadyH.nil)
                      case him19 => (simp only [List.getElem?_toArray, List.getElem?_cons_succ, List.getElem?_cons_zero]; rfl)
                      case stepm19 =>
                        go_simp
                        (skip)
                        go_wp2_with fail
                        clear hHeld
                        refine hK.out _ _ (KEPT.out _ BL.out) (fun hHeld => ?_)
                        clear hK K
                        try simp only [Act.put, List.setIfInBounds_toArray, List.set_cons_zero, List.set_cons_succ]
                        refine wpAnyH_ready (rs := [14]) (by kernel_rfl) (by simp) ?_
                        refine' AllReadyH.cons (o := _) ?him20 (fun K hK => ?stepm20) (AllReadyH.nil)
                        case him20 => (simp only [List.getElem?_toArray, List.getElem?_cons_succ, List.getElem?_cons_zero]; rfl)
                        case stepm20 =>
                          go_simp
                          (skip)
                          go_wp2_with fail
                          clear hHeld
                          refine hK.out _ _ (KEPT.out _ BL.out) (fun hHeld => ?_)
                          clear hK K
                          try simp only [Act.put, List.setIfInBounds_toArray, List.set_cons_zero, List.set_cons_succ]
                          refine' takeY (i := 15) (oi := _) (v := _) ?him21 (by kernel_rfl) (by kernel_rfl) (by kernel_rfl) (fun _ _ _ h => h) ?hwm21 ?hym21 hHeld ?restm21
                          case him21 => (simp only [List.getElem?_toArray, List.getElem?_cons_succ, List.getElem?_cons_zero]; rfl)
                          case hwm21 => rfl
                          case hym21 => (intro w hSw; (try dsimp only at hSw); go_simp; try with_reducible rfl)
                          try simp only [Act.put, List.setIfInBounds_toArray, List.set_cons_zero, List.set_cons_succ]
                          refine wpAnyH_done (by kernel_rfl) ?_ _
                          refine NoPanic.normal ?_
                          have KK := KEPT.out _ BL.out
                          have q1 := KK.2.1
                          have BF := Lib.hid (below_next B7.out BL.out)
                          clear KK KEPT BL
                          go_wp2
                          go_roundw
                          case rel => exact ⟨k + 1, core, by go_num, by omega, by rfl, by rw [← ST1.out], CN.out, BF.out⟩
                          case measure => simp [intOf]; omega
                case stepm11 =>
                  go_simp
                  (go_at_call 27; ((with_reducible refine (num_any id _ (by omega) (by omega)).mono ?_)); rintro e w6 ⟨rfl, hb⟩; have BL := Lib.hid (below_next BL.out hb); clear hb)
                  go_wp2_with fail
                  clear hHeld
                  refine hK.out _ _ (KEPT.out _ BL.out) (fun hHeld => ?_)
                  clear hK K
                  try simp only [Act.put, List.setIfInBounds_toArray, List.set_cons_zero, List.set_cons_succ]
                  refine wpAnyH_ready (rs := [6, 13]) (by kernel_rfl) (by simp) ?_
                  refine' AllReadyH.cons (o := _) ?him23 (fun K hK => ?stepm23) (AllReadyH.cons (o := _) ?him22 (fun K hK => ?stepm22) (AllReadyH.nil))
                  case him23 => (simp only [List.getElem?_toArray, List.getElem?_cons_succ, List.getElem?_cons_zero]; rfl)
                  case him22 => (simp only [List.getElem?_toArray, List.getElem?_cons_succ, List.getElem?_cons_zero]; rfl)
                  case stepm23 =>
                    go_simp
                    (skip)
                    go_wp2_with fail
                    clear hHeld
                    refine hK.out _ _ (KEPT.out _ BL.out) (fun hHeld => ?_)
                    clear hK K
                    try simp only [Act.put, List.setIfInBounds_toArray, List.set_cons_zero, List.set_cons_succ]
                    refine wpAnyH_ready (rs := [10, 13]) (by kernel_rfl) (by simp) ?_
                    refine' AllReadyH.cons (o := _) ?him25 (fun K hK => ?stepm25) (AllReadyH.cons (o := _) ?him24 (fun K hK => ?stepm24) (AllReadyH.nil))
                    case him25 => (simp only [List.getElem?_toArray, List.getElem?_cons_succ, List.getElem?_cons_zero]; rfl)
                    case him24 => (simp only [List.getElem?_toArray, List.getElem?_cons_succ, List.getElem?_cons_zero]; rfl)
                    case stepm25 =>
                      go_simp
                      (skip)
                      go_wp2_with fail
                      clear hHeld
                      refine hK.out _ _ (KEPT.out _ BL.out) (fun hHeld => ?_)
                      clear hK K
                      try simp only [Act.put, List.setIfInBounds_toArray, List.set_cons_zero, List.set_cons_succ]
                      refine wpAnyH_ready (rs := [13]) (by kernel_rfl) (by simp) ?_
                      refine' AllReadyH.cons (o := _) ?him26 (fun K hK => ?stepm26) (AllReadyH.nil)
                      case him26 => (simp only [List.getElem?_toArray, List.getElem?_cons_succ, List.getElem?_cons_zero]; rfl)
                      case stepm26 =>
                        go_simp
                        (go_at_call 27; ((with_reducible refine (num_any idx _ (by omega) (by omega)).mono ?_)); rintro e w6 ⟨rfl, hb⟩; have BL := Lib.hid (below_next BL.out hb); clear hb)
                        go_wp2_with fail
                        clear hHeld
                        refine hK.out _ _ (KEPT.out _ BL.out) (fun hHeld => ?_)
                        clear hK K
                        try simp only [Act.put, List.setIfInBounds_toArray, List.set_cons_zero, List.set_cons_succ]
                        refine wpAnyH_ready (rs := [14]) (by kernel_rfl) (by simp) ?_
                        refine' AllReadyH.cons (o := _) ?him27 (fun K hK => ?stepm27) (AllReadyH.nil)
                        case him27 => (simp only [List.getElem?_toArray, List.getElem?_cons_succ, List.getElem?_cons_zero]; rfl)
                        case stepm27 =>
                          go_simp
                          (skip)
                          go_wp2_with fail
                          clear hHeld
                          refine hK.out _ _ (KEPT.out _ BL.out) (fun hHeld => ?_)
                          clear hK K
                          try simp only [Act.put, List.setIfInBounds_toArray, List.set_cons_zero, List.set_cons_succ]
                          refine' takeY (i := 15) (oi := _) (v := _) ?him28 (by kernel_rfl) (by kernel_rfl) (by kernel_rfl) (fun _ _ _ h => h) ?hwm28 ?hym28 hHeld ?restm28
                          case him28 => (simp only [List.getElem?_toArray, List.getElem?_cons_succ, List.getElem?_cons_zero]; rfl)
                          case hwm28 => rfl
                          case hym28 => (intro w hSw; (try dsimp only at hSw); go_simp; try with_reducible rfl)
                          try simp only [Act.put, List.setIfInBounds_toArray, List.set_cons_zero, List.set_cons_succ]
                          refine wpAnyH_done (by kernel_rfl) ?_ _
                          refine NoPanic.normal ?_
                          have KK := KEPT.out _ BL.out
                          have q1 := KK.2.1
                          have BF := Lib.hid (below_next B7.out BL.out)
                          clear KK KEPT BL
                          go_wp2
                          go_roundw
                          case rel => exact ⟨k + 1, core, by go_num, by omega, by rfl, by rw [← ST1.out], CN.out, BF.out⟩
                          case measure => simp [intOf]; omega
                    case stepm24 =>
                      go_simp
                      (go_at_call 27; ((with_reducible refine (num_any idx _ (by omega) (by omega)).mono ?_)); rintro e w6 ⟨rfl, hb⟩; have BL := Lib.hid (below_next BL.out hb); clear hb)
                      go_wp2_with fail
                      clear hHeld
                      refine hK.out _ _ (KEPT.out _ BL.out) (fun hHeld => ?_)
                      clear hK K
                      try simp only [Act.put, List.setIfInBounds_toArray, List.set_cons_zero, List.set_cons_succ]
                      refine wpAnyH_ready (rs := [10]) (by kernel_rfl) (by simp) ?_
                      refine' AllReadyH.cons (o := _) ?him29 (fun K hK => ?stepm29) (AllReadyH.nil)
                      case him29 => (simp only [List.getElem?_toArray, List.getElem?_cons_succ, List.getElem?_cons_zero]; rfl)
                      case stepm29 =>
                        go_simp
                        (skip)
                        go_wp2_with fail
                        clear hHeld
                        refine hK.out _ _ (KEPT.out _ BL.out) (fun hHeld => ?_)
                        clear hK K
                        try simp only [Act.put, List.setIfInBounds_toArray, List.set_cons_zero, List.set_cons_succ]
                        refine wpAnyH_ready (rs := [14]) (by kernel_rfl) (by simp) ?_
                        refine' AllReadyH.cons (o := _) ?him30 (fun K hK => ?stepm30) (AllReadyH.nil)
                        case him30 => (simp only [List.getElem?_toArray, List.getElem?_cons_succ, List.getElem?_cons_zero]; rfl)
                        case stepm30 =>
                          go_simp
                          (skip)
                          go_wp2_with fail
                          clear hHeld
                          refine hK.out _ _ (KEPT.out _ BL.out) (fun hHeld => ?_)
                          clear hK K
                          try simp only [Act.put, List.setIfInBounds_toArray, List.set_cons_zero, List.set_cons_succ]
                          refine' takeY (i := 15) (oi := _) (v := _) ?him31 (by kernel_rfl) (by kernel_rfl) (by kernel_rfl) (fun _ _ _ h => h) ?hwm31 ?hym31 hHeld ?restm31
                          case him31 => (simp only [List.getElem?_toArray, List.getElem?_cons_succ, List.getElem?_cons_zero]; rfl)
                          case hwm31 => rfl
                          case hym31 => (intro w hSw; (try dsimp only at hSw); go_simp; try with_reducible rfl)
                          try simp only [Act.put, List.setIfInBounds_toArray, List.set_cons_zero, List.set_cons_succ]
                          refine wpAnyH_done (by kernel_rfl) ?_ _
                          refine NoPanic.normal ?_
                          have KK := KEPT.out _ BL.out
                          have q1 := KK.2.1
                          have BF := Lib.hid (below_next B7.out BL.out)
                          clear KK KEPT BL
                          go_wp2
                          go_roundw
                          case rel => exact ⟨k + 1, core, by go_num, by omega, by rfl, by rw [← ST1.out], CN.out, BF.out⟩
                          case measure => simp [intOf]; omega
                  case stepm22 =>
                    go_simp
                    (go_at_call 27; ((with_reducible refine (num_any idx _ (by omega) (by omega)).mono ?_)); rintro e w6 ⟨rfl, hb⟩; have BL := Lib.hid (below_next BL.out hb); clear hb)
                    go_wp2_with fail
                    clear hHeld
                    refine hK.out _ _ (KEPT.out _ BL.out) (fun hHeld => ?_)
                    clear hK K
                    try simp only [Act.put, List.setIfInBounds_toArray, List.set_cons_zero, List.set_cons_succ]
                    refine wpAnyH_ready (rs := [6]) (by kernel_rfl) (by simp) ?_
                    refine' AllReadyH.cons (o := _) ?him32 (fun K hK => ?stepm32) (AllReadyH.nil)
                    case him32 => (simp only [List.getElem?_toArray, List.getElem?_cons_succ, List.getElem?_cons_zero]; rfl)
                    case stepm32 =>
                      go_simp
                      (skip)
                      go_wp2_with fail
                      clear hHeld
                      refine hK.out _ _ (KEPT.out _ BL.out) (fun hHeld => ?_)
                      clear hK K
                      try simp only [Act.put, List.setIfInBounds_toArray, List.set_cons_zero, List.set_cons_succ]
                      refine wpAnyH_ready (rs := [10]) (by kernel_rfl) (by simp) ?_
                      refine' AllReadyH.cons (o := _) ?him33 (fun K hK => ?stepm33) (AllReadyH.nil)
                      case him33 => (simp only [List.getElem?_toArray, List.getElem?_cons_succ, List.getElem?_cons_zero]; rfl)
                      case stepm33 =>
                        go_simp
                        (skip)
                        go_wp2_with fail
                        clear hHeld
                        refine hK.out _ _ (KEPT.out _ BL.out) (fun hHeld => ?_)
                        clear hK K
                        try simp only [Act.put, List.setIfInBounds_toArray, List.set_cons_zero, List.set_cons_succ]
                        refine wpAnyH_ready (rs := [14]) (by kernel_rfl) (by simp) ?_
                        refine' AllReadyH.cons (o := _) ?him34 (fun K hK => ?stepm34) (AllReadyH.nil)
                        case him34 => (simp only [List.getElem?_toArray, List.getElem?_cons_succ, List.getElem?_cons_zero]; rfl)
                        case stepm34 =>
                          go_simp
                          (skip)
                          go_wp2_with fail
                          clear hHeld
                          refine hK.out _ _ (KEPT.out _ BL.out) (fun hHeld => ?_)
                          clear hK K
                          try simp only [Act.put, List.setIfInBounds_toArray, List.set_cons_zero, List.set_cons_succ]
                          refine' takeY (i := 15) (oi := _) (v := _) ?him35 (by kernel_rfl) (by kernel_rfl) (by kernel_rfl) (fun _ _ _ h => h) ?hwm35 ?hym35 hHeld ?restm35
                          case him35 => (simp only [List.getElem?_toArray, List.getElem?_cons_succ, List.getElem?_cons_zero]; rfl)
                          case hwm35 => rfl
                          case hym35 => (intro w hSw; (try dsimp only at hSw); go_simp; try with_reducible rfl)
                          try simp only [Act.put, List.setIfInBounds_toArray, List.set_cons_zero, List.set_cons_succ]
                          refine wpAnyH_done (by kernel_rfl) ?_ _
                          refine NoPanic.normal ?_
                          have KK := KEPT.out _ BL.out
                          have q1 := KK.2.1
                          have BF := Lib.hid (below_next B7.out BL.out)
                          clear KK KEPT BL
                          go_wp2
                          go_roundw
                          case rel => exact ⟨k + 1, core, by go_num, by omega, by rfl, by rw [← ST1.out], CN.out, BF.out⟩
                          case measure => simp [intOf]; omega
            · have d1 : decide ((k : Int) < (lo : Int)) = false := by simp; omega
              have d1' : decide (k < lo) = false := by simp; omega
              have NX := Lib.hid (show P2 ++ runsB 0 (rs.take k) = Q ++ slotsB (l.take (i + 1)) by rw [TP.out, List.take_of_length_le (by rw [LU.out]; omega)])
              go_wp2
              go_roundw
              case rel => exact ⟨i + 1, by go_num, by omega, by rw [NX.out], B6.out⟩
              case measure => simp [intOf]; omega
        · have b1 : decide ((i : Int) < (len : Int)) = false := by simp; omega
          have b1' : decide (i < len) = false := by simp; omega
          have VV := Lib.hid (show bytesK l = Q ++ slotsB (l.take i) by rw [V.out, VE.out, List.take_of_length_le (by rw [LN.out]; omega)])
          go_wp2
          go_ret
          exact ⟨by rw [VV.out]; rfl, B4.out⟩
    · have b1 : decide ((0 : Int) < (len : Int)) = false := by simp; omega
      have b1' : decide (0 < len) = false := by simp; omega
      have HZ := Lib.hid (show bytesL l = numI (len : Int) ++ numI 0 by
        have h0 : l = [] := List.length_eq_zero_iff.mp (by rw [LN.out]; omega)
        have h1 : len = 0 := by omega
        rw [h0, h1]; unfold bytesL slotsB headAt numI; simp)
      have NL := Lib.hid (numI_len (x := (len : Int)) (by omega))
      have NA := Lib.hid (numI_len (x := (0 : Int)) (by omega))
      go_wp2_with fail
      refine (num_any (len : Int) w1 (by omega) (by omega)).mono ?_
      rintro e w2 ⟨rfl, hb⟩
      have B2 := Lib.hid (below_next B.out hb)
      have H2 := Lib.hid (H1.out.below hb)
      clear hb
      go_wp2_with fail
      refine (num_any (0 : Int) w2 (by omega) (by omega)).mono ?_
      rintro e w3 ⟨rfl, hb⟩
      have B3 := Lib.hid (below_next B2.out hb)
      have H3 := Lib.hid (H2.out.below hb)
      clear hb
      have s1 : (BS (numI (len : Int))).size ≤ 6 := by rw [BS_size]; exact NL.out
      have s2 : (BS (numI (0 : Int))).size ≤ 6 := by rw [BS_size]; exact NA.out
      go_wp2
      go_loopw [5, 6] (fun v u wr => v = .string (BS (numI (len : Int)) ++ BS (numI 0)) ∧ u = .int .i64 0 ∧ w3 = wr) (fun _ _ _ => 0)
      case atStart => exact ⟨rfl, rfl, rfl⟩
      case round =>
        obtain ⟨rfl, rfl, rfl⟩ := hrel
        go_wp2
        go_ret
        exact ⟨by rw [V.out, HZ.out, ← BS_add]; rfl, B3.out⟩
end Go.Proofs.Ytndhpihgeacdfaa
