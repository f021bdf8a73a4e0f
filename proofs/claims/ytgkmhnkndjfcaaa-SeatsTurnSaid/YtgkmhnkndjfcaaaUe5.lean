/-
  Both seats, side by side; the walk of the law SeatsPlay.
-/
import Derived.Test.YtgkmhnkndjfcaaaUe4
import Derived.Test.YtgkmhnkndjfcaaaFlat2
import Derived.Deep.RegionHeld3
namespace Go.Proofs.Ytgkmhnkndjfcaaa
open Go.RowKit

section
variable {P : Program} {ops : Array Oper} {Q : Exit → Act → World → Prop} {md : Region.Mode} {S : World → Prop}
/-- take number i first: it is wanted -/
theorem takeY {i : Nat} {oi : Oper} {v : Value} {fuel : Nat} {listed : Array Bool} {a : Act} {w : World} (hi : ops[i]? = some oi)
    (hs : Region.noSelect ops = true) (hf : Region.free md ops listed i = true) (hr : (Region.ready md ops listed).contains i = true)
    (hQ : ∀ c a w, Q (.panic c) (a.put oi.dst v) w → Q (.panic c) a w) (hw : Region.wanted oi (yielded ops a.tmps) = true) (hy : ∀ w, S w → (execOp a.eval oi).run P w = .ok (.value v) w) (hS : S w)
    (h : wpAnyH P md ops Q S fuel (listed.setIfInBounds i true) (a.put oi.dst v) w) : wpAnyH P md ops Q S (fuel + 1) listed a w :=
  wpAnyH_take hi hs hf hr hQ (.inl ⟨hw, hy⟩) hS h
/-- .. it is not wanted -/
theorem takeN {i : Nat} {oi : Oper} {fuel : Nat} {listed : Array Bool} {a : Act} {w : World} (hi : ops[i]? = some oi)
    (hs : Region.noSelect ops = true) (hf : Region.free md ops listed i = true) (hr : (Region.ready md ops listed).contains i = true)
    (hQ : ∀ c a w, Q (.panic c) (a.put oi.dst undef) w → Q (.panic c) a w) (hw : Region.wanted oi (yielded ops a.tmps) = false) (hS : S w)
    (h : wpAnyH P md ops Q S fuel (listed.setIfInBounds i true) (a.put oi.dst undef) w) : wpAnyH P md ops Q S (fuel + 1) listed a w :=
  wpAnyH_take hi hs hf hr hQ (.inr ⟨hw, rfl⟩) hS h
end
theorem and_low17 (x n : Int) (h0 : 0 ≤ n) (h1 : n ≤ 1073741823) : 0 ≤ bits .and .i64 x n ∧ bits .and .i64 x n ≤ n := by
  have hn : (BitVec.ofInt 64 n).toNat = n.toNat := by
    rw [BitVec.toNat_ofInt]
    omega
  have h : (BitVec.ofInt 64 x &&& BitVec.ofInt 64 n).toNat ≤ n.toNat := by
    rw [BitVec.toNat_and, hn]
    exact Nat.and_le_right
  have e : bits .and .i64 x n = ((BitVec.ofInt 64 x &&& BitVec.ofInt 64 n).toNat : Int) := by
    show IntKind.i64.wrap ((BitVec.ofInt 64 x &&& BitVec.ofInt 64 n).toNat : Int) = _
    exact IntWalk.i64_in _ (by omega)
  omega
section
variable {Hp : World → Nat → (Nat → Prop) → Nat → List Int → Prop}
/-- the landed seats (fa), and the document's (fb, in v), apart -/
def BothV (Hp : World → Nat → (Nat → Prop) → Nat → List Int → Prop) (w wr : World) (g h n : Nat) (fa fb : List Int) (v : Value) : Prop := ∃ F G, Hp wr g F n fa ∧ RS wr h G n fb v ∧ From F w.heap.size ∧ From G w.heap.size ∧ Apart F G ∧ Below w.heap.size w wr ∧ Lies F wr
theorem BothV.rs {w wr : World} {g h n : Nat} {fa fb : List Int} {v : Value} (b : BothV Hp w wr g h n fa fb v) : RS wr h (fun k => k = h ∨ v.ownBlock = some k) n fb v := by
  obtain ⟨F, G, _, r, _⟩ := b
  exact ⟨r.good, r.blk, r.que, r.ne, fun k => Iff.rfl⟩
theorem BothV.below {w wr : World} {g h n : Nat} {fa fb : List Int} {v : Value} (b : BothV Hp w wr g h n fa fb v) : Below w.heap.size w wr := by obtain ⟨_, _, _, _, _, _, _, h, _⟩ := b; exact h
theorem BothV.fst {w wr w' : World} {g h n : Nat} {fa' fb : List Int} {v : Value} {F G : Nat → Prop} (r : RS wr h G n fb v) (h1 : From F w.heap.size) (h2 : From G w.heap.size) (ap : Apart F G) (hb : Below w.heap.size w wr) (lies : ∀ {w g F n fr}, Hp w g F n fr → Lies F w) (s : StaysS Hp wr g F n fa' w') : BothV Hp w w' g h n fa' fb v := by
  obtain ⟨F', q, m⟩ := s
  exact ⟨F', G, q, r.keeps m.keeps ap.symm, h1.moves m hb.size, h2, ap.moves m r.lies, m.keeps.below hb h1 hb.size, lies q⟩
theorem BothV.next (ok : SeatsOk Hp) {w wr w' : World} {g h n : Nat} {fa fb : List Int} {v : Value} (b : BothV Hp w wr g h n fa fb v) (hk : Below wr.heap.size wr w') : BothV Hp w w' g h n fa fb v := by
  obtain ⟨F, G, q, r, h1, h2, ap, hb, lf⟩ := b
  exact ⟨F, G, ok.keeps q (Keeps.of (F := fun _ => False) hk) (fun _ _ f => f), r.below hk, h1, h2, ap, below_next hb hk, lf.next hk.size⟩
def Both17 (Hp : World → Nat → (Nat → Prop) → Nat → List Int → Prop) (w wr : World) (g h n : Nat) (fa fb : List Int) : Prop := ∃ v, BothV Hp w wr g h n fa fb v
theorem Both17.next (ok : SeatsOk Hp) {w wr w' : World} {g h n : Nat} {fa fb : List Int} (b : Both17 Hp w wr g h n fa fb) (hk : Below wr.heap.size wr w') : Both17 Hp w w' g h n fa fb := by
  obtain ⟨v, b⟩ := b
  exact ⟨v, b.next ok hk⟩
theorem qids17 (ok : SeatsOk Hp) {w wr : World} {g h n : Nat} {fa fb : List Int} (b : Both17 Hp w wr g h n fa fb) : Calls Try.prog 16 #[.pointer (some ⟨h, 0, none⟩)] wr fun z w' => ∃ a cap, z = .returned (.slice a (idsV n fb).length cap) ∧ Row .i64 w' a (idsV n fb).length cap (idsV n fb) ∧ Both17 Hp w w' g h n fa fb ∧ Below wr.heap.size wr w' := by
  obtain ⟨v, b⟩ := b
  exact (r17ids_any h n _ fb wr ⟨v, b.rs⟩).mono fun _ _ ⟨x, y, z, hr, hb⟩ => ⟨x, y, z, hr, ⟨v, b.next ok hb⟩, hb⟩
theorem both_new (ok : SeatsOk Hp) {w wr : World} {g n : Nat} {fr : List Int} (m : Mine17 Hp w G0 g n fr wr) (n1 : 1 ≤ n) (n64 : n ≤ 64) : Calls Try.prog 9 #[.int .i64 n] wr fun z w' => ∃ h, z = .returned (.pointer (some ⟨h, 0, none⟩)) ∧ Both17 Hp w w' g h n fr (ups n) := by
  obtain ⟨F, q, h1, hb, _, _, _⟩ := m
  refine (r17new_any n wr n1 n64).mono ?_
  rintro z w' ⟨h, G, rfl, ⟨v, r⟩, hG, hk⟩
  have lf := ok.lies q
  exact ⟨h, rfl, v, F, G, ok.keeps q (Keeps.of (F := fun _ => False) hk) (fun _ _ f => f), r, h1, fun k e => Nat.le_trans hb.size (hG k e), fun k f e => by have := lf k f; have := hG k e; omega, below_next hb hk, lf.next hk.size⟩
theorem ptake17 (ok : SeatsOk Hp) {w wr : World} {g h n : Nat} {fa fb : List Int} (b : Both17 Hp w wr g h n fa fb) : Calls Try.prog 10 #[.pointer (some ⟨g, 0, none⟩)] wr fun z w' => z = .returned (.tuple #[.int .i64 (takeV fa).1, .int .i64 (takeV fa).2.1]) ∧ Both17 Hp w w' g h n (takeV fa).2.2 fb := by
  obtain ⟨v, F, G, q, r, h1, h2, ap, hb, lf⟩ := b
  exact (ok.take g F n fa wr q).mono fun _ _ ⟨a, s⟩ => ⟨a, v, BothV.fst r h1 h2 ap hb ok.lies s⟩
theorem pgive17 (ok : SeatsOk Hp) {w wr : World} {g h n : Nat} {fa fb : List Int} (id : Int) (b : Both17 Hp w wr g h n fa fb) : Calls Try.prog 12 #[.pointer (some ⟨g, 0, none⟩), .int .i64 id] wr fun z w' => z = .returned (.int .i64 (giveV n fa id).1) ∧ Both17 Hp w w' g h n (giveV n fa id).2 fb := by
  obtain ⟨v, F, G, q, r, h1, h2, ap, hb, lf⟩ := b
  exact (ok.give g F n fa id wr q).mono fun _ _ ⟨a, s⟩ => ⟨a, v, BothV.fst r h1 h2 ap hb ok.lies s⟩
theorem qtake17 (ok : SeatsOk Hp) {w wr : World} {g h n : Nat} {fa fb : List Int} (b : Both17 Hp w wr g h n fa fb) : Calls Try.prog 11 #[.pointer (some ⟨h, 0, none⟩)] wr fun z w' => z = .returned (.tuple #[.int .i64 (takeV fb).1, .int .i64 (takeV fb).2.1]) ∧ Both17 Hp w w' g h n fa (takeV fb).2.2 := by
  obtain ⟨v, F, G, q, r, h1, h2, ap, hb, lf⟩ := b
  refine (r17take_any h n G fb wr ⟨v, r⟩).mono fun _ w' ⟨a, s⟩ => ⟨a, ?_⟩
  obtain ⟨G', ⟨v', r'⟩, m⟩ := s
  exact ⟨v', F, G', ok.keeps q m.keeps ap, r', h1, h2.moves m hb.size, (ap.symm.moves m lf).symm, m.keeps.below hb h2 hb.size, lf.next m.keeps.size⟩
theorem qgive17 (ok : SeatsOk Hp) {w wr : World} {g h n : Nat} {fa fb : List Int} (id : Int) (b : Both17 Hp w wr g h n fa fb) : Calls Try.prog 13 #[.pointer (some ⟨h, 0, none⟩), .int .i64 id] wr fun z w' => z = .returned (.int .i64 (giveV n fb id).1) ∧ Both17 Hp w w' g h n fa (giveV n fb id).2 := by
  obtain ⟨v, F, G, q, r, h1, h2, ap, hb, lf⟩ := b
  refine (r17give_any h n G fb id wr ⟨v, r⟩).mono fun _ w' ⟨a, s⟩ => ⟨a, ?_⟩
  obtain ⟨G', ⟨v', r'⟩, m⟩ := s
  exact ⟨v', F, G', ok.keeps q m.keeps ap, r', h1, h2.moves m hb.size, (ap.symm.moves m lf).symm, m.keeps.below hb h2 hb.size, lf.next m.keeps.size⟩
theorem pids17 (ok : SeatsOk Hp) {w wr : World} {g h n : Nat} {fa fb : List Int} (b : Both17 Hp w wr g h n fa fb) : Calls Try.prog 15 #[.pointer (some ⟨g, 0, none⟩)] wr fun z w' => ∃ a len cap, z = .returned (.slice a len cap) ∧ Row .i64 w' a len cap (idsV n fa) ∧ Both17 Hp w w' g h n fa fb := by
  obtain ⟨v, F, G, q, r, h1, h2, ap, hb, lf⟩ := b
  exact (ok.ids g F n fa wr q).mono fun _ _ ⟨x, y, z, a, hr, s⟩ => ⟨x, y, z, a, hr, v, BothV.fst r h1 h2 ap hb ok.lies s⟩
theorem pleft17 (ok : SeatsOk Hp) {w wr : World} {g h n : Nat} {fa fb : List Int} {v : Value} (b : BothV Hp w wr g h n fa fb v) : Calls Try.prog 17 #[.pointer (some ⟨g, 0, none⟩)] wr fun z w' => z = .returned (.int .i64 (fa.length : Int)) ∧ BothV Hp w w' g h n fa fb v := by
  obtain ⟨F, G, q, r, h1, h2, ap, hb, lf⟩ := b
  exact (ok.left g F n fa wr q).mono fun _ _ ⟨a, s⟩ => ⟨a, BothV.fst r h1 h2 ap hb ok.lies s⟩
theorem ptaken17 (ok : SeatsOk Hp) {w wr : World} {g h n : Nat} {fa fb : List Int} {v : Value} (id : Int) (b : BothV Hp w wr g h n fa fb v) : Calls Try.prog 18 #[.pointer (some ⟨g, 0, none⟩), .int .i64 id] wr fun z w' => z = .returned (.bool (takenB n fa id)) ∧ BothV Hp w w' g h n fa fb v := by
  obtain ⟨F, G, q, r, h1, h2, ap, hb, lf⟩ := b
  exact (ok.taken g F n fa id wr q).mono fun _ _ ⟨a, s⟩ => ⟨a, BothV.fst r h1 h2 ap hb ok.lies s⟩
theorem qtaken17 {w wr : World} {g h n : Nat} {fa fb : List Int} {v : Value} (id : Int) (b : BothV Hp w wr g h n fa fb v) : Calls Try.prog 19 #[.pointer (some ⟨h, 0, none⟩), .int .i64 id] wr fun z w' => z = .returned (.bool (takenB n fb id)) ∧ BothV Hp w w' g h n fa fb v :=
  (r17taken_any h n _ fb v id wr b.rs).mono fun _ _ ⟨a, e⟩ => ⟨a, by rw [← e]; exact b⟩
end
set_option maxRecDepth 20000 in
set_option maxHeartbeats 4000000 in
theorem splay_walk {Hp : World → Nat → (Nat → Prop) → Nat → List Int → Prop} (ok : SeatsOk Hp) (m : Int) (a : Option Addr) (len cap : Nat) (zs : List Int) (w : World) (hr : Row .i64 w a len cap zs) :
    Calls Try.prog 3 #[.int .i64 m, .slice a len cap] w fun e w' => e = .returned (.bool true) ∧ Below w.heap.size w w' := by
  have HR := Lib.hid hr
  have ⟨k1, k2⟩ := hr.cap_le
  clear hr
  have ⟨n0, n1⟩ := and_low17 m 63 (by omega) (by omega)
  obtain ⟨v0, hv0⟩ : ∃ v, bits .and .i64 m 63 = v := ⟨_, rfl⟩
  rw [hv0] at n0 n1
  obtain ⟨n, hn⟩ := Int.eq_ofNat_of_zero_le (show 0 ≤ 1 + v0 by omega)
  have wn : IntKind.i64.wrap (1 + v0) = (n : Int) := by rw [hn]; exact IntWalk.i64_in _ (by omega)
  have m1 : 1 ≤ n := by omega
  have m64 : n ≤ 64 := by omega
  have HV := Lib.hid hn
  clear hn
  go_enter Try.func3, Try.ntmps3
  go_wp2_with fail
  refine (awake17_any ok w).mono ?_
  rintro e w0 ⟨rfl, hb⟩
  have B0 := Lib.hid hb
  clear hb
  go_wp2_with fail
  try rw [hv0]
  try rw [wn]
  refine (m17new ok B0.out n m1 m64).mono ?_
  rintro e w1 ⟨g, rfl, hm⟩
  have M := Lib.hid hm
  clear hm
  go_wp2_with fail
  refine (both_new ok M.out m1 m64).mono ?_
  rintro e w2 ⟨h, rfl, hb⟩
  have HB := Lib.hid hb
  clear hb M
  go_wp2
  clear hv0 wn
  go_loopw [9] (fun u wr => ∃ (i : Nat) (fr : List Int), u = .int .i64 i ∧ i ≤ len ∧ i ≤ 150 ∧ Both17 Hp w wr g h n fr fr) (fun u _ => len - (intOf u).toNat)
  case atStart => exact ⟨0, _, rfl, by omega, by omega, HB.out⟩
  case round =>
    obtain ⟨i, fr, rfl, i1, i150, hb⟩ := hrel
    have HB := Lib.hid hb
    clear hb
    by_cases go : i < len
    · have b1 : decide ((i : Int) < (len : Int)) = true := by simp; omega
      have b1' : decide (i < len) = true := by simp; omega
      by_cases g150 : i < 150
      · have b2 : decide ((i : Int) < 150) = true := by simp; omega
        have b2' : decide (i < 150) = true := by simp; omega
        obtain ⟨ba, oa, rfl, hcell⟩ := HR.out.cell go
        obtain ⟨z, hz⟩ : ∃ z, zs.getD i 0 = z := ⟨_, rfl⟩
        rw [hz] at hcell
        obtain ⟨id, hid⟩ : ∃ id, z.tmod 70 = id := ⟨_, rfl⟩
        have y := cell_on (show Below w.heap.size w wr by obtain ⟨v, b⟩ := HB.out; exact b.below) hcell
        have i3 : (i : Int) < (len : Int) := by omega
        have i0 : 0 ≤ (i : Int) := by omega
        clear hcell hz
        by_cases neg : z < 0
        · have d1 : decide (z < 0) = true := decide_eq_true neg
          clear neg
          go_wp2_with fail
          refine (ptake17 ok HB.out).mono ?_
          rintro e w3 ⟨rfl, hb⟩
          have HB := Lib.hid hb
          clear hb
          go_wp2_with fail
          refine (qtake17 ok HB.out).mono ?_
          rintro e w4 ⟨rfl, hb⟩
          have HB := Lib.hid hb
          clear hb
          obtain ⟨tv, htv⟩ : ∃ tv, takeV fr = tv := ⟨_, rfl⟩
          rw [htv] at HB ⊢
          clear htv
          obtain ⟨tx, te, fx⟩ := tv
          replace HB := Lib.hid (show Both17 Hp w w4 g h n fx fx from HB.out)
          dsimp only
          go_wp2_with fail
          refine (pids17 ok HB.out).mono ?_
          rintro e w3 ⟨a1, l1, c1', rfl, hr, hb⟩
          have HB := Lib.hid hb
          have R1 := Lib.hid hr
          have L1 := Lib.hid hr.len
          clear hr hb
          go_wp2_with fail
          refine (qids17 ok HB.out).mono ?_
          rintro e w4 ⟨a2, c2', rfl, hr, hb, hw⟩
          have HB := Lib.hid hb
          have R2 := Lib.hid hr
          have R1' := Lib.hid (R1.out.below hw)
          clear hr hb hw
          obtain rfl : (idsV n fx).length = l1 := L1.out
          go_wp2_with fail
          refine (r7same_yes a1 a2 _ c1' c2' (idsV n fx) w4 R1'.out R2.out).mono ?_
          rintro e w4' ⟨rfl, hb⟩
          obtain ⟨vv, hbv⟩ := HB.out.next ok hb
          have BL := Lib.hid hbv
          clear hb hbv R1 R1' R2 L1
          obtain ⟨av, cv, hv, -, -, -⟩ := BL.out.rs.cell
          rw [hv] at BL
          obtain ⟨ln, hln⟩ : ∃ ln, fx.length = ln := ⟨_, rfl⟩
          have LN := Lib.hid hln
          rw [hln] at BL
          clear hv hln
          obtain ⟨tb, htb⟩ : ∃ tb, takenB n fx id = tb := ⟨_, rfl⟩
          have TB := Lib.hid htb
          clear htb
          go_upto_region 18 with fail
          have KEPT := Lib.hid (show ∀ w' : World, BothV Hp w w' g h n fx fx (.slice av ln cv) → w'.cell? ⟨h, 1, none⟩ = some (.slice av ln cv) from fun w' b => by have := b.rs.blk.cell 1; simpa using this)
          have BL := Lib.hid (show BothV Hp w w4'.drew g h n fx fx (.slice av ln cv) from BL.out.next ok (bdN (Below.refl _ _) 1))
          refine wp_region_noPanic ?_
          refine wp_region_held_drew (S := fun w' => w'.cell? ⟨h, 1, none⟩ = some (.slice av ln cv)) (by kernel_rfl) (KEPT.out _ BL.out) (fun hHeld => ?_)
          refine' takeY (i := 0) (oi := _) (v := _) ?hia1 (by kernel_rfl) (by kernel_rfl) (by kernel_rfl) (fun _ _ _ h => h) ?hwa1 ?hya1 hHeld ?resta1
          case hia1 => (simp only [List.getElem?_toArray, List.getElem?_cons_zero]; rfl)
          case hwa1 => rfl
          case hya1 => (intro w hSw; (try dsimp only at hSw); go_simp; try with_reducible rfl)
          try simp only [Act.put, List.setIfInBounds_toArray, List.set_cons_zero, List.set_cons_succ]
          refine' takeY (i := 1) (oi := _) (v := _) ?hia2 (by kernel_rfl) (by kernel_rfl) (by kernel_rfl) (fun _ _ _ h => h) ?hwa2 ?hya2 hHeld ?resta2
          case hia2 => (simp only [List.getElem?_toArray, List.getElem?_cons_succ, List.getElem?_cons_zero]; rfl)
          case hwa2 => rfl
          case hya2 => (intro w hSw; (try dsimp only at hSw); go_simp; try with_reducible rfl)
          try simp only [Act.put, List.setIfInBounds_toArray, List.set_cons_zero, List.set_cons_succ]
          refine' takeY (i := 2) (oi := _) (v := _) ?hia3 (by kernel_rfl) (by kernel_rfl) (by kernel_rfl) (fun _ _ _ h => h) ?hwa3 ?hya3 hHeld ?resta3
          case hia3 => (simp only [List.getElem?_toArray, List.getElem?_cons_succ, List.getElem?_cons_zero]; rfl)
          case hwa3 => rfl
          case hya3 => (intro w hSw; (try dsimp only at hSw); go_simp; try with_reducible rfl)
          try simp only [Act.put, List.setIfInBounds_toArray, List.set_cons_zero, List.set_cons_succ]
          refine' takeY (i := 3) (oi := _) (v := _) ?hia4 (by kernel_rfl) (by kernel_rfl) (by kernel_rfl) (fun _ _ _ h => h) ?hwa4 ?hya4 hHeld ?resta4
          case hia4 => (simp only [List.getElem?_toArray, List.getElem?_cons_succ, List.getElem?_cons_zero]; rfl)
          case hwa4 => rfl
          case hya4 => (intro w hSw; (try dsimp only at hSw); go_simp; try with_reducible rfl)
          try simp only [Act.put, List.setIfInBounds_toArray, List.set_cons_zero, List.set_cons_succ]
          refine' takeY (i := 4) (oi := _) (v := _) ?hia5 (by kernel_rfl) (by kernel_rfl) (by kernel_rfl) (fun _ _ _ h => h) ?hwa5 ?hya5 hHeld ?resta5
          case hia5 => (simp only [List.getElem?_toArray, List.getElem?_cons_succ, List.getElem?_cons_zero]; rfl)
          case hwa5 => rfl
          case hya5 => (intro w hSw; (try dsimp only at hSw); go_simp; try with_reducible rfl)
          try simp only [Act.put, List.setIfInBounds_toArray, List.set_cons_zero, List.set_cons_succ]
          refine' takeY (i := 5) (oi := _) (v := _) ?hia6 (by kernel_rfl) (by kernel_rfl) (by kernel_rfl) (fun _ _ _ h => h) ?hwa6 ?hya6 hHeld ?resta6
          case hia6 => (simp only [List.getElem?_toArray, List.getElem?_cons_succ, List.getElem?_cons_zero]; rfl)
          case hwa6 => rfl
          case hya6 => (intro w hSw; (try dsimp only at hSw); go_simp; try with_reducible rfl)
          try simp only [Act.put, List.setIfInBounds_toArray, List.set_cons_zero, List.set_cons_succ]
          refine' takeY (i := 6) (oi := _) (v := _) ?hia7 (by kernel_rfl) (by kernel_rfl) (by kernel_rfl) (fun _ _ _ h => h) ?hwa7 ?hya7 hHeld ?resta7
          case hia7 => (simp only [List.getElem?_toArray, List.getElem?_cons_succ, List.getElem?_cons_zero]; rfl)
          case hwa7 => rfl
          case hya7 => (intro w hSw; (try dsimp only at hSw); go_simp; try with_reducible rfl)
          try simp only [Act.put, List.setIfInBounds_toArray, List.set_cons_zero, List.set_cons_succ]
          refine' takeY (i := 7) (oi := _) (v := _) ?hia8 (by kernel_rfl) (by kernel_rfl) (by kernel_rfl) (fun _ _ _ h => h) ?hwa8 ?hya8 hHeld ?resta8
          case hia8 => (simp only [List.getElem?_toArray, List.getElem?_cons_succ, List.getElem?_cons_zero]; rfl)
          case hwa8 => rfl
          case hya8 => (intro w hSw; (try dsimp only at hSw); go_simp; try with_reducible rfl)
          try simp only [Act.put, List.setIfInBounds_toArray, List.set_cons_zero, List.set_cons_succ]
          refine' takeY (i := 9) (oi := _) (v := _) ?hia9 (by kernel_rfl) (by kernel_rfl) (by kernel_rfl) (fun _ _ _ h => h) ?hwa9 ?hya9 hHeld ?resta9
          case hia9 => (simp only [List.getElem?_toArray, List.getElem?_cons_succ, List.getElem?_cons_zero]; rfl)
          case hwa9 => rfl
          case hya9 => (intro w hSw; (try dsimp only at hSw); go_simp; try with_reducible rfl)
          try simp only [Act.put, List.setIfInBounds_toArray, List.set_cons_zero, List.set_cons_succ]
          refine' takeY (i := 10) (oi := _) (v := _) ?hia10 (by kernel_rfl) (by kernel_rfl) (by kernel_rfl) (fun _ _ _ h => h) ?hwa10 ?hya10 hHeld ?resta10
          case hia10 => (simp only [List.getElem?_toArray, List.getElem?_cons_succ, List.getElem?_cons_zero]; rfl)
          case hwa10 => rfl
          case hya10 => (intro w hSw; (try dsimp only at hSw); go_simp; try with_reducible rfl)
          try simp only [Act.put, List.setIfInBounds_toArray, List.set_cons_zero, List.set_cons_succ]
          refine' takeY (i := 11) (oi := _) (v := _) ?hia11 (by kernel_rfl) (by kernel_rfl) (by kernel_rfl) (fun _ _ _ h => h) ?hwa11 ?hya11 hHeld ?resta11
          case hia11 => (simp only [List.getElem?_toArray, List.getElem?_cons_succ, List.getElem?_cons_zero]; rfl)
          case hwa11 => rfl
          case hya11 => (intro w hSw; (try dsimp only at hSw); go_simp; try with_reducible rfl)
          try simp only [Act.put, List.setIfInBounds_toArray, List.set_cons_zero, List.set_cons_succ]
          refine' takeY (i := 12) (oi := _) (v := _) ?hia12 (by kernel_rfl) (by kernel_rfl) (by kernel_rfl) (fun _ _ _ h => h) ?hwa12 ?hya12 hHeld ?resta12
          case hia12 => (simp only [List.getElem?_toArray, List.getElem?_cons_succ, List.getElem?_cons_zero]; rfl)
          case hwa12 => rfl
          case hya12 => (intro w hSw; (try dsimp only at hSw); go_simp; try with_reducible rfl)
          try simp only [Act.put, List.setIfInBounds_toArray, List.set_cons_zero, List.set_cons_succ]
          refine' takeY (i := 13) (oi := _) (v := _) ?hia13 (by kernel_rfl) (by kernel_rfl) (by kernel_rfl) (fun _ _ _ h => h) ?hwa13 ?hya13 hHeld ?resta13
          case hia13 => (simp only [List.getElem?_toArray, List.getElem?_cons_succ, List.getElem?_cons_zero]; rfl)
          case hwa13 => rfl
          case hya13 => (intro w hSw; (try dsimp only at hSw); go_simp; try with_reducible rfl)
          try simp only [Act.put, List.setIfInBounds_toArray, List.set_cons_zero, List.set_cons_succ]
          refine wpAnyH_ready (rs := [8]) (by kernel_rfl) (by simp) ?_
          refine' AllReadyH.cons (o := _) ?hia14 (fun K hK => ?stepa14) (AllReadyH.nil)
          case hia14 => (simp only [List.getElem?_toArray, List.getElem?_cons_succ, List.getElem?_cons_zero]; rfl)
          case stepa14 =>
            go_simp
            (go_at_call 17; (with_reducible refine (pleft17 ok BL.out).mono ?_); rintro e w5 ⟨rfl, hb⟩; rw [LN.out]; have BL := Lib.hid hb; clear hb)
            go_wp2_with fail
            clear hHeld
            refine hK.out _ _ (KEPT.out _ BL.out) (fun hHeld => ?_)
            clear hK K
            try simp only [Act.put, List.setIfInBounds_toArray, List.set_cons_zero, List.set_cons_succ]
            refine' takeY (i := 14) (oi := _) (v := _) ?hia15 (by kernel_rfl) (by kernel_rfl) (by kernel_rfl) (fun _ _ _ h => h) ?hwa15 ?hya15 hHeld ?resta15
            case hia15 => (simp only [List.getElem?_toArray, List.getElem?_cons_succ, List.getElem?_cons_zero]; rfl)
            case hwa15 => rfl
            case hya15 => (intro w hSw; (try dsimp only at hSw); go_simp; try with_reducible rfl)
            try simp only [Act.put, List.setIfInBounds_toArray, List.set_cons_zero, List.set_cons_succ]
            refine' takeY (i := 15) (oi := _) (v := _) ?hia16 (by kernel_rfl) (by kernel_rfl) (by kernel_rfl) (fun _ _ _ h => h) ?hwa16 ?hya16 hHeld ?resta16
            case hia16 => (simp only [List.getElem?_toArray, List.getElem?_cons_succ, List.getElem?_cons_zero]; rfl)
            case hwa16 => rfl
            case hya16 => (intro w hSw; (try dsimp only at hSw); go_simp; try with_reducible rfl)
            try simp only [Act.put, List.setIfInBounds_toArray, List.set_cons_zero, List.set_cons_succ]
            refine' takeY (i := 16) (oi := _) (v := _) ?hia17 (by kernel_rfl) (by kernel_rfl) (by kernel_rfl) (fun _ _ _ h => h) ?hwa17 ?hya17 hHeld ?resta17
            case hia17 => (simp only [List.getElem?_toArray, List.getElem?_cons_succ, List.getElem?_cons_zero]; rfl)
            case hwa17 => rfl
            case hya17 => (intro w hSw; (try dsimp only at hSw); go_simp; try with_reducible rfl)
            try simp only [Act.put, List.setIfInBounds_toArray, List.set_cons_zero, List.set_cons_succ]
            refine' takeY (i := 17) (oi := _) (v := _) ?hia18 (by kernel_rfl) (by kernel_rfl) (by kernel_rfl) (fun _ _ _ h => h) ?hwa18 ?hya18 hHeld ?resta18
            case hia18 => (simp only [List.getElem?_toArray, List.getElem?_cons_succ, List.getElem?_cons_zero]; rfl)
            case hwa18 => rfl
            case hya18 => (intro w hSw; (try dsimp only at hSw); go_simp; try with_reducible rfl)
            try simp only [Act.put, List.setIfInBounds_toArray, List.set_cons_zero, List.set_cons_succ]
            refine' takeY (i := 18) (oi := _) (v := _) ?hia19 (by kernel_rfl) (by kernel_rfl) (by kernel_rfl) (fun _ _ _ h => h) ?hwa19 ?hya19 hHeld ?resta19
            case hia19 => (simp only [List.getElem?_toArray, List.getElem?_cons_succ, List.getElem?_cons_zero]; rfl)
            case hwa19 => rfl
            case hya19 => (intro w hSw; (try dsimp only at hSw); go_simp; try with_reducible rfl)
            try simp only [Act.put, List.setIfInBounds_toArray, List.set_cons_zero, List.set_cons_succ]
            refine' takeY (i := 20) (oi := _) (v := _) ?hia20 (by kernel_rfl) (by kernel_rfl) (by kernel_rfl) (fun _ _ _ h => h) ?hwa20 ?hya20 hHeld ?resta20
            case hia20 => (simp only [List.getElem?_toArray, List.getElem?_cons_succ, List.getElem?_cons_zero]; rfl)
            case hwa20 => rfl
            case hya20 => (intro w hSw; (try dsimp only at hSw); go_simp; try with_reducible rfl)
            try simp only [Act.put, List.setIfInBounds_toArray, List.set_cons_zero, List.set_cons_succ]
            refine' takeY (i := 21) (oi := _) (v := _) ?hia21 (by kernel_rfl) (by kernel_rfl) (by kernel_rfl) (fun _ _ _ h => h) ?hwa21 ?hya21 hHeld ?resta21
            case hia21 => (simp only [List.getElem?_toArray, List.getElem?_cons_succ, List.getElem?_cons_zero]; rfl)
            case hwa21 => rfl
            case hya21 => (intro w hSw; (try dsimp only at hSw); go_simp; try with_reducible rfl)
            try simp only [Act.put, List.setIfInBounds_toArray, List.set_cons_zero, List.set_cons_succ]
            refine wpAnyH_ready (rs := [19]) (by kernel_rfl) (by simp) ?_
            refine' AllReadyH.cons (o := _) ?hia22 (fun K hK => ?stepa22) (AllReadyH.nil)
            case hia22 => (simp only [List.getElem?_toArray, List.getElem?_cons_succ, List.getElem?_cons_zero]; rfl)
            case stepa22 =>
              go_simp
              (go_at_call 18; (with_reducible refine (ptaken17 ok id BL.out).mono ?_); rintro e w6 ⟨rfl, hb⟩; rw [TB.out]; have BL := Lib.hid hb; clear hb)
              go_wp2_with fail
              clear hHeld
              refine hK.out _ _ (KEPT.out _ BL.out) (fun hHeld => ?_)
              clear hK K
              try simp only [Act.put, List.setIfInBounds_toArray, List.set_cons_zero, List.set_cons_succ]
              refine wpAnyH_ready (rs := [22]) (by kernel_rfl) (by simp) ?_
              refine' AllReadyH.cons (o := _) ?hia23 (fun K hK => ?stepa23) (AllReadyH.nil)
              case hia23 => (simp only [List.getElem?_toArray, List.getElem?_cons_succ, List.getElem?_cons_zero]; rfl)
              case stepa23 =>
                go_simp
                (go_at_call 19; (with_reducible refine (qtaken17 id BL.out).mono ?_); rintro e w7 ⟨rfl, hb⟩; rw [TB.out]; have BL := Lib.hid hb; clear hb)
                go_wp2_with fail
                clear hHeld
                refine hK.out _ _ (KEPT.out _ BL.out) (fun hHeld => ?_)
                clear hK K
                try simp only [Act.put, List.setIfInBounds_toArray, List.set_cons_zero, List.set_cons_succ]
                refine' takeY (i := 23) (oi := _) (v := _) ?hia24 (by kernel_rfl) (by kernel_rfl) (by kernel_rfl) (fun _ _ _ h => h) ?hwa24 ?hya24 hHeld ?resta24
                case hia24 => (simp only [List.getElem?_toArray, List.getElem?_cons_succ, List.getElem?_cons_zero]; rfl)
                case hwa24 => rfl
                case hya24 => (intro w hSw; (try dsimp only at hSw); go_simp; try with_reducible rfl)
                try simp only [Act.put, List.setIfInBounds_toArray, List.set_cons_zero, List.set_cons_succ]
                refine' takeY (i := 24) (oi := _) (v := _) ?hia25 (by kernel_rfl) (by kernel_rfl) (by kernel_rfl) (fun _ _ _ h => h) ?hwa25 ?hya25 hHeld ?resta25
                case hia25 => (simp only [List.getElem?_toArray, List.getElem?_cons_succ, List.getElem?_cons_zero]; rfl)
                case hwa25 => rfl
                case hya25 => (intro w hSw; (try dsimp only at hSw); go_simp; try with_reducible rfl)
                try simp only [Act.put, List.setIfInBounds_toArray, List.set_cons_zero, List.set_cons_succ]
                refine wpAnyH_done (by kernel_rfl) ?_ _
                refine NoPanic.normal ?_
                go_wp2
                go_roundw
                case rel => exact ⟨i + 1, _, by go_num, by omega, by omega, ⟨_, BL.out⟩⟩
                case measure => simp [intOf]; omega
        · have d1 : decide (z < 0) = false := decide_eq_false neg
          have hid2 : z % 70 = id := by rw [← hid]; exact (Int.tmod_eq_emod_of_nonneg (by omega)).symm
          go_wp2_with fail
          refine (pgive17 ok id HB.out).mono ?_
          rintro e w3 ⟨rfl, hb⟩
          have HB := Lib.hid hb
          clear hb
          go_wp2_with fail
          refine (qgive17 ok id HB.out).mono ?_
          rintro e w4 ⟨rfl, hb⟩
          have HB := Lib.hid hb
          clear hb
          obtain ⟨tv, htv⟩ : ∃ tv, giveV n fr id = tv := ⟨_, rfl⟩
          rw [htv] at HB ⊢
          clear htv
          obtain ⟨te, fx⟩ := tv
          replace HB := Lib.hid (show Both17 Hp w w4 g h n fx fx from HB.out)
          dsimp only
          go_wp2_with fail
          refine (pids17 ok HB.out).mono ?_
          rintro e w3 ⟨a1, l1, c1', rfl, hr, hb⟩
          have HB := Lib.hid hb
          have R1 := Lib.hid hr
          have L1 := Lib.hid hr.len
          clear hr hb
          go_wp2_with fail
          refine (qids17 ok HB.out).mono ?_
          rintro e w4 ⟨a2, c2', rfl, hr, hb, hw⟩
          have HB := Lib.hid hb
          have R2 := Lib.hid hr
          have R1' := Lib.hid (R1.out.below hw)
          clear hr hb hw
          obtain rfl : (idsV n fx).length = l1 := L1.out
          go_wp2_with fail
          refine (r7same_yes a1 a2 _ c1' c2' (idsV n fx) w4 R1'.out R2.out).mono ?_
          rintro e w4' ⟨rfl, hb⟩
          obtain ⟨vv, hbv⟩ := HB.out.next ok hb
          have BL := Lib.hid hbv
          clear hb hbv R1 R1' R2 L1
          obtain ⟨av, cv, hv, -, -, -⟩ := BL.out.rs.cell
          rw [hv] at BL
          obtain ⟨ln, hln⟩ : ∃ ln, fx.length = ln := ⟨_, rfl⟩
          have LN := Lib.hid hln
          rw [hln] at BL
          clear hv hln
          obtain ⟨tb, htb⟩ : ∃ tb, takenB n fx id = tb := ⟨_, rfl⟩
          have TB := Lib.hid htb
          clear htb
          go_upto_region 18 with fail
          have KEPT := Lib.hid (show ∀ w' : World, BothV Hp w w' g h n fx fx (.slice av ln cv) → w'.cell? ⟨h, 1, none⟩ = some (.slice av ln cv) from fun w' b => by have := b.rs.blk.cell 1; simpa using this)
          have BL := Lib.hid (show BothV Hp w w4'.drew g h n fx fx (.slice av ln cv) from BL.out.next ok (bdN (Below.refl _ _) 1))
          refine wp_region_noPanic ?_
          refine wp_region_held_drew (S := fun w' => w'.cell? ⟨h, 1, none⟩ = some (.slice av ln cv)) (by kernel_rfl) (KEPT.out _ BL.out) (fun hHeld => ?_)
          refine' takeY (i := 0) (oi := _) (v := _) ?hic1 (by kernel_rfl) (by kernel_rfl) (by kernel_rfl) (fun _ _ _ h => h) ?hwc1 ?hyc1 hHeld ?restc1
          case hic1 => (simp only [List.getElem?_toArray, List.getElem?_cons_zero]; rfl)
          case hwc1 => rfl
          case hyc1 => (intro w hSw; (try dsimp only at hSw); go_simp; try with_reducible rfl)
          try simp only [Act.put, List.setIfInBounds_toArray, List.set_cons_zero, List.set_cons_succ]
          refine' takeY (i := 1) (oi := _) (v := _) ?hic2 (by kernel_rfl) (by kernel_rfl) (by kernel_rfl) (fun _ _ _ h => h) ?hwc2 ?hyc2 hHeld ?restc2
          case hic2 => (simp only [List.getElem?_toArray, List.getElem?_cons_succ, List.getElem?_cons_zero]; rfl)
          case hwc2 => rfl
          case hyc2 => (intro w hSw; (try dsimp only at hSw); go_simp; try with_reducible rfl)
          try simp only [Act.put, List.setIfInBounds_toArray, List.set_cons_zero, List.set_cons_succ]
          refine' takeY (i := 2) (oi := _) (v := _) ?hic3 (by kernel_rfl) (by kernel_rfl) (by kernel_rfl) (fun _ _ _ h => h) ?hwc3 ?hyc3 hHeld ?restc3
          case hic3 => (simp only [List.getElem?_toArray, List.getElem?_cons_succ, List.getElem?_cons_zero]; rfl)
          case hwc3 => rfl
          case hyc3 => (intro w hSw; (try dsimp only at hSw); go_simp; try with_reducible rfl)
          try simp only [Act.put, List.setIfInBounds_toArray, List.set_cons_zero, List.set_cons_succ]
          refine' takeY (i := 3) (oi := _) (v := _) ?hic4 (by kernel_rfl) (by kernel_rfl) (by kernel_rfl) (fun _ _ _ h => h) ?hwc4 ?hyc4 hHeld ?restc4
          case hic4 => (simp only [List.getElem?_toArray, List.getElem?_cons_succ, List.getElem?_cons_zero]; rfl)
          case hwc4 => rfl
          case hyc4 => (intro w hSw; (try dsimp only at hSw); go_simp; try with_reducible rfl)
          try simp only [Act.put, List.setIfInBounds_toArray, List.set_cons_zero, List.set_cons_succ]
          refine' takeY (i := 4) (oi := _) (v := _) ?hic5 (by kernel_rfl) (by kernel_rfl) (by kernel_rfl) (fun _ _ _ h => h) ?hwc5 ?hyc5 hHeld ?restc5
          case hic5 => (simp only [List.getElem?_toArray, List.getElem?_cons_succ, List.getElem?_cons_zero]; rfl)
          case hwc5 => rfl
          case hyc5 => (intro w hSw; (try dsimp only at hSw); go_simp; try with_reducible rfl)
          try simp only [Act.put, List.setIfInBounds_toArray, List.set_cons_zero, List.set_cons_succ]
          refine' takeY (i := 5) (oi := _) (v := _) ?hic6 (by kernel_rfl) (by kernel_rfl) (by kernel_rfl) (fun _ _ _ h => h) ?hwc6 ?hyc6 hHeld ?restc6
          case hic6 => (simp only [List.getElem?_toArray, List.getElem?_cons_succ, List.getElem?_cons_zero]; rfl)
          case hwc6 => rfl
          case hyc6 => (intro w hSw; (try dsimp only at hSw); go_simp; try with_reducible rfl)
          try simp only [Act.put, List.setIfInBounds_toArray, List.set_cons_zero, List.set_cons_succ]
          refine' takeY (i := 6) (oi := _) (v := _) ?hic7 (by kernel_rfl) (by kernel_rfl) (by kernel_rfl) (fun _ _ _ h => h) ?hwc7 ?hyc7 hHeld ?restc7
          case hic7 => (simp only [List.getElem?_toArray, List.getElem?_cons_succ, List.getElem?_cons_zero]; rfl)
          case hwc7 => rfl
          case hyc7 => (intro w hSw; (try dsimp only at hSw); go_simp; try with_reducible rfl)
          try simp only [Act.put, List.setIfInBounds_toArray, List.set_cons_zero, List.set_cons_succ]
          refine' takeY (i := 7) (oi := _) (v := _) ?hic8 (by kernel_rfl) (by kernel_rfl) (by kernel_rfl) (fun _ _ _ h => h) ?hwc8 ?hyc8 hHeld ?restc8
          case hic8 => (simp only [List.getElem?_toArray, List.getElem?_cons_succ, List.getElem?_cons_zero]; rfl)
          case hwc8 => rfl
          case hyc8 => (intro w hSw; (try dsimp only at hSw); go_simp; try with_reducible rfl)
          try simp only [Act.put, List.setIfInBounds_toArray, List.set_cons_zero, List.set_cons_succ]
          refine' takeY (i := 9) (oi := _) (v := _) ?hic9 (by kernel_rfl) (by kernel_rfl) (by kernel_rfl) (fun _ _ _ h => h) ?hwc9 ?hyc9 hHeld ?restc9
          case hic9 => (simp only [List.getElem?_toArray, List.getElem?_cons_succ, List.getElem?_cons_zero]; rfl)
          case hwc9 => rfl
          case hyc9 => (intro w hSw; (try dsimp only at hSw); go_simp; try with_reducible rfl)
          try simp only [Act.put, List.setIfInBounds_toArray, List.set_cons_zero, List.set_cons_succ]
          refine' takeY (i := 10) (oi := _) (v := _) ?hic10 (by kernel_rfl) (by kernel_rfl) (by kernel_rfl) (fun _ _ _ h => h) ?hwc10 ?hyc10 hHeld ?restc10
          case hic10 => (simp only [List.getElem?_toArray, List.getElem?_cons_succ, List.getElem?_cons_zero]; rfl)
          case hwc10 => rfl
          case hyc10 => (intro w hSw; (try dsimp only at hSw); go_simp; try with_reducible rfl)
          try simp only [Act.put, List.setIfInBounds_toArray, List.set_cons_zero, List.set_cons_succ]
          refine' takeY (i := 11) (oi := _) (v := _) ?hic11 (by kernel_rfl) (by kernel_rfl) (by kernel_rfl) (fun _ _ _ h => h) ?hwc11 ?hyc11 hHeld ?restc11
          case hic11 => (simp only [List.getElem?_toArray, List.getElem?_cons_succ, List.getElem?_cons_zero]; rfl)
          case hwc11 => rfl
          case hyc11 => (intro w hSw; (try dsimp only at hSw); go_simp; try with_reducible rfl)
          try simp only [Act.put, List.setIfInBounds_toArray, List.set_cons_zero, List.set_cons_succ]
          refine' takeY (i := 12) (oi := _) (v := _) ?hic12 (by kernel_rfl) (by kernel_rfl) (by kernel_rfl) (fun _ _ _ h => h) ?hwc12 ?hyc12 hHeld ?restc12
          case hic12 => (simp only [List.getElem?_toArray, List.getElem?_cons_succ, List.getElem?_cons_zero]; rfl)
          case hwc12 => rfl
          case hyc12 => (intro w hSw; (try dsimp only at hSw); go_simp; try with_reducible rfl)
          try simp only [Act.put, List.setIfInBounds_toArray, List.set_cons_zero, List.set_cons_succ]
          refine' takeY (i := 13) (oi := _) (v := _) ?hic13 (by kernel_rfl) (by kernel_rfl) (by kernel_rfl) (fun _ _ _ h => h) ?hwc13 ?hyc13 hHeld ?restc13
          case hic13 => (simp only [List.getElem?_toArray, List.getElem?_cons_succ, List.getElem?_cons_zero]; rfl)
          case hwc13 => rfl
          case hyc13 => (intro w hSw; (try dsimp only at hSw); go_simp; try with_reducible rfl)
          try simp only [Act.put, List.setIfInBounds_toArray, List.set_cons_zero, List.set_cons_succ]
          refine wpAnyH_ready (rs := [8]) (by kernel_rfl) (by simp) ?_
          refine' AllReadyH.cons (o := _) ?hic14 (fun K hK => ?stepc14) (AllReadyH.nil)
          case hic14 => (simp only [List.getElem?_toArray, List.getElem?_cons_succ, List.getElem?_cons_zero]; rfl)
          case stepc14 =>
            go_simp
            (go_at_call 17; (with_reducible refine (pleft17 ok BL.out).mono ?_); rintro e w5 ⟨rfl, hb⟩; rw [LN.out]; have BL := Lib.hid hb; clear hb)
            go_wp2_with fail
            clear hHeld
            refine hK.out _ _ (KEPT.out _ BL.out) (fun hHeld => ?_)
            clear hK K
            try simp only [Act.put, List.setIfInBounds_toArray, List.set_cons_zero, List.set_cons_succ]
            refine' takeY (i := 14) (oi := _) (v := _) ?hic15 (by kernel_rfl) (by kernel_rfl) (by kernel_rfl) (fun _ _ _ h => h) ?hwc15 ?hyc15 hHeld ?restc15
            case hic15 => (simp only [List.getElem?_toArray, List.getElem?_cons_succ, List.getElem?_cons_zero]; rfl)
            case hwc15 => rfl
            case hyc15 => (intro w hSw; (try dsimp only at hSw); go_simp; try with_reducible rfl)
            try simp only [Act.put, List.setIfInBounds_toArray, List.set_cons_zero, List.set_cons_succ]
            refine' takeY (i := 15) (oi := _) (v := _) ?hic16 (by kernel_rfl) (by kernel_rfl) (by kernel_rfl) (fun _ _ _ h => h) ?hwc16 ?hyc16 hHeld ?restc16
            case hic16 => (simp only [List.getElem?_toArray, List.getElem?_cons_succ, List.getElem?_cons_zero]; rfl)
            case hwc16 => rfl
            case hyc16 => (intro w hSw; (try dsimp only at hSw); go_simp; try with_reducible rfl)
            try simp only [Act.put, List.setIfInBounds_toArray, List.set_cons_zero, List.set_cons_succ]
            refine' takeY (i := 16) (oi := _) (v := _) ?hic17 (by kernel_rfl) (by kernel_rfl) (by kernel_rfl) (fun _ _ _ h => h) ?hwc17 ?hyc17 hHeld ?restc17
            case hic17 => (simp only [List.getElem?_toArray, List.getElem?_cons_succ, List.getElem?_cons_zero]; rfl)
            case hwc17 => rfl
            case hyc17 => (intro w hSw; (try dsimp only at hSw); go_simp; try with_reducible rfl)
            try simp only [Act.put, List.setIfInBounds_toArray, List.set_cons_zero, List.set_cons_succ]
            refine' takeY (i := 17) (oi := _) (v := _) ?hic18 (by kernel_rfl) (by kernel_rfl) (by kernel_rfl) (fun _ _ _ h => h) ?hwc18 ?hyc18 hHeld ?restc18
            case hic18 => (simp only [List.getElem?_toArray, List.getElem?_cons_succ, List.getElem?_cons_zero]; rfl)
            case hwc18 => rfl
            case hyc18 => (intro w hSw; (try dsimp only at hSw); go_simp; try with_reducible rfl)
            try simp only [Act.put, List.setIfInBounds_toArray, List.set_cons_zero, List.set_cons_succ]
            refine' takeY (i := 18) (oi := _) (v := _) ?hic19 (by kernel_rfl) (by kernel_rfl) (by kernel_rfl) (fun _ _ _ h => h) ?hwc19 ?hyc19 hHeld ?restc19
            case hic19 => (simp only [List.getElem?_toArray, List.getElem?_cons_succ, List.getElem?_cons_zero]; rfl)
            case hwc19 => rfl
            case hyc19 => (intro w hSw; (try dsimp only at hSw); go_simp; try with_reducible rfl)
            try simp only [Act.put, List.setIfInBounds_toArray, List.set_cons_zero, List.set_cons_succ]
            refine' takeY (i := 20) (oi := _) (v := _) ?hic20 (by kernel_rfl) (by kernel_rfl) (by kernel_rfl) (fun _ _ _ h => h) ?hwc20 ?hyc20 hHeld ?restc20
            case hic20 => (simp only [List.getElem?_toArray, List.getElem?_cons_succ, List.getElem?_cons_zero]; rfl)
            case hwc20 => rfl
            case hyc20 => (intro w hSw; (try dsimp only at hSw); go_simp; try with_reducible rfl)
            try simp only [Act.put, List.setIfInBounds_toArray, List.set_cons_zero, List.set_cons_succ]
            refine' takeY (i := 21) (oi := _) (v := _) ?hic21 (by kernel_rfl) (by kernel_rfl) (by kernel_rfl) (fun _ _ _ h => h) ?hwc21 ?hyc21 hHeld ?restc21
            case hic21 => (simp only [List.getElem?_toArray, List.getElem?_cons_succ, List.getElem?_cons_zero]; rfl)
            case hwc21 => rfl
            case hyc21 => (intro w hSw; (try dsimp only at hSw); go_simp; try with_reducible rfl)
            try simp only [Act.put, List.setIfInBounds_toArray, List.set_cons_zero, List.set_cons_succ]
            refine wpAnyH_ready (rs := [19]) (by kernel_rfl) (by simp) ?_
            refine' AllReadyH.cons (o := _) ?hic22 (fun K hK => ?stepc22) (AllReadyH.nil)
            case hic22 => (simp only [List.getElem?_toArray, List.getElem?_cons_succ, List.getElem?_cons_zero]; rfl)
            case stepc22 =>
              go_simp
              (go_at_call 18; (with_reducible refine (ptaken17 ok id BL.out).mono ?_); rintro e w6 ⟨rfl, hb⟩; rw [TB.out]; have BL := Lib.hid hb; clear hb)
              go_wp2_with fail
              clear hHeld
              refine hK.out _ _ (KEPT.out _ BL.out) (fun hHeld => ?_)
              clear hK K
              try simp only [Act.put, List.setIfInBounds_toArray, List.set_cons_zero, List.set_cons_succ]
              refine wpAnyH_ready (rs := [22]) (by kernel_rfl) (by simp) ?_
              refine' AllReadyH.cons (o := _) ?hic23 (fun K hK => ?stepc23) (AllReadyH.nil)
              case hic23 => (simp only [List.getElem?_toArray, List.getElem?_cons_succ, List.getElem?_cons_zero]; rfl)
              case stepc23 =>
                go_simp
                (go_at_call 19; (with_reducible refine (qtaken17 id BL.out).mono ?_); rintro e w7 ⟨rfl, hb⟩; rw [TB.out]; have BL := Lib.hid hb; clear hb)
                go_wp2_with fail
                clear hHeld
                refine hK.out _ _ (KEPT.out _ BL.out) (fun hHeld => ?_)
                clear hK K
                try simp only [Act.put, List.setIfInBounds_toArray, List.set_cons_zero, List.set_cons_succ]
                refine' takeY (i := 23) (oi := _) (v := _) ?hic24 (by kernel_rfl) (by kernel_rfl) (by kernel_rfl) (fun _ _ _ h => h) ?hwc24 ?hyc24 hHeld ?restc24
                case hic24 => (simp only [List.getElem?_toArray, List.getElem?_cons_succ, List.getElem?_cons_zero]; rfl)
                case hwc24 => rfl
                case hyc24 => (intro w hSw; (try dsimp only at hSw); go_simp; try with_reducible rfl)
                try simp only [Act.put, List.setIfInBounds_toArray, List.set_cons_zero, List.set_cons_succ]
                refine' takeY (i := 24) (oi := _) (v := _) ?hic25 (by kernel_rfl) (by kernel_rfl) (by kernel_rfl) (fun _ _ _ h => h) ?hwc25 ?hyc25 hHeld ?restc25
                case hic25 => (simp only [List.getElem?_toArray, List.getElem?_cons_succ, List.getElem?_cons_zero]; rfl)
                case hwc25 => rfl
                case hyc25 => (intro w hSw; (try dsimp only at hSw); go_simp; try with_reducible rfl)
                try simp only [Act.put, List.setIfInBounds_toArray, List.set_cons_zero, List.set_cons_succ]
                refine wpAnyH_done (by kernel_rfl) ?_ _
                refine NoPanic.normal ?_
                go_wp2
                go_roundw
                case rel => exact ⟨i + 1, _, by go_num, by omega, by omega, ⟨_, BL.out⟩⟩
                case measure => simp [intOf]; omega
      · have b2 : decide ((i : Int) < 150) = false := by simp; omega
        have b2' : decide (i < 150) = false := by simp; omega
        have BF := Lib.hid (show Below w.heap.size w wr by obtain ⟨v, b⟩ := HB.out; exact b.below)
        go_wp2
        go_ret
        exact ⟨rfl, BF.out⟩
    · have b1 : decide ((i : Int) < (len : Int)) = false := by simp; omega
      have b1' : decide (i < len) = false := by simp; omega
      have BF := Lib.hid (show Below w.heap.size w wr by obtain ⟨v, b⟩ := HB.out; exact b.below)
      go_wp2
      go_ret
      exact ⟨rfl, BF.out⟩
end Go.Proofs.Ytgkmhnkndjfcaaa
