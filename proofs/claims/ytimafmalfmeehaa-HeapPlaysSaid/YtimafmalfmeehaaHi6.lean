/-
  The walk of the law HeapPlays, for a package heap that is as P7.1 and P7.2 say.
-/
import Derived.Test.YtimafmalfmeehaaHi5
import Derived.Deep.CutBlock
namespace Go.Proofs.Ytimafmalfmeehaa
open Go.RowKit

section
variable {Hp : World → Nat → (Nat → Prop) → List Th → Prop}
/-- both heaps -/
def Pair7 (Hp : World → Nat → (Nat → Prop) → List Th → Prop) (w : World) (g r : Nat) (ts : List Th) (wr : World) : Prop :=
  ∃ F G, Hp wr g F ts ∧ RH wr r G ts ∧ Apart F G ∧ From F w.heap.size ∧ From G w.heap.size ∧ Below w.heap.size w wr
theorem Both.pair {w wr : World} {g r bx : Nat} {cs : Array Value} {ts : List Th} (h : Both Hp w g r bx cs ts ts wr) : Pair7 Hp w g r ts wr := by
  obtain ⟨F, G, h1, h2, h3, h4, h5, _, _, _, h9⟩ := h
  exact ⟨F, G, h1, h2, h3, h4, h5, h9⟩
theorem Pair7.below {w wr : World} {g r : Nat} {ts : List Th} (h : Pair7 Hp w g r ts wr) : Below w.heap.size w wr := by obtain ⟨_, _, _, _, _, _, _, h⟩ := h; exact h
theorem Pair7.box (ok : HeapOk Hp) {w wr : World} {g r : Nat} {ts : List Th} (h : Pair7 Hp w g r ts wr) (cs : Array Value) : Both Hp w g r wr.heap.size cs ts ts (wr.alloc (.cells cs 32)) := by
  obtain ⟨F, G, h1, h2, h3, h4, h5, h9⟩ := h
  exact ⟨F, G, ok.keeps h1 (Keeps.of (F := fun _ => False) (wbox _ _)) (fun _ _ q => q), h2.below (wbox _ _), h3, h4, h5, Blk.new _ _ _, (fun q => Nat.lt_irrefl _ (ok.lies h1 _ q)), (fun q => Nat.lt_irrefl _ (h2.lies _ q)), below_next h9 (wbox _ _)⟩
variable (ok : HeapOk Hp) {w wr : World} (g r bx : Nat) (cs : Array Value) (th tr : List Th)
include ok
theorem b3lenK (h : Both Hp w g r bx cs th tr wr) (hl : th.length ≤ 500) : Calls Try.prog 24 #[.pointer (some ⟨g, 0, none⟩)] wr fun e w' => e = .returned (.int .i64 (th.length : Int)) ∧ Both Hp w g r bx cs th tr w' ∧ w'.cell? ⟨r, 0, none⟩ = wr.cell? ⟨r, 0, none⟩ := by
  obtain ⟨F, G, h1, h2, h3, h4, h5, h6, h7, h8, h9⟩ := h
  refine (ok.len g F th wr h1 hl).mono fun _ w' ⟨a, b⟩ => ⟨a, b3heap h2 h3 h4 h5 h6 h7 h8 h9 b, ?_⟩
  obtain ⟨F', _, m⟩ := b
  obtain ⟨v, hb, _, hG, _⟩ := h2
  exact World.cell?_of_block (w := wr) (a := ⟨r, 0, none⟩) (m.keeps.block r hb.lt (h3.symm r ((hG r).mpr (.inl rfl))))
theorem b3pushY (id x : Int) (h : Both Hp w g r bx cs th tr wr) (hin : InR id) (hl : th.length ≤ 500) (hp : placeT th id < 0) : Calls Try.prog 19 #[.pointer (some ⟨g, 0, none⟩), .int .i64 id, .int .i64 x] wr fun e w' => e = .returned (.bool true) ∧ Both Hp w g r bx cs (th ++ [⟨id, x⟩]) tr w' := by
  refine (b3push ok g r bx cs th tr id x h hin hl).mono fun _ _ h => ?_
  rcases h with ⟨a, rfl, c⟩ | ⟨a, rfl, c⟩
  · omega
  · exact ⟨rfl, c⟩
theorem b3pushN (id x : Int) (h : Both Hp w g r bx cs th tr wr) (hin : InR id) (hl : th.length ≤ 500) (hp : 0 ≤ placeT th id) : Calls Try.prog 19 #[.pointer (some ⟨g, 0, none⟩), .int .i64 id, .int .i64 x] wr fun e w' => e = .returned (.bool false) ∧ Both Hp w g r bx cs th tr w' := by
  refine (b3push ok g r bx cs th tr id x h hin hl).mono fun _ _ h => ?_
  rcases h with ⟨a, rfl, c⟩ | ⟨a, rfl, c⟩
  · exact ⟨rfl, c⟩
  · omega
theorem c3pushY (id x : Int) (h : Both Hp w g r bx cs th tr wr) (hl : tr.length ≤ 500) (hp : placeT tr id < 0) : Calls Try.prog 20 #[.pointer (some ⟨r, 0, none⟩), .int .i64 id, .int .i64 x] wr fun e w' => e = .returned (.bool true) ∧ Both Hp w g r bx cs th (tr ++ [⟨id, x⟩]) w' := by
  refine (c3push ok g r bx cs th tr id x h hl).mono fun _ _ h => ?_
  rcases h with ⟨a, rfl, c⟩ | ⟨a, rfl, c⟩
  · omega
  · exact ⟨rfl, c⟩
theorem c3pushN (id x : Int) (h : Both Hp w g r bx cs th tr wr) (hl : tr.length ≤ 500) (hp : 0 ≤ placeT tr id) : Calls Try.prog 20 #[.pointer (some ⟨r, 0, none⟩), .int .i64 id, .int .i64 x] wr fun e w' => e = .returned (.bool false) ∧ Both Hp w g r bx cs th tr w' := by
  refine (c3push ok g r bx cs th tr id x h hl).mono fun _ _ h => ?_
  rcases h with ⟨a, rfl, c⟩ | ⟨a, rfl, c⟩
  · exact ⟨rfl, c⟩
  · omega
end
theorem ops_at {w : World} {a : Option Addr} {len cap : Nat} {rs : List (List Value)} (h : RowF w a len cap 3 rs) (f : ∀ r ∈ rs, Fit [.int .i64, .int .i64, .int .i64] r) {i : Nat} (hi : i < len) : ∃ b off K I X, a = some ⟨b, off, none⟩ ∧ w.cell? ⟨b, off + i * 3, none⟩ = some (.int .i64 K) ∧ w.cell? ⟨b, off + i * 3 + 1, none⟩ = some (.int .i64 I) ∧ w.cell? ⟨b, off + i * 3 + 2, none⟩ = some (.int .i64 X) := by
  obtain ⟨b, off, ha, hc⟩ := h.2.2.2.2 i hi
  have hl : i < rs.length := by rw [h.1]; exact hi
  have g := f rs[i] (List.getElem_mem hl)
  obtain ⟨K, q0, e0, _, g⟩ := g.int
  obtain ⟨I, q1, rfl, _, g⟩ := g.int
  obtain ⟨X, q2, rfl, _, g⟩ := g.int
  have e : rs.getD i [] = .int .i64 K :: .int .i64 I :: .int .i64 X :: q2 := by rw [List.getD_eq_getElem?_getD, List.getElem?_eq_getElem hl, ← e0]; rfl
  rw [e] at hc
  exact ⟨b, off, K, I, X, ha, hc 0 (by omega), hc 1 (by omega), hc 2 (by omega)⟩
theorem b31_bd (x : Int) : 0 ≤ bits .and .i64 x 31 ∧ bits .and .i64 x 31 ≤ 31 := by
  have h : (BitVec.ofInt 64 x &&& BitVec.ofInt 64 31).toNat ≤ 31 := by
    rw [BitVec.toNat_and]
    exact Nat.and_le_right
  have e : bits .and .i64 x 31 = ((BitVec.ofInt 64 x &&& BitVec.ofInt 64 31).toNat : Int) := by
    show IntKind.i64.wrap ((BitVec.ofInt 64 x &&& BitVec.ofInt 64 31).toNat : Int) = _
    exact IntWalk.i64_in _ (by omega)
  omega
theorem b31_in (x : Int) : InR (bits .and .i64 x 31) := by
  have := b31_bd x
  unfold InR; omega
set_option maxRecDepth 100000 in
set_option maxHeartbeats 8000000 in
theorem hplays_walk {Hp : World → Nat → (Nat → Prop) → List Th → Prop} (ok : HeapOk Hp) (a : Option Addr) (len cap : Nat) (rs : List (List Value)) (w : World) (h : RowF w a len cap 3 rs) (f : ∀ r ∈ rs, Fit [.int .i64, .int .i64, .int .i64] r) : Calls Try.prog 3 #[.slice a len cap] w fun e w' => e = .returned (.bool true) ∧ Below w.heap.size w w' := by
  have OK := Lib.hid ok
  have AT := Lib.hid (fun (i : Nat) (hi : i < len) => ops_at h f hi)
  have zc := h.cap_le
  clear h f ok
  go_enter Try.func3, Try.ntmps3
  go_wp2_with fail
  refine (l7awake OK.out _).mono ?_
  rintro e w1 ⟨rfl, hb⟩
  have B := Lib.hid hb
  clear hb
  go_wp2_with fail
  refine (OK.out.new _).mono ?_
  rintro e w2 ⟨g, F, rfl, hh, hF, hb⟩
  have P0 := Lib.hid (show Pair7 Hp w g w2.heap.size [] (w2.alloc (.cells #[.slice none 0 0] 30)) from
    ⟨F, (fun k => k = w2.heap.size), OK.out.keeps hh (Keeps.of (F := fun _ => False) (wbox _ _)) (fun _ _ q => q), ⟨.slice none 0 0, Blk.new _ _ _, World.ownsRow_nil _ _ _ _, fun k => by simp [Value.ownBlock], by simp [Value.ownBlock]⟩, (fun k q e => by have := OK.out.lies hh k q; omega), (fun k q => Nat.le_trans B.out.size (hF k q)), (fun k q => by rw [q]; exact (below_next B.out hb).size), below_next (below_next B.out hb) (wbox _ _)⟩)
  clear hh hF hb B
  go_wp2
  obtain ⟨r, hr⟩ : ∃ r, w2.heap.size = r := ⟨_, rfl⟩
  rw [hr] at P0 ⊢
  clear hr
  go_loopw [6] (fun u wr => ∃ (i : Nat) (ts : List Th), u = .int .i64 i ∧ i ≤ len ∧ i ≤ 80 ∧ ts.length ≤ i ∧ Pair7 Hp w g r ts wr) (fun u _ => len - (intOf u).toNat)
  case atStart => exact ⟨0, [], rfl, by omega, by omega, by simp, P0.out⟩
  case round =>
    obtain ⟨i, ts, rfl, il, i80, tl, hp⟩ := hrel
    clear P0
    have P := Lib.hid hp
    have HTS := Lib.hid tl
    clear hp
    by_cases d1 : i < len
    · have b1 : decide (i < len) = true := by simp; omega
      have b2 : decide ((i : Int) < (len : Int)) = true := by simp; omega
      by_cases d2 : i < 80
      · have b3 : decide ((i : Int) < 80) = true := by simp; omega
        have b3n : decide (i < 80) = true := by simp; omega
        obtain ⟨ba, oa, K, I, X, rfl, hk0, hk1, hk2⟩ := AT.out i d1
        have c0 := hb_cell P.out.below hk0
        have c1 := hb_cell P.out.below hk1
        have c2 := hb_cell P.out.below hk2
        have i1 : (i : Int) < (len : Int) := by omega
        have i2 : 0 ≤ (i : Int) := by omega
        have M := Lib.hid (P.out.box OK.out #[.int .i64 K, .int .i64 I, .int .i64 X])
        have OW := Lib.hid (M.out.own OK.out)
        obtain ⟨id, hid⟩ : ∃ id, bits .and .i64 I 31 = id := ⟨_, rfl⟩
        have IDR := Lib.hid (show InR id by rw [← hid]; exact b31_in I)
        obtain ⟨kd, hkd⟩ : ∃ kd, bits .and .i64 K 7 = kd := ⟨_, rfl⟩
        clear hk0 hk1 hk2
        go_upto_region 12 with fail
        obtain ⟨W1, hW1⟩ : ∃ W1, wr.alloc (Obj.cells #[.int .i64 K, .int .i64 I, .int .i64 X] 32) = W1 := ⟨_, rfl⟩
        obtain ⟨bx, hbx⟩ : ∃ bx, wr.heap.size = bx := ⟨_, rfl⟩
        rw [hW1, hbx] at M
        rw [hW1, hbx]
        clear hW1 hbx c0 c1 c2
        have x0 := M.out.box.cell 0; have x1' := M.out.box.cell 1; have x2 := M.out.box.cell 2
        simp at x0 x1' x2
        go_upto_block 2 with fail
        go_cut [9] (fun s9 wx => s9 = .bool true ∧ ∃ ts', ts'.length ≤ i + 1 ∧ Both Hp w g r bx #[.int .i64 K, .int .i64 I, .int .i64 X] ts' ts' wx)
        case rest => as_aux_lemma =>
          obtain ⟨rfl, ts', htl, hm⟩ := hcut
          clear M
          have M := Lib.hid hm
          clear hm x0 x1' x2
          have HL := Lib.hid (show (ts').length ≤ i + 1 from htl)
          go_wp2_with fail
          refine (b3ids OK.out g r bx _ (ts') (ts') M.out (by have := HL.out; omega)).mono ?_
          rintro e w7 ⟨a1, l1, c1, rfl, hr1, hm⟩
          have M := Lib.hid hm
          have R1 := Lib.hid hr1
          clear hm hr1
          go_wp2_with fail
          refine (c3ids OK.out g r bx _ (ts') (ts') M.out (by have := HL.out; omega)).mono ?_
          rintro e w8 ⟨a2, l2, c2, rfl, hr2, hb2, hm⟩
          obtain rfl : l1 = l2 := R1.out.len.symm.trans hr2.len
          have M := Lib.hid hm
          have R1 := Lib.hid (R1.out.below hb2)
          have R2 := Lib.hid hr2
          clear hm hr2 hb2
          go_wp2_with fail
          refine (r7same_yes a1 a2 l1 c1 c2 _ _ R1.out R2.out).mono ?_
          rintro e wz ⟨rfl, hb⟩
          have M := Lib.hid (M.out.next OK.out hb)
          clear hb R1 R2
          obtain ⟨ar, cr, hcr, _⟩ := M.out.row
          go_upto_region 31 with fail
          have M := Lib.hid (show Both Hp w g r bx #[.int .i64 K, .int .i64 I, .int .i64 X] (ts') (ts') wz.drew from M.out.next OK.out ((Below.refl _ _).drew))
          have BL := Lib.hid (show wz.drew.cell? ⟨r, 0, none⟩ = some (.slice ar (ts').length cr) from hcr)
          have KEPT := Lib.hid (show ∀ w' : World, w'.cell? ⟨r, 0, none⟩ = some (.slice ar (ts').length cr) → w'.cell? ⟨r, 0, none⟩ = some (.slice ar (ts').length cr) from fun _ h => h)
          clear hcr
          refine wp_region_noPanic ?_
          refine wp_region_held_drew (S := fun w' => w'.cell? ⟨r, 0, none⟩ = some (.slice ar (ts').length cr)) (by kernel_rfl) (KEPT.out _ BL.out) (fun hHeld => ?_)
          refine' takeY (i := 0) (oi := _) (v := _) ?hit1x0 (by kernel_rfl) (by kernel_rfl) (by kernel_rfl) (fun _ _ _ h => h) ?hwt1x0 ?hyt1x0 hHeld ?restt1x0
          case hit1x0 => (simp only [List.getElem?_toArray, List.getElem?_cons_zero]; rfl)
          case hwt1x0 => rfl
          case hyt1x0 => (intro w hSw; (try dsimp only at hSw); go_simp; try with_reducible rfl)
          try simp only [Act.put, List.setIfInBounds_toArray, List.set_cons_zero, List.set_cons_succ]
          refine' takeY (i := 1) (oi := _) (v := _) ?hit1x1 (by kernel_rfl) (by kernel_rfl) (by kernel_rfl) (fun _ _ _ h => h) ?hwt1x1 ?hyt1x1 hHeld ?restt1x1
          case hit1x1 => (simp only [List.getElem?_toArray, List.getElem?_cons_succ, List.getElem?_cons_zero]; rfl)
          case hwt1x1 => rfl
          case hyt1x1 => (intro w hSw; (try dsimp only at hSw); go_simp; try with_reducible rfl)
          try simp only [Act.put, List.setIfInBounds_toArray, List.set_cons_zero, List.set_cons_succ]
          refine' takeY (i := 2) (oi := _) (v := _) ?hit1x2 (by kernel_rfl) (by kernel_rfl) (by kernel_rfl) (fun _ _ _ h => h) ?hwt1x2 ?hyt1x2 hHeld ?restt1x2
          case hit1x2 => (simp only [List.getElem?_toArray, List.getElem?_cons_succ, List.getElem?_cons_zero]; rfl)
          case hwt1x2 => rfl
          case hyt1x2 => (intro w hSw; (try dsimp only at hSw); go_simp; try with_reducible rfl)
          try simp only [Act.put, List.setIfInBounds_toArray, List.set_cons_zero, List.set_cons_succ]
          refine' takeY (i := 3) (oi := _) (v := _) ?hit1x3 (by kernel_rfl) (by kernel_rfl) (by kernel_rfl) (fun _ _ _ h => h) ?hwt1x3 ?hyt1x3 hHeld ?restt1x3
          case hit1x3 => (simp only [List.getElem?_toArray, List.getElem?_cons_succ, List.getElem?_cons_zero]; rfl)
          case hwt1x3 => rfl
          case hyt1x3 => (intro w hSw; (try dsimp only at hSw); go_simp; try with_reducible rfl)
          try simp only [Act.put, List.setIfInBounds_toArray, List.set_cons_zero, List.set_cons_succ]
          refine' takeY (i := 4) (oi := _) (v := _) ?hit1x4 (by kernel_rfl) (by kernel_rfl) (by kernel_rfl) (fun _ _ _ h => h) ?hwt1x4 ?hyt1x4 hHeld ?restt1x4
          case hit1x4 => (simp only [List.getElem?_toArray, List.getElem?_cons_succ, List.getElem?_cons_zero]; rfl)
          case hwt1x4 => rfl
          case hyt1x4 => (intro w hSw; (try dsimp only at hSw); go_simp; try with_reducible rfl)
          try simp only [Act.put, List.setIfInBounds_toArray, List.set_cons_zero, List.set_cons_succ]
          refine' takeY (i := 5) (oi := _) (v := _) ?hit1x5 (by kernel_rfl) (by kernel_rfl) (by kernel_rfl) (fun _ _ _ h => h) ?hwt1x5 ?hyt1x5 hHeld ?restt1x5
          case hit1x5 => (simp only [List.getElem?_toArray, List.getElem?_cons_succ, List.getElem?_cons_zero]; rfl)
          case hwt1x5 => rfl
          case hyt1x5 => (intro w hSw; (try dsimp only at hSw); go_simp; try with_reducible rfl)
          try simp only [Act.put, List.setIfInBounds_toArray, List.set_cons_zero, List.set_cons_succ]
          refine' takeY (i := 6) (oi := _) (v := _) ?hit1x6 (by kernel_rfl) (by kernel_rfl) (by kernel_rfl) (fun _ _ _ h => h) ?hwt1x6 ?hyt1x6 hHeld ?restt1x6
          case hit1x6 => (simp only [List.getElem?_toArray, List.getElem?_cons_succ, List.getElem?_cons_zero]; rfl)
          case hwt1x6 => rfl
          case hyt1x6 => (intro w hSw; (try dsimp only at hSw); go_simp; try with_reducible rfl)
          try simp only [Act.put, List.setIfInBounds_toArray, List.set_cons_zero, List.set_cons_succ]
          refine' takeY (i := 7) (oi := _) (v := _) ?hit1x7 (by kernel_rfl) (by kernel_rfl) (by kernel_rfl) (fun _ _ _ h => h) ?hwt1x7 ?hyt1x7 hHeld ?restt1x7
          case hit1x7 => (simp only [List.getElem?_toArray, List.getElem?_cons_succ, List.getElem?_cons_zero]; rfl)
          case hwt1x7 => rfl
          case hyt1x7 => (intro w hSw; (try dsimp only at hSw); go_simp; try with_reducible rfl)
          try simp only [Act.put, List.setIfInBounds_toArray, List.set_cons_zero, List.set_cons_succ]
          refine' takeY (i := 9) (oi := _) (v := _) ?hit1x8 (by kernel_rfl) (by kernel_rfl) (by kernel_rfl) (fun _ _ _ h => h) ?hwt1x8 ?hyt1x8 hHeld ?restt1x8
          case hit1x8 => (simp only [List.getElem?_toArray, List.getElem?_cons_succ, List.getElem?_cons_zero]; rfl)
          case hwt1x8 => rfl
          case hyt1x8 => (intro w hSw; (try dsimp only at hSw); go_simp; try with_reducible rfl)
          try simp only [Act.put, List.setIfInBounds_toArray, List.set_cons_zero, List.set_cons_succ]
          refine' takeY (i := 10) (oi := _) (v := _) ?hit1x9 (by kernel_rfl) (by kernel_rfl) (by kernel_rfl) (fun _ _ _ h => h) ?hwt1x9 ?hyt1x9 hHeld ?restt1x9
          case hit1x9 => (simp only [List.getElem?_toArray, List.getElem?_cons_succ, List.getElem?_cons_zero]; rfl)
          case hwt1x9 => rfl
          case hyt1x9 => (intro w hSw; (try dsimp only at hSw); go_simp; try with_reducible rfl)
          try simp only [Act.put, List.setIfInBounds_toArray, List.set_cons_zero, List.set_cons_succ]
          refine' takeY (i := 11) (oi := _) (v := _) ?hit1x10 (by kernel_rfl) (by kernel_rfl) (by kernel_rfl) (fun _ _ _ h => h) ?hwt1x10 ?hyt1x10 hHeld ?restt1x10
          case hit1x10 => (simp only [List.getElem?_toArray, List.getElem?_cons_succ, List.getElem?_cons_zero]; rfl)
          case hwt1x10 => rfl
          case hyt1x10 => (intro w hSw; (try dsimp only at hSw); go_simp; try with_reducible rfl)
          try simp only [Act.put, List.setIfInBounds_toArray, List.set_cons_zero, List.set_cons_succ]
          refine' takeY (i := 12) (oi := _) (v := _) ?hit1x11 (by kernel_rfl) (by kernel_rfl) (by kernel_rfl) (fun _ _ _ h => h) ?hwt1x11 ?hyt1x11 hHeld ?restt1x11
          case hit1x11 => (simp only [List.getElem?_toArray, List.getElem?_cons_succ, List.getElem?_cons_zero]; rfl)
          case hwt1x11 => rfl
          case hyt1x11 => (intro w hSw; (try dsimp only at hSw); go_simp; try with_reducible rfl)
          try simp only [Act.put, List.setIfInBounds_toArray, List.set_cons_zero, List.set_cons_succ]
          refine' takeY (i := 13) (oi := _) (v := _) ?hit1x12 (by kernel_rfl) (by kernel_rfl) (by kernel_rfl) (fun _ _ _ h => h) ?hwt1x12 ?hyt1x12 hHeld ?restt1x12
          case hit1x12 => (simp only [List.getElem?_toArray, List.getElem?_cons_succ, List.getElem?_cons_zero]; rfl)
          case hwt1x12 => rfl
          case hyt1x12 => (intro w hSw; (try dsimp only at hSw); go_simp; try with_reducible rfl)
          try simp only [Act.put, List.setIfInBounds_toArray, List.set_cons_zero, List.set_cons_succ]
          refine wpAnyH_ready (rs := [8]) (by kernel_rfl) (by simp) ?_
          refine' AllReadyH.cons (o := _) ?hit1x13 (fun K hK => ?stept1x13) AllReadyH.nil
          case hit1x13 => (simp only [List.getElem?_toArray, List.getElem?_cons_succ, List.getElem?_cons_zero]; rfl)
          go_simp
          (go_at_call 24; (with_reducible refine (b3lenK OK.out g r bx _ (ts') (ts') M.out (by have := HL.out; omega)).mono ?_); rintro e w9 ⟨rfl, hm, hcell⟩; have M := Lib.hid hm; have BL := Lib.hid (hcell.trans BL.out); clear hm hcell)
          go_wp2_with fail
          clear hHeld
          refine hK.out _ _ (KEPT.out _ BL.out) (fun hHeld => ?_)
          clear hK K
          try simp only [Act.put, List.setIfInBounds_toArray, List.set_cons_zero, List.set_cons_succ]
          refine' takeY (i := 14) (oi := _) (v := _) ?hit1x14 (by kernel_rfl) (by kernel_rfl) (by kernel_rfl) (fun _ _ _ h => h) ?hwt1x14 ?hyt1x14 hHeld ?restt1x14
          case hit1x14 => (simp only [List.getElem?_toArray, List.getElem?_cons_succ, List.getElem?_cons_zero]; rfl)
          case hwt1x14 => rfl
          case hyt1x14 => (intro w hSw; (try dsimp only at hSw); go_simp; try with_reducible rfl)
          try simp only [Act.put, List.setIfInBounds_toArray, List.set_cons_zero, List.set_cons_succ]
          refine' takeY (i := 15) (oi := _) (v := _) ?hit1x15 (by kernel_rfl) (by kernel_rfl) (by kernel_rfl) (fun _ _ _ h => h) ?hwt1x15 ?hyt1x15 hHeld ?restt1x15
          case hit1x15 => (simp only [List.getElem?_toArray, List.getElem?_cons_succ, List.getElem?_cons_zero]; rfl)
          case hwt1x15 => rfl
          case hyt1x15 => (intro w hSw; (try dsimp only at hSw); go_simp; try with_reducible rfl)
          try simp only [Act.put, List.setIfInBounds_toArray, List.set_cons_zero, List.set_cons_succ]
          refine wpAnyH_done (by kernel_rfl) ?_ _
          refine NoPanic.normal ?_
          go_wp2
          go_roundw
          case rel => exact ⟨i + 1, ts', by go_num, by omega, by omega, HL.out, M.out.pair⟩
          case measure => simp [intOf]; omega
        by_cases k4 : kd = 4
        · as_aux_lemma =>
          have e4 : (kd == 4) = true := by simp [k4]
          clear k4
          go_wp2_with fail
          refine (b3pop OK.out g r bx _ ts ts M.out (by omega)).mono ?_
          rintro e w4 (⟨hE, rfl, hm⟩ | ⟨k, t, ht, hmin, rfl, hm⟩)
          · have M := Lib.hid hm
            clear hm
            go_wp2_with fail
            refine (c3pop OK.out g r bx _ ts ts M.out (by omega)).mono ?_
            rintro e w5 (⟨_, rfl, hm⟩ | ⟨k, t, ht, _, _, _⟩)
            case inr => rw [hE] at ht; simp at ht
            have M := Lib.hid hm
            have M := Lib.hid (M.out.next OK.out (wbox w5 (Obj.cells #[.int .i64 0, .int .i64 0] 36)))
            clear hm hE
            have HL := Lib.hid (show (ts).length ≤ i + 1 from by omega)
            go_wp2_with fail
            go_meet
            exact ⟨rfl, ts, HL.out, M.out⟩
          · have M := Lib.hid hm
            have OWN := Lib.hid (show ts.Pairwise (fun a b => a.id ≠ b.id) from OW.out)
            have kl : k < ts.length := by rcases Nat.lt_or_ge k ts.length with y | y; exact y; rw [List.getElem?_eq_none y] at ht; cases ht
            clear hm
            go_wp2_with fail
            refine (c3pop OK.out g r bx _ (ts.eraseIdx k) ts M.out (by omega)).mono ?_
            rintro e w5 (⟨hE, _, _⟩ | ⟨k', t', ht', hmin', rfl, hm⟩)
            · rw [hE] at ht; simp at ht
            obtain rfl : t = t' := min_one OWN.out ht ht' hmin hmin'
            obtain rfl : k = k' := min_place OWN.out ht ht' rfl
            have M := Lib.hid hm
            have M := Lib.hid (M.out.next OK.out (wbox w5 (Obj.cells #[.int .i64 t.id, .int .i64 t.x] 36)))
            have LE := Lib.hid (show (ts.eraseIdx k).length ≤ i + 1 by rw [List.length_eraseIdx, if_pos kl]; omega)
            clear hm ht ht' hmin hmin'
            have HL := Lib.hid (show (ts.eraseIdx k).length ≤ i + 1 from LE.out)
            go_wp2_with fail
            go_meet
            exact ⟨rfl, ts.eraseIdx k, HL.out, M.out⟩
        by_cases k5 : kd = 5
        · as_aux_lemma =>
          have e4 : (kd == 4) = false := by simp [k4]
          have e5 : (kd == 5) = true := by simp [k5]
          clear k4 k5
          go_wp2_with fail
          refine (b3remove OK.out g r bx _ ts ts id M.out IDR.out (by omega)).mono ?_
          rintro e w4 (⟨hE, rfl, hm⟩ | ⟨k, t, hp, ht, rfl, hm⟩)
          · have M := Lib.hid hm
            clear hm
            go_wp2_with fail
            refine (c3remove OK.out g r bx _ ts ts id M.out (by omega)).mono ?_
            rintro e w5 (⟨_, rfl, hm⟩ | ⟨k, t, hp, _, _, _⟩)
            case inr => omega
            have M := Lib.hid hm
            clear hm hE
            have HL := Lib.hid (show (ts).length ≤ i + 1 from by omega)
            go_wp2_with fail
            go_meet
            exact ⟨rfl, ts, HL.out, M.out⟩
          · have M := Lib.hid hm
            have kl : k < ts.length := by rcases Nat.lt_or_ge k ts.length with y | y; exact y; rw [List.getElem?_eq_none y] at ht; cases ht
            clear hm
            go_wp2_with fail
            refine (c3remove OK.out g r bx _ (ts.eraseIdx k) ts id M.out (by omega)).mono ?_
            rintro e w5 (⟨hE, _, _⟩ | ⟨k', t', hp', ht', rfl, hm⟩)
            · omega
            obtain rfl : k = k' := by omega
            obtain rfl : t = t' := by rw [ht] at ht'; exact Option.some.inj ht'
            have M := Lib.hid hm
            have LE := Lib.hid (show (ts.eraseIdx k).length ≤ i + 1 by rw [List.length_eraseIdx, if_pos kl]; omega)
            clear hm ht ht' hp hp'
            have HL := Lib.hid (show (ts.eraseIdx k).length ≤ i + 1 from LE.out)
            go_wp2_with fail
            go_meet
            exact ⟨rfl, ts.eraseIdx k, HL.out, M.out⟩
        by_cases k6 : kd = 6
        · as_aux_lemma =>
          have e4 : (kd == 4) = false := by simp [k4]
          have e5 : (kd == 5) = false := by simp [k5]
          have e6 : (kd == 6) = true := by simp [k6]
          clear k4 k5 k6
          go_wp2_with fail
          refine (b3get OK.out g r bx _ ts ts id M.out IDR.out (by omega)).mono ?_
          rintro e w4 ⟨⟨hE, rfl⟩ | ⟨k, t, hp, ht, rfl⟩, hm⟩
          · have M := Lib.hid hm
            clear hm
            go_wp2_with fail
            refine (c3at OK.out g r bx _ ts ts id M.out (by omega)).mono ?_
            rintro e w5 ⟨rfl, hm⟩
            have M := Lib.hid hm
            obtain ⟨p, hp⟩ : ∃ p, placeT ts id = p := ⟨_, rfl⟩
            rw [hp] at hE ⊢
            have u1 : decide (0 ≤ p) = false := decide_eq_false (by omega)
            clear hm hE hp
            have HL := Lib.hid (show (ts).length ≤ i + 1 from by omega)
            go_wp2_with fail
            go_meet
            exact ⟨rfl, ts, HL.out, M.out⟩
          · have M := Lib.hid hm
            have kl : k < ts.length := by rcases Nat.lt_or_ge k ts.length with y | y; exact y; rw [List.getElem?_eq_none y] at ht; cases ht
            clear hm
            go_wp2_with fail
            refine (c3at OK.out g r bx _ ts ts id M.out (by omega)).mono ?_
            rintro e w5 ⟨rfl, hm⟩
            have M := Lib.hid hm
            rw [hp]
            have u1 : decide (0 ≤ (k : Int)) = true := decide_eq_true (by omega)
            obtain ⟨aq, cq, hcq, hrq⟩ := M.out.row
            obtain ⟨bq, oq, rfl, hat⟩ := hrq.at ht
            have x1 := hat.c1
            obtain ⟨ln, hln⟩ : ∃ ln, ts.length = ln := ⟨_, rfl⟩
            rw [hln] at hcq kl
            have k1 : (k : Int) < (ln : Int) := by omega
            have k2 : 0 ≤ (k : Int) := by omega
            have HLN := Lib.hid hln
            clear hm hp ht hat hrq hln
            have HL := Lib.hid (show (ts).length ≤ i + 1 from by rw [HLN.out]; have := HTS.out; rw [HLN.out] at this; omega)
            go_wp2_with fail
            go_meet
            exact ⟨rfl, ts, HL.out, M.out⟩
        by_cases k7 : kd = 7
        · as_aux_lemma =>
          have e4 : (kd == 4) = false := by simp [k4]
          have e5 : (kd == 5) = false := by simp [k5]
          have e6 : (kd == 6) = false := by simp [k6]
          have e7 : (kd == 7) = true := by simp [k7]
          clear k4 k5 k6 k7
          go_wp2_with fail
          refine (b3min OK.out g r bx _ ts ts M.out (by omega)).mono ?_
          rintro e w4 ⟨⟨hE, rfl⟩ | ⟨k, t, ht, hmin, rfl⟩, hm⟩
          · have M := Lib.hid hm
            clear hm
            go_wp2_with fail
            refine (c3min OK.out g r bx _ ts ts M.out (by omega)).mono ?_
            rintro e w5 ⟨⟨_, rfl⟩ | ⟨k, ⟨t, ht, _⟩, rfl⟩, hm⟩
            case inr => rw [hE] at ht; simp at ht
            have M := Lib.hid hm
            clear hm hE
            have HL := Lib.hid (show (ts).length ≤ i + 1 from by omega)
            go_wp2_with fail
            go_meet
            exact ⟨rfl, ts, HL.out, M.out⟩
          · have M := Lib.hid hm
            have kl : k < ts.length := by rcases Nat.lt_or_ge k ts.length with y | y; exact y; rw [List.getElem?_eq_none y] at ht; cases ht
            clear hm
            go_wp2_with fail
            refine (c3min OK.out g r bx _ ts ts M.out (by omega)).mono ?_
            rintro e w5 ⟨⟨hE, _⟩ | ⟨k', hmin', rfl⟩, hm⟩
            · rw [hE] at ht; simp at ht
            have hmm := hmin'
            obtain ⟨t', ht', _⟩ := hmm
            obtain rfl : t = t' := min_one OW.out ht ht' hmin hmin'
            obtain rfl : k = k' := min_place OW.out ht ht' rfl
            have M := Lib.hid hm
            have u1 : decide (0 ≤ (k : Int)) = true := decide_eq_true (by omega)
            obtain ⟨aq, cq, hcq, hrq⟩ := M.out.row
            obtain ⟨bq, oq, rfl, hat⟩ := hrq.at ht
            have x0 := hat.c0
            have x1 := hat.c1
            obtain ⟨ln, hln⟩ : ∃ ln, ts.length = ln := ⟨_, rfl⟩
            rw [hln] at hcq kl
            have k1 : (k : Int) < (ln : Int) := by omega
            have k2 : 0 ≤ (k : Int) := by omega
            have HLN := Lib.hid hln
            clear hm ht ht' hmin hmin' hat hrq hln
            have HL := Lib.hid (show (ts).length ≤ i + 1 from by rw [HLN.out]; have := HTS.out; rw [HLN.out] at this; omega)
            go_wp2_with fail
            go_meet
            exact ⟨rfl, ts, HL.out, M.out⟩
        have e4 : (kd == 4) = false := by simp [k4]
        have e5 : (kd == 5) = false := by simp [k5]
        have e6 : (kd == 6) = false := by simp [k6]
        have e7 : (kd == 7) = false := by simp [k7]
        clear k4 k5 k6 k7
        by_cases pl : placeT ts id < 0
        · as_aux_lemma =>
          have HPL := Lib.hid pl
          clear pl
          go_upto_region 13 with fail
          have M := Lib.hid (show Both Hp w g r bx #[.int .i64 K, .int .i64 I, .int .i64 X] ts ts W1.drew from M.out.next OK.out ((Below.refl _ _).drew))
          have BL := Lib.hid M.out.box
          have KEPT := Lib.hid (show ∀ w' : World, Blk w' 32 bx #[.int .i64 K, .int .i64 I, .int .i64 X] → w'.cell? ⟨bx, 2, none⟩ = some (.int .i64 X) from fun _ h => h.cell 2)
          refine wp_region_noPanic ?_
          refine wp_region_held_drew (S := fun w' => w'.cell? ⟨bx, 2, none⟩ = some (.int .i64 X)) (by kernel_rfl) (KEPT.out _ BL.out) (fun hHeld => ?_)
          refine' takeY (i := 0) (oi := _) (v := _) ?hipy0 (by kernel_rfl) (by kernel_rfl) (by kernel_rfl) (fun _ _ _ h => h) ?hwpy0 ?hypy0 hHeld ?restpy0
          case hipy0 => (simp only [List.getElem?_toArray, List.getElem?_cons_zero]; rfl)
          case hwpy0 => rfl
          case hypy0 => (intro w hSw; (try dsimp only at hSw); go_simp; try with_reducible rfl)
          try simp only [Act.put, List.setIfInBounds_toArray, List.set_cons_zero, List.set_cons_succ]
          refine' takeY (i := 1) (oi := _) (v := _) ?hipy1 (by kernel_rfl) (by kernel_rfl) (by kernel_rfl) (fun _ _ _ h => h) ?hwpy1 ?hypy1 hHeld ?restpy1
          case hipy1 => (simp only [List.getElem?_toArray, List.getElem?_cons_succ, List.getElem?_cons_zero]; rfl)
          case hwpy1 => rfl
          case hypy1 => (intro w hSw; (try dsimp only at hSw); go_simp; try with_reducible rfl)
          try simp only [Act.put, List.setIfInBounds_toArray, List.set_cons_zero, List.set_cons_succ]
          refine' takeY (i := 2) (oi := _) (v := _) ?hipy2 (by kernel_rfl) (by kernel_rfl) (by kernel_rfl) (fun _ _ _ h => h) ?hwpy2 ?hypy2 hHeld ?restpy2
          case hipy2 => (simp only [List.getElem?_toArray, List.getElem?_cons_succ, List.getElem?_cons_zero]; rfl)
          case hwpy2 => rfl
          case hypy2 => (intro w hSw; (try dsimp only at hSw); go_simp; try with_reducible rfl)
          try simp only [Act.put, List.setIfInBounds_toArray, List.set_cons_zero, List.set_cons_succ]
          refine' takeY (i := 3) (oi := _) (v := _) ?hipy3 (by kernel_rfl) (by kernel_rfl) (by kernel_rfl) (fun _ _ _ h => h) ?hwpy3 ?hypy3 hHeld ?restpy3
          case hipy3 => (simp only [List.getElem?_toArray, List.getElem?_cons_succ, List.getElem?_cons_zero]; rfl)
          case hwpy3 => rfl
          case hypy3 => (intro w hSw; (try dsimp only at hSw); go_simp; try with_reducible rfl)
          try simp only [Act.put, List.setIfInBounds_toArray, List.set_cons_zero, List.set_cons_succ]
          refine' takeY (i := 5) (oi := _) (v := _) ?hipy4 (by kernel_rfl) (by kernel_rfl) (by kernel_rfl) (fun _ _ _ h => h) ?hwpy4 ?hypy4 hHeld ?restpy4
          case hipy4 => (simp only [List.getElem?_toArray, List.getElem?_cons_succ, List.getElem?_cons_zero]; rfl)
          case hwpy4 => rfl
          case hypy4 => (intro w hSw; (try dsimp only at hSw); go_simp; try with_reducible rfl)
          try simp only [Act.put, List.setIfInBounds_toArray, List.set_cons_zero, List.set_cons_succ]
          refine' takeY (i := 6) (oi := _) (v := _) ?hipy5 (by kernel_rfl) (by kernel_rfl) (by kernel_rfl) (fun _ _ _ h => h) ?hwpy5 ?hypy5 hHeld ?restpy5
          case hipy5 => (simp only [List.getElem?_toArray, List.getElem?_cons_succ, List.getElem?_cons_zero]; rfl)
          case hwpy5 => rfl
          case hypy5 => (intro w hSw; (try dsimp only at hSw); go_simp; try with_reducible rfl)
          try simp only [Act.put, List.setIfInBounds_toArray, List.set_cons_zero, List.set_cons_succ]
          refine' takeY (i := 7) (oi := _) (v := _) ?hipy6 (by kernel_rfl) (by kernel_rfl) (by kernel_rfl) (fun _ _ _ h => h) ?hwpy6 ?hypy6 hHeld ?restpy6
          case hipy6 => (simp only [List.getElem?_toArray, List.getElem?_cons_succ, List.getElem?_cons_zero]; rfl)
          case hwpy6 => rfl
          case hypy6 => (intro w hSw; (try dsimp only at hSw); go_simp; try with_reducible rfl)
          try simp only [Act.put, List.setIfInBounds_toArray, List.set_cons_zero, List.set_cons_succ]
          refine' takeY (i := 8) (oi := _) (v := _) ?hipy7 (by kernel_rfl) (by kernel_rfl) (by kernel_rfl) (fun _ _ _ h => h) ?hwpy7 ?hypy7 hHeld ?restpy7
          case hipy7 => (simp only [List.getElem?_toArray, List.getElem?_cons_succ, List.getElem?_cons_zero]; rfl)
          case hwpy7 => rfl
          case hypy7 => (intro w hSw; (try dsimp only at hSw); go_simp; try with_reducible rfl)
          try simp only [Act.put, List.setIfInBounds_toArray, List.set_cons_zero, List.set_cons_succ]
          refine wpAnyH_ready (rs := [4]) (by kernel_rfl) (by simp) ?_
          refine' AllReadyH.cons (o := _) ?hipy8 (fun K hK => ?steppy8) AllReadyH.nil
          case hipy8 => (simp only [List.getElem?_toArray, List.getElem?_cons_succ, List.getElem?_cons_zero]; rfl)
          go_simp
          (go_at_call 19; (with_reducible refine (b3pushY OK.out g r bx _ ts ts id X M.out IDR.out (by omega) HPL.out).mono ?_); rintro e w5 ⟨rfl, hm⟩; have M := Lib.hid hm; have BL := Lib.hid hm.box; clear hm)
          go_wp2_with fail
          clear hHeld
          refine hK.out _ _ (KEPT.out _ BL.out) (fun hHeld => ?_)
          clear hK K
          try simp only [Act.put, List.setIfInBounds_toArray, List.set_cons_zero, List.set_cons_succ]
          refine wpAnyH_ready (rs := [9]) (by kernel_rfl) (by simp) ?_
          refine' AllReadyH.cons (o := _) ?hipy9 (fun K hK => ?steppy9) AllReadyH.nil
          case hipy9 => (simp only [List.getElem?_toArray, List.getElem?_cons_succ, List.getElem?_cons_zero]; rfl)
          go_simp
          (go_at_call 20; (with_reducible refine (c3pushY OK.out g r bx _ (ts ++ [(⟨id, X⟩ : Th)]) ts id X M.out (by omega) HPL.out).mono ?_); rintro e w6 ⟨rfl, hm⟩; have M := Lib.hid hm; have BL := Lib.hid hm.box; clear hm)
          go_wp2_with fail
          clear hHeld
          refine hK.out _ _ (KEPT.out _ BL.out) (fun hHeld => ?_)
          clear hK K
          try simp only [Act.put, List.setIfInBounds_toArray, List.set_cons_zero, List.set_cons_succ]
          refine' takeY (i := 10) (oi := _) (v := _) ?hipy10 (by kernel_rfl) (by kernel_rfl) (by kernel_rfl) (fun _ _ _ h => h) ?hwpy10 ?hypy10 hHeld ?restpy10
          case hipy10 => (simp only [List.getElem?_toArray, List.getElem?_cons_succ, List.getElem?_cons_zero]; rfl)
          case hwpy10 => rfl
          case hypy10 => (intro w hSw; (try dsimp only at hSw); go_simp; try with_reducible rfl)
          try simp only [Act.put, List.setIfInBounds_toArray, List.set_cons_zero, List.set_cons_succ]
          refine' takeY (i := 11) (oi := _) (v := _) ?hipy11 (by kernel_rfl) (by kernel_rfl) (by kernel_rfl) (fun _ _ _ h => h) ?hwpy11 ?hypy11 hHeld ?restpy11
          case hipy11 => (simp only [List.getElem?_toArray, List.getElem?_cons_succ, List.getElem?_cons_zero]; rfl)
          case hwpy11 => rfl
          case hypy11 => (intro w hSw; (try dsimp only at hSw); go_simp; try with_reducible rfl)
          try simp only [Act.put, List.setIfInBounds_toArray, List.set_cons_zero, List.set_cons_succ]
          refine wpAnyH_done (by kernel_rfl) ?_ _
          refine NoPanic.normal ?_
          have HL := Lib.hid (show (ts ++ [(⟨id, X⟩ : Th)]).length ≤ i + 1 from by simp; omega)
          go_wp2_with fail
          go_meet
          exact ⟨rfl, ts ++ [(⟨id, X⟩ : Th)], HL.out, M.out⟩
        · as_aux_lemma =>
          have HPL := Lib.hid (show 0 ≤ placeT ts id by omega)
          clear pl
          go_upto_region 13 with fail
          have M := Lib.hid (show Both Hp w g r bx #[.int .i64 K, .int .i64 I, .int .i64 X] ts ts W1.drew from M.out.next OK.out ((Below.refl _ _).drew))
          have BL := Lib.hid M.out.box
          have KEPT := Lib.hid (show ∀ w' : World, Blk w' 32 bx #[.int .i64 K, .int .i64 I, .int .i64 X] → w'.cell? ⟨bx, 2, none⟩ = some (.int .i64 X) from fun _ h => h.cell 2)
          refine wp_region_noPanic ?_
          refine wp_region_held_drew (S := fun w' => w'.cell? ⟨bx, 2, none⟩ = some (.int .i64 X)) (by kernel_rfl) (KEPT.out _ BL.out) (fun hHeld => ?_)
          refine' takeY (i := 0) (oi := _) (v := _) ?hipn0 (by kernel_rfl) (by kernel_rfl) (by kernel_rfl) (fun _ _ _ h => h) ?hwpn0 ?hypn0 hHeld ?restpn0
          case hipn0 => (simp only [List.getElem?_toArray, List.getElem?_cons_zero]; rfl)
          case hwpn0 => rfl
          case hypn0 => (intro w hSw; (try dsimp only at hSw); go_simp; try with_reducible rfl)
          try simp only [Act.put, List.setIfInBounds_toArray, List.set_cons_zero, List.set_cons_succ]
          refine' takeY (i := 1) (oi := _) (v := _) ?hipn1 (by kernel_rfl) (by kernel_rfl) (by kernel_rfl) (fun _ _ _ h => h) ?hwpn1 ?hypn1 hHeld ?restpn1
          case hipn1 => (simp only [List.getElem?_toArray, List.getElem?_cons_succ, List.getElem?_cons_zero]; rfl)
          case hwpn1 => rfl
          case hypn1 => (intro w hSw; (try dsimp only at hSw); go_simp; try with_reducible rfl)
          try simp only [Act.put, List.setIfInBounds_toArray, List.set_cons_zero, List.set_cons_succ]
          refine' takeY (i := 2) (oi := _) (v := _) ?hipn2 (by kernel_rfl) (by kernel_rfl) (by kernel_rfl) (fun _ _ _ h => h) ?hwpn2 ?hypn2 hHeld ?restpn2
          case hipn2 => (simp only [List.getElem?_toArray, List.getElem?_cons_succ, List.getElem?_cons_zero]; rfl)
          case hwpn2 => rfl
          case hypn2 => (intro w hSw; (try dsimp only at hSw); go_simp; try with_reducible rfl)
          try simp only [Act.put, List.setIfInBounds_toArray, List.set_cons_zero, List.set_cons_succ]
          refine' takeY (i := 3) (oi := _) (v := _) ?hipn3 (by kernel_rfl) (by kernel_rfl) (by kernel_rfl) (fun _ _ _ h => h) ?hwpn3 ?hypn3 hHeld ?restpn3
          case hipn3 => (simp only [List.getElem?_toArray, List.getElem?_cons_succ, List.getElem?_cons_zero]; rfl)
          case hwpn3 => rfl
          case hypn3 => (intro w hSw; (try dsimp only at hSw); go_simp; try with_reducible rfl)
          try simp only [Act.put, List.setIfInBounds_toArray, List.set_cons_zero, List.set_cons_succ]
          refine' takeY (i := 5) (oi := _) (v := _) ?hipn4 (by kernel_rfl) (by kernel_rfl) (by kernel_rfl) (fun _ _ _ h => h) ?hwpn4 ?hypn4 hHeld ?restpn4
          case hipn4 => (simp only [List.getElem?_toArray, List.getElem?_cons_succ, List.getElem?_cons_zero]; rfl)
          case hwpn4 => rfl
          case hypn4 => (intro w hSw; (try dsimp only at hSw); go_simp; try with_reducible rfl)
          try simp only [Act.put, List.setIfInBounds_toArray, List.set_cons_zero, List.set_cons_succ]
          refine' takeY (i := 6) (oi := _) (v := _) ?hipn5 (by kernel_rfl) (by kernel_rfl) (by kernel_rfl) (fun _ _ _ h => h) ?hwpn5 ?hypn5 hHeld ?restpn5
          case hipn5 => (simp only [List.getElem?_toArray, List.getElem?_cons_succ, List.getElem?_cons_zero]; rfl)
          case hwpn5 => rfl
          case hypn5 => (intro w hSw; (try dsimp only at hSw); go_simp; try with_reducible rfl)
          try simp only [Act.put, List.setIfInBounds_toArray, List.set_cons_zero, List.set_cons_succ]
          refine' takeY (i := 7) (oi := _) (v := _) ?hipn6 (by kernel_rfl) (by kernel_rfl) (by kernel_rfl) (fun _ _ _ h => h) ?hwpn6 ?hypn6 hHeld ?restpn6
          case hipn6 => (simp only [List.getElem?_toArray, List.getElem?_cons_succ, List.getElem?_cons_zero]; rfl)
          case hwpn6 => rfl
          case hypn6 => (intro w hSw; (try dsimp only at hSw); go_simp; try with_reducible rfl)
          try simp only [Act.put, List.setIfInBounds_toArray, List.set_cons_zero, List.set_cons_succ]
          refine' takeY (i := 8) (oi := _) (v := _) ?hipn7 (by kernel_rfl) (by kernel_rfl) (by kernel_rfl) (fun _ _ _ h => h) ?hwpn7 ?hypn7 hHeld ?restpn7
          case hipn7 => (simp only [List.getElem?_toArray, List.getElem?_cons_succ, List.getElem?_cons_zero]; rfl)
          case hwpn7 => rfl
          case hypn7 => (intro w hSw; (try dsimp only at hSw); go_simp; try with_reducible rfl)
          try simp only [Act.put, List.setIfInBounds_toArray, List.set_cons_zero, List.set_cons_succ]
          refine wpAnyH_ready (rs := [4]) (by kernel_rfl) (by simp) ?_
          refine' AllReadyH.cons (o := _) ?hipn8 (fun K hK => ?steppn8) AllReadyH.nil
          case hipn8 => (simp only [List.getElem?_toArray, List.getElem?_cons_succ, List.getElem?_cons_zero]; rfl)
          go_simp
          (go_at_call 19; (with_reducible refine (b3pushN OK.out g r bx _ ts ts id X M.out IDR.out (by omega) HPL.out).mono ?_); rintro e w5 ⟨rfl, hm⟩; have M := Lib.hid hm; have BL := Lib.hid hm.box; clear hm)
          go_wp2_with fail
          clear hHeld
          refine hK.out _ _ (KEPT.out _ BL.out) (fun hHeld => ?_)
          clear hK K
          try simp only [Act.put, List.setIfInBounds_toArray, List.set_cons_zero, List.set_cons_succ]
          refine wpAnyH_ready (rs := [9]) (by kernel_rfl) (by simp) ?_
          refine' AllReadyH.cons (o := _) ?hipn9 (fun K hK => ?steppn9) AllReadyH.nil
          case hipn9 => (simp only [List.getElem?_toArray, List.getElem?_cons_succ, List.getElem?_cons_zero]; rfl)
          go_simp
          (go_at_call 20; (with_reducible refine (c3pushN OK.out g r bx _ ts ts id X M.out (by omega) HPL.out).mono ?_); rintro e w6 ⟨rfl, hm⟩; have M := Lib.hid hm; have BL := Lib.hid hm.box; clear hm)
          go_wp2_with fail
          clear hHeld
          refine hK.out _ _ (KEPT.out _ BL.out) (fun hHeld => ?_)
          clear hK K
          try simp only [Act.put, List.setIfInBounds_toArray, List.set_cons_zero, List.set_cons_succ]
          refine' takeY (i := 10) (oi := _) (v := _) ?hipn10 (by kernel_rfl) (by kernel_rfl) (by kernel_rfl) (fun _ _ _ h => h) ?hwpn10 ?hypn10 hHeld ?restpn10
          case hipn10 => (simp only [List.getElem?_toArray, List.getElem?_cons_succ, List.getElem?_cons_zero]; rfl)
          case hwpn10 => rfl
          case hypn10 => (intro w hSw; (try dsimp only at hSw); go_simp; try with_reducible rfl)
          try simp only [Act.put, List.setIfInBounds_toArray, List.set_cons_zero, List.set_cons_succ]
          refine' takeY (i := 11) (oi := _) (v := _) ?hipn11 (by kernel_rfl) (by kernel_rfl) (by kernel_rfl) (fun _ _ _ h => h) ?hwpn11 ?hypn11 hHeld ?restpn11
          case hipn11 => (simp only [List.getElem?_toArray, List.getElem?_cons_succ, List.getElem?_cons_zero]; rfl)
          case hwpn11 => rfl
          case hypn11 => (intro w hSw; (try dsimp only at hSw); go_simp; try with_reducible rfl)
          try simp only [Act.put, List.setIfInBounds_toArray, List.set_cons_zero, List.set_cons_succ]
          refine wpAnyH_done (by kernel_rfl) ?_ _
          refine NoPanic.normal ?_
          have HL := Lib.hid (show (ts).length ≤ i + 1 from by omega)
          go_wp2_with fail
          go_meet
          exact ⟨rfl, ts, HL.out, M.out⟩
      · have b3 : decide ((i : Int) < 80) = false := by simp; omega
        have b3n : decide (i < 80) = false := by simp; omega
        go_wp2
        go_ret
        exact ⟨rfl, P.out.below⟩
    · have b1 : decide (i < len) = false := by simp; omega
      have b2 : decide ((i : Int) < (len : Int)) = false := by simp; omega
      go_wp2
      go_ret
      exact ⟨rfl, P.out.below⟩
end Go.Proofs.Ytimafmalfmeehaa
