/-
  The document's seats (regattaref17): contracts; the document's Same of two rows of numbers (regattaref07).
-/
import Derived.Test.YtgkmhnkndjfcaaaUe0
import Derived.Test.YtgkmhnkndjfcaaaQu1
import Derived.Deep.RegionHeld3
import Derived.OneCell
namespace Go.Proofs.Ytgkmhnkndjfcaaa
open Go.RowKit

set_option maxHeartbeats 2000000 in
/-- of two rows that are the same it tells so -/
theorem r7same_yes (a b : Option Addr) (len ca cb : Nat) (zs : List Int) (w : World) (ha : Row .i64 w a len ca zs) (hb : Row .i64 w b len cb zs) :
    Calls Try.prog 14 #[.slice a len ca, .slice b len cb] w fun e w' => e = .returned (.bool true) ∧ Below w.heap.size w w' := by
  have HA := Lib.hid ha
  have HB := Lib.hid hb
  have ⟨c1, c2⟩ := ha.cap_le
  clear ha hb
  go_enter Try.func14, Try.ntmps14
  go_wp2
  go_loopw [5] (fun u wr => ∃ (i : Nat), u = .int .i64 i ∧ i ≤ len ∧ Below w.heap.size w wr) (fun u _ => len - (intOf u).toNat)
  case atStart => exact ⟨0, rfl, by omega, Below.refl _ _⟩
  case round =>
    obtain ⟨i, rfl, il, hbel⟩ := hrel
    have B := Lib.hid hbel
    clear hbel
    by_cases go : i < len
    · have b1 : decide (i < len) = true := by simp; omega
      have b2 : decide ((i : Int) < (len : Int)) = true := by simp; omega
      obtain ⟨bl, ol, rfl, hat⟩ := HA.out.cell go
      obtain ⟨bo, oo, rfl, hbt⟩ := HB.out.cell go
      obtain ⟨x, hx⟩ : ∃ x, zs.getD i 0 = x := ⟨_, rfl⟩
      rw [hx] at hat hbt
      have XW := Lib.hid hat
      have YW := Lib.hid hbt
      clear hx hat hbt
      have i1 : (i : Int) < (len : Int) := by omega
      have i2 : 0 ≤ (i : Int) := by omega
      go_upto_region 6 with fail
      have KEPT := Lib.hid (show ∀ w' : World, Below w.heap.size w w' → w'.cell? ⟨bl, ol + i, none⟩ = some (.int .i64 x) ∧ w'.cell? ⟨bo, oo + i, none⟩ = some (.int .i64 x) from fun w' h => ⟨cell_on h XW.out, cell_on h YW.out⟩)
      have BL := Lib.hid B.out.drew
      go_region_held3 (fun w' => w'.cell? ⟨bl, ol + i, none⟩ = some (.int .i64 x) ∧ w'.cell? ⟨bo, oo + i, none⟩ = some (.int .i64 x))
        (exact KEPT.out _ BL.out)
        (fail)
      all_goals
        go_wp2
        go_roundw
        case rel => exact ⟨i + 1, by go_num, by omega, BL.out⟩
        case measure => simp [intOf]; omega
    · have b1 : decide (i < len) = false := by simp; omega
      have b2 : decide ((i : Int) < (len : Int)) = false := by simp; omega
      go_wp2
      go_ret
      exact ⟨rfl, B.out⟩
theorem Try.infoI : (Try.prog.info? 3).map (fun i => (i.zero, i.size, i.bytes)) = some (some (.int .i64 0), 1, 8) := by kernel_rfl
/-- append of one number to a queue -/
theorem app_qint {w : World} {ops : Array Oper} {rest : List Oper} {o : Oper} {act : Act} {Q : Exit → Act → World → Prop} (hgd : o.guard = none) (s x : Operand)
    (ho : o.op = .call { callee := .builtin .append, args := #[s, x], argTypes := #[22, 22] }) (base : Nat)
    (v : Value) (ns : List Int) (hs : act.eval s = v) (hown : QueR w base 3 1 v ns.length (ns.map (Value.int .i64))) (g : Nat) (e : Int) (hx : act.eval x = .slice (some ⟨g, 0, none⟩) 1 1)
    (hg : w.heap[g]? = some (.cells #[.int .i64 e] 3 (0, 0))) (hb : base ≤ w.heap.size) (hsm : ns.length ≤ 100000)
    (h : ∀ g' off cap w', QueR w' base 3 1 (.slice (some ⟨g', off, none⟩) (ns.length + 1) cap) (ns.length + 1) ((ns ++ [e]).map (Value.int .i64)) → w.grownBy w' v.ownBlock → (v.ownBlock = some g' ∨ w.heap.size ≤ g') → wpList Try.prog ops Q rest (act.put o.dst (.slice (some ⟨g', off, none⟩) (ns.length + 1) cap)) w') : wpList Try.prog ops Q (o :: rest) act w := by
  obtain ⟨i0, hi, hz0, hz1, hz2⟩ := info_parts Try.infoI
  refine wpList_plain hgd fun K hK => ?_
  obtain ⟨g', off, cap, w', hr, h2, h3, h4⟩ := run_append_queL (P := Try.prog) w base _ o.type 3 i0 _ 1 8 Try.underlying22 hi hz0 hz1 hz2 rfl (by decide) v _ _ hown ⟨g, 0, none⟩ 1 1 [.int .i64 e] rfl (by omega) (World.news_of_block (cs := #[.int .i64 e]) (t := 3) (fr := (0, 0)) hg) (by simp [Value.oneCell']) (by unfold maxLen; omega) (by omega) hb
  unfold Oper.wp execOp
  simp only [ho, resolve, invoke, builtin, Sem.run_bind, Sem.run_pure, Result.andThen_ok, List.map_toArray, List.map_cons, List.map_nil, hs, hx, hr]
  refine hK _ _ ?_
  have h' := h g' off cap w'
  rw [List.map_append] at h'
  exact h' h2 h3 h4
/-- the document's seats: block h; v holds those that are not taken -/
structure RS (w : World) (h : Nat) (G : Nat → Prop) (n : Nat) (fr : List Int) (v : Value) : Prop where
  good : GoodF n fr
  blk : Blk w 36 h #[.int .i64 n, v]
  que : QueR w 0 3 1 v fr.length (fr.map (Value.int .i64))
  ne : v.ownBlock ≠ some h
  has : ∀ k, G k ↔ k = h ∨ v.ownBlock = some k
def RP (w : World) (h : Nat) (G : Nat → Prop) (n : Nat) (fr : List Int) : Prop := ∃ v, RS w h G n fr v
theorem RS.lies {w : World} {h : Nat} {G : Nat → Prop} {n : Nat} {fr : List Int} {v : Value} (r : RS w h G n fr v) : Lies G w := fun k q => by
  rcases (r.has k).mp q with e | e
  · rw [e]; exact r.blk.lt
  · exact (r.que.lt k e).2
theorem RS.keeps {w w' : World} {h : Nat} {F G : Nat → Prop} {n : Nat} {fr : List Int} {v : Value} (r : RS w h G n fr v) (k : Keeps F w w') (ap : Apart G F) : RS w' h G n fr v :=
  ⟨r.good, r.blk.keeps k (ap h ((r.has h).mpr (.inl rfl))), r.que.keeps k (fun x e => ap x ((r.has x).mpr (.inr e))), r.ne, r.has⟩
theorem RS.below {w w' : World} {h : Nat} {G : Nat → Prop} {n : Nat} {fr : List Int} {v : Value} (r : RS w h G n fr v) (b : Below w.heap.size w w') : RS w' h G n fr v := r.keeps (Keeps.of (F := fun _ => False) b) (fun _ _ q => q)
theorem RP.lies {w : World} {h : Nat} {G : Nat → Prop} {n : Nat} {fr : List Int} (r : RP w h G n fr) : Lies G w := by obtain ⟨v, r⟩ := r; exact r.lies
theorem RP.keeps {w w' : World} {h : Nat} {F G : Nat → Prop} {n : Nat} {fr : List Int} (r : RP w h G n fr) (k : Keeps F w w') (ap : Apart G F) : RP w' h G n fr := by obtain ⟨v, r⟩ := r; exact ⟨v, r.keeps k ap⟩
theorem RP.stays {w w' : World} {h : Nat} {G : Nat → Prop} {n : Nat} {fr : List Int} (r : RP w h G n fr) (b : Below w.heap.size w w') : StaysS RP w h G n fr w' := by
  obtain ⟨v, r⟩ := r
  exact ⟨G, ⟨v, r.below b⟩, Moves.of b r.lies⟩
theorem RS.cell {w : World} {h : Nat} {G : Nat → Prop} {n : Nat} {fr : List Int} {v : Value} (r : RS w h G n fr v) : ∃ a cap, v = .slice a fr.length cap ∧ fr.length ≤ cap ∧ cap ≤ 9223372036854775807 ∧ ∀ (j : Nat) (x : Int), fr[j]? = some x → ∃ g off, a = some ⟨g, off, none⟩ ∧ w.cell? ⟨g, off + j, none⟩ = some (.int .i64 x) := by
  obtain ⟨a, cap, h1, h2, h3, h4⟩ := r.que.value
  refine ⟨a, cap, h1, h2, h3, fun j x hj => ?_⟩
  obtain ⟨g, off, ha, hc⟩ := h4 (by have := lt_of_get hj; omega)
  exact ⟨g, off, ha, hc j _ (by rw [List.getElem?_map, hj]; rfl)⟩
theorem takenB_in {n : Nat} {fr : List Int} {id : Int} (h : id ∈ fr) : takenB n fr id = false := by unfold takenB; simp [h]
set_option maxRecDepth 20000 in
set_option maxHeartbeats 4000000 in
theorem r17taken_any (h n : Nat) (G : Nat → Prop) (fr : List Int) (v : Value) (id : Int) (w : World) (r : RS w h G n fr v) :
    Calls Try.prog 19 #[.pointer (some ⟨h, 0, none⟩), .int .i64 id] w fun z w' => z = .returned (.bool (takenB n fr id)) ∧ w = w' := by
  have R := Lib.hid r
  have x0 := r.blk.cell 0; have x1 := r.blk.cell 1
  simp at x0 x1
  obtain ⟨a, cap, hv, k1, k2, hc⟩ := r.cell
  have HC := Lib.hid hc
  subst hv
  have f64 := r.good.len
  have n64 := r.good.n64
  obtain ⟨len, hl⟩ : ∃ len, fr.length = len := ⟨_, rfl⟩
  have LN := Lib.hid hl
  rw [hl] at x1 k1 f64
  clear hc r hl
  go_enter Try.func19, Try.ntmps19
  go_wp2
  go_loop [5] (fun u => ∃ i : Nat, u = .int .i64 i ∧ i ≤ len ∧ ∀ x ∈ fr.take i, x ≠ id) (fun u => len - (intOf u).toNat)
  case atStart => exact ⟨0, rfl, by omega, by simp⟩
  case round =>
    obtain ⟨i, rfl, i1, hq⟩ := hrel
    have Q := Lib.hid hq
    clear hq
    by_cases go : i < len
    · have b1 : decide ((i : Int) < (len : Int)) = true := by simp; omega
      have b1' : decide (i < len) = true := by simp; omega
      obtain ⟨x, hx, hxs⟩ := get_of (l := fr) (i := i) (by rw [LN.out]; exact go)
      obtain ⟨g, off, rfl, y⟩ := HC.out i x hx
      have i3 : (i : Int) < (len : Int) := by omega
      have i0 : 0 ≤ (i : Int) := by omega
      have XS := Lib.hid hxs
      have HX := Lib.hid hx
      clear hx hxs
      by_cases e : x = id
      · have d1 : (x == id) = true := by simp [e]
        have V := Lib.hid (show takenB n fr id = false from takenB_in (by rw [← e]; exact List.mem_of_getElem? HX.out))
        clear e
        go_wp2
        go_ret
        exact ⟨ret_b V.out.symm, rfl⟩
      · have d1 : (x == id) = false := by simp [e]
        have NX := Lib.hid (show ∀ y ∈ fr.take (i + 1), y ≠ id from fun y hy => by
          rw [XS.out] at hy
          rcases List.mem_append.mp hy with q | q
          · exact Q.out y q
          · have : y = x := by simpa using q
            rw [this]; exact e)
        clear e
        go_wp2
        go_round
        case rel => exact ⟨i + 1, by go_num, by omega, NX.out⟩
        case measure => simp [intOf]; omega
    · have b1 : decide ((i : Int) < (len : Int)) = false := by simp; omega
      have b1' : decide (i < len) = false := by simp; omega
      have NM := Lib.hid (show id ∉ fr from fun q => by
        have h1 := Q.out id (by rw [List.take_of_length_le (by rw [LN.out]; omega)]; exact q)
        exact h1 rfl)
      by_cases p0 : 0 ≤ id
      · have d1 : decide (0 ≤ id) = true := decide_eq_true p0
        by_cases p1 : id < n
        · have d2 : decide (id < (n : Int)) = true := decide_eq_true p1
          have V := Lib.hid (show takenB n fr id = true by unfold takenB; simp [NM.out, p0, p1])
          go_wp2
          go_ret
          exact ⟨ret_b V.out.symm, rfl⟩
        · have d2 : decide (id < (n : Int)) = false := decide_eq_false p1
          have V := Lib.hid (show takenB n fr id = false by unfold takenB; simp [p1])
          go_wp2
          go_ret
          exact ⟨ret_b V.out.symm, rfl⟩
      · have d1 : decide (0 ≤ id) = false := decide_eq_false p0
        have V := Lib.hid (show takenB n fr id = false by unfold takenB; simp [p0])
        go_wp2
        go_ret
        exact ⟨ret_b V.out.symm, rfl⟩
end Go.Proofs.Ytgkmhnkndjfcaaa
