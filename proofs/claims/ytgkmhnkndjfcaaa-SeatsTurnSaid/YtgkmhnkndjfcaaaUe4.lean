/-
  The document's seats (regattaref17): Give, IDs: contracts.
-/
import Derived.Test.YtgkmhnkndjfcaaaUe3
import Derived.Deep.AppendLies
namespace Go.Proofs.Ytgkmhnkndjfcaaa
open Go.RowKit

set_option maxRecDepth 20000 in
set_option maxHeartbeats 4000000 in
theorem r17give_any (h n : Nat) (G : Nat → Prop) (fr : List Int) (id : Int) (w : World) (r : RP w h G n fr) :
    Calls Try.prog 13 #[.pointer (some ⟨h, 0, none⟩), .int .i64 id] w fun z w' => z = .returned (.int .i64 (giveV n fr id).1) ∧ StaysS RP w h G n (giveV n fr id).2 w' := by
  have RR := Lib.hid r
  obtain ⟨v, r⟩ := r
  have R := Lib.hid r
  have x0 := r.blk.cell 0
  have x1 := r.blk.cell 1
  have f1 := r.blk.free 1
  simp at x0 x1
  have f64 := r.good.len
  have n64 := r.good.n64
  clear r
  by_cases p0 : id < 0
  · have d1 : decide (id < 0) = true := decide_eq_true p0
    have V := Lib.hid (show giveV n fr id = (1, fr) by unfold giveV; rw [if_neg (by omega)])
    have S := Lib.hid (RR.out.stays (Below.refl _ _))
    go_enter Try.func13, Try.ntmps13
    go_wp2
    go_ret
    rw [V.out]
    exact ⟨rfl, S.out⟩
  · have d1 : decide (id < 0) = false := decide_eq_false p0
    by_cases p1 : (n : Int) ≤ id
    · have d2 : decide ((n : Int) ≤ id) = true := decide_eq_true p1
      have V := Lib.hid (show giveV n fr id = (1, fr) by unfold giveV; rw [if_neg (by omega)])
      have S := Lib.hid (RR.out.stays (Below.refl _ _))
      go_enter Try.func13, Try.ntmps13
      go_wp2
      go_ret
      rw [V.out]
      exact ⟨rfl, S.out⟩
    · have d2 : decide ((n : Int) ≤ id) = false := decide_eq_false p1
      by_cases p2 : id ∈ fr
      · have V := Lib.hid (show giveV n fr id = (12, fr) by unfold giveV; rw [if_pos (by omega), if_pos p2])
        have S := Lib.hid (RR.out.stays (Below.refl _ _))
        have TB := Lib.hid (takenB_in (n := n) p2)
        go_enter Try.func13, Try.ntmps13
        go_wp2_with fail
        refine (r17taken_any h n G fr v id w R.out).mono ?_
        rintro e w1 ⟨rfl, rfl⟩
        rw [TB.out]
        go_wp2
        go_ret
        rw [V.out]
        exact ⟨rfl, S.out⟩
      · have V := Lib.hid (show giveV n fr id = (0, fr ++ [id]) by unfold giveV; rw [if_pos (by omega), if_neg p2])
        have TB := Lib.hid (show takenB n fr id = true by unfold takenB; simp [p2]; omega)
        have GG := Lib.hid (show GoodF n (fr ++ [id]) by have := R.out.good.give id; rw [V.out] at this; exact this)
        have FL : fr.length ≤ 100000 := by omega
        have wl := R.out.blk.lt
        clear p2
        go_enter Try.func13, Try.ntmps13
        go_wp2_with fail
        refine (r17taken_any h n G fr v id w R.out).mono ?_
        rintro e w1 ⟨rfl, rfl⟩
        rw [TB.out]
        go_wp2_with (at_builtin; refine app_qint rfl _ _ rfl 0 v fr rfl (R.out.que.below (wbox w (.cells #[.int .i64 id] 3))) w.heap.size id rfl (heap_alloc_new w _) (Nat.zero_le _) FL ?_; intro g' off cap w2 h1 h2 h3; have Q2 := Lib.hid h1; have H2 := Lib.hid h2; have OR := Lib.hid h3; have X2 := Lib.hid (que_grown h2 (R.out.blk.alloc _) R.out.ne); have y1 := X2.out.cell 1; have g1 := X2.out.free 1; simp at y1; clear h1 h2 h3)
        go_ret
        rw [V.out]
        have ws := (wbox w (.cells #[.int .i64 id] 3)).size
        have K1 : Keeps G w w2 := ((Keeps.refl G w).alloc _).grown H2.out (fun k e => .inl ((R.out.has k).mpr (.inr e)))
        have K2 : Keeps G w (w2.setCell ⟨h, 1, none⟩ (.slice (some ⟨g', off, none⟩) (fr.length + 1) cap)) := K1.set (.inl ((R.out.has h).mpr (.inl rfl))) _ _
        have GN : g' ≠ h := fun e => by
          rcases OR.out with q | q
          · rw [e] at q; exact R.out.ne q
          · omega
        refine ⟨rfl, fun k => k = h ∨ k = g', ⟨_, GG.out, heap_setCell_same w2 h 1 _ _ _ X2.out, ?_, fun e => by cases e; exact GN rfl, fun k => ?_⟩, K2, fun k q => ?_, fun k q => ?_⟩
        · rw [List.length_append]
          exact Q2.out.keeps ((Keeps.refl (fun k => k = h) w2).set (.inl rfl) _ _) (fun g e q => by cases e; exact GN q)
        · constructor
          · rintro (q | q)
            · exact .inl q
            · rw [q]; exact .inr rfl
          · rintro (q | q)
            · exact .inl q
            · cases q; exact .inr rfl
        · rcases q with q | q
          · exact .inl ((R.out.has k).mpr (.inl q))
          · rcases OR.out with e | e
            · exact .inl ((R.out.has k).mpr (.inr (by rw [q]; exact e)))
            · right; omega
        · rcases q with q | q
          · rw [q]; exact Nat.lt_of_lt_of_le wl K2.size
          · rw [q]
            have h5 := (Q2.out.lt g' rfl).2
            have h6 : (w2.setCell ⟨h, 1, none⟩ (.slice (some ⟨g', off, none⟩) (fr.length + 1) cap)).heap.size = w2.heap.size := by simp
            rw [h6]; exact h5
/-- append of one number to what is owned -/
theorem app_oint {w : World} {ops : Array Oper} {rest : List Oper} {o : Oper} {act : Act} {Q : Exit → Act → World → Prop} (hgd : o.guard = none) (s x : Operand)
    (ho : o.op = .call { callee := .builtin .append, args := #[s, x], argTypes := #[22, 22] }) (base : Nat)
    (v : Value) (ns : List Int) (hs : act.eval s = v) (hown : w.ownsRow base 3 1 v ns.length (ns.map (Value.int .i64))) (g : Nat) (e : Int) (hx : act.eval x = .slice (some ⟨g, 0, none⟩) 1 1)
    (hg : w.heap[g]? = some (.cells #[.int .i64 e] 3 (0, 0))) (hb : base ≤ w.heap.size) (hsm : ns.length ≤ 100000)
    (h : ∀ v' w', w'.ownsRow base 3 1 v' (ns ++ [e]).length ((ns ++ [e]).map (Value.int .i64)) → w.grownBy w' v.ownBlock → (∃ g, v'.ownBlock = some g ∧ (v.ownBlock = some g ∨ g = w.heap.size)) → wpList Try.prog ops Q rest (act.put o.dst v') w') : wpList Try.prog ops Q (o :: rest) act w := by
  obtain ⟨i0, hi, hz0, hz1, hz2⟩ := info_parts Try.infoI
  refine wpList_append_lies _ hgd s x _ ho base _ i0 _ 1 8 Try.underlying22 hi hz0 hz1 hz2 rfl (by decide) v _ _ hs hown ⟨g, 0, none⟩ 1 1 [.int .i64 e] hx rfl (World.news_of_block (cs := #[.int .i64 e]) (t := 3) (fr := (0, 0)) hg) (by simp [Value.oneCell']) (by decide) (by unfold maxLen; omega) (by omega) hb w.heap.size rfl ?_
  intro g' cap w2 ho2 hg2 hl _
  refine h _ w2 ?_ hg2 ⟨g', rfl, hl⟩
  rw [List.length_append, List.map_append]
  exact ho2
theorem ids_snoc (fr : List Int) (i : Nat) : idsV (i + 1) fr = if (i : Int) ∈ fr then idsV i fr else idsV i fr ++ [(i : Int)] := by
  unfold idsV
  rw [ups_succ, List.filter_append]
  by_cases h : (i : Int) ∈ fr
  · rw [if_pos h]; simp [h]
  · rw [if_neg h]; simp [h]
theorem ids_le (fr : List Int) (i : Nat) : (idsV i fr).length ≤ i := by
  unfold idsV
  have := List.length_filter_le (fun x => !decide (x ∈ fr)) (ups i)
  rwa [ups_len] at this
set_option maxRecDepth 20000 in
set_option maxHeartbeats 4000000 in
theorem r17ids_any (h n : Nat) (G : Nat → Prop) (fr : List Int) (w : World) (r : RP w h G n fr) :
    Calls Try.prog 16 #[.pointer (some ⟨h, 0, none⟩)] w fun z w' => ∃ a cap, z = .returned (.slice a (idsV n fr).length cap) ∧ Row .i64 w' a (idsV n fr).length cap (idsV n fr) ∧ Below w.heap.size w w' := by
  obtain ⟨v, r⟩ := r
  have R := Lib.hid r
  have n64 := r.good.n64
  clear r
  go_enter Try.func16, Try.ntmps16
  go_wp2
  go_loopw [3, 4] (fun o u wr => ∃ i : Nat, u = .int .i64 i ∧ i ≤ n ∧ wr.ownsRow w.heap.size 3 1 o (idsV i fr).length ((idsV i fr).map (Value.int .i64)) ∧ Below w.heap.size w wr) (fun _ u _ => n - (intOf u).toNat)
  case atStart => exact ⟨0, rfl, by omega, World.ownsRow_nil _ _ _ _, Below.refl _ _⟩
  case round =>
    obtain ⟨i, rfl, i1, ho, hb⟩ := hrel
    have O := Lib.hid ho
    have B := Lib.hid hb
    have R2 := Lib.hid (R.out.below hb)
    clear ho hb
    have x0 := R2.out.blk.cell 0
    simp at x0
    by_cases go : i < n
    · have b1 : decide ((i : Int) < (n : Int)) = true := by simp; omega
      have b1' : decide (i < n) = true := by simp; omega
      have IL := ids_le fr i
      by_cases p : (i : Int) ∈ fr
      · have TB := Lib.hid (takenB_in (n := n) p)
        have IS := Lib.hid (show idsV (i + 1) fr = idsV i fr by rw [ids_snoc, if_pos p])
        clear p
        go_wp2_with fail
        refine (r17taken_any h n G fr v i wr R2.out).mono ?_
        rintro e w1 ⟨rfl, rfl⟩
        rw [TB.out]
        go_wp2
        go_roundw
        case rel => exact ⟨i + 1, by go_num, by omega, by rw [IS.out]; exact O.out, B.out⟩
        case measure => simp [intOf]; omega
      · have TB := Lib.hid (show takenB n fr i = true by unfold takenB; simp [p]; omega)
        have IS := Lib.hid (show idsV (i + 1) fr = idsV i fr ++ [(i : Int)] by rw [ids_snoc, if_neg p])
        clear p
        go_wp2_with fail
        refine (r17taken_any h n G fr v i wr R2.out).mono ?_
        rintro e w1 ⟨rfl, rfl⟩
        rw [TB.out]
        go_wp2_with (at_builtin; refine app_oint rfl _ _ rfl w.heap.size _ (idsV i fr) rfl (owns_below O.out (wbox wr (.cells #[.int .i64 i] 3))) wr.heap.size i rfl (heap_alloc_new wr _) (Nat.le_trans B.out.size (wbox wr (.cells #[.int .i64 (i : Int)] 3)).size) (by omega) ?_; intro v2 w2 h1 h2 _; have O2 := Lib.hid h1; have B2 := Lib.hid (show Below w.heap.size w w2 from (B.out.alloc B.out.size _).grown h2 (Nat.le_trans B.out.size (wbox wr _).size) (fun q e => (O.out.lt q e).1)); clear h1 h2)
        go_roundw
        case rel => exact ⟨i + 1, by go_num, by omega, by rw [IS.out]; exact O2.out, B2.out⟩
        case measure => simp [intOf]; omega
    · have b1 : decide ((i : Int) < (n : Int)) = false := by simp; omega
      have b1' : decide (i < n) = false := by simp; omega
      obtain rfl : i = n := by omega
      obtain ⟨a, cap, rfl, hr, _⟩ := row_of_owns O.out
      have RW := Lib.hid hr
      clear hr
      go_wp2
      go_ret
      exact ⟨a, cap, rfl, RW.out, B.out⟩
end Go.Proofs.Ytgkmhnkndjfcaaa
