/-
  Package task as landed: Cut: contract.
-/
import Derived.Test.YthaoijmjkmgebaaTq1
namespace Go.Proofs.Ythaoijmjkmgebaa
open Go.RowKit
/-- a task that is cut, with the first i of what waited -/
def cutAt (t : TS) (i : Nat) : TS := { t with cut := true, l := t.l.take i }
theorem good_cutAt {t : TS} (h : GoodT t) (i : Nat) : GoodT (cutAt t i) := by
  have hl : (t.l.take i).length ≤ t.l.length := by rw [List.length_take]; omega
  exact ⟨h.may, h.O0, h.O1, h.came0, Nat.le_trans hl h.few, by show ((t.l.take i).length : Int) ≤ t.came; have := h.long; omega, h.done0, fun s hs => h.rel s (List.mem_of_mem_take hs), h.sorted.sublist (List.take_sublist _ _), h.ran0⟩
/-- all behind i are above the slot, none ahead of it -/
theorem left_take {t : TS} {at_ : Int} {i : Nat} (h1 : ∀ s ∈ t.l.drop i, at_ < s.R) (h2 : ∀ s ∈ t.l.take i, s.R ≤ at_) : leftL t at_ = t.l.take i := by
  unfold leftL
  have e : t.l = t.l.take i ++ t.l.drop i := (List.take_append_drop i t.l).symm
  have a : (t.l.take i).filter (fun s => decide (s.R ≤ at_)) = t.l.take i := List.filter_eq_self.mpr (fun s hs => by simpa using h2 s hs)
  have b : (t.l.drop i).filter (fun s => decide (s.R ≤ at_)) = [] := List.filter_eq_nil_iff.mpr (fun s hs => by have := h1 s hs; simp; omega)
  calc t.l.filter (fun s => decide (s.R ≤ at_)) = (t.l.take i ++ t.l.drop i).filter (fun s => decide (s.R ≤ at_)) := by rw [← e]
    _ = _ := by rw [List.filter_append, a, b, List.append_nil]
theorem sorted_take {t : TS} {at_ : Int} {i : Nat} {s : Sb} (hs : t.l.Pairwise (fun a b => a.R ≤ b.R)) (hi : t.l[i]? = some s) (ha : s.R ≤ at_) : ∀ x ∈ t.l.take (i + 1), x.R ≤ at_ := by
  intro x hx
  have hil : i < t.l.length := by
    rcases Nat.lt_or_ge i t.l.length with q | q
    · exact q
    · rw [List.getElem?_eq_none q] at hi; cases hi
  rw [List.getElem?_eq_getElem hil] at hi
  simp only [Option.some.injEq] at hi
  obtain ⟨j, hj, rfl⟩ := List.mem_take_iff_getElem.mp hx
  rcases Nat.lt_or_ge j i with q | q
  · have := List.pairwise_iff_getElem.mp hs j i (by omega) hil q
    rw [hi] at this
    omega
  · have : j = i := by omega
    subst this
    rw [hi]; exact ha
theorem drop_more {t : TS} {at_ : Int} {i : Nat} {s : Sb} (hi : t.l[i]? = some s) (ha : at_ < s.R) (h1 : ∀ s ∈ t.l.drop (i + 1), at_ < s.R) : ∀ s ∈ t.l.drop i, at_ < s.R := by
  intro x hx
  have hil : i < t.l.length := by
    rcases Nat.lt_or_ge i t.l.length with q | q
    · exact q
    · rw [List.getElem?_eq_none q] at hi; cases hi
  rw [List.getElem?_eq_getElem hil] at hi
  simp only [Option.some.injEq] at hi
  rw [List.drop_eq_getElem_cons hil, hi] at hx
  rcases List.mem_cons.mp hx with rfl | q
  · exact ha
  · exact h1 x q
theorem tcut_nil (at_ : Int) (w : World) : Calls Try.prog 17 #[.pointer none, .int .i64 at_] w fun z w' => z = .returned (.int .i64 0) ∧ Below w.heap.size w w' := by
  go_enter Try.func17, Try.ntmps17
  go_wp2
  go_step3
  go_wp2
  rw [Exit.noGoto_ret]
  go_ret
  exact ⟨rfl, Below.refl _ _⟩
set_option maxHeartbeats 4000000 in
theorem tcut_any (g : Nat) (F : Nat → Prop) (t : TS) (at_ : Int) (w : World) (h : HpT w g F t) : Calls Try.prog 17 #[.pointer (some ⟨g, 0, none⟩), .int .i64 at_] w fun z w' => z = .returned (.int .i64 (cutN t at_)) ∧ StaysT HpT w g F (cutT t at_) w' := by
  have LI := Lib.hid (h := h.lies)
  have GG := Lib.hid (h := h.good)
  have few := GG.out.few
  obtain ⟨sb, v, hk, hF⟩ := h
  have fr := (hF g).mpr (.inl rfl)
  obtain ⟨ad, cap, rfl, lc1, lc2⟩ := hk.que.val
  have HK := Lib.hid hk; have HF := Lib.hid hF
  obtain ⟨ln, hln⟩ : ∃ ln, t.l.length = ln := ⟨_, rfl⟩
  have c4 := hk.box.cell 4
  have c11 := hk.box.cell 11
  have f11 := hk.box.free 11
  simp only [tkC, hln] at c4
  change _ = some (Value.slice ad ln cap) at c4
  simp [tkC] at c11
  rw [hln] at few
  have LN := Lib.hid hln
  obtain ⟨W1, hW1⟩ : ∃ W1, w.setCell ⟨g, 11, none⟩ (.bool true) = W1 := ⟨_, rfl⟩
  have K1 := Lib.hid (show Keeps F w W1 by rw [← hW1]; exact (Keeps.refl F w).set (.inl fr) _ _)
  have KG := Lib.hid (show Keeps (fun k => k = g) w W1 by rw [← hW1]; exact (Keeps.refl (fun k => k = g) w).set (.inl rfl) _ _)
  have R1 := Lib.hid (show TkAt W1 g sb (.slice ad t.l.length cap) (cutAt t ln) from ⟨by
      have e : Blk W1 66 g (tkC { t with cut := true } sb (.slice ad t.l.length cap)) := by rw [← hW1]; exact HK.out.box.set 11 _
      exact e, HK.out.stp.keeps KG.out HK.out.ns.symm, by
      have e : (cutAt t ln).l = t.l := by show t.l.take ln = t.l; rw [← LN.out, List.take_length]
      rw [e]
      exact QueR.keeps HK.out.que KG.out (fun x e q => HK.out.nv (by rw [e, q])), HK.out.ns, HK.out.nv, HK.out.nvs, good_cutAt GG.out _⟩)
  clear hk hF hln lc1 lc2
  go_enter Try.func17, Try.ntmps17
  go_wp2
  go_step3
  go_wp2


  clear hW1 c4 c11 f11
  go_step3
  go_wp2
  go_loopw [6] (fun u wr => ∃ (i : Nat) (v : Value), u = .int .i64 (i : Int) ∧ i ≤ ln ∧ TkAt wr g sb v (cutAt t i) ∧ v.ownBlock = (Value.slice ad ln cap).ownBlock ∧ (∀ s ∈ t.l.drop i, at_ < s.R) ∧ Keeps F w wr) (fun u _ => (intOf u).toNat)
  case atStart => exact ⟨ln, .slice ad t.l.length cap, rfl, Nat.le_refl _, R1.out, by rw [LN.out], fun s hs => (by rw [← LN.out, List.drop_length] at hs; cases hs), K1.out⟩
  case round =>
    obtain ⟨i, v, rfl, il, hk, hv, hd, hkeep⟩ := hrel
    have OWN := Lib.hid hv
    have HD := Lib.hid hd
    have KP := Lib.hid hkeep
    have HR := Lib.hid hk
    have SC := Lib.hid (show ∀ (b : Bool), True from fun _ => trivial)
    clear hd hkeep hv SC
    have LC := Lib.hid (show (cutAt t i).l.length = i by show (t.l.take i).length = i; rw [List.length_take, LN.out]; omega)
    have FINK := Lib.hid (show ∀ (w' : World) (j : Nat) (v' : Value), TkAt w' g sb v' (cutAt t j) → v'.ownBlock = (Value.slice ad ln cap).ownBlock → Keeps F w w' → leftL t at_ = t.l.take j → StaysT HpT w g F (cutT t at_) w' from fun w' j v' h1 h2 h3 h4 => by
      have e : cutT t at_ = cutAt t j := by unfold cutT cutAt; rw [h4]
      have e2 : ∀ k, F k ↔ k = g ∨ k = sb ∨ v'.ownBlock = some k := fun k => by rw [h2, ← LN.out]; exact HF.out k
      rw [e]
      exact ⟨F, ⟨sb, v', h1, e2⟩, h3, fun k q => .inl q, fun k q => Nat.lt_of_lt_of_le (LI.out k q) h3.size⟩)
    obtain ⟨av, cv, rfl, lv1, lv2⟩ := HR.out.que.val
    rw [LC.out] at lv1
    have c4 := hk.box.cell 4
    have f4 := hk.box.free 4
    simp only [tkC, LC.out] at c4
    change _ = some (Value.slice av i cv) at c4
    clear hk
    cases i with
    | zero =>
      have EL := Lib.hid (show leftL t at_ = t.l.take 0 from left_take (fun s hs => HD.out s hs) (fun s hs => by simp at hs))
      have EN := Lib.hid (show cutN t at_ = (ln : Int) by unfold cutN; rw [EL.out, LN.out]; simp)
      have w0 : IntKind.i64.wrap (ln : Int) = (ln : Int) := IntWalk.i64_in _ (by omega)
      go_wp2
      try rw [Exit.noGoto_ret]
      go_ret
      exact ⟨ret_one (by rw [EN.out]), FINK.out _ 0 _ HR.out OWN.out KP.out EL.out⟩
    | succ m =>
      obtain ⟨s, hs⟩ : ∃ s, t.l[m]? = some s := ⟨_, List.getElem?_eq_getElem (by rw [LN.out]; omega)⟩
      have HS := Lib.hid hs
      have hs' : (cutAt t (m + 1)).l[m]? = some s := by show (t.l.take (m + 1))[m]? = some s; rw [List.getElem?_take]; simp [hs]
      obtain ⟨bl, ol, cp, hve, hat⟩ := QueS.at HR.out.que (i := m) (s := s) hs'
      rw [LC.out] at hve
      simp only [Value.slice.injEq] at hve
      obtain ⟨rfl, _, rfl⟩ := hve
      have y1 := hat.c1
      have mm : IntKind.i64.wrap (((m + 1 : Nat) : Int) - 1) = (m : Int) := by rw [show ((m + 1 : Nat) : Int) - 1 = (m : Int) by omega]; exact IntWalk.i64_in _ (by omega)
      have nz : ¬ ((m + 1 : Nat) : Int) ≤ 0 := by omega
      have nz2 : decide ((0 : Int) < ((m + 1 : Nat) : Int)) = true := decide_eq_true (by omega)
      obtain ⟨k, hk⟩ : ∃ k, m + 1 = k := ⟨_, rfl⟩
      have KM := Lib.hid hk
      rw [hk] at HR OWN HD LC c4 mm nz nz2 il lv1 ⊢
      have mk : m < k := by omega
      have mk2 : (m : Int) < (k : Int) := by omega
      have mk3 : m ≤ k := by omega
      have mc : m ≤ cv := by omega
      have mc2 : (m : Int) ≤ (cv : Int) := by omega
      have m0 : (0 : Int) ≤ (m : Int) := by omega
      clear hs hs' hat hk
      by_cases ha : s.R ≤ at_
      · have ta : decide (s.R ≤ at_) = true := by simp; omega
        have EL := Lib.hid (show leftL t at_ = t.l.take k from left_take (fun s hs => HD.out s hs) (by rw [← KM.out]; exact sorted_take GG.out.sorted HS.out ha))
        have EN := Lib.hid (show cutN t at_ = (ln : Int) - k by unfold cutN; rw [EL.out, LN.out, List.length_take, LN.out]; congr 2; omega)
        have w0 : IntKind.i64.wrap ((ln : Int) - k) = (ln : Int) - k := IntWalk.i64_in _ (by omega)
        go_wp2
        try rw [Exit.noGoto_ret]
        go_ret
        exact ⟨ret_one (by rw [EN.out]), FINK.out _ k _ (by first | exact HR.out | (rw [LC.out] at HR; exact HR.out)) (by first | exact OWN.out | (rw [LC.out] at OWN; exact OWN.out)) KP.out EL.out⟩
      · have ta : decide (s.R ≤ at_) = false := by simp; omega
        have QT := Lib.hid (show QueR wr 0 35 5 (.slice (some ⟨bl, ol, none⟩) m m) m ((t.l.take m).map Sb.cs).flatten by
          have q := HR.out.que
          unfold QueS at q
          rw [LC.out] at q
          have q2 := QueR.take (k := m) (c := m) q (by omega) (Nat.le_refl _) mc
          have e : (((cutAt t k).l.map Sb.cs).flatten).take (m * 5) = ((t.l.take m).map Sb.cs).flatten := by
            have e1 : (cutAt t k).l = t.l.take m ++ [s] := by
              show t.l.take k = _
              rw [← KM.out]
              have hil : m < t.l.length := by rw [LN.out]; omega
              have h2 := HS.out
              rw [List.getElem?_eq_getElem hil] at h2
              simp only [Option.some.injEq] at h2
              rw [List.take_succ_eq_append_getElem hil, h2]
            rw [e1, List.map_append, List.flatten_append]
            refine List.take_left' ?_
            rw [flatS_len, List.length_take, LN.out]
            congr 1
            omega
          rw [e] at q2
          exact q2)
        have fr2 := (HF.out g).mpr (.inl rfl)
        have nbg : ¬ bl = g := fun e => HR.out.nv (by subst e; rfl)
        have NXT := Lib.hid (show TkAt (wr.setCell ⟨g, 4, none⟩ (.slice (some ⟨bl, ol, none⟩) m m)) g sb (.slice (some ⟨bl, ol, none⟩) m m) (cutAt t m) from by
          have KG2 : Keeps (fun k => k = g) wr (wr.setCell ⟨g, 4, none⟩ (.slice (some ⟨bl, ol, none⟩) m m)) := (Keeps.refl (fun k => k = g) wr).set (.inl rfl) _ _
          refine ⟨HR.out.box.set 4 _, HR.out.stp.keeps KG2 HR.out.ns.symm, ?_, HR.out.ns, fun e => nbg (by simpa [Value.ownBlock] using e), fun e => HR.out.nvs (by simpa [Value.ownBlock] using e), good_cutAt GG.out m⟩
          have lm : (cutAt t m).l.length = m := by show (t.l.take m).length = m; rw [List.length_take, LN.out]; omega
          unfold QueS
          rw [lm]
          exact QueR.keeps QT.out KG2 (fun x e q => nbg (by simp [Value.ownBlock] at e; omega)))
        have HD2 := Lib.hid (show ∀ s ∈ t.l.drop m, at_ < s.R from drop_more HS.out (by omega) (by rw [KM.out]; exact HD.out))
        have KP2 := Lib.hid (KP.out.set (.inl fr2) 4 (.slice (some ⟨bl, ol, none⟩) m m))
        have OW2 := Lib.hid (show (Value.slice (some ⟨bl, ol, none⟩) m m).ownBlock = (Value.slice ad ln cap).ownBlock from OWN.out)
        go_wp2
        go_roundw
        case rel => exact ⟨m, _, rfl, by omega, NXT.out, OW2.out, HD2.out, KP2.out⟩
        case measure => simp [intOf]; omega
end Go.Proofs.Ythaoijmjkmgebaa
