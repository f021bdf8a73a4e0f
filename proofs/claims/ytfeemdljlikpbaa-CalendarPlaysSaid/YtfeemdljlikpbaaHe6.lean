/-
  Package heap as landed: rise: contract.
-/
import Derived.Test.YtfeemdljlikpbaaHe5
import Derived.IntWalk
namespace Go.Proofs.Ytfeemdljlikpbaa
open Go.RowKit Go.Maps
variable {L : FuncId} {TT : TypeId} {ltb : Ev → Ev → Bool}

theorem HSE.turn {w w' : World} {g b n cap m : Nat} {xs : List Te} (h : HSE L TT w g (.slice (some ⟨b, 0, none⟩) n cap) m xs) (hb : Blk w' TT g (HVE L (.slice (some ⟨b, 0, none⟩) n cap) m false)) (k : Keeps (fun k => k = g) w w') : HSE L TT w' g (.slice (some ⟨b, 0, none⟩) n cap) m xs := by
  have ap := h.apart
  obtain ⟨D, hD, hP⟩ := h.map
  exact ⟨hb, owns_keeps h.row k (fun x e => by cases e; exact ap.1), ⟨D, hD.keeps k ap.2.1, hP⟩, h.ids, h.rng, h.len, h.typ⟩
/-- the heap's blocks are as they were but for the heap -/
def TurnsE (L : FuncId) (TT : TypeId) (g b n cap m : Nat) (xs : List Te) (w w' : World) : Prop := HSE L TT w' g (.slice (some ⟨b, 0, none⟩) n cap) m xs ∧ Keeps (HFE g (.slice (some ⟨b, 0, none⟩) n cap) m) w w'
theorem swap_nE (g b n cap m i j : Nat) (xs : List Te) (x y : Te) (w : World) (hn : xs.length = n) (h : HSE L TT w g (.slice (some ⟨b, 0, none⟩) n cap) m xs) (hx : xs[i]? = some x) (hy : xs[j]? = some y) :
    Calls Try.prog 38 #[.pointer (some ⟨g, 0, none⟩), .int .i64 i, .int .i64 j] w fun e w' => e = .returned (.tuple #[]) ∧ TurnsE L TT g b n cap m (swpE xs i j) w w' := by
  subst hn
  exact swap_allE g b cap m i j xs x y w h hx hy
theorem ahead_nE (ok : LessE L ltb) (g b n cap m i j : Nat) (xs : List Te) (x y : Te) (f : Bool) (w : World) (hn : xs.length = n) (h : HSE L TT w g (.slice (some ⟨b, 0, none⟩) n cap) m xs) (hx : xs[i]? = some x) (hy : xs[j]? = some y) (hf : decide (AheadE ltb x y) = f) :
    Calls Try.prog 40 #[.pointer (some ⟨g, 0, none⟩), .int .i64 i, .int .i64 j] w fun e w' => e = .returned (.bool f) ∧ TurnsE L TT g b n cap m xs w w' := by
  subst hn
  subst hf
  exact (ahead_anyE L ltb ok g b xs.length cap m i j x y w h.blk (owns_atE h.row hx) (owns_atE h.row hy) (lt_atE hx) (lt_atE hy)).mono fun _ _ ⟨e, hb, hk⟩ => ⟨e, h.turn hb hk, keepsFE hk (fun k e => .inl e)⟩
theorem TurnsE.next {g b n cap m : Nat} {ys : List Te} {w1 w2 w3 : World} (h : Keeps (HFE g (.slice (some ⟨b, 0, none⟩) n cap) m) w1 w2) (k : TurnsE L TT g b n cap m ys w2 w3) : Keeps (HFE g (.slice (some ⟨b, 0, none⟩) n cap) m) w1 w3 := h.trans k.2 (fun _ q => .inl q)
theorem getXE {xs : List Te} {i n : Nat} (hn : xs.length = n) (hi : i < n) : ∃ t, xs[i]? = some t := ⟨xs[i]'(by omega), List.getElem?_eq_getElem (by omega)⟩
/-- what is there behind a call, in an order of which Q is said -/
def LeftE (L : FuncId) (TT : TypeId) (Q : List Te → Prop) (g b n cap m : Nat) (xs : List Te) (w : World) (e : Ending) (w' : World) : Prop := e = .returned (.tuple #[]) ∧ ∃ ys : List Te, ys.Perm xs ∧ Q ys ∧ TurnsE L TT g b n cap m ys w w'
set_option maxRecDepth 20000 in
set_option maxHeartbeats 4000000 in
theorem rise_anyE [Nonempty (OrdE ltb)] (ok : LessE L ltb) (g b n cap m i : Nat) (xs : List Te) (w : World) (hn : xs.length = n) (h : HSE L TT w g (.slice (some ⟨b, 0, none⟩) n cap) m xs) (hi : i < n) (hm : MidE ltb xs i) :
    Calls Try.prog 37 #[.pointer (some ⟨g, 0, none⟩), .int .i64 i] w (LeftE L TT (fun ys => DnE ltb ys i) g b n cap m xs w) := by
  have OK := Lib.hid ok
  have H := Lib.hid h
  have LN := Lib.hid hn
  have MD := Lib.hid hm
  have nl := h.len
  rw [hn] at nl
  clear h hn hm ok
  go_enter Try.func37, Try.ntmps37
  go_wp2_with fail
  go_step3
  go_wp2
  go_step3
  go_wp2
  go_loopw [1] (fun u wr => ∃ (k : Nat) (ys : List Te), u = .int .i64 k ∧ k ≤ i ∧ ys.Perm xs ∧ ((k = i ∧ MidE ltb ys i) ∨ UpE ltb ys k) ∧ TurnsE L TT g b n cap m ys w wr) (fun u _ => (intOf u).toNat)
  case atStart => exact ⟨i, xs, rfl, Nat.le_refl _, List.Perm.refl _, .inl ⟨rfl, MD.out⟩, H.out, Keeps.refl _ _⟩
  case round =>
    obtain ⟨k, ys, rfl, ki, hp, hor, ht⟩ := hrel
    have PM := Lib.hid hp
    have T := Lib.hid ht
    have YN := Lib.hid (show ys.length = n by rw [hp.length_eq]; exact LN.out)
    have MK := Lib.hid (show MidE ltb ys k by
      rcases hor with ⟨e, q⟩ | q
      · rw [e]; exact q
      · exact q.mid)
    have DONE := Lib.hid (show (k = 0 ∨ OkE ltb ys k) → DnE ltb ys i from fun z => by
      rcases hor with ⟨e, q⟩ | q
      · rw [← e] at q ⊢; exact q.done z
      · exact (q.done z).dn i)
    clear hp hor ht
    by_cases k0 : k = 0
    · subst k0
      have t1 : decide ((0 : Int) < 0) = false := by decide
      have DN := Lib.hid (DONE.out (.inl rfl))
      clear DONE
      go_wp2
      exact bodyPost_end (v := .tuple #[]) (by simp [results, Try.results37, go_sem]) rfl ⟨rfl, ys, PM.out, DN.out, T.out⟩
    · obtain ⟨p, hp⟩ : ∃ p, (k - 1) / 2 = p := ⟨_, rfl⟩
      have PP := Lib.hid hp
      have q0 : 0 < (k : Int) := by omega
      have q1 : 1 ≤ (k : Int) := by omega
      have q2 : 0 ≤ (k : Int) - 1 := by omega
      have q3 : ((k : Int) - 1) / 2 = (p : Int) := by omega
      have q4 : ((k : Int) - 1).tdiv 2 = (p : Int) := by rw [Int.tdiv_eq_ediv_of_nonneg q2]; exact q3
      have t1 : decide (0 < (k : Int)) = true := decide_eq_true q0
      have t2 : decide (0 < k) = true := decide_eq_true (by omega)
      obtain ⟨x, hx⟩ := getXE YN.out (show k < n by omega)
      obtain ⟨y, hy⟩ := getXE YN.out (show p < n by omega)
      have X := Lib.hid hx
      have Y := Lib.hid hy
      obtain ⟨f, hf⟩ : ∃ f, decide (AheadE ltb x y) = f := ⟨_, rfl⟩
      have F := Lib.hid hf
      have pk : p < k := by omega
      clear hx hy hf hp
      go_wp2_with fail
      refine (ahead_nE OK.out g b n cap m k p ys x y f _ YN.out T.out.1 X.out Y.out F.out).mono ?_
      rintro e w2 ⟨rfl, ht2⟩
      have T2 := Lib.hid (show TurnsE L TT g b n cap m ys w w2 from ⟨ht2.1, TurnsE.next T.out.2 ht2⟩)
      clear ht2
      cases f with
      | false =>
        have OK := Lib.hid (show OkE ltb ys k from fun u v hu hv => by
          rw [PP.out, Y.out] at hv; rw [X.out] at hu; cases hu; cases hv
          exact of_decide_eq_false F.out)
        have DN := Lib.hid (DONE.out (.inr OK.out))
        clear DONE
        go_wp2
        exact bodyPost_end (v := .tuple #[]) (by simp [results, Try.results37, go_sem]) rfl ⟨rfl, ys, PM.out, DN.out, T2.out⟩
      | true =>
        go_wp2_with fail
        refine (swap_nE g b n cap m k p ys x y _ YN.out T2.out.1 X.out Y.out).mono ?_
        rintro e w3 ⟨rfl, ht3⟩
        have T3 := Lib.hid (show TurnsE L TT g b n cap m (swpE ys k p) w w3 from ⟨ht3.1, TurnsE.next T2.out.2 ht3⟩)
        have PM3 := Lib.hid ((swp_permE X.out Y.out).trans PM.out)
        have UP := Lib.hid (show UpE ltb (swpE ys k p) p by
          have := MK.out.step (by omega) X.out (by rw [PP.out]; exact Y.out) (of_decide_eq_true F.out)
          rw [PP.out] at this
          exact this)
        clear ht3
        go_wp2
        go_roundw
        case rel => exact ⟨p, _, rfl, by omega, PM3.out, .inr UP.out, T3.out⟩
        case measure => simp [intOf]; omega
end Go.Proofs.Ytfeemdljlikpbaa
