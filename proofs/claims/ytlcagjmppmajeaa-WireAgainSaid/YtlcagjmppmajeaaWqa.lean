/-
  Package wire's fields: what its closure gives a round: contract.
-/
import Derived.Test.YtlcagjmppmajeaaWq9
namespace Go.Proofs.Ytlcagjmppmajeaa
open Go.RowKit

theorem row_lit (w : World) (zs : List Int) (h : zs.length ≤ 1000) : Row .i64 (w.alloc (.cells (zs.map (Value.int .i64)).toArray 2)) (some ⟨w.heap.size, 0, none⟩) zs.length zs.length zs := by
  refine ⟨rfl, Nat.le_refl _, by omega, (fun e => by cases e), fun i hi => ⟨_, _, rfl, ?_⟩⟩
  rw [cell_of_row _ w.heap.size (0 + i) _ _ _ (heap_alloc_new w _)]
  rw [Nat.zero_add, List.getElem?_toArray, List.getElem?_map, List.getElem?_eq_getElem hi, List.getD_eq_getElem?_getD, List.getElem?_eq_getElem hi]
  rfl
/-- numbers that were just laid, one by one -/
theorem wall_lit (l : Nat) (J : (Nat → Prop) → List Int → World → Prop) (hJ : StabM J) (all : List Int) (hY : YieldM J l all) (F0 : Nat → Prop) (pre : List Int) (W W2 : World) (zs : List Int) (cs : Array Value) (m : Nat)
    (hc : (zs.map (Value.int .i64)).toArray = cs) (hm : zs.length = m) (h0 : J F0 pre W) (hlt : Lies F0 W) (hlen : pre.length + m ≤ 1000) (hz : ∀ z ∈ zs, z ∈ all) (hW : W2 = W.alloc (.cells cs 2) ∨ W2 = (W.alloc (.cells cs 2)).drew) :
    Calls Try.prog 31 #[.func (.yield l) #[] #[], .slice (some ⟨W.heap.size, 0, none⟩) m m] W2 (AllO J F0 (pre ++ zs) W) := by
  subst hc hm
  have hb : Below W.heap.size W W2 := by
    rcases hW with rfl | rfl
    · exact wbox _ _
    · exact (wbox _ _).drew
  have hr : Row .i64 W2 (some ⟨W.heap.size, 0, none⟩) zs.length zs.length zs := by
    rcases hW with rfl | rfl
    · exact row_lit W zs (by omega)
    · exact (row_lit W zs (by omega)).drew
  have hl2 : Lies F0 W2 := fun k q => Nat.lt_of_lt_of_le (hlt k q) hb.size
  refine (callsIn_wide (n := 3)).1 (CallsIn.mono (wall_in 3 l J all hY F0 pre W2 _ _ _ zs hr (fun ad e q => ?_) (hJ _ _ _ _ h0 hb) hl2 hlen hz) ?_)
  · cases e
    exact absurd (hlt _ q) (Nat.lt_irrefl _)
  · rintro e W' ⟨rfl, F', hj, hm⟩
    exact ⟨rfl, F', hj, (Moves.of hb hlt).trans hm⟩
theorem flat_two : ∀ ps : List (Int × Int), (ps.flatMap fun x => [x.1, x.2]).length = 2 * ps.length
  | [] => rfl
  | p :: ps => by
    have := flat_two ps
    rw [List.flatMap_cons, List.length_append, this]
    simp
    omega
def FldO (J : (Nat → Prop) → List Int → World → Prop) (F0 : Nat → Prop) (xs : List Int) (W : World) (e : Ending) (W' : World) : Prop := e = .returned (.tuple #[]) ∧ ∃ F', J F' xs W' ∧ Moves F0 F' W W'

set_option maxRecDepth 20000 in
set_option maxHeartbeats 4000000 in
theorem wf1 (id sv n co e p : Int) (early : Bool) (v : Value) (q : Nat) (l : Nat) (J : (Nat → Prop) → List Int → World → Prop) (hJ : StabM J) (hY : YieldM J l ([sv + 1, if early then 1 else 0, e, p])) (F0 : Nat → Prop) (W : World) (h : Blk W 37 q #[.int .i64 1, .int .i64 id, .int .i64 sv, .int .i64 n, .int .i64 co, .int .i64 e, .int .i64 p, .bool early, v])
    (h0 : J F0 [] W) (hlt : Lies F0 W) (s0 : -1 ≤ sv) (s1 : sv ≤ 1073741824) :
    Calls Try.prog 30 #[.func (.yield l) #[] #[], .pointer (some ⟨q, 0, none⟩)] W (FldO J F0 ([sv + 1, if early then 1 else 0, e, p]) W) := by
  have H := Lib.hid h
  have HJ := Lib.hid hJ
  have HY := Lib.hid hY
  have H0 := Lib.hid h0
  have LT := Lib.hid hlt
  have x0 := h.cell 0; have x1 := h.cell 1; have x2 := h.cell 2; have x3 := h.cell 3; have x4 := h.cell 4; have x5 := h.cell 5; have x6 := h.cell 6; have x7 := h.cell 7; have x8 := h.cell 8
  simp at x0 x1 x2 x3 x4 x5 x6 x7 x8
  clear h hJ hY h0 hlt
  have wv : IntKind.i64.wrap (sv + 1) = sv + 1 := IntWalk.i64_in _ (by omega)
  cases early with
  | false =>
    go_enter Try.func30, Try.ntmps30
    go_wp2_with fail
    refine (wall_lit l J HJ.out _ HY.out F0 [] W _ [sv + 1, 0, e, p] _ 4 rfl rfl H0.out LT.out (by simp) (by simp) (.inl rfl)).mono ?_
    rintro e W' ⟨rfl, F', hj, hm⟩
    have V := Lib.hid (show FldO J F0 [sv + 1, 0, e, p] W (.returned (.tuple #[])) W' from ⟨rfl, F', hj, hm⟩)
    clear hj hm
    go_wp2
    exact bodyPost_end (v := .tuple #[]) (by simp [results, Try.results30, go_sem]) rfl V.out
  | true =>
    go_enter Try.func30, Try.ntmps30
    go_wp2_with fail
    refine (wall_lit l J HJ.out _ HY.out F0 [] W _ [sv + 1, 1, e, p] _ 4 rfl rfl H0.out LT.out (by simp) (by simp) (.inl rfl)).mono ?_
    rintro e W' ⟨rfl, F', hj, hm⟩
    have V := Lib.hid (show FldO J F0 [sv + 1, 1, e, p] W (.returned (.tuple #[])) W' from ⟨rfl, F', hj, hm⟩)
    clear hj hm
    go_wp2
    exact bodyPost_end (v := .tuple #[]) (by simp [results, Try.results30, go_sem]) rfl V.out
set_option maxRecDepth 20000 in
set_option maxHeartbeats 4000000 in
theorem wf2 (id sv n co e p : Int) (early : Bool) (v : Value) (q : Nat) (l : Nat) (J : (Nat → Prop) → List Int → World → Prop) (hJ : StabM J) (hY : YieldM J l ([id])) (F0 : Nat → Prop) (W : World) (h : Blk W 37 q #[.int .i64 2, .int .i64 id, .int .i64 sv, .int .i64 n, .int .i64 co, .int .i64 e, .int .i64 p, .bool early, v])
    (h0 : J F0 [] W) (hlt : Lies F0 W)  :
    Calls Try.prog 30 #[.func (.yield l) #[] #[], .pointer (some ⟨q, 0, none⟩)] W (FldO J F0 ([id]) W) := by
  have H := Lib.hid h
  have HJ := Lib.hid hJ
  have HY := Lib.hid hY
  have H0 := Lib.hid h0
  have LT := Lib.hid hlt
  have x0 := h.cell 0; have x1 := h.cell 1; have x2 := h.cell 2; have x3 := h.cell 3; have x4 := h.cell 4; have x5 := h.cell 5; have x6 := h.cell 6; have x7 := h.cell 7; have x8 := h.cell 8
  simp at x0 x1 x2 x3 x4 x5 x6 x7 x8
  clear h hJ hY h0 hlt
  go_enter Try.func30, Try.ntmps30
  go_wp2_with fail
  refine (wall_lit l J HJ.out _ HY.out F0 [] W _ [id] _ 1 rfl rfl H0.out LT.out (by simp) (by simp) (.inl rfl)).mono ?_
  rintro e W' ⟨rfl, F', hj, hm⟩
  have V := Lib.hid (show FldO J F0 [id] W (.returned (.tuple #[])) W' from ⟨rfl, F', hj, hm⟩)
  clear hj hm
  go_wp2
  exact bodyPost_end (v := .tuple #[]) (by simp [results, Try.results30, go_sem]) rfl V.out
set_option maxRecDepth 20000 in
set_option maxHeartbeats 4000000 in
theorem wf3 (id sv n co e p : Int) (early : Bool) (v : Value) (q : Nat) (l : Nat) (J : (Nat → Prop) → List Int → World → Prop) (hJ : StabM J) (hY : YieldM J l ([id, e, p])) (F0 : Nat → Prop) (W : World) (h : Blk W 37 q #[.int .i64 3, .int .i64 id, .int .i64 sv, .int .i64 n, .int .i64 co, .int .i64 e, .int .i64 p, .bool early, v])
    (h0 : J F0 [] W) (hlt : Lies F0 W)  :
    Calls Try.prog 30 #[.func (.yield l) #[] #[], .pointer (some ⟨q, 0, none⟩)] W (FldO J F0 ([id, e, p]) W) := by
  have H := Lib.hid h
  have HJ := Lib.hid hJ
  have HY := Lib.hid hY
  have H0 := Lib.hid h0
  have LT := Lib.hid hlt
  have x0 := h.cell 0; have x1 := h.cell 1; have x2 := h.cell 2; have x3 := h.cell 3; have x4 := h.cell 4; have x5 := h.cell 5; have x6 := h.cell 6; have x7 := h.cell 7; have x8 := h.cell 8
  simp at x0 x1 x2 x3 x4 x5 x6 x7 x8
  clear h hJ hY h0 hlt
  go_enter Try.func30, Try.ntmps30
  go_wp2_with fail
  refine (wall_lit l J HJ.out _ HY.out F0 [] W _ [id, e, p] _ 3 rfl rfl H0.out LT.out (by simp) (by simp) (.inl rfl)).mono ?_
  rintro e W' ⟨rfl, F', hj, hm⟩
  have V := Lib.hid (show FldO J F0 [id, e, p] W (.returned (.tuple #[])) W' from ⟨rfl, F', hj, hm⟩)
  clear hj hm
  go_wp2
  exact bodyPost_end (v := .tuple #[]) (by simp [results, Try.results30, go_sem]) rfl V.out
set_option maxRecDepth 20000 in
set_option maxHeartbeats 4000000 in
theorem wf4 (id sv n co e p : Int) (early : Bool) (v : Value) (q : Nat) (l : Nat) (J : (Nat → Prop) → List Int → World → Prop) (hJ : StabM J) (hY : YieldM J l ([id, n])) (F0 : Nat → Prop) (W : World) (h : Blk W 37 q #[.int .i64 4, .int .i64 id, .int .i64 sv, .int .i64 n, .int .i64 co, .int .i64 e, .int .i64 p, .bool early, v])
    (h0 : J F0 [] W) (hlt : Lies F0 W)  :
    Calls Try.prog 30 #[.func (.yield l) #[] #[], .pointer (some ⟨q, 0, none⟩)] W (FldO J F0 ([id, n]) W) := by
  have H := Lib.hid h
  have HJ := Lib.hid hJ
  have HY := Lib.hid hY
  have H0 := Lib.hid h0
  have LT := Lib.hid hlt
  have x0 := h.cell 0; have x1 := h.cell 1; have x2 := h.cell 2; have x3 := h.cell 3; have x4 := h.cell 4; have x5 := h.cell 5; have x6 := h.cell 6; have x7 := h.cell 7; have x8 := h.cell 8
  simp at x0 x1 x2 x3 x4 x5 x6 x7 x8
  clear h hJ hY h0 hlt
  go_enter Try.func30, Try.ntmps30
  go_wp2_with fail
  refine (wall_lit l J HJ.out _ HY.out F0 [] W _ [id, n] _ 2 rfl rfl H0.out LT.out (by simp) (by simp) (.inl rfl)).mono ?_
  rintro e W' ⟨rfl, F', hj, hm⟩
  have V := Lib.hid (show FldO J F0 [id, n] W (.returned (.tuple #[])) W' from ⟨rfl, F', hj, hm⟩)
  clear hj hm
  go_wp2
  exact bodyPost_end (v := .tuple #[]) (by simp [results, Try.results30, go_sem]) rfl V.out
set_option maxRecDepth 20000 in
set_option maxHeartbeats 4000000 in
theorem wf5 (id sv n co e p : Int) (early : Bool) (v : Value) (q : Nat) (l : Nat) (J : (Nat → Prop) → List Int → World → Prop) (hJ : StabM J) (hY : YieldM J l ([n])) (F0 : Nat → Prop) (W : World) (h : Blk W 37 q #[.int .i64 5, .int .i64 id, .int .i64 sv, .int .i64 n, .int .i64 co, .int .i64 e, .int .i64 p, .bool early, v])
    (h0 : J F0 [] W) (hlt : Lies F0 W)  :
    Calls Try.prog 30 #[.func (.yield l) #[] #[], .pointer (some ⟨q, 0, none⟩)] W (FldO J F0 ([n]) W) := by
  have H := Lib.hid h
  have HJ := Lib.hid hJ
  have HY := Lib.hid hY
  have H0 := Lib.hid h0
  have LT := Lib.hid hlt
  have x0 := h.cell 0; have x1 := h.cell 1; have x2 := h.cell 2; have x3 := h.cell 3; have x4 := h.cell 4; have x5 := h.cell 5; have x6 := h.cell 6; have x7 := h.cell 7; have x8 := h.cell 8
  simp at x0 x1 x2 x3 x4 x5 x6 x7 x8
  clear h hJ hY h0 hlt
  go_enter Try.func30, Try.ntmps30
  go_wp2_with fail
  refine (wall_lit l J HJ.out _ HY.out F0 [] W _ [n] _ 1 rfl rfl H0.out LT.out (by simp) (by simp) (.inl rfl)).mono ?_
  rintro e W' ⟨rfl, F', hj, hm⟩
  have V := Lib.hid (show FldO J F0 [n] W (.returned (.tuple #[])) W' from ⟨rfl, F', hj, hm⟩)
  clear hj hm
  go_wp2
  exact bodyPost_end (v := .tuple #[]) (by simp [results, Try.results30, go_sem]) rfl V.out
set_option maxRecDepth 20000 in
set_option maxHeartbeats 4000000 in
theorem wf7 (id sv n co e p : Int) (early : Bool) (v : Value) (q : Nat) (l : Nat) (J : (Nat → Prop) → List Int → World → Prop) (hJ : StabM J) (hY : YieldM J l ([id])) (F0 : Nat → Prop) (W : World) (h : Blk W 37 q #[.int .i64 7, .int .i64 id, .int .i64 sv, .int .i64 n, .int .i64 co, .int .i64 e, .int .i64 p, .bool early, v])
    (h0 : J F0 [] W) (hlt : Lies F0 W)  :
    Calls Try.prog 30 #[.func (.yield l) #[] #[], .pointer (some ⟨q, 0, none⟩)] W (FldO J F0 ([id]) W) := by
  have H := Lib.hid h
  have HJ := Lib.hid hJ
  have HY := Lib.hid hY
  have H0 := Lib.hid h0
  have LT := Lib.hid hlt
  have x0 := h.cell 0; have x1 := h.cell 1; have x2 := h.cell 2; have x3 := h.cell 3; have x4 := h.cell 4; have x5 := h.cell 5; have x6 := h.cell 6; have x7 := h.cell 7; have x8 := h.cell 8
  simp at x0 x1 x2 x3 x4 x5 x6 x7 x8
  clear h hJ hY h0 hlt
  go_enter Try.func30, Try.ntmps30
  go_wp2_with fail
  refine (wall_lit l J HJ.out _ HY.out F0 [] W _ [id] _ 1 rfl rfl H0.out LT.out (by simp) (by simp) (.inl rfl)).mono ?_
  rintro e W' ⟨rfl, F', hj, hm⟩
  have V := Lib.hid (show FldO J F0 [id] W (.returned (.tuple #[])) W' from ⟨rfl, F', hj, hm⟩)
  clear hj hm
  go_wp2
  exact bodyPost_end (v := .tuple #[]) (by simp [results, Try.results30, go_sem]) rfl V.out
set_option maxRecDepth 20000 in
set_option maxHeartbeats 4000000 in
theorem wf6 (id sv n co e p : Int) (early : Bool) (v : Value) (ps : List (Int × Int)) (q : Nat) (l : Nat) (J : (Nat → Prop) → List Int → World → Prop) (hJ : StabM J) (hY : YieldM J l ([sv + 1, co, (ps.length : Int)] ++ ps.flatMap fun x => [x.1, x.2])) (F0 : Nat → Prop) (W : World) (h : Blk W 37 q #[.int .i64 6, .int .i64 id, .int .i64 sv, .int .i64 n, .int .i64 co, .int .i64 e, .int .i64 p, .bool early, v])
    (h0 : J F0 [] W) (hlt : Lies F0 W) (s0 : -1 ≤ sv) (s1 : sv ≤ 1073741824) (a : Option Addr) (cap : Nat) (hv : v = .slice a ps.length cap) (hps : RowT W a ps.length cap ps) (p8 : ps.length ≤ 8) (hq : ¬ F0 q) (ha : ∀ ad : Addr, a = some ad → ¬ F0 ad.block) :
    Calls Try.prog 30 #[.func (.yield l) #[] #[], .pointer (some ⟨q, 0, none⟩)] W (FldO J F0 ([sv + 1, co, (ps.length : Int)] ++ ps.flatMap fun x => [x.1, x.2]) W) := by
  have H := Lib.hid h
  have HJ := Lib.hid hJ
  have HY := Lib.hid hY
  have H0 := Lib.hid h0
  have LT := Lib.hid hlt
  have x0 := h.cell 0; have x1 := h.cell 1; have x2 := h.cell 2; have x3 := h.cell 3; have x4 := h.cell 4; have x5 := h.cell 5; have x6 := h.cell 6; have x7 := h.cell 7; have x8 := h.cell 8
  simp at x0 x1 x2 x3 x4 x5 x6 x7 x8
  clear h hJ hY h0 hlt
  subst hv
  obtain ⟨m, hm⟩ : ∃ m, ps.length = m := ⟨_, rfl⟩
  rw [hm] at x8 H HY hps p8 ⊢
  have HM := Lib.hid hm
  have HP := Lib.hid hps
  have HA := Lib.hid ha
  have QL := Lib.hid H.out.lt
  have HQ := Lib.hid hq
  clear hm hps hq ha
  have wv : IntKind.i64.wrap (sv + 1) = sv + 1 := IntWalk.i64_in _ (by omega)
  go_enter Try.func30, Try.ntmps30
  go_wp2_with fail
  refine (wall_lit l J HJ.out _ HY.out F0 [] W _ [sv + 1, co, (m : Int)] _ 3 rfl rfl H0.out LT.out (by simp) (by simp) (.inl rfl)).mono ?_
  rintro e W1 ⟨rfl, F1, hj, hmv⟩
  have J1 := Lib.hid hj
  have M1 := Lib.hid hmv
  clear hj hmv x0 x1 x2 x3 x4 x5 x6 x7 x8 wv
  go_wp2
  go_loopw [4, 5] (fun on u wr => ∃ (i : Nat) (F : Nat → Prop), on = .bool true ∧ u = .int .i64 i ∧ i ≤ m ∧ J F ([sv + 1, co, (m : Int)] ++ (ps.take i).flatMap fun x => [x.1, x.2]) wr ∧ Moves F0 F W wr) (fun _ u _ => m - (intOf u).toNat)
  case atStart => exact ⟨0, F1, rfl, rfl, by omega, by simpa using J1.out, M1.out⟩
  case round =>
    obtain ⟨i, F, rfl, rfl, i1, hj, hmv⟩ := hrel
    have JJ := Lib.hid hj
    have MM := Lib.hid hmv
    have nq : ¬ F q := fun z => by
      rcases hmv.grow _ z with g | g
      · exact HQ.out g
      · have := QL.out; omega
    have X := Lib.hid (H.out.keeps hmv.keeps HQ.out)
    have c8 := X.out.cell 8
    simp at c8
    have RT := Lib.hid (HP.out.keeps hmv.keeps HA.out)
    have NQ := Lib.hid nq
    clear hj hmv nq
    by_cases go : i < m
    · have b1 : decide ((i : Int) < (m : Int)) = true := by simp; omega
      have b1' : decide (i < m) = true := by simp; omega
      obtain ⟨r, hr, hts⟩ := get_of (l := ps) (i := i) (by rw [HM.out]; exact go)
      have TS := Lib.hid (show [sv + 1, co, (m : Int)] ++ ((ps.take (i + 1)).flatMap fun x => [x.1, x.2]) = ([sv + 1, co, (m : Int)] ++ (ps.take i).flatMap fun x => [x.1, x.2]) ++ [r.1, r.2] by rw [hts, List.flatMap_append]; simp)
      obtain ⟨b, off, rfl, y0, y1⟩ := RT.out.at hr
      have i3 : (i : Int) < (m : Int) := by omega
      have i0 : 0 ≤ (i : Int) := by omega
      obtain ⟨E, P⟩ := r
      replace y0 : wr.cell? ⟨b, off + i * 2, none⟩ = some (.int .i64 E) := y0
      replace y1 : wr.cell? ⟨b, off + i * 2 + 1, none⟩ = some (.int .i64 P) := y1
      have SA := Lib.hid (show ∀ W, Below wr.heap.size wr W → W.cell? ⟨b, off + i * 2, none⟩ = some (.int .i64 E) ∧ W.cell? ⟨b, off + i * 2 + 1, none⟩ = some (.int .i64 P) ∧ W.cell? ⟨q, 8, none⟩ = some (.slice (some ⟨b, off, none⟩) m cap) from fun W hb => ⟨cell_on hb y0, cell_on hb y1, cell_on hb c8⟩)
      have LF := Lib.hid (show Lies F wr from MM.out.lt)
      have nb : ¬ F b := fun z => by
        obtain ⟨b', off', e', z0, _⟩ := HP.out.at hr
        cases e'
        rcases MM.out.grow _ z with g | g
        · exact HA.out _ rfl g
        · exact absurd (World.block_lt_of_cell? _ _ z0) (Nat.not_lt.mpr g)
      have SN := Lib.hid (show ∀ W' F', Moves F F' wr W' → W'.cell? ⟨b, off + i * 2, none⟩ = some (.int .i64 E) ∧ W'.cell? ⟨b, off + i * 2 + 1, none⟩ = some (.int .i64 P) ∧ W'.cell? ⟨q, 8, none⟩ = some (.slice (some ⟨b, off, none⟩) m cap) from fun W' F' hm => ⟨(World.cell?_of_block (w := wr) (a := ⟨b, off + i * 2, none⟩) (hm.keeps.block b (World.block_lt_of_cell? _ _ y0) nb)).trans y0, (World.cell?_of_block (w := wr) (a := ⟨b, off + i * 2 + 1, none⟩) (hm.keeps.block b (World.block_lt_of_cell? _ _ y1) nb)).trans y1, (World.cell?_of_block (w := wr) (a := ⟨q, 8, none⟩) (hm.keeps.block q (World.block_lt_of_cell? _ _ c8) NQ.out)).trans c8⟩)
      have WL := Lib.hid (fun W2 hW => wall_lit l J HJ.out _ HY.out F _ wr W2 [E, P] #[.int .i64 E, .int .i64 P] 2 rfl rfl JJ.out LF.out (by rw [List.length_append, flat_two, List.length_take]; simp; omega) (fun z hz => List.mem_append_right _ (List.mem_flatMap.mpr ⟨(E, P), List.mem_of_getElem? hr, hz⟩)) hW)
      clear hr hts nb
      go_upto_region 20 with fail
      clear y0 y1 c8
      have BL := Lib.hid (show Below wr.heap.size wr wr.drew from (Below.refl _ _).drew)
      go_region_held3 (fun W => W.cell? ⟨b, off + i * 2, none⟩ = some (.int .i64 E) ∧ W.cell? ⟨b, off + i * 2 + 1, none⟩ = some (.int .i64 P) ∧ W.cell? ⟨q, 8, none⟩ = some (.slice (some ⟨b, off, none⟩) m cap))
        (first | exact SN.out _ _ hmv | exact SA.out _ BL.out | exact SA.out _ (Below.refl _ _) | exact SA.out _ ((wbox _ _).drew) | exact SA.out _ (wbox _ _) | (refine SA.out _ ?_; exact (Below.refl _ _).drew))
        (first | (go_at_call 31; ((with_reducible refine (WL.out _ (.inr rfl)).mono ?_)); rintro e W' ⟨rfl, F', hj, hmv⟩))
      all_goals
        have J3 := Lib.hid (show J F' ([sv + 1, co, (m : Int)] ++ (ps.take (i + 1)).flatMap fun x => [x.1, x.2]) W' by rw [TS.out]; exact hj)
        have M3 := Lib.hid (MM.out.trans hmv)
        clear hj hmv
        go_wp2
        go_roundw
        case rel => exact ⟨i + 1, F', rfl, by go_num, by omega, J3.out, M3.out⟩
        case measure => simp [intOf]; omega
    · have b1 : decide ((i : Int) < (m : Int)) = false := by simp; omega
      have b1' : decide (i < m) = false := by simp; omega
      have V := Lib.hid (show FldO J F0 ([sv + 1, co, (m : Int)] ++ ps.flatMap fun x => [x.1, x.2]) W (.returned (.tuple #[])) wr from ⟨rfl, F, by have := JJ.out; rwa [List.take_of_length_le (by rw [HM.out]; omega)] at this, MM.out⟩)
      go_wp2
      exact bodyPost_end (v := .tuple #[]) (by simp [results, Try.results30, go_sem]) rfl V.out
end Go.Proofs.Ytlcagjmppmajeaa
