/-
  Package heap as landed: IDs: contract.
-/
import Derived.Test.YtimafmalfmeehaaHx12
namespace Go.Proofs.Ytimafmalfmeehaa
open Go.RowKit Go.Maps

set_option maxRecDepth 20000 in
set_option maxHeartbeats 4000000 in
theorem ids_walk (ok : SortOk) (g n cap m : Nat) (a : Option Addr) (xs : List Th) (w : World) (h : HS w g (.slice a n cap) m xs) (hn : xs.length = n) :
    Calls Try.prog 22 #[.pointer (some ⟨g, 0, none⟩)] w (Gives .i64 w fun zs => zs = (xs.map Th.id).mergeSort fun x y => decide (x ≤ y)) := by
  have H := Lib.hid h
  have LN := Lib.hid hn
  have SO := Lib.hid ok
  have c1 := h.blk.cell 1
  simp [HV] at c1
  have nl := h.len
  rw [hn] at nl
  obtain ⟨i0, hi, hz0, hz1, hz2⟩ := info_parts Try.infoI
  clear h hn ok
  go_enter Try.func22, Try.ntmps22
  go_wp2_with (at_make; refine wpList_make_own _ rfl _ _ 44 rfl w.heap.size 3 i0 (.int .i64 0) 1 Try.underlying44 hi hz0 hz1 _ _ _ n rfl rfl rfl (by rw [hz2]; omega) (by unfold maxLen; omega) (Nat.le_refl _) ?_; intro w1 hown hgrow; have HO := Lib.hid hown; have B1 := Lib.hid ((Below.refl w.heap.size w).grown hgrow (Nat.le_refl _) (fun k e => by cases e)); have c2 : _ = some _ := (H.out.below B1.out).blk.cell 1; simp [HV] at c2; clear hown hgrow c1)
  clear c2
  go_loopw [3, 19] (fun v u wr => ∃ i : Nat, u = .int .i64 i ∧ i ≤ n ∧ wr.ownsRow w.heap.size 3 1 v ((xs.take i).map Th.id).length (((xs.take i).map Th.id).map (Value.int .i64)) ∧ Below w.heap.size w wr) (fun _ u _ => n - (intOf u).toNat)
  case atStart => exact ⟨0, rfl, by omega, HO.out, B1.out⟩
  case round =>
    obtain ⟨i, rfl, il, hown, hbel⟩ := hrel
    have HW := Lib.hid hown
    have B := Lib.hid hbel
    have HH := Lib.hid (H.out.below hbel)
    clear hown hbel HO B1
    by_cases go : i < n
    · have b1 : decide (i < n) = true := decide_eq_true go
      have b2 : decide ((i : Int) < (n : Int)) = true := decide_eq_true (by omega)
      obtain ⟨x, hx⟩ := getX LN.out go
      obtain ⟨b, cap', hv⟩ := HH.out.slice (by rw [LN.out]; omega)
      have ha := (Value.slice.inj hv).1
      subst ha
      clear hv
      have RW := Lib.hid (show wr.ownsRow 0 57 2 (.slice (some ⟨b, 0, none⟩) n cap) n (xs.map Th.cs).flatten by have := HH.out.row; rw [LN.out] at this; exact this)
      have XA := Lib.hid (owns_at RW.out hx)
      have TK := Lib.hid (show (xs.take (i + 1)).map Th.id = (xs.take i).map Th.id ++ [x.id] by rw [List.take_add_one, hx, List.map_append]; rfl)
      obtain ⟨ns, hns⟩ : ∃ ns, (xs.take i).map Th.id = ns := ⟨_, rfl⟩
      have NL := Lib.hid (show ns.length ≤ 1000 by rw [← hns, List.length_map, List.length_take]; omega)
      rw [hns] at HW TK
      have x0 := XA.out.c0
      have x1 := XA.out.c1
      have i1 : (i : Int) < (n : Int) := by omega
      have i2 : 0 ≤ (i : Int) := by omega
      clear hx hns
      go_wp2_with (at_builtin; refine app_int rfl _ _ rfl w.heap.size u3 ns rfl ((HW.out.alloc _).alloc _) (wr.heap.size + 1) x.id rfl (Blk.new2 wr _ _ _) (by have := B.out.size; simp; omega) (by have := NL.out; omega) ?_; intro v2 w2 hown2 hgrow2; have HO2 := Lib.hid hown2; have B2 := Lib.hid ((below_next B.out (wbox2 wr _ _)).grown hgrow2 (by have := B.out.size; simp; omega) (fun k e => (HW.out.lt k e).1)); clear hown2 hgrow2)
      go_roundw
      case rel => exact ⟨i + 1, by go_num, by omega, by rw [TK.out]; exact HO2.out, B2.out⟩
      case measure => simp [intOf]; omega
    · have b1 : decide (i < n) = false := decide_eq_false go
      have b2 : decide ((i : Int) < (n : Int)) = false := decide_eq_false (by omega)
      have TK := Lib.hid (show xs.take i = xs from List.take_of_length_le (by rw [LN.out]; omega))
      rw [TK.out] at HW
      have ML2 := Lib.hid (show ∀ (a3 : Option Addr) (cap3 : Nat), Ending.returned (.slice a3 xs.length cap3) = Ending.returned (.slice a3 (xs.map Th.id).length cap3) from fun _ _ => by rw [List.length_map])
      have ML := Lib.hid (show (xs.map Th.id).length ≤ 1000 by rw [List.length_map, LN.out]; exact nl)
      go_wp2_with fail
      refine (sort_any SO.out w.heap.size _ _ (xs.map Th.id) _ HW.out ML.out).mono ?_
      rintro e w3 ⟨rfl, ⟨a3, cap3, hv3, hr3, hf3⟩, hk3⟩
      subst hv3
      have R3 := Lib.hid hr3
      have F3 := Lib.hid hf3
      have K3 := Lib.hid (hk3.below B.out (fun k e => (HW.out.lt k e).1) B.out.size)
      clear hr3 hf3 hk3
      go_wp2
      go_ret
      exact ⟨a3, (xs.map Th.id).length, cap3, _, ML2.out a3 cap3, R3.out, rfl, K3.out, F3.out⟩
theorem hids_any (ok : SortOk) (g : Nat) (F : Nat → Prop) (ts : List Th) (w : World) (h : Hp7 w g F ts) : Calls Try.prog 22 #[.pointer (some ⟨g, 0, none⟩)] w fun e w' => ∃ a len cap, e = .returned (.slice a len cap) ∧ Row .i64 w' a len cap (idsT ts) ∧ Fresh w.heap.size a ∧ ∃ F', Hp7 w' g F' ts ∧ Moves F F' w w' ∧ (∀ ad : Addr, a = some ad → ¬ F' ad.block) := by
  have h' := h
  obtain ⟨a, cap, m, xs, hs, hq, hp, hF⟩ := h
  refine (ids_walk ok g xs.length cap m a xs w hs rfl).mono ?_
  rintro e w' ⟨a', len, cap', zs, rfl, hr, rfl, hb, hf⟩
  refine ⟨a', len, cap', rfl, by rw [← sorted_ids hp]; exact hr, hf, F, h'.keeps (G := fun _ => False) (Keeps.of hb) (fun _ _ q => q), Moves.of hb h'.lies, fun ad e q => ?_⟩
  have h1 := hf ad e
  have h2 := h'.lies _ q
  omega
end Go.Proofs.Ytimafmalfmeehaa
