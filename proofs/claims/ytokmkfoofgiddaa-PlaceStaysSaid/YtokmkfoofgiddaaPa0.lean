/-
  Runners in memory; which cores are taken: an array of truths behind a closure; the closure's maker and the closure: contracts.
-/
import Derived.Test.YtokmkfoofgiddaaSep
import Derived.Test.YtokmkfoofgiddaaPl2
import Derived.Deep.DeepCutAuto
import Derived.Deep.RegionHeld3
namespace Go.Proofs.Ytokmkfoofgiddaa
open Go.RowKit

theorem ret_b {x y : Bool} (h : x = y) : Ending.returned (.bool x) = .returned (.bool y) := by rw [h]
theorem cell_on {w w2 : World} {p : Addr} {v : Value} (hb : Below w.heap.size w w2) (h : w.cell? p = some v) : w2.cell? p = some v := (hb.cell (World.block_lt_of_cell? _ _ h)).trans h
theorem bdN {B : Nat} {a w : World} (h : Below B a w) (n : Nat) : Below B a (w.drewN n) := ⟨h.os, h.tape, h.output, h.size, h.block⟩
/-! ### runners -/
def r0 : Rn := ⟨0, 0, 0⟩
def Rn.cs (r : Rn) : List Value := [.int .i64 r.id, .int .i64 r.pin, .int .i64 r.last]
structure RnAt (W : World) (b o : Nat) (r : Rn) : Prop where
  c0 : W.cell? ⟨b, o, none⟩ = some (.int .i64 r.id)
  c1 : W.cell? ⟨b, o + 1, none⟩ = some (.int .i64 r.pin)
  c2 : W.cell? ⟨b, o + 2, none⟩ = some (.int .i64 r.last)
theorem RnAt.lt {W : World} {b o : Nat} {r : Rn} (h : RnAt W b o r) : b < W.heap.size := World.block_lt_of_cell? _ _ h.c0
theorem RnAt.below {W W' : World} {b o : Nat} {r : Rn} (h : RnAt W b o r) (hb : Below W.heap.size W W') : RnAt W' b o r :=
  ⟨(hb.cell h.lt).trans h.c0, (hb.cell h.lt).trans h.c1, (hb.cell h.lt).trans h.c2⟩
theorem wideR (l : List Rn) : Wide 3 (l.map Rn.cs) := fun r hr => by
  rw [List.mem_map] at hr
  obtain ⟨e, _, rfl⟩ := hr
  rfl
theorem oneR (l : List Rn) : ∀ r ∈ l.map Rn.cs, ∀ u ∈ r, u.oneCell' = true := fun r hr u hu => by
  rw [List.mem_map] at hr
  obtain ⟨e, _, rfl⟩ := hr
  unfold Rn.cs at hu
  simp at hu
  rcases hu with rfl | rfl | rfl <;> rfl
/-- the slice that leads to 'a' reads as these runners -/
def RowR (W : World) (a : Option Addr) (len cap : Nat) (l : List Rn) : Prop := RowF W a len cap 3 (l.map Rn.cs)
theorem RowR.len {W : World} {a : Option Addr} {len cap : Nat} {l : List Rn} (h : RowR W a len cap l) : l.length = len := by have := h.1; rwa [List.length_map] at this
theorem RowR.cap_le {W : World} {a : Option Addr} {len cap : Nat} {l : List Rn} (h : RowR W a len cap l) : len ≤ cap ∧ cap ≤ 9223372036854775807 := RowF.cap_le h
theorem RowR.below {W W' : World} {a : Option Addr} {len cap : Nat} {l : List Rn} (h : RowR W a len cap l) (hb : Below W.heap.size W W') : RowR W' a len cap l := RowF.below (wideR l) h hb
theorem RowR.nil {W : World} : RowR W none 0 0 [] := RowF.nil
theorem RowR.take {W : World} {a : Option Addr} {len cap m : Nat} {l : List Rn} (h : RowR W a len cap l) (hm : m ≤ len) : RowR W a m cap (l.take m) := by
  unfold RowR; rw [List.map_take]; exact RowF.take h hm
theorem getR {l : List Rn} {i : Nat} (hi : i < l.length) : ∃ r, l[i]? = some r ∧ l.take (i + 1) = l.take i ++ [r] :=
  ⟨l[i], List.getElem?_eq_getElem hi, by rw [List.take_succ_eq_append_getElem hi]⟩
theorem lt_of_get {α : Type} {l : List α} {i : Nat} {x : α} (h : l[i]? = some x) : i < l.length := by
  rcases Nat.lt_or_ge i l.length with g | g
  · exact g
  · rw [List.getElem?_eq_none g] at h; cases h
theorem RowR.at {W : World} {a : Option Addr} {len cap : Nat} {l : List Rn} (h : RowR W a len cap l) {i : Nat} {r : Rn} (he : l[i]? = some r) : ∃ b off, a = some ⟨b, off, none⟩ ∧ RnAt W b (off + i * 3) r := by
  have hi : i < len := by rw [← h.len]; exact lt_of_get he
  obtain ⟨b, off, ha, hc⟩ := h.2.2.2.2 i hi
  have hg : (l.map Rn.cs).getD i [] = r.cs := by rw [List.getD_eq_getElem?_getD, List.getElem?_map, he]; rfl
  rw [hg] at hc
  exact ⟨b, off, ha, hc 0 (by omega), hc 1 (by omega), hc 2 (by omega)⟩
theorem RowR.keeps {F : Nat → Prop} {W W' : World} {a : Option Addr} {len cap : Nat} {l : List Rn} (h : RowR W a len cap l) (k : Keeps F W W') (hF : ∀ ad : Addr, a = some ad → ¬ F ad.block) : RowR W' a len cap l := RowF.keeps h (wideR l) (by omega) k hF
theorem rowR_of_owns {W : World} {base : Nat} {e : TypeId} {v : Value} {n : Nat} {l : List Rn} (h : W.ownsRow base e 3 v n (l.map Rn.cs).flatten) (hn : l.length = n) :
    ∃ a cap, v = .slice a n cap ∧ RowR W a n cap l ∧ Fresh base a := rowF_of_owns (wideR l) h (by rw [List.length_map]; exact hn)
/-- what runners that were handed over are -/
theorem runners_of_flat {w : World} {a : Option Addr} {len cap : Nat} {rs : List (List Value)} (h : RowF w a len cap 3 rs) (g : ∀ r ∈ rs, Fit [.int .i64, .int .i64, .int .i64] r) : ∃ l, RowR w a len cap l := by
  have : ∃ l : List Rn, rs = l.map Rn.cs := by
    clear h
    induction rs with
    | nil => exact ⟨[], rfl⟩
    | cons r rs ih =>
      obtain ⟨es, he⟩ := ih (fun r' hr => g r' (List.mem_cons_of_mem _ hr))
      have gr := g r (List.mem_cons_self ..)
      obtain ⟨z0, q0, rfl, _, gr⟩ := gr.int
      obtain ⟨z1, q1, rfl, _, gr⟩ := gr.int
      obtain ⟨z2, q2, rfl, _, gr⟩ := gr.int
      have := gr.nil
      subst this
      exact ⟨⟨z0, z1, z2⟩ :: es, by rw [he]; rfl⟩
  obtain ⟨l, rfl⟩ := this
  exact ⟨l, h⟩
/-! ### what is taken -/
/-- an array of truths: is a core one of these? -/
def tkc (tk : List Int) : Array Value := Array.ofFn (n := 1024) fun i => .bool (decide ((i.val : Int) ∈ tk))
theorem tkc_size (tk : List Int) : (tkc tk).size = 1024 := by simp [tkc]
theorem tkc_at (tk : List Int) {j : Nat} (h : j < 1024) : (tkc tk)[j]? = some (.bool (decide ((j : Int) ∈ tk))) := by
  unfold tkc
  rw [Array.getElem?_eq_getElem (by simpa using h)]
  simp
theorem tkc_ext {A : Array Value} {tk : List Int} (hs : A.size = 1024) (h : ∀ j, j < 1024 → A[j]? = some (.bool (decide ((j : Int) ∈ tk)))) : A = tkc tk := by
  apply Array.ext_getElem?
  intro j
  by_cases q : j < 1024
  · rw [h j q, tkc_at tk q]
  · rw [Array.getElem?_eq_none (by omega), Array.getElem?_eq_none (by rw [tkc_size]; omega)]
theorem tkc_set (tk : List Int) {j : Nat} (h : j < 1024) : (tkc tk).setIfInBounds j (.bool true) = tkc (tk ++ [(j : Int)]) := by
  refine tkc_ext (by simp [tkc_size]) fun k hk => ?_
  by_cases e : j = k
  · subst e
    rw [Array.getElem?_setIfInBounds_self_of_lt (by rw [tkc_size]; exact h)]
    simp
  · rw [Array.getElem?_setIfInBounds_ne e, tkc_at tk hk]
    have : ¬ (k : Int) = j := by omega
    simp [this]
theorem tkc_same {tk tk' : List Int} (h : ∀ c : Int, 0 ≤ c → (c ∈ tk ↔ c ∈ tk')) : tkc tk = tkc tk' :=
  tkc_ext (tkc_size tk) fun j hj => by
    rw [tkc_at tk hj]
    have := h j (by omega)
    simp [this]
theorem tkc_nil : Array.replicate 1024 (Value.bool false) = tkc [] :=
  tkc_ext (by simp) fun j hj => by
    rw [Array.getElem?_replicate, if_pos hj]
    simp
/-- the closure v, over a box p that holds m and an array q, takes cores: these are taken -/
structure TkAt (W : World) (v : Value) (p q : Nat) (m : Int) (tk : List Int) : Prop where
  fn : v = .func (.func 26) #[] #[.pointer (some ⟨p, 0, none⟩), .pointer (some ⟨q, 0, none⟩)]
  box : W.cell? ⟨p, 0, none⟩ = some (.int .i64 m)
  arr : Blk W 51 q (tkc tk)
  ne : p ≠ q
theorem TkAt.plt {W : World} {v : Value} {p q : Nat} {m : Int} {tk : List Int} (h : TkAt W v p q m tk) : p < W.heap.size := World.block_lt_of_cell? _ _ h.box
theorem TkAt.keeps {F : Nat → Prop} {W W' : World} {v : Value} {p q : Nat} {m : Int} {tk : List Int} (h : TkAt W v p q m tk) (k : Keeps F W W') (hp : ¬ F p) (hq : ¬ F q) : TkAt W' v p q m tk :=
  ⟨h.fn, (World.cell?_of_block (w := W) (a := ⟨p, 0, none⟩) (k.block p h.plt hp)).trans h.box, h.arr.keeps k hq, h.ne⟩
theorem TkAt.below {W W' : World} {v : Value} {p q : Nat} {m : Int} {tk : List Int} (h : TkAt W v p q m tk) (k : Below W.heap.size W W') : TkAt W' v p q m tk := h.keeps (F := fun _ => False) (Keeps.of k) (fun x => x) (fun x => x)
theorem TkAt.same {W : World} {v : Value} {p q : Nat} {m : Int} {tk tk' : List Int} (h : TkAt W v p q m tk) (g : ∀ c : Int, 0 ≤ c → (c ∈ tk ↔ c ∈ tk')) : TkAt W v p q m tk' := ⟨h.fn, h.box, by rw [← tkc_same g]; exact h.arr, h.ne⟩
def takeB (m : Int) (tk : List Int) (c : Int) : Bool := decide (0 ≤ c) && decide (c < m) && !decide (c ∈ tk)
def takeL (m : Int) (tk : List Int) (c : Int) : List Int := if takeB m tk c then tk ++ [c] else tk

theorem zeroA (w : World) : (zeroValue 51).run Try.prog w = .ok (.agg (Array.replicate 1024 (.bool false))) w := by kernel_rfl
set_option maxRecDepth 20000 in
theorem ptaker_any (m : Int) (w : World) :
    Calls Try.prog 23 #[.int .i64 m] w fun e w' => ∃ v, e = .returned v ∧ TkAt w' v w.heap.size (w.heap.size + 1) m [] ∧ Below w.heap.size w w' ∧ w'.heap.size = w.heap.size + 2 := by
  have hmf : ∀ (fn : Fn) (first cap : Array Value) (w : World), (Instr.makeFunc fn first cap).run Try.prog w = .ok (.func fn first cap) w := fun _ _ _ _ => rfl
  have hz := zeroA
  go_enter Try.func23, Try.ntmps23
  go_wp2
  go_ret
  rw [tkc_nil]
  exact ⟨_, rfl, ⟨rfl, cell_on (wbox _ _) ((Blk.new w 3 #[.int .i64 m]).cell 0), Blk.new2 _ _ _ _, by omega⟩, wbox2 _ _ _, by simp⟩
/-- a core is taken, if it is free -/
def Took (p q : Nat) (m : Int) (tk : List Int) (c : Int) (v : Value) (w : World) (e : Ending) (w' : World) : Prop :=
  e = .returned (.bool (takeB m tk c)) ∧ TkAt w' v p q m (takeL m tk c) ∧ Keeps (fun k => k = q) w w' ∧ w'.heap.size = w.heap.size
set_option maxHeartbeats 1000000 in
theorem ptake_any {w : World} {v : Value} {p q : Nat} {m : Int} {tk : List Int} (h : TkAt w v p q m tk) (c : Int) (hm : m ≤ 1024) :
    Calls Try.prog 26 #[.int .i64 c, .pointer (some ⟨p, 0, none⟩), .pointer (some ⟨q, 0, none⟩)] w (Took p q m tk c v w) := by
  have H := Lib.hid h
  have hb := h.box
  have ha := h.arr.cell
  have hf := h.arr.free
  have hne := h.ne
  by_cases h0 : 0 ≤ c
  · have b0 : decide (c < 0) = false := by simp; omega
    by_cases h1 : c < m
    · have b1 : decide (m ≤ c) = false := by simp; omega
      obtain ⟨n, rfl⟩ := Int.eq_ofNat_of_zero_le h0
      have hn : n < 1024 := by omega
      have hcell := ha n
      rw [tkc_at tk hn] at hcell
      have hfz := hf n
      by_cases h2 : (n : Int) ∈ tk
      · have d2 : decide ((n : Int) ∈ tk) = true := by simp [h2]
        rw [d2] at hcell
        have V := Lib.hid (show takeB m tk n = false by unfold takeB; simp [h2])
        clear ha hf h2 d2 h
        go_enter Try.func26, Try.ntmps26
        go_wp2
        go_ret
        exact ⟨ret_b V.out.symm, by unfold takeL; rw [V.out]; exact H.out, Keeps.refl _ _, rfl⟩
      · have d2 : decide ((n : Int) ∈ tk) = false := by simp [h2]
        rw [d2] at hcell
        have V := Lib.hid (show takeB m tk n = true by unfold takeB; simp [h2, h1])
        clear ha hf h2 d2 h
        go_enter Try.func26, Try.ntmps26
        go_wp2
        go_ret
        refine ⟨ret_b V.out.symm, ?_, (Keeps.refl (fun k => k = q) w).set (.inl rfl) _ _, by simp⟩
        unfold takeL
        rw [V.out]
        have hs := heap_setCell_same w q n (tkc tk) 51 (.bool true) H.out.arr
        rw [tkc_set tk hn] at hs
        exact ⟨H.out.fn, (World.cell?_of_block (w := w) (a := ⟨p, 0, none⟩) (Below.heap_setCell w ⟨q, n, none⟩ _ p hne)).trans hb, hs, hne⟩
    · have b1 : decide (m ≤ c) = true := by simp; omega
      have V := Lib.hid (show takeB m tk c = false by unfold takeB; simp [h1])
      clear ha hf h
      go_enter Try.func26, Try.ntmps26
      go_wp2
      go_ret
      exact ⟨ret_b V.out.symm, by unfold takeL; rw [V.out]; exact H.out, Keeps.refl _ _, rfl⟩
  · have b0 : decide (c < 0) = true := by simp; omega
    have V := Lib.hid (show takeB m tk c = false by unfold takeB; simp [h0])
    clear ha hf h
    go_enter Try.func26, Try.ntmps26
    go_wp2
    go_ret
    exact ⟨ret_b V.out.symm, by unfold takeL; rw [V.out]; exact H.out, Keeps.refl _ _, rfl⟩
end Go.Proofs.Ytokmkfoofgiddaa
