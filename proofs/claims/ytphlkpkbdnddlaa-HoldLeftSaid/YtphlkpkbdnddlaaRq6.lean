/-
  What package ratio's Text gives back: contract.
  What the laws' own awake gives back: contract.
  Words for the laws of ratios: boxes of two cells.
-/
import Derived.Test.YtphlkpkbdnddlaaRq5
import Derived.Test.YtphlkpkbdnddlaaNatC
import Derived.Test.YtphlkpkbdnddlaaOpenP
namespace Go.Proofs.Ytphlkpkbdnddlaa
open Go.RowKit

/-- a ratio's text, by its numbers' decimal digits -/
def texR (dn dd : List Int) (d : Int) : List UInt8 := if d = 1 then textL dn else textL dn ++ [47] ++ textL dd
theorem ret_str {a b : ByteArray} (h : a = b) : Ending.returned (.string a) = .returned (.string b) := by rw [h]
theorem text_cat (x y : List UInt8) : (⟨(x ++ [47] ++ y).toArray⟩ : ByteArray) = (⟨x.toArray⟩ : ByteArray) ++ (⟨#[47]⟩ : ByteArray) ++ (⟨y.toArray⟩ : ByteArray) := by
  apply ByteArray.ext
  simp [ByteArray.data_append]
theorem one_kept {w w' : World} {b o : Nat} {v : Value} (hb : Below w.heap.size w w') (h : w.cell? ⟨b, o, none⟩ = some v) (hz : b < w.heap.size) : w'.cell? ⟨b, o, none⟩ = some v := (hb.cell (p := ⟨b, o, none⟩) hz).trans h
end Go.Proofs.Ytphlkpkbdnddlaa
namespace Go.Proofs.Ytphlkpkbdnddlaa
open Go.RowKit

theorem lo_half : Lo 1 2 := ⟨by omega, by omega, by decide⟩
theorem awake_text1 : texR [1] [2] 2 = [49, 47, 50] := by decide +kernel
theorem awake_text2 : texR [7] [1] 1 = [55] := by decide +kernel
theorem is_dig {x : Int} (h0 : 0 < x) (h1 : x < 10) : Is 10 [x] x := ⟨fun z hz => by simp at hz; subst hz; omega, by simp [Top]; omega, by simp [val]⟩

end Go.Proofs.Ytphlkpkbdnddlaa
namespace Go.Proofs.Ytphlkpkbdnddlaa
open Go.RowKit

/-- block g holds just the two values -/
def Box (W : World) (T : TypeId) (g : Nat) (x y : Value) : Prop := W.heap[g]? = some (.cells #[x, y] T (0, 0))
theorem Box.below {W W' : World} {T : TypeId} {g : Nat} {x y : Value} (h : Box W T g x y) (hb : Below W.heap.size W W') : Box W' T g x y := (hb.block g (lt_of_block h)).trans h
theorem Box.c0 {W : World} {T : TypeId} {g : Nat} {x y : Value} (h : Box W T g x y) : W.cell? ⟨g, 0, none⟩ = some x := block_cell h
theorem Box.c1 {W : World} {T : TypeId} {g : Nat} {x y : Value} (h : Box W T g x y) : W.cell? ⟨g, 1, none⟩ = some y := block_cell h
theorem Box.drew {W : World} {T : TypeId} {g : Nat} {x y : Value} (h : Box W T g x y) : Box W.drew T g x y := h
theorem Box.new (W : World) (T : TypeId) (x y : Value) : Box (W.alloc (.cells #[x, y] T)) T W.heap.size x y := heap_alloc_new _ _
theorem Rat.drew {W : World} {base L : Nat} {v : Value} {n d : Int} (h : Rat W base L v n d) : Rat W.drew base L v n d := h
theorem RowP.drew {W : World} {a : Option Addr} {len cap : Nat} {ps : List (Int × Int)} (h : RowP W a len cap ps) : RowP W.drew a len cap ps := h
/-- a slice of one pair, as it is built -/
theorem rowP_one (W : World) (x y : Int) (T : TypeId) : RowP (W.alloc (.cells #[.int .i64 x, .int .i64 y] T)) (some ⟨W.heap.size, 0, none⟩) 1 1 [(x, y)] := by
  refine ⟨rfl, Nat.le_refl _, by omega, (fun e => by cases e), fun i hi => ?_⟩
  obtain rfl : i = 0 := by omega
  exact ⟨W.heap.size, 0, rfl, World.cell?_alloc_at _ _ _ _ rfl, World.cell?_alloc_at _ _ _ _ rfl⟩
theorem fit_mk (p : Int × Int) : FitW (mkW p) ∧ (mkW p).1 ≤ 1048575 ∧ (mkW p).2 ≤ 1048576 := by
  have h1 := and_bd p.1
  have h2 := and_bd p.2
  unfold mkW FitW
  refine ⟨⟨h1.1, ?_, ?_, ?_⟩, ?_, ?_⟩ <;> simp only <;> omega
theorem fit_ok {p : Int × Int} (h : FitW p) : OkW p := ⟨h.1, h.2.1, by have := h.2.2.1; omega, h.2.2.2⟩
theorem fits_mk (ps : List (Int × Int)) : ∀ p ∈ (ps.take 8).map mkW, FitW p := by
  intro p hp
  obtain ⟨q, _, rfl⟩ := List.mem_map.mp hp
  exact (fit_mk q).1
theorem oks_mk (ps : List (Int × Int)) : ∀ p ∈ (ps.take 8).map mkW, OkW p := fun p hp => fit_ok (fits_mk ps p hp)
/-- a ratio of fewer limbs, by its numbers -/
theorem Rat.shrink {W : World} {base L : Nat} {v : Value} {n d : Int} (h : Rat W base L v n d) {L' : Nat} (hn : n < 4294967296 ^ L') (hd : d < 4294967296 ^ L') : Rat W base L' v n d := by
  obtain ⟨an, ln, cn, zn, ad, ld, cd, zd, rfl, h1, h2, h3, h4, h5, h6, h7⟩ := h
  exact ⟨an, ln, cn, zn, ad, ld, cd, zd, rfl, h1, h2, h3, h4, by rw [← h1.len]; exact h2.len_le (by omega) hn, by rw [← h3.len]; exact h4.len_le (by omega) hd, h7⟩
theorem Rat.nonneg {W : World} {base L : Nat} {v : Value} {n d : Int} (h : Rat W base L v n d) : 0 ≤ n ∧ 0 ≤ d := by
  obtain ⟨an, ln, cn, zn, ad, ld, cd, zd, rfl, h1, h2, h3, h4, _⟩ := h
  exact ⟨h2.nonneg (by omega), h4.nonneg (by omega)⟩
end Go.Proofs.Ytphlkpkbdnddlaa
