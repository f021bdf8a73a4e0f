/-
  Numbers as bytes; the document's Number (regattaref16): contract.
-/
import Derived.Test.YtlcagjmppmajeaaSs2
import Derived.Laws.IdiomStrings
namespace Go.Proofs.Ytlcagjmppmajeaa
open Go.RowKit

def bt (d : Int) : UInt8 := UInt8.ofNat d.toNat
theorem bt_toNat {x : Int} (h0 : 0 ≤ x) (h1 : x < 256) : ((bt x).toNat : Int) = x := by
  unfold bt
  rw [UInt8.toNat_ofNat']
  omega
/-- a number's bytes, 7 bits in each, the lowest first -/
def num (n : Nat) : List UInt8 := if n < 128 then [bt n] else bt ((n % 128 : Nat) + 128 : Int) :: num (n / 128)
termination_by n
decreasing_by omega
theorem conv_byte {w : World} {g : Nat} {x : Int} (h0 : 0 ≤ x) (h1 : x < 256) (hg : w.heap[g]? = some (.cells #[.int .u8 x] 5 (0, 0))) :
    (convert 30 9 (.slice (some ⟨g, 0, none⟩) 1 1)).run Try.prog w = .ok (.string ⟨[bt x].toArray⟩) w := by
  refine run_convert_bytes_back (P := Try.prog) _ _ _ 5 ⟨g, 0, none⟩ 1 [bt x] Try.underlying30 Try.underlying5 Try.underlying9 (fun j hj => ?_)
  match j, hj with
  | 0, _ =>
    have := cell_of_row w g 0 #[.int .u8 x] 5 (0, 0) hg
    simp [Addr.add, bt_toNat h0 h1]
    simpa using this
theorem cat_bytes (a : UInt8) (l : List UInt8) : (⟨[a].toArray⟩ : ByteArray) ++ ⟨l.toArray⟩ = ⟨(a :: l).toArray⟩ := by
  apply ByteArray.ext
  simp [ByteArray.data_append]
theorem num_len : ∀ n : Nat, (num n).length ≤ n + 1 := by
  intro n
  induction n using Nat.strongRecOn with
  | _ n ih =>
    rw [num]
    split
    · simp
    · have := ih (n / 128) (by omega)
      rw [List.length_cons]
      omega
theorem num_short {n : Nat} : ∀ k : Nat, n < 128 ^ (k + 1) → (num n).length ≤ k + 1 := by
  intro k
  induction k generalizing n with
  | zero => intro h; rw [num, if_pos (by simpa using h)]; simp
  | succ k ih =>
    intro h
    rw [num]
    split
    · simp
    · have := ih (n := n / 128) (by rw [Nat.div_lt_iff_lt_mul (by omega)]; rw [Nat.pow_succ] at h; exact h)
      rw [List.length_cons]
      omega
section
variable {P : Program} {ops : Array Oper} {Q : Exit → Act → World → Prop} {md : Region.Mode} {S : World → Prop}
/-- take number i first: it is wanted -/
theorem takeY {i : Nat} {oi : Oper} {v : Value} {fuel : Nat} {listed : Array Bool} {a : Act} {w : World} (hi : ops[i]? = some oi)
    (hs : Region.noSelect ops = true) (hf : Region.free md ops listed i = true) (hr : (Region.ready md ops listed).contains i = true)
    (hQ : ∀ c a w, Q (.panic c) (a.put oi.dst v) w → Q (.panic c) a w) (hw : Region.wanted oi (yielded ops a.tmps) = true) (hy : ∀ w, S w → (execOp a.eval oi).run P w = .ok (.value v) w) (hS : S w)
    (h : wpAnyH P md ops Q S fuel (listed.setIfInBounds i true) (a.put oi.dst v) w) : wpAnyH P md ops Q S (fuel + 1) listed a w :=
  wpAnyH_take hi hs hf hr hQ (.inl ⟨hw, hy⟩) hS h
/-- .. it is not wanted -/
theorem takeN {i : Nat} {oi : Oper} {fuel : Nat} {listed : Array Bool} {a : Act} {w : World} (hi : ops[i]? = some oi)
    (hs : Region.noSelect ops = true) (hf : Region.free md ops listed i = true) (hr : (Region.ready md ops listed).contains i = true)
    (hQ : ∀ c a w, Q (.panic c) (a.put oi.dst undef) w → Q (.panic c) a w) (hw : Region.wanted oi (yielded ops a.tmps) = false) (hS : S w)
    (h : wpAnyH P md ops Q S fuel (listed.setIfInBounds i true) (a.put oi.dst undef) w) : wpAnyH P md ops Q S (fuel + 1) listed a w :=
  wpAnyH_take hi hs hf hr hQ (.inr ⟨hw, rfl⟩) hS h
end
theorem conv_after {w W5 : World} {x : Int} (h0 : 0 ≤ x) (h1 : x < 256) (hb : Below (w.alloc (.cells #[.int .u8 x] 5)).drew.heap.size (w.alloc (.cells #[.int .u8 x] 5)).drew W5) :
    (convert 30 9 (.slice (some ⟨w.heap.size, 0, none⟩) 1 1)).run Try.prog W5 = .ok (.string ⟨[bt x].toArray⟩) W5 ∧ Below w.heap.size w W5 := by
  have h2 : w.heap.size < (w.alloc (.cells #[.int .u8 x] 5)).drew.heap.size := by
    show w.heap.size < (w.alloc (.cells #[.int .u8 x] 5)).heap.size
    simp
  refine ⟨conv_byte h0 h1 ((hb.block w.heap.size h2).trans (heap_alloc_new w _)), ?_⟩
  exact below_next (wbox w (.cells #[.int .u8 x] 5)) ⟨hb.os, hb.tape, hb.output, hb.size, hb.block⟩
end Go.Proofs.Ytlcagjmppmajeaa
