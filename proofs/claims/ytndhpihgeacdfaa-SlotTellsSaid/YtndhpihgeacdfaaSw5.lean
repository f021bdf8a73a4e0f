/-
  Package slot's write: contract.
-/
import Derived.Test.YtndhpihgeacdfaaSw0
import Derived.Test.YtndhpihgeacdfaaSs4
import Derived.Deep.AppendLies
import Derived.Laws.OwnMore
namespace Go.Proofs.Ytndhpihgeacdfaa
open Go.RowKit

/-- a row of bytes of one's own -/
def bys (L : List UInt8) : List Value := L.map fun b => Value.int .u8 b.toNat
def OB (B : Nat) (w : World) (v : Value) (L : List UInt8) : Prop := w.ownsRow B 5 1 v L.length (bys L)
theorem OB.below {B : Nat} {w w' : World} {v : Value} {L : List UInt8} (h : OB B w v L) (hb : Below w.heap.size w w') : OB B w' v L := owns_below h hb
theorem OB.lt {B : Nat} {w : World} {v : Value} {L : List UInt8} (h : OB B w v L) {k : Nat} (e : v.ownBlock = some k) : B ≤ k ∧ k < w.heap.size := World.ownsRow.lt h k e
theorem OB.nil (B : Nat) (w : World) : OB B w (.slice none 0 0) [] := World.ownsRow_nil _ _ _ _
theorem OB.keeps {B : Nat} {w w' : World} {v : Value} {L : List UInt8} {F : Nat → Prop} (h : OB B w v L) (k : Keeps F w w') (hF : ∀ g, v.ownBlock = some g → ¬ F g) : OB B w' v L := owns_keeps h k hF
theorem Try.infoB : (Try.prog.info? 5).map (fun i => (i.zero, i.size, i.bytes)) = some (some (.int .u8 0), 1, 1) := by kernel_rfl
/-- append of one byte to what is owned -/
theorem app_byte {w : World} {ops : Array Oper} {rest : List Oper} {o : Oper} {act : Act} {Q : Exit → Act → World → Prop} (hgd : o.guard = none) (s x : Operand)
    (ho : o.op = .call { callee := .builtin .append, args := #[s, x], argTypes := #[30, 30] }) (base : Nat)
    (v : Value) (L : List UInt8) (hs : act.eval s = v) (hown : OB base w v L) (g : Nat) (c : UInt8) (z : Int) (hc : (c.toNat : Int) = z) (hx : act.eval x = .slice (some ⟨g, 0, none⟩) 1 1)
    (hg : w.heap[g]? = some (.cells #[.int .u8 z] 5 (0, 0))) (hb : base ≤ w.heap.size) (hsm : L.length ≤ 1000000000)
    (h : ∀ v' w', OB base w' v' (L ++ [c]) → w.grownBy w' v.ownBlock → (∃ g, v'.ownBlock = some g ∧ (v.ownBlock = some g ∨ g = w.heap.size)) → wpList Try.prog ops Q rest (act.put o.dst v') w') : wpList Try.prog ops Q (o :: rest) act w := by
  subst hc
  obtain ⟨i0, hi, hz0, hz1, hz2⟩ := info_parts Try.infoB
  refine wpList_append_lies _ hgd s x _ ho base _ i0 _ 1 1 Try.underlying30 hi hz0 hz1 hz2 rfl (by decide) v _ _ hs hown ⟨g, 0, none⟩ 1 1 [.int .u8 c.toNat] hx rfl (World.news_of_block (cs := #[.int .u8 c.toNat]) (t := 5) (fr := (0, 0)) hg) (by simp [Value.oneCell']) (by decide) (by unfold maxLen; omega) (by omega) hb w.heap.size rfl ?_
  intro g' cap w2 ho2 hg2 hl _
  refine h _ w2 ?_ hg2 ⟨g', rfl, hl⟩
  unfold OB bys
  rw [List.length_append, List.map_append]
  exact ho2
def numsB (zs : List Int) : List UInt8 := zs.flatMap numI
theorem nums_snoc (zs : List Int) (z : Int) : numsB (zs ++ [z]) = numsB zs ++ numI z := by unfold numsB; simp
theorem nums_len : ∀ zs : List Int, (∀ z ∈ zs, z ≤ 1099511627776) → (numsB zs).length ≤ 6 * zs.length
  | [], _ => by simp [numsB]
  | z :: zs, h => by
    have h1 := nums_len zs fun x hx => h x (List.mem_cons_of_mem _ hx)
    have h2 := numI_len (h z List.mem_cons_self)
    have e : numsB (z :: zs) = numI z ++ numsB zs := by unfold numsB; simp
    rw [e, List.length_append, List.length_cons]
    omega
/-- what writing gives: the bytes, in the row of old or a new one -/
structure WB (B : Nat) (w : World) (vb : Value) (L : List UInt8) (v : Value) (w' : World) : Prop where
  own : OB B w' v L
  keeps : Keeps (fun k => vb.ownBlock = some k) w w'
  blk : ∀ k, v.ownBlock = some k → vb.ownBlock = some k ∨ w.heap.size ≤ k
theorem WB.start {B : Nat} {w : World} {v : Value} {L : List UInt8} (h : OB B w v L) : WB B w v L v w := ⟨h, Keeps.refl _ _, fun _ e => .inl e⟩
theorem WB.add {B : Nat} {w wr w2 : World} {vb v v' : Value} {L : List UInt8} {c : UInt8} {ob : Obj} (h : WB B w vb L v wr) (h1 : OB B w2 v' (L ++ [c]))
    (h2 : (wr.alloc ob).grownBy w2 v.ownBlock) (h3 : ∃ g, v'.ownBlock = some g ∧ (v.ownBlock = some g ∨ g = (wr.alloc ob).heap.size)) : WB B w vb (L ++ [c]) v' w2 := by
  refine ⟨h1, (h.keeps.alloc ob).grown h2 (fun k e => h.blk k e), fun k e => ?_⟩
  obtain ⟨g, e1, e2⟩ := h3
  rw [e1] at e
  obtain rfl : g = k := by simpa using e
  rcases e2 with q | q
  · exact h.blk g q
  · right
    have := h.keeps.size
    have h6 : (wr.alloc ob).heap.size = wr.heap.size + 1 := by simp
    omega
def Wrote (B : Nat) (w : World) (vb : Value) (L : List UInt8) (e : Ending) (w' : World) : Prop := ∃ v, e = .returned v ∧ WB B w vb L v w'
theorem num_split {m : Nat} (h : 128 ≤ m) : num m = bt ((m % 128 : Nat) + 128 : Int) :: num (m / 128) := by rw [num, if_neg (by omega)]
theorem num_last {m : Nat} (h : m < 128) : num m = [bt m] := by rw [num, if_pos h]

set_option maxRecDepth 20000 in
set_option maxHeartbeats 4000000 in
theorem pwrite_any (B : Nat) (vb : Value) (L : List UInt8) (an : Option Addr) (ln cn : Nat) (zs : List Int) (w : World) (ho : OB B w vb L) (hr : Row .i64 w an ln cn zs) (hne : ∀ ad : Addr, an = some ad → vb.ownBlock ≠ some ad.block) (hB : B ≤ w.heap.size)
    (hz : ∀ z ∈ zs, 0 ≤ z ∧ z ≤ 1099511627776) (hl : L.length ≤ 900000000) (h3 : ln ≤ 1000) :
    Calls Try.prog 31 #[vb, .slice an ln cn] w (Wrote B w vb (L ++ numsB zs)) := by
  have HO := Lib.hid ho
  have HR := Lib.hid hr
  have NE := Lib.hid hne
  have HZ := Lib.hid hz
  have LN := Lib.hid hr.len
  clear ho hr hne hz
  go_enter Try.func31, Try.ntmps31
  go_wp2
  go_loopw [0, 9] (fun v u wr => ∃ i : Nat, u = .int .i64 i ∧ i ≤ ln ∧ WB B w vb (L ++ numsB (zs.take i)) v wr) (fun _ u _ => ln - (intOf u).toNat)
  case atStart => exact ⟨0, rfl, by omega, by simpa [numsB] using WB.start HO.out⟩
  case round =>
    obtain ⟨i, rfl, i1, hw⟩ := hrel
    have WW := Lib.hid hw
    clear hw
    by_cases go : i < ln
    · have b1 : decide ((i : Int) < (ln : Int)) = true := by simp; omega
      have b1' : decide (i < ln) = true := by simp; omega
      obtain ⟨z, hz, hts⟩ := get_of (l := zs) (i := i) (by rw [LN.out]; exact go)
      have TS := Lib.hid (show numsB (zs.take (i + 1)) = numsB (zs.take i) ++ numI z by rw [hts, nums_snoc])
      have ⟨z0, z1⟩ := HZ.out z (List.mem_of_getElem? hz)
      have NL := nums_len (zs.take i) fun x hx => (HZ.out x (List.mem_of_mem_take hx)).2
      rw [List.length_take] at NL
      obtain ⟨ba, oa, rfl, hcell⟩ := HR.out.cell go
      have hd : zs.getD i 0 = z := by rw [List.getD_eq_getElem?_getD, hz]; rfl
      rw [hd] at hcell
      have x0 := (World.cell?_of_block (w := w) (a := ⟨ba, oa + i, none⟩) (WW.out.keeps.block ba (World.block_lt_of_cell? _ _ hcell) (NE.out _ rfl))).trans hcell
      obtain ⟨n, rfl⟩ := Int.eq_ofNat_of_zero_le z0
      have NI := Lib.hid (show numI (n : Int) = num n by unfold numI; rw [Int.toNat_natCast])
      have NL6 := numI_len z1
      rw [NI.out] at TS NL6
      obtain ⟨M, hM⟩ : ∃ M, numsB (zs.take i) = M := ⟨_, rfl⟩
      rw [hM] at TS NL WW
      have i3 : (i : Int) < (ln : Int) := by omega
      have i0 : 0 ≤ (i : Int) := by omega
      clear hz hts hcell hd hM
      go_wp2
      clear x0
      go_loopw [0, 6] (fun v y wx => ∃ (m : Nat) (pre : List UInt8), y = .int .i64 m ∧ m ≤ n ∧ num n = pre ++ num m ∧ WB B w vb (L ++ M ++ pre) v wx) (fun _ y _ => (intOf y).toNat)
      case atStart => exact ⟨n, [], rfl, Nat.le_refl _, rfl, by simpa using WW.out⟩
      case round =>
        obtain ⟨m, pre, rfl, mn, hpre, hw⟩ := hrel
        have W2 := Lib.hid hw
        have PR := Lib.hid hpre
        have PL : pre.length ≤ 6 := by rw [hpre, List.length_append] at NL6; omega
        clear hw hpre
        have hlen : (L ++ M ++ pre).length ≤ 1000000000 := by rw [List.length_append, List.length_append]; omega
        have BH := Lib.hid (show B ≤ wr.heap.size from Nat.le_trans hB W2.out.keeps.size)
        by_cases g : 128 ≤ m
        · have d1 : decide (128 ≤ (m : Int)) = true := by simp; omega
          have d1' : decide (128 ≤ m) = true := by simp; omega
          have SP := Lib.hid (num_split g)
          have t1 : (m : Int).tmod 128 = ((m % 128 : Nat) : Int) := by rw [Int.tmod_eq_emod_of_nonneg (by omega)]; omega
          have t2 : (m : Int) % 128 = ((m % 128 : Nat) : Int) := by omega
          obtain ⟨r, hr⟩ : ∃ r, m % 128 = r := ⟨_, rfl⟩
          rw [hr] at t1 t2 SP
          have r1 : r < 128 := by omega
          have w1 : IntKind.i64.wrap ((r : Int) + 128) = (r : Int) + 128 := IntWalk.i64_in _ (by omega)
          have w2 : IntKind.u8.wrap ((r : Int) + 128) = (r : Int) + 128 := by show ((r : Int) + 128) % 256 = _; omega
          clear hr
          go_wp2_with (refine app_byte rfl _ _ rfl B _ (L ++ M ++ pre) rfl (show OB B (wr.alloc (.cells #[.int .u8 ((r : Int) + 128)] 5)) _ _ from W2.out.own.below (wbox _ _)) wr.heap.size (bt ((r : Int) + 128)) ((r : Int) + 128) (bt_toNat (by omega) (by omega)) rfl (heap_alloc_new wr _) (Nat.le_trans BH.out (wbox wr _).size) hlen ?_; intro v' w' h1 h2 h3; have H1 := Lib.hid (W2.out.add h1 h2 h3); clear h1 h2 h3)
          have NX := Lib.hid (show num n = (pre ++ [bt ((r : Int) + 128)]) ++ num (m / 128) by rw [PR.out, SP.out]; simp)
          have WX := Lib.hid (show WB B w vb (L ++ M ++ (pre ++ [bt ((r : Int) + 128)])) v' w' by have h1 := H1.out; rw [List.append_assoc] at h1; exact h1)
          go_roundw
          case rel => exact ⟨m / 128, _, by rw [show ((m / 128 : Nat) : Int) = (m : Int) / 128 by omega], by omega, NX.out, WX.out⟩
          case measure => simp [intOf]; omega
        · have d1 : decide (128 ≤ (m : Int)) = false := by simp; omega
          have d1' : decide (128 ≤ m) = false := by simp; omega
          have SP := Lib.hid (num_last (show m < 128 by omega))
          have w2 : IntKind.u8.wrap (m : Int) = (m : Int) := by show (m : Int) % 256 = m; omega
          go_wp2_with (refine app_byte rfl _ _ rfl B _ (L ++ M ++ pre) rfl (show OB B (wr.alloc (.cells #[.int .u8 (m : Int)] 5)) _ _ from W2.out.own.below (wbox _ _)) wr.heap.size (bt (m : Int)) (m : Int) (bt_toNat (by omega) (by omega)) rfl (heap_alloc_new wr _) (Nat.le_trans BH.out (wbox wr _).size) hlen ?_; intro v' w' h1 h2 h3; have H1 := Lib.hid (W2.out.add h1 h2 h3); clear h1 h2 h3)
          have NX := Lib.hid (show WB B w vb (L ++ numsB (zs.take (i + 1))) v' w' by rw [TS.out, PR.out, SP.out]; simpa [List.append_assoc] using H1.out)
          go_roundw
          case rel => exact ⟨i + 1, by go_num, by omega, NX.out⟩
          case measure => simp [intOf]; omega
    · have b1 : decide ((i : Int) < (ln : Int)) = false := by simp; omega
      have b1' : decide (i < ln) = false := by simp; omega
      have V := Lib.hid (show WB B w vb (L ++ numsB zs) u0 wr by have h1 := WW.out; rw [List.take_of_length_le (show zs.length ≤ i by rw [LN.out]; omega)] at h1; exact h1)
      go_wp2
      go_ret
      exact ⟨_, rfl, V.out⟩
end Go.Proofs.Ytndhpihgeacdfaa
