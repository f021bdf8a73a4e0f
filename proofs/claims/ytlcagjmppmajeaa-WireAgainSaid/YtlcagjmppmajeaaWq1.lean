/-
  Commands in memory; package wire's number: contract.
-/
import Derived.Test.YtlcagjmppmajeaaWq0
import Derived.Deep.AppendLies
import Derived.Laws.OwnMore
import Derived.Laws.DeepStrings4
import Derived.WalkLawsBesides
namespace Go.Proofs.Ytlcagjmppmajeaa
open Go.RowKit

/-! ### in memory -/
def pc2 (x : Int × Int) : List Value := [.int .i64 x.1, .int .i64 x.2]
theorem wideT (l : List (Int × Int)) : Wide 2 (l.map pc2) := fun r hr => by
  obtain ⟨x, _, rfl⟩ := List.mem_map.mp hr
  rfl
def RowT (W : World) (a : Option Addr) (len cap : Nat) (l : List (Int × Int)) : Prop := RowF W a len cap 2 (l.map pc2) ∧ ∀ ad : Addr, a = some ad → ad.block < W.heap.size
theorem RowT.len {W : World} {a : Option Addr} {len cap : Nat} {l : List (Int × Int)} (h : RowT W a len cap l) : l.length = len := by have := h.1.1; rwa [List.length_map] at this
theorem RowT.below {W W' : World} {a : Option Addr} {len cap : Nat} {l : List (Int × Int)} (h : RowT W a len cap l) (hb : Below W.heap.size W W') : RowT W' a len cap l := ⟨RowF.below (wideT l) h.1 hb, fun ad e => Nat.lt_of_lt_of_le (h.2 ad e) hb.size⟩
theorem RowT.keeps {F : Nat → Prop} {W W' : World} {a : Option Addr} {len cap : Nat} {l : List (Int × Int)} (h : RowT W a len cap l) (k : Keeps F W W') (hF : ∀ ad : Addr, a = some ad → ¬ F ad.block) : RowT W' a len cap l := ⟨RowF.keeps h.1 (wideT l) (by omega) k hF, fun ad e => Nat.lt_of_lt_of_le (h.2 ad e) k.size⟩
theorem RowT.nil {W : World} : RowT W none 0 0 [] := ⟨RowF.nil, fun _ e => by cases e⟩
theorem RowT.at {W : World} {a : Option Addr} {len cap : Nat} {l : List (Int × Int)} (h : RowT W a len cap l) {i : Nat} {r : Int × Int} (he : l[i]? = some r) :
    ∃ b off, a = some ⟨b, off, none⟩ ∧ W.cell? ⟨b, off + i * 2, none⟩ = some (.int .i64 r.1) ∧ W.cell? ⟨b, off + i * 2 + 1, none⟩ = some (.int .i64 r.2) := by
  have hi := lt_of_get he
  have hl := h.len
  obtain ⟨b, off, ha, hc⟩ := h.1.2.2.2.2 i (by omega)
  have hg : (l.map pc2).getD i [] = pc2 r := by rw [List.getD_eq_getElem?_getD, List.getElem?_map, he]; rfl
  refine ⟨b, off, ha, ?_, ?_⟩
  · have := hc 0 (by omega); rw [hg] at this; exact this
  · have := hc 1 (by omega); rw [hg] at this; exact this
theorem rowT_of_owns {W : World} {base : Nat} {e : TypeId} {v : Value} {n : Nat} {l : List (Int × Int)} (h : W.ownsRow base e 2 v n (l.map pc2).flatten) (hn : l.length = n) :
    ∃ a cap, v = .slice a n cap ∧ RowT W a n cap l ∧ Fresh base a := by
  obtain ⟨a, cap, h1, h2, h3⟩ := rowF_of_owns (wideT l) h (by rw [List.length_map]; exact hn)
  refine ⟨a, cap, h1, ⟨h2, fun ad e => ?_⟩, h3⟩
  rcases h.2 with ⟨h4, _⟩ | ⟨g, c, _, h4, _⟩
  · rw [h1] at h4; cases h4; cases e
  · rw [h1] at h4
    cases h4
    cases e
    exact (World.ownsRow.lt h _ (by rw [h1]; rfl)).2
/-- a command's parts lie there -/
def PartsAt (W : World) (v : Value) (ps : List (Int × Int)) : Prop := ∃ a cap, v = .slice a ps.length cap ∧ RowT W a ps.length cap ps
theorem PartsAt.below {W W' : World} {v : Value} {ps : List (Int × Int)} (h : PartsAt W v ps) (hb : Below W.heap.size W W') : PartsAt W' v ps := by
  obtain ⟨a, cap, e, hr⟩ := h
  exact ⟨a, cap, e, hr.below hb⟩
theorem PartsAt.nil (W : World) : PartsAt W (.slice none 0 0) [] := ⟨none, 0, rfl, RowT.nil⟩
def pcs (c : Cm) (v : Value) : List Value := [.int .i64 c.k, .int .i64 c.id, .int .i64 c.sv, .int .i64 c.n, .int .i64 c.co, .int .i64 c.e, .int .i64 c.p, .bool c.early, v]
abbrev cmV (c : Cm) (v : Value) : Value := .agg #[.int .i64 c.k, .int .i64 c.id, .int .i64 c.sv, .int .i64 c.n, .int .i64 c.co, .int .i64 c.e, .int .i64 c.p, .bool c.early, v]
abbrev cmA (c : Cm) (v : Value) : Array Value := #[.int .i64 c.k, .int .i64 c.id, .int .i64 c.sv, .int .i64 c.n, .int .i64 c.co, .int .i64 c.e, .int .i64 c.p, .bool c.early, v]
def px (x : Cm × Value) : List Value := pcs x.1 x.2
theorem wideC (l : List (Cm × Value)) : Wide 9 (l.map px) := fun r hr => by
  obtain ⟨x, _, rfl⟩ := List.mem_map.mp hr
  rfl
structure RowC (W : World) (a : Option Addr) (len cap : Nat) (l : List (Cm × Value)) : Prop where
  row : RowF W a len cap 9 (l.map px)
  parts : ∀ x ∈ l, PartsAt W x.2 x.1.parts
theorem RowC.len {W : World} {a : Option Addr} {len cap : Nat} {l : List (Cm × Value)} (h : RowC W a len cap l) : l.length = len := by have := h.row.1; rwa [List.length_map] at this
theorem RowC.below {W W' : World} {a : Option Addr} {len cap : Nat} {l : List (Cm × Value)} (h : RowC W a len cap l) (hb : Below W.heap.size W W') : RowC W' a len cap l := ⟨RowF.below (wideC l) h.row hb, fun x hx => (h.parts x hx).below hb⟩
theorem RowC.nil {W : World} : RowC W none 0 0 [] := ⟨RowF.nil, by simp⟩
theorem RowC.at {W : World} {a : Option Addr} {len cap : Nat} {l : List (Cm × Value)} (h : RowC W a len cap l) {i : Nat} {x : Cm × Value} (he : l[i]? = some x) :
    ∃ b off, a = some ⟨b, off, none⟩ ∧ PartsAt W x.2 x.1.parts ∧ ∀ j v, (px x)[j]? = some v → W.cell? ⟨b, off + i * 9 + j, none⟩ = some v := by
  have hi := lt_of_get he
  have hl := h.len
  obtain ⟨b, off, ha, hc⟩ := h.row.2.2.2.2 i (by omega)
  have hg : (l.map px).getD i [] = px x := by rw [List.getD_eq_getElem?_getD, List.getElem?_map, he]; rfl
  refine ⟨b, off, ha, h.parts x (List.mem_of_getElem? he), fun j v hj => ?_⟩
  have := hc j (by have := lt_of_get hj; unfold px pcs at this; simpa using this)
  rw [hg, hj] at this
  exact this
theorem Try.infoPt : (Try.prog.info? 59).map (fun i => (i.zero, i.size, i.bytes)) = some (some (.agg #[.int .i64 0, .int .i64 0]), 2, 16) := by kernel_rfl
theorem Try.infoCm : (Try.prog.info? 37).map (fun i => (i.zero, i.size, i.bytes)) = some (some (.agg #[.int .i64 0, .int .i64 0, .int .i64 0, .int .i64 0, .int .i64 0, .int .i64 0, .int .i64 0, .bool false, .slice none 0 0]), 9, 88) := by kernel_rfl
theorem Try.infoB : (Try.prog.info? 5).map (fun i => (i.zero, i.size, i.bytes)) = some (some (.int .u8 0), 1, 1) := by kernel_rfl
theorem Try.infoI : (Try.prog.info? 2).map (fun i => (i.zero, i.size, i.bytes)) = some (some (.int .i64 0), 1, 8) := by kernel_rfl

/-! ### number -/
theorem num_val : ∀ (x : List UInt8) (b : UInt8), (∀ c ∈ x, 128 ≤ c.toNat) → b.toNat < 128 → (b.toNat ≠ 0 ∨ x = []) → num (valN (x ++ [b])) = x ++ [b] ∧ (b.toNat ≠ 0 → 0 < valN (x ++ [b]))
  | [], b, _, hb, _ => by
    have e : valN ([] ++ [b]) = b.toNat := by simp [valN]; omega
    rw [e]
    refine ⟨?_, fun h => by omega⟩
    rw [num, if_pos hb]
    have : bt (b.toNat : Int) = b := by
      apply UInt8.toNat_inj.mp
      rw [bt_nat (by omega) (by omega)]
      omega
    rw [this]; rfl
  | c :: x, b, hx, hb, h => by
    have hb0 : b.toNat ≠ 0 := by rcases h with h | h; exact h; cases h
    have ih := num_val x b (fun y hy => hx y (List.mem_cons_of_mem _ hy)) hb (.inl hb0)
    have hc := hx c List.mem_cons_self
    have hc2 : c.toNat < 256 := c.toNat_lt
    have ip := ih.2 hb0
    have e : valN (c :: x ++ [b]) = c.toNat % 128 + 128 * valN (x ++ [b]) := rfl
    rw [e]
    refine ⟨?_, fun _ => by omega⟩
    rw [num, if_neg (by omega)]
    have e1 : (c.toNat % 128 + 128 * valN (x ++ [b])) % 128 = c.toNat % 128 := by omega
    have e2 : (c.toNat % 128 + 128 * valN (x ++ [b])) / 128 = valN (x ++ [b]) := by omega
    rw [e1, e2, ih.1]
    have : bt ((c.toNat % 128 : Nat) + 128 : Int) = c := by
      apply UInt8.toNat_inj.mp
      rw [bt_nat (by omega) (by omega)]
      omega
    rw [this]; rfl
theorem num_end : ∀ (n : Nat) (x : List UInt8) (b : UInt8), num n = x ++ [b] → b.toNat ≠ 0 ∨ x = [] := by
  intro n
  induction n using Nat.strongRecOn with
  | _ n ih =>
    intro x b h
    rw [num] at h
    split at h
    · right
      cases x with
      | nil => rfl
      | cons c x => simp at h
    · rename_i hn
      cases x with
      | nil =>
        exact .inr rfl
      | cons c x =>
        rw [List.cons_append] at h
        simp only [List.cons.injEq] at h
        rcases ih (n / 128) (by omega) x b h.2 with q | q
        · exact .inl q
        · subst q
          left
          intro e
          have h2 := h.2
          have h3 := val_num (n / 128)
          rw [h2] at h3
          simp [valN, e] at h3
          omega
theorem rd_at {l : List UInt8} {j : Nat} {b : UInt8} (hj : j < 6) (hb : l[j]? = some b) (h : b.toNat < 128) (hp : ∀ q, q < j → ∀ c, l[q]? = some c → 128 ≤ c.toNat) :
    (b.toNat = 0 ∧ 0 < j → rdV l = none) ∧ (¬ (b.toNat = 0 ∧ 0 < j) → rdV l = some (valN (l.take (j + 1)), j + 1)) := by
  have hs := rd_stop hj hb h hp
  have hl := lt_of_get hb
  have hbe : l[j] = b := by rw [List.getElem?_eq_getElem hl] at hb; simpa using hb
  have ht : l.take (j + 1) = l.take j ++ [b] := by rw [List.take_succ_eq_append_getElem hl, hbe]
  have hx : ∀ c ∈ l.take j, 128 ≤ c.toNat := fun c hc => by
    obtain ⟨q, hq, rfl⟩ := List.getElem_of_mem hc
    rw [List.length_take] at hq
    exact hp q (by omega) _ (by rw [List.getElem_take]; exact List.getElem?_eq_getElem (by omega))
  constructor
  · rintro ⟨h0, j0⟩
    rw [hs, if_neg]
    intro e
    rw [ht] at e
    rcases num_end _ _ _ e with q | q
    · exact q h0
    · have : (l.take j).length = 0 := by rw [q]; rfl
      rw [List.length_take] at this
      omega
  · intro hn
    rw [hs, if_pos]
    rw [ht]
    refine (num_val _ b hx h ?_).1
    by_cases h0 : b.toNat = 0
    · right
      have : j = 0 := by omega
      subst this
      rfl
    · exact .inl h0
theorem n5_at {l : List UInt8} {j : Nat} {b : UInt8} (hj : j < 5) (hb : l[j]? = some b) (h : b.toNat < 128) (hp : ∀ q, q < j → ∀ c, l[q]? = some c → 128 ≤ c.toNat) :
    (b.toNat = 0 ∧ 0 < j → n5 l = (0, 0)) ∧ (¬ (b.toNat = 0 ∧ 0 < j) → n5 l = (valN (l.take (j + 1)), j + 1)) := by
  obtain ⟨h1, h2⟩ := rd_at (by omega) hb h hp
  constructor
  · intro q; unfold n5; rw [h1 q]
  · intro q; unfold n5; rw [h2 q]; simp only; rw [if_pos (by omega)]
theorem n5_none {l : List UInt8} {j : Nat} (hj : j = 5 ∨ l.length ≤ j) (hp : ∀ q, q < j → ∀ c, l[q]? = some c → 128 ≤ c.toNat) : n5 l = (0, 0) := by
  unfold n5
  cases hr : rdV l with
  | none => rfl
  | some v =>
    obtain ⟨n, k⟩ := v
    simp only
    split
    · rename_i hk
      exfalso
      obtain ⟨h1, h2, h3, h4, h5⟩ := rd_some hr
      obtain ⟨x, b, e, hb, hx⟩ := num_shape n
      have hlen : (num n).length = k := by rw [h4, List.length_take]; omega
      rw [e, List.length_append, List.length_singleton] at hlen
      have hg : l[k - 1]? = some b := by
        have h6 : (l.take k)[k - 1]? = some b := by rw [← h4, e, List.getElem?_append_right (by omega), show k - 1 - x.length = 0 by omega]; rfl
        rwa [List.getElem?_take, if_pos (by omega)] at h6
      have := hp (k - 1) (by omega) b hg
      omega
    · rfl
theorem ext_drop (s : ByteArray) (k : Nat) : s.extract k s.size = BS (s.data.toList.drop k) := by
  apply ByteArray.ext
  rw [ByteArray.data_extract]
  apply Array.ext'
  rw [Array.toList_extract, List.extract_eq_take_drop]
  simp [BS]
  rw [List.take_of_length_le]
  simp
theorem BS_data (l : List UInt8) : (BS l).data.toList = l := by unfold BS; simp
theorem sum_in {N F r : Nat} {J : Nat} (e7 : (2 : Int) ^ J = (F : Int)) (c5 : F ≤ 268435456) (NV : N < F) (r1 : r < 128) : wrap64 ((N : Int) + wrap64 ((r : Int) * 2 ^ J)) = ((N + F * r : Nat) : Int) := by
  rw [e7]
  have fd : F * r ≤ 34091302912 := Nat.le_trans (Nat.mul_le_mul c5 (show r ≤ 127 by omega)) (by decide)
  have ef : (r : Int) * (F : Int) = ((F * r : Nat) : Int) := by push_cast; rw [Int.mul_comm]
  rw [ef]
  generalize F * r = G at fd
  rw [IntWalk.wrap64_in (G : Int) (by omega), ← Int.natCast_add]
  exact IntWalk.wrap64_in _ (by omega)
def NumO (l : List UInt8) (w : World) (e : Ending) (w' : World) : Prop := e = .returned (.tuple #[.int .i64 ((n5 l).1 : Nat), .int .i64 ((n5 l).2 : Nat)]) ∧ w' = w

set_option maxRecDepth 20000 in
set_option maxHeartbeats 4000000 in
theorem wnumber_s (s : ByteArray) (w : World) (hs : s.size ≤ 1000000000) :
    Calls Try.prog 28 #[.string s] w (NumO s.data.toList w) := by
  have SZ := Lib.hid hs
  obtain ⟨l, hl⟩ : ∃ l, s.data.toList = l := ⟨_, rfl⟩
  have LL := Lib.hid (show l.length = s.size by rw [← hl]; simp)
  have GE := Lib.hid (show ∀ (j : Nat) (hj : j < s.size), l[j]? = some s[j] from fun j hj => by rw [← hl]; exact List.getElem?_eq_getElem (by simpa using hj))
  rw [hl]
  clear hl
  by_cases q : (s.size : Int) < 5
  · have KE := Lib.hid (show s.size = 5 ∨ l.length ≤ s.size by rw [LL.out]; omega)
    go_enter Try.func28, Try.ntmps28
    go_wp2
    go_loopw [4, 10] (fun v u wr => ∃ j : Nat, u = .int .i64 j ∧ j ≤ s.size ∧ v = .int .i64 (valN (l.take j) : Nat) ∧ (∀ q, q < j → ∀ c, l[q]? = some c → 128 ≤ c.toNat) ∧ w = wr) (fun _ u _ => 5 - (intOf u).toNat)
    case atStart => exact ⟨0, rfl, by omega, by simp [valN], fun q h => by omega, rfl⟩
    case round =>
      obtain ⟨j, rfl, j1, rfl, hq, rfl⟩ := hrel
      have Q := Lib.hid hq
      clear hq
      by_cases go : j < s.size
      · have b1 : decide ((j : Int) < (s.size : Int)) = true := by simp; omega
        have b1' : decide (j < s.size) = true := by simp; omega
        have js : j < s.size := by omega
        have i3 : (j : Int) < (s.size : Int) := by omega
        have i0 : 0 ≤ (j : Int) := by omega
        have LJ := Lib.hid (GE.out j js)
        have TK := Lib.hid (show l.take (j + 1) = l.take j ++ [s[j]] by rw [List.take_add_one, LJ.out]; rfl)
        have c5 : 128 ^ j ≤ 268435456 := Nat.pow_le_pow_right (show 0 < 128 by omega) (show j ≤ 4 by omega)
        have NV := valN_lt (l.take j)
        rw [List.length_take, Nat.min_eq_left (by rw [LL.out]; omega)] at NV
        have VN := Lib.hid (show valN (l.take (j + 1)) = valN (l.take j) + 128 ^ j * (s[j].toNat % 128) by rw [TK.out, valN_snoc, List.length_take, Nat.min_eq_left (by rw [LL.out]; omega)])
        obtain ⟨N, hN⟩ : ∃ N, valN (l.take j) = N := ⟨_, rfl⟩
        rw [hN] at NV VN ⊢
        obtain ⟨c, hc⟩ : ∃ c, s[j] = c := ⟨_, rfl⟩
        have HC := Lib.hid hc
        have mj : IntKind.i64.wrap ((j : Int) * 7) = ((j * 7 : Nat) : Int) := by rw [IntWalk.i64_in _ (by omega)]; push_cast; rfl
        go_upto_region 7 with fail
        have e7 : (2 : Int) ^ (j * 7) = ((128 ^ j : Nat) : Int) := by rw [Nat.mul_comm j 7, Int.pow_mul]; push_cast; rfl
        rw [hc] at VN TK LJ
        obtain ⟨F, hF⟩ : ∃ F, 128 ^ j = F := ⟨_, rfl⟩
        rw [hF] at e7 VN NV c5
        have e8 : wrap64 ((N : Int) + wrap64 ((c.toNat : Int) % 128 * 2 ^ (j * 7))) = ((N + F * (c.toNat % 128) : Nat) : Int) := sum_in (r := c.toNat % 128) e7 c5 NV (Nat.mod_lt _ (by decide))
        rw [e8]
        obtain ⟨V, hV⟩ : ∃ V, N + F * (c.toNat % 128) = V := ⟨_, rfl⟩
        rw [hV] at VN ⊢
        have c8 : c.toNat < 256 := c.toNat_lt
        clear e7 e8 hF hN hc NV c5 hV
        by_cases z : 128 ≤ c.toNat
        · have d1 : decide (128 ≤ (c.toNat : Int)) = true := by simp; omega
          have d1' : decide (128 ≤ c.toNat) = true := by simp; omega
          have QN := Lib.hid (show ∀ q, q < j + 1 → ∀ c, l[q]? = some c → 128 ≤ c.toNat from fun q hq y hy => by
            rcases Nat.lt_or_ge q j with h | h
            · exact Q.out q h y hy
            · obtain rfl : q = j := by omega
              rw [LJ.out] at hy
              cases hy
              exact z)
          go_wp2
          go_roundw
          case rel => exact ⟨j + 1, by go_num, by omega, by rw [VN.out], QN.out, trivial⟩
          case measure => simp [intOf]; omega
        · have d1 : decide (128 ≤ (c.toNat : Int)) = false := by simp; omega
          have d1' : decide (128 ≤ c.toNat) = false := by simp; omega
          have RD := Lib.hid (n5_at (show j < 5 by omega) LJ.out (by omega) Q.out)
          rw [VN.out] at RD
          by_cases p2 : c.toNat = 0
          · have f2 : ((c.toNat : Int) == 0) = true := by simp [p2]
            by_cases p3 : 0 < j
            · have f3 : decide (0 < (j : Int)) = true := by simp; omega
              have f3' : decide (0 < j) = true := by simp; omega
              have R := Lib.hid (show NumO l w (.returned (.tuple #[.int .i64 0, .int .i64 0])) w by unfold NumO; rw [RD.out.1 ⟨p2, p3⟩]; exact ⟨rfl, rfl⟩)
              clear p2
              go_wp2
              exact bodyPost_ret (v := .tuple #[.int .i64 0, .int .i64 0]) (by simp [results, Try.results28, go_sem]) rfl R.out
            · have f3 : decide (0 < (j : Int)) = false := by simp; omega
              have f3' : decide (0 < j) = false := by simp; omega
              have R := Lib.hid (show NumO l w (.returned (.tuple #[.int .i64 V, .int .i64 ((j : Int) + 1)])) w by unfold NumO; rw [RD.out.2 (by omega)]; exact ⟨rfl, rfl⟩)
              clear p2
              have v1 : IntKind.i64.wrap ((j : Int) + 1) = (j : Int) + 1 := IntWalk.i64_in _ (by omega)
              go_wp2
              exact bodyPost_ret (v := .tuple #[.int .i64 V, .int .i64 ((j : Int) + 1)]) (by simp [results, Try.results28, go_sem]) rfl R.out
          · have f2 : ((c.toNat : Int) == 0) = false := by simp; omega
            have R := Lib.hid (show NumO l w (.returned (.tuple #[.int .i64 V, .int .i64 ((j : Int) + 1)])) w by unfold NumO; rw [RD.out.2 (by omega)]; exact ⟨rfl, rfl⟩)
            have v1 : IntKind.i64.wrap ((j : Int) + 1) = (j : Int) + 1 := IntWalk.i64_in _ (by omega)
            go_wp2
            exact bodyPost_ret (v := .tuple #[.int .i64 V, .int .i64 ((j : Int) + 1)]) (by simp [results, Try.results28, go_sem]) rfl R.out
      · have b1 : decide ((j : Int) < (s.size : Int)) = false := by simp; omega
        have b1' : decide (j < s.size) = false := by simp; omega
        have R := Lib.hid (show NumO l w (.returned (.tuple #[.int .i64 0, .int .i64 0])) w by unfold NumO; rw [n5_none (l := l) (j := j) (by have := KE.out; omega) Q.out]; exact ⟨rfl, rfl⟩)
        go_wp2
        exact bodyPost_ret (v := .tuple #[.int .i64 0, .int .i64 0]) (by simp [results, Try.results28, go_sem]) rfl R.out
  · have KE := Lib.hid (show 5 = 5 ∨ l.length ≤ 5 by rw [LL.out]; omega)
    go_enter Try.func28, Try.ntmps28
    go_wp2
    go_loopw [4, 10] (fun v u wr => ∃ j : Nat, u = .int .i64 j ∧ j ≤ 5 ∧ v = .int .i64 (valN (l.take j) : Nat) ∧ (∀ q, q < j → ∀ c, l[q]? = some c → 128 ≤ c.toNat) ∧ w = wr) (fun _ u _ => 5 - (intOf u).toNat)
    case atStart => exact ⟨0, rfl, by omega, by simp [valN], fun q h => by omega, rfl⟩
    case round =>
      obtain ⟨j, rfl, j1, rfl, hq, rfl⟩ := hrel
      have Q := Lib.hid hq
      clear hq
      by_cases go : j < 5
      · have b1 : decide ((j : Int) < 5) = true := by simp; omega
        have b1' : decide (j < 5) = true := by simp; omega
        have js : j < s.size := by omega
        have i3 : (j : Int) < (s.size : Int) := by omega
        have i0 : 0 ≤ (j : Int) := by omega
        have LJ := Lib.hid (GE.out j js)
        have TK := Lib.hid (show l.take (j + 1) = l.take j ++ [s[j]] by rw [List.take_add_one, LJ.out]; rfl)
        have c5 : 128 ^ j ≤ 268435456 := Nat.pow_le_pow_right (show 0 < 128 by omega) (show j ≤ 4 by omega)
        have NV := valN_lt (l.take j)
        rw [List.length_take, Nat.min_eq_left (by rw [LL.out]; omega)] at NV
        have VN := Lib.hid (show valN (l.take (j + 1)) = valN (l.take j) + 128 ^ j * (s[j].toNat % 128) by rw [TK.out, valN_snoc, List.length_take, Nat.min_eq_left (by rw [LL.out]; omega)])
        obtain ⟨N, hN⟩ : ∃ N, valN (l.take j) = N := ⟨_, rfl⟩
        rw [hN] at NV VN ⊢
        obtain ⟨c, hc⟩ : ∃ c, s[j] = c := ⟨_, rfl⟩
        have HC := Lib.hid hc
        have mj : IntKind.i64.wrap ((j : Int) * 7) = ((j * 7 : Nat) : Int) := by rw [IntWalk.i64_in _ (by omega)]; push_cast; rfl
        go_upto_region 7 with fail
        have e7 : (2 : Int) ^ (j * 7) = ((128 ^ j : Nat) : Int) := by rw [Nat.mul_comm j 7, Int.pow_mul]; push_cast; rfl
        rw [hc] at VN TK LJ
        obtain ⟨F, hF⟩ : ∃ F, 128 ^ j = F := ⟨_, rfl⟩
        rw [hF] at e7 VN NV c5
        have e8 : wrap64 ((N : Int) + wrap64 ((c.toNat : Int) % 128 * 2 ^ (j * 7))) = ((N + F * (c.toNat % 128) : Nat) : Int) := sum_in (r := c.toNat % 128) e7 c5 NV (Nat.mod_lt _ (by decide))
        rw [e8]
        obtain ⟨V, hV⟩ : ∃ V, N + F * (c.toNat % 128) = V := ⟨_, rfl⟩
        rw [hV] at VN ⊢
        have c8 : c.toNat < 256 := c.toNat_lt
        clear e7 e8 hF hN hc NV c5 hV
        by_cases z : 128 ≤ c.toNat
        · have d1 : decide (128 ≤ (c.toNat : Int)) = true := by simp; omega
          have d1' : decide (128 ≤ c.toNat) = true := by simp; omega
          have QN := Lib.hid (show ∀ q, q < j + 1 → ∀ c, l[q]? = some c → 128 ≤ c.toNat from fun q hq y hy => by
            rcases Nat.lt_or_ge q j with h | h
            · exact Q.out q h y hy
            · obtain rfl : q = j := by omega
              rw [LJ.out] at hy
              cases hy
              exact z)
          go_wp2
          go_roundw
          case rel => exact ⟨j + 1, by go_num, by omega, by rw [VN.out], QN.out, trivial⟩
          case measure => simp [intOf]; omega
        · have d1 : decide (128 ≤ (c.toNat : Int)) = false := by simp; omega
          have d1' : decide (128 ≤ c.toNat) = false := by simp; omega
          have RD := Lib.hid (n5_at (show j < 5 by omega) LJ.out (by omega) Q.out)
          rw [VN.out] at RD
          by_cases p2 : c.toNat = 0
          · have f2 : ((c.toNat : Int) == 0) = true := by simp [p2]
            by_cases p3 : 0 < j
            · have f3 : decide (0 < (j : Int)) = true := by simp; omega
              have f3' : decide (0 < j) = true := by simp; omega
              have R := Lib.hid (show NumO l w (.returned (.tuple #[.int .i64 0, .int .i64 0])) w by unfold NumO; rw [RD.out.1 ⟨p2, p3⟩]; exact ⟨rfl, rfl⟩)
              clear p2
              go_wp2
              exact bodyPost_ret (v := .tuple #[.int .i64 0, .int .i64 0]) (by simp [results, Try.results28, go_sem]) rfl R.out
            · have f3 : decide (0 < (j : Int)) = false := by simp; omega
              have f3' : decide (0 < j) = false := by simp; omega
              have R := Lib.hid (show NumO l w (.returned (.tuple #[.int .i64 V, .int .i64 ((j : Int) + 1)])) w by unfold NumO; rw [RD.out.2 (by omega)]; exact ⟨rfl, rfl⟩)
              clear p2
              have v1 : IntKind.i64.wrap ((j : Int) + 1) = (j : Int) + 1 := IntWalk.i64_in _ (by omega)
              go_wp2
              exact bodyPost_ret (v := .tuple #[.int .i64 V, .int .i64 ((j : Int) + 1)]) (by simp [results, Try.results28, go_sem]) rfl R.out
          · have f2 : ((c.toNat : Int) == 0) = false := by simp; omega
            have R := Lib.hid (show NumO l w (.returned (.tuple #[.int .i64 V, .int .i64 ((j : Int) + 1)])) w by unfold NumO; rw [RD.out.2 (by omega)]; exact ⟨rfl, rfl⟩)
            have v1 : IntKind.i64.wrap ((j : Int) + 1) = (j : Int) + 1 := IntWalk.i64_in _ (by omega)
            go_wp2
            exact bodyPost_ret (v := .tuple #[.int .i64 V, .int .i64 ((j : Int) + 1)]) (by simp [results, Try.results28, go_sem]) rfl R.out
      · have b1 : decide ((j : Int) < 5) = false := by simp; omega
        have b1' : decide (j < 5) = false := by simp; omega
        have R := Lib.hid (show NumO l w (.returned (.tuple #[.int .i64 0, .int .i64 0])) w by unfold NumO; rw [n5_none (l := l) (j := j) (by have := KE.out; omega) Q.out]; exact ⟨rfl, rfl⟩)
        go_wp2
        exact bodyPost_ret (v := .tuple #[.int .i64 0, .int .i64 0]) (by simp [results, Try.results28, go_sem]) rfl R.out
theorem wnumber_any (l : List UInt8) (w : World) (hs : l.length ≤ 1000000000) : Calls Try.prog 28 #[.string (BS l)] w (NumO l w) := by
  have h := wnumber_s (BS l) w (by rw [BS_size]; exact hs)
  rwa [BS_data] at h
end Go.Proofs.Ytlcagjmppmajeaa
