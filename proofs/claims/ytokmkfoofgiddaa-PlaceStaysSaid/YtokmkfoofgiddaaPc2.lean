/-
  Runners without pins: who stays; plain. A row from some element on. Append of runners in a region that draws its order.
-/
import Derived.Test.YtokmkfoofgiddaaPc1
namespace Go.Proofs.Ytokmkfoofgiddaa
open Go.RowKit

structure StayL (l : List Rn) (n : Nat) : Prop where
  m1 : 1 ≤ n
  m2 : n ≤ 1024
  few : l.length ≤ n
  pin : ∀ r ∈ l, r.pin = -1
  last : ∀ r ∈ l, 0 ≤ r.last ∧ r.last < n
  ids : l.Pairwise fun a b => a.id ≠ b.id
theorem StayL.may {l : List Rn} {n : Nat} (h : StayL l n) : MayR l n := by
  have a := h.m1; have b := h.m2; have c := h.few
  refine ⟨by omega, by omega, by omega, fun r hr => ?_, h.ids, ?_⟩
  · have h1 := h.pin r hr
    have h2 := h.last r hr
    omega
  · refine List.Pairwise.imp_of_mem (R := fun _ _ => True) (fun {a b} ha _ _ _ => by have := h.pin a ha; omega) ?_
    rw [List.pairwise_iff_getElem]
    intros; trivial
theorem StayL.sub {l l' : List Rn} {n : Nat} (h : StayL l n) (hs : l'.Sublist l) : StayL l' n :=
  ⟨h.m1, h.m2, by have := hs.length_le; have := h.few; omega, fun r hr => h.pin r (hs.mem hr), fun r hr => h.last r (hs.mem hr), h.ids.sublist hs⟩
theorem pins_none {l : List Rn} (h : ∀ r ∈ l, r.pin = -1) : pinsR l = [] := by
  refine List.eq_nil_iff_forall_not_mem.mpr fun c hc => ?_
  obtain ⟨h0, x, hx, e⟩ := mem_pins.mp hc
  have := h x hx
  omega
theorem keep_all : ∀ (l : List Rn) (tk : List Int), (∀ r ∈ l, r.pin < 0 ∧ 0 ≤ r.last) → (tk ++ l.map Rn.last).Nodup → (keepR l tk).1 = l.map Rn.last
  | [], _, _, _ => rfl
  | r :: l, tk, h, hn => by
    have hr := h r List.mem_cons_self
    have e : tk ++ (r :: l).map Rn.last = (tk ++ [r.last]) ++ l.map Rn.last := by simp
    rw [e] at hn
    have hnot : r.last ∉ tk := by
      have h1 := (List.nodup_append.mp hn).1
      have h2 := (List.nodup_append.mp h1).2.2
      intro q
      exact h2 r.last q r.last (by simp) rfl
    rw [keepR, if_pos ⟨hr.1, hr.2, hnot⟩, List.map_cons, keep_all l (tk ++ [r.last]) (fun x hx => h x (List.mem_cons_of_mem _ hx)) hn]
theorem rest_id (m : Nat) : ∀ (os tk : List Int), (∀ o ∈ os, 0 ≤ o) → restR m os tk = os
  | [], _, _ => rfl
  | o :: os, tk, h => by
    have := h o List.mem_cons_self
    rw [restR, if_neg (by omega), rest_id m os tk (fun x hx => h x (List.mem_cons_of_mem _ hx))]
theorem moves_last : ∀ l : List Rn, movesR l (l.map Rn.last) = 0
  | [] => rfl
  | r :: l => by
    rw [List.map_cons, movesR, moves_last l, if_neg (fun q => q.2 rfl)]
theorem stay_zero {l : List Rn} {n : Nat} (h : StayL l n) (hd : (l.map Rn.last).Nodup) : movesR l (asgL l n) = 0 := by
  rw [(asg_yes h.may).1]
  unfold assignR
  rw [pins_none h.pin]
  have hk := keep_all l [] (fun r hr => ⟨by have := h.pin r hr; omega, (h.last r hr).1⟩) (by simpa using hd)
  rw [hk, rest_id _ _ _ (fun o ho => by obtain ⟨r, hr, e⟩ := List.mem_map.mp ho; rw [← e]; exact (h.last r hr).1)]
  exact moves_last l
theorem moves_none : ∀ (l : List Rn) (cs : List Int), cs.length = l.length → (∀ r ∈ l, r.last ≠ -1) → movesR l cs = 0 → cs = l.map Rn.last
  | [], [], _, _, _ => rfl
  | [], _ :: _, h, _, _ => by simp at h
  | _ :: _, [], h, _, _ => by simp at h
  | r :: l, c :: cs, h, hl, hm => by
    rw [movesR] at hm
    have hr := hl r List.mem_cons_self
    have e : r.last = c := Classical.byContradiction fun q => by rw [if_pos ⟨hr, q⟩] at hm; omega
    rw [List.map_cons, e, moves_none l cs (by simpa using h) (fun x hx => hl x (List.mem_cons_of_mem _ hx)) (by omega)]
theorem stay_pos {l : List Rn} {n : Nat} (h : StayL l n) (hd : ¬ (l.map Rn.last).Nodup) : 0 < movesR l (asgL l n) := by
  refine Nat.pos_of_ne_zero fun q => hd ?_
  rw [(asg_yes h.may).1] at q
  rw [← moves_none l (assignR l n) (assign_len l n) (fun r hr => by have := (h.last r hr).1; omega) q]
  exact (assign_on h.may).one
/-- the law's runners -/
def lR (n : Nat) (b : Int) : Nat → List Rn
  | 0 => []
  | i + 1 => lR n b i ++ [⟨i, -1, ((i : Int) * 7 + b) % n⟩]
theorem lR_len (n : Nat) (b : Int) : ∀ i, (lR n b i).length = i
  | 0 => rfl
  | i + 1 => by rw [lR, List.length_append, lR_len n b i]; rfl
theorem lR_ids (n : Nat) (b : Int) : ∀ i, ∀ r ∈ lR n b i, r.id < i
  | 0, r, h => by simp [lR] at h
  | i + 1, r, h => by
    rw [lR] at h
    rcases List.mem_append.mp h with q | q
    · have := lR_ids n b i r q; omega
    · have : r = ⟨i, -1, ((i : Int) * 7 + b) % n⟩ := by simpa using q
      rw [this]; show (i : Int) < _; omega
theorem lR_stay (n : Nat) (b : Int) (n1 : 1 ≤ n) (n2 : n ≤ 1024) : ∀ i, i ≤ n → StayL (lR n b i) n
  | 0, _ => ⟨n1, n2, by simp [lR], by simp [lR], by simp [lR], by simp [lR]⟩
  | i + 1, hi => by
    have h := lR_stay n b n1 n2 i (by omega)
    refine ⟨n1, n2, by rw [lR_len]; exact hi, fun r hr => ?_, fun r hr => ?_, ?_⟩
    · rw [lR] at hr
      rcases List.mem_append.mp hr with q | q
      · exact h.pin r q
      · have : r = ⟨i, -1, ((i : Int) * 7 + b) % n⟩ := by simpa using q
        rw [this]
    · rw [lR] at hr
      rcases List.mem_append.mp hr with q | q
      · exact h.last r q
      · have : r = ⟨i, -1, ((i : Int) * 7 + b) % n⟩ := by simpa using q
        rw [this]
        exact ⟨Int.emod_nonneg _ (by omega), Int.emod_lt_of_pos _ (by omega)⟩
    · rw [lR, List.pairwise_append]
      refine ⟨h.ids, by simp, fun x hx y hy => ?_⟩
      have : y = ⟨i, -1, ((i : Int) * 7 + b) % n⟩ := by simpa using hy
      rw [this]
      have := lR_ids n b i x hx
      show x.id ≠ (i : Int)
      omega
/-- are the first i last cores all different? -/
def nodupB (l : List Rn) (i : Nat) : Bool := decide ((l.take i).map Rn.last).Nodup
def flagB (l : List Rn) (i : Nat) (z : Int) (j : Nat) : Bool := nodupB l i && decide (z ∉ (l.take j).map Rn.last)
theorem nodup_zero (l : List Rn) : nodupB l 0 = true := by unfold nodupB; simp
theorem flag_zero (l : List Rn) (i : Nat) (z : Int) : flagB l i z 0 = nodupB l i := by unfold flagB; simp
theorem flag_next {l : List Rn} {i : Nat} {z : Int} {j : Nat} {r : Rn} (h : l[j]? = some r) : flagB l i z (j + 1) = (flagB l i z j && (z != r.last)) := by
  unfold flagB
  rw [take_snocR h, List.map_append, Bool.eq_iff_iff]
  simp only [Bool.and_eq_true, decide_eq_true_eq, bne_iff_ne, List.mem_append, List.map_cons, List.map_nil, List.mem_singleton, not_or]
  exact ⟨fun ⟨a, b, c⟩ => ⟨⟨a, b⟩, c⟩, fun ⟨⟨a, b⟩, c⟩ => ⟨a, b, c⟩⟩
theorem flag_end {l : List Rn} {i : Nat} {r : Rn} (h : l[i]? = some r) : flagB l i r.last i = nodupB l (i + 1) := by
  unfold flagB nodupB
  rw [take_snocR h, List.map_append, Bool.eq_iff_iff]
  simp only [Bool.and_eq_true, decide_eq_true_eq]
  rw [List.nodup_append]
  constructor
  · rintro ⟨a, b⟩
    refine ⟨a, by simp, fun x hx y hy e => ?_⟩
    have : y = r.last := by simpa using hy
    rw [e, this] at hx
    exact b hx
  · rintro ⟨a, _, c⟩
    exact ⟨a, fun q => c _ q r.last (by simp) rfl⟩
theorem nodup_all (l : List Rn) : nodupB l l.length = decide (l.map Rn.last).Nodup := by unfold nodupB; rw [List.take_length]
theorem cut_sub (l : List Rn) (k : Nat) : (([] ++ l.take k) ++ l.drop (k + 1)).Sublist l := by
  rw [List.nil_append]
  have h0 : (l.drop (k + 1)).Sublist (l.drop k) := by
    rw [← List.tail_drop]
    exact List.tail_sublist _
  have h1 := List.Sublist.append_left h0 (l.take k)
  rwa [List.take_append_drop] at h1
/-! ### a row from some element on -/
theorem RowF.drop {W : World} {b off len cap c k : Nat} {rs : List (List Value)} (h : RowF W (some ⟨b, off, none⟩) len cap c rs) (hk : k ≤ len) : RowF W (some ⟨b, off + k * c, none⟩) (len - k) (cap - k) c (rs.drop k) := by
  refine ⟨by rw [List.length_drop, h.1], by have := h.2.1; omega, by have := h.2.2.1; omega, (fun e => by cases e), fun i hi => ?_⟩
  obtain ⟨b', off', ha, hc⟩ := h.2.2.2.2 (k + i) (by omega)
  simp only [Option.some.injEq, Addr.mk.injEq, and_true] at ha
  obtain ⟨rfl, rfl⟩ := ha
  refine ⟨b, off + k * c, rfl, fun j hj => ?_⟩
  have h1 := hc j hj
  have e : (rs.drop k).getD i [] = rs.getD (k + i) [] := by rw [List.getD_eq_getElem?_getD, List.getD_eq_getElem?_getD, List.getElem?_drop]
  rw [e, ← h1]
  congr 2
  rw [Nat.add_mul]; omega
theorem RowR.drop {W : World} {b off len cap k : Nat} {l : List Rn} (h : RowR W (some ⟨b, off, none⟩) len cap l) (hk : k ≤ len) : RowR W (some ⟨b, off + k * 3, none⟩) (len - k) (cap - k) (l.drop k) := by
  have := RowF.drop h hk
  unfold RowR
  rw [List.map_drop]
  exact this
theorem RowR.empty {W : World} {a : Addr} {c : Nat} (hc : c ≤ 9223372036854775807) : RowR W (some a) 0 c [] := ⟨rfl, Nat.zero_le _, hc, (fun e => by cases e), fun i hi => by omega⟩
/-- append of runners, in a region that draws its order -/
theorem flat_lenR (xs : List Rn) : (xs.map Rn.cs).flatten.length = xs.length * 3 := by rw [flat_len _ (wideR xs), List.length_map]
theorem flat_oneR (xs : List Rn) : ∀ u ∈ (xs.map Rn.cs).flatten, u.oneCell' = true := fun u hu => by
  obtain ⟨r, h1, h2⟩ := List.mem_flatten.mp hu
  exact oneR xs r h1 u h2
theorem step_append_runs {w : World} {ops : Array Oper} {o : Oper} {act : Act} {K : Act → World → Prop} {Q : Exit → Act → World → Prop} {X : Prop} (hgd : o.guard = none) (s x : Operand)
    (ho : o.op = .call { callee := .builtin .append, args := #[s, x], argTypes := #[22, 22] }) (base : Nat) (v : Value) (ns : List Rn) (hs : act.eval s = v)
    (hown : w.ownsRow base 39 3 v ns.length (ns.map Rn.cs).flatten) (A : Option Addr) (m c : Nat) (zs : List Rn) (hx : act.eval x = .slice A m c) (hr : RowR w A m c zs) (hb : base ≤ w.heap.size) (hsm : ns.length + m ≤ 1000)
    (h : ∀ v' w', w'.ownsRow base 39 3 v' (ns ++ zs).length ((ns ++ zs).map Rn.cs).flatten → w.grownBy w' v.ownBlock → K (act.put o.dst v') w') :
    if Region.wanted o (yielded ops act.tmps) = true then Oper.wp Try.prog o act w K Q else X := by
  have hw : Region.wanted o (yielded ops act.tmps) = true := by simp [Region.wanted, hgd]
  rw [if_pos hw]
  obtain ⟨i0, hi, hz0, hz1, hz2⟩ := info_parts Try.infoR
  rcases A with _ | ad
  · obtain ⟨hm, hc, hzs⟩ := RowF.none_cap hr
    have hzs : zs = [] := by simpa using hzs
    subst hc hm hzs
    have hrun := run_append_owned_none (P := Try.prog) (w := w) base 22 o.type _ i0 3 Try.underlying22 hi v _ _ hown
    unfold Oper.wp
    simp [execOp, ho, resolve, invoke, builtin, hs, hx, hrun, Result.andThen]
    exact h v w (by rw [List.append_nil]; exact hown) (World.grownBy.refl w _)
  · obtain ⟨v2, w2, hrun, ho2, hg2, _, hat⟩ := run_append_own_at (P := Try.prog) w base 22 o.type _ i0 _ 3 24 Try.underlying22 hi hz0 hz1 hz2 rfl (by decide) v _ _ hown ad m c (zs.map Rn.cs).flatten (by rw [flat_lenR, hr.len]) (RowF.news (wideR zs) hr) (flat_oneR zs) (by unfold maxLen; omega) (by omega) hb
    unfold Oper.wp
    simp [execOp, ho, resolve, invoke, builtin, hs, hx, hrun, Result.andThen]
    refine h v2 w2 ?_ hg2
    rw [List.length_append, List.map_append, List.flatten_append, hr.len]
    exact ho2
end Go.Proofs.Ytokmkfoofgiddaa
