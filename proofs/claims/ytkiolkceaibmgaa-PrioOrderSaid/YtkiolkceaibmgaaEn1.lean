/-
  Plain facts on entries, their order, and sorting: no function of the program in sight.
-/
import Derived.WalkKit
namespace Go.Proofs.Ytkiolkceaibmgaa

/-- an entry: a task's number and its subtask -/
structure Ent where
  id : Int
  idx : Int
  rel : Int
  dl : Int
  bit : Int
  grp : Int
def e0 : Ent := ⟨0, 0, 0, 0, 0, 0⟩
/-- by the bit: 0 goes ahead of 1 -/
def k1 (a : Ent) : Int := if a.bit = 1 then 0 else 1
/-- by the group, of bit 1 alone -/
def k2 (a : Ent) : Int := if a.bit = 1 then -a.grp else 0
/-- one goes ahead of another one -/
def Ahead (a b : Ent) : Prop := a.dl < b.dl ∨ (a.dl = b.dl ∧ (k1 a < k1 b ∨ (k1 a = k1 b ∧ (k2 a < k2 b ∨ (k2 a = k2 b ∧ a.id < b.id)))))
instance (a b : Ent) : Decidable (Ahead a b) := by unfold Ahead; infer_instance
def lessB (a b : Ent) : Bool := decide (Ahead a b)
theorem lessB_yes {a b : Ent} (h : Ahead a b) : lessB a b = true := by unfold lessB; simp [h]
theorem lessB_no {a b : Ent} (h : ¬ Ahead a b) : lessB a b = false := by unfold lessB; simp [h]
theorem lessB_iff {a b : Ent} : lessB a b = true ↔ Ahead a b := by unfold lessB; simp
theorem lessB_self (a : Ent) : lessB a a = false := lessB_no (by unfold Ahead; omega)
theorem ahead_trans {a b c : Ent} (h : Ahead a b) (g : Ahead b c) : Ahead a c := by unfold Ahead at *; omega
theorem ahead_asym {a b : Ent} (h : Ahead a b) : ¬ Ahead b a := by unfold Ahead at *; omega
/-- not ahead, of not ahead -/
theorem behind_trans {a b c : Ent} (h : ¬ Ahead a b) (g : ¬ Ahead b c) : ¬ Ahead a c := by unfold Ahead at *; omega
theorem ahead_behind {a b c : Ent} (h : Ahead a b) (g : ¬ Ahead c b) : Ahead a c := by unfold Ahead at *; omega
theorem ahead_one {a b : Ent} (h : a.id ≠ b.id) : Ahead a b ∨ Ahead b a := by unfold Ahead; omega

/-- put behind all that it does not go ahead of -/
def ins (x : Ent) : List Ent → List Ent
  | [] => [x]
  | y :: r => if lessB x y then x :: y :: r else y :: ins x r
/-- one by one -/
def sortE (l : List Ent) : List Ent := l.foldl (fun out x => ins x out) []
theorem sortE_snoc (l : List Ent) (x : Ent) : sortE (l ++ [x]) = ins x (sortE l) := by unfold sortE; rw [List.foldl_append]; rfl
theorem ins_perm (x : Ent) (l : List Ent) : (ins x l).Perm (x :: l) := by
  induction l with
  | nil => exact List.Perm.refl _
  | cons y r ih =>
    unfold ins
    split
    · exact List.Perm.refl _
    · exact (List.Perm.cons y ih).trans (List.Perm.swap x y r)
theorem ins_len (x : Ent) (l : List Ent) : (ins x l).length = l.length + 1 := by rw [(ins_perm x l).length_eq]; rfl
theorem snoc_ind {P : List Ent → Prop} (h0 : P []) (h1 : ∀ l x, P l → P (l ++ [x])) : ∀ l, P l := by
  intro l
  suffices h : ∀ n l, l.length = n → P l from h _ l rfl
  intro n
  induction n with
  | zero => intro l hl; rw [List.length_eq_zero_iff.mp hl]; exact h0
  | succ n ih =>
    intro l hl
    have hne : l ≠ [] := fun e => by rw [e] at hl; simp at hl
    rw [← List.dropLast_concat_getLast hne]
    exact h1 _ _ (ih _ (by rw [List.length_dropLast, hl]; rfl))
theorem sortE_perm (l : List Ent) : (sortE l).Perm l := by
  refine snoc_ind (P := fun l => (sortE l).Perm l) (List.Perm.refl _) (fun l x ih => ?_) l
  rw [sortE_snoc]
  exact (ins_perm x _).trans ((List.Perm.cons x ih).trans (List.perm_append_singleton x l).symm)
theorem sortE_len (l : List Ent) : (sortE l).length = l.length := (sortE_perm l).length_eq
/-- none stands behind one that it goes ahead of -/
def Sorted (l : List Ent) : Prop := l.Pairwise fun a b => ¬ Ahead b a
theorem ins_sorted (x : Ent) (l : List Ent) (h : Sorted l) : Sorted (ins x l) := by
  induction l with
  | nil => unfold ins Sorted; simp
  | cons y r ih =>
    unfold Sorted at h
    rw [List.pairwise_cons] at h
    unfold ins
    split
    · rename_i q
      have q := lessB_iff.mp q
      unfold Sorted
      rw [List.pairwise_cons, List.pairwise_cons]
      refine ⟨fun z hz => ?_, h⟩
      rcases List.mem_cons.mp hz with rfl | hz
      · exact ahead_asym q
      · exact fun hzx => h.1 z hz (ahead_trans hzx q)
    · rename_i q
      have q : ¬ Ahead x y := fun e => q (lessB_yes e)
      unfold Sorted
      rw [List.pairwise_cons]
      refine ⟨fun z hz => ?_, ih h.2⟩
      rcases List.mem_cons.mp ((ins_perm x r).mem_iff.mp hz) with rfl | hz
      · exact q
      · exact h.1 z hz
theorem sortE_sorted (l : List Ent) : Sorted (sortE l) := by
  refine snoc_ind (P := fun l => Sorted (sortE l)) ?_ (fun l x ih => ?_) l
  · unfold sortE Sorted; simp
  · rw [sortE_snoc]; exact ins_sorted x _ ih
/-- a step of the insertion -/
theorem ins_step_put (x y : Ent) (r : List Ent) (h : lessB x y = true) : ins x (y :: r) = x :: y :: r := by unfold ins; rw [if_pos h]
theorem ins_step_on (x y : Ent) (r : List Ent) (h : lessB x y = false) : ins x (y :: r) = y :: ins x r := by
  show (if lessB x y then x :: y :: r else y :: ins x r) = y :: ins x r
  rw [if_neg (by rw [h]; decide)]
/-- how many go ahead of the first one of that ID; -1, if there is none -/
def rankE (l : List Ent) (id : Int) : Int := match l.find? (fun x => decide (x.id = id)) with | some x => (l.countP (fun y => lessB y x) : Int) | none => -1
/-- which ones are picked -/
def pickE (l : List Ent) (m : Int) : List Ent := if m < 1 then [] else (sortE l).take m.toNat
end Go.Proofs.Ytkiolkceaibmgaa
