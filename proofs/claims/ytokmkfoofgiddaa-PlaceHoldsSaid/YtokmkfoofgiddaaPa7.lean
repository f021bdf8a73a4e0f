/-
  What is assigned, runner by runner, from the front: plain.
-/
import Derived.Test.YtokmkfoofgiddaaPa4
namespace Go.Proofs.Ytokmkfoofgiddaa

theorem keep_append : ∀ (x y : List Rn) (tk : List Int), keepR (x ++ y) tk = ((keepR x tk).1 ++ (keepR y (keepR x tk).2).1, (keepR y (keepR x tk).2).2)
  | [], y, tk => by simp [keepR]
  | r :: x, y, tk => by
    rw [List.cons_append, keepR, keepR]
    split
    · rw [keep_append x y]; rfl
    · rw [keep_append x y]; rfl
/-- may the next one stay? -/
def KeepC (tk : List Int) (r : Rn) : Prop := r.pin < 0 ∧ 0 ≤ r.last ∧ r.last ∉ tk
def tkK (l : List Rn) (i : Nat) : List Int := (keepR (l.take i) (pinsR l)).2
def outK (l : List Rn) (i : Nat) : List Int := (keepR (l.take i) (pinsR l)).1 ++ (l.drop i).map Rn.pin
theorem outK_len (l : List Rn) (i : Nat) : (outK l i).length = l.length := by
  unfold outK
  rw [List.length_append, keep_len, List.length_take, List.length_map, List.length_drop]
  omega
theorem outK_zero (l : List Rn) : outK l 0 = l.map Rn.pin := by unfold outK; simp [keepR]
theorem tkK_zero (l : List Rn) : tkK l 0 = pinsR l := by unfold tkK; simp [keepR]
theorem outK_end (l : List Rn) : outK l l.length = (keepR l (pinsR l)).1 := by unfold outK; simp
theorem tkK_end (l : List Rn) : tkK l l.length = (keepR l (pinsR l)).2 := by unfold tkK; simp
theorem outK_at {l : List Rn} {i : Nat} {r : Rn} (h : l[i]? = some r) : (outK l i)[i]? = some r.pin := by
  have hi := lt_of_get h
  unfold outK
  have e : (keepR (l.take i) (pinsR l)).1.length = i := by rw [keep_len, List.length_take]; omega
  rw [List.getElem?_append_right (by omega), e, Nat.sub_self, List.getElem?_map, List.getElem?_drop]
  simp [h]
theorem keep_one (r : Rn) (tk : List Int) : (KeepC tk r → keepR [r] tk = ([r.last], tk ++ [r.last])) ∧ (¬ KeepC tk r → keepR [r] tk = ([r.pin], tk)) := by
  unfold KeepC
  refine ⟨fun h => ?_, fun h => ?_⟩
  · rw [keepR, if_pos h]; simp [keepR]
  · rw [keepR, if_neg h]; simp [keepR]
theorem drop_cons {l : List Rn} {i : Nat} {r : Rn} (h : l[i]? = some r) : l.drop i = r :: l.drop (i + 1) := by
  have hi := lt_of_get h
  rw [List.getElem?_eq_getElem hi] at h
  rw [List.drop_eq_getElem_cons hi]
  congr 1
  simpa using h
theorem take_snocR {l : List Rn} {i : Nat} {r : Rn} (h : l[i]? = some r) : l.take (i + 1) = l.take i ++ [r] := by rw [List.take_add_one, h]; rfl
theorem outK_yes {l : List Rn} {i : Nat} {r : Rn} (h : l[i]? = some r) (c : KeepC (tkK l i) r) : outK l (i + 1) = (outK l i).set i r.last ∧ tkK l (i + 1) = tkK l i ++ [r.last] := by
  have hi := lt_of_get h
  have e : (keepR (l.take i) (pinsR l)).1.length = i := by rw [keep_len, List.length_take]; omega
  have k := (keep_one r (tkK l i)).1 c
  constructor
  · unfold outK
    rw [take_snocR h, keep_append]
    show _ ++ (keepR [r] (tkK l i)).1 ++ _ = _
    rw [k, drop_cons h, List.set_append_right _ _ (by omega), e, Nat.sub_self]
    simp
  · unfold tkK
    rw [take_snocR h, keep_append]
    show (keepR [r] (tkK l i)).2 = _
    rw [k]; rfl
theorem outK_no {l : List Rn} {i : Nat} {r : Rn} (h : l[i]? = some r) (c : ¬ KeepC (tkK l i) r) : outK l (i + 1) = outK l i ∧ tkK l (i + 1) = tkK l i := by
  have k := (keep_one r (tkK l i)).2 c
  constructor
  · unfold outK
    rw [take_snocR h, keep_append]
    show _ ++ (keepR [r] (tkK l i)).1 ++ _ = _
    rw [k, drop_cons h]
    simp
  · unfold tkK
    rw [take_snocR h, keep_append]
    show (keepR [r] (tkK l i)).2 = _
    rw [k]; rfl
/-! ### the rest -/
def restT (m : Nat) : List Int → List Int → List Int
  | [], tk => tk
  | o :: os, tk => if o < 0 then restT m os (tk ++ [freeR tk m 0]) else restT m os tk
theorem rest_append (m : Nat) : ∀ (x y tk : List Int), restR m (x ++ y) tk = restR m x tk ++ restR m y (restT m x tk)
  | [], y, tk => by simp [restR, restT]
  | o :: x, y, tk => by
    rw [List.cons_append, restR, restR, restT]
    split
    · rw [rest_append m x y]; rfl
    · rw [rest_append m x y]; rfl
theorem restT_append (m : Nat) : ∀ (x y tk : List Int), restT m (x ++ y) tk = restT m y (restT m x tk)
  | [], y, tk => by simp [restT]
  | o :: x, y, tk => by
    rw [List.cons_append, restT, restT]
    split
    · rw [restT_append m x y]
    · rw [restT_append m x y]
def outF (m : Nat) (os tk : List Int) (i : Nat) : List Int := restR m (os.take i) tk ++ os.drop i
def tkF (m : Nat) (os tk : List Int) (i : Nat) : List Int := restT m (os.take i) tk
theorem outF_len (m : Nat) (os tk : List Int) (i : Nat) : (outF m os tk i).length = os.length := by
  unfold outF
  rw [List.length_append, rest_len, List.length_take, List.length_drop]
  omega
theorem outF_zero (m : Nat) (os tk : List Int) : outF m os tk 0 = os := by unfold outF; simp [restR]
theorem tkF_zero (m : Nat) (os tk : List Int) : tkF m os tk 0 = tk := by unfold tkF; simp [restT]
theorem outF_end (m : Nat) (os tk : List Int) : outF m os tk os.length = restR m os tk := by unfold outF; simp
theorem outF_at {m : Nat} {os tk : List Int} {i : Nat} {o : Int} (h : os[i]? = some o) : (outF m os tk i)[i]? = some o := by
  have hi := lt_of_get h
  unfold outF
  have e : (restR m (os.take i) tk).length = i := by rw [rest_len, List.length_take]; omega
  rw [List.getElem?_append_right (by omega), e, Nat.sub_self, List.getElem?_drop]
  simp [h]
theorem take_snocI {l : List Int} {i : Nat} {r : Int} (h : l[i]? = some r) : l.take (i + 1) = l.take i ++ [r] := by rw [List.take_add_one, h]; rfl
theorem drop_consI {l : List Int} {i : Nat} {r : Int} (h : l[i]? = some r) : l.drop i = r :: l.drop (i + 1) := by
  have hi := lt_of_get h
  rw [List.getElem?_eq_getElem hi] at h
  rw [List.drop_eq_getElem_cons hi]
  congr 1
  simpa using h
theorem outF_yes {m : Nat} {os tk : List Int} {i : Nat} {o : Int} (h : os[i]? = some o) (c : o < 0) : outF m os tk (i + 1) = (outF m os tk i).set i (freeR (tkF m os tk i) m 0) ∧ tkF m os tk (i + 1) = tkF m os tk i ++ [freeR (tkF m os tk i) m 0] := by
  have hi := lt_of_get h
  have e : (restR m (os.take i) tk).length = i := by rw [rest_len, List.length_take]; omega
  constructor
  · unfold outF
    rw [take_snocI h, rest_append]
    show _ ++ restR m [o] (tkF m os tk i) ++ _ = _
    rw [restR, if_pos c, restR, drop_consI h, List.set_append_right _ _ (by omega), e, Nat.sub_self]
    simp
  · unfold tkF
    rw [take_snocI h, restT_append, restT, if_pos c, restT]
theorem outF_no {m : Nat} {os tk : List Int} {i : Nat} {o : Int} (h : os[i]? = some o) (c : ¬ o < 0) : outF m os tk (i + 1) = outF m os tk i ∧ tkF m os tk (i + 1) = tkF m os tk i := by
  constructor
  · unfold outF
    rw [take_snocI h, rest_append]
    show _ ++ restR m [o] (tkF m os tk i) ++ _ = _
    rw [restR, if_neg c, restR, drop_consI h]
    simp
  · unfold tkF
    rw [take_snocI h, restT_append, restT, if_neg c, restT]
/-- the same cores are taken -/
def SameT (x y : List Int) : Prop := ∀ c : Int, 0 ≤ c → (c ∈ x ↔ c ∈ y)
theorem SameT.refl (x : List Int) : SameT x x := fun _ _ => Iff.rfl
theorem SameT.snoc {x y : List Int} (h : SameT x y) (c : Int) : SameT (x ++ [c]) (y ++ [c]) := fun d hd => by
  rw [List.mem_append, List.mem_append, h d hd]
theorem SameT.neg {x y : List Int} (h : SameT x y) {c : Int} (hc : c < 0) : SameT x (y ++ [c]) := fun d hd => by
  rw [List.mem_append, h d hd]
  constructor
  · exact .inl
  · rintro (q | q)
    · exact q
    · have : d = c := by simpa using q
      omega
theorem free_same {x y : List Int} (h : SameT x y) : ∀ (n : Nat) (c : Int), 0 ≤ c → freeR x n c = freeR y n c
  | 0, c, _ => rfl
  | n + 1, c, h0 => by
    rw [freeR, freeR]
    by_cases q : c ∈ x
    · rw [if_neg (fun k => k q), if_neg (fun k => k ((h c h0).mp q)), free_same h n (c + 1) (by omega)]
    · rw [if_pos q, if_pos (fun k => q ((h c h0).mpr k))]
/-- up to c all are taken -/
theorem free_skip {tk : List Int} {m : Nat} : ∀ (c : Nat), c ≤ m → (∀ d : Nat, d < c → (d : Int) ∈ tk) → freeR tk m 0 = freeR tk (m - c) c
  | 0, _, _ => by simp
  | c + 1, hc, h => by
    rw [free_skip c (by omega) (fun d hd => h d (by omega))]
    obtain ⟨k, hk⟩ : ∃ k, m - c = k + 1 := ⟨m - c - 1, by omega⟩
    rw [hk, freeR, if_neg (fun q => q (h c (by omega))), show m - (c + 1) = k by omega]
    congr 1
theorem free_here {tk : List Int} {m c : Nat} (hc : c < m) (h : ∀ d : Nat, d < c → (d : Int) ∈ tk) (hn : (c : Int) ∉ tk) : freeR tk m 0 = c := by
  rw [free_skip c (by omega) h]
  obtain ⟨k, hk⟩ : ∃ k, m - c = k + 1 := ⟨m - c - 1, by omega⟩
  rw [hk, freeR, if_pos hn]
theorem free_none {tk : List Int} {m : Nat} (h : ∀ d : Nat, d < m → (d : Int) ∈ tk) : freeR tk m 0 = -1 := by
  rw [free_skip m (Nat.le_refl _) h, Nat.sub_self, freeR]
/-! ### the whole -/
noncomputable def asgL (l : List Rn) (m : Int) : List Int := if mayB l m then assignR l m.toNat else []
noncomputable def asgE (l : List Rn) (m : Int) : Int := if mayB l m then 0 else 1
theorem asg_yes {l : List Rn} {m : Nat} (h : MayR l m) : asgL l m = assignR l m ∧ asgE l m = 0 := by
  unfold asgL asgE
  rw [mayB_yes h]
  simp
theorem asg_is {l : List Rn} {m : Nat} : outF m (outK l l.length) (tkK l l.length) l.length = assignR l m := by
  unfold assignR
  rw [outK_end, tkK_end]
  have := outF_end m (keepR l (pinsR l)).1 (keepR l (pinsR l)).2
  rw [keep_len] at this
  exact this
/-- none but -1 and what is not below 0 -/
theorem outK_ge {l : List Rn} {m : Int} (h : MayR l m) (i : Nat) : ∀ c ∈ outK l i, -1 ≤ c := by
  have key : ∀ (x : List Rn) (tk : List Int), (∀ r ∈ x, -1 ≤ r.pin) → ∀ c ∈ (keepR x tk).1, -1 ≤ c := by
    intro x
    induction x with
    | nil => intro tk _ c hc; simp [keepR] at hc
    | cons r x ih =>
      intro tk hx c hc
      rw [keepR] at hc
      split at hc
      · rename_i q
        rcases List.mem_cons.mp hc with e | e
        · rw [e]; omega
        · exact ih _ (fun y hy => hx y (List.mem_cons_of_mem _ hy)) c e
      · rcases List.mem_cons.mp hc with e | e
        · rw [e]; exact hx r List.mem_cons_self
        · exact ih _ (fun y hy => hx y (List.mem_cons_of_mem _ hy)) c e
  intro c hc
  unfold outK at hc
  rcases List.mem_append.mp hc with q | q
  · exact key _ _ (fun r hr => (h.each r (List.mem_of_mem_take hr)).1) c q
  · obtain ⟨r, hr, e⟩ := List.mem_map.mp q
    rw [← e]
    exact (h.each r (List.mem_of_mem_drop hr)).1
end Go.Proofs.Ytokmkfoofgiddaa
