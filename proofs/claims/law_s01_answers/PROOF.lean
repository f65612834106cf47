import PyProof.Rows.All
import Wide.All
import OpenK.AllK
import Wide.FinOn
import Open.SpecLaws
import KE.OsHead
import KE.OsGo
import HandS.ForSpec
import HandS.Comp
import HandS.Iter
import HandS.More
import HandS.Codes
import HandS.Walk
import KE.SortKeyHeap
import KE.DataMinKey
import HandS.Conv
import HandS.Lambda
import HandS.Nested
import HandS.NestedK
import HandS.EndTab
import HandS.ExcValue
import HandS.ExcOwn
import KE.KNestM
import HandS.WideBits
import PySem.Challenge.RW_hopperset_s01_answers
/-! The flat form of the calls, read call by call; and what the loop over it gives. Plain Lean. -/
namespace HP

theorem getElem?_drop_zero {α : Type} (l : List α) (i : Nat) : (l.drop i)[0]? = l[i]? := by
  rw [List.getElem?_drop]; rfl

/-- one call more: what stands at i, and what is left behind it -/
theorem row_some {r : List Int} {a b : List Int} (h : PyFlat.row r = some (a, b)) :
    ∃ n r', r = n :: r' ∧ 0 ≤ n ∧ n.toNat ≤ r'.length ∧ a = r'.take n.toNat ∧ b = r'.drop n.toNat := by
  cases r with
  | nil => cases h
  | cons n r' =>
    have h' : (if 0 ≤ n ∧ n.toNat ≤ r'.length then some (r'.take n.toNat, r'.drop n.toNat) else none) = some (a, b) := h
    by_cases c : 0 ≤ n ∧ n.toNat ≤ r'.length
    · rw [if_pos c] at h'
      injection h' with h'
      injection h' with h1 h2
      exact ⟨n, r', rfl, c.1, c.2, h1.symm, h2.symm⟩
    · rw [if_neg c] at h'
      cases h'

theorem asked1_single {c : Kp411Neutral.Call} (h : Kp411Neutral.asked1 c = true) : ∃ row, c = [row] := by
  match c, h with
  | [row], _ => exact ⟨row, rfl⟩
  | [], h => simp [Kp411Neutral.asked1] at h
  | _ :: _ :: _, h => simp [Kp411Neutral.asked1] at h

theorem rows_nil {k : Nat} {r : List Int} {t : List Int} (h : PyFlat.rows k r = some ([], t)) : k = 0 ∧ t = r := by
  cases k with
  | zero =>
    simp [PyFlat.rows] at h
    exact ⟨rfl, h.symm⟩
  | succ k =>
    exfalso
    unfold PyFlat.rows at h
    split at h
    · cases h
    · split at h
      · cases h
      · cases h

/-- the decoding of one call that is asked -/
theorem call_asked {p : Int} {r : List Int} {c : List (List Int)} {t : List Int} (h : PyWide.call (p :: r) = some (c, t)) (a : Kp411Neutral.asked1 c = true) :
    ∃ n ns r', r = n :: r' ∧ 0 ≤ n ∧ ns = r'.take n.toNat ∧ ns.length = n.toNat ∧ c = [p :: ns] ∧ ∃ z, r'.drop n.toNat = z :: t := by
  simp only [PyWide.call] at h
  split at h
  · cases h
  · cases h
  · rename_i ns k t' e
    split at h
    · split at h
      · cases h
      · rename_i xs u e2
        cases h
        obtain ⟨row, hr⟩ := asked1_single a
        injection hr with h1 h2
        subst h2
        obtain ⟨ek, et⟩ := rows_nil e2
        obtain ⟨n, r', er, hn, hl, ea, eb⟩ := row_some e
        exact ⟨n, ns, r', er, hn, ea, by rw [ea, List.length_take]; omega, rfl, k, by rw [← eb, et]⟩
    · cases h

/-- at place i of the calls, not at the end: the next call -/
theorem next_call {f : Nat} {l : List Int} {i : Nat} {cs : List (List (List Int))} (h : PyWide.calls f (l.drop i) = some cs) (hi : i < l.length) (a : cs.all Kp411Neutral.asked1 = true) :
    ∃ (p n : Int) (ns : List Int) (cs' : List (List (List Int))) (f' : Nat), l[i]? = some p ∧ l[i + 1]? = some n ∧ 0 ≤ n ∧ ns = (l.drop (i + 2)).take n.toNat ∧ ns.length = n.toNat ∧
      i + 2 + n.toNat < l.length ∧ cs = [p :: ns] :: cs' ∧ Kp411Neutral.asked1 [p :: ns] = true ∧ cs'.all Kp411Neutral.asked1 = true ∧ PyWide.calls f' (l.drop (i + 2 + n.toNat + 1)) = some cs' := by
  obtain ⟨p, r, e⟩ : ∃ p r, l.drop i = p :: r := by
    cases e : l.drop i with
    | nil => rw [List.drop_eq_nil_iff] at e; omega
    | cons p r => exact ⟨p, r, rfl⟩
  rw [e] at h
  cases f with
  | zero => cases h
  | succ f =>
    simp only [PyWide.calls] at h
    split at h
    · cases h
    · rename_i c t hc
      split at h
      · cases h
      · rename_i cs' hcs
        cases h
        rw [List.all_cons, Bool.and_eq_true] at a
        obtain ⟨n, ns, r', er, hn, ens, hl, ec, z, ez⟩ := call_asked hc a.1
        subst er
        have e1 : l.drop (i + 1) = n :: r' := by
          have : l.drop (i + 1) = (l.drop i).drop 1 := by rw [List.drop_drop]
          rw [this, e]; rfl
        have e2 : l.drop (i + 2) = r' := by
          have : l.drop (i + 2) = (l.drop (i + 1)).drop 1 := by rw [List.drop_drop]
          rw [this, e1]; rfl
        have e3 : l.drop (i + 2 + n.toNat) = z :: t := by
          rw [← ez, ← e2, List.drop_drop]
        have e4 : l.drop (i + 2 + n.toNat + 1) = t := by
          have : l.drop (i + 2 + n.toNat + 1) = (l.drop (i + 2 + n.toNat)).drop 1 := by rw [List.drop_drop]
          rw [this, e3]; rfl
        refine ⟨p, n, ns, cs', f, ?_, ?_, hn, by rw [e2]; exact ens, hl, ?_, by rw [ec], by rw [← ec]; exact a.1, a.2, by rw [e4]; exact hcs⟩
        · rw [← getElem?_drop_zero, e]; rfl
        · rw [← getElem?_drop_zero, e1]; rfl
        · have q := congrArg List.length e3
          rw [List.length_drop, List.length_cons] at q
          omega

theorem calls_end {f : Nat} {cs : List (List (List Int))} (h : PyWide.calls f [] = some cs) : cs = [] := by
  cases f <;> simp [PyWide.calls] at h <;> exact h.symm ▸ rfl

/-- what is due from a state on -/
def due (s : Kp411Neutral.S) (cs : List (List (List Int))) : List Int := PyFlat.told (PyFlat.played Kp411Neutral.step s cs)
theorem due_nil (s : Kp411Neutral.S) : due s [] = [] := rfl
theorem due_cons (s : Kp411Neutral.S) (c : List (List Int)) (cs : List (List (List Int))) :
    due s (c :: cs) = (((Kp411Neutral.step s c).2.length : Int) :: (Kp411Neutral.step s c).2) ++ due (Kp411Neutral.step s c).1 cs := rfl

theorem asked_parts {l : List Int} (h : PyKp411.answers_asked l = true) : ∃ cs, PyWide.calls l.length l = some cs ∧ cs.length ≤ 60 ∧ cs.all Kp411Neutral.asked1 = true ∧ PyKp411.answers l = due Kp411Neutral.start cs := by
  unfold PyKp411.answers_asked at h
  split at h
  · cases h
  · rename_i cs e
    rw [Bool.and_eq_true, Bool.and_eq_true] at h
    have h2 := h.1.2
    unfold Kp411Neutral.asked at h2
    rw [Bool.and_eq_true, Bool.and_eq_true] at h2
    refine ⟨cs, e, ?_, h2.2.2, ?_⟩
    · have := h.1.1
      unfold PyFlat.atMost at this
      exact of_decide_eq_true this
    · unfold PyKp411.answers
      rw [e]
      rfl
theorem step_of {s : Kp411Neutral.S} {c : List (List Int)} {x : Kp411.Call} (h : Kp411Neutral.callOf c = some x) :
    Kp411Neutral.step s c = ((Kp411.step s x).1, (Kp411.step s x).2.num :: (Kp411.step s x).2.nums) := by
  unfold Kp411Neutral.step
  rw [h]
end HP

/-! What holds of every weigher that calls lead to. Plain Lean. -/
namespace HP
open Kp411 (Weigher Hopper hopperAt contains)

def wsum (l : List Hopper) : Nat := (l.map Hopper.weight).sum
/-- what addPortion keeps, the queue's length aside -/
structure WPre (w : Weigher) : Prop where
  n1 : 1 ≤ w.hoppers.length
  n8 : w.hoppers.length ≤ 8
  t1 : 1 ≤ w.target
  t2 : w.target ≤ 999
  a9 : w.maxAge ≤ 9
  qok : ∀ x ∈ w.queue, 1 ≤ x ∧ x ≤ 300
  hok : ∀ h ∈ w.hoppers, h.weight ≤ 300 ∧ (h.weight = 0 → h.age = 0)
  bal : w.received = w.packed + wsum w.hoppers + w.queue.sum
structure WInv (w : Weigher) : Prop extends WPre w where
  q24 : w.queue.length ≤ 24

theorem wsum_set : ∀ {l : List Hopper} {i : Nat} (_ : i < l.length) (h : Hopper), wsum (l.set i h) + (l.getD i ⟨0, 0⟩).weight = wsum l + h.weight
  | a :: l, 0, _, h => by
    simp only [List.set_cons_zero, wsum, List.map_cons, List.sum_cons, List.getD_cons_zero]
    omega
  | a :: l, i + 1, hi, h => by
    have ih := wsum_set (l := l) (i := i) (by simpa using hi) h
    simp only [List.set_cons_succ, wsum, List.map_cons, List.sum_cons, List.getD_cons_succ] at *
    omega
theorem hopperAt_of {w : Weigher} {i : Nat} (h : i < w.hoppers.length) : hopperAt w i = w.hoppers[i] := by
  unfold hopperAt
  rw [List.getD_eq_getElem?_getD, List.getElem?_eq_getElem h] <;> rfl
theorem hopperAt_mem {w : Weigher} {i : Nat} (h : i < w.hoppers.length) : hopperAt w i ∈ w.hoppers := by
  rw [hopperAt_of h]
  exact List.getElem_mem h
theorem hopperAt_some {w : Weigher} {i : Nat} {h : Hopper} (e : w.hoppers[i]? = some h) : hopperAt w i = h := by
  unfold hopperAt
  rw [List.getD_eq_getElem?_getD, e] <;> rfl
theorem mem_set {l : List Hopper} {i : Nat} {h x : Hopper} (m : x ∈ l.set i h) : x ∈ l ∨ x = h := List.mem_or_eq_of_mem_set m

theorem found {w : Weigher} {i : Nat} (h : ((List.range w.hoppers.length).find? fun i => (hopperAt w i).weight == 0) = some i) : i < w.hoppers.length ∧ (hopperAt w i).weight = 0 := by
  have h1 := List.mem_of_find?_eq_some h
  have h2 := List.find?_some h
  exact ⟨List.mem_range.mp h1, by simpa using h2⟩
theorem pre_add {w : Weigher} (P : WPre w) {x : Nat} (h1 : 1 ≤ x) (h2 : x ≤ 300) : WPre (Kp411.addPortion w x) := by
  unfold Kp411.addPortion
  split
  · rename_i i e
    obtain ⟨hi, hz⟩ := found e
    have q := wsum_set hi ⟨x, 0⟩
    have hz' : (w.hoppers.getD i ⟨0, 0⟩).weight = 0 := hz
    refine ⟨by simpa using P.n1, by simpa using P.n8, P.t1, P.t2, P.a9, P.qok, fun h m => ?_, ?_⟩
    · rcases mem_set m with m | rfl
      · exact P.hok h m
      · exact ⟨h2, fun _ => rfl⟩
    · have := P.bal
      show w.received + x = w.packed + wsum (w.hoppers.set i ⟨x, 0⟩) + w.queue.sum
      dsimp only at q
      omega
  · refine ⟨P.n1, P.n8, P.t1, P.t2, P.a9, fun y m => ?_, P.hok, ?_⟩
    · rcases List.mem_append.mp m with m | m
      · exact P.qok y m
      · rw [List.mem_singleton] at m
        subst m
        exact ⟨h1, h2⟩
    · have := P.bal
      show w.received + x = w.packed + wsum w.hoppers + (w.queue ++ [x]).sum
      rw [List.sum_append, List.sum_singleton]
      omega
theorem pre_adds : ∀ {l : List Nat} {w : Weigher}, WPre w → (∀ x ∈ l, 1 ≤ x ∧ x ≤ 300) → WPre (l.foldl Kp411.addPortion w)
  | [], _, P, _ => P
  | x :: l, w, P, h => by
    rw [List.foldl_cons]
    exact pre_adds (pre_add P (h x (by simp)).1 (h x (by simp)).2) fun y m => h y (by simp [m])
theorem valid_of {x : Nat} (h : Kp411.validPortion x = true) : 1 ≤ x ∧ x ≤ 300 := by
  unfold Kp411.validPortion at h
  rw [Bool.and_eq_true] at h
  exact ⟨of_decide_eq_true h.1, of_decide_eq_true h.2⟩
theorem target_of {x : Nat} (h : Kp411.validTarget x = true) : 1 ≤ x ∧ x ≤ 999 := by
  unfold Kp411.validTarget at h
  rw [Bool.and_eq_true] at h
  exact ⟨of_decide_eq_true h.1, of_decide_eq_true h.2⟩
theorem add_queue (w : Weigher) (x : Nat) : (Kp411.addPortion w x).queue.length ≤ w.queue.length + 1 := by
  unfold Kp411.addPortion
  split
  · exact Nat.le_succ _
  · show (w.queue ++ [x]).length ≤ _
    simp

/-! ### filling a bag -/
/-- one hopper of fillBag -/
def refStep (w : Weigher) (set : Nat) (acc : List Hopper × List Nat) (i : Nat) : List Hopper × List Nat :=
  if contains set i then (acc.1 ++ [⟨acc.2.headD 0, 0⟩], acc.2.drop 1)
  else (acc.1 ++ [⟨(hopperAt w i).weight, if (hopperAt w i).weight = 0 then 0 else (hopperAt w i).age + 1⟩], acc.2)
/-- behind the first i hoppers -/
def refUpTo (w : Weigher) (set i : Nat) : List Hopper × List Nat := (List.range i).foldl (refStep w set) ([], w.queue)
theorem refUpTo_zero (w : Weigher) (set : Nat) : refUpTo w set 0 = ([], w.queue) := rfl
theorem refUpTo_succ (w : Weigher) (set i : Nat) : refUpTo w set (i + 1) = refStep w set (refUpTo w set i) i := by
  unfold refUpTo
  rw [List.range_succ, List.foldl_append]
  rfl
theorem fillBag_eq (w : Weigher) (set : Nat) : Kp411.fillBag w set = { w with hoppers := (refUpTo w set w.hoppers.length).1, queue := (refUpTo w set w.hoppers.length).2, packed := w.packed + Kp411.weightOf w set, bagCount := w.bagCount + 1 } := rfl
theorem refUpTo_len (w : Weigher) (set : Nat) : ∀ i, (refUpTo w set i).1.length = i
  | 0 => rfl
  | i + 1 => by
    rw [refUpTo_succ]
    unfold refStep
    have := refUpTo_len w set i
    split <;> simp [this]
theorem headD_drop : ∀ (q : List Nat), q.headD 0 + (q.drop 1).sum = q.sum
  | [] => rfl
  | a :: q => by simp
theorem mem_headD {q : List Nat} {P : Nat → Prop} (h : ∀ x ∈ q, P x) (h0 : P 0) : P (q.headD 0) := by
  cases q with
  | nil => exact h0
  | cons a q => exact h a (by simp)
/-- the weights of the first i hoppers of a set -/
def wIn (w : Weigher) (set i : Nat) : Nat := (((List.range i).filter fun j => contains set j).map fun j => (hopperAt w j).weight).sum
theorem wIn_succ (w : Weigher) (set i : Nat) : wIn w set (i + 1) = wIn w set i + if contains set i then (hopperAt w i).weight else 0 := by
  unfold wIn
  rw [List.range_succ, List.filter_append, List.map_append, List.sum_append]
  by_cases c : contains set i = true
  · simp [c]
  · simp [c]
theorem weightOf_eq (w : Weigher) (set : Nat) : Kp411.weightOf w set = wIn w set w.hoppers.length := rfl
theorem wsum_take_succ {l : List Hopper} {i : Nat} (h : i < l.length) : wsum (l.take (i + 1)) = wsum (l.take i) + (l.getD i ⟨0, 0⟩).weight := by
  unfold wsum
  rw [List.take_add_one, List.getElem?_eq_getElem h, List.map_append, List.sum_append, List.getD_eq_getElem?_getD, List.getElem?_eq_getElem h]
  simp
theorem ref_sum (w : Weigher) (set : Nat) : ∀ i, i ≤ w.hoppers.length → wsum (refUpTo w set i).1 + (refUpTo w set i).2.sum + wIn w set i = wsum (w.hoppers.take i) + w.queue.sum
  | 0, _ => by simp [refUpTo_zero, wsum, wIn]
  | i + 1, hi => by
    have ih := ref_sum w set i (by omega)
    have e1 := wsum_take_succ (l := w.hoppers) (i := i) (by omega)
    rw [refUpTo_succ, wIn_succ]
    unfold refStep
    have hd := headD_drop (refUpTo w set i).2
    have hw : (w.hoppers.getD i ⟨0, 0⟩).weight = (hopperAt w i).weight := rfl
    by_cases c : contains set i = true
    · simp only [c, if_true]
      have : wsum ((refUpTo w set i).1 ++ [⟨(refUpTo w set i).2.headD 0, 0⟩]) = wsum (refUpTo w set i).1 + (refUpTo w set i).2.headD 0 := by
        unfold wsum; simp
      omega
    · simp only [c]
      have : wsum ((refUpTo w set i).1 ++ [⟨(hopperAt w i).weight, if (hopperAt w i).weight = 0 then 0 else (hopperAt w i).age + 1⟩]) = wsum (refUpTo w set i).1 + (hopperAt w i).weight := by
        unfold wsum; simp
      simp only [Bool.false_eq_true, if_false]
      omega
theorem ref_hok (w : Weigher) (P : WPre w) (set : Nat) : ∀ i, i ≤ w.hoppers.length → (∀ h ∈ (refUpTo w set i).1, h.weight ≤ 300 ∧ (h.weight = 0 → h.age = 0)) ∧ (∀ x ∈ (refUpTo w set i).2, 1 ≤ x ∧ x ≤ 300) ∧ (refUpTo w set i).2.length ≤ w.queue.length
  | 0, _ => ⟨by simp [refUpTo_zero], by rw [refUpTo_zero]; exact P.qok, Nat.le_refl _⟩
  | i + 1, hi => by
    obtain ⟨ih1, ih2, ih3⟩ := ref_hok w P set i (by omega)
    rw [refUpTo_succ]
    unfold refStep
    by_cases c : contains set i = true
    · simp only [c, if_true]
      refine ⟨fun h m => ?_, fun x m => ih2 x (List.mem_of_mem_drop m), by rw [List.length_drop]; omega⟩
      rcases List.mem_append.mp m with m | m
      · exact ih1 h m
      · rw [List.mem_singleton] at m
        subst m
        exact ⟨mem_headD (P := fun x => x ≤ 300) (fun x m => (ih2 x m).2) (by decide), fun _ => rfl⟩
    · simp only [c]
      refine ⟨fun h m => ?_, ih2, ih3⟩
      rcases List.mem_append.mp m with m | m
      · exact ih1 h m
      · rw [List.mem_singleton] at m
        subst m
        have hm := P.hok _ (hopperAt_mem (w := w) (i := i) (by omega))
        exact ⟨hm.1, fun e => by dsimp only at e ⊢; rw [if_pos e]⟩
theorem inv_fill {w : Weigher} (I : WInv w) (set : Nat) : WInv (Kp411.fillBag w set) := by
  rw [fillBag_eq]
  obtain ⟨h1, h2, h3⟩ := ref_hok w I.toWPre set w.hoppers.length (Nat.le_refl _)
  have hl := refUpTo_len w set w.hoppers.length
  refine ⟨⟨?_, ?_, I.t1, I.t2, I.a9, h2, h1, ?_⟩, Nat.le_trans h3 I.q24⟩
  · show 1 ≤ (refUpTo w set w.hoppers.length).1.length
    rw [hl]; exact I.n1
  · show (refUpTo w set w.hoppers.length).1.length ≤ 8
    rw [hl]; exact I.n8
  · have hs := ref_sum w set w.hoppers.length (Nat.le_refl _)
    rw [List.take_length] at hs
    have hb := I.bal
    show w.received = w.packed + Kp411.weightOf w set + wsum (refUpTo w set w.hoppers.length).1 + (refUpTo w set w.hoppers.length).2.sum
    rw [weightOf_eq]
    omega
theorem inv_run : ∀ (k : Nat) {w : Weigher}, WInv w → WInv (Kp411.run w k)
  | 0, _, I => I
  | k + 1, w, I => by
    unfold Kp411.run
    split
    · exact I
    · exact inv_run k (inv_fill I _)

/-! ### every step -/
def SInv (s : Kp411.State) : Prop := ∀ w, s = some w → WInv w
theorem SInv.none : SInv none := fun _ h => by cases h
theorem SInv.some {w : Weigher} (I : WInv w) : SInv (some w) := fun _ h => by cases h; exact I
theorem wsum_replicate : ∀ n, wsum (List.replicate n ⟨0, 0⟩) = 0
  | 0 => rfl
  | n + 1 => by
    have := wsum_replicate n
    unfold wsum at *
    rw [List.replicate_succ, List.map_cons, List.sum_cons, this]
theorem inv_create {n t a : Nat} (h1 : 1 ≤ n) (h8 : n ≤ 8) (ht : 1 ≤ t ∧ t ≤ 999) (ha : a ≤ 9) : WInv ⟨List.replicate n ⟨0, 0⟩, t, a, [], 0, 0, 0⟩ := by
  refine ⟨⟨by simpa using h1, by simpa using h8, ht.1, ht.2, ha, by simp, fun h m => ?_, ?_⟩, by simp⟩
  · rw [List.eq_of_mem_replicate m]
    exact ⟨by decide, fun _ => rfl⟩
  · show 0 = 0 + wsum (List.replicate n ⟨0, 0⟩) + 0
    rw [wsum_replicate]
theorem sinv_step {s : Kp411.State} (I : SInv s) (c : Kp411.Call) : SInv (Kp411.step s c).1 := by
  cases s with
  | none =>
    cases c with
    | create n t a =>
      simp only [Kp411.step]
      split
      · exact SInv.none
      · rename_i h
        simp only [not_or] at h
        exact SInv.some (inv_create (by omega) (by have := h.2.1; unfold Kp411.maxHoppers at this; omega) (target_of (by simpa using h.2.2.1)) (by omega))
    | _ => exact SInv.none
  | some w =>
    have W : WInv w := I w rfl
    cases c with
    | create n t a =>
      simp only [Kp411.step]
      split
      · exact I
      · rename_i h
        simp only [not_or] at h
        exact SInv.some (inv_create (by omega) (by have := h.2.1; unfold Kp411.maxHoppers at this; omega) (target_of (by simpa using h.2.2.1)) (by omega))
    | addPortion x =>
      simp only [Kp411.step]
      split
      · exact I
      · rename_i h
        split
        · exact I
        · rename_i h2
          have v := valid_of (by simpa using h)
          refine SInv.some ⟨pre_add W.toWPre v.1 v.2, ?_⟩
          have := add_queue w x
          unfold Kp411.maxQueue at h2
          omega
    | addPortions l =>
      simp only [Kp411.step]
      split
      · exact I
      · rename_i h
        split
        · exact I
        · rename_i h2
          simp only [not_or] at h
          have hv : l.all Kp411.validPortion = true := by simpa using h.2
          refine SInv.some ⟨pre_adds W.toWPre fun x m => valid_of (List.all_eq_true.mp hv x m), ?_⟩
          unfold Kp411.maxQueue at h2
          omega
    | setTarget t =>
      simp only [Kp411.step]
      split
      · rename_i h
        have v := target_of h
        exact SInv.some ⟨⟨W.n1, W.n8, v.1, v.2, W.a9, W.qok, W.hok, W.bal⟩, W.q24⟩
      · exact I
    | setMaxAge a =>
      simp only [Kp411.step]
      split
      · exact I
      · exact SInv.some ⟨⟨W.n1, W.n8, W.t1, W.t2, by show a ≤ 9; omega, W.qok, W.hok, W.bal⟩, W.q24⟩
    | fillBag set =>
      simp only [Kp411.step]
      split
      · exact I
      · split
        · exact SInv.some (inv_fill W set)
        · exact I
    | fillBestBag =>
      simp only [Kp411.step]
      split
      · exact I
      · exact SInv.some (inv_fill W _)
    | run b =>
      simp only [Kp411.step]
      split
      · exact SInv.some (inv_run b W)
      · exact I
    | discard i =>
      simp only [Kp411.step]
      split
      · exact I
      · split
        · exact I
        · rename_i h1 h2
          have hi : i < w.hoppers.length := by omega
          have q := wsum_set hi ⟨0, 0⟩
          have hw : (w.hoppers.getD i ⟨0, 0⟩).weight = (hopperAt w i).weight := rfl
          have b := W.bal
          refine SInv.some ⟨⟨by simpa using W.n1, by simpa using W.n8, W.t1, W.t2, W.a9, W.qok, fun h m => ?_, ?_⟩, W.q24⟩
          · rcases mem_set m with m | rfl
            · exact W.hok h m
            · exact ⟨by decide, fun _ => rfl⟩
          · show w.received - (hopperAt w i).weight = w.packed + wsum (w.hoppers.set i ⟨0, 0⟩) + w.queue.sum
            dsimp only at q
            omega
    | _ => exact I
end HP

/-! Searches and counts over the hoppers. Plain Lean. -/
namespace HP
open Kp411 (Weigher Hopper hopperAt contains)

theorem find_range {p : Nat → Bool} {n i : Nat} (hi : i < n) (h : p i = true) (hb : ∀ j, j < i → p j = false) : (List.range n).find? p = some i := by
  rw [List.find?_range_eq_some]
  exact ⟨h, List.mem_range.mpr hi, fun j hj => by simp [hb j hj]⟩
theorem find_range_none {p : Nat → Bool} {n : Nat} (hb : ∀ j, j < n → p j = false) : (List.range n).find? p = none := by
  rw [List.find?_eq_none]
  intro x m
  rw [hb x (List.mem_range.mp m)]
  decide
def emptyAt (w : Weigher) (i : Nat) : Bool := (hopperAt w i).weight == 0
def firstEmpty (w : Weigher) : Option Nat := (List.range w.hoppers.length).find? (emptyAt w)
theorem addPortion_some {w : Weigher} {i x : Nat} (h : firstEmpty w = some i) : Kp411.addPortion w x = { w with hoppers := w.hoppers.set i ⟨x, 0⟩, received := w.received + x } := by
  unfold firstEmpty emptyAt at h
  unfold Kp411.addPortion
  rw [h]
theorem addPortion_none {w : Weigher} {x : Nat} (h : firstEmpty w = none) : Kp411.addPortion w x = { w with queue := w.queue ++ [x], received := w.received + x } := by
  unfold firstEmpty emptyAt at h
  unfold Kp411.addPortion
  rw [h]
def empties (l : List Hopper) : Nat := (l.filter fun h => h.weight == 0).length
theorem empties_set : ∀ {l : List Hopper} {i : Nat} (_ : i < l.length) (_ : (l.getD i ⟨0, 0⟩).weight = 0) {h : Hopper} (_ : h.weight ≠ 0), empties (l.set i h) + 1 = empties l
  | a :: l, 0, _, hz, h, hn => by
    have hz : a.weight = 0 := by simpa using hz
    simp [empties, hz, hn]
  | a :: l, i + 1, hi, hz, h, hn => by
    have ih := empties_set (l := l) (i := i) (by simpa using hi) (by simpa using hz) hn
    unfold empties at *
    rw [List.set_cons_succ]
    by_cases c : a.weight = 0
    · simp [c]; omega
    · simp [c]; omega
theorem empties_zero {w : Weigher} (h : firstEmpty w = none) : empties w.hoppers = 0 := by
  unfold firstEmpty at h
  rw [List.find?_eq_none] at h
  unfold empties
  rw [List.length_eq_zero_iff, List.filter_eq_nil_iff]
  intro x m
  obtain ⟨j, hj, rfl⟩ := List.mem_iff_getElem.mp m
  have q := h j (List.mem_range.mpr hj)
  unfold emptyAt at q
  rw [hopperAt_of hj] at q
  exact q
theorem queue_after : ∀ {l : List Nat} {w : Weigher} (_ : ∀ x ∈ l, 1 ≤ x), (l.foldl Kp411.addPortion w).queue.length = w.queue.length + (l.length - empties w.hoppers)
  | [], _, _ => by simp
  | x :: l, w, h => by
    rw [List.foldl_cons, queue_after fun y m => h y (by simp [m])]
    cases e : firstEmpty w with
    | none =>
      rw [addPortion_none e]
      have := empties_zero e
      simp only [List.length_append, List.length_cons, List.length_nil]
      omega
    | some i =>
      rw [addPortion_some e]
      obtain ⟨hi, hz⟩ := found (w := w) (i := i) e
      have hx := h x (by simp)
      have := empties_set (l := w.hoppers) hi hz (h := ⟨x, 0⟩) (by show x ≠ 0; omega)
      simp only [List.length_cons]
      omega
/-- the counting comprehension, as far as the first i hoppers -/
theorem empties_take_succ {l : List Hopper} {i : Nat} {h : Hopper} (e : l[i]? = some h) : empties (l.take (i + 1)) = empties (l.take i) + if h.weight == 0 then 1 else 0 := by
  unfold empties
  rw [List.take_add_one, e, List.filter_append, List.length_append]
  by_cases c : h.weight = 0
  · simp [c]
  · simp [c]
/-- a hopper's being due, by its own -/
def dueH (w : Weigher) (h : Hopper) : Bool := w.maxAge != 0 && h.weight != 0 && decide (w.maxAge ≤ h.age)
theorem isDue_eq (w : Weigher) (i : Nat) : Kp411.isDue w i = dueH w (hopperAt w i) := rfl
def fillsB (w : Weigher) (m : Nat) : Bool := decide (w.target ≤ Kp411.weightOf w m) && (Kp411.dueHoppers w).all fun i => contains m i
theorem canFill_eq {w : Weigher} {m : Nat} (h : m < 2 ^ w.hoppers.length) : Kp411.canFill w m = fillsB w m := by
  unfold Kp411.canFill fillsB
  rw [decide_eq_true h, Bool.true_and]
/-- a filter over a range, one more -/
theorem filter_range_succ (p : Nat → Bool) (i : Nat) : (List.range (i + 1)).filter p = (List.range i).filter p ++ if p i then [i] else [] := by
  rw [List.range_succ, List.filter_append]
  by_cases c : p i = true <;> simp [c]
theorem length_filter_range (p : Nat → Bool) : ∀ i, ((List.range i).filter p).length ≤ i := fun i => by
  have := List.length_filter_le p (List.range i)
  rw [List.length_range] at this
  exact this
end HP

/-! What a call that is asked looks like, by its number. Plain Lean. -/
namespace HP
open Kp411Neutral (asked1 callOf natural)

theorem natural_of {z : Int} (h : natural z = true) : ∃ n : Nat, z = (n : Int) ∧ n < 4294967296 := by
  unfold Kp411Neutral.natural at h
  rw [Bool.and_eq_true] at h
  have h1 := of_decide_eq_true h.1
  have h2 := of_decide_eq_true h.2
  exact ⟨z.toNat, by omega, by omega⟩
theorem naturals_of : ∀ {l : List Int}, l.all natural = true → ∃ ns : List Nat, l = ns.map (fun (n : Nat) => (n : Int)) ∧ ∀ n ∈ ns, n < 4294967296
  | [], _ => ⟨[], rfl, by simp⟩
  | z :: l, h => by
    rw [List.all_cons, Bool.and_eq_true] at h
    obtain ⟨n, rfl, hn⟩ := natural_of h.1
    obtain ⟨ns, rfl, hs⟩ := naturals_of h.2
    exact ⟨n :: ns, rfl, fun m hm => by
      rcases List.mem_cons.mp hm with rfl | hm
      · exact hn
      · exact hs m hm⟩
theorem map_toNat (ns : List Nat) : (ns.map (fun (n : Nat) => (n : Int))).map Int.toNat = ns := by
  rw [List.map_map]
  have : (Int.toNat ∘ fun (n : Nat) => (n : Int)) = id := by funext n; simp
  rw [this, List.map_id]

theorem ask0 {ns : List Int} (h : asked1 [0 :: ns] = true) : ∃ a b c : Nat, ns = [(a : Int), (b : Int), (c : Int)] ∧ callOf [0 :: ns] = some (.create a b c) := by
  match ns, h with
  | [x, y, z], h =>
    have h : (natural x && (natural y && natural z)) = true := h
    rw [Bool.and_eq_true, Bool.and_eq_true] at h
    obtain ⟨a, rfl, _⟩ := natural_of h.1
    obtain ⟨b, rfl, _⟩ := natural_of h.2.1
    obtain ⟨c, rfl, _⟩ := natural_of h.2.2
    exact ⟨a, b, c, rfl, by simp [callOf]⟩
  | [], h => simp [asked1] at h
  | [_], h => simp [asked1] at h
  | [_, _], h => simp [asked1] at h
  | _ :: _ :: _ :: _ :: _, h => simp [asked1] at h
theorem ask2 {ns : List Int} (h : asked1 [2 :: ns] = true) : ∃ l : List Nat, ns = l.map (fun (n : Nat) => (n : Int)) ∧ l.length ≤ 30 ∧ callOf [2 :: ns] = some (.addPortions l) := by
  have h : (ns.all natural && decide (ns.length ≤ 30)) = true := by
    unfold asked1 at h
    split at h <;> simp_all
  rw [Bool.and_eq_true] at h
  obtain ⟨l, rfl, _⟩ := naturals_of h.1
  refine ⟨l, rfl, by simpa using of_decide_eq_true h.2, ?_⟩
  have e : callOf [2 :: l.map (fun (n : Nat) => (n : Int))] = some (.addPortions ((l.map (fun (n : Nat) => (n : Int))).map Int.toNat)) := by
    unfold callOf
    split <;> simp_all
  rw [e, map_toNat]
theorem ask1 {ns : List Int} (h : asked1 [1 :: ns] = true) : ∃ a : Nat, ns = [(a : Int)] ∧ callOf [1 :: ns] = some (.addPortion a) := by
  match ns, h with
  | [x], h =>
    have h : natural x = true := h
    obtain ⟨a, rfl, _⟩ := natural_of h
    exact ⟨a, rfl, by simp [callOf]⟩
  | [], h => simp [asked1] at h
  | _ :: _ :: _, h => simp [asked1] at h
theorem ask3 {ns : List Int} (h : asked1 [3 :: ns] = true) : ∃ a : Nat, ns = [(a : Int)] ∧ callOf [3 :: ns] = some (.setTarget a) := by
  match ns, h with
  | [x], h =>
    have h : natural x = true := h
    obtain ⟨a, rfl, _⟩ := natural_of h
    exact ⟨a, rfl, by simp [callOf]⟩
  | [], h => simp [asked1] at h
  | _ :: _ :: _, h => simp [asked1] at h
theorem ask4 {ns : List Int} (h : asked1 [4 :: ns] = true) : ∃ a : Nat, ns = [(a : Int)] ∧ callOf [4 :: ns] = some (.setMaxAge a) := by
  match ns, h with
  | [x], h =>
    have h : natural x = true := h
    obtain ⟨a, rfl, _⟩ := natural_of h
    exact ⟨a, rfl, by simp [callOf]⟩
  | [], h => simp [asked1] at h
  | _ :: _ :: _, h => simp [asked1] at h
theorem ask8 {ns : List Int} (h : asked1 [8 :: ns] = true) : ∃ a : Nat, ns = [(a : Int)] ∧ callOf [8 :: ns] = some (.weightOf a) := by
  match ns, h with
  | [x], h =>
    have h : natural x = true := h
    obtain ⟨a, rfl, _⟩ := natural_of h
    exact ⟨a, rfl, by simp [callOf]⟩
  | [], h => simp [asked1] at h
  | _ :: _ :: _, h => simp [asked1] at h
theorem ask9 {ns : List Int} (h : asked1 [9 :: ns] = true) : ∃ a : Nat, ns = [(a : Int)] ∧ callOf [9 :: ns] = some (.canFill a) := by
  match ns, h with
  | [x], h =>
    have h : natural x = true := h
    obtain ⟨a, rfl, _⟩ := natural_of h
    exact ⟨a, rfl, by simp [callOf]⟩
  | [], h => simp [asked1] at h
  | _ :: _ :: _, h => simp [asked1] at h
theorem ask13 {ns : List Int} (h : asked1 [13 :: ns] = true) : ∃ a : Nat, ns = [(a : Int)] ∧ callOf [13 :: ns] = some (.fillBag a) := by
  match ns, h with
  | [x], h =>
    have h : natural x = true := h
    obtain ⟨a, rfl, _⟩ := natural_of h
    exact ⟨a, rfl, by simp [callOf]⟩
  | [], h => simp [asked1] at h
  | _ :: _ :: _, h => simp [asked1] at h
theorem ask15 {ns : List Int} (h : asked1 [15 :: ns] = true) : ∃ a : Nat, ns = [(a : Int)] ∧ callOf [15 :: ns] = some (.run a) := by
  match ns, h with
  | [x], h =>
    have h : natural x = true := h
    obtain ⟨a, rfl, _⟩ := natural_of h
    exact ⟨a, rfl, by simp [callOf]⟩
  | [], h => simp [asked1] at h
  | _ :: _ :: _, h => simp [asked1] at h
theorem ask16 {ns : List Int} (h : asked1 [16 :: ns] = true) : ∃ a : Nat, ns = [(a : Int)] ∧ callOf [16 :: ns] = some (.bestSetForTarget a) := by
  match ns, h with
  | [x], h =>
    have h : natural x = true := h
    obtain ⟨a, rfl, _⟩ := natural_of h
    exact ⟨a, rfl, by simp [callOf]⟩
  | [], h => simp [asked1] at h
  | _ :: _ :: _, h => simp [asked1] at h
theorem ask17 {ns : List Int} (h : asked1 [17 :: ns] = true) : ∃ a : Nat, ns = [(a : Int)] ∧ callOf [17 :: ns] = some (.previewRun a) := by
  match ns, h with
  | [x], h =>
    have h : natural x = true := h
    obtain ⟨a, rfl, _⟩ := natural_of h
    exact ⟨a, rfl, by simp [callOf]⟩
  | [], h => simp [asked1] at h
  | _ :: _ :: _, h => simp [asked1] at h
theorem ask20 {ns : List Int} (h : asked1 [20 :: ns] = true) : ∃ a : Nat, ns = [(a : Int)] ∧ callOf [20 :: ns] = some (.discard a) := by
  match ns, h with
  | [x], h =>
    have h : natural x = true := h
    obtain ⟨a, rfl, _⟩ := natural_of h
    exact ⟨a, rfl, by simp [callOf]⟩
  | [], h => simp [asked1] at h
  | _ :: _ :: _, h => simp [asked1] at h
theorem ask5 {ns : List Int} (h : asked1 [5 :: ns] = true) : ns = [] ∧ callOf [5 :: ns] = some .getHoppers := by
  match ns, h with
  | [], h => exact ⟨rfl, by simp [callOf]⟩
  | _ :: _, h => simp [asked1] at h
theorem ask6 {ns : List Int} (h : asked1 [6 :: ns] = true) : ns = [] ∧ callOf [6 :: ns] = some .getQueue := by
  match ns, h with
  | [], h => exact ⟨rfl, by simp [callOf]⟩
  | _ :: _, h => simp [asked1] at h
theorem ask7 {ns : List Int} (h : asked1 [7 :: ns] = true) : ns = [] ∧ callOf [7 :: ns] = some .dueHoppers := by
  match ns, h with
  | [], h => exact ⟨rfl, by simp [callOf]⟩
  | _ :: _, h => simp [asked1] at h
theorem ask10 {ns : List Int} (h : asked1 [10 :: ns] = true) : ns = [] ∧ callOf [10 :: ns] = some .fillingSetCount := by
  match ns, h with
  | [], h => exact ⟨rfl, by simp [callOf]⟩
  | _ :: _, h => simp [asked1] at h
theorem ask11 {ns : List Int} (h : asked1 [11 :: ns] = true) : ns = [] ∧ callOf [11 :: ns] = some .bestSet := by
  match ns, h with
  | [], h => exact ⟨rfl, by simp [callOf]⟩
  | _ :: _, h => simp [asked1] at h
theorem ask12 {ns : List Int} (h : asked1 [12 :: ns] = true) : ns = [] ∧ callOf [12 :: ns] = some .greedySet := by
  match ns, h with
  | [], h => exact ⟨rfl, by simp [callOf]⟩
  | _ :: _, h => simp [asked1] at h
theorem ask14 {ns : List Int} (h : asked1 [14 :: ns] = true) : ns = [] ∧ callOf [14 :: ns] = some .fillBestBag := by
  match ns, h with
  | [], h => exact ⟨rfl, by simp [callOf]⟩
  | _ :: _, h => simp [asked1] at h
theorem ask18 {ns : List Int} (h : asked1 [18 :: ns] = true) : ns = [] ∧ callOf [18 :: ns] = some .reachableWeights := by
  match ns, h with
  | [], h => exact ⟨rfl, by simp [callOf]⟩
  | _ :: _, h => simp [asked1] at h
theorem ask19 {ns : List Int} (h : asked1 [19 :: ns] = true) : ns = [] ∧ callOf [19 :: ns] = some .totals := by
  match ns, h with
  | [], h => exact ⟨rfl, by simp [callOf]⟩
  | _ :: _, h => simp [asked1] at h
/-- the number of a call that is asked -/
theorem ask_range {k : Int} {ns : List Int} (h : asked1 [k :: ns] = true) : 0 ≤ k ∧ k ≤ 20 := by
  unfold asked1 at h
  split at h <;> simp_all
theorem ask_call {k : Int} {ns : List Int} (h : asked1 [k :: ns] = true) : ∃ x, callOf [k :: ns] = some x := by
  obtain ⟨h0, h1⟩ := ask_range h
  obtain ⟨j, rfl⟩ : ∃ j : Nat, k = (j : Int) := ⟨k.toNat, by omega⟩
  have hj : j ≤ 20 := by omega
  match j, hj, h with
  | 0, _, h => obtain ⟨a, b, c, _, e⟩ := ask0 h; exact ⟨_, e⟩
  | 1, _, h => obtain ⟨a, _, e⟩ := ask1 h; exact ⟨_, e⟩
  | 2, _, h => obtain ⟨l, _, _, e⟩ := ask2 h; exact ⟨_, e⟩
  | 3, _, h => obtain ⟨a, _, e⟩ := ask3 h; exact ⟨_, e⟩
  | 4, _, h => obtain ⟨a, _, e⟩ := ask4 h; exact ⟨_, e⟩
  | 5, _, h => exact ⟨_, (ask5 h).2⟩
  | 6, _, h => exact ⟨_, (ask6 h).2⟩
  | 7, _, h => exact ⟨_, (ask7 h).2⟩
  | 8, _, h => obtain ⟨a, _, e⟩ := ask8 h; exact ⟨_, e⟩
  | 9, _, h => obtain ⟨a, _, e⟩ := ask9 h; exact ⟨_, e⟩
  | 10, _, h => exact ⟨_, (ask10 h).2⟩
  | 11, _, h => exact ⟨_, (ask11 h).2⟩
  | 12, _, h => exact ⟨_, (ask12 h).2⟩
  | 13, _, h => obtain ⟨a, _, e⟩ := ask13 h; exact ⟨_, e⟩
  | 14, _, h => exact ⟨_, (ask14 h).2⟩
  | 15, _, h => obtain ⟨a, _, e⟩ := ask15 h; exact ⟨_, e⟩
  | 16, _, h => obtain ⟨a, _, e⟩ := ask16 h; exact ⟨_, e⟩
  | 17, _, h => obtain ⟨a, _, e⟩ := ask17 h; exact ⟨_, e⟩
  | 18, _, h => exact ⟨_, (ask18 h).2⟩
  | 19, _, h => exact ⟨_, (ask19 h).2⟩
  | 20, _, h => obtain ⟨a, _, e⟩ := ask20 h; exact ⟨_, e⟩
end HP

/-! The best set, the greedy set, runs and reachable weights, in forms that a program's loops give. Plain Lean. -/
namespace HP
open Kp411 (Weigher Hopper hopperAt weightOf members fillingSets)

/-! ### the best set -/
def cnt (w : Weigher) (m : Nat) : Nat := (members w m).length
/-- a weighs less than b, or the same with fewer hoppers -/
def better (w : Weigher) (a b : Nat) : Prop := weightOf w a < weightOf w b ∨ (weightOf w a = weightOf w b ∧ cnt w a < cnt w b)
instance (w : Weigher) (a b : Nat) : Decidable (better w a b) := by unfold better; infer_instance
def bestStep (w : Weigher) (best : Option Nat) (set : Nat) : Option Nat := match best with
  | none => some set
  | some b => if better w set b then some set else best
theorem bestSet_eq (w : Weigher) : Kp411.bestSet w = (fillingSets w).foldl (bestStep w) none := rfl
/-- over the masks below i that fill -/
def bestUpTo (w : Weigher) (i : Nat) : Option Nat := ((List.range i).filter (fillsB w)).foldl (bestStep w) none
theorem bestUpTo_zero (w : Weigher) : bestUpTo w 0 = none := rfl
theorem bestUpTo_succ (w : Weigher) (i : Nat) : bestUpTo w (i + 1) = if fillsB w i then bestStep w (bestUpTo w i) i else bestUpTo w i := by
  unfold bestUpTo
  rw [filter_range_succ, List.foldl_append]
  by_cases c : fillsB w i = true
  · simp [c]
  · simp [c]
theorem fillingSets_eq (w : Weigher) : fillingSets w = (List.range (2 ^ w.hoppers.length)).filter (fillsB w) := by
  unfold Kp411.fillingSets
  exact List.filter_congr fun i m => canFill_eq (List.mem_range.mp m)
theorem bestSet_upTo (w : Weigher) : Kp411.bestSet w = bestUpTo w (2 ^ w.hoppers.length) := by
  rw [bestSet_eq, fillingSets_eq]
  rfl
/-- what the fold keeps: the first of the best -/
theorem bestUpTo_spec (w : Weigher) : ∀ i, match bestUpTo w i with
    | none => ∀ j, j < i → fillsB w j = false
    | some b => b < i ∧ fillsB w b = true ∧ (∀ j, j < i → fillsB w j = true → ¬ better w j b) ∧ ∀ j, j < b → fillsB w j = true → better w b j
  | 0 => by rw [bestUpTo_zero]; exact fun j h => absurd h (Nat.not_lt_zero _)
  | i + 1 => by
    have ih := bestUpTo_spec w i
    rw [bestUpTo_succ]
    by_cases c : fillsB w i = true
    · rw [if_pos c]
      cases e : bestUpTo w i with
      | none =>
        rw [e] at ih
        refine ⟨Nat.lt_succ_self _, c, fun j hj hf => ?_, fun j hj hf => ?_⟩
        · by_cases q : j = i
          · subst q
            unfold better; omega
          · exact absurd hf (by rw [ih j (by omega)]; decide)
        · exact absurd hf (by rw [ih j hj]; decide)
      | some b =>
        rw [e] at ih
        obtain ⟨h1, h2, h3, h4⟩ := ih
        show match (if better w i b then some i else some b) with | none => _ | some b => _
        by_cases d : better w i b
        · rw [if_pos d]
          refine ⟨Nat.lt_succ_self _, c, fun j hj hf => ?_, fun j hj hf => ?_⟩
          · by_cases q : j = i
            · subst q
              unfold better; omega
            · have := h3 j (by omega) hf
              unfold better at *; omega
          · have := h3 j hj hf
            unfold better at *; omega
        · rw [if_neg d]
          refine ⟨Nat.lt_succ_of_lt h1, h2, fun j hj hf => ?_, h4⟩
          by_cases q : j = i
          · subst q; exact d
          · exact h3 j (by omega) hf
    · rw [if_neg c]
      have c' := eq_false_of_ne_true c
      cases e : bestUpTo w i with
      | none =>
        rw [e] at ih
        intro j hj
        by_cases q : j = i
        · subst q; exact c'
        · exact ih j (by omega)
      | some b =>
        rw [e] at ih
        obtain ⟨h1, h2, h3, h4⟩ := ih
        refine ⟨Nat.lt_succ_of_lt h1, h2, fun j hj hf => ?_, h4⟩
        by_cases q : j = i
        · subst q; exact absurd hf c
        · exact h3 j (by omega) hf
theorem best_none {w : Weigher} (h : Kp411.bestSet w = none) {m : Nat} (hm : m < 2 ^ w.hoppers.length) : fillsB w m = false := by
  have q := bestUpTo_spec w (2 ^ w.hoppers.length)
  rw [← bestSet_upTo, h] at q
  exact q m hm
theorem best_some {w : Weigher} {b : Nat} (h : Kp411.bestSet w = some b) : b < 2 ^ w.hoppers.length ∧ fillsB w b = true ∧ (∀ j, j < 2 ^ w.hoppers.length → fillsB w j = true → ¬ better w j b) ∧ ∀ j, j < b → fillsB w j = true → better w b j := by
  have q := bestUpTo_spec w (2 ^ w.hoppers.length)
  rw [← bestSet_upTo, h] at q
  exact q
/-- what is the first of the best is the best set -/
theorem best_is {w : Weigher} {b : Nat} (hb : b < 2 ^ w.hoppers.length) (hf : fillsB w b = true) (h1 : ∀ j, j < 2 ^ w.hoppers.length → fillsB w j = true → ¬ better w j b) (h2 : ∀ j, j < b → fillsB w j = true → better w b j) : Kp411.bestSet w = some b := by
  cases e : Kp411.bestSet w with
  | none => exact absurd hf (by rw [best_none e hb]; decide)
  | some c =>
    obtain ⟨q1, q2, q3, q4⟩ := best_some e
    have e1 : ¬ c < b := fun q => h1 c q1 q2 |> fun n => by
      have := h2 c q q2
      have := q3 b hb hf
      contradiction
    have e2 : ¬ b < c := fun q => by
      have := q4 b q hf
      have := h1 c q1 q2
      contradiction
    have : c = b := by omega
    rw [this]
theorem best_weight {w : Weigher} {b : Nat} (h : Kp411.bestSet w = some b) : w.target ≤ weightOf w b := by
  have q := (best_some h).2.1
  unfold fillsB at q
  rw [Bool.and_eq_true] at q
  exact of_decide_eq_true q.1
theorem best_lt {w : Weigher} {b : Nat} (h : Kp411.bestSet w = some b) : b < 2 ^ w.hoppers.length := (best_some h).1

/-! ### runs -/
theorem fill_target (w : Weigher) (s : Nat) : (Kp411.fillBag w s).target = w.target := rfl
theorem fill_bags (w : Weigher) (s : Nat) : (Kp411.fillBag w s).bagCount = w.bagCount + 1 := rfl
theorem fill_packed (w : Weigher) (s : Nat) : (Kp411.fillBag w s).packed = w.packed + weightOf w s := rfl
theorem run_zero (w : Weigher) : Kp411.run w 0 = w := rfl
theorem run_none {w : Weigher} (h : Kp411.bestSet w = none) : ∀ k, Kp411.run w k = w
  | 0 => rfl
  | k + 1 => by unfold Kp411.run; rw [h]
theorem run_some {w : Weigher} {s : Nat} (h : Kp411.bestSet w = some s) (k : Nat) : Kp411.run w (k + 1) = Kp411.run (Kp411.fillBag w s) k := by
  conv => lhs; unfold Kp411.run
  rw [h]
/-- one bag more, at the end -/
theorem run_succ : ∀ (k : Nat) (w : Weigher), Kp411.run w (k + 1) = match Kp411.bestSet (Kp411.run w k) with
    | none => Kp411.run w k
    | some s => Kp411.fillBag (Kp411.run w k) s
  | 0, w => by
    rw [run_zero]
    cases h : Kp411.bestSet w with
    | none => rw [run_none h]
    | some s => rw [run_some h]; rfl
  | k + 1, w => by
    cases h : Kp411.bestSet w with
    | none => rw [run_none h, run_none h, h]
    | some s => rw [run_some h, run_succ k, run_some h]
theorem run_stop {w : Weigher} {j : Nat} (h : Kp411.bestSet (Kp411.run w j) = none) : ∀ {k : Nat}, j ≤ k → Kp411.run w k = Kp411.run w j
  | 0, hk => by rw [Nat.le_zero.mp hk]
  | k + 1, hk => by
    by_cases q : j = k + 1
    · rw [q]
    · have ih := run_stop h (k := k) (by omega)
      rw [run_succ, ih, h]
/-- behind j bags that were all filled: how much more was packed than the target asks -/
structure Ran (w : Weigher) (j excess : Nat) : Prop where
  bags : (Kp411.run w j).bagCount = w.bagCount + j
  pack : (Kp411.run w j).packed = w.packed + j * w.target + excess
  targ : (Kp411.run w j).target = w.target
theorem Ran.zero (w : Weigher) : Ran w 0 0 := ⟨rfl, by rw [run_zero]; omega, rfl⟩
theorem Ran.succ {w : Weigher} {j x s : Nat} (R : Ran w j x) (h : Kp411.bestSet (Kp411.run w j) = some s) : Ran w (j + 1) (x + (weightOf (Kp411.run w j) s - w.target)) ∧ Kp411.run w (j + 1) = Kp411.fillBag (Kp411.run w j) s := by
  have e : Kp411.run w (j + 1) = Kp411.fillBag (Kp411.run w j) s := by rw [run_succ, h]
  have hw := best_weight h
  rw [R.targ] at hw
  refine ⟨⟨?_, ?_, ?_⟩, e⟩
  · rw [e, fill_bags, R.bags]; omega
  · rw [e, fill_packed, R.pack, Nat.add_mul]; omega
  · rw [e, fill_target, R.targ]
theorem Ran.result {w : Weigher} {j x : Nat} (R : Ran w j x) : Kp411.runResult w (Kp411.run w j) = Kp411.natResult j [x] := by
  have h1 : (Kp411.run w j).bagCount - w.bagCount = j := by rw [R.bags]; omega
  have h2 : (Kp411.run w j).packed - w.packed - j * w.target = x := by rw [R.pack]; omega
  unfold Kp411.runResult
  rw [h1, h2]
theorem run_hoppers (w : Weigher) : ∀ k, (Kp411.run w k).hoppers.length = w.hoppers.length
  | 0 => rfl
  | k + 1 => by
    rw [run_succ]
    split
    · exact run_hoppers w k
    · rw [fillBag_eq]
      show (refUpTo _ _ _).1.length = _
      rw [refUpTo_len]
      exact run_hoppers w k

/-! ### reachable weights -/
theorem eraseDups_snoc (l : List Nat) (x : Nat) : (l ++ [x]).eraseDups = l.eraseDups ++ if x ∈ l then [] else [x] := by
  rw [List.eraseDups_append]
  congr 1
  unfold List.removeAll
  by_cases c : x ∈ l
  · simp [c]
  · simp only [c, if_false]
    have e : [x].filter (fun y => !l.elem y) = [x] := by simp [c]
    rw [e, List.eraseDups_cons]
    rfl
def reachP (w : Weigher) (x : Nat) : Bool := decide (w.target ≤ x) && decide (x < w.target + 20)
/-- over the masks below i -/
def reachUpTo (w : Weigher) (i : Nat) : List Nat := (((List.range i).map (weightOf w)).eraseDups).filter (reachP w)
theorem reachUpTo_zero (w : Weigher) : reachUpTo w 0 = [] := rfl
theorem mem_eraseDups {l : List Nat} {x : Nat} : x ∈ l.eraseDups ↔ x ∈ l := List.mem_eraseDups
theorem reach_mem (w : Weigher) (i x : Nat) : x ∈ reachUpTo w i ↔ x ∈ (List.range i).map (weightOf w) ∧ reachP w x = true := by
  unfold reachUpTo
  rw [List.mem_filter, mem_eraseDups]
theorem reachUpTo_succ (w : Weigher) (i : Nat) : reachUpTo w (i + 1) = reachUpTo w i ++ if reachP w (weightOf w i) = true ∧ weightOf w i ∉ reachUpTo w i then [weightOf w i] else [] := by
  by_cases p : reachP w (weightOf w i) = true
  · have q : (weightOf w i ∉ reachUpTo w i) ↔ weightOf w i ∉ (List.range i).map (weightOf w) := by
      rw [reach_mem]
      constructor
      · exact fun h m => h ⟨m, p⟩
      · exact fun h m => h m.1
    unfold reachUpTo
    rw [List.range_succ, List.map_append, List.map_cons, List.map_nil, eraseDups_snoc, List.filter_append]
    congr 1
    by_cases c : weightOf w i ∈ (List.range i).map (weightOf w)
    · rw [if_pos c, if_neg (fun h => q.mp h.2 c)]; rfl
    · rw [if_neg c, if_pos ⟨p, q.mpr c⟩]
      simp [p]
  · rw [if_neg (fun h => p h.1), List.append_nil]
    unfold reachUpTo
    rw [List.range_succ, List.map_append, List.map_cons, List.map_nil, eraseDups_snoc, List.filter_append]
    have : (if weightOf w i ∈ (List.range i).map (weightOf w) then [] else [weightOf w i]).filter (reachP w) = [] := by
      split <;> simp [p]
    rw [this, List.append_nil]
theorem reach_eq (w : Weigher) : (((List.range (2 ^ w.hoppers.length)).map (weightOf w)).eraseDups.filter fun x => decide (w.target ≤ x) && decide (x < w.target + 20)) = reachUpTo w (2 ^ w.hoppers.length) := rfl
theorem reach_len (w : Weigher) : ∀ i, (reachUpTo w i).length ≤ i
  | 0 => Nat.le_refl _
  | i + 1 => by
    rw [reachUpTo_succ, List.length_append]
    have := reach_len w i
    split <;> simp <;> omega

/-! ### the greedy set -/
/-- i goes ahead of j: heavier, or as heavy with the smaller number -/
def ahead (w : Weigher) (i j : Nat) : Prop := (hopperAt w j).weight < (hopperAt w i).weight ∨ ((hopperAt w j).weight = (hopperAt w i).weight ∧ i < j)
theorem ahead_asymm {w : Weigher} {i j : Nat} (h : ahead w i j) : ¬ ahead w j i := by unfold ahead at *; omega
theorem ahead_trans {w : Weigher} {i j k : Nat} (h : ahead w i j) (h' : ahead w j k) : ahead w i k := by unfold ahead at *; omega
theorem ahead_total {w : Weigher} {i j : Nat} (h : i ≠ j) : ahead w i j ∨ ahead w j i := by unfold ahead at *; omega
theorem insert_mem (w : Weigher) (i : Nat) : ∀ (l : List Nat) (x : Nat), x ∈ Kp411.insertByWeight w i l ↔ x = i ∨ x ∈ l
  | [], x => by simp [Kp411.insertByWeight]
  | j :: l, x => by
    unfold Kp411.insertByWeight
    split
    · simp
    · rw [List.mem_cons, insert_mem w i l x, List.mem_cons]
      constructor
      · rintro (h | h | h)
        · exact .inr (.inl h)
        · exact .inl h
        · exact .inr (.inr h)
      · rintro (h | h | h)
        · exact .inr (.inl h)
        · exact .inl h
        · exact .inr (.inr h)
theorem insert_sorted {w : Weigher} {i : Nat} : ∀ {l : List Nat}, l.Pairwise (ahead w) → (∀ x ∈ l, i < x) → (Kp411.insertByWeight w i l).Pairwise (ahead w)
  | [], _, _ => by simp [Kp411.insertByWeight]
  | j :: l, h, hi => by
    rw [List.pairwise_cons] at h
    unfold Kp411.insertByWeight
    split
    · rename_i c
      have hij : ahead w i j := by
        have := hi j (by simp)
        unfold ahead; omega
      rw [List.pairwise_cons]
      refine ⟨fun x hx => ?_, List.pairwise_cons.mpr h⟩
      rcases List.mem_cons.mp hx with rfl | hx
      · exact hij
      · exact ahead_trans hij (h.1 x hx)
    · rename_i c
      rw [List.pairwise_cons]
      refine ⟨fun x hx => ?_, insert_sorted h.2 fun x hx => hi x (by simp [hx])⟩
      rcases (insert_mem w i l x).mp hx with rfl | hx
      · unfold ahead; omega
      · exact h.1 x hx
/-- a list of numbers in rising order, put in the greedy order -/
def greedyOrder (w : Weigher) (l : List Nat) : List Nat := l.foldr (Kp411.insertByWeight w) []
theorem greedyOrder_mem (w : Weigher) : ∀ (l : List Nat) (x : Nat), x ∈ greedyOrder w l ↔ x ∈ l
  | [], x => by simp [greedyOrder]
  | i :: l, x => by
    show x ∈ Kp411.insertByWeight w i (greedyOrder w l) ↔ _
    rw [insert_mem, greedyOrder_mem w l, List.mem_cons]
theorem greedyOrder_sorted (w : Weigher) : ∀ (l : List Nat), l.Pairwise (· < ·) → (greedyOrder w l).Pairwise (ahead w)
  | [], _ => by simp [greedyOrder]
  | i :: l, h => by
    rw [List.pairwise_cons] at h
    show (Kp411.insertByWeight w i (greedyOrder w l)).Pairwise (ahead w)
    exact insert_sorted (greedyOrder_sorted w l h.2) fun x hx => h.1 x ((greedyOrder_mem w l x).mp hx)
/-- two lists in that order with the same members are one -/
theorem order_unique {w : Weigher} : ∀ {l r : List Nat}, l.Pairwise (ahead w) → r.Pairwise (ahead w) → (∀ x, x ∈ l ↔ x ∈ r) → l = r
  | [], [], _, _, _ => rfl
  | [], b :: r, _, _, h => absurd ((h b).mpr (by simp)) (by simp)
  | a :: l, [], _, _, h => absurd ((h a).mp (by simp)) (by simp)
  | a :: l, b :: r, hl, hr, h => by
    rw [List.pairwise_cons] at hl hr
    have hab : a = b := by
      rcases List.mem_cons.mp ((h a).mp (by simp)) with q | q
      · exact q
      · rcases List.mem_cons.mp ((h b).mpr (by simp)) with q' | q'
        · exact q'.symm
        · exact absurd (hl.1 b q') (ahead_asymm (hr.1 a q))
    subst hab
    have na : a ∉ l := fun q => ahead_asymm (hl.1 a q) (hl.1 a q)
    have nb : a ∉ r := fun q => ahead_asymm (hr.1 a q) (hr.1 a q)
    rw [order_unique hl.2 hr.2 fun x => ?_]
    constructor
    · intro q
      rcases List.mem_cons.mp ((h x).mp (by simp [q])) with z | z
      · subst z; exact absurd q na
      · exact z
    · intro q
      rcases List.mem_cons.mp ((h x).mpr (by simp [q])) with z | z
      · subst z; exact absurd q nb
      · exact z
theorem greedyOrder_is {w : Weigher} {l r : List Nat} (hl : l.Pairwise (· < ·)) (hr : r.Pairwise (ahead w)) (h : ∀ x, x ∈ r ↔ x ∈ l) : r = greedyOrder w l :=
  order_unique hr (greedyOrder_sorted w l hl) fun x => (h x).trans (greedyOrder_mem w l x).symm
/-- the numbers that aren't due -/
def others (w : Weigher) : List Nat := (List.range w.hoppers.length).filter fun i => !(Kp411.dueHoppers w).contains i
theorem others_eq (w : Weigher) : others w = (List.range w.hoppers.length).filter fun i => !Kp411.isDue w i := by
  unfold others
  refine List.filter_congr fun i m => ?_
  have : (Kp411.dueHoppers w).contains i = Kp411.isDue w i := by
    rw [Bool.eq_iff_iff, List.contains_iff_mem]
    unfold Kp411.dueHoppers
    rw [List.mem_filter]
    exact ⟨fun h => h.2, fun h => ⟨m, h⟩⟩
  rw [this]
theorem others_rising (w : Weigher) : (others w).Pairwise (· < ·) := List.Pairwise.filter _ List.pairwise_lt_range
/-- one hopper more, as long as the target isn't reached -/
def takeStep (w : Weigher) (set i : Nat) : Nat := if w.target ≤ weightOf w set then set else set + 2 ^ i
def dueSet (w : Weigher) : Nat := ((Kp411.dueHoppers w).map fun i => 2 ^ i).sum
def greedyEnd (w : Weigher) : Nat := (greedyOrder w (others w)).foldl (takeStep w) (dueSet w)
theorem greedySet_eq (w : Weigher) : Kp411.greedySet w = if w.target ≤ weightOf w (greedyEnd w) then some (greedyEnd w) else none := rfl
theorem take_done {w : Weigher} : ∀ {l : List Nat} {s : Nat}, w.target ≤ weightOf w s → l.foldl (takeStep w) s = s
  | [], _, _ => rfl
  | i :: l, s, h => by
    rw [List.foldl_cons]
    have : takeStep w s i = s := if_pos h
    rw [this]
    exact take_done h
end HP

/-! Masks: a hopper more in a set. Plain Lean. -/
namespace HP
open Kp411 (Weigher Hopper hopperAt weightOf members contains)

theorem contains_add_self {s i : Nat} (h : contains s i = false) : contains (s + 2 ^ i) i = true := by
  unfold contains at *
  have hp : 0 < 2 ^ i := Nat.two_pow_pos i
  have e : (s + 2 ^ i) / 2 ^ i = s / 2 ^ i + 1 := Nat.add_div_right s hp
  rw [e]
  have h' : ¬ s / 2 ^ i % 2 = 1 := by simpa using h
  have : (s / 2 ^ i + 1) % 2 = 1 := by omega
  simp [this]
theorem div_pow_succ (s i k : Nat) : s / 2 ^ (i + k) = s / 2 ^ i / 2 ^ k := by rw [Nat.pow_add, Nat.div_div_eq_div_mul]
theorem contains_add_other {s i j : Nat} (h : contains s i = false) (hj : j ≠ i) : contains (s + 2 ^ i) j = contains s j := by
  unfold contains at *
  have h' : s / 2 ^ i % 2 = 0 := by
    have : ¬ s / 2 ^ i % 2 = 1 := by simpa using h
    omega
  by_cases c : j < i
  · obtain ⟨k, rfl⟩ : ∃ k, i = j + (k + 1) := ⟨i - j - 1, by omega⟩
    have e : (s + 2 ^ (j + (k + 1))) / 2 ^ j = s / 2 ^ j + 2 * 2 ^ k := by
      rw [Nat.pow_add, Nat.add_mul_div_left _ _ (Nat.two_pow_pos j), Nat.pow_succ, Nat.mul_comm (2 ^ k) 2]
    rw [e]
    have : (s / 2 ^ j + 2 * 2 ^ k) % 2 = s / 2 ^ j % 2 := by omega
    rw [this]
  · obtain ⟨k, rfl⟩ : ∃ k, j = i + 1 + k := ⟨j - i - 1, by omega⟩
    have e : (s + 2 ^ i) / 2 ^ (i + 1) = s / 2 ^ (i + 1) := by
      rw [div_pow_succ, div_pow_succ, Nat.add_div_right s (Nat.two_pow_pos i), Nat.pow_one]
      generalize s / 2 ^ i = t at h'
      omega
    rw [div_pow_succ, e, ← div_pow_succ]
theorem filter_sum_more {f : Nat → Nat} {p q : Nat → Bool} {i : Nat} (hp : p i = false) (hq : q i = true) (ho : ∀ j, j ≠ i → q j = p j) : ∀ n, (((List.range n).filter q).map f).sum = (((List.range n).filter p).map f).sum + if i < n then f i else 0
  | 0 => by simp
  | n + 1 => by
    rw [filter_range_succ, filter_range_succ, List.map_append, List.map_append, List.sum_append, List.sum_append, filter_sum_more hp hq ho n]
    by_cases c : n = i
    · subst c
      rw [hp, hq]
      simp
    · rw [ho n c]
      by_cases d : i < n
      · rw [if_pos d, if_pos (show i < n + 1 by omega)]
        omega
      · rw [if_neg d, if_neg (show ¬ i < n + 1 by omega)]
        omega
theorem length_sum (l : List Nat) : l.length = (l.map fun _ => 1).sum := by
  induction l with
  | nil => rfl
  | cons a l ih => rw [List.map_cons, List.sum_cons, List.length_cons, ih]; omega
theorem weight_add {w : Weigher} {s i : Nat} (h : contains s i = false) (hi : i < w.hoppers.length) : weightOf w (s + 2 ^ i) = weightOf w s + (hopperAt w i).weight := by
  have q := filter_sum_more (f := fun j => (hopperAt w j).weight) (p := fun j => contains s j) (q := fun j => contains (s + 2 ^ i) j) (i := i) h (contains_add_self h) (fun j hj => contains_add_other h hj) w.hoppers.length
  rw [if_pos hi] at q
  exact q
theorem cnt_add {w : Weigher} {s i : Nat} (h : contains s i = false) (hi : i < w.hoppers.length) : cnt w (s + 2 ^ i) = cnt w s + 1 := by
  have q := filter_sum_more (f := fun _ => 1) (p := fun j => contains s j) (q := fun j => contains (s + 2 ^ i) j) (i := i) h (contains_add_self h) (fun j hj => contains_add_other h hj) w.hoppers.length
  rw [if_pos hi, ← length_sum, ← length_sum] at q
  exact q
theorem contains_zero (i : Nat) : contains 0 i = false := by unfold contains; simp
/-- a list of numbers, no two alike, as a mask -/
theorem contains_sum : ∀ (l : List Nat), l.Nodup → ∀ (s : Nat), (∀ x ∈ l, contains s x = false) → ∀ j, contains (s + (l.map fun i => 2 ^ i).sum) j = (contains s j || decide (j ∈ l))
  | [], _, s, _, j => by simp
  | a :: l, nd, s, h, j => by
    rw [List.nodup_cons] at nd
    have ha := h a (by simp)
    rw [List.map_cons, List.sum_cons, ← Nat.add_assoc, contains_sum l nd.2 (s + 2 ^ a) (fun x hx => by
      have : x ≠ a := fun q => nd.1 (q ▸ hx)
      rw [contains_add_other ha this]
      exact h x (by simp [hx])) j]
    by_cases c : j = a
    · subst c
      rw [contains_add_self ha, ha]
      simp
    · rw [contains_add_other ha c]
      simp [c]
theorem dueHoppers_nodup (w : Weigher) : (Kp411.dueHoppers w).Nodup := List.Pairwise.filter _ List.nodup_range
theorem contains_dueSet (w : Weigher) (j : Nat) : contains (dueSet w) j = decide (j ∈ Kp411.dueHoppers w) := by
  have q := contains_sum (Kp411.dueHoppers w) (dueHoppers_nodup w) 0 (fun x _ => contains_zero x) j
  rw [Nat.zero_add, contains_zero, Bool.false_or] at q
  exact q
theorem mem_due {w : Weigher} {j : Nat} : j ∈ Kp411.dueHoppers w ↔ j < w.hoppers.length ∧ Kp411.isDue w j = true := by
  unfold Kp411.dueHoppers
  rw [List.mem_filter, List.mem_range]
theorem mem_others {w : Weigher} {j : Nat} : j ∈ others w ↔ j < w.hoppers.length ∧ Kp411.isDue w j = false := by
  rw [others_eq, List.mem_filter, List.mem_range]
  simp
theorem contains_lt {s n i : Nat} (h : s < 2 ^ n) (hi : n ≤ i) : contains s i = false := by
  unfold contains
  have : s / 2 ^ i = 0 := Nat.div_eq_of_lt (Nat.lt_of_lt_of_le h (Nat.pow_le_pow_right (by decide) hi))
  simp [this]
theorem add_lt {s n i : Nat} (h : s < 2 ^ n) (hi : i < n) (hc : contains s i = false) : s + 2 ^ i < 2 ^ n := by
  obtain ⟨k, rfl⟩ : ∃ k, n = i + 1 + k := ⟨n - i - 1, by omega⟩
  have hb : s / 2 ^ i % 2 = 0 := by
    unfold contains at hc
    have : ¬ s / 2 ^ i % 2 = 1 := by simpa using hc
    omega
  have e : (s + 2 ^ i) / 2 ^ (i + 1) = s / 2 ^ (i + 1) := by
    rw [div_pow_succ, div_pow_succ, Nat.add_div_right s (Nat.two_pow_pos i), Nat.pow_one]
    generalize s / 2 ^ i = t at hb
    omega
  have h1 : s / 2 ^ (i + 1) < 2 ^ k := by
    rw [Nat.div_lt_iff_lt_mul (Nat.two_pow_pos _), Nat.mul_comm, ← Nat.pow_add]
    exact h
  rw [← e, Nat.div_lt_iff_lt_mul (Nat.two_pow_pos _), Nat.mul_comm, ← Nat.pow_add] at h1
  exact h1
theorem sum_lt {n : Nat} : ∀ (l : List Nat), l.Nodup → (∀ x ∈ l, x < n) → ∀ s, s < 2 ^ n → (∀ x ∈ l, contains s x = false) → s + (l.map fun i => 2 ^ i).sum < 2 ^ n
  | [], _, _, s, h, _ => by simpa using h
  | a :: l, nd, hl, s, h, hc => by
    rw [List.nodup_cons] at nd
    have ha := hc a (by simp)
    rw [List.map_cons, List.sum_cons, ← Nat.add_assoc]
    refine sum_lt l nd.2 (fun x hx => hl x (by simp [hx])) _ (add_lt h (hl a (by simp)) ha) fun x hx => ?_
    have : x ≠ a := fun q => nd.1 (q ▸ hx)
    rw [contains_add_other ha this]
    exact hc x (by simp [hx])
theorem dueSet_lt (w : Weigher) : dueSet w < 2 ^ w.hoppers.length := by
  have q := sum_lt (n := w.hoppers.length) (Kp411.dueHoppers w) (dueHoppers_nodup w) (fun x hx => (mem_due.mp hx).1) 0 (Nat.two_pow_pos _) (fun x _ => contains_zero x)
  rw [Nat.zero_add] at q
  exact q
end HP

/-! Sums by mask; the first of the least of a rising list of masks is the best set; an order of numbers by weight. Plain Lean. -/
namespace HP
open Kp411 (Weigher Hopper hopperAt weightOf members contains)

/-- the sum of f over the members of m below n -/
def wsOf (f : Nat → Nat) (n m : Nat) : Nat := (((List.range n).filter fun i => contains m i).map f).sum
theorem wsOf_succ (f : Nat → Nat) (n m : Nat) : wsOf f (n + 1) m = wsOf f n m + if contains m n = true then f n else 0 := by
  unfold wsOf
  rw [filter_range_succ, List.map_append, List.sum_append]
  by_cases c : contains m n = true <;> simp [c]
theorem wsOf_congr {f : Nat → Nat} {n m m' : Nat} (h : ∀ i, i < n → contains m i = contains m' i) : wsOf f n m = wsOf f n m' := by
  unfold wsOf
  rw [List.filter_congr fun i hi => h i (List.mem_range.mp hi)]
theorem wsOf_f {f g : Nat → Nat} {n m : Nat} (h : ∀ i, i < n → f i = g i) : wsOf f n m = wsOf g n m := by
  unfold wsOf
  congr 1
  refine List.map_congr_left fun i hi => ?_
  exact h i (List.mem_range.mp (List.mem_filter.mp hi).1)
def sumsL (f : Nat → Nat) (n : Nat) : List Nat := (List.range (2 ^ n)).map (wsOf f n)
theorem sumsL_zero (f : Nat → Nat) : sumsL f 0 = [0] := rfl
theorem sumsL_length (f : Nat → Nat) (n : Nat) : (sumsL f n).length = 2 ^ n := by unfold sumsL; simp
theorem range_add (a b : Nat) : List.range (a + b) = List.range a ++ (List.range b).map (a + ·) := List.range_add
theorem sumsL_succ (f : Nat → Nat) (n : Nat) : sumsL f (n + 1) = sumsL f n ++ (sumsL f n).map (· + f n) := by
  unfold sumsL
  rw [Nat.pow_succ, Nat.mul_two, range_add, List.map_append, List.map_map, List.map_map]
  congr 1
  · refine List.map_congr_left fun m hm => ?_
    rw [wsOf_succ, contains_lt (List.mem_range.mp hm) (Nat.le_refl _)]
    simp
  · refine List.map_congr_left fun m hm => ?_
    have hm' := List.mem_range.mp hm
    have h0 : contains m n = false := contains_lt hm' (Nat.le_refl _)
    show wsOf f (n + 1) (2 ^ n + m) = wsOf f n m + f n
    rw [Nat.add_comm (2 ^ n) m, wsOf_succ, contains_add_self h0, if_pos rfl]
    congr 1
    exact wsOf_congr fun i hi => contains_add_other h0 (by omega)
theorem sumsL_congr {f g : Nat → Nat} {n : Nat} (h : ∀ i, i < n → f i = g i) : sumsL f n = sumsL g n := by
  unfold sumsL
  exact List.map_congr_left fun m _ => wsOf_f h
theorem sumsL_get (f : Nat → Nat) {n m : Nat} (h : m < 2 ^ n) : (sumsL f n).getD m 0 = wsOf f n m := by
  unfold sumsL
  rw [List.getD_eq_getElem?_getD, List.getElem?_map, List.getElem?_range h]
  rfl
theorem weightOf_ws (w : Weigher) (m : Nat) : weightOf w m = wsOf (fun i => (hopperAt w i).weight) w.hoppers.length m := rfl
theorem cnt_ws (w : Weigher) (m : Nat) : cnt w m = wsOf (fun _ => 1) w.hoppers.length m := by
  unfold cnt wsOf members
  exact length_sum _
/-- the weights of all sets -/
def wts (w : Weigher) : List Nat := (List.range (2 ^ w.hoppers.length)).map (weightOf w)
theorem wts_eq (w : Weigher) : sumsL (fun i => (w.hoppers.map (·.weight)).getD i 0) (w.hoppers.map (·.weight)).length = wts w := by
  rw [List.length_map]
  show _ = sumsL (fun i => (hopperAt w i).weight) w.hoppers.length
  refine sumsL_congr fun i hi => ?_
  unfold hopperAt
  rw [List.getD_eq_getElem?_getD, List.getD_eq_getElem?_getD, List.getElem?_map]
  rw [List.getElem?_eq_getElem hi]
  rfl
theorem wts_length (w : Weigher) : (wts w).length = 2 ^ w.hoppers.length := by unfold wts; simp
theorem wts_get {w : Weigher} {m : Nat} (h : m < 2 ^ w.hoppers.length) : (wts w).getD m 0 = weightOf w m := by
  unfold wts
  rw [List.getD_eq_getElem?_getD, List.getElem?_map, List.getElem?_range h]
  rfl
theorem cnts_eq (w : Weigher) {ns : List Nat} (h : ns = List.replicate w.hoppers.length 1) : sumsL (fun i => ns.getD i 0) ns.length = (List.range (2 ^ w.hoppers.length)).map (cnt w) := by
  have hl : ns.length = w.hoppers.length := by rw [h, List.length_replicate]
  rw [hl, sumsL_congr (g := fun _ => 1) fun i hi => ?_]
  · unfold sumsL
    refine List.map_congr_left fun m _ => (cnt_ws w m).symm
  · rw [h, List.getD_eq_getElem?_getD, List.getElem?_replicate, if_pos hi]
    rfl
theorem target_weight (w : Weigher) (t m : Nat) : weightOf { w with target := t } m = weightOf w m := rfl
theorem target_cnt (w : Weigher) (t m : Nat) : cnt { w with target := t } m = cnt w m := rfl

/-! ### the members of a mask by its bits -/
theorem filter_more {m a : Nat} (h : m < 2 ^ a) : ∀ k, (List.range (a + k)).filter (fun i => contains m i) = (List.range a).filter fun i => contains m i
  | 0 => rfl
  | k + 1 => by
    rw [← Nat.add_assoc, filter_range_succ, filter_more h k, contains_lt h (Nat.le_add_right _ _)]
    simp
theorem filter_bits {m a b : Nat} (ha : m < 2 ^ a) (hb : m < 2 ^ b) : (List.range a).filter (fun i => contains m i) = (List.range b).filter fun i => contains m i := by
  by_cases c : a ≤ b
  · obtain ⟨k, rfl⟩ := Nat.exists_eq_add_of_le c
    exact (filter_more ha k).symm
  · obtain ⟨k, rfl⟩ := Nat.exists_eq_add_of_le (Nat.le_of_not_le c)
    exact filter_more hb k
theorem contains_testBit (m i : Nat) : contains m i = m.testBit i := by
  unfold contains
  rw [Nat.testBit_eq_decide_div_mod_eq]
  by_cases c : m / 2 ^ i % 2 = 1 <;> simp [c]
/-- the due set lies in m -/
theorem due_in (w : Weigher) (m : Nat) : decide (m &&& dueSet w = dueSet w) = (Kp411.dueHoppers w).all fun i => contains m i := by
  rw [Bool.eq_iff_iff, decide_eq_true_iff, List.all_eq_true]
  constructor
  · intro h i hi
    have e := congrArg (fun z => Nat.testBit z i) h
    simp only [Nat.testBit_and] at e
    rw [← contains_testBit, ← contains_testBit, contains_dueSet, decide_eq_true hi, Bool.and_true] at e
    exact e
  · intro h
    refine Nat.eq_of_testBit_eq fun i => ?_
    rw [Nat.testBit_and, ← contains_testBit, ← contains_testBit, contains_dueSet]
    by_cases c : i ∈ Kp411.dueHoppers w
    · rw [decide_eq_true c, h i c]
      rfl
    · rw [decide_eq_false c, Bool.and_false]
end HP

set_option Elab.async false
set_option maxRecDepth 100000
set_option maxHeartbeats 4000000
/-! Rules of my own: a call of what an expression gives (a def out of a table of the module), a table with int keys read, all(..) of whole numbers. -/
namespace HP
open PySem PySem.Spec PyProof.Rows L2
open C8 (Cal CalAt Met Mak)

/-! ### a table of the module, keys whole numbers -/
def litI (e : DictEntry) : Prop := ∃ k t, e.key = .int k t ∧ e.hash = hashInt k
def KDctI (K : PySem.W.Frag) (a : Addr) (k : Int) (v : V) : Prop :=
  ∃ es n u, K.lookup a = some ⟨.type "dict", none, .dict es n, #[]⟩ ∧ (∀ e ∈ es.toList, litI e) ∧ findBy Value.isInt es k = some u ∧ RelV v u
def rIxI (K : PySem.W.Frag) : R2 := fun x y H Q => ∃ p k v, x = .ref p ∧ y = .int k ∧ KDctI K p k v ∧ Q v H
theorem mapOf_KI {prog : Program} {w : World} {K : PySem.W.Frag} {h : Heap} {a : Addr} {es : Array DictEntry} {n : Nat} (X : K.In h) (hl : K.lookup a = some ⟨.type "dict", none, .dict es n, #[]⟩) (hk : ∀ e ∈ es.toList, litI e) :
    h.MapOf (intKind prog w) a (fun k => findBy Value.isInt es k) :=
  ⟨_, es, n, X _ _ hl, ⟨rfl, rfl, rfl⟩, rfl, fun e he => by
    obtain ⟨k, t, e1, e2⟩ := hk e (Array.mem_toList_iff.mpr he)
    exact ⟨k, by rw [e1]; exact intKind_is prog w k t, e2⟩, fun _ => rfl⟩
section
variable {X : Cx}
theorem ix_kdictI : IxR X (rIxI X.K) := by
  intro value slice pins s σ H x y v u Q I rx ry h hs
  obtain ⟨p, k, r, rfl, rfl, ⟨es, n, u0, hl, hk, e, ru⟩, q⟩ := h
  obtain rfl : v = Value.ref p := rx
  obtain ⟨t, rfl⟩ := ry
  have hm := mapOf_KI (prog := X.prog) (w := X.w) I.kIn hl hk
  exact tail_any hm.typeIs slot_dict_getitem.lookup (wpAny_getItem_of (intKind_is X.prog X.w k t) hm e ⟨r, H, I.tok _, ru, q⟩) hs
end

/-! ### all(xs) of whole numbers -/
theorem truth_ints {prog : Program} {w : World} {A : Around} {ns : List Int} {its : List Value} (e : IntsAre its ns) :
    TruthOf prog w A (fun i v => its.toArray[i]? = some v) (fun i => ns.getD i 0 != 0) := fun i v s Q E hv hq => by
  have hv' : its[i]? = some v := by simpa using hv
  have r : Vals (ns.map V.int) its := vals_of_ints e
  obtain ⟨x, hx, rx⟩ : ∃ x, (ns.map V.int)[i]? = some x ∧ RelV x v := by
    have hlt : i < its.length := (List.getElem?_eq_some_iff.mp hv').1
    have hl := r.length
    obtain ⟨x, hx⟩ : ∃ x, (ns.map V.int)[i]? = some x := ⟨_, List.getElem?_eq_getElem (by omega)⟩
    obtain ⟨u, hu, ru⟩ := r.get hx
    rw [hv'] at hu
    cases hu
    exact ⟨x, hx, ru⟩
  rw [List.getElem?_map] at hx
  obtain ⟨n, hn, rfl⟩ := Option.map_eq_some_iff.mp hx
  obtain ⟨t, rfl⟩ := rx
  have hg : ns.getD i 0 = n := by rw [List.getD_eq_getElem?_getD, hn] <;> rfl
  have hq' : Q (ns.getD i 0 != 0) s := hq
  rw [hg] at hq'
  exact truthy_int hq'
theorem all_rangeI : ∀ ns : List Int, (List.range ns.length).all (fun i => ns.getD i 0 != 0) = ns.all (· != 0)
  | [] => rfl
  | b :: ns => by
    rw [List.length_cons, List.range_succ_eq_map, List.all_cons, List.all_map, List.all_cons, ← all_rangeI ns]
    all_goals rfl
def rAllI (K : PySem.W.Frag) : List V → Hp → VK → Prop := fun vs H Q => ∃ (a : Addr) (ns : List Int), vs = [V.ref a] ∧ SqL K H a (ns.map V.int) ∧ Q (.bl (ns.all (· != 0))) H
section
variable {X : Cx}
theorem cr_allI (hc : X.calm = true) : CallR X (.builtin "all") (rAllI X.K) := by
  intro pins s σ H vs us Q I r h
  obtain ⟨a, ns, rfl, hs, q⟩ := h
  obtain ⟨its, rv, hl, _⟩ := I.list hs
  rw [Vals.ref1 r]
  refine call_all_walk (iter_any hl.isList fun s₂ e2 st hne => ?_)
  subst e2
  refine ⟨_, _, _, _, _, _, _, rfl, Walks.list (A := X.A.in1) (I.ok.hd hc) _ a hne its.toArray, st, truth_ints rv.ints, fun h' tk hk => ?_⟩
  refine ⟨.bl _, H, I.kept fun b o eo => hk b o (fun hmem => ?_) (Heap.get?_push_of_some _ eo), ?_, q⟩
  · rcases List.mem_cons.mp hmem with e1 | hmem
    · exact absurd (e1 ▸ Heap.lt_size eo) (Nat.lt_irrefl _)
    · cases hmem
  · show Value.bool _ = Value.bool _
    have hl2 := rv.length
    rw [List.length_map] at hl2
    rw [← all_rangeI, List.size_toArray, ← hl2]
end

/-! ### f(e, ..) where f is any expression that gives a def -/
def tCallF (P : Program) (w : World) (K : PySem.W.Frag) (mg : Str → Option Value) (base : Heap) (j : Nat) (tf : TE) (t : TA) : TE := fun σ H Q => tf σ H fun y H1 => ∃ (f : Addr) (k : Nat) (sp : Sp), y = .ref f ∧ k ≤ j ∧ CalAt P w K mg base k f sp ∧ t σ H1 fun vs H2 => sp vs H2 Q E0
section
variable {X : Cx} {fe e : Expr} {es : List Expr} {pos : Pos} {tf : TE} {t : TA} {j : Nat}
theorem pe_callF (hf : PE X fe tf) (hr : Room j X.A) (ha : PA X (e :: es) t)
    (ht : eval (.Call fe (e :: es) [] pos) X.env = (do callWith pos (← eval fe X.env) [] (backTo pos (starEach (e :: es) X.env)) (backToKw pos (keywordEach [] X.env))) := by rfl)
    (he : starEach (e :: es) X.env = (false, eval e X.env) :: starEach es X.env := by rfl) (hpl : (backTo pos (starEach es X.env)).any (·.1) = false := by rfl) :
    PE X (.Call fe (e :: es) [] pos) (tCallF X.prog X.w X.K X.mg X.base j tf t) := by
  refine ⟨fun pins s σ H Q I h => ?_⟩
  refine Call_ (thn (hf.run pins s σ H _ I h) fun u s1 ⟨y, H1, I1, ry, f, k, sp, ey, hk, c, q⟩ => ?_) ht
  subst ey
  obtain rfl : u = Value.ref f := ry
  obtain ⟨fd, ps, F, kp, b⟩ := c.ex
  refine PySem.W.callWith_K (h₀ := X.base) I.ok.mod.kin kp (thn (ha.run pos pins s1 σ _ _ I1 q) fun us s2 ⟨vs, H2, I2, r, q2⟩ => ⟨I2.kIn, ?_⟩) he hpl
  exact run_fn F (hr.mono hk) b .nil pass0 I2 r (by rw [List.append_nil]; exact q2)
end
/-! ### readings that name the written part by a letter: they may stand within a comprehension -/
def tTru (K : PySem.W.Frag) (ta : TE) : TT := fun σ H Q => ta σ H fun x H' => ∃ k, TruV K x H' k ∧ Q k H'
theorem pt_truthK {X : Cx} {a : Expr} {ta : TE} (K : PySem.W.Frag) (hK : X.K = K) (ha : PE X a ta) (he : ∀ whole, isTrue a X.env whole = (do let v ← whole; standAt a.pos; holding [v] (truthy v))) : PT X a (tTru K ta) := by
  subst hK
  exact pt_truth ha he
theorem pe_fldK {X : Cx} {e : Expr} {f : Str} {pos : Pos} {ta : TE} (K : PySem.W.Frag) (hK : X.K = K) (he : PE X e ta) (hb : attributeBase e f X.env (eval e X.env) = eval e X.env) : PE X (.Attribute e f pos) (tFld K ta f) := by
  subst hK
  exact pe_fld he hb

/-! ### an if whose test is known -/
theorem if_true_of {c : Bool} {A B : Prop} (hc : c = true) (h : A) : if c = true then A else B := by
  rw [if_pos hc]
  exact h
theorem if_false_of {c : Bool} {A B : Prop} (hc : c = false) (h : B) : if c = true then A else B := by
  rw [hc, if_neg Bool.false_ne_true]
  exact h

/-! ### calls without arguments, by the bundles -/
section
variable {X : Cx} {k j : Nat} {C : Addr} {x : Str} {sp : Sp} {dvs : List V} {p pos : Pos}
theorem pe_c0 (c : Cal X.prog X.w X.K X.mg X.base k x sp dvs) (hr : Room j X.A) (hk : k ≤ j) (hg : Gl X x) (hdb : (x == ("__debug__" : Str)) = false := by decide) :
    PE X (.Call (.Name x p) [] [] pos) (tCall sp dvs E0 tNil) := by
  obtain ⟨f, fd, ps, ds, F, hm, kp, b, d⟩ := c.ex
  exact pe_call0 F (hr.mono hk) hg hm kp b d pass0 hdb
theorem pe_mk0 (c : Mak X.prog X.w X.K X.mg X.base k x C sp dvs) (hr : Room j X.A) (hk : k + 1 ≤ j) (hg : Gl X x) (hdb : (x == ("__debug__" : Str)) = false := by decide) :
    PE X (.Call (.Name x p) [] [] pos) (tMake C sp dvs E0 tNil) := by
  obtain ⟨f, fd, ps, ds, M, F, hm, b, d⟩ := c.ex
  exact pe_make0 M F (hr.mono hk) hg hm b d pass0 hdb
end
end HP

set_option Elab.async false
set_option linter.all false
set_option maxRecDepth 100000
set_option maxHeartbeats 4000000
/-! Evaluation that leaves every object as it was (new ones are laid, tokens are drawn, no more): names, items of lists, fields, tuples; a lambda of one parameter called. -/
namespace HP
open PySem PySem.Spec PyProof.Rows L2

abbrev Grow (h g : Heap) : Prop := ∀ b o, h.get? b = some o → g.get? b = some o
theorem Grow.refl (h : Heap) : Grow h h := fun _ _ e => e
theorem Grow.trans {h g k : Heap} (x : Grow h g) (y : Grow g k) : Grow h k := fun b o e => y b o (x b o e)

/-- over any heap that B grew to, e gives a value of R and lets all that was there be -/
def PX (P : Program) (w : World) (A : Around) (env : Env) (B : Heap) (e : Expr) (R : Heap → Value → Prop) : Prop :=
  ∀ (s : Shared) (Q E : Value → Shared → Prop), Grow B s.heap →
    (∀ u g tk, Grow s.heap g → s.toks ≤ tk → R g u → Q u { s with heap := g, toks := tk }) → wpAny (model P w) A (eval e env) Q E s
abbrev isI (i : Int) : Heap → Value → Prop := fun _ u => ∃ t, u = .int i t
abbrev isR (a : Addr) : Heap → Value → Prop := fun _ u => u = .ref a
section
variable {P : Program} {w : World} {A : Around} {env : Env} {B : Heap} {a b : Expr} {x : Str} {pos : Pos}
theorem px_loc {m : Str → Option Value} {v : Value} {R : Heap → Value → Prop} (hk : env.scope.kind = .function) (hl : env.kindOf x = some .local) (hn : B.Ns env.locals m) (hv : m x = some v) (hr : ∀ g, R g v)
    (hd : (x == ("__debug__" : Str)) = false := by decide) : PX P w A env B (.Name x pos) R := fun s Q E kp h =>
  wpAny_Name (wpAny_loadName_local hk hl (hn.keeps kp) hv (h v s.heap s.toks (Grow.refl _) (Nat.le_refl _) (hr _))) hd
theorem px_free {c : Addr} {v : Value} {R : Heap → Value → Prop} (hk : env.scope.kind = .function) (hl : env.kindOf x = some .free) (hc : env.cells.lookup x = some c) (hv : B.IsCell c (some v)) (hr : ∀ g, R g v)
    (hcd : (x == ("__classdict__" : Str)) = false := by decide) (hd : (x == ("__debug__" : Str)) = false := by decide) : PX P w A env B (.Name x pos) R := fun s Q E kp h => by
  obtain ⟨o, ho, hd'⟩ := hv
  exact wpAny_Name (wpAny_loadName_free hk hl hc ⟨o, kp _ _ ho, hd'⟩ (h v s.heap s.toks (Grow.refl _) (Nat.le_refl _) (hr _)) hcd) hd
theorem px_item {l : Addr} {its : Array Value} {i : Int} {u : Value} {R : Heap → Value → Prop} (ha : PX P w A env B a (isR l)) (hb : PX P w A env B b (isI i)) (hl : B.IsList l its) (h0 : 0 ≤ i) (h63 : i < 2 ^ 63) (hu : its[i.toNat]? = some u)
    (hr : ∀ g, R g u) (hs : ∀ o k, subscripted b false o k = operate [o, k] (getItem o k)) : PX P w A env B (.Subscript a b pos) R := fun s Q E kp h => by
  refine Subscript_ (ha s _ _ kp fun u1 g1 t1 k1 l1 r1 => hb _ _ _ (kp.trans k1) fun u2 g2 t2 k2 l2 r2 => ?_)
  obtain rfl : u1 = .ref l := r1
  obtain ⟨t, rfl⟩ := r2
  refine item_listR (hl.at fun o e => k2 _ _ (k1 _ _ (kp _ _ e))) h0 h63 hu ?_ (hs _ _)
  exact h u g2 t2 (k1.trans k2) (Nat.le_trans l1 l2) (hr _)
theorem px_neg {i : Int} (ha : PX P w A env B a (isI i)) : PX P w A env B (.UnaryOp .USub a pos) (isI (-i)) := fun s Q E kp h => by
  refine UnaryOp_ (ha s _ _ kp fun u g t k l r => ?_)
  obtain ⟨t', rfl⟩ := r
  exact neg_int (h _ g (t + 1) k (Nat.le_trans l (Nat.le_succ _)) ⟨_, rfl⟩)
theorem px_fld {K : PySem.W.Frag} {p dx C : Addr} {mA : Str → Option Value} {u : Value} {R : Heap → Value → Prop} (ha : PX P w A env B a (isR p)) (hK : K.In B) (O : ObjM B p dx C mA) (c : Cls K C) (n : NoAttr K C x) (hu : mA x = some u) (hh : PySem.W.handedIn u = true) (hr : ∀ g, R g u)
    (hb : attributeBase a x env (eval a env) = eval a env) : PX P w A env B (.Attribute a x pos) R := fun s Q E kp h => by
  refine attr_of hb (ha s _ _ kp fun u1 g1 t1 k1 l1 r1 => ?_)
  obtain rfl : u1 = .ref p := r1
  have kk := kp.trans k1
  obtain ⟨h1, h2, h3⟩ := O
  refine get_map (K := K) (fun b o e => kk _ _ (hK b o e)) (⟨kk _ _ h1, h2.at fun o e => kk _ _ e, h3⟩ : ObjM g1 p dx C mA) (c.get x) c.hd n hu hh ?_
  exact h u g1 (t1 + 1) k1 (Nat.le_trans l1 (Nat.le_succ _)) (hr _)
/-- a new tuple of whole numbers -/
def TupI (B g : Heap) (u : Value) (ns : List Int) : Prop := ∃ t its, u = .ref t ∧ B.get? t = none ∧ g.get? t = some { cls := .type "tuple", data := .seq (List.toArray its) } ∧ IntsAre its ns
theorem grow_none {h g : Heap} (x : Grow h g) {a : Addr} (e : g.get? a = none) : h.get? a = none := by
  cases q : h.get? a with
  | none => rfl
  | some o => rw [x _ _ q] at e; cases e
theorem px_pair {i j : Int} {x1} (ha : PX P w A env B a (isI i)) (hb : PX P w A env B b (isI j)) (n1 : starEach [a, b] env = (false, eval a env) :: starEach [b] env := by rfl) (n2 : starEach [b] env = (false, eval b env) :: starEach [] env := by rfl) :
    PX P w A env B (.Tuple [a, b] x1 pos) (fun g u => TupI B g u [i, j]) := fun s Q E kp h => by
  refine wpAny_Tuple_spliced (args_cons (ha s _ _ kp fun u1 g1 t1 k1 l1 r1 => args_cons (hb _ _ _ (kp.trans k1) fun u2 g2 t2 k2 l2 r2 => args_nil ⟨by show 2 ≤ sizeLine; decide, ?_⟩) n2) n1)
  obtain ⟨t, rfl⟩ := r1
  obtain ⟨t', rfl⟩ := r2
  have kk := k1.trans k2
  refine h _ _ t2 (fun b o e => Heap.get?_push_of_some _ (kk b o e)) (Nat.le_trans l1 l2) ⟨_, _, rfl, grow_none (kp.trans kk) (Heap.get?_none_of_le (Nat.le_refl _)), Heap.get?_push_size _ rfl, ?_⟩
  exact .cons _ _ (.cons _ _ .nil)
theorem px_triple {c : Expr} {i j k : Int} {x1} (ha : PX P w A env B a (isI i)) (hb : PX P w A env B b (isI j)) (hc : PX P w A env B c (isI k)) (n1 : starEach [a, b, c] env = (false, eval a env) :: starEach [b, c] env := by rfl)
    (n2 : starEach [b, c] env = (false, eval b env) :: starEach [c] env := by rfl) (n3 : starEach [c] env = (false, eval c env) :: starEach [] env := by rfl) :
    PX P w A env B (.Tuple [a, b, c] x1 pos) (fun g u => TupI B g u [i, j, k]) := fun s Q E kp h => by
  refine wpAny_Tuple_spliced (args_cons (ha s _ _ kp fun u1 g1 t1 k1 l1 r1 => args_cons (hb _ _ _ (kp.trans k1) fun u2 g2 t2 k2 l2 r2 => args_cons (hc _ _ _ ((kp.trans k1).trans k2) fun u3 g3 t3 k3 l3 r3 => args_nil ⟨by show 3 ≤ sizeLine; decide, ?_⟩) n3) n2) n1)
  obtain ⟨t, rfl⟩ := r1
  obtain ⟨t', rfl⟩ := r2
  obtain ⟨t'', rfl⟩ := r3
  have kk := (k1.trans k2).trans k3
  refine h _ _ t3 (fun b o e => Heap.get?_push_of_some _ (kk b o e)) (Nat.le_trans (Nat.le_trans l1 l2) l3) ⟨_, _, rfl, grow_none (kp.trans kk) (Heap.get?_none_of_le (Nat.le_refl _)), Heap.get?_push_size _ rfl, ?_⟩
  exact .cons _ _ (.cons _ _ (.cons _ _ .nil))
end
theorem reads_tup {g : Heap} {t : Addr} {its : List Value} {ns : List Int} (hg : g.get? t = some { cls := .type "tuple", data := .seq (List.toArray its) }) (hi : IntsAre its ns) : Reads g (.ref t) (.tuple (ns.map .int)) [] := by
  refine .tuple hg rfl rfl ?_
  show ReadsAll g its (ns.map .int) []
  clear hg
  induction hi with
  | nil => exact .nil
  | cons e t _ ih => exact ReadsAll.cons (Reads.int (h := g) e t) ih
theorem TupI.reads {B g : Heap} {u : Value} {ns : List Int} (x : TupI B g u ns) : Reads g u (.tuple (ns.map .int)) [] := by
  obtain ⟨t, its, rfl, _, hg, hi⟩ := x
  exact reads_tup hg hi

/-! ### the call -/
abbrev lamO (q : Str) (params : Arguments) (body : Expr) (scope : Scope) (cl : List (Str × Addr)) (pm : Value) (c : Addr) (ctv : Value) : Obj := PySem.W.kla_obj "<lambda>" q params body scope cl pm c ctv
abbrev lamE (q : Str) (scope : Scope) (f c : Addr) (cl : List (Str × Addr)) (L : Addr) : Env := PySem.W.envX q scope L f (.ref c) cl
/-- what a lambda of one parameter x must have: captured names, globals, x -/
structure LamOk (params : Arguments) (body : Expr) (scope : Scope) (x : Str) : Prop where
  kind : scope.kind = .function
  co : scope.isCoroutine = false
  gen : scope.isGenerator = false
  nocell : ∀ y ∈ scope.names, y.2 ≠ .cell
  par : scope.names.lookup x = some .local
  bind : ∀ (q : Str) (cl : List (Str × Addr)) (pm cv ctv v : Value), bindArgs (PySem.W.kla_fn "<lambda>" q params body scope cl pm cv ctv) ⟨[v], []⟩ = pure [(x, v)]
theorem lam_call {P : Program} {w : World} {A : Around} {s : Shared} {Q E : Value → Shared → Prop} {f c : Addr} {q x : Str} {params : Arguments} {body : Expr} {scope : Scope} {cl : List (Str × Addr)} {pm ctv v : Value} {R : Heap → Heap → Value → Prop}
    (L : LamOk params body scope x) (ho : s.heap.get? f = some (lamO q params body scope cl pm c ctv)) (hc : s.heap.CodeRec (.ref c) q) (lim : s.heap.NoLimit) (hr : A.depth < recursionLimit)
    (hb : ∀ B : Heap, Grow s.heap B → B.Ns s.heap.objs.size (fun y => ([(x, v)] : List (Str × Value)).reverse.lookup y) → PX P w (A.deeper (lamE q scope f c cl s.heap.objs.size)) (lamE q scope f c cl s.heap.objs.size) B body (R B))
    (h : ∀ B u g tk, Grow s.heap B → Grow B g → s.toks ≤ tk → R B g u → Q u { s with heap := g, toks := tk }) : wpAny (model P w) A (call (.ref f) [v]) Q E s := by
  refine wpAny_call (PySem.W.kla_callFunE hr ho rfl L.co L.gen rfl hc ?_)
  rw [L.bind]
  refine wpAny_pure (wpAny_newFunctionEnv L.nocell (fun y hy => ?_) (fun B hns hsb => ⟨lim.fresh _ hsb, ?_⟩) L.kind)
  · rw [List.mem_singleton] at hy
    subst hy
    exact L.par
  show codeAny _ _ (.expr body (lamE q scope f c cl s.heap.objs.size)) _ _
  have kp : Grow s.heap B := fun b o e => hsb.extBut b o (Nat.ne_of_lt (Heap.lt_size e)) (Heap.get?_push_of_some _ e)
  refine PySem.W.kla_codeExpr (hb B kp hns _ _ _ (Grow.refl _) fun u g tk k l r => ?_)
  exact h B u g tk kp k (Nat.le_trans (Nat.le_add_right _ _) l) r
end HP

set_option Elab.async false
set_option linter.all false
set_option maxRecDepth 100000
set_option maxHeartbeats 4000000
/-! min(xs, key=f, default=None) and sorted(range(n), key=f) where f gives tuples of whole numbers and changes nothing. -/
namespace HP
open PySem PySem.Spec PyProof.Rows L2
abbrev tupD (ns : List Int) : PyData := .tuple (ns.map .int)
theorem alike_tupD (a b : List Int) : PySem.W.alike (tupD a) (tupD b) = true := by
  unfold tupD
  rw [PySem.W.alike]
  exact PySem.W.alike_ints a b
theorem lt_tupD (a b : List Int) : PySem.W.dataLt (tupD a) (tupD b) = decide (a < b) := by
  unfold tupD
  rw [PySem.W.dataLt_tuple]
  exact PySem.W.dataLt_ints a b
theorem depth_tupD (a : List Int) : (tupD a).depth = 1 := by
  unfold tupD
  rw [PyData.depth, PySem.W.depth_ints]
/-- the place of the first of the least -/
def firstLeast (ks : List (List Int)) : Nat → Nat := argBest fun i j => decide (ks.getD i [] < ks.getD j [])
/-- a call f(v) with the key k, from every heap that h grew to -/
def KeyCall (P : Program) (w : World) (A : Around) (s : Shared) (f : Addr) (v : Value) (k : List Int) : Prop :=
  ∀ (g : Heap) (tk : Nat) (Q E : Value → Shared → Prop), Grow s.heap g → (∀ B u g' tk', Grow g B → Grow B g' → tk ≤ tk' → TupI B g' u k → Q u { s with heap := g', toks := tk' }) →
    wpAny (model P w) A (call (.ref f) [v]) Q E { s with heap := g, toks := tk }
section
variable {P : Program} {w : World} {A : Around} {s : Shared} {Q E : Value → Shared → Prop} {f l : Addr}
theorem moved_to {fp : List Addr} {s1 s2 : Shared} {g : Heap} {tk : Nat} (e : s1 = { s with heap := g, toks := tk }) (hg : Grow s.heap g) (hl : s.toks ≤ tk) (m : Moved fp (fun a b => b = a) s1 s2) (hf : ∀ b ∈ fp, s.heap.objs.size ≤ b) :
    ∃ g' tk', s2 = { s with heap := g', toks := tk' } ∧ Grow s.heap g' ∧ s.toks ≤ tk' := by
  subst e
  refine ⟨s2.heap, s2.toks, ?_, fun b o e => m.heap b o (fun hb => ?_) (hg b o e), Nat.le_trans hl m.toks⟩
  · obtain ⟨h2, g2, d2, t2, o2⟩ := s2
    have h1 : g2 = s.gens := m.gens
    have h3 : d2 = s.drawn := m.drawn
    have h4 : o2 = s.os := m.os
    subst h1 h3 h4
    rfl
  · exact absurd (Nat.lt_of_lt_of_le (Heap.lt_size e) (hf b hb)) (Nat.lt_irrefl _)
theorem min_by {its : Array Value} {ks : List (List Int)} (hh : A.handled = none) (hl : s.heap.IsList l its) (hlen : ks.length = its.size) (hu : A.units + 10 < cLine)
    (turn : ∀ (i : Nat) (v : Value) (k : List Int), its[i]? = some v → ks[i]? = some k → KeyCall P w A.in1 s f v k)
    (h0 : its.size = 0 → ∀ g tk, Grow s.heap g → Q .none { s with heap := g, toks := tk })
    (h1 : 0 < its.size → ∀ v g tk, its[firstLeast ks (its.size - 1)]? = some v → Grow s.heap g → Q v { s with heap := g, toks := tk }) :
    wpAny (model P w) A (call (.builtin "min") [.ref l] [(Str.ofString "key", .ref f), (Str.ofString "default", .none)]) Q E s := by
  refine call_min_walkKD (PySem.W.iter_listW (A := A.in1) hh hl fun s2 e2 W st hfp hw hk => ?_)
  have hI : s.heap.objs.size < s2.heap.objs.size := hfp _ (by simp)
  have hS : ∀ b ∈ s2.heap.objs.size :: [s.heap.objs.size], s.heap.objs.size ≤ b := fun b hb => by
    rcases List.mem_cons.mp hb with rfl | hb
    · exact Nat.le_of_lt hI
    · rw [List.mem_singleton] at hb
      subst hb
      exact Nat.le_refl _
  refine ⟨_, _, _, _, _, _, _, fun s' => ∃ g tk, s' = { s with heap := g, toks := tk } ∧ Grow s.heap g ∧ s.toks ≤ tk,
    fun i k s' => ∃ t vals, k = .ref t ∧ t ∉ s2.heap.objs.size :: [s.heap.objs.size] ∧ s'.heap.get? t = some { cls := .type "tuple", data := .seq (List.toArray vals) } ∧ IntsAre vals (ks.getD i []), fun i j => decide (ks.getD i [] < ks.getD j []), rfl, W, st, hfp, ?run, ?start, ?zero, ?some⟩
  case start => exact ⟨s2.heap, s2.toks, by rw [e2], hk, by rw [e2]; exact Nat.le_refl _⟩
  case zero =>
    rintro hz s' ⟨g, tk, rfl, hg, _⟩
    exact h0 hz g tk hg
  case some =>
    rintro hp v s' hP ⟨g, tk, rfl, hg, _⟩
    exact h1 hp v g tk hP hg
  case run =>
    refine ⟨?_, ?_, ?_, ?_⟩
    · rintro s' s'' ⟨g, tk, e, hg, ht⟩ m
      exact moved_to e hg ht m hS
    · rintro i k s' s'' ⟨t, vals, rfl, nt, ho, hi⟩ m
      exact ⟨t, vals, rfl, nt, m.heap t _ nt ho, hi⟩
    · rintro i v s' o Q' E' hi hP ⟨g, tk, rfl, hg, ht⟩ hst hS' K
      have hi' : i < ks.length := by rw [hlen]; exact hi
      have hk' : ks[i]? = some ks[i] := List.getElem?_eq_getElem hi'
      refine turn i v _ hP hk' g tk Q' E' hg fun B u g' tk' kB kg htk hT => ?_
      obtain ⟨t, vals, rfl, nB, hgt, hi2⟩ := hT
      have gg : Grow g g' := kB.trans kg
      have fr : ∀ b o', g.get? b = some o' → t ≠ b := fun b o' e q => by
        have := kB b o' e
        rw [← q, nB] at this
        cases this
      refine K _ _ ⟨g', tk', rfl, hg.trans gg, Nat.le_trans ht htk⟩ (W.frame (i + 1) { s with heap := g, toks := tk } g' tk' hst htk fun b _ o' e => gg b o' e) (gg _ _ hS') ⟨t, vals, rfl, fun hm => ?_, hgt, ?_⟩ fun j k' h => ?_
      · rcases List.mem_cons.mp hm with q | q
        · exact fr _ _ hS' q
        · rw [List.mem_singleton] at q
          obtain ⟨oI, hoI, _⟩ := hst.1
          exact fr _ _ hoI q
      · have : ks.getD i [] = ks[i] := by rw [List.getD_eq_getElem?_getD, hk']; rfl
        rw [this]
        exact hi2
      · obtain ⟨t', vals', rfl, n', ho', hi'⟩ := h
        exact ⟨t', vals', rfl, n', gg _ _ ho', hi'⟩
    · rintro i j ki kj s' Q' E' ⟨g, tk, rfl, hg, ht⟩ ⟨t1, v1, rfl, n1, o1, i1⟩ ⟨t2, v2, rfl, n2, o2, i2⟩ hq
      have r1 : Reads g (.ref t1) (tupD (ks.getD i [])) [] := reads_tup o1 i1
      have r2 : Reads g (.ref t2) (tupD (ks.getD j [])) [] := reads_tup o2 i2
      rw [← lt_tupD] at hq
      refine PySem.W.rcLt_alike (tupD (ks.getD i [])) (tupD (ks.getD j [])) A.in1 { s with heap := g, toks := tk } _ _ _ _ r1 r2 (alike_tupD _ _) (by intro q; cases q) ?_ P w E' Q' hq
      rw [depth_tupD, depth_tupD]
      show A.units + 1 + min 1 1 < cLine
      omega
end
end HP
namespace HP
open PySem PySem.Spec PyProof.Rows L2
section
variable {P : Program} {w : World} {A : Around} {s : Shared} {Q E : Value → Shared → Prop} {f r : Addr} {t1 t2 t3 : Tok}
abbrev natV (v : Value) (i : Nat) : Prop := ∃ t, v = .int (i : Int) t
theorem each_range : ∀ (us : List Value) (f : Nat → Nat), (∀ j u, us[j]? = some u → natV u (f j)) → PySem.W.EachIs natV us ((List.range us.length).map f)
  | [], _, _ => .nil
  | u :: us, f, h => by
    rw [List.length_cons, List.range_succ_eq_map, List.map_cons, List.map_map]
    exact .cons (h 0 u rfl) (each_range us (f ∘ Nat.succ) fun j v e => h (j + 1) v e)
/-- the order in which sorted(range(n), key=f) puts the numbers -/
def sortBy (n : Nat) (key : Nat → List Int) : List Nat := (List.range n).mergeSort (PySem.W.dataLe false fun i => tupD (key i))
theorem sort_by {n : Nat} (key : Nat → List Int) (hne : ∀ i, key i ≠ []) (hh : A.handled = none) (hr : IsRange s.heap r 0 (n : Int) 1 t1 t2 t3) (hn : n ≤ 1000) (hu : A.units + 10 < cLine)
    (turn : ∀ (i : Nat) (v : Value), i < n → natV v i → KeyCall P w A.in1.in1 s f v (key i))
    (h : ∀ (out : List Value) (c : Nat) (a : Addr) (g : Heap) (tk : Nat), Grow s.heap g → s.heap.get? a = none → g.get? a = some (seqObj "list" (List.toArray out) c) → PySem.W.EachIs natV out (sortBy n key) → Q (.ref a) { s with heap := g, toks := tk }) :
    wpAny (model P w) A (call (.builtin "sorted") [.ref r] [(Str.ofString "key", .ref f)]) Q E s := by
  refine call_function_entry_kw kind_sorted plain_sorted entry_sorted (ksk_s1 _ _) ?_
  unfold Builtin.«sorted»
  refine wpAny_bind (m := checkCount "sorted" 1 1 _) (wpAny_pure ?_)
  refine wpAny_bind (collect_range (A := A.in1) (n := n) hh hr (small_one (by omega) (by omega) (by omega) (by omega)) ?size (by omega) fun g tk acc kp hi => ?_)
  case size => exact rangeSize_nat 0 (n : Int)
  have hlen : acc.toList.length = n := by rw [Array.length_toList]; exact hi.1
  have hline : acc.toList.length ≤ sizeLine := by rw [hlen, sizeLine_eq]; omega
  have each : PySem.W.EachIs natV acc.toList (List.range n) := by
    have q := each_range acc.toList id fun j u hj => by
      obtain ⟨t, e⟩ := hi.2 j u (by rw [← hj, Array.getElem?_toList])
      exact ⟨t, by rw [e]; simp⟩
    rw [List.map_id, hlen] at q
    exact q
  refine wpAny_bind (wpAny_newList ?_ hline)
  have kp2 : Grow s.heap (g.push (seqObj "list" acc.toList.toArray 0)) := fun b o e => Heap.get?_push_of_some _ (kp b o e)
  have nw : s.heap.get? g.objs.size = none := grow_none kp (Heap.get?_none_of_le (Nat.le_refl _))
  refine wpAny_bind (wpAny_holding (PySem.W.list_sort_key_data (A := A.in1) (b := false) (vs := acc.toList) (bs := List.range n) (R := natV) (n := 0) (fun i => tupD (key i)) (Heap.get?_push_size _ rfl) each (PySem.W.AllAlike.of fun i j => alike_tupD _ _) (PySem.W.Sortable.tuples fun i => ?_) (by rw [List.length_range, sizeLine_eq]; omega)
    (fun i _ => ?_) (ksk_l1 _ _) (ksk_t1 _ _) (fun v i hv hi2 k tk2 kb => ?_) fun out c k tk2 kb hk _ he => ?_))
  · cases e : key i with
    | nil => exact absurd e (hne i)
    | cons x r => exact ⟨.int x, r.map .int, rfl⟩
  · rw [depth_tupD]
    show A.units + 1 + 1 + 1 < cLine
    omega
  · have gk : Grow s.heap k := fun b o e => kb b o (fun q => by rw [q, nw] at e; cases e) (kp2 b o e)
    exact turn i v (List.mem_range.mp hi2) hv k tk2 _ _ gk fun B u g' tk' kB kg _ hT => ⟨g', tk', rfl, kB.trans kg, hT.reads⟩
  · have gk : Grow s.heap k := fun b o e => kb b o (fun q => by rw [q, nw] at e; cases e) (kp2 b o e)
    exact wpAny_pure ⟨_, rfl, h out c g.objs.size k tk2 gk nw hk he⟩
end
end HP

set_option Elab.async false
set_option linter.all false
set_option maxRecDepth 100000
set_option maxHeartbeats 4000000
/-! The two calls of the program that are handed a lambda, as rules. -/
namespace HP
open PySem PySem.Spec PyProof.Rows L2 LamX NdefX
abbrev iN (l : List Nat) : List V := l.map fun (n : Nat) => V.int (n : Int)
theorem iN_get {l : List Nat} {i n : Nat} (h : l[i]? = some n) : (iN l)[i]? = some (V.int (n : Int)) := by
  unfold iN
  rw [List.getElem?_map, h]
  rfl
/-- what the two rules ask of the maker: its code object, the table, the lambda's scope -/
structure Maker (X : Cx) (TB : List (Addr × Str)) (scope : Scope) (params : Arguments) (body : Expr) (x : Str) (fr : List Str) (js : List Nat) (c T : Addr) : Prop where
  tab : TabB X.base X.mg c T
  code : X.env.code = .ref c
  mem : (T, X.env.qual ++ "<lambda>") ∈ TB
  one : ∀ p ∈ TB, p.1 = T → p.2 = X.env.qual ++ "<lambda>"
  lam : LamOk params body scope x
  dflt : defaultsOf params X.env = ([], [])
  free : ∀ y ∈ scope.names, y.2 = .free → X.env.scope.names.lookup y.1 = some .cell ∨ X.env.scope.names.lookup y.1 = some .free
  frm : ∀ y ∈ fr, (y, NameKind.free) ∈ scope.names
  look : ∀ y ∈ fr, scope.names.lookup y = some .free
  js : js.map (fun j => X.N[j]?) = fr.map some
section
variable {X : Cx} {TB : List (Addr × Str)} {scope : Scope} {params : Arguments} {body e : Expr} {x : Str} {fr : List Str} {js : List Nat} {c T : Addr} {te : TE} {p pos lpos kp : Pos} {k : Nat}
theorem Maker.hfr (M : Maker X TB scope params body x fr js c T) (ok : X.Ok) : ∀ y ∈ scope.names, y.2 = .free → ∃ c, X.env.cells.lookup y.1 = some c := fun y hy q =>
  (M.free y hy q).elim (fun z => ok.has _ (.inl z)) fun z => ok.has _ (.inr z)
/-- a captured name's value -/
theorem Maker.cell (M : Maker X TB scope params body x fr js c T) {pins : List (Addr × Obj)} {σ : L2.St} {H : Hp} {s : Shared} (I : Inv X pins σ H s) {i j : Nat} {y : Str} {v : V} (hy : fr[i]? = some y) (hj : js[i]? = some j) (hv : σ[j]? = some (some v)) :
    ∃ a u, (cloFrom X.env.cells scope.names []).lookup y = some a ∧ RelV v u ∧ s.heap.IsCell a (some u) := by
  obtain ⟨a, h1, h2⟩ := (cells_of I (Caps.made I.ok M.free M.frm M.js)).has i y hy
  obtain ⟨u, r, z⟩ := h2 v (by rw [List.getElem?_map, hj]; exact congrArg some (slotAt_of hv))
  exact ⟨a, u, h1, r, z⟩
theorem Maker.make (M : Maker X TB scope params body x fr js c T) {pins : List (Addr × Obj)} {σ : L2.St} {H : Hp} {s : Shared} {Q E : Value → Shared → Prop} (I : Inv X pins σ H s) (hT : Tabs TB H)
    (h : ∀ (f c' : Addr) (pm ctv : Value) (H1 : Hp) (s' : Shared), Inv X pins σ H1 s' → ExtN H H1 → Tabs TB H1 → s'.heap.get? f = some (lamO (X.env.qual ++ "<lambda>") params body scope (cloFrom X.env.cells scope.names []) pm c' ctv) →
      s'.heap.CodeRec (.ref c') (X.env.qual ++ "<lambda>") → Q (.ref f) s') : wpAny (model X.prog X.w) X.A (eval (.Lambda params body scope lpos) X.env) Q E s :=
  lam_make2 I M.tab M.code M.mem M.one hT M.dflt (M.hfr I.ok) fun f c' pm ctv H1 s' I1 eN T1 hf _ _ hco => h f c' pm ctv H1 s' I1 eN T1 hf (codeO_at I1.hok hco)
theorem Maker.ask (M : Maker X TB scope params body x fr js c T) {pins : List (Addr × Obj)} {σ : L2.St} {H : Hp} {s : Shared} {f c' : Addr} {pm ctv v : Value} {A : Around} {ns : List Int} (I : Inv X pins σ H s)
    (hf : s.heap.get? f = some (lamO (X.env.qual ++ "<lambda>") params body scope (cloFrom X.env.cells scope.names []) pm c' ctv)) (hc : s.heap.CodeRec (.ref c') (X.env.qual ++ "<lambda>")) (hr : A.depth < recursionLimit)
    (hb : ∀ (L : Addr) (B : Heap), Grow s.heap B → B.Ns L (fun y => ([(x, v)] : List (Str × Value)).reverse.lookup y) →
      PX X.prog X.w (A.deeper (lamE (X.env.qual ++ "<lambda>") scope f c' (cloFrom X.env.cells scope.names []) L)) (lamE (X.env.qual ++ "<lambda>") scope f c' (cloFrom X.env.cells scope.names []) L) B body (fun g u => TupI B g u ns)) :
    KeyCall X.prog X.w A s f v ns := fun g tk Q E hg h =>
  lam_call (R := fun B g u => TupI B g u ns) M.lam (hg _ _ hf) (hc.keeps hg) (I.nolimit.keeps hg) hr (fun B kB hn => hb _ B (hg.trans kB) hn) fun B u g' tk' kB kg ht r => h B u g' tk' kB kg ht r
theorem par_look {x : Str} {v : Value} : ([(x, v)] : List (Str × Value)).reverse.lookup x = some v := by
  simp [List.lookup]

theorem IsCell_grow {h g : Heap} {a : Addr} {v : Option Value} (x : Grow h g) (c : h.IsCell a v) : g.IsCell a v := by
  obtain ⟨o, ho, hd⟩ := c
  exact ⟨o, x _ _ ho, hd⟩

/-! ### min(e, key=lambda m: (w[m], z[m], m), default=None) -/
def key3 (ws zs : List Nat) (m : Nat) : List Int := [(ws.getD m 0 : Nat), (zs.getD m 0 : Nat), (m : Nat)]
def tMinLam (K : PySem.W.Frag) (TB : List (Addr × Str)) (iw iz : Nat) (te : TE) : TE := fun σ H Q => te σ H fun y H1 => ∃ (l lw lz : Addr) (ms ws zs : List Nat), y = .ref l ∧ SqL K H1 l (iN ms) ∧
  σ[iw]? = some (some (.ref lw)) ∧ σ[iz]? = some (some (.ref lz)) ∧ SqL K H1 lw (iN ws) ∧ SqL K H1 lz (iN zs) ∧ (∀ m ∈ ms, m < ws.length ∧ m < zs.length ∧ m < 1000) ∧ Tabs TB H1 ∧ (∀ a u, H1 a = some (.tbl u) → a ≠ l ∧ a ≠ lw ∧ a ≠ lz) ∧
  ∀ H2, ExtN H1 H2 → Tabs TB H2 → (ms = [] → Q .non H2) ∧ (∀ m, ms[firstLeast (ms.map (key3 ws zs)) (ms.length - 1)]? = some m → Q (.int (m : Int)) H2)
theorem seq_ext {K : PySem.W.Frag} {H1 H2 : Hp} {a : Addr} {xs : List V} (n : ExtN H1 H2) (h : SqL K H1 a xs) (ht : ∀ u, H1 a ≠ some (.tbl u)) : SqL K H2 a xs := by
  rcases h with (h | ⟨o, h⟩) | h
  · exact .inl (.inl (n _ _ h (fun ps q => by cases q)))
  · exact .inl (.inr ⟨o, n _ _ h (fun ps q => by cases q)⟩)
  · exact .inr h
theorem pe_minLam {nw nz nm : Str} {iw iz : Nat} {q1 q2 q3 q4 q5 q6 q7 q8 cp kp2 : Pos} {x1 j}
    (M : Maker X TB scope params (.Tuple [.Subscript (.Name nw q1) (.Name nm q2) q3, .Subscript (.Name nz q4) (.Name nm q5) q6, .Name nm q7] x1 q8) nm [nw, nz] [iw, iz] c T) (hr : Room k X.A) (hk : 3 ≤ k) (hc : X.calm = true) (hg : Gl X "min") (hm : X.mg "min" = none) (he : PE X e te)
    (na : starEach [e] X.env = (false, eval e X.env) :: starEach [] X.env := by rfl)
    (hd : [nw, nz, nm].all (fun y => !(y == ("__debug__" : Str)) && !(y == ("__classdict__" : Str))) = true := by decide +kernel)
    (h2 : (backTo pos (starEach [e] X.env)) = (false, eval e X.env) :: backTo pos (starEach [] X.env) := by rfl) (h3 : (backTo pos (starEach [e] X.env)).any (·.1) = false := by rfl) :
    PE X (.Call (.Name "min" p) [e] [⟨some "key", .Lambda params (.Tuple [.Subscript (.Name nw q1) (.Name nm q2) q3, .Subscript (.Name nz q4) (.Name nm q5) q6, .Name nm q7] x1 q8) scope lpos, kp⟩, ⟨some "default", .Constant .none j cp, kp2⟩] pos) (tMinLam X.K TB iw iz te) := by
  refine ⟨fun pins s σ H Q I h => ?_⟩
  refine wpAny_Call_Name_kw (ld_blt I hg hm boot_min ?_)
  refine PyProof.Rows.callWith_kw (args_cons (thn (he.run pins s σ H _ I h) fun u s1 ⟨y, H1, I1, ry, hy⟩ => args_nil ?_) na) h2 h3 (by rfl) (by rfl)
  obtain ⟨l, lw, lz, ms, ws, zs, rfl, hl, hiw, hiz, hw, hz, hms, hT, htb, K⟩ := hy
  obtain rfl : u = .ref l := ry
  show wpAny _ _ (evalAll [(do let v ← eval (.Lambda params _ scope lpos) X.env; standAt pos; pure v), (do let v ← eval (.Constant .none j cp) X.env; standAt pos; pure v)]) _ _ s1
  refine wpAny_evalAll_cons (wpAny_bind (M.make I1 hT fun f c' pm ctv H2 s2 I2 eN T2 hf hcr => wpAny_bind (wpAny_standAt (wpAny_pure ?_))))
  refine wpAny_evalAll_cons (wpAny_bind (Constant_none (wpAny_bind (wpAny_standAt (wpAny_pure (wpAny_evalAll_nil ?_))))))
  show wpAny _ _ (call (.builtin "min") [.ref l] [(Str.ofString "key", .ref f), (Str.ofString "default", .none)]) _ _ s2
  obtain ⟨its, rv, pl, hsz⟩ := I2.list (seq_ext eN hl fun u q => (htb _ _ q).1 rfl)
  obtain ⟨iw', rw', pw, hszw⟩ := I2.list (seq_ext eN hw fun u q => (htb _ _ q).2.1 rfl)
  obtain ⟨iz', rz', pz, hszz⟩ := I2.list (seq_ext eN hz fun u q => (htb _ _ q).2.2 rfl)
  simp only [List.all_cons, List.all_nil, Bool.and_true, Bool.and_eq_true, Bool.not_eq_true'] at hd
  obtain ⟨⟨dw, dw'⟩, ⟨dz, dz'⟩, dm, dm'⟩ := hd
  obtain ⟨aw, uw, ew, ruw, cw⟩ := M.cell I2 (i := 0) (j := iw) rfl rfl hiw
  obtain ⟨az, uz, ez, ruz, cz⟩ := M.cell I2 (i := 1) (j := iz) rfl rfl hiz
  obtain rfl : uw = .ref lw := ruw
  obtain rfl : uz = .ref lz := ruz
  have fin : ∀ (i : Nat) (v : Value), its.toArray[i]? = some v → ∃ m t, ms[i]? = some m ∧ v = .int (m : Int) t := fun i v hv => by
    have hv' : its[i]? = some v := by simpa using hv
    have hlt := (List.getElem?_eq_some_iff.mp hv').1
    have hle := rv.length
    rw [List.length_map] at hle
    have hm' : ms[i]? = some ms[i] := List.getElem?_eq_getElem (by omega)
    obtain ⟨u, hu, ru⟩ := rv.get (iN_get hm')
    rw [hv'] at hu
    cases hu
    obtain ⟨t, rfl⟩ := ru
    exact ⟨_, t, hm', rfl⟩
  have item : ∀ {ns : List Nat} {it : List Value}, Vals (iN ns) it → ∀ m, m < ns.length → ∃ t, it.toArray[((m : Int)).toNat]? = some (.int ((ns.getD m 0 : Nat) : Int) t) := fun {ns it} r m hm => by
    have h1 : ns[m]? = some ns[m] := List.getElem?_eq_getElem hm
    obtain ⟨u, hu, ru⟩ := r.get (iN_get h1)
    obtain ⟨t, rfl⟩ := ru
    refine ⟨t, ?_⟩
    rw [Int.toNat_natCast, List.getD_eq_getElem?_getD, h1]
    simpa using hu
  have room := (hr.mono hk).in1
  refine min_by (ks := ms.map (key3 ws zs)) hr.hd pl.isList (by rw [List.length_map, List.size_toArray, ← rv.length, List.length_map]) (by have := hr.units; omega) (fun i v k hv hk' => ?_) (fun h0 g tk hg => ?_) fun h1 v g tk hv hg => ?_
  · obtain ⟨m, t, hm', rfl⟩ := fin i v hv
    rw [List.getElem?_map, hm'] at hk'
    cases hk'
    obtain ⟨b1, b2, b3⟩ := hms m (List.mem_of_getElem? hm')
    refine M.ask I2 hf hcr room.depth fun L B gB hn => ?_
    obtain ⟨tw, hiw'⟩ := item rw' m b1
    obtain ⟨tz, hiz'⟩ := item rz' m b2
    have loc : ∀ (q : Pos), PX X.prog X.w (X.A.in1.deeper (lamE (X.env.qual ++ "<lambda>") scope f c' (cloFrom X.env.cells scope.names []) L)) (lamE (X.env.qual ++ "<lambda>") scope f c' (cloFrom X.env.cells scope.names []) L) B (.Name nm q) (isI (m : Int)) := fun q =>
      px_loc (v := .int (m : Int) t) M.lam.kind M.lam.par hn par_look (fun _ => ⟨t, rfl⟩) dm
    refine px_triple (px_item (l := lw) (its := iw'.toArray) (px_free M.lam.kind (M.look _ (by simp)) ew (IsCell_grow gB cw) (fun _ => rfl) dw' dw) (loc _) (pw.isList.at fun o e => gB _ _ e) (Int.natCast_nonneg _) (by omega) hiw' (fun _ => ⟨_, rfl⟩) (fun _ _ => rfl))
      (px_item (l := lz) (its := iz'.toArray) (px_free M.lam.kind (M.look _ (by simp)) ez (IsCell_grow gB cz) (fun _ => rfl) dz' dz) (loc _) (pz.isList.at fun o e => gB _ _ e) (Int.natCast_nonneg _) (by omega) hiz' (fun _ => ⟨_, rfl⟩) (fun _ _ => rfl)) (loc _)
  · have z : ms = [] := by
      refine List.eq_nil_of_length_eq_zero ?_
      have := rv.length
      rw [List.length_map] at this
      rw [List.size_toArray] at h0
      omega
    exact ⟨.non, H2, I2.kept hg, rfl, (K H2 eN T2).1 z⟩
  · obtain ⟨m, t, hm', rfl⟩ := fin _ v hv
    have hle := rv.length
    rw [List.length_map] at hle
    rw [List.size_toArray, ← hle] at hm'
    exact ⟨.int (m : Int), H2, I2.kept hg, ⟨t, rfl⟩, (K H2 eN T2).2 m hm'⟩

/-! ### sorted(range(..), key=lambda n: (-hs[n].fld, n)) -/
def key2 (ws : List Nat) (i : Nat) : List Int := [-((ws.getD i 0 : Nat) : Int), (i : Nat)]
/-- range(a): a new object, told with its freshness -/
theorem new_range {a : Expr} {ta : TE} {p pos : Pos} (hg : Gl X "range") (hm : X.mg "range" = none) (ha : PE X a ta) {pins : List (Addr × Obj)} {σ : L2.St} {H : Hp} {s : Shared} {R : Value → Shared → Prop} {R1 : V → Hp → Prop} (I : Inv X pins σ H s) (na : starEach [a] X.env = (false, eval a X.env) :: starEach [] X.env)
    (h : ta σ H R1) (hq : ∀ y H1, R1 y H1 → ∃ n : Int, y = .int n ∧ ∀ (r : Addr) (o : Obj) (t1 t2 t3 : Tok) (s1 : Shared), Inv X (pins ++ [(r, o)]) σ H1 s1 → (∀ g : Heap, g.get? r = some o → IsRange g r 0 n 1 t1 t2 t3) → R (.ref r) s1) :
    wpAny (model X.prog X.w) X.A (eval (.Call (.Name "range" p) [a] [] pos) X.env) R X.xe s := by
  refine Call_ (ld_blt I hg hm boot_range (PyProof.Rows.callWith_type1 (one_arg ha I h (fun v s2 y H2 I2 r q => ?_) na) na))
  obtain ⟨n, rfl, q2⟩ := hq y H2 q
  obtain ⟨t, rfl⟩ := r
  refine call_range_1 ?_
  have nH := I2.hok.fresh (Nat.le_refl _)
  refine q2 s2.heap.objs.size { cls := .type "range", data := .fields #[.int 0 s2.toks, .int n t, .int 1 (s2.toks + 1)] } s2.toks t (s2.toks + 1) _ (Inv.pins_of (pins := pins) (I2.kept fun b u e => Heap.get?_push_of_some _ e) fun z hz => ?_) fun g hgo => hgo
  have I3 : Inv X pins σ H2 { s2 with heap := s2.heap.push { cls := .type "range", data := .fields #[.int 0 s2.toks, .int n t, .int 1 (s2.toks + 1)] }, toks := s2.toks + 2 } := I2.kept fun b u e => Heap.get?_push_of_some _ e
  rcases List.mem_append.mp hz with hz | hz
  · exact I3.pin z (List.mem_append_right _ hz)
  · rw [List.mem_singleton] at hz
    subst hz
    exact ⟨Heap.get?_push_size _ rfl, nH, Nat.ne_of_gt I2.lt, I2.nofs (Nat.le_refl _), fun v q => by cases q⟩
def tSortLam (K : PySem.W.Frag) (TB : List (Addr × Str)) (fld : Str) (ih : Nat) (ta : TE) : TE := fun σ H Q => ta σ H fun y H1 => ∃ (n : Nat) (lh : Addr) (as : List Addr) (ws : List Nat), y = .int (n : Int) ∧ n ≤ 1000 ∧
  σ[ih]? = some (some (.ref lh)) ∧ SqL K H1 lh (as.map V.ref) ∧ (∀ i, i < n → ∃ x dx C fs, as[i]? = some x ∧ H1 x = some (.ins C dx fs) ∧ Cls K C ∧ NoAttr K C fld ∧ fs.lookup fld = some (.int ((ws.getD i 0 : Nat) : Int))) ∧ Tabs TB H1 ∧ (∀ u, H1 lh ≠ some (.tbl u)) ∧
  ∀ H2, ExtN H1 H2 → Tabs TB H2 → ∀ q, H2 q = none → Q (.ref q) (upd H2 q (.lst (iN (sortBy n (key2 ws)))))
theorem each_vals : ∀ {vs : List Value} {is : List Nat}, PySem.W.EachIs natV vs is → Vals (iN is) vs
  | _, _, .nil => .nil
  | _, _, .cons h t => .cons h (each_vals t)
theorem pe_sortLam {a : Expr} {ta : TE} {nh nn fld : Str} {ih : Nat} {q1 q2 q3 q4 q5 q6 q7 rp rpos : Pos} {x1}
    (M : Maker X TB scope params (.Tuple [.UnaryOp .USub (.Attribute (.Subscript (.Name nh q1) (.Name nn q2) q3) fld q4) q5, .Name nn q6] x1 q7) nn [nh] [ih] c T) (hr : Room k X.A) (hk : 4 ≤ k) (hg : Gl X "sorted") (hm : X.mg "sorted" = none) (hg' : Gl X "range") (hm' : X.mg "range" = none) (ha : PE X a ta)
    (na : starEach [a] X.env = (false, eval a X.env) :: starEach [] X.env := by rfl)
    (hd : [nh, nn].all (fun y => !(y == ("__debug__" : Str)) && !(y == ("__classdict__" : Str))) = true := by decide +kernel)
    (n2 : starEach [.Call (.Name "range" rp) [a] [] rpos] X.env = (false, eval (.Call (.Name "range" rp) [a] [] rpos) X.env) :: starEach [] X.env := by rfl)
    (h2 : (backTo pos (starEach [.Call (.Name "range" rp) [a] [] rpos] X.env)) = (false, eval (.Call (.Name "range" rp) [a] [] rpos) X.env) :: backTo pos (starEach [] X.env) := by rfl) (h3 : (backTo pos (starEach [.Call (.Name "range" rp) [a] [] rpos] X.env)).any (·.1) = false := by rfl) :
    PE X (.Call (.Name "sorted" p) [.Call (.Name "range" rp) [a] [] rpos] [⟨some "key", .Lambda params (.Tuple [.UnaryOp .USub (.Attribute (.Subscript (.Name nh q1) (.Name nn q2) q3) fld q4) q5, .Name nn q6] x1 q7) scope lpos, kp⟩] pos) (tSortLam X.K TB fld ih ta) := by
  refine ⟨fun pins s σ H Q I h => ?_⟩
  refine wpAny_Call_Name_kw (ld_blt I hg hm boot_sorted ?_)
  refine PyProof.Rows.callWith_kw (args_cons (new_range hg' hm' ha I na h fun y H1 hy => ?_) n2) h2 h3 (by rfl) (by rfl)
  obtain ⟨n, lh, as, ws, rfl, hn, hih, hl, hins, hT, htb, K⟩ := hy
  refine ⟨_, rfl, fun r o t1 t2 t3 s1 I1 hrg => args_nil ?_⟩
  show wpAny _ _ (evalAll [(do let v ← eval (.Lambda params _ scope lpos) X.env; standAt pos; pure v)]) _ _ s1
  refine wpAny_evalAll_cons (wpAny_bind (M.make I1 hT fun f c' pm ctv H2 s2 I2 eN T2 hf hcr => wpAny_bind (wpAny_standAt (wpAny_pure (wpAny_evalAll_nil ?_)))))
  show wpAny _ _ (call (.builtin "sorted") [.ref r] [(Str.ofString "key", .ref f)]) _ _ s2
  have hrg2 := hrg s2.heap (I2.pin (r, o) (by simp)).1
  have I3 : Inv X pins σ H2 s2 := I2.unpinned
  obtain ⟨its, rv, pl, hsz⟩ := I3.list (seq_ext eN hl htb)
  simp only [List.all_cons, List.all_nil, Bool.and_true, Bool.and_eq_true, Bool.not_eq_true'] at hd
  obtain ⟨⟨dh, dh'⟩, dn, dn'⟩ := hd
  obtain ⟨ah, uh, eh, ruh, ch⟩ := M.cell I3 (i := 0) (j := ih) rfl rfl hih
  obtain rfl : uh = .ref lh := ruh
  have room := (hr.mono hk).in1.in1
  refine sort_by (key2 ws) (fun i => by simp [key2]) hr.hd hrg2 hn (by have := hr.units; omega) (fun i v hi hv => ?_) fun out cc q g tk hg hq hgo he => ?_
  · obtain ⟨t, rfl⟩ := hv
    obtain ⟨y, dx, C, fs, ey, ei, hC, hN, hfl⟩ := hins i hi
    obtain ⟨mA, O, rel, _⟩ := ins_get I3.hok (eN _ _ ei (fun ps q => by cases q))
    obtain ⟨u, hu, ru⟩ := RelO.some_of (v := .int ((ws.getD i 0 : Nat) : Int)) (o := mA fld) (by rw [← hfl]; exact rel fld)
    obtain ⟨tu, rfl⟩ := id ru
    have hy : its.toArray[((i : Int)).toNat]? = some (.ref y) := by
      obtain ⟨u2, hu2, r2⟩ := rv.get (i := i) (x := V.ref y) (by rw [List.getElem?_map, ey]; rfl)
      obtain rfl : u2 = .ref y := r2
      rw [Int.toNat_natCast]
      simpa using hu2
    refine M.ask I3 hf hcr room.depth fun L B gB hn' => ?_
    have loc : ∀ (q : Pos), PX X.prog X.w (X.A.in1.in1.deeper (lamE (X.env.qual ++ "<lambda>") scope f c' (cloFrom X.env.cells scope.names []) L)) (lamE (X.env.qual ++ "<lambda>") scope f c' (cloFrom X.env.cells scope.names []) L) B (.Name nn q) (isI (i : Int)) := fun q =>
      px_loc (v := .int (i : Int) t) M.lam.kind M.lam.par hn' par_look (fun _ => ⟨t, rfl⟩) dn
    have OB : ObjM B y dx C mA := by
      obtain ⟨o1, o2, o3⟩ := O
      exact ⟨gB _ _ o1, o2.at fun o e => gB _ _ e, o3⟩
    refine px_pair (px_neg (px_fld (K := X.K) (p := y) (px_item (l := lh) (its := its.toArray) (px_free M.lam.kind (M.look _ (by simp)) eh (IsCell_grow gB ch) (fun _ => rfl) dh' dh) (loc _) (pl.isList.at fun o e => gB _ _ e) (Int.natCast_nonneg _) (by omega) hy (fun _ => rfl) (fun _ _ => rfl))
      (fun b o e => gB _ _ (I3.kIn b o e)) OB hC hN hu (handed_of ru) (fun _ => ⟨tu, rfl⟩) rfl)) (loc _)
  · have nq : H2 q = none := by
      cases z : H2 q with
      | none => rfl
      | some u =>
        obtain ⟨o', e'⟩ := objOk_get (I3.hok q u z)
        rw [hq] at e'
        cases e'
    have hv := each_vals he
    refine ⟨.ref q, upd H2 q (.lst (iN (sortBy n (key2 ws)))), I3.laidN hg hq nq ⟨?_, out, cc, hv, hgo⟩, rfl, K H2 eN T2 q nq⟩
    rw [List.length_map, sizeLine_eq]
    have hln : (sortBy n (key2 ws)).length = n := by unfold sortBy; rw [List.length_mergeSort, List.length_range]
    omega
end
end HP

set_option linter.all false
/-! What min and sorted of the program pick: the best set, the order by weight. -/
namespace HP
open Kp411 (Weigher Hopper hopperAt weightOf members contains fillingSets)
open PySem (argBest)
theorem lex3 (a b c x y z : Nat) : ([(a : Int), (b : Int), (c : Int)] < [(x : Int), (y : Int), (z : Int)]) ↔ (a < x ∨ (a = x ∧ (b < y ∨ (b = y ∧ c < z)))) := by
  rw [List.cons_lt_cons_iff, List.cons_lt_cons_iff, List.cons_lt_cons_iff]
  simp only [List.not_lt_nil, and_false, or_false]
  omega
/-- over a rising list of masks the fold's best stands where argBest points -/
theorem best_at {w : Weigher} {ws zs : List Nat} : ∀ (ms : List Nat), ms.Pairwise (· < ·) → (∀ m ∈ ms, ws.getD m 0 = weightOf w m ∧ zs.getD m 0 = cnt w m) → ∀ k, k < ms.length →
    (ms.take (k + 1)).foldl (bestStep w) none = ms[firstLeast (ms.map (key3 ws zs)) k]? ∧ firstLeast (ms.map (key3 ws zs)) k ≤ k := fun ms hp hv k => by
  induction k with
  | zero =>
    intro hk
    cases ms with
    | nil => simp at hk
    | cons a r => exact ⟨rfl, Nat.le_refl _⟩
  | succ k ih =>
    intro hk
    obtain ⟨e, hle⟩ := ih (by omega)
    generalize hf : firstLeast (ms.map (key3 ws zs)) k = f at e hle
    have hfl : f < ms.length := by omega
    have e1 : ms[f]? = some ms[f] := List.getElem?_eq_getElem hfl
    have e2 : ms[k + 1]? = some ms[k + 1] := List.getElem?_eq_getElem hk
    have hlt : ms[f] < ms[k + 1] := List.pairwise_iff_getElem.mp hp f (k + 1) hfl hk (by omega)
    have g1 : (ms.map (key3 ws zs)).getD f [] = key3 ws zs ms[f] := by rw [List.getD_eq_getElem?_getD, List.getElem?_map, e1]; rfl
    have g2 : (ms.map (key3 ws zs)).getD (k + 1) [] = key3 ws zs ms[k + 1] := by rw [List.getD_eq_getElem?_getD, List.getElem?_map, e2]; rfl
    obtain ⟨v1, v2⟩ := hv _ (List.getElem_mem hfl)
    obtain ⟨v3, v4⟩ := hv _ (List.getElem_mem hk)
    have hb : (key3 ws zs ms[k + 1] < key3 ws zs ms[f]) ↔ better w ms[k + 1] ms[f] := by
      unfold key3 better
      rw [lex3, v1, v2, v3, v4]
      omega
    have es : firstLeast (ms.map (key3 ws zs)) (k + 1) = if better w ms[k + 1] ms[f] then k + 1 else f := by
      show (if decide ((ms.map (key3 ws zs)).getD (k + 1) [] < (ms.map (key3 ws zs)).getD (firstLeast (ms.map (key3 ws zs)) k) []) then k + 1 else firstLeast (ms.map (key3 ws zs)) k) = _
      rw [hf, g1, g2]
      by_cases c : better w ms[k + 1] ms[f]
      · rw [if_pos c, decide_eq_true (hb.mpr c), if_pos rfl]
      · rw [if_neg c, decide_eq_false (fun q => c (hb.mp q)), if_neg (by decide)]
    rw [List.take_add_one, e2, Option.toList_some, List.foldl_append, e, e1, es]
    show (if better w ms[k + 1] ms[f] then some ms[k + 1] else some ms[f]) = _ ∧ _
    by_cases c : better w ms[k + 1] ms[f]
    · rw [if_pos c, if_pos c]
      exact ⟨e2.symm, Nat.le_refl _⟩
    · rw [if_neg c, if_neg c]
      exact ⟨e1.symm, by omega⟩
theorem fills_rising (w : Weigher) : (fillingSets w).Pairwise (· < ·) := List.Pairwise.filter _ List.pairwise_lt_range
theorem best_none_of {w : Weigher} (h : fillingSets w = []) : Kp411.bestSet w = none := by rw [bestSet_eq, h]; rfl
theorem best_of {w : Weigher} {ws zs : List Nat} (hv : ∀ m ∈ fillingSets w, ws.getD m 0 = weightOf w m ∧ zs.getD m 0 = cnt w m) {m : Nat} (h : (fillingSets w)[firstLeast ((fillingSets w).map (key3 ws zs)) ((fillingSets w).length - 1)]? = some m) :
    Kp411.bestSet w = some m := by
  have hne : 0 < (fillingSets w).length := by
    cases e : fillingSets w with
    | nil => rw [e] at h; simp at h
    | cons a r => simp
  have q := (best_at (fillingSets w) (fills_rising w) hv ((fillingSets w).length - 1) (by omega)).1
  rw [show (fillingSets w).length - 1 + 1 = (fillingSets w).length by omega, List.take_length, h] at q
  exact q

/-! ### sorted -/
theorem ii_lt (a b : Nat) (i j : Nat) : (-(a : Int) < -(b : Int) ∨ (-(a : Int) = -(b : Int) ∧ (i : Int) ≤ (j : Int))) ↔ (b < a ∨ (b = a ∧ i ≤ j)) := by omega
theorem sortBy_ahead {w : Weigher} {n : Nat} {ws : List Nat} (hv : ∀ i, i < n → ws.getD i 0 = (hopperAt w i).weight) : (sortBy n (key2 ws)).Pairwise (ahead w) ∧ ∀ x, x ∈ sortBy n (key2 ws) ↔ x < n := by
  have el : (PySem.W.dataLe false fun i => tupD (key2 ws i)) = fun p q : Nat => decide (-((ws.getD p 0 : Nat) : Int) < -((ws.getD q 0 : Nat) : Int) ∨ (-((ws.getD p 0 : Nat) : Int) = -((ws.getD q 0 : Nat) : Int) ∧ ((p : Nat) : Int) ≤ ((q : Nat) : Int))) :=
    PySem.W.dataLe_ii (fun p : Nat => -((ws.getD p 0 : Nat) : Int)) (fun p : Nat => ((p : Nat) : Int))
  have hm : ∀ x, x ∈ sortBy n (key2 ws) ↔ x < n := fun x => by
    unfold sortBy
    rw [(List.mergeSort_perm _ _).mem_iff, List.mem_range]
  have nd : (sortBy n (key2 ws)).Nodup := by
    unfold sortBy
    exact (List.mergeSort_perm _ _).nodup_iff.mpr List.nodup_range
  refine ⟨?_, hm⟩
  have hs : (sortBy n (key2 ws)).Pairwise (fun p q => (PySem.W.dataLe false fun i => tupD (key2 ws i)) p q = true) := by
    unfold sortBy
    refine List.pairwise_mergeSort ?_ ?_ _
    · intro a b c h1 h2
      rw [el] at h1 h2 ⊢
      simp only [decide_eq_true_eq] at h1 h2 ⊢
      omega
    · intro a b
      rw [el]
      simp only [Bool.or_eq_true, decide_eq_true_eq]
      omega
  have hs2 := hs.and nd
  refine List.Pairwise.imp_of_mem ?_ hs2
  intro a b ha hb h
  obtain ⟨h1, h2⟩ := h
  rw [el] at h1
  simp only [decide_eq_true_eq] at h1
  rw [hv a ((hm a).mp ha), hv b ((hm b).mp hb)] at h1
  unfold ahead
  omega
end HP
namespace HP
open Kp411 (Weigher Hopper hopperAt weightOf members contains)
/-! ### the greedy set by a list of chosen numbers -/
def maskOf (c : List Nat) : Nat := (c.map fun i => 2 ^ i).sum
theorem maskOf_snoc (c : List Nat) (x : Nat) : maskOf (c ++ [x]) = maskOf c + 2 ^ x := by
  unfold maskOf
  rw [List.map_append, List.sum_append]
  simp
theorem maskOf_due (w : Weigher) : maskOf (Kp411.dueHoppers w) = dueSet w := rfl
theorem contains_maskOf {c : List Nat} (nd : c.Nodup) (j : Nat) : contains (maskOf c) j = decide (j ∈ c) := by
  have q := contains_sum c nd 0 (fun x _ => contains_zero x) j
  rw [Nat.zero_add, contains_zero, Bool.false_or] at q
  exact q
def pick (w : Weigher) (c : List Nat) (x : Nat) : List Nat := if weightOf w (maskOf c) < w.target ∧ x ∉ c then c ++ [x] else c
/-- no number twice, all of them hoppers -/
structure Chosen (w : Weigher) (c : List Nat) : Prop where
  nd : c.Nodup
  lt : ∀ x ∈ c, x < w.hoppers.length
theorem Chosen.due (w : Weigher) : Chosen w (Kp411.dueHoppers w) := ⟨dueHoppers_nodup w, fun _ h => (mem_due.mp h).1⟩
theorem Chosen.pick {w : Weigher} {c : List Nat} (C : Chosen w c) {x : Nat} (hx : x < w.hoppers.length) : Chosen w (pick w c x) := by
  unfold HP.pick
  split
  · rename_i h
    refine ⟨?_, fun y hy => ?_⟩
    · rw [List.nodup_append]
      exact ⟨C.nd, by simp, fun a ha b hb => by rw [List.mem_singleton] at hb; subst hb; exact fun q => h.2 (q ▸ ha)⟩
    · rcases List.mem_append.mp hy with hy | hy
      · exact C.lt y hy
      · rw [List.mem_singleton] at hy
        subst hy
        exact hx
  · exact C
theorem Chosen.fold {w : Weigher} : ∀ {l : List Nat} {c : List Nat}, Chosen w c → (∀ x ∈ l, x < w.hoppers.length) → Chosen w (l.foldl (HP.pick w) c)
  | [], _, C, _ => C
  | x :: l, c, C, h => by
    rw [List.foldl_cons]
    exact Chosen.fold (C.pick (h x (by simp))) fun y hy => h y (by simp [hy])
theorem Chosen.weight {w : Weigher} {c : List Nat} (C : Chosen w c) {x : Nat} (hx : x < w.hoppers.length) (n : x ∉ c) : weightOf w (maskOf (c ++ [x])) = weightOf w (maskOf c) + (hopperAt w x).weight := by
  rw [maskOf_snoc]
  refine weight_add ?_ hx
  rw [contains_maskOf C.nd]
  exact decide_eq_false n
theorem pick_length (w : Weigher) (c : List Nat) (x : Nat) : (pick w c x).length ≤ c.length + 1 := by
  unfold pick
  split
  · rw [List.length_append]; exact Nat.le_refl _
  · omega
theorem pick_len (w : Weigher) : ∀ (l c : List Nat), (l.foldl (pick w) c).length ≤ c.length + l.length
  | [], _ => Nat.le_refl _
  | x :: l, c => by
    rw [List.foldl_cons, List.length_cons]
    have h1 := pick_len w l (pick w c x)
    have h2 := pick_length w c x
    omega
theorem Chosen.mask {w : Weigher} {c : List Nat} (C : Chosen w c) : maskOf c < 2 ^ w.hoppers.length := by
  have q := sum_lt (n := w.hoppers.length) c C.nd C.lt 0 (Nat.two_pow_pos _) (fun x _ => contains_zero x)
  rw [Nat.zero_add] at q
  exact q
theorem pick_fold {w : Weigher} : ∀ (l c : List Nat), l.Nodup → (∀ x ∈ l, x ∈ c ↔ Kp411.isDue w x = true) → maskOf (l.foldl (pick w) c) = (l.filter fun i => !Kp411.isDue w i).foldl (takeStep w) (maskOf c)
  | [], _, _, _ => rfl
  | x :: l, c, nd, h => by
    rw [List.nodup_cons] at nd
    have step : ∀ y ∈ l, y ∈ pick w c x ↔ Kp411.isDue w y = true := fun y hy => by
      have hne : y ≠ x := fun q => nd.1 (q ▸ hy)
      rw [← h y (by simp [hy])]
      unfold pick
      split
      · simp [hne]
      · rfl
    rw [List.foldl_cons, pick_fold l _ nd.2 step]
    by_cases d : Kp411.isDue w x = true
    · have e1 : pick w c x = c := by
        unfold pick
        rw [if_neg fun q => q.2 ((h x (by simp)).mpr d)]
      rw [e1, List.filter_cons_of_neg (by simp [d])]
    · have hx : x ∉ c := fun q => d ((h x (by simp)).mp q)
      rw [List.filter_cons_of_pos (by simp [d]), List.foldl_cons]
      congr 1
      unfold pick takeStep
      by_cases z : w.target ≤ weightOf w (maskOf c)
      · rw [if_pos z, if_neg fun q => by omega]
      · rw [if_neg z, if_pos ⟨by omega, hx⟩, maskOf_snoc]
theorem greedy_is {w : Weigher} {l : List Nat} (hs : l.Pairwise (ahead w)) (hm : ∀ x, x ∈ l ↔ x < w.hoppers.length) : maskOf (l.foldl (pick w) (Kp411.dueHoppers w)) = greedyEnd w := by
  have nd : l.Nodup := hs.imp fun {a b} h q => by
    subst q
    exact ahead_asymm h h
  rw [pick_fold l _ nd fun x hx => by rw [mem_due]; exact ⟨fun q => q.2, fun q => ⟨(hm x).mp hx, q⟩⟩]
  unfold greedyEnd
  rw [greedyOrder_is (w := w) (l := others w) (r := l.filter fun i => !Kp411.isDue w i) (others_rising w) (hs.filter _) fun x => ?_]
  · rfl
  · rw [List.mem_filter, hm, mem_others]
    simp
end HP

set_option Elab.async false
set_option linter.all false
set_option maxRecDepth 100000
set_option maxHeartbeats 4000000
/-! The end of a row whose program makes functions while it runs: the tables of the code objects are tracked from the start. -/
namespace HP
open PySem PySem.Spec PyProof.Rows L2 LamX NdefX
open PySem.W (WData Codec OpenSpec Well WellAll ReadsW ReadsAllW CodeHd)
/-- the tables ts are tracked, empty; all else as in H -/
def withT (ts : List Addr) (H : Hp) : Hp := fun b => if b ∈ ts then some (.tbl #[]) else H b
theorem withT_in {ts : List Addr} {H : Hp} {b : Addr} (h : b ∈ ts) : withT ts H b = some (.tbl #[]) := by unfold withT; rw [if_pos h]
theorem withT_out {ts : List Addr} {H : Hp} {b : Addr} (h : b ∉ ts) : withT ts H b = H b := by unfold withT; rw [if_neg h]
abbrev emptyT : Obj := { cls := .none, data := .fields #[] }
section
variable {P : Program} {w : World} {K : PySem.W.Frag} {mg mb : Str → Option Value} {k : Nat} {fa : Addr} {fd : FuncData} {ps : List Str} {sp : Sp} {s1 : Shared} {vals : List Value} {ds : List WData} {R : PySem.W.WRecords} {cl : Str → Option Addr} {d0 : WData} {ts : List (Addr × Addr)}
theorem run_row (KX : K.In s1.heap) (hns : s1.heap.Ns mainGlobals mg) (hb : s1.heap.Ns builtinsNs mb) (hbb : ∀ x : Str, x ≠ "__name__" → mb x = bootBuiltins x) (hlim : s1.heap.NoLimit) (hg : s1.gens = #[])
    (hT : ∀ p ∈ ts, CodeHd s1.heap p.1 p.2 ∧ s1.heap.get? p.2 = some emptyT) (nT : ∀ p ∈ ts, K.lookup p.2 = none)
    (hbm : ∃ (bm : Addr) (ob : Obj), mg "__builtins__" = some (.ref bm) ∧ bm ≠ builtinsNs ∧ s1.heap.get? bm = some ob ∧ ob.cls = .type "module" ∧ ob.dict = some builtinsNs ∧ ob.data = .plain)
    (hwl : WellAll w.params s1.heap vals ds) (hpl : plWs ds = true) (hwt : ∀ d ∈ ds, d.weight ≤ 1048576) (hr : Room k callerA)
    (F : ∀ base : Heap, K.In base → base.Ns mainGlobals mg → (∀ p ∈ ts, TabB base mg p.1 p.2) → FnOk P w K mg base CX0 k fa fd ps sp) (hbind : ∀ (s : Shared) (us : List Value), us.length = ps.length → BindsTo s fd ⟨us, []⟩ (ps.zip us)) (hlen : ds.length = ps.length)
    (hsp : ∀ (H0 H : Hp) (xs : List V), Same H0 H → (∀ p ∈ ts, H p.2 = some (.tbl #[])) → DwAll K H0 xs ds → sp xs H (fun v H' => Dw K H' v d0) fun _ _ _ => False) :
    codeAny (model P w) callerA (.call (.ref fa) ⟨vals, []⟩) (fun r s' => ∃ u as, r = .ok (.ret u) ∧ ReadsW R cl s'.heap u d0 as ∧ OldK s1.heap s'.heap ∧ s'.os = s1.os ∧ AllBare s'.gens) s1 := by
  obtain ⟨A, inA, ar⟩ := area_all ds vals hwl hpl hwt
  have only := argH_only (K := K) ar
  have ok0 : HOk P w (argH K s1.heap A) s1.heap := argH_ok ar
  have data := dw_all KX ar ds vals hwl hpl inA
  have known : ∀ b u, argH K s1.heap A b = some u → K.lookup b = none ∧ ∃ vs : List Value, s1.heap.get? b = some { cls := .type "list", data := .seq vs.toArray } ∨ s1.heap.get? b = some { cls := .type "tuple", data := .seq vs.toArray } := fun b u q => by
    obtain ⟨z, vs, _, _, h⟩ := argH_is ar q
    exact ⟨z, vs, h.elim (fun h => .inl h.1) fun h => .inr h.1⟩
  generalize argH K s1.heap A = H0 at only ok0 data known
  let T := ts.map (·.2)
  have inT : ∀ b, b ∈ T → s1.heap.get? b = some emptyT ∧ K.lookup b = none := fun b hb => by
    obtain ⟨p, hp, rfl⟩ := List.mem_map.mp hb
    exact ⟨(hT p hp).2, nT p hp⟩
  have off : ∀ b u, H0 b = some u → b ∉ T := fun b u q hb => by
    obtain ⟨_, vs, z | z⟩ := known b u q
    · rw [(inT b hb).1] at z; cases z
    · rw [(inT b hb).1] at z; cases z
  have same : Same H0 (withT T H0) := fun b u q => by rw [withT_out (off b u q)]; exact q
  have ok : HOk P w (withT T H0) s1.heap := fun b u q => by
    by_cases hb : b ∈ T
    · rw [withT_in hb] at q
      cases q
      exact (inT b hb).1
    · rw [withT_out hb] at q
      exact (ok0 b u q).stay (fun _ _ _ e => e) (fun c e => same _ _ e) fun c xs e => same _ _ e
  -- what an object is that is tracked
  have kind : ∀ b o, s1.heap.get? b = some o → (∀ vs n, o.data ≠ .seq vs n) → o ≠ emptyT → withT T H0 b = none := fun b o e n1 n2 => by
    by_cases hb : b ∈ T
    · rw [(inT b hb).1] at e
      exact absurd (Option.some.inj e).symm n2
    · rw [withT_out hb]
      cases q : H0 b with
      | none => rfl
      | some u =>
        obtain ⟨_, vs, z | z⟩ := known b u q
        · rw [z] at e; cases e; exact (n1 _ _ rfl).elim
        · rw [z] at e; cases e; exact (n1 _ _ rfl).elim
  have base_of : ∀ {b : Addr} {o : Obj}, s1.heap.get? b = some o → (∀ vs n, o.data ≠ .seq vs n) → o ≠ emptyT → (hidT s1.heap (withT T H0)).get? b = some o := fun {b o} e n1 n2 => hidT_get e (kind b o e n1 n2)
  have ns_of : ∀ {b : Addr} {m : Str → Option Value}, s1.heap.Ns b m → (hidT s1.heap (withT T H0)).Ns b m := fun {b m} h => by
    obtain ⟨o, es, ep, e, d, r⟩ := h
    exact ⟨o, es, ep, base_of e (fun vs n z => by rw [d] at z; cases z) (fun z => by rw [z] at d; cases d), d, r⟩
  have kin : K.In (hidT s1.heap (withT T H0)) := fun b o e => by
    refine hidT_get (KX b o e) ?_
    by_cases hb : b ∈ T
    · rw [(inT b hb).2] at e; cases e
    · rw [withT_out hb]
      cases q : H0 b with
      | none => rfl
      | some u => rw [(known b u q).1] at e; cases e
  have hM : L2.Mod K mg (hidT s1.heap (withT T H0)) := by
    obtain ⟨mc, l1, l2⟩ := hlim
    exact ⟨kin, ns_of hns, ⟨mb, ns_of hb, hbb⟩, ⟨mc, ns_of l1, l2⟩⟩
  have tabs : ∀ p ∈ ts, TabB (hidT s1.heap (withT T H0)) mg p.1 p.2 := fun p hp => by
    have e0 := (hT p hp).2
    refine ⟨?_, ?_, fun z => ?_⟩
    · obtain ⟨o, us, file, tf, flags, tg, inF, text, tt, c1, c2, c3, rest⟩ := (hT p hp).1
      exact ⟨o, us, file, tf, flags, tg, inF, text, tt, base_of c1 (fun vs n z => by rw [c3] at z; cases z) (fun z => by rw [z] at c2; cases c2), c2, c3, rest⟩
    · obtain ⟨bm, ob, b1, b2, b3, b4, b5, b6⟩ := hbm
      refine ⟨bm, ob, b1, b2, fun q => ?_, fun q => ?_, base_of b3 (fun vs n z => by rw [b6] at z; cases z) (fun z => by rw [z] at b6; cases b6), b4, b5, b6⟩
      · obtain ⟨o, es, ep, e, hd, _⟩ := hns
        rw [q, e] at b3
        cases b3
        rw [hd] at b6
        cases b6
      · rw [q, e0] at b3
        cases b3
        cases b6
    · obtain ⟨o, es, ep, e, hd, _⟩ := hns
      rw [z, e0] at e
      cases e
      cases hd
  have e0 : Env0 P w K mg (hidT s1.heap (withT T H0)) callerA [] s1 (withT T H0) :=
    { frames := rfl, mod := hM, bs := fun b o e => of_hidT e, bsz := Nat.le_of_eq (hidT_size _ _), funs := trivial, frf := fun b hb => absurd (show b ∈ ([] : List Addr) from hb) (by simp), hok := ok, bare := .of_eq hg }
  have hl : vals.length = ps.length := (wellAll_len hwl).trans hlen
  have told := hsp H0 (withT T H0) (vals.map toV) same (fun p hp => withT_in (List.mem_map.mpr ⟨p, hp, rfl⟩)) data
  refine codeAny_mono ((F _ kin (ns_of hns) tabs).run callerA [] s1 (withT T H0) ⟨vals, []⟩ vals (vals.map toV) _ _ hr e0 (hbind s1 vals hl) (vals_toV inA) told) fun r s' x => ?_
  match r, x with
  | .error e, x => exact False.elim x
  | .ok .next, x => exact False.elim x
  | .ok .brk, x => exact False.elim x
  | .ok .cont, x => exact False.elim x
  | .ok (.ret u), ⟨v, H', os, bare, un, ok', rel, q⟩ =>
    have stay : ∀ b o, b ∉ T → s1.heap.get? b = some o → s'.heap.get? b = some o := fun b o nb e => by
      cases q2 : H0 b with
      | none => exact un.keep b o e (by rw [withT_out nb]; exact q2) (fun z => absurd (show b ∈ ([] : List Addr) from z) (by simp)) (by simp)
      | some u2 =>
        rcases only b with z | ⟨ob, u3, z⟩
        · rw [q2] at z; cases z
        · have a1 := (ok0 b _ z).1
          have a2 := (ok' b _ (un.frzs b ob _ (same _ _ z))).1
          rw [e] at a1
          cases a1
          exact a2
    have grown : ∀ b, b ∈ T → ∃ more : Array Value, s'.heap.get? b = some { cls := .none, data := .fields more } := fun b hb => by
      obtain ⟨more, z⟩ := un.tbls b #[] (withT_in hb)
      exact ⟨_, ok' b _ z⟩
    have KX' : K.In s'.heap := fun b o e => stay b o (fun hb => by rw [(inT b hb).2] at e; cases e) (KX b o e)
    obtain ⟨as, hrd⟩ := Dw.reads (R := R) (cl := cl) ok' KX' d0 v u q rel
    refine ⟨u, as, rfl, hrd, ⟨fun b o e => ?_, fun b o e => ?_⟩, os, bare⟩
    · by_cases hb : b ∈ T
      · obtain ⟨more, hm⟩ := grown b hb
        rw [(inT b hb).1] at e
        cases e
        obtain ⟨p, hp, ep⟩ := List.mem_map.mp hb
        obtain ⟨c1, c2⟩ := hT p hp
        have ct : isCodeTable s1.heap b := by
          rw [← ep]
          exact (c1.tab c2).isCodeTable
        exact .inr (.inl ⟨ct, rfl, #[], more, rfl, by rw [Array.empty_append]; exact hm⟩)
      · exact .inl (stay b o hb e)
    · by_cases hb : b ∈ T
      · obtain ⟨more, hm⟩ := grown b hb
        exact ⟨_, hm⟩
      · exact ⟨o, stay b o hb e⟩
end
/-- the goal that the head leaves, from the def's promise; ts: the tables of the defs that make functions -/
theorem walk_row {r : OpenSpec} {k : Nat} {q : Program} {loose : List Str} {XP : (Str → Option Value) → Heap → Prop} {YP : World → Heap → Prop} {d : DefRec} {K : Params → PySem.W.Frag} {ps : List Str} {sp : PySem.W.Frag → List (Addr × Addr) → Sp}
    (hwell : r.wellSaid = true) (hlen : r.args.length = ps.length) (hr : Room k callerA) (hY : ∀ (w : World) (h : Heap), YP w h → (K w.params).In h)
    (F : ∀ (w : World) (s0 : Shared) (mg mb : Str → Option Value) (fa : Addr) (h : Heap), YP w h → (K w.params).In h → PySem.W.Ground q loose [] XP w s0 mg mb h → mg d.name = some (.ref fa) →
      ∃ (fd : FuncData) (ts : List (Addr × Addr)), (∀ p ∈ ts, CodeHd h p.1 p.2 ∧ h.get? p.2 = some emptyT) ∧ (∀ p ∈ ts, (K w.params).lookup p.2 = none) ∧ (∀ (s : Shared) (us : List Value), us.length = ps.length → BindsTo s fd ⟨us, []⟩ (ps.zip us)) ∧
        ∀ base : Heap, (K w.params).In base → base.Ns mainGlobals mg → (∀ p ∈ ts, TabB base mg p.1 p.2) → FnOk r.prog w (K w.params) mg base CX0 k fa fd ps (sp (K w.params) ts))
    (hsp : ∀ (K : PySem.W.Frag) (ts : List (Addr × Addr)) (H0 H : Hp) (xs : List V) (a : Codec.denoteAll r.args), Codec.withinAll r.args a = true → Codec.app r.args r.asked a = true → Same H0 H → (∀ p ∈ ts, H p.2 = some (.tbl #[])) → DwAll K H0 xs (Codec.encAll r.args a) →
      sp K ts xs H (fun v H' => Dw K H' v (r.ret.enc (Codec.app r.args r.f a))) fun _ _ _ => False) :
    PySem.W.WalkOS q loose XP YP r d [] (fun f vs => PySem.call f vs) := by
  intro w s0 s1 mg mb G Y fa o pm cd doc dV kV ho hd hcd hD hmg hg args vals as hpre hlay hrd hwl hlo
  obtain ⟨a, e1, e2⟩ := PySem.W.os_pre_some hpre
  obtain ⟨rfl, hwi⟩ := Codec.encAll_of_decAll r.args args a e1
  obtain ⟨fd, ts, hT, nT, hb, hF⟩ := F w s0 mg mb fa _ Y (hY w _ Y) G hmg
  refine PySem.W.enter_call (codeAny_mono (run_row (R := []) (cl := classAt s0.heap) (d0 := r.ret.enc (Codec.app r.args r.f a)) (hY w _ Y) G.T.g G.T.b G.T.builtins G.T.nolimit hg hT nT G.T.bmain hwl (pl_encAll _ _) (layable_weight hlay) hr hF hb (by rw [encAll_len]; exact hlen)
    (fun H0 H xs hs ht hx => hsp _ ts H0 H xs a hwi e2 hs ht hx)) fun r' s' hq => ?_)
  obtain ⟨u, as', rfl, h1, h2, h3, h4⟩ := hq
  refine ⟨.inl ⟨u, _, as', rfl, fun _ => rfl, h1, ?_, fun z => ?_⟩, h2, h3, h4⟩
  · exact (OpenSpec.post_iff hwell hwi _ _).mpr rfl
  · exact Bool.noConfusion (show false = true from z)
end HP

set_option Elab.async false
set_option maxRecDepth 100000
set_option maxHeartbeats 4000000
/-! The text by places; how a weigher lies in the heap. -/
namespace HP
open PySem PySem.Spec PyProof.Rows L2
open C8 (Cal CalAt Met Mak)
open Kp411 (Weigher Hopper hopperAt)

def top (i : Nat) : Stmt := PySem.Challenge.pw_hopperset_s01_answers.main.body.getD i (.Pass ⟨0, 0, 0, 0⟩)
abbrev s_hopper_count_is_right : Stmt := top 14
abbrev N_hopper_count_is_right : List Str := ["hopper_count"]
theorem sc_hopper_count_is_right : FnScope N_hopper_count_is_right ["hopper_count"] (defScope s_hopper_count_is_right) := ⟨rfl, rfl, rfl, by decide +kernel, rfl, by decide +kernel, by decide +kernel⟩
abbrev s_target_is_right : Stmt := top 15
abbrev N_target_is_right : List Str := ["target"]
theorem sc_target_is_right : FnScope N_target_is_right ["target"] (defScope s_target_is_right) := ⟨rfl, rfl, rfl, by decide +kernel, rfl, by decide +kernel, by decide +kernel⟩
abbrev s_max_age_is_right : Stmt := top 16
abbrev N_max_age_is_right : List Str := ["max_age"]
theorem sc_max_age_is_right : FnScope N_max_age_is_right ["max_age"] (defScope s_max_age_is_right) := ⟨rfl, rfl, rfl, by decide +kernel, rfl, by decide +kernel, by decide +kernel⟩
abbrev s_weight_is_right : Stmt := top 17
abbrev N_weight_is_right : List Str := ["weight"]
theorem sc_weight_is_right : FnScope N_weight_is_right ["weight"] (defScope s_weight_is_right) := ⟨rfl, rfl, rfl, by decide +kernel, rfl, by decide +kernel, by decide +kernel⟩
abbrev s_weights_are_right : Stmt := top 18
abbrev N_weights_are_right : List Str := ["weights", "weight"]
theorem sc_weights_are_right : FnScope N_weights_are_right ["weights"] (defScope s_weights_are_right) := ⟨rfl, rfl, rfl, by decide +kernel, rfl, by decide +kernel, by decide +kernel⟩
abbrev s_bags_are_right : Stmt := top 19
abbrev N_bags_are_right : List Str := ["bags"]
theorem sc_bags_are_right : FnScope N_bags_are_right ["bags"] (defScope s_bags_are_right) := ⟨rfl, rfl, rfl, by decide +kernel, rfl, by decide +kernel, by decide +kernel⟩
abbrev s_sums_by_mask : Stmt := top 21
abbrev N_sums_by_mask : List Str := ["values", "sums", "value", "total"]
theorem sc_sums_by_mask : FnScope N_sums_by_mask ["values"] (defScope s_sums_by_mask) := ⟨rfl, rfl, rfl, by decide +kernel, rfl, by decide +kernel, by decide +kernel⟩
abbrev s_weights_by_mask : Stmt := top 22
abbrev N_weights_by_mask : List Str := ["weigher", "hopper"]
theorem sc_weights_by_mask : FnScope N_weights_by_mask ["weigher"] (defScope s_weights_by_mask) := ⟨rfl, rfl, rfl, by decide +kernel, rfl, by decide +kernel, by decide +kernel⟩
abbrev s_size_of : Stmt := top 23
abbrev N_size_of : List Str := ["mask", "number"]
theorem sc_size_of : FnScope N_size_of ["mask"] (defScope s_size_of) := ⟨rfl, rfl, rfl, by decide +kernel, rfl, by decide +kernel, by decide +kernel⟩
abbrev s_mask_of : Stmt := top 24
abbrev N_mask_of : List Str := ["numbers", "number"]
theorem sc_mask_of : FnScope N_mask_of ["numbers"] (defScope s_mask_of) := ⟨rfl, rfl, rfl, by decide +kernel, rfl, by decide +kernel, by decide +kernel⟩
abbrev s_filling_masks : Stmt := top 25
abbrev N_filling_masks : List Str := ["weigher", "target", "due", "weights", "mask", "weight"]
theorem sc_filling_masks : FnScope N_filling_masks ["weigher", "target"] (defScope s_filling_masks) := ⟨rfl, rfl, rfl, by decide +kernel, rfl, by decide +kernel, by decide +kernel⟩
abbrev s_best_mask : Stmt := top 26
abbrev N_best_mask : List Str := ["weigher", "target", "weights", "sizes", "masks", "hopper"]
theorem sc_best_mask : FnScope N_best_mask ["weigher", "target"] (defScope s_best_mask) := ⟨rfl, rfl, rfl, by decide +kernel, rfl, by decide +kernel, by decide +kernel⟩
abbrev s_numbers_by_weight : Stmt := top 27
abbrev N_numbers_by_weight : List Str := ["weigher", "hoppers"]
theorem sc_numbers_by_weight : FnScope N_numbers_by_weight ["weigher"] (defScope s_numbers_by_weight) := ⟨rfl, rfl, rfl, by decide +kernel, rfl, by decide +kernel, by decide +kernel⟩
abbrev s_greedy_mask : Stmt := top 28
abbrev N_greedy_mask : List Str := ["weigher", "chosen", "weight", "number"]
theorem sc_greedy_mask : FnScope N_greedy_mask ["weigher"] (defScope s_greedy_mask) := ⟨rfl, rfl, rfl, by decide +kernel, rfl, by decide +kernel, by decide +kernel⟩
abbrev s_reachable : Stmt := top 29
abbrev N_reachable : List Str := ["weigher", "found", "weight"]
theorem sc_reachable : FnScope N_reachable ["weigher"] (defScope s_reachable) := ⟨rfl, rfl, rfl, by decide +kernel, rfl, by decide +kernel, by decide +kernel⟩
abbrev s_Hopper_init : Stmt := inClass (top 31) 0
abbrev N_Hopper_init : List Str := ["self", "weight", "age"]
theorem sc_Hopper_init : FnScope N_Hopper_init ["self", "weight", "age"] (defScope s_Hopper_init) := ⟨rfl, rfl, rfl, by decide +kernel, rfl, by decide +kernel, by decide +kernel⟩
abbrev s_Hopper_is_empty : Stmt := inClass (top 31) 1
abbrev N_Hopper_is_empty : List Str := ["self"]
theorem sc_Hopper_is_empty : FnScope N_Hopper_is_empty ["self"] (defScope s_Hopper_is_empty) := ⟨rfl, rfl, rfl, by decide +kernel, rfl, by decide +kernel, by decide +kernel⟩
abbrev s_Hopper_load : Stmt := inClass (top 31) 2
abbrev N_Hopper_load : List Str := ["self", "weight"]
theorem sc_Hopper_load : FnScope N_Hopper_load ["self", "weight"] (defScope s_Hopper_load) := ⟨rfl, rfl, rfl, by decide +kernel, rfl, by decide +kernel, by decide +kernel⟩
abbrev s_Hopper_unload : Stmt := inClass (top 31) 3
abbrev N_Hopper_unload : List Str := ["self"]
theorem sc_Hopper_unload : FnScope N_Hopper_unload ["self"] (defScope s_Hopper_unload) := ⟨rfl, rfl, rfl, by decide +kernel, rfl, by decide +kernel, by decide +kernel⟩
abbrev s_Weigher_init : Stmt := inClass (top 32) 0
abbrev N_Weigher_init : List Str := ["self", "hopper_count", "target", "max_age", "number"]
theorem sc_Weigher_init : FnScope N_Weigher_init ["self", "hopper_count", "target", "max_age"] (defScope s_Weigher_init) := ⟨rfl, rfl, rfl, by decide +kernel, rfl, by decide +kernel, by decide +kernel⟩
abbrev s_Weigher_duplicate : Stmt := inClass (top 32) 1
abbrev N_Weigher_duplicate : List Str := ["self", "twin", "hopper"]
theorem sc_Weigher_duplicate : FnScope N_Weigher_duplicate ["self"] (defScope s_Weigher_duplicate) := ⟨rfl, rfl, rfl, by decide +kernel, rfl, by decide +kernel, by decide +kernel⟩
abbrev s_Weigher_first_empty : Stmt := inClass (top 32) 2
abbrev N_Weigher_first_empty : List Str := ["self", "hopper"]
theorem sc_Weigher_first_empty : FnScope N_Weigher_first_empty ["self"] (defScope s_Weigher_first_empty) := ⟨rfl, rfl, rfl, by decide +kernel, rfl, by decide +kernel, by decide +kernel⟩
abbrev s_Weigher_arrive : Stmt := inClass (top 32) 3
abbrev N_Weigher_arrive : List Str := ["self", "weight", "hopper"]
theorem sc_Weigher_arrive : FnScope N_Weigher_arrive ["self", "weight"] (defScope s_Weigher_arrive) := ⟨rfl, rfl, rfl, by decide +kernel, rfl, by decide +kernel, by decide +kernel⟩
abbrev s_Weigher_queue_length_after : Stmt := inClass (top 32) 4
abbrev N_Weigher_queue_length_after : List Str := ["self", "portion_count", "empty_count", "hopper"]
theorem sc_Weigher_queue_length_after : FnScope N_Weigher_queue_length_after ["self", "portion_count"] (defScope s_Weigher_queue_length_after) := ⟨rfl, rfl, rfl, by decide +kernel, rfl, by decide +kernel, by decide +kernel⟩
abbrev s_Weigher_is_due : Stmt := inClass (top 32) 5
abbrev N_Weigher_is_due : List Str := ["self", "hopper"]
theorem sc_Weigher_is_due : FnScope N_Weigher_is_due ["self", "hopper"] (defScope s_Weigher_is_due) := ⟨rfl, rfl, rfl, by decide +kernel, rfl, by decide +kernel, by decide +kernel⟩
abbrev s_Weigher_due_numbers : Stmt := inClass (top 32) 6
abbrev N_Weigher_due_numbers : List Str := ["self", "number", "hopper"]
theorem sc_Weigher_due_numbers : FnScope N_Weigher_due_numbers ["self"] (defScope s_Weigher_due_numbers) := ⟨rfl, rfl, rfl, by decide +kernel, rfl, by decide +kernel, by decide +kernel⟩
abbrev s_Weigher_set_limit : Stmt := inClass (top 32) 7
abbrev N_Weigher_set_limit : List Str := ["self"]
theorem sc_Weigher_set_limit : FnScope N_Weigher_set_limit ["self"] (defScope s_Weigher_set_limit) := ⟨rfl, rfl, rfl, by decide +kernel, rfl, by decide +kernel, by decide +kernel⟩
abbrev s_Weigher_weight_in : Stmt := inClass (top 32) 8
abbrev N_Weigher_weight_in : List Str := ["self", "mask", "number", "hopper"]
theorem sc_Weigher_weight_in : FnScope N_Weigher_weight_in ["self", "mask"] (defScope s_Weigher_weight_in) := ⟨rfl, rfl, rfl, by decide +kernel, rfl, by decide +kernel, by decide +kernel⟩
abbrev s_Weigher_fill_from : Stmt := inClass (top 32) 9
abbrev N_Weigher_fill_from : List Str := ["self", "mask", "number", "hopper"]
theorem sc_Weigher_fill_from : FnScope N_Weigher_fill_from ["self", "mask"] (defScope s_Weigher_fill_from) := ⟨rfl, rfl, rfl, by decide +kernel, rfl, by decide +kernel, by decide +kernel⟩
abbrev s_Weigher_refill : Stmt := inClass (top 32) 10
abbrev N_Weigher_refill : List Str := ["self", "hopper"]
theorem sc_Weigher_refill : FnScope N_Weigher_refill ["self", "hopper"] (defScope s_Weigher_refill) := ⟨rfl, rfl, rfl, by decide +kernel, rfl, by decide +kernel, by decide +kernel⟩
abbrev s_Weigher_throw_out : Stmt := inClass (top 32) 11
abbrev N_Weigher_throw_out : List Str := ["self", "hopper"]
theorem sc_Weigher_throw_out : FnScope N_Weigher_throw_out ["self", "hopper"] (defScope s_Weigher_throw_out) := ⟨rfl, rfl, rfl, by decide +kernel, rfl, by decide +kernel, by decide +kernel⟩
abbrev s_Request_init : Stmt := inClass (top 34) 0
abbrev N_Request_init : List Str := ["self"]
theorem sc_Request_init : FnScope N_Request_init ["self"] (defScope s_Request_init) := ⟨rfl, rfl, rfl, by decide +kernel, rfl, by decide +kernel, by decide +kernel⟩
abbrev s_create : Stmt := top 35
abbrev N_create : List Str := ["request", "numbers", "hopper_count", "target", "max_age"]
theorem sc_create : FnScope N_create ["request", "numbers"] (defScope s_create) := ⟨rfl, rfl, rfl, by decide +kernel, rfl, by decide +kernel, by decide +kernel⟩
abbrev s_add_portion : Stmt := top 36
abbrev N_add_portion : List Str := ["weigher", "numbers", "weight"]
theorem sc_add_portion : FnScope N_add_portion ["weigher", "numbers"] (defScope s_add_portion) := ⟨rfl, rfl, rfl, by decide +kernel, rfl, by decide +kernel, by decide +kernel⟩
abbrev s_add_portions : Stmt := top 37
abbrev N_add_portions : List Str := ["weigher", "weights", "weight"]
theorem sc_add_portions : FnScope N_add_portions ["weigher", "weights"] (defScope s_add_portions) := ⟨rfl, rfl, rfl, by decide +kernel, rfl, by decide +kernel, by decide +kernel⟩
abbrev s_set_target : Stmt := top 38
abbrev N_set_target : List Str := ["weigher", "numbers", "target", "old_target"]
theorem sc_set_target : FnScope N_set_target ["weigher", "numbers"] (defScope s_set_target) := ⟨rfl, rfl, rfl, by decide +kernel, rfl, by decide +kernel, by decide +kernel⟩
abbrev s_set_max_age : Stmt := top 39
abbrev N_set_max_age : List Str := ["weigher", "numbers", "max_age", "old_max_age"]
theorem sc_set_max_age : FnScope N_set_max_age ["weigher", "numbers"] (defScope s_set_max_age) := ⟨rfl, rfl, rfl, by decide +kernel, rfl, by decide +kernel, by decide +kernel⟩
abbrev s_get_hoppers : Stmt := top 40
abbrev N_get_hoppers : List Str := ["weigher", "numbers", "told", "hopper"]
theorem sc_get_hoppers : FnScope N_get_hoppers ["weigher", "numbers"] (defScope s_get_hoppers) := ⟨rfl, rfl, rfl, by decide +kernel, rfl, by decide +kernel, by decide +kernel⟩
abbrev s_get_queue : Stmt := top 41
abbrev N_get_queue : List Str := ["weigher", "numbers"]
theorem sc_get_queue : FnScope N_get_queue ["weigher", "numbers"] (defScope s_get_queue) := ⟨rfl, rfl, rfl, by decide +kernel, rfl, by decide +kernel, by decide +kernel⟩
abbrev s_due_hoppers : Stmt := top 42
abbrev N_due_hoppers : List Str := ["weigher", "numbers", "due"]
theorem sc_due_hoppers : FnScope N_due_hoppers ["weigher", "numbers"] (defScope s_due_hoppers) := ⟨rfl, rfl, rfl, by decide +kernel, rfl, by decide +kernel, by decide +kernel⟩
abbrev s_weight_of : Stmt := top 43
abbrev N_weight_of : List Str := ["weigher", "numbers", "mask"]
theorem sc_weight_of : FnScope N_weight_of ["weigher", "numbers"] (defScope s_weight_of) := ⟨rfl, rfl, rfl, by decide +kernel, rfl, by decide +kernel, by decide +kernel⟩
abbrev s_can_fill : Stmt := top 44
abbrev N_can_fill : List Str := ["weigher", "numbers", "mask"]
theorem sc_can_fill : FnScope N_can_fill ["weigher", "numbers"] (defScope s_can_fill) := ⟨rfl, rfl, rfl, by decide +kernel, rfl, by decide +kernel, by decide +kernel⟩
abbrev s_filling_set_count : Stmt := top 45
abbrev N_filling_set_count : List Str := ["weigher", "numbers"]
theorem sc_filling_set_count : FnScope N_filling_set_count ["weigher", "numbers"] (defScope s_filling_set_count) := ⟨rfl, rfl, rfl, by decide +kernel, rfl, by decide +kernel, by decide +kernel⟩
abbrev s_told_of_set : Stmt := top 46
abbrev N_told_of_set : List Str := ["weigher", "mask", "target"]
theorem sc_told_of_set : FnScope N_told_of_set ["weigher", "mask", "target"] (defScope s_told_of_set) := ⟨rfl, rfl, rfl, by decide +kernel, rfl, by decide +kernel, by decide +kernel⟩
abbrev s_best_set : Stmt := top 47
abbrev N_best_set : List Str := ["weigher", "numbers"]
theorem sc_best_set : FnScope N_best_set ["weigher", "numbers"] (defScope s_best_set) := ⟨rfl, rfl, rfl, by decide +kernel, rfl, by decide +kernel, by decide +kernel⟩
abbrev s_greedy_set : Stmt := top 48
abbrev N_greedy_set : List Str := ["weigher", "numbers"]
theorem sc_greedy_set : FnScope N_greedy_set ["weigher", "numbers"] (defScope s_greedy_set) := ⟨rfl, rfl, rfl, by decide +kernel, rfl, by decide +kernel, by decide +kernel⟩
abbrev s_fill_bag : Stmt := top 49
abbrev N_fill_bag : List Str := ["weigher", "numbers", "mask", "excess"]
theorem sc_fill_bag : FnScope N_fill_bag ["weigher", "numbers"] (defScope s_fill_bag) := ⟨rfl, rfl, rfl, by decide +kernel, rfl, by decide +kernel, by decide +kernel⟩
abbrev s_fill_best_bag : Stmt := top 50
abbrev N_fill_best_bag : List Str := ["weigher", "numbers", "mask", "told"]
theorem sc_fill_best_bag : FnScope N_fill_best_bag ["weigher", "numbers"] (defScope s_fill_best_bag) := ⟨rfl, rfl, rfl, by decide +kernel, rfl, by decide +kernel, by decide +kernel⟩
abbrev s_run : Stmt := top 51
abbrev N_run : List Str := ["weigher", "numbers", "bags", "bag_count", "total_excess", "mask"]
theorem sc_run : FnScope N_run ["weigher", "numbers"] (defScope s_run) := ⟨rfl, rfl, rfl, by decide +kernel, rfl, by decide +kernel, by decide +kernel⟩
abbrev s_best_set_for_target : Stmt := top 52
abbrev N_best_set_for_target : List Str := ["weigher", "numbers", "target"]
theorem sc_best_set_for_target : FnScope N_best_set_for_target ["weigher", "numbers"] (defScope s_best_set_for_target) := ⟨rfl, rfl, rfl, by decide +kernel, rfl, by decide +kernel, by decide +kernel⟩
abbrev s_preview_run : Stmt := top 53
abbrev N_preview_run : List Str := ["weigher", "numbers"]
theorem sc_preview_run : FnScope N_preview_run ["weigher", "numbers"] (defScope s_preview_run) := ⟨rfl, rfl, rfl, by decide +kernel, rfl, by decide +kernel, by decide +kernel⟩
abbrev s_reachable_weights : Stmt := top 54
abbrev N_reachable_weights : List Str := ["weigher", "numbers", "weights"]
theorem sc_reachable_weights : FnScope N_reachable_weights ["weigher", "numbers"] (defScope s_reachable_weights) := ⟨rfl, rfl, rfl, by decide +kernel, rfl, by decide +kernel, by decide +kernel⟩
abbrev s_totals : Stmt := top 55
abbrev N_totals : List Str := ["weigher", "numbers", "in_hoppers", "hopper"]
theorem sc_totals : FnScope N_totals ["weigher", "numbers"] (defScope s_totals) := ⟨rfl, rfl, rfl, by decide +kernel, rfl, by decide +kernel, by decide +kernel⟩
abbrev s_discard : Stmt := top 56
abbrev N_discard : List Str := ["weigher", "numbers", "number", "hopper", "weight"]
theorem sc_discard : FnScope N_discard ["weigher", "numbers"] (defScope s_discard) := ⟨rfl, rfl, rfl, by decide +kernel, rfl, by decide +kernel, by decide +kernel⟩
abbrev s_answer_call : Stmt := top 59
abbrev N_answer_call : List Str := ["request", "call_number", "numbers"]
theorem sc_answer_call : FnScope N_answer_call ["request", "call_number", "numbers"] (defScope s_answer_call) := ⟨rfl, rfl, rfl, by decide +kernel, rfl, by decide +kernel, by decide +kernel⟩
abbrev s_answers : Stmt := top 60
abbrev N_answers : List Str := ["calls", "request", "told", "at", "first", "behind", "told_of_call"]
theorem sc_answers : FnScope N_answers ["calls"] (defScope s_answers) := ⟨rfl, rfl, rfl, by decide +kernel, rfl, by decide +kernel, by decide +kernel⟩

/-! ### fields -/
theorem lk_here {k : Str} {v : V} {r : List (Str × V)} : List.lookup k ((k, v) :: r) = some v := by
  have e : (k == k) = true := beq_self_eq_true k
  simp only [List.lookup, e]
theorem lk_past {k g : Str} {v : V} {r : List (Str × V)} (h : (k == g) = false) : List.lookup k ((g, v) :: r) = List.lookup k r := by
  simp only [List.lookup, h]
theorem put_here {f : Str} {v x : V} {r : List (Str × V)} : putF f v ((f, x) :: r) = (f, v) :: r := if_pos rfl
theorem put_past {f g : Str} {v x : V} {r : List (Str × V)} (h : ¬ g = f) : putF f v ((g, x) :: r) = (g, x) :: putF f v r := if_neg h
theorem put_past' {f g : Str} {v x : V} {r r' : List (Str × V)} (h : ¬ g = f) (e : putF f v r = r') : putF f v ((g, x) :: r) = (g, x) :: r' := (put_past h).trans (by rw [e])
theorem lk_past' {k g : Str} {v : V} {r : List (Str × V)} {o : Option V} (h : (k == g) = false) (e : List.lookup k r = o) : List.lookup k ((g, v) :: r) = o := (lk_past h).trans e
theorem lk_none {m : Str} : ∀ {fs : List (Str × V)} (_ : (fs.map (·.1)).all (fun k => !(m == k)) = true), fs.lookup m = none
  | [], _ => rfl
  | (g, v) :: r, h => by
    rw [List.map_cons, List.all_cons, Bool.and_eq_true] at h
    exact lk_past' (by simpa using h.1) (lk_none h.2)

def vNats (l : List Nat) : List V := l.map fun (n : Nat) => V.int (n : Int)
def hF (h : Hopper) : List (Str × V) := [("weight", .int (h.weight : Int)), ("age", .int (h.age : Int))]
def wF (lh lq : Addr) (w : Weigher) : List (Str × V) := [("hoppers", .ref lh), ("target", .int (w.target : Int)), ("max_age", .int (w.maxAge : Int)), ("queue", .ref lq), ("received", .int (w.received : Int)), ("packed", .int (w.packed : Int)), ("bag_count", .int (w.bagCount : Int))]
def rF (o : Option Addr) : List (Str × V) := [("weigher", match o with | none => .non | some a => .ref a)]
def hKeys : List Str := ["weight", "age"]
def wKeys : List Str := ["hoppers", "target", "max_age", "queue", "received", "packed", "bag_count"]
theorem hF_no (h : Hopper) {m : Str} (e : hKeys.all (fun k => !(m == k)) = true) : (hF h).lookup m = none := lk_none e
theorem wF_no (lh lq : Addr) (w : Weigher) {m : Str} (e : wKeys.all (fun k => !(m == k)) = true) : (wF lh lq w).lookup m = none := lk_none e
theorem hF_weight (h : Hopper) : (hF h).lookup ("weight" : Str) = some (.int h.weight) := lk_here
theorem hF_age (h : Hopper) : (hF h).lookup ("age" : Str) = some (.int h.age) := lk_past' (by decide +kernel) lk_here
theorem hF_put_weight (h : Hopper) (x : Nat) : putF "weight" (.int (x : Int)) (hF h) = hF ⟨x, h.age⟩ := put_here
theorem hF_put_age (h : Hopper) (x : Nat) : putF "age" (.int (x : Int)) (hF h) = hF ⟨h.weight, x⟩ := put_past' (by decide +kernel) put_here
theorem hF_new (x y : Nat) : putF "age" (.int (y : Int)) (putF "weight" (.int (x : Int)) []) = hF ⟨x, y⟩ := (put_past' (by decide +kernel) rfl)
theorem wF_hoppers (lh lq : Addr) (w : Weigher) : (wF lh lq w).lookup ("hoppers" : Str) = some (.ref lh) := lk_here
theorem wF_target (lh lq : Addr) (w : Weigher) : (wF lh lq w).lookup ("target" : Str) = some (.int w.target) := lk_past' (by decide +kernel) lk_here
theorem wF_max_age (lh lq : Addr) (w : Weigher) : (wF lh lq w).lookup ("max_age" : Str) = some (.int w.maxAge) := lk_past' (by decide +kernel) (lk_past' (by decide +kernel) lk_here)
theorem wF_queue (lh lq : Addr) (w : Weigher) : (wF lh lq w).lookup ("queue" : Str) = some (.ref lq) := lk_past' (by decide +kernel) (lk_past' (by decide +kernel) (lk_past' (by decide +kernel) lk_here))
theorem wF_received (lh lq : Addr) (w : Weigher) : (wF lh lq w).lookup ("received" : Str) = some (.int w.received) := lk_past' (by decide +kernel) (lk_past' (by decide +kernel) (lk_past' (by decide +kernel) (lk_past' (by decide +kernel) lk_here)))
theorem wF_packed (lh lq : Addr) (w : Weigher) : (wF lh lq w).lookup ("packed" : Str) = some (.int w.packed) := lk_past' (by decide +kernel) (lk_past' (by decide +kernel) (lk_past' (by decide +kernel) (lk_past' (by decide +kernel) (lk_past' (by decide +kernel) lk_here))))
theorem wF_bag_count (lh lq : Addr) (w : Weigher) : (wF lh lq w).lookup ("bag_count" : Str) = some (.int w.bagCount) := lk_past' (by decide +kernel) (lk_past' (by decide +kernel) (lk_past' (by decide +kernel) (lk_past' (by decide +kernel) (lk_past' (by decide +kernel) (lk_past' (by decide +kernel) lk_here)))))
theorem wF_put_target (lh lq : Addr) (w : Weigher) (x : Nat) : putF "target" (.int (x : Int)) (wF lh lq w) = wF lh lq { w with target := x } := put_past' (by decide +kernel) put_here
theorem wF_put_max_age (lh lq : Addr) (w : Weigher) (x : Nat) : putF "max_age" (.int (x : Int)) (wF lh lq w) = wF lh lq { w with maxAge := x } := put_past' (by decide +kernel) (put_past' (by decide +kernel) put_here)
theorem wF_put_queue (lh lq lq' : Addr) (w : Weigher) : putF "queue" (.ref lq') (wF lh lq w) = wF lh lq' w := put_past' (by decide +kernel) (put_past' (by decide +kernel) (put_past' (by decide +kernel) put_here))
theorem wF_put_received (lh lq : Addr) (w : Weigher) (x : Nat) : putF "received" (.int (x : Int)) (wF lh lq w) = wF lh lq { w with received := x } := put_past' (by decide +kernel) (put_past' (by decide +kernel) (put_past' (by decide +kernel) (put_past' (by decide +kernel) put_here)))
theorem wF_put_packed (lh lq : Addr) (w : Weigher) (x : Nat) : putF "packed" (.int (x : Int)) (wF lh lq w) = wF lh lq { w with packed := x } := put_past' (by decide +kernel) (put_past' (by decide +kernel) (put_past' (by decide +kernel) (put_past' (by decide +kernel) (put_past' (by decide +kernel) put_here))))
theorem wF_put_bag_count (lh lq : Addr) (w : Weigher) (x : Nat) : putF "bag_count" (.int (x : Int)) (wF lh lq w) = wF lh lq { w with bagCount := x } := put_past' (by decide +kernel) (put_past' (by decide +kernel) (put_past' (by decide +kernel) (put_past' (by decide +kernel) (put_past' (by decide +kernel) (put_past' (by decide +kernel) put_here)))))
theorem rF_weigher (o : Option Addr) : (rF o).lookup ("weigher" : Str) = some (match o with | none => .non | some a => .ref a) := lk_here
theorem rF_put (o : Option Addr) (a : Addr) : putF "weigher" (.ref a) (rF o) = rF (some a) := put_here

/-! ### the heap -/
/-- all that was tracked is as it was, but at the addresses of fp -/
def Keep (fp : List Addr) (H H' : Hp) : Prop := ∀ b o, H b = some o → b ∉ fp → H' b = some o
theorem Same.keep {fp : List Addr} {H H' : Hp} (s : Same H H') : Keep fp H H' := fun b o e _ => s b o e
theorem Keep.trans {fp : List Addr} {H H1 H2 : Hp} (a : Keep fp H H1) (b : Keep fp H1 H2) : Keep fp H H2 := fun c o e n => b c o (a c o e n) n
theorem Keep.refl (fp : List Addr) (H : Hp) : Keep fp H H := fun _ _ e _ => e
theorem Keep.more {fp fq : List Addr} {H H' : Hp} (a : Keep fp H H') (s : ∀ x ∈ fp, x ∈ fq) : Keep fq H H' := fun c o e n => a c o e fun m => n (s c m)
theorem Keep.upd {fp : List Addr} {H : Hp} {a : Addr} {o : HO} (h : a ∈ fp) : Keep fp H (upd H a o) := fun b o' e n => by
  rw [upd_ne (fun q => n (by rw [q]; exact h))]
  exact e
theorem Same.upd {H : Hp} {a : Addr} {o : HO} (h : H a = none) : Same H (L2.upd H a o) := fun b o' e => by
  rw [upd_ne (ne_of_none e h)]
  exact e

/-! ### the tables of the code objects -/
open LamX (Tabs TabS TabB CodeO ExtN)
/-- all that was tracked is as it was, but at the addresses of fp and but the tables -/
def KeepT (fp : List Addr) (H H' : Hp) : Prop := ∀ b o, H b = some o → b ∉ fp → (∀ ps, o ≠ .tbl ps) → H' b = some o
theorem Keep.toT {fp : List Addr} {H H' : Hp} (k : Keep fp H H') : KeepT fp H H' := fun b o e n _ => k b o e n
theorem ExtN.toT {fp : List Addr} {H H' : Hp} (k : ExtN H H') : KeepT fp H H' := fun b o e _ n => k b o e n
theorem Same.ext {H H' : Hp} (s : Same H H') : ExtN H H' := fun b o e _ => s b o e
theorem KeepT.trans {fp : List Addr} {H H1 H2 : Hp} (a : KeepT fp H H1) (b : KeepT fp H1 H2) : KeepT fp H H2 := fun c o e n q => b c o (a c o e n q) n q
theorem KeepT.more {fp fq : List Addr} {H H' : Hp} (a : KeepT fp H H') (s : ∀ x ∈ fp, x ∈ fq) : KeepT fq H H' := fun c o e n q => a c o e (fun m => n (s c m)) q
/-- what stands at b is no table and no code object -/
def Plain (H : Hp) (b : Addr) : Prop := ∃ o, H b = some o ∧ (∀ ps, o ≠ .tbl ps) ∧ ∀ f, o ≠ .ext f
theorem tabs_keep {TB : List (Addr × Str)} {fp : List Addr} {H H' : Hp} (t : Tabs TB H) (pl : ∀ b ∈ fp, Plain H b) (k : Keep fp H H') : Tabs TB H' := fun p hp => by
  have off : ∀ b u, H b = some u → ((∃ ps, u = .tbl ps) ∨ ∃ f, u = .ext f) → b ∉ fp := fun b u e hu m => by
    obtain ⟨o, e', n1, n2⟩ := pl b m
    rw [e] at e'
    cases e'
    rcases hu with ⟨ps, q⟩ | ⟨f, q⟩
    · exact n1 ps q
    · exact n2 f q
  obtain ⟨ps, h1, h2, h3⟩ := t p hp
  refine ⟨ps, k _ _ h1 (off _ _ h1 (.inl ⟨_, rfl⟩)), h2, fun pos cv hc => ?_⟩
  obtain ⟨c, e1, e2⟩ := h3 pos cv hc
  exact ⟨c, e1, k _ _ e2 (off _ _ e2 (.inr ⟨_, rfl⟩))⟩
theorem tabs_same {TB : List (Addr × Str)} {H H' : Hp} (t : Tabs TB H) (s : Same H H') : Tabs TB H' := tabs_keep (fp := []) t (fun b m => by cases m) (Same.keep s)
/-- the table T of the code object c, of the def x that makes one lambda -/
structure Tabl (base : Heap) (mg : Str → Option Value) (TB : List (Addr × Str)) (x : Str) (c T : Addr) : Prop where
  tab : TabB base mg c T
  mem : (T, (x ++ ".<locals>.") ++ "<lambda>") ∈ TB
  one : ∀ p ∈ TB, p.1 = T → p.2 = (x ++ ".<locals>.") ++ "<lambda>"
def makerB (sc scope : Scope) (x : Str) (fr : List Str) : Bool :=
  decide (scope.kind = .function) && !scope.isCoroutine && !scope.isGenerator && scope.names.all (fun y => !decide (y.2 = .cell)) && decide (scope.names.lookup x = some .local) &&
    scope.names.all (fun y => !decide (y.2 = .free) || decide (sc.names.lookup y.1 = some .cell) || decide (sc.names.lookup y.1 = some .free)) && fr.all (fun y => decide ((y, NameKind.free) ∈ scope.names) && decide (scope.names.lookup y = some .free))
theorem maker_of {X : Cx} {TB : List (Addr × Str)} {sc scope : Scope} {params : Arguments} {body : Expr} {q x : Str} {fr : List Str} {js : List Nat} {c T : Addr} (t : Tabl X.base X.mg TB q c T) (hc : X.env.code = .ref c) (hq : X.env.qual = q ++ ".<locals>.") (hs : X.env.scope = sc) (hb : makerB sc scope x fr = true)
    (bind : ∀ (q : Str) (cl : List (Str × Addr)) (pm cv ctv v : Value), bindArgs (PySem.W.kla_fn "<lambda>" q params body scope cl pm cv ctv) ⟨[v], []⟩ = pure [(x, v)]) (hd : defaultsOf params X.env = ([], [])) (hj : js.map (fun j => X.N[j]?) = fr.map some) : Maker X TB scope params body x fr js c T := by
  unfold makerB at hb
  simp only [Bool.and_eq_true, Bool.or_eq_true, Bool.not_eq_true', decide_eq_true_eq, decide_eq_false_iff_not, List.all_eq_true] at hb
  obtain ⟨⟨⟨⟨⟨⟨h1, h2⟩, h3⟩, h4⟩, h5⟩, h6⟩, h7⟩ := hb
  exact { tab := t.tab, code := hc, mem := by rw [hq]; exact t.mem, one := fun p hp e => by rw [hq]; exact t.one p hp e, lam := ⟨h1, h2, h3, h4, h5, bind⟩, dflt := hd,
          free := fun y hy e => by
            rw [hs]
            rcases h6 y hy with (z | z) | z
            · exact absurd e z
            · exact .inl z
            · exact .inr z
          frm := fun y hy => (h7 y hy).1, look := fun y hy => (h7 y hy).2, js := hj }
/-- a def of the text whose code object is known -/
structure FunC (K : PySem.W.Frag) (x qual : Str) (st : Stmt) (f : Addr) (fd : FuncData) (c : Addr) : Prop where
  ex : ∃ (oc : Value) (od : Option Addr) (kV doc pm : Value) (an : Option Addr) (ct : Value) (osl : Array (Option Value)),
    fd = PySem.W.fnOf x qual (defArgs st) (defBody st) (defScope st) .none kV doc pm an (.ref c) ct ∧ K.lookup f = some ⟨oc, od, .func fd, osl⟩ ∧ PySem.W.codeIn K (.ref c) qual = true
theorem FunC.ok {P : Program} {w : World} {K : PySem.W.Frag} {mg : Str → Option Value} {base : Heap} {x qual : Str} {st : Stmt} {f c : Addr} {fd : FuncData} {N ps : List Str} {k : Nat} {sp : Sp} (F : FunC K x qual st f fd c) (S : FnScope N ps (defScope st)) (len : ∀ vs H Q E, sp vs H Q E → vs.length = ps.length)
    (body : ∀ (A : Around) (outer : List Env) (s : Shared) (H : Hp) (vs : List V) (Q : VK) (E : XK), Room k (A.deeper (envOfC qual (defScope st) s.heap.objs.size f (.ref c))) → sp vs H Q E →
      ∃ t, PSs (cxOf CX0 P w K mg base N qual (defScope st) f (.ref c) A outer s H E).nox (defBody st) t ∧ t { nx := fun _ H' => Q .non H', rt := Q } (start N vs) H) : FnOk P w K mg base CX0 (k + 1) f fd ps sp := by
  obtain ⟨oc, od, kV, doc, pm, an, ct, osl, rfl, lk, hcd⟩ := F.ex
  refine fn_of lk hcd S len fun A outer s H vs Q E hr hsp => ?_
  obtain ⟨t, h1, h2⟩ := body A outer s H vs Q E hr hsp
  exact ⟨t, h1.nox, h2⟩

def HAt (CH : Addr) (H : Hp) (x : Addr) (h : Hopper) : Prop := ∃ dx, H x = some (.ins CH dx (hF h))
/-- at a the weigher w: its list of hoppers at lh, these at as, its queue at lq -/
structure WAt (CH CW : Addr) (H : Hp) (a lh lq : Addr) (as : List Addr) (w : Weigher) : Prop where
  obj : ∃ dx, H a = some (.ins CW dx (wF lh lq w))
  lst : H lh = some (.lst (as.map V.ref))
  que : H lq = some (.lst (vNats w.queue))
  nd : as.Nodup
  len : as.length = w.hoppers.length
  hop : ∀ (j : Nat) (x : Addr), as[j]? = some x → ∃ h, w.hoppers[j]? = some h ∧ HAt CH H x h
  ne : lh ≠ lq
  na : a ∉ as
def own (a lh lq : Addr) (as : List Addr) : List Addr := a :: lh :: lq :: as
section
variable {CH CW : Addr} {H H' : Hp} {a lh lq : Addr} {as : List Addr} {w : Weigher}
theorem WAt.same (W : WAt CH CW H a lh lq as w) (s : Same H H') : WAt CH CW H' a lh lq as w := by
  obtain ⟨dx, h1⟩ := W.obj
  refine ⟨⟨dx, s _ _ h1⟩, s _ _ W.lst, s _ _ W.que, W.nd, W.len, fun j x e => ?_, W.ne, W.na⟩
  obtain ⟨h, e1, dh, e2⟩ := W.hop j x e
  exact ⟨h, e1, dh, s _ _ e2⟩
theorem WAt.ext (W : WAt CH CW H a lh lq as w) (s : ExtN H H') : WAt CH CW H' a lh lq as w := by
  obtain ⟨dx, h1⟩ := W.obj
  refine ⟨⟨dx, s _ _ h1 (fun _ q => by cases q)⟩, s _ _ W.lst (fun _ q => by cases q), s _ _ W.que (fun _ q => by cases q), W.nd, W.len, fun j x e => ?_, W.ne, W.na⟩
  obtain ⟨h, e1, dh, e2⟩ := W.hop j x e
  exact ⟨h, e1, dh, s _ _ e2 (fun _ q => by cases q)⟩
theorem WAt.plain (W : WAt CH CW H a lh lq as w) : ∀ b ∈ own a lh lq as, Plain H b := fun b hb => by
  obtain ⟨dx, h1⟩ := W.obj
  have fin : ∀ {o : HO}, H b = some o → (∀ ps, o ≠ .tbl ps) → (∀ f, o ≠ .ext f) → Plain H b := fun h n1 n2 => ⟨_, h, n1, n2⟩
  rcases List.mem_cons.mp hb with rfl | hb
  · exact fin h1 (fun _ q => by cases q) fun _ q => by cases q
  · rcases List.mem_cons.mp hb with rfl | hb
    · exact fin W.lst (fun _ q => by cases q) fun _ q => by cases q
    · rcases List.mem_cons.mp hb with rfl | hb
      · exact fin W.que (fun _ q => by cases q) fun _ q => by cases q
      · obtain ⟨j, hj⟩ := List.mem_iff_getElem?.mp hb
        obtain ⟨h, _, dh, e2⟩ := W.hop j b hj
        exact fin e2 (fun _ q => by cases q) fun _ q => by cases q
theorem WAt.keep (W : WAt CH CW H a lh lq as w) {fp : List Addr} (s : Keep fp H H') (d : ∀ b ∈ own a lh lq as, b ∉ fp) : WAt CH CW H' a lh lq as w := by
  obtain ⟨dx, h1⟩ := W.obj
  refine ⟨⟨dx, s _ _ h1 (d _ (by simp [own]))⟩, s _ _ W.lst (d _ (by simp [own])), s _ _ W.que (d _ (by simp [own])), W.nd, W.len, fun j x e => ?_, W.ne, W.na⟩
  obtain ⟨h, e1, dh, e2⟩ := W.hop j x e
  exact ⟨h, e1, dh, s _ _ e2 (d _ (by have := List.mem_of_getElem? e; simp [own, this]))⟩
theorem WAt.at_ (W : WAt CH CW H a lh lq as w) {j : Nat} (hj : j < w.hoppers.length) : ∃ x, as[j]? = some x ∧ HAt CH H x (hopperAt w j) := by
  have hj' : j < as.length := by rw [W.len]; exact hj
  obtain ⟨h, e, q⟩ := W.hop j _ (List.getElem?_eq_getElem hj')
  refine ⟨as[j], List.getElem?_eq_getElem hj', ?_⟩
  rw [hopperAt_some e]
  exact q
theorem WAt.ne_hop (W : WAt CH CW H a lh lq as w) {x : Addr} {xs : List V} (hx : x ∈ as) {l : Addr} (hl : H l = some (.lst xs)) : x ≠ l := by
  obtain ⟨j, hj⟩ := List.mem_iff_getElem?.mp hx
  obtain ⟨h, _, dh, e⟩ := W.hop j x hj
  exact ne_of e hl (by intro q; cases q)
theorem WAt.ne_lh (W : WAt CH CW H a lh lq as w) : a ≠ lh := by
  obtain ⟨dx, h1⟩ := W.obj
  exact ne_of h1 W.lst (by intro q; cases q)
theorem WAt.ne_lq (W : WAt CH CW H a lh lq as w) : a ≠ lq := by
  obtain ⟨dx, h1⟩ := W.obj
  exact ne_of h1 W.que (by intro q; cases q)
/-- a store to the object's own fields -/
theorem WAt.put (W : WAt CH CW H a lh lq as w) {w' : Weigher} {dx : Addr} (eh : w'.hoppers = w.hoppers) (eq : w'.queue = w.queue) : WAt CH CW (upd H a (.ins CW dx (wF lh lq w'))) a lh lq as w' := by
  refine ⟨⟨dx, upd_same⟩, by rw [upd_ne (Ne.symm W.ne_lh)]; exact W.lst, by rw [upd_ne (Ne.symm W.ne_lq), eq]; exact W.que, W.nd, by rw [eh]; exact W.len, fun j x e => ?_, W.ne, W.na⟩
  obtain ⟨h, e1, dh, e2⟩ := W.hop j x e
  refine ⟨h, by rw [eh]; exact e1, dh, ?_⟩
  rw [upd_ne (fun q => W.na (by rw [← q]; exact List.mem_of_getElem? e))]
  exact e2
/-- another queue in the same list -/
theorem WAt.putQ (W : WAt CH CW H a lh lq as w) (q : List Nat) : WAt CH CW (upd H lq (.lst (vNats q))) a lh lq as { w with queue := q } := by
  obtain ⟨dx, h1⟩ := W.obj
  refine ⟨⟨dx, by rw [upd_ne W.ne_lq]; exact h1⟩, by rw [upd_ne W.ne]; exact W.lst, upd_same, W.nd, W.len, fun j x e => ?_, W.ne, W.na⟩
  obtain ⟨h, e1, dh, e2⟩ := W.hop j x e
  refine ⟨h, e1, dh, ?_⟩
  rw [upd_ne (W.ne_hop (List.mem_of_getElem? e) W.que)]
  exact e2
/-- one hopper changed -/
theorem WAt.putH (W : WAt CH CW H a lh lq as w) {j : Nat} {x : Addr} {h : Hopper} (hx : as[j]? = some x) (hA : HAt CH H' x h) (kp : Keep [x] H H') : WAt CH CW H' a lh lq as { w with hoppers := w.hoppers.set j h } := by
  obtain ⟨dx, h1⟩ := W.obj
  have mx : x ∈ as := List.mem_of_getElem? hx
  have nx : ∀ {b : Addr}, b ≠ x → b ∉ [x] := fun n m => n (List.mem_singleton.mp m)
  refine ⟨⟨dx, kp _ _ h1 (nx fun q => W.na (by rw [q]; exact mx))⟩, kp _ _ W.lst (nx (Ne.symm (W.ne_hop mx W.lst))), kp _ _ W.que (nx (Ne.symm (W.ne_hop mx W.que))), W.nd, by rw [W.len]; simp, fun j' x' e => ?_, W.ne, W.na⟩
  obtain ⟨h', e1, dh, e2⟩ := W.hop j' x' e
  by_cases hjj : j' = j
  · subst hjj
    rw [hx] at e
    cases e
    exact ⟨h, by rw [List.getElem?_set_self (List.getElem?_eq_some_iff.mp e1).1], hA⟩
  · refine ⟨h', by rw [List.getElem?_set_ne (fun q => hjj q.symm)]; exact e1, dh, kp _ _ e2 (nx fun q => hjj (nd_ix W.nd e (by rw [q]; exact hx)))⟩
theorem mem_own_a : a ∈ own a lh lq as := by simp [own]
theorem mem_own_q : lq ∈ own a lh lq as := by simp [own]
theorem mem_own_h : lh ∈ own a lh lq as := by simp [own]
theorem mem_own_x {x : Addr} (h : x ∈ as) : x ∈ own a lh lq as := by simp [own, h]
theorem Keep.one {x : Addr} (h : x ∈ as) (k : Keep [x] H H') : Keep (own a lh lq as) H H' := k.more fun y m => by
  rw [List.mem_singleton] at m
  subst m
  exact mem_own_x h
end
theorem vNats_nil : vNats [] = [] := rfl
theorem vNats_append (l r : List Nat) : vNats (l ++ r) = vNats l ++ vNats r := List.map_append
theorem vNats_one (n : Nat) : vNats [n] = [V.int (n : Int)] := rfl
theorem vNats_length (l : List Nat) : (vNats l).length = l.length := List.length_map ..
theorem vNats_get {l : List Nat} {i : Nat} {v : V} (h : (vNats l)[i]? = some v) : ∃ n, l[i]? = some n ∧ v = .int (n : Int) := by
  unfold vNats at h
  rw [List.getElem?_map] at h
  obtain ⟨n, e, rfl⟩ := Option.map_eq_some_iff.mp h
  exact ⟨n, e, rfl⟩
theorem map_ref_get {as : List Addr} {i : Nat} {v : V} (h : (as.map V.ref)[i]? = some v) : ∃ x, as[i]? = some x ∧ v = .ref x := by
  rw [List.getElem?_map] at h
  obtain ⟨n, e, rfl⟩ := Option.map_eq_some_iff.mp h
  exact ⟨n, e, rfl⟩
theorem map_int_get {ns : List Int} {i : Nat} {v : V} (h : (ns.map V.int)[i]? = some v) : ∃ x, ns[i]? = some x ∧ v = .int x := by
  rw [List.getElem?_map] at h
  obtain ⟨n, e, rfl⟩ := Option.map_eq_some_iff.mp h
  exact ⟨n, e, rfl⟩
theorem vNats_ofNat (l : List Nat) : vNats l = (l.map fun (n : Nat) => (n : Int)).map V.int := by
  unfold vNats
  rw [List.map_map]
  rfl

/-! ### what the top has written -/
structure Txt (K : PySem.W.Frag) (mg : Str → Option Value) (CH CW CR : Addr) : Prop where
  clH : Cls K CH
  clW : Cls K CW
  clR : Cls K CR
  nH_weight : NoAttr K CH "weight"
  nH_age : NoAttr K CH "age"
  nW_hoppers : NoAttr K CW "hoppers"
  nW_target : NoAttr K CW "target"
  nW_max_age : NoAttr K CW "max_age"
  nW_queue : NoAttr K CW "queue"
  nW_received : NoAttr K CW "received"
  nW_packed : NoAttr K CW "packed"
  nW_bag_count : NoAttr K CW "bag_count"
  nR_weigher : NoAttr K CR "weigher"
  b_len : mg "len" = none
  b_range : mg "range" = none
  b_enumerate : mg "enumerate" = none
  b_sum : mg "sum" = none
  b_all : mg "all" = none
  b_max : mg "max" = none
  b_min : mg "min" = none
  b_sorted : mg "sorted" = none
  b_list : mg "list" = none
  neHW : CH ≠ CW
  neHR : CH ≠ CR
  neWR : CW ≠ CR
  g_NO_WEIGHER : ∃ u, mg "NO_WEIGHER" = some u ∧ RelV (.int (-11)) u
  g_NO_HOPPER : ∃ u, mg "NO_HOPPER" = some u ∧ RelV (.int (-2)) u
  g_OUTSIDE_LIMITS : ∃ u, mg "OUTSIDE_LIMITS" = some u ∧ RelV (.int (-22)) u
  g_QUEUE_FULL : ∃ u, mg "QUEUE_FULL" = some u ∧ RelV (.int (-28)) u
  g_NO_FILLING_SET : ∃ u, mg "NO_FILLING_SET" = some u ∧ RelV (.int (-33)) u
  g_HOPPER_EMPTY : ∃ u, mg "HOPPER_EMPTY" = some u ∧ RelV (.int (-6)) u
  g_MOST_HOPPERS : ∃ u, mg "MOST_HOPPERS" = some u ∧ RelV (.int 8) u
  g_MOST_TARGET : ∃ u, mg "MOST_TARGET" = some u ∧ RelV (.int 999) u
  g_MOST_AGE : ∃ u, mg "MOST_AGE" = some u ∧ RelV (.int 9) u
  g_MOST_WEIGHT : ∃ u, mg "MOST_WEIGHT" = some u ∧ RelV (.int 300) u
  g_MOST_BAGS : ∃ u, mg "MOST_BAGS" = some u ∧ RelV (.int 12) u
  g_MOST_QUEUED : ∃ u, mg "MOST_QUEUED" = some u ∧ RelV (.int 24) u
  g_MOST_EXCESS_TOLD : ∃ u, mg "MOST_EXCESS_TOLD" = some u ∧ RelV (.int 19) u
  g_CREATE : ∃ u, mg "CREATE" = some u ∧ RelV (.int 0) u
end HP

set_option Elab.async false
set_option maxRecDepth 100000
set_option maxHeartbeats 4000000
namespace HP
open PySem PySem.Spec PyProof.Rows L2
open C8 (Cal CalAt Met Mak)
open Kp411 (Weigher Hopper hopperAt)
section
variable {P : Program} {w : World} {K : PySem.W.Frag} {mg : Str → Option Value} {base : Heap} {CH CW CR : Addr}

/-! ### limits -/
def spTest (p : Int → Bool) : Sp := fun vs H Q _ => ∃ i, vs = [.int i] ∧ Q (.bl (p i)) H
def inR (lo hi i : Int) : Bool := decide (lo ≤ i ∧ i ≤ hi)
theorem inR_t {lo hi i : Int} (h1 : lo ≤ i) (h2 : i ≤ hi) : inR lo hi i = true := decide_eq_true ⟨h1, h2⟩
theorem inR_f1 {lo hi i : Int} (h : ¬ lo ≤ i) : inR lo hi i = false := decide_eq_false fun q => h q.1
theorem inR_f2 {lo hi i : Int} (h : ¬ i ≤ hi) : inR lo hi i = false := decide_eq_false fun q => h q.2
/-- the two comparisons of a chain -/
theorem chain_in {lo hi i : Int} {Q : VK} {H : Hp} (h : Q (.bl (inR lo hi i)) H) :
    if decide (lo ≤ i) = true then (∃ a b, V.int i = V.int a ∧ V.int hi = V.int b ∧ Q (.bl (decide (a ≤ b))) H) else Q (.bl false) H := by
  by_cases c : lo ≤ i
  · rw [decide_eq_true c]
    refine iteT ⟨_, _, rfl, rfl, ?_⟩
    have e : inR lo hi i = decide (i ≤ hi) := by
      unfold inR
      by_cases d : i ≤ hi <;> simp [c, d]
    rw [← e]; exact h
  · rw [decide_eq_false c]
    refine iteF ?_
    rw [← inR_f1 (hi := hi) c]; exact h
theorem ok_hopper_count_is_right {f : Addr} {fd : FuncData} (F : Fun K "hopper_count_is_right" "hopper_count_is_right" s_hopper_count_is_right f fd) (T : Txt K mg CH CW CR) :
    FnOk P w K mg base CX0 1 f fd ["hopper_count"] (spTest (inR 1 8)) := by
  refine F.ok sc_hopper_count_is_right (fun vs H Q E h => ?_) (fun cdv A outer s H vs Q E hr h => ?_)
  · obtain ⟨i, rfl, _⟩ := h
    rfl
  · obtain ⟨i, rfl, k⟩ := h
    refine ⟨_, (pss_one (ps_ret (pe_chain op_le op_le pe_int (pv 0) (C8.pe_gc (by rfl) T.g_MOST_HOPPERS)))), ?_⟩
    exact ⟨_, rfl, _, _, rfl, rfl, _, rfl, chain_in k⟩
theorem ok_target_is_right {f : Addr} {fd : FuncData} (F : Fun K "target_is_right" "target_is_right" s_target_is_right f fd) (T : Txt K mg CH CW CR) :
    FnOk P w K mg base CX0 1 f fd ["target"] (spTest (inR 1 999)) := by
  refine F.ok sc_target_is_right (fun vs H Q E h => ?_) (fun cdv A outer s H vs Q E hr h => ?_)
  · obtain ⟨i, rfl, _⟩ := h
    rfl
  · obtain ⟨i, rfl, k⟩ := h
    refine ⟨_, (pss_one (ps_ret (pe_chain op_le op_le pe_int (pv 0) (C8.pe_gc (by rfl) T.g_MOST_TARGET)))), ?_⟩
    exact ⟨_, rfl, _, _, rfl, rfl, _, rfl, chain_in k⟩
theorem ok_max_age_is_right {f : Addr} {fd : FuncData} (F : Fun K "max_age_is_right" "max_age_is_right" s_max_age_is_right f fd) (T : Txt K mg CH CW CR) :
    FnOk P w K mg base CX0 1 f fd ["max_age"] (spTest (inR 0 9)) := by
  refine F.ok sc_max_age_is_right (fun vs H Q E h => ?_) (fun cdv A outer s H vs Q E hr h => ?_)
  · obtain ⟨i, rfl, _⟩ := h
    rfl
  · obtain ⟨i, rfl, k⟩ := h
    refine ⟨_, (pss_one (ps_ret (pe_chain op_le op_le pe_int (pv 0) (C8.pe_gc (by rfl) T.g_MOST_AGE)))), ?_⟩
    exact ⟨_, rfl, _, _, rfl, rfl, _, rfl, chain_in k⟩
theorem ok_weight_is_right {f : Addr} {fd : FuncData} (F : Fun K "weight_is_right" "weight_is_right" s_weight_is_right f fd) (T : Txt K mg CH CW CR) :
    FnOk P w K mg base CX0 1 f fd ["weight"] (spTest (inR 1 300)) := by
  refine F.ok sc_weight_is_right (fun vs H Q E h => ?_) (fun cdv A outer s H vs Q E hr h => ?_)
  · obtain ⟨i, rfl, _⟩ := h
    rfl
  · obtain ⟨i, rfl, k⟩ := h
    refine ⟨_, (pss_one (ps_ret (pe_chain op_le op_le pe_int (pv 0) (C8.pe_gc (by rfl) T.g_MOST_WEIGHT)))), ?_⟩
    exact ⟨_, rfl, _, _, rfl, rfl, _, rfl, chain_in k⟩

theorem ok_bags_are_right {f : Addr} {fd : FuncData} (F : Fun K "bags_are_right" "bags_are_right" s_bags_are_right f fd) (T : Txt K mg CH CW CR) :
    FnOk P w K mg base CX0 1 f fd ["bags"] (spTest (inR 1 12)) := by
  refine F.ok sc_bags_are_right (fun vs H Q E h => ?_) (fun cdv A outer s H vs Q E hr h => ?_)
  · obtain ⟨i, rfl, _⟩ := h
    rfl
  · obtain ⟨i, rfl, k⟩ := h
    refine ⟨_, (pss_one (ps_ret (pe_chain op_le op_le pe_int (pv 0) (C8.pe_gc (by rfl) T.g_MOST_BAGS)))), ?_⟩
    exact ⟨_, rfl, _, _, rfl, rfl, _, rfl, chain_in k⟩

/-! ### the hoppers -/
/-- the reader of one object changes nothing -/
def spHInit (CH : Addr) : Sp := fun vs H Q _ => ∃ (p dx : Addr) (x y : Nat), vs = [.ref p, .int (x : Int), .int (y : Int)] ∧ H p = some (.ins CH dx []) ∧ ∀ H' : Hp, HAt CH H' p ⟨x, y⟩ → Keep [p] H H' → Q .non H'
theorem ok_Hopper_init {f : Addr} {fd : FuncData} (F : Fun K "__init__" "Hopper.__init__" s_Hopper_init f fd) (T : Txt K mg CH CW CR) : FnOk P w K mg base CX0 1 f fd ["self", "weight", "age"] (spHInit CH) := by
  refine F.ok sc_Hopper_init (fun vs H Q E h => ?_) (fun cdv A outer s H vs Q E hr h => ?_)
  · obtain ⟨p, dx, x, y, rfl, _⟩ := h
    rfl
  · obtain ⟨p, dx, x, y, rfl, hp, k⟩ := h
    refine ⟨_, (pss_cons (ps_fld (pv 0) (pv 1) rfl)
      (pss_one (ps_fld (pv 0) (pv 2) rfl))), ?_⟩
    refine ⟨_, rfl, _, rfl, p, CH, dx, [], rfl, hp, T.clH, T.nH_weight, (by show 0 < 1000; decide), ?_⟩
    refine ⟨_, rfl, _, rfl, p, CH, dx, _, rfl, upd_same, T.clH, T.nH_age, (by show 1 < 1000; decide), ?_⟩
    exact k _ ⟨dx, upd_same.trans (congrArg (fun q => some (HO.ins CH dx q)) (hF_new x y))⟩ ((Keep.upd (by simp)).trans (Keep.upd (by simp)))
def spIsEmpty (CH : Addr) : Sp := fun vs H Q _ => ∃ (x : Addr) (h : Hopper), vs = [.ref x] ∧ HAt CH H x h ∧ Q (.bl (h.weight == 0)) H
theorem ok_Hopper_is_empty {f : Addr} {fd : FuncData} (F : Fun K "is_empty" "Hopper.is_empty" s_Hopper_is_empty f fd) (T : Txt K mg CH CW CR) : FnOk P w K mg base CX0 1 f fd ["self"] (spIsEmpty CH) := by
  refine F.ok sc_Hopper_is_empty (fun vs H Q E h => ?_) (fun cdv A outer s H vs Q E hr h => ?_)
  · obtain ⟨x, h, rfl, _⟩ := h
    rfl
  · obtain ⟨x, h, rfl, ⟨dx, hx⟩, k⟩ := h
    refine ⟨_, (pss_one (ps_ret (pe_cmpR op_eq (pe_fldK K rfl (pv 0) rfl) pe_int (nomark _)))), ?_⟩
    refine ⟨_, rfl, x, CH, dx, _, _, rfl, hx, T.clH, T.nH_weight, hF_weight h, rfl, ?_⟩
    have e : decide (V.int (h.weight : Int) = V.int 0) = (h.weight == 0) := by
      by_cases c : h.weight = 0
      · simp [c]
      · have c' : ¬ (h.weight : Int) = 0 := by omega
        simp [c]
    show Q (.bl (decide (V.int (h.weight : Int) = V.int 0))) H
    rw [e]
    exact k
def spLoad (CH : Addr) : Sp := fun vs H Q _ => ∃ (x : Addr) (h : Hopper) (n : Nat), vs = [.ref x, .int (n : Int)] ∧ HAt CH H x h ∧ ∀ H' : Hp, HAt CH H' x ⟨n, 0⟩ → Keep [x] H H' → Q .non H'
theorem hF_len (h : Hopper) : (hF h).length < 1000 := by show 2 < 1000; decide
theorem wF_len (lh lq : Addr) (w : Weigher) : (wF lh lq w).length < 1000 := by show 7 < 1000; decide
theorem ok_Hopper_load {f : Addr} {fd : FuncData} (F : Fun K "load" "Hopper.load" s_Hopper_load f fd) (T : Txt K mg CH CW CR) : FnOk P w K mg base CX0 1 f fd ["self", "weight"] (spLoad CH) := by
  refine F.ok sc_Hopper_load (fun vs H Q E h => ?_) (fun cdv A outer s H vs Q E hr h => ?_)
  · obtain ⟨x, h, n, rfl, _⟩ := h
    rfl
  · obtain ⟨x, h, n, rfl, ⟨dx, hx⟩, k⟩ := h
    refine ⟨_, (pss_cons (ps_fld (pv 0) (pv 1) rfl)
      (pss_one (ps_fld (pv 0) pe_int rfl))), ?_⟩
    refine ⟨_, rfl, _, rfl, x, CH, dx, _, rfl, hx, T.clH, T.nH_weight, hF_len h, ?_⟩
    rw [hF_put_weight]
    refine ⟨_, rfl, x, CH, dx, _, rfl, upd_same, T.clH, T.nH_age, hF_len _, ?_⟩
    exact k _ ⟨dx, upd_same.trans (congrArg (fun q => some (HO.ins CH dx q)) (hF_put_age ⟨n, h.age⟩ 0))⟩ ((Keep.upd (by simp)).trans (Keep.upd (by simp)))
def spUnload (CH : Addr) : Sp := fun vs H Q _ => ∃ (x : Addr) (h : Hopper), vs = [.ref x] ∧ HAt CH H x h ∧ ∀ H' : Hp, HAt CH H' x ⟨0, 0⟩ → Keep [x] H H' → Q .non H'
theorem ok_Hopper_unload {f : Addr} {fd : FuncData} (F : Fun K "unload" "Hopper.unload" s_Hopper_unload f fd) (T : Txt K mg CH CW CR) (m_load : Met P w K mg base 1 CH "load" (spLoad CH) []) : FnOk P w K mg base CX0 2 f fd ["self"] (spUnload CH) := by
  refine F.ok sc_Hopper_unload (fun vs H Q E h => ?_) (fun cdv A outer s H vs Q E hr h => ?_)
  · obtain ⟨x, h, rfl, _⟩ := h
    rfl
  · obtain ⟨x, h, rfl, ⟨dx, hx⟩, k⟩ := h
    refine ⟨_, (pss_one (ps_expr (C8.pe_mt m_load hr (by decide) (pv 0) (pa_cons pe_int pa_nil)))), ?_⟩
    exact ⟨_, rfl, x, dx, _, rfl, hx, hF_no h (by decide +kernel), x, h, 0, rfl, ⟨dx, hx⟩, fun H1 h1 k1 => k H1 h1 k1⟩
end
end HP

set_option Elab.async false
set_option maxRecDepth 100000
set_option maxHeartbeats 4000000
namespace HP
open PySem PySem.Spec PyProof.Rows L2
open C8 (Cal CalAt Met Mak)
open Kp411 (Weigher Hopper hopperAt)
section
variable {P : Program} {w : World} {K : PySem.W.Frag} {mg : Str → Option Value} {base : Heap} {CH CW CR : Addr}
def w0 (n t m : Nat) : Weigher := ⟨List.replicate n ⟨0, 0⟩, t, m, [], 0, 0, 0⟩
def spWInit (CH CW : Addr) : Sp := fun vs H Q _ => ∃ (p dx : Addr) (n t m : Nat), vs = [.ref p, .int (n : Int), .int (t : Int), .int (m : Int)] ∧ n ≤ 8 ∧ H p = some (.ins CW dx []) ∧
  ∀ (H' : Hp) (lh lq : Addr) (as : List Addr), WAt CH CW H' p lh lq as (w0 n t m) → Keep [p] H H' → (∀ b ∈ lh :: lq :: as, H b = none) → Q .non H'
theorem put_new {f : Str} {v : V} : ∀ {fs : List (Str × V)} (ks : List Str) (_ : fs.map (·.1) = ks) (_ : ks.all (fun k => !(k == f)) = true), putF f v fs = fs ++ [(f, v)]
  | [], _, _, _ => rfl
  | (g, x) :: r, ks, e, h => by
    subst e
    rw [List.map_cons, List.all_cons, Bool.and_eq_true] at h
    exact put_past' (by simpa using h.1) (put_new _ rfl h.2)
theorem wF_new (lh lq : Addr) (n t m : Nat) : putF "bag_count" (.int 0) (putF "packed" (.int 0) (putF "received" (.int 0) (putF "queue" (.ref lq) (putF "max_age" (.int (m : Int)) (putF "target" (.int (t : Int)) (putF "hoppers" (.ref lh) [])))))) = wF lh lq (w0 n t m) := by
  have e1 : putF "hoppers" (.ref lh) ([] : List (Str × V)) = ([("hoppers", .ref lh)] : List (Str × V)) := put_new [] rfl (by decide +kernel)
  have e2 : putF "target" (.int (t : Int)) ([("hoppers", .ref lh)] : List (Str × V)) = ([("hoppers", .ref lh), ("target", .int (t : Int))] : List (Str × V)) := put_new ["hoppers"] rfl (by decide +kernel)
  have e3 : putF "max_age" (.int (m : Int)) ([("hoppers", .ref lh), ("target", .int (t : Int))] : List (Str × V)) = ([("hoppers", .ref lh), ("target", .int (t : Int)), ("max_age", .int (m : Int))] : List (Str × V)) := put_new ["hoppers", "target"] rfl (by decide +kernel)
  have e4 : putF "queue" (.ref lq) ([("hoppers", .ref lh), ("target", .int (t : Int)), ("max_age", .int (m : Int))] : List (Str × V)) = ([("hoppers", .ref lh), ("target", .int (t : Int)), ("max_age", .int (m : Int)), ("queue", .ref lq)] : List (Str × V)) := put_new ["hoppers", "target", "max_age"] rfl (by decide +kernel)
  have e5 : putF "received" (.int 0) ([("hoppers", .ref lh), ("target", .int (t : Int)), ("max_age", .int (m : Int)), ("queue", .ref lq)] : List (Str × V)) = ([("hoppers", .ref lh), ("target", .int (t : Int)), ("max_age", .int (m : Int)), ("queue", .ref lq), ("received", .int 0)] : List (Str × V)) := put_new ["hoppers", "target", "max_age", "queue"] rfl (by decide +kernel)
  have e6 : putF "packed" (.int 0) ([("hoppers", .ref lh), ("target", .int (t : Int)), ("max_age", .int (m : Int)), ("queue", .ref lq), ("received", .int 0)] : List (Str × V)) = ([("hoppers", .ref lh), ("target", .int (t : Int)), ("max_age", .int (m : Int)), ("queue", .ref lq), ("received", .int 0), ("packed", .int 0)] : List (Str × V)) := put_new ["hoppers", "target", "max_age", "queue", "received"] rfl (by decide +kernel)
  rw [e1, e2, e3, e4, e5, e6]
  exact put_new ["hoppers", "target", "max_age", "queue", "received", "packed"] rfl (by decide +kernel)
theorem nodup_snoc {as : List Addr} {x : Addr} (h : as.Nodup) (n : x ∉ as) : (as ++ [x]).Nodup := by
  rw [List.nodup_append]
  exact ⟨h, by simp, fun a ha b hb => by rw [List.mem_singleton] at hb; subst hb; exact fun q => n (q ▸ ha)⟩
theorem ok_Weigher_init {f : Addr} {fd : FuncData} (F : Fun K "__init__" "Weigher.__init__" s_Weigher_init f fd) (T : Txt K mg CH CW CR) (k_Hopper : Mak P w K mg base 1 "Hopper" CH (spHInit CH) []) : FnOk P w K mg base CX0 3 f fd ["self", "hopper_count", "target", "max_age"] (spWInit CH CW) := by
  refine F.ok sc_Weigher_init (fun vs H Q E h => ?_) (fun cdv A outer s H vs Q E hr h => ?_)
  · obtain ⟨p, dx, n, t, m, rfl, _⟩ := h
    rfl
  · obtain ⟨p, dx, n, t, m, rfl, hn, hp, k⟩ := h
    refine ⟨_, (pss_cons (ps_fld (pv 0) (pe_lc (own := [("number", 4)]) (g := (gName 4)) (tt := tYes) rfl sc_Weigher_init.nd (pi_range1 (by rfl) T.b_range (pa_cons (pv 1) pa_nil)) (blkOk_by (N := N_Weigher_init) (sc := defScope s_Weigher_init) (by decide +kernel)) (fun _ _ _ _ _ => (pg_name (i := 4) sc_Weigher_init.nd rfl (Or.inl rfl))) (fun _ _ _ _ _ => pts_nil) (fun _ _ _ _ _ => (C8.pe_mk k_Hopper hr (by decide) (by rfl) (pa_cons pe_int (pa_cons pe_int pa_nil))))) rfl)
      (pss_cons (ps_fld (pv 0) (pv 2) rfl)
      (pss_cons (ps_fld (pv 0) (pv 3) rfl)
      (pss_cons (ps_fld (pv 0) (pe_lst pa_nil) rfl)
      (pss_cons (ps_fld (pv 0) pe_int rfl)
      (pss_cons (ps_fld (pv 0) pe_int rfl)
      (pss_one (ps_fld (pv 0) pe_int rfl)))))))), ?_⟩
    refine ⟨_, rfl, n, rfl, by omega, by omega, fun D hD => ?_⟩
    have npD : p ≠ D := ne_of_none hp hD
    refine lc_range (lo := 0) (n := ((n : Int)).toNat) (fun i H1 => ∃ as : List Addr, as.length = i ∧ as.Nodup ∧ H1 D = some (.lst (as.map V.ref)) ∧ (∀ x ∈ as, HAt CH H1 x ⟨0, 0⟩ ∧ H x = none) ∧ Same H H1)
      ⟨[], rfl, by simp, upd_same, by simp, Same.upd hD⟩ ?_ ?_
    · rintro i H1 hi ⟨as, hl, hnd, hD1, hx, hs⟩
      refine ⟨rfl, ?_⟩
      dsimp only [tYes]
      rw [if_pos rfl]
      intro x dx1 nx ndx nex
      refine ⟨x, dx1, 0, 0, rfl, upd_same, fun H2 hA kp => ⟨rfl, as.map V.ref, ?_, ?_, as ++ [x], ?_, ?_, ?_, ?_, ?_⟩⟩
      · refine kp _ _ ?_ (by rw [List.mem_singleton]; exact ne_of_none hD1 nx)
        rw [upd_ne (ne_of_none hD1 nx), upd_ne (ne_of_none hD1 ndx)]
        exact hD1
      · rw [List.length_map, hl]
        exact small1000 (by omega)
      · rw [List.length_append, hl]; rfl
      · refine nodup_snoc hnd fun m => ?_
        obtain ⟨⟨_, q⟩, _⟩ := hx x m
        rw [nx] at q
        cases q
      · rw [upd_same, List.map_append]; rfl
      · have nxD : x ≠ D := (ne_of_none hD1 nx).symm
        intro y hy
        rcases List.mem_append.mp hy with hy | hy
        · obtain ⟨⟨dy, q⟩, qn⟩ := hx y hy
          have nyx : y ≠ x := ne_of_none q nx
          refine ⟨⟨dy, ?_⟩, qn⟩
          rw [upd_ne (ne_of q hD1 (by intro z; cases z))]
          refine kp _ _ ?_ (by rw [List.mem_singleton]; exact nyx)
          rw [upd_ne nyx, upd_ne (ne_of_none q ndx)]
          exact q
        · rw [List.mem_singleton] at hy
          subst hy
          obtain ⟨dz, q⟩ := hA
          exact ⟨⟨dz, by rw [upd_ne nxD]; exact q⟩, hs.free nx⟩
      · intro b o e
        have e1 := hs b o e
        rw [upd_ne (ne_of_none e hD)]
        refine kp _ _ ?_ (by rw [List.mem_singleton]; exact ne_of_none e1 nx)
        rw [upd_ne (ne_of_none e1 nx), upd_ne (ne_of_none e1 ndx)]
        exact e1
    · rintro H1 ⟨as, hl, hnd, hD1, hx, hs⟩
      have hl : as.length = n := hl
      have hp1 := hs _ _ hp
      have npa : p ∉ as := fun m => by
        obtain ⟨_, q⟩ := hx p m
        rw [hp] at q
        cases q
      have nDa : D ∉ as := fun m => by
        obtain ⟨⟨_, q⟩, _⟩ := hx D m
        rw [hD1] at q
        cases q
      refine ⟨_, rfl, p, CW, dx, [], rfl, hp1, T.clW, T.nW_hoppers, (by show 0 < 1000; decide), ?_⟩
      refine ⟨_, rfl, _, rfl, p, CW, dx, _, rfl, upd_same, T.clW, T.nW_target, (by show 1 < 1000; decide), ?_⟩
      refine ⟨_, rfl, _, rfl, p, CW, dx, _, rfl, upd_same, T.clW, T.nW_max_age, (by show 2 < 1000; decide), ?_⟩
      refine ⟨Nat.zero_le _, fun q hq => ?_⟩
      have npq : p ≠ q := ne_of_none upd_same hq
      rw [upd_ne (Ne.symm npq), upd_ne (Ne.symm npq), upd_ne (Ne.symm npq)] at hq
      refine ⟨_, rfl, p, CW, dx, _, rfl, (upd_ne npq).trans upd_same, T.clW, T.nW_queue, (by show 3 < 1000; decide), ?_⟩
      refine ⟨_, rfl, p, CW, dx, _, rfl, upd_same, T.clW, T.nW_received, (by show 4 < 1000; decide), ?_⟩
      refine ⟨_, rfl, p, CW, dx, _, rfl, upd_same, T.clW, T.nW_packed, (by show 5 < 1000; decide), ?_⟩
      refine ⟨_, rfl, p, CW, dx, _, rfl, upd_same, T.clW, T.nW_bag_count, (by show 6 < 1000; decide), ?_⟩
      have nqD : D ≠ q := ne_of_none hD1 hq
      have nqa : ∀ x ∈ as, x ≠ q := fun x m => by
        obtain ⟨⟨_, z⟩, _⟩ := hx x m
        exact ne_of_none z hq
      refine k _ D q as ⟨⟨dx, ?_⟩, ?_, ?_, hnd, by rw [hl]; simp [w0], fun j x e => ?_, nqD, npa⟩ ?_ ?_
      · refine upd_same.trans (congrArg (fun z => some (HO.ins CW dx z)) ?_)
        exact wF_new D q n t m
      · rw [upd_ne (Ne.symm npD), upd_ne (Ne.symm npD), upd_ne (Ne.symm npD), upd_ne (Ne.symm npD), upd_ne nqD, upd_ne (Ne.symm npD), upd_ne (Ne.symm npD), upd_ne (Ne.symm npD)]
        exact hD1
      · rw [upd_ne (Ne.symm npq), upd_ne (Ne.symm npq), upd_ne (Ne.symm npq), upd_ne (Ne.symm npq), upd_same]
        rfl
      · have m := List.mem_of_getElem? e
        obtain ⟨⟨dy, z⟩, _⟩ := hx x m
        have nxp : x ≠ p := fun y => npa (y ▸ m)
        refine ⟨⟨0, 0⟩, ?_, dy, ?_⟩
        · have hj := (List.getElem?_eq_some_iff.mp e).1
          simp [w0, List.getElem?_replicate]
          omega
        · rw [upd_ne nxp, upd_ne nxp, upd_ne nxp, upd_ne nxp, upd_ne (nqa x m), upd_ne nxp, upd_ne nxp, upd_ne nxp]
          exact z
      · intro b o e n
        have nbp : b ≠ p := fun q => n (by rw [q]; simp)
        have e1 := hs b o e
        rw [upd_ne nbp, upd_ne nbp, upd_ne nbp, upd_ne nbp, upd_ne (ne_of_none e1 hq), upd_ne nbp, upd_ne nbp, upd_ne nbp]
        exact e1
      · intro b m
        rcases List.mem_cons.mp m with rfl | m
        · exact hD
        · rcases List.mem_cons.mp m with rfl | m
          · exact hs.free hq
          · exact (hx b m).2
end
end HP

set_option Elab.async false
set_option maxRecDepth 100000
set_option maxHeartbeats 4000000
namespace HP
open PySem PySem.Spec PyProof.Rows L2
open C8 (Cal CalAt Met Mak)
open Kp411 (Weigher Hopper hopperAt)
theorem bit_eq (m i : Nat) : Builtin.bitAnd ((m : Int) / 2 ^ ((i : Int)).toNat) 1 = ((m / 2 ^ i % 2 : Nat) : Int) := by
  rw [bitAnd_m1, Int.toNat_natCast]
  simp
theorem bit_true (m i : Nat) : (((m / 2 ^ i % 2 : Nat) : Int) != 0) = Kp411.contains m i := by
  unfold Kp411.contains
  have h : m / 2 ^ i % 2 < 2 := Nat.mod_lt _ (by decide)
  generalize m / 2 ^ i % 2 = b at h
  match b, h with
  | 0, _ => rfl
  | 1, _ => rfl
theorem sum_cast : ∀ l : List Nat, (l.map fun (n : Nat) => (n : Int)).sum = ((l.sum : Nat) : Int)
  | [] => rfl
  | a :: l => by
    rw [List.map_cons, List.sum_cons, List.sum_cons, sum_cast l]
    omega
section
variable {P : Program} {w : World} {K : PySem.W.Frag} {mg : Str → Option Value} {base : Heap} {CH CW CR : Addr}

/-! ### first_empty -/
def spFirstEmpty (CH CW : Addr) : Sp := fun vs H Q _ => ∃ (a lh lq : Addr) (as : List Addr) (w : Weigher), vs = [.ref a] ∧ WAt CH CW H a lh lq as w ∧
  (firstEmpty w = none → Q .non H) ∧ (∀ (i : Nat) (x : Addr), firstEmpty w = some i → as[i]? = some x → Q (.ref x) H)
theorem ok_Weigher_first_empty {f : Addr} {fd : FuncData} (F : Fun K "first_empty" "Weigher.first_empty" s_Weigher_first_empty f fd) (T : Txt K mg CH CW CR) (m_is_empty : Met P w K mg base 1 CH "is_empty" (spIsEmpty CH) []) :
    FnOk P w K mg base CX0 2 f fd ["self"] (spFirstEmpty CH CW) := by
  refine F.ok sc_Weigher_first_empty (fun vs H Q E h => ?_) (fun cdv A outer s H vs Q E hr h => ?_)
  · obtain ⟨a, lh, lq, as, w, rfl, _⟩ := h
    rfl
  · obtain ⟨a, lh, lq, as, w, rfl, W, kN, kS⟩ := h
    refine ⟨_, (pss_cons (ps_for PassesOwn.never rfl (pi_list (pe_fldK K rfl (pv 0) rfl)) (pg_name (i := 1) sc_Weigher_first_empty.nd rfl (Or.inl rfl))
      (pss_one (ps_if (pt_val (C8.pe_mt0 m_is_empty hr (by decide) (pv 1))) (pss_one (ps_ret (pv 1))) pss_nil)))
      (pss_one (ps_ret pe_non))), ?_⟩
    obtain ⟨dx, h1⟩ := W.obj
    refine ⟨_, rfl, a, CW, dx, _, _, rfl, h1, T.clW, T.nW_hoppers, wF_hoppers _ _ _, lh, rfl, ⟨_, SqL.of W.lst⟩, for_list (K := K) (a := lh) (xs := as.map V.ref) (fun i σ H' => H' = H ∧ (∃ v, σ = [some (.ref a), v]) ∧ ∀ j, j < i → emptyAt w j = false)
      ⟨rfl, ⟨_, rfl⟩, fun j hj => absurd hj (Nat.not_lt_zero _)⟩ (fun i σ H' _ ⟨e, _⟩ => by rw [e]; exact SqL.of W.lst) ?_ ?_⟩
    · rintro i y σ H' hi ⟨rfl, ⟨v, rfl⟩, hb⟩
      obtain ⟨x, hx, rfl⟩ := map_ref_get hi
      obtain ⟨h, eh, dh, hh⟩ := W.hop i x hx
      have hin : i < w.hoppers.length := (List.getElem?_eq_some_iff.mp eh).1
      have ee : emptyAt w i = (h.weight == 0) := by unfold emptyAt; rw [hopperAt_some eh]
      refine ⟨_, rfl, x, dh, _, rfl, hh, hF_no h (by decide +kernel), x, h, rfl, ⟨dh, hh⟩, _, rfl, ?_⟩
      by_cases c : (h.weight == 0) = true
      · refine if_true_of c ?_
        refine ⟨_, rfl, ?_⟩
        exact kS i x (find_range hin (by rw [ee]; exact c) hb) hx
      · refine if_false_of (eq_false_of_ne_true c) ?_
        refine ⟨rfl, ⟨_, rfl⟩, fun j hj => ?_⟩
        by_cases q : j = i
        · subst q
          rw [ee]
          exact eq_false_of_ne_true c
        · exact hb j (by omega)
    · rintro σ H' ⟨rfl, ⟨v, rfl⟩, hb⟩
      exact kN (find_range_none fun j hj => hb j (by rw [List.length_map, W.len]; exact hj))

/-! ### arrive -/
def spArrive (CH CW : Addr) : Sp := fun vs H Q _ => ∃ (a lh lq : Addr) (as : List Addr) (w : Weigher) (n : Nat), vs = [.ref a, .int (n : Int)] ∧ WAt CH CW H a lh lq as w ∧ w.queue.length ≤ 1000 ∧
  ∀ H' : Hp, WAt CH CW H' a lh lq as (Kp411.addPortion w n) → Keep (own a lh lq as) H H' → Q .non H'
theorem ok_Weigher_arrive {f : Addr} {fd : FuncData} (F : Fun K "arrive" "Weigher.arrive" s_Weigher_arrive f fd) (T : Txt K mg CH CW CR) (m_first_empty : Met P w K mg base 2 CW "first_empty" (spFirstEmpty CH CW) []) (m_load : Met P w K mg base 1 CH "load" (spLoad CH) []) :
    FnOk P w K mg base CX0 3 f fd ["self", "weight"] (spArrive CH CW) := by
  refine F.ok sc_Weigher_arrive (fun vs H Q E h => ?_) (fun cdv A outer s H vs Q E hr h => ?_)
  · obtain ⟨a, lh, lq, as, w, n, rfl, _⟩ := h
    rfl
  · obtain ⟨a, lh, lq, as, w, n, rfl, W, hq, k⟩ := h
    refine ⟨_, (pss_cons (ps_fldaug (pv 0) (pv 1) in_add)
      (pss_cons (ps_set (i := 2) sc_Weigher_arrive.nd rfl (Or.inl rfl) (C8.pe_mt0 m_first_empty hr (by decide) (pv 0)))
      (pss_one (ps_if (pt_cmp (pc_isN (pv 2))) (pss_one (ps_expr (pe_bm PySem.F.plainAttrs_list PySem.F.slot_list_append PySem.F.type_list_append mt_append (pe_fldK K rfl (pv 0) rfl) (pa_cons (pv 1) pa_nil)))) (pss_one (ps_expr (C8.pe_mt m_load hr (by decide) (pv 2) (pa_cons (pv 1) pa_nil)))))))), ?_⟩
    obtain ⟨dx, h1⟩ := W.obj
    refine ⟨_, rfl, a, CW, dx, _, _, rfl, h1, T.clW, T.nW_received, wF_received _ _ _, _, rfl, _, _, rfl, rfl, dx, _, h1, wF_len _ _ _, ?_⟩
    have e1 : putF "received" (.int ((w.received : Int) + (n : Int))) (wF lh lq w) = wF lh lq { w with received := w.received + n } := wF_put_received lh lq w (w.received + n)
    rw [e1]
    have W1 := W.put (w' := { w with received := w.received + n }) (dx := dx) rfl rfl
    have K1 : Keep (own a lh lq as) H (upd H a (.ins CW dx (wF lh lq { w with received := w.received + n }))) := Keep.upd mem_own_a
    generalize upd H a (.ins CW dx (wF lh lq { w with received := w.received + n })) = H1 at W1 K1
    obtain ⟨dx1, h2⟩ := W1.obj
    refine ⟨_, rfl, a, dx1, _, rfl, h2, wF_no _ _ _ (by decide +kernel), a, lh, lq, as, _, rfl, W1, fun e => ?_, fun i x e hx => ?_⟩
    · refine ⟨_, rfl, _, rfl, ?_⟩
      refine if_true_of (decide_eq_true rfl) ?_
      refine ⟨_, rfl, a, CW, dx1, _, _, rfl, h2, T.clW, T.nW_queue, wF_queue _ _ _, .inl ⟨rfl, _, SqL.of W1.que⟩, _, rfl, lq, _, _, rfl, rfl, W1.que, by rw [vNats_length]; exact small1000 hq, ?_⟩
      have W2 := W1.putQ (w.queue ++ [n])
      rw [vNats_append, vNats_one] at W2
      have ea : Kp411.addPortion w n = { w with queue := w.queue ++ [n], received := w.received + n } := addPortion_none e
      exact k _ (by rw [ea]; exact W2) (K1.trans (Keep.upd mem_own_q))
    · obtain ⟨h, eh, dh, hh⟩ := W1.hop i x hx
      refine ⟨_, rfl, _, rfl, ?_⟩
      refine if_false_of (decide_eq_false (by intro q; cases q)) ?_
      refine ⟨_, rfl, x, dh, _, rfl, hh, hF_no h (by decide +kernel), _, rfl, x, h, n, rfl, ⟨dh, hh⟩, fun H2 hA kp => ?_⟩
      have W2 := W1.putH hx hA kp
      have ea : Kp411.addPortion w n = { w with hoppers := w.hoppers.set i ⟨n, 0⟩, received := w.received + n } := addPortion_some e
      exact k _ (by rw [ea]; exact W2) (K1.trans (kp.one (List.mem_of_getElem? hx)))

/-! ### queue_length_after -/
def spQueueAfter (CH CW : Addr) : Sp := fun vs H Q _ => ∃ (a lh lq : Addr) (as : List Addr) (w : Weigher) (n : Nat), vs = [.ref a, .int (n : Int)] ∧ WAt CH CW H a lh lq as w ∧ w.hoppers.length ≤ 8 ∧
  ∀ H' : Hp, Same H H' → Q (.int ((w.queue.length + (n - empties w.hoppers) : Nat) : Int)) H'
theorem ok_Weigher_queue_length_after {f : Addr} {fd : FuncData} (F : Fun K "queue_length_after" "Weigher.queue_length_after" s_Weigher_queue_length_after f fd) (T : Txt K mg CH CW CR) (m_is_empty : Met P w K mg base 1 CH "is_empty" (spIsEmpty CH) []) :
    FnOk P w K mg base CX0 2 f fd ["self", "portion_count"] (spQueueAfter CH CW) := by
  refine F.ok sc_Weigher_queue_length_after (fun vs H Q E h => ?_) (fun cdv A outer s H vs Q E hr h => ?_)
  · obtain ⟨a, lh, lq, as, w, n, rfl, _⟩ := h
    rfl
  · obtain ⟨a, lh, lq, as, w, n, rfl, W, h8, k⟩ := h
    refine ⟨_, (pss_cons (ps_set (i := 2) sc_Weigher_queue_length_after.nd rfl (Or.inl rfl) (pe_callB call_len_seq (by rfl) T.b_len (by decide +kernel) (pa_cons (pe_lc (own := [("hopper", 3)]) (g := (gName 3)) rfl sc_Weigher_queue_length_after.nd (pi_list (pe_fldK K rfl (pv 0) rfl)) (blkOk_by (N := N_Weigher_queue_length_after) (sc := defScope s_Weigher_queue_length_after) (by decide +kernel)) (fun _ _ _ _ _ => (pg_name (i := 3) sc_Weigher_queue_length_after.nd rfl (Or.inl rfl))) (fun _ _ _ _ _ => pts_one (pt_val (C8.pe_mt0 m_is_empty hr (by decide) (pv 3)))) (fun _ _ _ _ _ => (pv 3))) pa_nil)))
      (pss_one (ps_ret (pe_op op_add (pe_callB call_len_seq (by rfl) T.b_len (by decide +kernel) (pa_cons (pe_fldK K rfl (pv 0) rfl) pa_nil)) (pe_callB (call_max2 rfl) (by rfl) T.b_max (by decide +kernel) (pa_cons pe_int (pa_cons (pe_op op_sub (pv 1) (pv 2)) pa_nil))))))), ?_⟩
    obtain ⟨dx, h1⟩ := W.obj
    refine ⟨_, rfl, a, CW, dx, _, _, rfl, h1, T.clW, T.nW_hoppers, wF_hoppers _ _ _, lh, rfl, ⟨_, SqL.of W.lst⟩, fun D hD => ?_⟩
    refine lc_list (K := K) (a := lh) (xs := as.map V.ref) (fun i H1 => Same H H1 ∧ ∃ xs, H1 D = some (.lst xs) ∧ xs.length = empties (w.hoppers.take i) ∧ xs.length ≤ i)
      ⟨Same.upd hD, [], upd_same, rfl, Nat.le_refl _⟩ (fun i H1 _ ⟨s, _⟩ => SqL.of (s _ _ W.lst)) ?_ ?_
    · rintro i y H1 hi ⟨s1, xs, hD1, hl, hle⟩
      obtain ⟨x, hx, rfl⟩ := map_ref_get hi
      obtain ⟨h, eh, dh, hh⟩ := W.hop i x hx
      have hin : i < w.hoppers.length := (List.getElem?_eq_some_iff.mp eh).1
      refine ⟨rfl, _, rfl, x, dh, _, rfl, s1 _ _ hh, hF_no h (by decide +kernel), x, h, rfl, ⟨dh, s1 _ _ hh⟩, _, rfl, ?_⟩
      by_cases c : (h.weight == 0) = true
      · refine if_true_of c ?_
        refine ⟨_, rfl, xs, hD1, small1000 (by omega), fun b o e => ?_, _, upd_same, ?_, ?_⟩
        · rw [upd_ne (ne_of_none e hD)]
          exact s1 _ _ e
        · rw [List.length_append, empties_take_succ eh, hl, if_pos c]; rfl
        · rw [List.length_append]
          exact Nat.succ_le_succ hle
      · refine if_false_of (eq_false_of_ne_true c) ?_
        refine ⟨s1, xs, hD1, ?_, Nat.le_succ_of_le hle⟩
        rw [empties_take_succ eh, hl, if_neg c]; rfl
    · rintro H1 ⟨s1, xs, hD1, hl, hle⟩
      rw [List.length_map, W.len, List.take_length] at hl
      refine ⟨D, xs, rfl, .inl (SqL.of hD1), ?_⟩
      refine ⟨_, rfl, a, CW, dx, _, _, rfl, s1 _ _ h1, T.clW, T.nW_queue, wF_queue _ _ _, lq, _, rfl, .inl (SqL.of (s1 _ _ W.que)), _, rfl, _, rfl, _, _, rfl, rfl, _, _, rfl, _, _, rfl, rfl, ?_⟩
      have e : ((vNats w.queue).length : Int) + (if ((n : Int) - (xs.length : Int)) > 0 then ((n : Int) - (xs.length : Int)) else 0) = ((w.queue.length + (n - empties w.hoppers) : Nat) : Int) := by
        rw [vNats_length, hl]
        split <;> omega
      have kk := k _ s1
      rw [← e] at kk
      exact kk

/-! ### is_due, due_numbers -/
def spIsDue (CH CW : Addr) : Sp := fun vs H Q _ => ∃ (a lh lq : Addr) (as : List Addr) (w : Weigher) (x : Addr) (h : Hopper), vs = [.ref a, .ref x] ∧ WAt CH CW H a lh lq as w ∧ HAt CH H x h ∧ Q (.bl (dueH w h)) H
theorem ok_Weigher_is_due {f : Addr} {fd : FuncData} (F : Fun K "is_due" "Weigher.is_due" s_Weigher_is_due f fd) (T : Txt K mg CH CW CR) (m_is_empty : Met P w K mg base 1 CH "is_empty" (spIsEmpty CH) []) :
    FnOk P w K mg base CX0 2 f fd ["self", "hopper"] (spIsDue CH CW) := by
  refine F.ok sc_Weigher_is_due (fun vs H Q E h => ?_) (fun cdv A outer s H vs Q E hr h => ?_)
  · obtain ⟨a, lh, lq, as, w, x, h, rfl, _⟩ := h
    rfl
  · obtain ⟨a, lh, lq, as, w, x, h, rfl, W, ⟨dh, hh⟩, k⟩ := h
    refine ⟨_, (pss_one (ps_ret (pe_and (pe_cmpR op_gt (pe_fldK K rfl (pv 0) rfl) pe_int (nomark _)) (pe_and (pe_not (C8.pe_mt0 m_is_empty hr (by decide) (pv 1))) (pe_one (pe_cmpR op_ge (pe_fldK K rfl (pv 1) rfl) (pe_fldK K rfl (pv 0) rfl) (nomark _))))))), ?_⟩
    obtain ⟨dx, h1⟩ := W.obj
    refine ⟨_, rfl, a, CW, dx, _, _, rfl, h1, T.clW, T.nW_max_age, wF_max_age _ _ _, _, _, rfl, rfl, _, rfl, ?_⟩
    by_cases c0 : (0 : Int) < (w.maxAge : Int)
    · refine if_true_of (decide_eq_true c0) ?_
      refine ⟨_, rfl, x, dh, _, rfl, hh, hF_no h (by decide +kernel), x, h, rfl, ⟨dh, hh⟩, _, rfl, _, rfl, ?_⟩
      by_cases c1 : h.weight = 0
      · have e : dueH w h = false := by unfold dueH; simp [c1]
        rw [e] at k
        have e1 : (h.weight == 0) = true := by simp [c1]
        exact if_false_of (by rw [e1]; rfl) k
      · have e1 : (h.weight == 0) = false := by simp [c1]
        refine if_true_of (by rw [e1]; rfl) ?_
        refine ⟨_, rfl, x, CH, dh, _, _, rfl, hh, T.clH, T.nH_age, hF_age h, _, rfl, a, CW, dx, _, _, rfl, h1, T.clW, T.nW_max_age, wF_max_age _ _ _, _, _, rfl, rfl, ?_⟩
        have e : dueH w h = decide ((w.maxAge : Int) ≤ (h.age : Int)) := by
          unfold dueH
          have c2 : w.maxAge ≠ 0 := by omega
          by_cases c3 : w.maxAge ≤ h.age
          · have c4 : (w.maxAge : Int) ≤ (h.age : Int) := by omega
            simp [c1, c2, c3]
          · have c4 : ¬ (w.maxAge : Int) ≤ (h.age : Int) := by omega
            simp [c3]
        rw [e] at k
        exact k
    · have e : dueH w h = false := by
        have : w.maxAge = 0 := by omega
        unfold dueH; simp [this]
      rw [e] at k
      exact if_false_of (decide_eq_false c0) k
def spDueNumbers (CH CW : Addr) : Sp := fun vs H Q _ => ∃ (a lh lq : Addr) (as : List Addr) (w : Weigher), vs = [.ref a] ∧ WAt CH CW H a lh lq as w ∧ w.hoppers.length ≤ 8 ∧
  ∀ (H' : Hp) (p : Addr), Same H H' → H p = none → H' p = some (.lst (vNats (Kp411.dueHoppers w))) → Q (.ref p) H'
theorem ok_Weigher_due_numbers {f : Addr} {fd : FuncData} (F : Fun K "due_numbers" "Weigher.due_numbers" s_Weigher_due_numbers f fd) (T : Txt K mg CH CW CR) (m_is_due : Met P w K mg base 2 CW "is_due" (spIsDue CH CW) []) :
    FnOk P w K mg base CX0 3 f fd ["self"] (spDueNumbers CH CW) := by
  refine F.ok sc_Weigher_due_numbers (fun vs H Q E h => ?_) (fun cdv A outer s H vs Q E hr h => ?_)
  · obtain ⟨a, lh, lq, as, w, rfl, _⟩ := h
    rfl
  · obtain ⟨a, lh, lq, as, w, rfl, W, h8, k⟩ := h
    refine ⟨_, (pss_one (ps_ret (pe_lc (own := [("number", 1), ("hopper", 2)]) (g := (gTup K 2 (gCons (gName 1) (gCons (gName 2) gNil)))) rfl sc_Weigher_due_numbers.nd (pi_enum (by rfl) T.b_enumerate (pa_cons (pe_fldK K rfl (pv 0) rfl) pa_nil)) (blkOk_by (N := N_Weigher_due_numbers) (sc := defScope s_Weigher_due_numbers) (by decide +kernel)) (fun _ _ _ _ _ => (pg_tup rfl (pgs_cons (pg_name (i := 1) sc_Weigher_due_numbers.nd rfl (Or.inl rfl)) (pgs_cons (pg_name (i := 2) sc_Weigher_due_numbers.nd rfl (Or.inl rfl)) pgs_nil)))) (fun _ _ _ _ _ => pts_one (pt_val (C8.pe_mt m_is_due hr (by decide) (pv 0) (pa_cons (pv 2) pa_nil)))) (fun _ _ _ _ _ => (pv 1))))), ?_⟩
    obtain ⟨dx, h1⟩ := W.obj
    refine ⟨_, rfl, a, CW, dx, _, _, rfl, h1, T.clW, T.nW_hoppers, wF_hoppers _ _ _, lh, _, rfl, SqL.of W.lst, fun D hD => ?_⟩
    refine lc_it (walk_enum (K := K) (a := lh) (xs := as.map V.ref)) (fun i H1 => Same H H1 ∧ H1 D = some (.lst (vNats ((List.range i).filter (Kp411.isDue w)))))
      ⟨Same.upd hD, upd_same⟩ (fun i H1 _ ⟨s, _⟩ => SqL.of (s _ _ W.lst)) ?_ ?_
    · rintro i _ H1 _ _ ⟨s1, hD1⟩ ⟨U, _, y, rfl, hU, rfl, ey, hi⟩
      cases ey
      obtain ⟨x, hx, rfl⟩ := map_ref_get hi
      obtain ⟨h, eh, dh, hh⟩ := W.hop i x hx
      have hin : i < w.hoppers.length := (List.getElem?_eq_some_iff.mp eh).1
      have s2 : Same H (upd H1 U (.tup [.int (i : Int), .ref x])) := s1.trans (Same.upd hU)
      refine ⟨U, _, rfl, SqT.of upd_same, rfl, _, _, rfl, _, _, rfl, rfl, rfl, ?_⟩
      refine ⟨_, rfl, a, dx, _, rfl, s2 _ _ h1, wF_no _ _ _ (by decide +kernel), _, rfl, a, lh, lq, as, w, x, h, rfl, W.same s2, ⟨dh, s2 _ _ hh⟩, _, rfl, ?_⟩
      have ed : Kp411.isDue w i = dueH w h := by rw [isDue_eq, hopperAt_some eh]
      have nDU : D ≠ U := ne_of_none hD1 hU
      by_cases c : dueH w h = true
      · refine if_true_of c ?_
        refine ⟨_, rfl, _, (by rw [upd_ne nDU]; exact hD1), ?_, fun b o e => ?_, ?_⟩
        · rw [vNats_length]
          exact small1000 (Nat.le_trans (length_filter_range _ _) (by omega))
        · rw [upd_ne (ne_of_none e hD)]
          exact s2 _ _ e
        · rw [upd_same, filter_range_succ, ed, if_pos c, vNats_append, vNats_one]
      · refine if_false_of (eq_false_of_ne_true c) ?_
        refine ⟨s2, ?_⟩
        rw [upd_ne nDU, filter_range_succ, ed, if_neg c, List.append_nil]
        exact hD1
    · rintro H1 ⟨s1, hD1⟩
      rw [List.length_map, W.len] at hD1
      exact k _ _ s1 hD hD1

/-! ### sets -/
def spSetLimit (CH CW : Addr) : Sp := fun vs H Q _ => ∃ (a lh lq : Addr) (as : List Addr) (w : Weigher), vs = [.ref a] ∧ WAt CH CW H a lh lq as w ∧ w.hoppers.length ≤ 8 ∧ Q (.int ((2 ^ w.hoppers.length : Nat) : Int)) H
theorem ok_Weigher_set_limit {f : Addr} {fd : FuncData} (F : Fun K "set_limit" "Weigher.set_limit" s_Weigher_set_limit f fd) (T : Txt K mg CH CW CR) :
    FnOk P w K mg base CX0 1 f fd ["self"] (spSetLimit CH CW) := by
  refine F.ok sc_Weigher_set_limit (fun vs H Q E h => ?_) (fun cdv A outer s H vs Q E hr h => ?_)
  · obtain ⟨a, lh, lq, as, w, rfl, _⟩ := h
    rfl
  · obtain ⟨a, lh, lq, as, w, rfl, W, h8, k⟩ := h
    refine ⟨_, (pss_one (ps_ret (pe_op op_shl pe_int (pe_callB call_len_seq (by rfl) T.b_len (by decide +kernel) (pa_cons (pe_fldK K rfl (pv 0) rfl) pa_nil))))), ?_⟩
    obtain ⟨dx, h1⟩ := W.obj
    refine ⟨_, rfl, a, CW, dx, _, _, rfl, h1, T.clW, T.nW_hoppers, wF_hoppers _ _ _, lh, _, rfl, .inl (SqL.of W.lst), _, _, rfl, rfl, ⟨by omega, by rw [List.length_map, W.len]; omega, by decide⟩, ?_⟩
    have e : (1 : Int) * 2 ^ (((as.map V.ref).length : Int)).toNat = ((2 ^ w.hoppers.length : Nat) : Int) := by
      rw [List.length_map, W.len, Int.toNat_natCast]
      simp
    rw [← e] at k
    exact k
def spWeightIn (CH CW : Addr) : Sp := fun vs H Q _ => ∃ (a lh lq : Addr) (as : List Addr) (w : Weigher) (m : Nat), vs = [.ref a, .int (m : Int)] ∧ WAt CH CW H a lh lq as w ∧ w.hoppers.length ≤ 8 ∧
  ∀ H' : Hp, Same H H' → Q (.int (Kp411.weightOf w m : Nat)) H'
theorem ok_Weigher_weight_in {f : Addr} {fd : FuncData} (F : Fun K "weight_in" "Weigher.weight_in" s_Weigher_weight_in f fd) (T : Txt K mg CH CW CR) :
    FnOk P w K mg base CX0 1 f fd ["self", "mask"] (spWeightIn CH CW) := by
  refine F.ok sc_Weigher_weight_in (fun vs H Q E h => ?_) (fun cdv A outer s H vs Q E hr h => ?_)
  · obtain ⟨a, lh, lq, as, w, m, rfl, _⟩ := h
    rfl
  · obtain ⟨a, lh, lq, as, w, m, rfl, W, h8, k⟩ := h
    refine ⟨_, (pss_one (ps_ret (pe_callB (cr_sum rfl) (by rfl) T.b_sum (by decide +kernel) (pa_cons (pe_lc (own := [("number", 2), ("hopper", 3)]) (g := (gTup K 2 (gCons (gName 2) (gCons (gName 3) gNil)))) rfl sc_Weigher_weight_in.nd (pi_enum (by rfl) T.b_enumerate (pa_cons (pe_fldK K rfl (pv 0) rfl) pa_nil)) (blkOk_by (N := N_Weigher_weight_in) (sc := defScope s_Weigher_weight_in) (by decide +kernel)) (fun _ _ _ _ _ => (pg_tup rfl (pgs_cons (pg_name (i := 2) sc_Weigher_weight_in.nd rfl (Or.inl rfl)) (pgs_cons (pg_name (i := 3) sc_Weigher_weight_in.nd rfl (Or.inl rfl)) pgs_nil)))) (fun _ _ _ _ _ => pts_one (pt_truthK K rfl (pe_op op_and (pe_op op_shr (pv 1) (pv 2)) pe_int) (by intro _; rfl))) (fun _ _ _ _ _ => (pe_fldK K rfl (pv 3) rfl))) pa_nil)))), ?_⟩
    obtain ⟨dx, h1⟩ := W.obj
    refine ⟨_, rfl, a, CW, dx, _, _, rfl, h1, T.clW, T.nW_hoppers, wF_hoppers _ _ _, lh, _, rfl, SqL.of W.lst, fun D hD => ?_⟩
    refine lc_it (walk_enum (K := K) (a := lh) (xs := as.map V.ref)) (fun i H1 => Same H H1 ∧ H1 D = some (.lst (vNats (((List.range i).filter fun j => Kp411.contains m j).map fun j => (hopperAt w j).weight))))
      ⟨Same.upd hD, upd_same⟩ (fun i H1 _ ⟨s, _⟩ => SqL.of (s _ _ W.lst)) ?_ ?_
    · rintro i _ H1 _ _ ⟨s1, hD1⟩ ⟨U, _, y, rfl, hU, rfl, ey, hi⟩
      cases ey
      obtain ⟨x, hx, rfl⟩ := map_ref_get hi
      obtain ⟨h, eh, dh, hh⟩ := W.hop i x hx
      have hin : i < w.hoppers.length := (List.getElem?_eq_some_iff.mp eh).1
      have s2 : Same H (upd H1 U (.tup [.int (i : Int), .ref x])) := s1.trans (Same.upd hU)
      refine ⟨U, _, rfl, SqT.of upd_same, rfl, _, _, rfl, _, _, rfl, rfl, rfl, ?_⟩
      refine ⟨_, rfl, _, rfl, _, _, rfl, rfl, by omega, _, _, rfl, rfl, _, rfl, ?_⟩
      have eb : (Builtin.bitAnd ((m : Int) / 2 ^ ((i : Int)).toNat) 1 != 0) = Kp411.contains m i := by rw [bit_eq, bit_true]
      have nDU : D ≠ U := ne_of_none hD1 hU
      by_cases c : Kp411.contains m i = true
      · refine if_true_of (eb.trans c) ?_
        refine ⟨_, rfl, x, CH, dh, _, _, rfl, s2 _ _ hh, T.clH, T.nH_weight, hF_weight h, _, (by rw [upd_ne nDU]; exact hD1), ?_, fun b o e => ?_, ?_⟩
        · rw [vNats_length, List.length_map]
          exact small1000 (Nat.le_trans (length_filter_range _ _) (by omega))
        · rw [upd_ne (ne_of_none e hD)]
          exact s2 _ _ e
        · rw [upd_same, filter_range_succ, if_pos c, List.map_append, vNats_append, List.map_cons, List.map_nil, vNats_one, hopperAt_some eh]
      · refine if_false_of (eb.trans (eq_false_of_ne_true c)) ?_
        refine ⟨s2, ?_⟩
        rw [upd_ne nDU, filter_range_succ, if_neg c, List.append_nil]
        exact hD1
    · rintro H1 ⟨s1, hD1⟩
      rw [List.length_map, W.len] at hD1
      refine ⟨D, _, rfl, by rw [← vNats_ofNat]; exact SqL.of hD1, ?_⟩
      have e := sum_cast (((List.range w.hoppers.length).filter fun j => Kp411.contains m j).map fun j => (hopperAt w j).weight)
      rw [e]
      exact k _ s1
end
end HP

set_option Elab.async false
set_option linter.all false
set_option maxRecDepth 100000
set_option maxHeartbeats 4000000
namespace HP
open PySem PySem.Spec PyProof.Rows L2
open C8 (Cal CalAt Met Mak)
open Kp411 (Weigher Hopper hopperAt)
theorem set_same {α : Type} {l : List α} {i : Nat} {x : α} (h : l[i]? = some x) : l.set i x = l := by
  apply List.ext_getElem?
  intro j
  by_cases c : i = j
  · subst c
    rw [List.getElem?_set_self (List.getElem?_eq_some_iff.mp h).1, h]
  · rw [List.getElem?_set_ne c]
section
variable {P : Program} {w : World} {K : PySem.W.Frag} {mg : Str → Option Value} {base : Heap} {CH CW CR : Addr}
/-! ### refill -/
def refW (w : Weigher) (j : Nat) : Weigher := { w with hoppers := w.hoppers.set j ⟨w.queue.headD 0, 0⟩, queue := w.queue.drop 1 }
def spRefill (CH CW : Addr) : Sp := fun vs H Q _ => ∃ (a lh lq : Addr) (as : List Addr) (w : Weigher) (j : Nat) (x : Addr), vs = [.ref a, .ref x] ∧ WAt CH CW H a lh lq as w ∧ as[j]? = some x ∧ w.hoppers[j]? = some ⟨0, 0⟩ ∧
  ∀ H' : Hp, WAt CH CW H' a lh lq as (refW w j) → Keep (own a lh lq as) H H' → Q .non H'
theorem ok_Weigher_refill {f : Addr} {fd : FuncData} (F : Fun K "refill" "Weigher.refill" s_Weigher_refill f fd) (T : Txt K mg CH CW CR) (m_load : Met P w K mg base 1 CH "load" (spLoad CH) []) :
    FnOk P w K mg base CX0 2 f fd ["self", "hopper"] (spRefill CH CW) := by
  refine F.ok sc_Weigher_refill (fun vs H Q E h => ?_) (fun cdv A outer s H vs Q E hr h => ?_)
  · obtain ⟨a, lh, lq, as, w, j, x, rfl, _⟩ := h
    rfl
  · obtain ⟨a, lh, lq, as, w, j, x, rfl, W, hx, h0, k⟩ := h
    refine ⟨_, (pss_one (ps_if (pt_cmpR op_gt (pe_callB call_len_seq (by rfl) T.b_len (by decide +kernel) (pa_cons (pe_fldK K rfl (pv 0) rfl) pa_nil)) pe_int (nomark _)) (pss_one (ps_expr (C8.pe_mt m_load hr (by decide) (pv 1) (pa_cons (pe_bm PySem.F.plainAttrs_list PySem.F.slot_list_pop PySem.F.type_list_pop mt_popAt (pe_fldK K rfl (pv 0) rfl) (pa_cons pe_int pa_nil)) pa_nil)))) pss_nil)), ?_⟩
    obtain ⟨dx, h1⟩ := W.obj
    obtain ⟨h, eh, dh, hh⟩ := W.hop j x hx
    refine ⟨_, rfl, a, CW, dx, _, _, rfl, h1, T.clW, T.nW_queue, wF_queue _ _ _, lq, _, rfl, .inl (SqL.of W.que), _, _, rfl, rfl, _, rfl, ?_⟩
    rw [vNats_length]
    cases eq : w.queue with
    | nil =>
      refine if_false_of (by simp) ?_
      refine k _ ?_ (Keep.refl _ _)
      have e : refW w j = w := by
        unfold refW
        rw [eq]
        show { w with hoppers := w.hoppers.set j ⟨0, 0⟩, queue := [] } = w
        rw [set_same h0, ← eq]
      rw [e]
      exact W
    | cons q qs =>
      refine if_true_of (by simp) ?_
      have hq : H lq = some (.lst (V.int (q : Int) :: vNats qs)) := by
        have z := W.que
        rw [eq] at z
        exact z
      refine ⟨_, rfl, x, dh, _, rfl, hh, hF_no h (by decide +kernel), _, rfl, a, CW, dx, _, _, rfl, h1, T.clW, T.nW_queue, wF_queue _ _ _, .inl ⟨rfl, _, SqL.of hq⟩, lq, _, 0, 0, _, rfl, rfl, hq, by decide, by decide, by simp [seqIndex?], rfl, ?_⟩
      have W1 := W.putQ qs
      have nx : x ≠ lq := W.ne_hop (List.mem_of_getElem? hx) W.que
      refine ⟨x, h, q, rfl, ⟨dh, by rw [upd_ne nx]; exact hh⟩, fun H2 hA kp => ?_⟩
      have W2 := W1.putH hx hA kp
      refine k _ ?_ ((Keep.upd mem_own_q).trans (kp.one (List.mem_of_getElem? hx)))
      have e : refW w j = { w with hoppers := w.hoppers.set j ⟨q, 0⟩, queue := qs } := by
        unfold refW
        rw [eq]
        rfl
      rw [e]
      exact W2

/-! ### fill_from -/
/-- behind the hoppers ahead of i -/
def fillUp (w : Weigher) (m i : Nat) : Weigher := { w with hoppers := (refUpTo w m i).1 ++ w.hoppers.drop i, queue := (refUpTo w m i).2, packed := w.packed + Kp411.weightOf w m, bagCount := w.bagCount + 1 }
theorem fillUp_zero (w : Weigher) (m : Nat) : fillUp w m 0 = { w with packed := w.packed + Kp411.weightOf w m, bagCount := w.bagCount + 1 } := rfl
theorem fillUp_end (w : Weigher) (m : Nat) : fillUp w m w.hoppers.length = Kp411.fillBag w m := by
  rw [fillBag_eq]
  unfold fillUp
  rw [List.drop_length, List.append_nil]
theorem fill_get (w : Weigher) (m i : Nat) : (fillUp w m i).hoppers[i]? = w.hoppers[i]? := by
  show ((refUpTo w m i).1 ++ w.hoppers.drop i)[i]? = _
  rw [List.getElem?_append_right (by rw [refUpTo_len]; exact Nat.le_refl _), refUpTo_len, Nat.sub_self, List.getElem?_drop, Nat.add_zero]
theorem fill_set (w : Weigher) (m : Nat) {i : Nat} (hi : i < w.hoppers.length) (y : Hopper) : (fillUp w m i).hoppers.set i y = (refUpTo w m i).1 ++ [y] ++ w.hoppers.drop (i + 1) := by
  show ((refUpTo w m i).1 ++ w.hoppers.drop i).set i y = _
  rw [List.set_append_right _ _ (by rw [refUpTo_len]; exact Nat.le_refl _), refUpTo_len, Nat.sub_self, List.drop_eq_getElem_cons hi, List.set_cons_zero, List.append_assoc]
  rfl
theorem fill_step (w : Weigher) (m : Nat) {i : Nat} (hi : i < w.hoppers.length) {y : Hopper} {q : List Nat} (e : refStep w m (refUpTo w m i) i = ((refUpTo w m i).1 ++ [y], q)) :
    ({ fillUp w m i with hoppers := (fillUp w m i).hoppers.set i y, queue := q } : Weigher) = fillUp w m (i + 1) := by
  rw [fill_set w m hi]
  unfold fillUp
  rw [refUpTo_succ, e]
theorem fill_yes {w : Weigher} {m i : Nat} (hi : i < w.hoppers.length) (c : Kp411.contains m i = true) : refW { fillUp w m i with hoppers := (fillUp w m i).hoppers.set i ⟨0, 0⟩ } i = fillUp w m (i + 1) := by
  have e : refStep w m (refUpTo w m i) i = ((refUpTo w m i).1 ++ [⟨(refUpTo w m i).2.headD 0, 0⟩], (refUpTo w m i).2.drop 1) := by
    unfold refStep
    rw [if_pos c]
  rw [← fill_step w m hi e]
  unfold refW
  simp only [List.set_set]
  rfl
theorem fill_no {w : Weigher} {m i : Nat} {h : Hopper} (c : Kp411.contains m i = false) (e : w.hoppers[i]? = some h) :
    ({ fillUp w m i with hoppers := (fillUp w m i).hoppers.set i ⟨h.weight, if h.weight = 0 then 0 else h.age + 1⟩ } : Weigher) = fillUp w m (i + 1) := by
  have e1 : refStep w m (refUpTo w m i) i = ((refUpTo w m i).1 ++ [⟨h.weight, if h.weight = 0 then 0 else h.age + 1⟩], (refUpTo w m i).2) := by
    unfold refStep
    rw [if_neg (by rw [c]; decide), hopperAt_some e]
  exact fill_step w m (List.getElem?_eq_some_iff.mp e).1 e1
def spFillFrom (CH CW : Addr) : Sp := fun vs H Q _ => ∃ (a lh lq : Addr) (as : List Addr) (w : Weigher) (m : Nat), vs = [.ref a, .int (m : Int)] ∧ WAt CH CW H a lh lq as w ∧ w.hoppers.length ≤ 8 ∧ (∀ h ∈ w.hoppers, h.weight = 0 → h.age = 0) ∧
  ∀ H' : Hp, WAt CH CW H' a lh lq as (Kp411.fillBag w m) → Keep (own a lh lq as) H H' → Q .non H'
theorem ok_Weigher_fill_from {f : Addr} {fd : FuncData} (F : Fun K "fill_from" "Weigher.fill_from" s_Weigher_fill_from f fd) (T : Txt K mg CH CW CR) (m_weight_in : Met P w K mg base 1 CW "weight_in" (spWeightIn CH CW) []) (m_unload : Met P w K mg base 2 CH "unload" (spUnload CH) [])
    (m_refill : Met P w K mg base 2 CW "refill" (spRefill CH CW) []) (m_is_empty : Met P w K mg base 1 CH "is_empty" (spIsEmpty CH) []) : FnOk P w K mg base CX0 3 f fd ["self", "mask"] (spFillFrom CH CW) := by
  refine F.ok sc_Weigher_fill_from (fun vs H Q E h => ?_) (fun cdv A outer s H vs Q E hr h => ?_)
  · obtain ⟨a, lh, lq, as, w, m, rfl, _⟩ := h
    rfl
  · obtain ⟨a, lh, lq, as, w, m, rfl, W, h8, hage, k⟩ := h
    refine ⟨_, (pss_cons (ps_fldaug (pv 0) (C8.pe_mt m_weight_in hr (by decide) (pv 0) (pa_cons (pv 1) pa_nil)) in_add)
      (pss_cons (ps_fldaug (pv 0) pe_int in_add)
      (pss_one (ps_for PassesOwn.never rfl (pi_enum (by rfl) T.b_enumerate (pa_cons (pe_fldK K rfl (pv 0) rfl) pa_nil)) (pg_tup rfl (pgs_cons (pg_name (i := 2) sc_Weigher_fill_from.nd rfl (Or.inl rfl)) (pgs_cons (pg_name (i := 3) sc_Weigher_fill_from.nd rfl (Or.inl rfl)) pgs_nil)))
      (pss_one (ps_if (pt_truthK K rfl (pe_op op_and (pe_op op_shr (pv 1) (pv 2)) pe_int) (by intro _; rfl)) (pss_cons (ps_expr (C8.pe_mt0 m_unload hr (by decide) (pv 3)))
      (pss_one (ps_expr (C8.pe_mt m_refill hr (by decide) (pv 0) (pa_cons (pv 3) pa_nil))))) (pss_one (ps_if (pt_not (pt_val (C8.pe_mt0 m_is_empty hr (by decide) (pv 3)))) (pss_one (ps_fldaug (pv 3) pe_int in_add)) pss_nil)))))))), ?_⟩
    obtain ⟨dx, h1⟩ := W.obj
    refine ⟨_, rfl, a, CW, dx, _, _, rfl, h1, T.clW, T.nW_packed, wF_packed _ _ _, _, rfl, a, dx, _, rfl, h1, wF_no _ _ _ (by decide +kernel), _, rfl, a, lh, lq, as, w, m, rfl, W, h8, fun H1 s1 => ?_⟩
    refine ⟨_, _, rfl, rfl, dx, _, s1 _ _ h1, wF_len _ _ _, ?_⟩
    have e1 : putF "packed" (.int ((w.packed : Int) + ((Kp411.weightOf w m : Nat) : Int))) (wF lh lq w) = wF lh lq { w with packed := w.packed + Kp411.weightOf w m } := wF_put_packed lh lq w (w.packed + Kp411.weightOf w m)
    rw [e1]
    have W1 := (W.same s1).put (w' := { w with packed := w.packed + Kp411.weightOf w m }) (dx := dx) rfl rfl
    have K1 : Keep (own a lh lq as) H (upd H1 a (.ins CW dx (wF lh lq { w with packed := w.packed + Kp411.weightOf w m }))) := (Same.keep s1).trans (Keep.upd mem_own_a)
    generalize upd H1 a (.ins CW dx (wF lh lq { w with packed := w.packed + Kp411.weightOf w m })) = H2 at W1 K1
    obtain ⟨dx2, h2⟩ := W1.obj
    refine ⟨_, rfl, a, CW, dx2, _, _, rfl, h2, T.clW, T.nW_bag_count, wF_bag_count _ _ _, _, _, rfl, rfl, dx2, _, h2, wF_len _ _ _, ?_⟩
    have e2 : putF "bag_count" (.int (((w.bagCount : Nat) : Int) + 1)) (wF lh lq { w with packed := w.packed + Kp411.weightOf w m }) = wF lh lq (fillUp w m 0) := wF_put_bag_count lh lq { w with packed := w.packed + Kp411.weightOf w m } (w.bagCount + 1)
    rw [e2]
    have W2 := W1.put (w' := fillUp w m 0) (dx := dx2) rfl rfl
    have K2 : Keep (own a lh lq as) H (upd H2 a (.ins CW dx2 (wF lh lq (fillUp w m 0)))) := K1.trans (Keep.upd mem_own_a)
    generalize upd H2 a (.ins CW dx2 (wF lh lq (fillUp w m 0))) = H3 at W2 K2
    obtain ⟨dx3, h3⟩ := W2.obj
    refine ⟨_, rfl, a, CW, dx3, _, _, rfl, h3, T.clW, T.nW_hoppers, wF_hoppers _ _ _, lh, _, rfl, SqL.of W2.lst, for_it (walk_enum (K := K) (a := lh) (xs := as.map V.ref)) (fun i σ H' => (∃ v2 v3, σ = [some (.ref a), some (.int (m : Int)), v2, v3]) ∧ WAt CH CW H' a lh lq as (fillUp w m i) ∧ Keep (own a lh lq as) H H')
      ⟨⟨_, _, rfl⟩, W2, K2⟩ (fun i σ H' _ ⟨_, W', _⟩ => SqL.of W'.lst) ?_ ?_⟩
    · rintro i _ σ H4 _ hin ⟨⟨v2, v3, rfl⟩, W4, K4⟩ ⟨U, _, y, rfl, hU, rfl, ey, hi⟩
      cases ey
      obtain ⟨x, hx, rfl⟩ := map_ref_get hi
      obtain ⟨h, eh0, dh, hh0⟩ := W4.hop i x hx
      have eh : w.hoppers[i]? = some h := by rw [← fill_get w m i]; exact eh0
      have hlt : i < w.hoppers.length := (List.getElem?_eq_some_iff.mp eh).1
      have s4 : Same H4 (upd H4 U (.tup [.int (i : Int), .ref x])) := Same.upd hU
      have W5 := W4.same s4
      have hh := s4 _ _ hh0
      have K5 := K4.trans (Same.keep (fp := own a lh lq as) s4)
      refine ⟨U, _, rfl, SqT.of upd_same, rfl, _, _, rfl, _, _, rfl, rfl, ?_⟩
      refine ⟨_, rfl, _, rfl, _, _, rfl, rfl, by omega, _, _, rfl, rfl, _, rfl, ?_⟩
      have eb : (Builtin.bitAnd ((m : Int) / 2 ^ ((i : Int)).toNat) 1 != 0) = Kp411.contains m i := by rw [bit_eq, bit_true]
      by_cases c : Kp411.contains m i = true
      · refine if_true_of (eb.trans c) ?_
        refine ⟨_, rfl, x, dh, _, rfl, hh, hF_no h (by decide +kernel), x, h, rfl, ⟨dh, hh⟩, fun H6 hA kp => ?_⟩
        have W6 := W5.putH hx hA kp
        obtain ⟨dx6, h6⟩ := W6.obj
        refine ⟨_, rfl, a, dx6, _, rfl, h6, wF_no _ _ _ (by decide +kernel), _, rfl, a, lh, lq, as, _, i, x, rfl, W6, hx, ?_, fun H7 W7 K7 => ⟨⟨_, _, rfl⟩, ?_, ?_⟩⟩
        · show ((fillUp w m i).hoppers.set i ⟨0, 0⟩)[i]? = _
          rw [List.getElem?_set_self (List.getElem?_eq_some_iff.mp eh0).1]
        · rw [← fill_yes hlt c]
          exact W7
        · exact (K5.trans (kp.one (List.mem_of_getElem? hx))).trans K7
      · have c' := eq_false_of_ne_true c
        refine if_false_of (eb.trans c') ?_
        refine ⟨_, rfl, x, dh, _, rfl, hh, hF_no h (by decide +kernel), x, h, rfl, ⟨dh, hh⟩, _, rfl, ?_⟩
        have en := fill_no c' eh
        by_cases z : h.weight = 0
        · refine if_false_of (by simp [z]) ?_
          refine ⟨⟨_, _, rfl⟩, ?_, K5⟩
          rw [if_pos z, set_same (by rw [eh0]; exact congrArg some (by
            have := hage h (List.mem_of_getElem? eh) z
            cases h
            simp only at this
            rw [this]))] at en
          rw [← en]
          exact W5
        · refine if_true_of (by simp [z]) ?_
          refine ⟨_, rfl, x, CH, dh, _, _, rfl, hh, T.clH, T.nH_age, hF_age h, _, _, rfl, rfl, dh, _, hh, hF_len h, ?_⟩
          have e6 : putF "age" (.int (((h.age : Nat) : Int) + 1)) (hF h) = hF ⟨h.weight, h.age + 1⟩ := hF_put_age h (h.age + 1)
          rw [e6]
          have kx : Keep [x] (upd H4 U (.tup [.int (i : Int), .ref x])) (upd (upd H4 U (.tup [.int (i : Int), .ref x])) x (.ins CH dh (hF ⟨h.weight, h.age + 1⟩))) := Keep.upd (by simp)
          rw [if_neg z] at en
          refine ⟨⟨_, _, rfl⟩, ?_, K5.trans (kx.one (List.mem_of_getElem? hx))⟩
          rw [← en]
          exact W5.putH hx ⟨dh, upd_same⟩ kx
    · rintro σ H' ⟨⟨v2, v3, rfl⟩, W', K'⟩
      rw [List.length_map, W.len, fillUp_end] at W'
      exact k _ W' K'

/-! ### throw_out -/
def spThrowOut (CH CW : Addr) : Sp := fun vs H Q _ => ∃ (a lh lq : Addr) (as : List Addr) (w : Weigher) (j : Nat) (x : Addr) (h : Hopper), vs = [.ref a, .ref x] ∧ WAt CH CW H a lh lq as w ∧ as[j]? = some x ∧ w.hoppers[j]? = some h ∧ h.weight ≤ w.received ∧
  ∀ H' : Hp, WAt CH CW H' a lh lq as { w with hoppers := w.hoppers.set j ⟨0, 0⟩, received := w.received - h.weight } → Keep (own a lh lq as) H H' → Q .non H'
theorem ok_Weigher_throw_out {f : Addr} {fd : FuncData} (F : Fun K "throw_out" "Weigher.throw_out" s_Weigher_throw_out f fd) (T : Txt K mg CH CW CR) (m_unload : Met P w K mg base 2 CH "unload" (spUnload CH) []) : FnOk P w K mg base CX0 3 f fd ["self", "hopper"] (spThrowOut CH CW) := by
  refine F.ok sc_Weigher_throw_out (fun vs H Q E h => ?_) (fun cdv A outer s H vs Q E hr h => ?_)
  · obtain ⟨a, lh, lq, as, w, j, x, h, rfl, _⟩ := h
    rfl
  · obtain ⟨a, lh, lq, as, w, j, x, h, rfl, W, hx, eh, hle, k⟩ := h
    refine ⟨_, (pss_cons (ps_fldaug (pv 0) (pe_fldK K rfl (pv 1) rfl) in_sub)
      (pss_one (ps_expr (C8.pe_mt0 m_unload hr (by decide) (pv 1))))), ?_⟩
    obtain ⟨dx, h1⟩ := W.obj
    obtain ⟨h', eh', dh, hh⟩ := W.hop j x hx
    rw [eh] at eh'
    cases eh'
    refine ⟨_, rfl, a, CW, dx, _, _, rfl, h1, T.clW, T.nW_received, wF_received _ _ _, _, rfl, x, CH, dh, _, _, rfl, hh, T.clH, T.nH_weight, hF_weight h, _, _, rfl, rfl, dx, _, h1, wF_len _ _ _, ?_⟩
    have ei : (w.received : Int) - (h.weight : Int) = ((w.received - h.weight : Nat) : Int) := by omega
    rw [ei, wF_put_received]
    have W1 := W.put (w' := { w with received := w.received - h.weight }) (dx := dx) rfl rfl
    have K1 : Keep (own a lh lq as) H (upd H a (.ins CW dx (wF lh lq { w with received := w.received - h.weight }))) := Keep.upd mem_own_a
    generalize upd H a (.ins CW dx (wF lh lq { w with received := w.received - h.weight })) = H1 at W1 K1
    obtain ⟨h2, eh2, dh2, hh2⟩ := W1.hop j x hx
    refine ⟨_, rfl, x, dh2, _, rfl, hh2, hF_no h2 (by decide +kernel), x, h2, rfl, ⟨dh2, hh2⟩, fun H2 hA kp => ?_⟩
    exact k _ (W1.putH hx hA kp) (K1.trans (kp.one (List.mem_of_getElem? hx)))

/-! ### duplicate -/
theorem wF_put_hoppers (lh lh' lq : Addr) (w : Weigher) : putF "hoppers" (.ref lh') (wF lh lq w) = wF lh' lq w := put_here
def spDup (CH CW : Addr) : Sp := fun vs H Q _ => ∃ (a lh lq : Addr) (as : List Addr) (w : Weigher), vs = [.ref a] ∧ WAt CH CW H a lh lq as w ∧ w.hoppers.length ≤ 8 ∧
  ∀ (H' : Hp) (t lh' lq' : Addr) (as' : List Addr), WAt CH CW H' t lh' lq' as' w → Same H H' → (∀ b ∈ own t lh' lq' as', H b = none) → Q (.ref t) H'
theorem ok_Weigher_duplicate {f : Addr} {fd : FuncData} (F : Fun K "duplicate" "Weigher.duplicate" s_Weigher_duplicate f fd) (T : Txt K mg CH CW CR) (k_Weigher : Mak P w K mg base 3 "Weigher" CW (spWInit CH CW) []) (k_Hopper : Mak P w K mg base 1 "Hopper" CH (spHInit CH) []) :
    FnOk P w K mg base CX0 5 f fd ["self"] (spDup CH CW) := by
  refine F.ok sc_Weigher_duplicate (fun vs H Q E h => ?_) (fun cdv A outer s H vs Q E hr h => ?_)
  · obtain ⟨a, lh, lq, as, w, rfl, _⟩ := h
    rfl
  · obtain ⟨a, lh, lq, as, w, rfl, W, h8, k⟩ := h
    refine ⟨_, (pss_cons (ps_set (i := 1) sc_Weigher_duplicate.nd rfl (Or.inl rfl) (C8.pe_mk k_Weigher hr (by decide) (by rfl) (pa_cons (pe_callB call_len_seq (by rfl) T.b_len (by decide +kernel) (pa_cons (pe_fldK K rfl (pv 0) rfl) pa_nil)) (pa_cons (pe_fldK K rfl (pv 0) rfl) (pa_cons (pe_fldK K rfl (pv 0) rfl) pa_nil)))))
      (pss_cons (ps_fld (pv 1) (pe_lc (own := [("hopper", 2)]) (g := (gName 2)) (tt := tYes) rfl sc_Weigher_duplicate.nd (pi_list (pe_fldK K rfl (pv 0) rfl)) (blkOk_by (N := N_Weigher_duplicate) (sc := defScope s_Weigher_duplicate) (by decide +kernel)) (fun _ _ _ _ _ => (pg_name (i := 2) sc_Weigher_duplicate.nd rfl (Or.inl rfl))) (fun _ _ _ _ _ => pts_nil) (fun _ _ _ _ _ => (C8.pe_mk k_Hopper hr (by decide) (by rfl) (pa_cons (pe_fldK K rfl (pv 2) rfl) (pa_cons (pe_fldK K rfl (pv 2) rfl) pa_nil))))) rfl)
      (pss_cons (ps_fld (pv 1) (pe_callTy call_list_of (by rfl) T.b_list (by decide +kernel) (pa_cons (pe_fldK K rfl (pv 0) rfl) pa_nil)) rfl)
      (pss_cons (ps_fld (pv 1) (pe_fldK K rfl (pv 0) rfl) rfl)
      (pss_cons (ps_fld (pv 1) (pe_fldK K rfl (pv 0) rfl) rfl)
      (pss_cons (ps_fld (pv 1) (pe_fldK K rfl (pv 0) rfl) rfl)
      (pss_one (ps_ret (pv 1))))))))), ?_⟩
    obtain ⟨dx, h1⟩ := W.obj
    refine ⟨_, rfl, a, CW, dx, _, _, rfl, h1, T.clW, T.nW_hoppers, wF_hoppers _ _ _, lh, _, rfl, .inl (SqL.of W.lst), _, rfl, a, CW, dx, _, _, rfl, h1, T.clW, T.nW_target, wF_target _ _ _, _, rfl, a, CW, dx, _, _, rfl, h1, T.clW, T.nW_max_age, wF_max_age _ _ _, ?_⟩
    intro t dt nt ndt net
    refine ⟨t, dt, (as.map V.ref).length, w.target, w.maxAge, rfl, by rw [List.length_map, W.len]; exact h8, upd_same, fun H1 lh0 lq0 as0 W0 kp fr => ⟨rfl, ?_⟩⟩
    have s1 : Same H H1 := fun b o e => by
      have nb : b ≠ t := ne_of_none e nt
      refine kp _ _ ?_ (by rw [List.mem_singleton]; exact nb)
      rw [upd_ne nb, upd_ne (ne_of_none e ndt)]
      exact e
    obtain ⟨dt1, ht1⟩ := W0.obj
    -- the hoppers
    refine ⟨_, rfl, a, CW, dx, _, _, rfl, s1 _ _ h1, T.clW, T.nW_hoppers, wF_hoppers _ _ _, lh, rfl, ⟨_, SqL.of (s1 _ _ W.lst)⟩, fun D hD => ?_⟩
    have nD : H D = none := s1.free hD
    refine lc_list (K := K) (a := lh) (xs := as.map V.ref) (fun i H2 => ∃ bs : List Addr, bs.length = i ∧ bs.Nodup ∧ H2 D = some (.lst (bs.map V.ref)) ∧ (∀ (j : Nat) (x : Addr), bs[j]? = some x → ∃ h, w.hoppers[j]? = some h ∧ HAt CH H2 x h ∧ H1 x = none) ∧ Same H1 H2)
      ⟨[], rfl, by simp, upd_same, by simp, Same.upd hD⟩ (fun i H2 _ ⟨_, _, _, _, _, s⟩ => SqL.of (s _ _ (s1 _ _ W.lst))) ?_ ?_
    · rintro i y H2 hi ⟨bs, hl, hnd, hD2, hx, s2⟩
      obtain ⟨z, hz, rfl⟩ := map_ref_get hi
      obtain ⟨h, eh, dh, hh⟩ := W.hop i z hz
      have hh2 := s2 _ _ (s1 _ _ hh)
      refine ⟨rfl, ?_⟩
      dsimp only [tYes]
      rw [if_pos rfl]
      refine ⟨_, rfl, z, CH, dh, _, _, rfl, hh2, T.clH, T.nH_weight, hF_weight h, _, rfl, z, CH, dh, _, _, rfl, hh2, T.clH, T.nH_age, hF_age h, ?_⟩
      intro x dx1 nx ndx nex
      refine ⟨x, dx1, h.weight, h.age, rfl, upd_same, fun H3 hA kp3 => ⟨rfl, bs.map V.ref, ?_, ?_, bs ++ [x], ?_, ?_, ?_, ?_, ?_⟩⟩
      · refine kp3 _ _ ?_ (by rw [List.mem_singleton]; exact ne_of_none hD2 nx)
        rw [upd_ne (ne_of_none hD2 nx), upd_ne (ne_of_none hD2 ndx)]
        exact hD2
      · rw [List.length_map, hl]
        have := (List.getElem?_eq_some_iff.mp eh).1
        exact small1000 (by omega)
      · rw [List.length_append, hl]; rfl
      · refine nodup_snoc hnd fun m => ?_
        obtain ⟨j, hj⟩ := List.mem_iff_getElem?.mp m
        obtain ⟨_, _, ⟨_, q⟩, _⟩ := hx j x hj
        rw [nx] at q
        cases q
      · rw [upd_same, List.map_append]; rfl
      · have nxD : x ≠ D := (ne_of_none hD2 nx).symm
        intro j y hy
        by_cases hj : j < bs.length
        · rw [List.getElem?_append_left hj] at hy
          obtain ⟨h', e', ⟨dy, q⟩, qn⟩ := hx j y hy
          have nyx : y ≠ x := ne_of_none q nx
          refine ⟨h', e', ⟨dy, ?_⟩, qn⟩
          rw [upd_ne (ne_of q hD2 (by intro z; cases z))]
          refine kp3 _ _ ?_ (by rw [List.mem_singleton]; exact nyx)
          rw [upd_ne nyx, upd_ne (ne_of_none q ndx)]
          exact q
        · rw [List.getElem?_append_right (by omega)] at hy
          have hj2 : j - bs.length = 0 := by
            have := (List.getElem?_eq_some_iff.mp hy).1
            simp at this
            omega
          have hji : j = i := by omega
          rw [hj2] at hy
          cases hy
          subst hji
          obtain ⟨dz, q⟩ := hA
          refine ⟨h, eh, ⟨dz, ?_⟩, s2.free nx⟩
          rw [upd_ne nxD]
          exact q
      · intro b o e
        have e1 := s2 b o e
        rw [upd_ne (ne_of_none e hD)]
        refine kp3 _ _ ?_ (by rw [List.mem_singleton]; exact ne_of_none e1 nx)
        rw [upd_ne (ne_of_none e1 nx), upd_ne (ne_of_none e1 ndx)]
        exact e1
    · rintro H2 ⟨bs, hl, hnd, hD2, hx, s2⟩
      rw [List.length_map, W.len] at hl
      have ht2 := s2 _ _ ht1
      have ntD : t ≠ D := ne_of ht2 hD2 (by intro z; cases z)
      have s12 := s1.trans s2
      refine ⟨_, rfl, t, CW, dt1, _, rfl, ht2, T.clW, T.nW_hoppers, wF_len _ _ _, ?_⟩
      rw [wF_put_hoppers]
      have old3 : ∀ b o, b ≠ t → H2 b = some o → upd H2 t (.ins CW dt1 (wF D lq0 (w0 (as.map V.ref).length w.target w.maxAge))) b = some o := fun b o n e => by rw [upd_ne n]; exact e
      have hT3 : upd H2 t (.ins CW dt1 (wF D lq0 (w0 (as.map V.ref).length w.target w.maxAge))) t = _ := upd_same
      generalize upd H2 t (.ins CW dt1 (wF D lq0 (w0 (as.map V.ref).length w.target w.maxAge))) = H3 at old3 hT3
      have nbt : ∀ b o, H b = some o → b ≠ t := fun b o e => ne_of_none e nt
      have s3 : Same H H3 := fun b o e => old3 _ _ (nbt b o e) (s12 _ _ e)
      -- the queue
      refine ⟨_, rfl, a, CW, dx, _, _, rfl, s3 _ _ h1, T.clW, T.nW_queue, wF_queue _ _ _, lq, _, rfl, .inl (SqL.of (s3 _ _ W.que)), fun l hl2 => ?_⟩
      have ntl : t ≠ l := ne_of_none hT3 hl2
      refine ⟨_, rfl, t, CW, dt1, _, rfl, (upd_ne ntl).trans hT3, T.clW, T.nW_queue, wF_len _ _ _, ?_⟩
      rw [wF_put_queue]
      have old4 : ∀ b o, b ≠ t → H3 b = some o → upd (upd H3 l (.lst (vNats w.queue))) t (.ins CW dt1 (wF D l (w0 (as.map V.ref).length w.target w.maxAge))) b = some o := fun b o n e => by rw [upd_ne n, upd_ne (ne_of_none e hl2)]; exact e
      have hL4 : upd (upd H3 l (.lst (vNats w.queue))) t (.ins CW dt1 (wF D l (w0 (as.map V.ref).length w.target w.maxAge))) l = some (.lst (vNats w.queue)) := by rw [upd_ne (Ne.symm ntl), upd_same]
      have hT4 : upd (upd H3 l (.lst (vNats w.queue))) t (.ins CW dt1 (wF D l (w0 (as.map V.ref).length w.target w.maxAge))) t = _ := upd_same
      generalize upd (upd H3 l (.lst (vNats w.queue))) t (.ins CW dt1 (wF D l (w0 (as.map V.ref).length w.target w.maxAge))) = H4 at old4 hL4 hT4
      have h14 : H4 a = some (.ins CW dx (wF lh lq w)) := old4 _ _ (nbt _ _ h1) (s3 _ _ h1)
      have nat : a ≠ t := nbt _ _ h1
      -- the numbers
      refine ⟨_, rfl, a, CW, dx, _, _, rfl, h14, T.clW, T.nW_received, wF_received _ _ _, _, rfl, t, CW, dt1, _, rfl, hT4, T.clW, T.nW_received, wF_len _ _ _, ?_⟩
      rw [wF_put_received]
      refine ⟨_, rfl, a, CW, dx, _, _, rfl, (upd_ne nat).trans h14, T.clW, T.nW_packed, wF_packed _ _ _, _, rfl, t, CW, dt1, _, rfl, upd_same, T.clW, T.nW_packed, wF_len _ _ _, ?_⟩
      rw [wF_put_packed, upd_upd]
      refine ⟨_, rfl, a, CW, dx, _, _, rfl, (upd_ne nat).trans h14, T.clW, T.nW_bag_count, wF_bag_count _ _ _, _, rfl, t, CW, dt1, _, rfl, upd_same, T.clW, T.nW_bag_count, wF_len _ _ _, ?_⟩
      rw [wF_put_bag_count, upd_upd]
      have old5 : ∀ b o, b ≠ t → H4 b = some o → upd H4 t (.ins CW dt1 (wF D l w)) b = some o := fun b o n e => by rw [upd_ne n]; exact e
      have nlD : D ≠ l := ne_of_none (old3 _ _ (Ne.symm ntD) hD2) hl2
      have xt : ∀ j x, bs[j]? = some x → x ≠ t := fun j x hj q => by
        obtain ⟨_, _, _, n⟩ := hx j x hj
        rw [q] at n
        rw [ht1] at n
        cases n
      refine ⟨_, rfl, k (upd H4 t (.ins CW dt1 (wF D l w))) t D l bs ⟨⟨dt1, upd_same⟩, ?_, ?_, hnd, hl, fun j x hj => ?_, nlD, fun m => ?_⟩ (fun b o e => ?_) fun b hb => ?_⟩
      · exact old5 _ _ (Ne.symm ntD) (old4 _ _ (Ne.symm ntD) (old3 _ _ (Ne.symm ntD) hD2))
      · exact old5 _ _ (Ne.symm ntl) hL4
      · obtain ⟨h, eh, ⟨dh, hh⟩, n⟩ := hx j x hj
        have nxt := xt j x hj
        exact ⟨h, eh, dh, old5 _ _ nxt (old4 _ _ nxt (old3 _ _ nxt hh))⟩
      · obtain ⟨j, hj⟩ := List.mem_iff_getElem?.mp m
        exact xt j t hj rfl
      · exact old5 _ _ (nbt _ _ e) (old4 _ _ (nbt _ _ e) (s3 _ _ e))
      · rcases List.mem_cons.mp hb with rfl | hb
        · exact nt
        · rcases List.mem_cons.mp hb with rfl | hb
          · exact nD
          · rcases List.mem_cons.mp hb with rfl | hb
            · exact s3.free hl2
            · obtain ⟨j, hj⟩ := List.mem_iff_getElem?.mp hb
              obtain ⟨_, _, _, n⟩ := hx j b hj
              exact s1.free n
end
end HP

set_option Elab.async false
set_option linter.all false
set_option maxRecDepth 100000
set_option maxHeartbeats 4000000
namespace HP
open PySem PySem.Spec PyProof.Rows L2
open C8 (Cal CalAt Met Mak)
open Kp411 (Weigher Hopper hopperAt)
open LamX (Tabs TabS TabB CodeO ExtN)
theorem pow_le8 {n : Nat} (h : n ≤ 8) : 2 ^ n ≤ 256 := Nat.pow_le_pow_right (by decide) h
section
variable {P : Program} {w : World} {K : PySem.W.Frag} {mg : Str → Option Value} {base : Heap} {CH CW CR : Addr} {TB : List (Addr × Str)}

/-! ### sums_by_mask, weights_by_mask -/
def spSums : Sp := fun vs H Q _ => ∃ (l : Addr) (ns : List Nat), vs = [.ref l] ∧ H l = some (.lst (vNats ns)) ∧ ns.length ≤ 8 ∧
  ∀ (H' : Hp) (p : Addr), Same H H' → H p = none → H' p = some (.lst (vNats (sumsL (fun i => ns.getD i 0) ns.length))) → Q (.ref p) H'
theorem ok_sums_by_mask {f : Addr} {fd : FuncData} (F : Fun K "sums_by_mask" "sums_by_mask" s_sums_by_mask f fd) : FnOk P w K mg base CX0 1 f fd ["values"] spSums := by
  refine F.ok sc_sums_by_mask (fun vs H Q E h => ?_) (fun cdv A outer s H vs Q E hr h => ?_)
  · obtain ⟨l, ns, rfl, _⟩ := h
    rfl
  · obtain ⟨l, ns, rfl, hl, h8, k⟩ := h
    refine ⟨_, (pss_cons (ps_set (i := 1) sc_sums_by_mask.nd rfl (Or.inl rfl) (pe_lst (pa_cons pe_int pa_nil)))
      (pss_cons (ps_for PassesOwn.never rfl (pi_list (pv 0)) (pg_name (i := 2) sc_sums_by_mask.nd rfl (Or.inr rfl))
      (pss_one (ps_set (i := 1) sc_sums_by_mask.nd rfl (Or.inl rfl) (pe_op op_cat (pv 1) (pe_lc (own := [("total", 3)]) (g := (gName 3)) (tt := tYes) rfl sc_sums_by_mask.nd (pi_list (pv 1)) (blkOk_by (N := N_sums_by_mask) (sc := defScope s_sums_by_mask) (by decide +kernel)) (fun _ _ _ _ _ => (pg_name (i := 3) sc_sums_by_mask.nd rfl (Or.inl rfl))) (fun _ _ _ _ _ => pts_nil) (fun _ _ _ _ _ => (pe_op op_add (pv 3) (pv 2))))))))
      (pss_one (ps_ret (pv 1))))), ?_⟩
    refine ⟨(by decide : 1 ≤ sizeLine), fun p0 hp0 => ?_⟩
    have s0 := Same.upd (o := .lst [.int 0]) hp0
    refine ⟨_, rfl, l, rfl, ⟨_, SqL.of (s0 _ _ hl)⟩, for_list (K := K) (a := l) (xs := vNats ns) (fun i σ H' => ∃ q v2 v3, σ = [some (.ref l), some (.ref q), v2, v3] ∧ Same H H' ∧ H q = none ∧ H' q = some (.lst (vNats (sumsL (fun i => ns.getD i 0) i))))
      ⟨p0, _, _, rfl, s0, hp0, by rw [upd_same]; rfl⟩ (fun i σ H' _ ⟨_, _, _, _, s, _⟩ => SqL.of (s _ _ hl)) ?_ ?_⟩
    · rintro i y σ H1 hi ⟨q, v2, v3, rfl, s1, nq, hq⟩
      obtain ⟨n, hn, rfl⟩ := vNats_get hi
      have hin : i < ns.length := (List.getElem?_eq_some_iff.mp hn).1
      have hp : 2 ^ i ≤ 256 := pow_le8 (by omega)
      have hsz : (sumsL (fun i => ns.getD i 0) i).length ≤ 256 := by rw [sumsL_length]; exact hp
      refine ⟨_, rfl, _, rfl, q, rfl, ⟨_, SqL.of hq⟩, fun D hD => ?_⟩
      refine lc_list (K := K) (a := q) (xs := vNats (sumsL (fun i => ns.getD i 0) i)) (fun j H2 => Same H1 H2 ∧ H2 D = some (.lst (vNats (((sumsL (fun i => ns.getD i 0) i).take j).map (· + n)))))
        ⟨Same.upd hD, upd_same⟩ (fun j H2 _ ⟨s, _⟩ => SqL.of (s _ _ hq)) ?_ ?_
      · rintro j y H2 hj ⟨s2, hD2⟩
        obtain ⟨t, ht, rfl⟩ := vNats_get hj
        have hjn := (List.getElem?_eq_some_iff.mp ht).1
        refine ⟨rfl, ?_⟩
        dsimp only [tYes]
        rw [if_pos rfl]
        refine ⟨_, rfl, _, rfl, _, _, rfl, rfl, _, hD2, ?_, fun b o e => ?_, ?_⟩
        · rw [vNats_length, List.length_map, List.length_take]
          exact small1000 (by omega)
        · rw [upd_ne (ne_of_none e hD)]
          exact s2 _ _ e
        · rw [upd_same, List.take_add_one, ht, Option.toList_some, List.map_append, vNats_append]
          rfl
      · rintro H2 ⟨s2, hD2⟩
        rw [vNats_length, List.take_length] at hD2
        refine ⟨q, D, _, _, rfl, rfl, s2 _ _ hq, hD2, Nat.le_of_lt (by rw [vNats_length, vNats_length, List.length_map]; exact small1000 (by omega)), fun p hp => ⟨p, _, _, rfl, (s1.trans s2).trans (Same.upd hp), (s1.trans s2).free hp, ?_⟩⟩
        rw [upd_same, sumsL_succ, vNats_append]
        have e : ns.getD i 0 = n := by rw [List.getD_eq_getElem?_getD, hn]; rfl
        rw [e]
    · rintro σ H1 ⟨q, v2, v3, rfl, s1, nq, hq⟩
      rw [vNats_length] at hq
      exact ⟨_, rfl, k _ q s1 nq hq⟩
def spWts (CH CW : Addr) : Sp := fun vs H Q _ => ∃ (a lh lq : Addr) (as : List Addr) (w : Weigher), vs = [.ref a] ∧ WAt CH CW H a lh lq as w ∧ w.hoppers.length ≤ 8 ∧
  ∀ (H' : Hp) (p : Addr), Same H H' → H p = none → H' p = some (.lst (vNats (wts w))) → Q (.ref p) H'
theorem ok_weights_by_mask {f : Addr} {fd : FuncData} (F : Fun K "weights_by_mask" "weights_by_mask" s_weights_by_mask f fd) (T : Txt K mg CH CW CR) (c_sums_by_mask : Cal P w K mg base 1 "sums_by_mask" spSums []) : FnOk P w K mg base CX0 2 f fd ["weigher"] (spWts CH CW) := by
  refine F.ok sc_weights_by_mask (fun vs H Q E h => ?_) (fun cdv A outer s H vs Q E hr h => ?_)
  · obtain ⟨a, lh, lq, as, w, rfl, _⟩ := h
    rfl
  · obtain ⟨a, lh, lq, as, w, rfl, W, h8, k⟩ := h
    refine ⟨_, (pss_one (ps_ret (C8.pe_c c_sums_by_mask hr (by decide) (by rfl) (pa_cons (pe_lc (own := [("hopper", 1)]) (g := (gName 1)) (tt := tYes) rfl sc_weights_by_mask.nd (pi_list (pe_fldK K rfl (pv 0) rfl)) (blkOk_by (N := N_weights_by_mask) (sc := defScope s_weights_by_mask) (by decide +kernel)) (fun _ _ _ _ _ => (pg_name (i := 1) sc_weights_by_mask.nd rfl (Or.inl rfl))) (fun _ _ _ _ _ => pts_nil) (fun _ _ _ _ _ => (pe_fldK K rfl (pv 1) rfl))) pa_nil)))), ?_⟩
    obtain ⟨dx, h1⟩ := W.obj
    refine ⟨_, rfl, a, CW, dx, _, _, rfl, h1, T.clW, T.nW_hoppers, wF_hoppers _ _ _, lh, rfl, ⟨_, SqL.of W.lst⟩, fun D hD => ?_⟩
    refine lc_list (K := K) (a := lh) (xs := as.map V.ref) (fun i H1 => Same H H1 ∧ H1 D = some (.lst (vNats ((w.hoppers.take i).map (·.weight)))))
      ⟨Same.upd hD, upd_same⟩ (fun i H1 _ ⟨s, _⟩ => SqL.of (s _ _ W.lst)) ?_ ?_
    · rintro i y H1 hi ⟨s1, hD1⟩
      obtain ⟨x, hx, rfl⟩ := map_ref_get hi
      obtain ⟨h, eh, dh, hh⟩ := W.hop i x hx
      have hin : i < w.hoppers.length := (List.getElem?_eq_some_iff.mp eh).1
      refine ⟨rfl, ?_⟩
      dsimp only [tYes]
      rw [if_pos rfl]
      refine ⟨_, rfl, x, CH, dh, _, _, rfl, s1 _ _ hh, T.clH, T.nH_weight, hF_weight h, _, hD1, ?_, fun b o e => ?_, ?_⟩
      · rw [vNats_length, List.length_map, List.length_take]
        exact small1000 (by omega)
      · rw [upd_ne (ne_of_none e hD)]
        exact s1 _ _ e
      · rw [upd_same, List.take_add_one, eh, Option.toList_some, List.map_append, vNats_append]
        rfl
    · rintro H1 ⟨s1, hD1⟩
      rw [List.length_map, W.len, List.take_length] at hD1
      refine ⟨D, _, rfl, hD1, by rw [List.length_map]; exact h8, fun H2 p s2 np hp => k H2 p (s1.trans s2) (s1.free np) ?_⟩
      rw [hp, wts_eq]

/-! ### size_of, mask_of -/
theorem bits_bound (m : Nat) : m < 2 ^ Builtin.Int.intBits (m : Int) := by
  unfold Builtin.Int.intBits
  by_cases z : m = 0
  · subst z
    decide
  · rw [if_neg (by simpa using z)]
    exact Nat.lt_log2_self
theorem bits_small {m n : Nat} (h : m < 2 ^ n) : Builtin.Int.intBits (m : Int) ≤ n := by
  unfold Builtin.Int.intBits
  by_cases z : m = 0
  · subst z
    exact Nat.zero_le _
  · rw [if_neg (by simpa using z)]
    have : (m : Int).natAbs.log2 < n := (Nat.log2_lt (by simpa using z)).mpr h
    omega
def spSize : Sp := fun vs H Q _ => ∃ (w : Weigher) (m : Nat), vs = [.int (m : Int)] ∧ m < 2 ^ w.hoppers.length ∧ w.hoppers.length ≤ 8 ∧ ∀ H', Same H H' → Q (.int (cnt w m : Nat)) H'
theorem ok_size_of {f : Addr} {fd : FuncData} (F : Fun K "size_of" "size_of" s_size_of f fd) (T : Txt K mg CH CW CR) : FnOk P w K mg base CX0 1 f fd ["mask"] spSize := by
  refine F.ok sc_size_of (fun vs H Q E h => ?_) (fun cdv A outer s H vs Q E hr h => ?_)
  · obtain ⟨w, m, rfl, _⟩ := h
    rfl
  · obtain ⟨w, m, rfl, hm, h8, k⟩ := h
    refine ⟨_, (pss_one (ps_ret (pe_callB call_len_seq (by rfl) T.b_len (by decide +kernel) (pa_cons (pe_lc (own := [("number", 1)]) (g := (gName 1)) rfl sc_size_of.nd (pi_range1 (by rfl) T.b_range (pa_cons (pe_bits (pv 0)) pa_nil)) (blkOk_by (N := N_size_of) (sc := defScope s_size_of) (by decide +kernel)) (fun _ _ _ _ _ => (pg_name (i := 1) sc_size_of.nd rfl (Or.inl rfl))) (fun _ _ _ _ _ => pts_one (pt_truthK K rfl (pe_op op_and (pe_op op_shr (pv 0) (pv 1)) pe_int) (by intro _; rfl))) (fun _ _ _ _ _ => (pv 1))) pa_nil)))), ?_⟩
    have hb := bits_small hm
    refine ⟨_, rfl, _, rfl, ((Builtin.Int.intBits (m : Int) : Nat) : Int), rfl, by omega, by omega, fun D hD => ?_⟩
    refine lc_range (lo := 0) (n := (((Builtin.Int.intBits (m : Int) : Nat) : Int)).toNat) (fun i H1 => Same H H1 ∧ H1 D = some (.lst (vNats ((List.range i).filter fun j => Kp411.contains m j))))
      ⟨Same.upd hD, upd_same⟩ ?_ ?_
    · rintro i H1 hi ⟨s1, hD1⟩
      rw [Int.toNat_natCast] at hi
      refine ⟨rfl, _, rfl, _, rfl, _, _, rfl, rfl, by omega, _, _, rfl, rfl, _, rfl, ?_⟩
      have eb : (Builtin.bitAnd ((m : Int) / 2 ^ (0 + (i : Int)).toNat) 1 != 0) = Kp411.contains m i := by rw [Int.zero_add, bit_eq, bit_true]
      by_cases c : Kp411.contains m i = true
      · refine if_true_of (eb.trans c) ?_
        refine ⟨_, rfl, _, hD1, by rw [vNats_length]; exact small1000 (Nat.le_trans (length_filter_range _ _) (by omega)), fun b o e => ?_, ?_⟩
        · rw [upd_ne (ne_of_none e hD)]
          exact s1 _ _ e
        · rw [upd_same, filter_range_succ, if_pos c, vNats_append, vNats_one, Int.zero_add]
      · refine if_false_of (eb.trans (eq_false_of_ne_true c)) ⟨s1, ?_⟩
        rw [filter_range_succ, if_neg c, List.append_nil]
        exact hD1
    · rintro H1 ⟨s1, hD1⟩
      rw [Int.toNat_natCast] at hD1
      refine ⟨D, _, rfl, .inl (SqL.of hD1), ?_⟩
      rw [vNats_length, filter_bits (bits_bound m) hm]
      exact k _ s1
def spMaskOf : Sp := fun vs H Q _ => ∃ (l : Addr) (c : List Nat), vs = [.ref l] ∧ H l = some (.lst (vNats c)) ∧ (∀ x ∈ c, x < 8) ∧ c.length ≤ 100 ∧ ∀ H', Same H H' → Q (.int (maskOf c : Nat)) H'
theorem ok_mask_of {f : Addr} {fd : FuncData} (F : Fun K "mask_of" "mask_of" s_mask_of f fd) (T : Txt K mg CH CW CR) : FnOk P w K mg base CX0 1 f fd ["numbers"] spMaskOf := by
  refine F.ok sc_mask_of (fun vs H Q E h => ?_) (fun cdv A outer s H vs Q E hr h => ?_)
  · obtain ⟨l, c, rfl, _⟩ := h
    rfl
  · obtain ⟨l, c, rfl, hl, hc, hlen, k⟩ := h
    refine ⟨_, (pss_one (ps_ret (pe_callB (cr_sum rfl) (by rfl) T.b_sum (by decide +kernel) (pa_cons (pe_lc (own := [("number", 1)]) (g := (gName 1)) (tt := tYes) rfl sc_mask_of.nd (pi_list (pv 0)) (blkOk_by (N := N_mask_of) (sc := defScope s_mask_of) (by decide +kernel)) (fun _ _ _ _ _ => (pg_name (i := 1) sc_mask_of.nd rfl (Or.inl rfl))) (fun _ _ _ _ _ => pts_nil) (fun _ _ _ _ _ => (pe_op op_shl pe_int (pv 1)))) pa_nil)))), ?_⟩
    refine ⟨_, rfl, l, rfl, ⟨_, SqL.of hl⟩, fun D hD => ?_⟩
    refine lc_list (K := K) (a := l) (xs := vNats c) (fun i H1 => Same H H1 ∧ H1 D = some (.lst (vNats ((c.take i).map fun j => 2 ^ j))))
      ⟨Same.upd hD, upd_same⟩ (fun i H1 _ ⟨s, _⟩ => SqL.of (s _ _ hl)) ?_ ?_
    · rintro i y H1 hi ⟨s1, hD1⟩
      obtain ⟨j, hj, rfl⟩ := vNats_get hi
      have hj8 := hc j (List.mem_of_getElem? hj)
      refine ⟨rfl, ?_⟩
      dsimp only [tYes]
      rw [if_pos rfl]
      refine ⟨_, rfl, _, _, rfl, rfl, ⟨by omega, by omega, by decide⟩, _, hD1, ?_, fun b o e => ?_, ?_⟩
      · rw [vNats_length, List.length_map, List.length_take]
        exact small1000 (by omega)
      · rw [upd_ne (ne_of_none e hD)]
        exact s1 _ _ e
      · have e : (1 : Int) * 2 ^ ((j : Int)).toNat = ((2 ^ j : Nat) : Int) := by
          rw [Int.toNat_natCast]
          simp
        rw [upd_same]
        show some (HO.lst (vNats _ ++ [V.int ((1 : Int) * 2 ^ ((j : Int)).toNat)])) = _
        rw [e, List.take_add_one, hj, Option.toList_some, List.map_append, vNats_append]
        rfl
    · rintro H1 ⟨s1, hD1⟩
      rw [vNats_length, List.take_length] at hD1
      refine ⟨D, _, rfl, by rw [← vNats_ofNat]; exact SqL.of hD1, ?_⟩
      rw [sum_cast]
      exact k _ s1

/-! ### filling_masks -/
theorem and_nat (a b : Nat) : Builtin.bitAnd (a : Int) (b : Int) = ((a &&& b : Nat) : Int) := by
  rw [PyProof.Rows.bitAnd_pp (Int.natCast_nonneg _) (Int.natCast_nonneg _), Int.toNat_natCast, Int.toNat_natCast]
theorem due_lt8 {w : Weigher} (h8 : w.hoppers.length ≤ 8) : ∀ x ∈ Kp411.dueHoppers w, x < 8 := fun x hx => Nat.lt_of_lt_of_le (mem_due.mp hx).1 h8
def spFilling (CH CW : Addr) : Sp := fun vs H Q _ => ∃ (a lh lq : Addr) (as : List Addr) (w : Weigher) (t : Nat), vs = [.ref a, .int (t : Int)] ∧ WAt CH CW H a lh lq as w ∧ w.hoppers.length ≤ 8 ∧
  ∀ (H' : Hp) (p : Addr), Same H H' → H p = none → H' p = some (.lst (vNats (Kp411.fillingSets { w with target := t }))) → Q (.ref p) H'
theorem ok_filling_masks {f : Addr} {fd : FuncData} (F : Fun K "filling_masks" "filling_masks" s_filling_masks f fd) (T : Txt K mg CH CW CR) (m_due_numbers : Met P w K mg base 3 CW "due_numbers" (spDueNumbers CH CW) []) (c_mask_of : Cal P w K mg base 1 "mask_of" spMaskOf [])
    (c_weights_by_mask : Cal P w K mg base 2 "weights_by_mask" (spWts CH CW) []) : FnOk P w K mg base CX0 4 f fd ["weigher", "target"] (spFilling CH CW) := by
  refine F.ok sc_filling_masks (fun vs H Q E h => ?_) (fun cdv A outer s H vs Q E hr h => ?_)
  · obtain ⟨a, lh, lq, as, w, t, rfl, _⟩ := h
    rfl
  · obtain ⟨a, lh, lq, as, w, t, rfl, W, h8, k⟩ := h
    refine ⟨_, (pss_cons (ps_set (i := 2) sc_filling_masks.nd rfl (Or.inr rfl) (C8.pe_c c_mask_of hr (by decide) (by rfl) (pa_cons (C8.pe_mt0 m_due_numbers hr (by decide) (pv 0)) pa_nil)))
      (pss_cons (ps_set (i := 3) sc_filling_masks.nd rfl (Or.inl rfl) (C8.pe_c c_weights_by_mask hr (by decide) (by rfl) (pa_cons (pv 0) pa_nil)))
      (pss_one (ps_ret (pe_lc (own := [("mask", 4), ("weight", 5)]) (g := (gTup K 2 (gCons (gName 4) (gCons (gName 5) gNil)))) rfl sc_filling_masks.nd (pi_enum (by rfl) T.b_enumerate (pa_cons (pv 3) pa_nil)) (blkOk_by (N := N_filling_masks) (sc := defScope s_filling_masks) (by decide +kernel)) (fun _ _ _ _ _ => (pg_tup rfl (pgs_cons (pg_name (i := 4) sc_filling_masks.nd rfl (Or.inl rfl)) (pgs_cons (pg_name (i := 5) sc_filling_masks.nd rfl (Or.inl rfl)) pgs_nil)))) (fun _ _ _ _ _ => pts_one (PW.pt (pw_and (pt_cmpR op_ge (pv 5) (pv 1) (nomark _)) (pw_and1 (pt_cmpR op_eq (pe_op op_and (pv 4) (pv 2)) (pv 2) (nomark _)))))) (fun _ _ _ _ _ => (pv 4))))))), ?_⟩
    obtain ⟨dx, h1⟩ := W.obj
    refine ⟨_, rfl, a, dx, _, rfl, h1, wF_no _ _ _ (by decide +kernel), a, lh, lq, as, w, rfl, W, h8, fun H1 p1 s1 n1 hp1 => ?_⟩
    refine ⟨p1, _, rfl, hp1, due_lt8 h8, Nat.le_trans (length_filter_range _ _) (by omega), fun H2 s2 => ?_⟩
    refine ⟨_, rfl, a, lh, lq, as, w, rfl, W.same (s1.trans s2), h8, fun H3 p3 s3 n3 hp3 => ?_⟩
    have s13 := (s1.trans s2).trans s3
    have hp := pow_le8 h8
    refine ⟨_, rfl, p3, _, rfl, SqL.of hp3, fun D hD => ?_⟩
    refine lc_it (walk_enum (K := K) (a := p3) (xs := vNats (wts w))) (fun i H4 => Same H3 H4 ∧ H4 D = some (.lst (vNats ((List.range i).filter (fillsB { w with target := t })))))
      ⟨Same.upd hD, upd_same⟩ (fun i H4 _ ⟨s, _⟩ => SqL.of (s _ _ hp3)) ?_ ?_
    · rintro i _ H4 _ hin ⟨s4, hD4⟩ ⟨U, _, y, rfl, hU, rfl, ey, hi⟩
      cases ey
      obtain ⟨v, hv, rfl⟩ := vNats_get hi
      have hi2 : i < 2 ^ w.hoppers.length := by rw [vNats_length, wts_length] at hin; exact hin
      have ev : v = Kp411.weightOf w i := by
        have q := wts_get hi2
        rw [List.getD_eq_getElem?_getD, hv] at q
        exact q
      subst ev
      have s5 : Same H3 (upd H4 U (.tup [.int (i : Int), .int ((Kp411.weightOf w i : Nat) : Int)])) := s4.trans (Same.upd hU)
      have nDU : D ≠ U := ne_of_none hD4 hU
      refine ⟨U, _, rfl, SqT.of upd_same, rfl, _, _, rfl, _, _, rfl, rfl, rfl, ?_⟩
      have ef : fillsB { w with target := t } i = (decide (t ≤ Kp411.weightOf w i) && decide (i &&& dueSet w = dueSet w)) := by rw [due_in]; rfl
      refine ⟨_, rfl, _, rfl, _, _, rfl, rfl, _, rfl, ?_⟩
      by_cases c : t ≤ Kp411.weightOf w i
      · refine if_true_of (decide_eq_true (by omega)) ?_
        refine ⟨_, rfl, _, rfl, _, _, rfl, rfl, _, rfl, rfl, _, rfl, ?_⟩
        rw [decide_eq_true c, Bool.true_and] at ef
        have eg : decide (V.int (Builtin.bitAnd (i : Int) ((maskOf (Kp411.dueHoppers w) : Nat) : Int)) = V.int ((maskOf (Kp411.dueHoppers w) : Nat) : Int)) = fillsB { w with target := t } i := by
          rw [and_nat, ef, maskOf_due, Bool.eq_iff_iff, decide_eq_true_iff, decide_eq_true_iff]
          constructor
          · intro q
            injection q with q
            omega
          · intro q
            rw [q]
        by_cases d : fillsB { w with target := t } i = true
        · refine if_true_of (eg.trans d) ?_
          refine ⟨_, rfl, _, (by rw [upd_ne nDU]; exact hD4), ?_, fun b o e => ?_, ?_⟩
          · rw [vNats_length]
            exact small1000 (Nat.le_trans (length_filter_range _ _) (by omega))
          · rw [upd_ne (ne_of_none e hD)]
            exact s5 _ _ e
          · rw [upd_same, filter_range_succ, if_pos d, vNats_append, vNats_one]
        · refine if_false_of (eg.trans (eq_false_of_ne_true d)) ⟨s5, ?_⟩
          rw [upd_ne nDU, filter_range_succ, if_neg d, List.append_nil]
          exact hD4
      · refine if_false_of (decide_eq_false (by omega)) ?_
        rw [decide_eq_false c, Bool.false_and] at ef
        refine if_false_of rfl ⟨s5, ?_⟩
        rw [upd_ne nDU, filter_range_succ, if_neg (by rw [ef]; decide), List.append_nil]
        exact hD4
    · rintro H4 ⟨s4, hD4⟩
      rw [vNats_length, wts_length] at hD4
      refine k _ _ (s13.trans s4) (s13.free hD) ?_
      rw [hD4, fillingSets_eq]
end
end HP

set_option Elab.async false
set_option linter.all false
set_option maxRecDepth 100000
set_option maxHeartbeats 4000000
namespace HP
open PySem PySem.Spec PyProof.Rows L2
open C8 (Cal CalAt Met Mak)
open Kp411 (Weigher Hopper hopperAt)
open LamX (Tabs TabS TabB CodeO ExtN)
section
variable {P : Program} {w : World} {K : PySem.W.Frag} {mg : Str → Option Value} {base : Heap} {CH CW CR : Addr} {TB : List (Addr × Str)}

/-! ### best_mask -/
def maskV : Option Nat → V
  | none => .non
  | some m => .int (m : Int)
def spBest (TB : List (Addr × Str)) (CH CW : Addr) : Sp := fun vs H Q _ => ∃ (a lh lq : Addr) (as : List Addr) (w : Weigher) (t : Nat), vs = [.ref a, .int (t : Int)] ∧ WAt CH CW H a lh lq as w ∧ w.hoppers.length ≤ 8 ∧ Tabs TB H ∧
  ∀ H' : Hp, ExtN H H' → Tabs TB H' → Q (maskV (Kp411.bestSet { w with target := t })) H'
theorem ok_best_mask {f c TT : Addr} {fd : FuncData} (F : FunC K "best_mask" "best_mask" s_best_mask f fd c) (T : Txt K mg CH CW CR) (t_best_mask : Tabl base mg TB "best_mask" c TT) (c_weights_by_mask : Cal P w K mg base 2 "weights_by_mask" (spWts CH CW) [])
    (c_sums_by_mask : Cal P w K mg base 1 "sums_by_mask" spSums []) (c_filling_masks : Cal P w K mg base 4 "filling_masks" (spFilling CH CW) []) : FnOk P w K mg base CX0 5 f fd ["weigher", "target"] (spBest TB CH CW) := by
  refine F.ok sc_best_mask (fun vs H Q E h => ?_) (fun A outer s H vs Q E hr h => ?_)
  · obtain ⟨a, lh, lq, as, w, t, rfl, _⟩ := h
    rfl
  · obtain ⟨a, lh, lq, as, w, t, rfl, W, h8, TA, k⟩ := h
    refine ⟨_, (pss_cons (ps_set (i := 2) sc_best_mask.nd rfl (Or.inr rfl) (C8.pe_c c_weights_by_mask hr (by decide) (by rfl) (pa_cons (pv 0) pa_nil)))
      (pss_cons (ps_set (i := 3) sc_best_mask.nd rfl (Or.inr rfl) (C8.pe_c c_sums_by_mask hr (by decide) (by rfl) (pa_cons (pe_lc (own := [("hopper", 5)]) (g := (gName 5)) (tt := tYes) rfl sc_best_mask.nd (pi_list (pe_fldK K rfl (pv 0) rfl)) (blkOk_by (N := N_best_mask) (sc := defScope s_best_mask) (by decide +kernel)) (fun _ _ _ _ _ => (pg_name (i := 5) sc_best_mask.nd rfl (Or.inl rfl))) (fun _ _ _ _ _ => pts_nil) (fun _ _ _ _ _ => pe_int)) pa_nil)))
      (pss_cons (ps_set (i := 4) sc_best_mask.nd rfl (Or.inl rfl) (C8.pe_c c_filling_masks hr (by decide) (by rfl) (pa_cons (pv 0) (pa_cons (pv 1) pa_nil))))
      (pss_one (ps_ret (pe_minLam (maker_of t_best_mask (sc := defScope s_best_mask) (x := "mask") (fr := ["weights", "sizes"]) (js := [2, 3]) rfl rfl rfl (by decide +kernel) (fun _ _ _ _ _ _ => rfl) rfl rfl) hr (by decide) rfl (by rfl) T.b_min (pv 4))))))), ?_⟩
    obtain ⟨dx, h1⟩ := W.obj
    refine ⟨_, rfl, a, lh, lq, as, w, rfl, W, h8, fun H1 p1 s1 n1 hp1 => ?_⟩
    refine ⟨_, rfl, a, CW, dx, _, _, rfl, s1 _ _ h1, T.clW, T.nW_hoppers, wF_hoppers _ _ _, lh, rfl, ⟨_, SqL.of (s1 _ _ W.lst)⟩, fun D hD => ?_⟩
    refine lc_list (K := K) (a := lh) (xs := as.map V.ref) (fun i H2 => Same H1 H2 ∧ H2 D = some (.lst (vNats (List.replicate i 1))))
      ⟨Same.upd hD, upd_same⟩ (fun i H2 _ ⟨s, _⟩ => SqL.of (s _ _ (s1 _ _ W.lst))) ?_ ?_
    · rintro i y H2 hi ⟨s2, hD2⟩
      have hin := (List.getElem?_eq_some_iff.mp hi).1
      rw [List.length_map, W.len] at hin
      refine ⟨rfl, ?_⟩
      dsimp only [tYes]
      rw [if_pos rfl]
      refine ⟨_, hD2, ?_, fun b o e => ?_, ?_⟩
      · rw [vNats_length, List.length_replicate]
        exact small1000 (by omega)
      · rw [upd_ne (ne_of_none e hD)]
        exact s2 _ _ e
      · rw [upd_same, List.replicate_succ', vNats_append]
        rfl
    · rintro H2 ⟨s2, hD2⟩
      rw [List.length_map, W.len] at hD2
      refine ⟨D, _, rfl, hD2, by rw [List.length_replicate]; exact h8, fun H3 p3 s3 n3 hp3 => ?_⟩
      rw [cnts_eq w rfl] at hp3
      have s13 := (s1.trans s2).trans s3
      refine ⟨_, rfl, _, rfl, a, lh, lq, as, w, t, rfl, W.same s13, h8, fun H4 p4 s4 n4 hp4 => ?_⟩
      have s14 := s13.trans s4
      have hw4 := s4 _ _ (s3 _ _ (s2 _ _ hp1))
      have hz4 := s4 _ _ hp3
      have hlt : ∀ m ∈ Kp411.fillingSets { w with target := t }, m < 2 ^ w.hoppers.length := fun m hm => by
        rw [fillingSets_eq] at hm
        exact List.mem_range.mp (List.mem_filter.mp hm).1
      have hp := pow_le8 h8
      refine ⟨_, rfl, p4, p1, p3, Kp411.fillingSets { w with target := t }, wts w, (List.range (2 ^ w.hoppers.length)).map (cnt w), rfl, SqL.of hp4, rfl, rfl, SqL.of hw4, SqL.of hz4, fun m hm => ?_, tabs_same TA s14, fun b u e => ⟨?_, ?_, ?_⟩, fun H5 e5 T5 => ⟨fun z => ?_, fun m hm => ?_⟩⟩
      · have := hlt m hm
        rw [wts_length, List.length_map, List.length_range]
        exact ⟨this, this, by omega⟩
      · exact ne_of e hp4 (by intro q; cases q)
      · exact ne_of e hw4 (by intro q; cases q)
      · exact ne_of e hz4 (by intro q; cases q)
      · have q := k H5 (fun b o e n => e5 _ _ (s14 _ _ e) n) T5
        rw [best_none_of z] at q
        exact q
      · have q := k H5 (fun b o e n => e5 _ _ (s14 _ _ e) n) T5
        rw [best_of (w := { w with target := t }) (fun m hm => ⟨wts_get (hlt m hm), ?_⟩) hm] at q
        · exact q
        · rw [List.getD_eq_getElem?_getD, List.getElem?_map, List.getElem?_range (hlt m hm)]
          rfl

/-! ### numbers_by_weight, greedy_mask -/
def spOrder (TB : List (Addr × Str)) (CH CW : Addr) : Sp := fun vs H Q _ => ∃ (a lh lq : Addr) (as : List Addr) (w : Weigher), vs = [.ref a] ∧ WAt CH CW H a lh lq as w ∧ w.hoppers.length ≤ 8 ∧ Tabs TB H ∧
  ∀ (H' : Hp) (p : Addr) (L : List Nat), ExtN H H' → Tabs TB H' → L.Pairwise (ahead w) → (∀ x, x ∈ L ↔ x < w.hoppers.length) → L.length = w.hoppers.length → (∀ b o, H b = some o → (∀ ps, o ≠ .tbl ps) → b ≠ p) → H' p = some (.lst (vNats L)) → Q (.ref p) H'
theorem ok_numbers_by_weight {f c TT : Addr} {fd : FuncData} (F : FunC K "numbers_by_weight" "numbers_by_weight" s_numbers_by_weight f fd c) (T : Txt K mg CH CW CR) (t_numbers_by_weight : Tabl base mg TB "numbers_by_weight" c TT) :
    FnOk P w K mg base CX0 5 f fd ["weigher"] (spOrder TB CH CW) := by
  refine F.ok sc_numbers_by_weight (fun vs H Q E h => ?_) (fun A outer s H vs Q E hr h => ?_)
  · obtain ⟨a, lh, lq, as, w, rfl, _⟩ := h
    rfl
  · obtain ⟨a, lh, lq, as, w, rfl, W, h8, TA, k⟩ := h
    refine ⟨_, (pss_cons (ps_set (i := 1) sc_numbers_by_weight.nd rfl (Or.inr rfl) (pe_fldK K rfl (pv 0) rfl))
      (pss_one (ps_ret (pe_sortLam (maker_of t_numbers_by_weight (sc := defScope s_numbers_by_weight) (x := "number") (fr := ["hoppers"]) (js := [1]) rfl rfl rfl (by decide +kernel) (fun _ _ _ _ _ _ => rfl) rfl rfl) hr (by decide) (by rfl) T.b_sorted (by rfl) T.b_range (pe_callB call_len_seq (by rfl) T.b_len (by decide +kernel) (pa_cons (pv 1) pa_nil)))))), ?_⟩
    obtain ⟨dx, h1⟩ := W.obj
    have hg : ∀ i, i < w.hoppers.length → (w.hoppers.map (·.weight)).getD i 0 = (hopperAt w i).weight := fun i hi => by
      unfold hopperAt
      rw [List.getD_eq_getElem?_getD, List.getD_eq_getElem?_getD, List.getElem?_map, List.getElem?_eq_getElem hi]
      rfl
    refine ⟨_, rfl, a, CW, dx, _, _, rfl, h1, T.clW, T.nW_hoppers, wF_hoppers _ _ _, ?_⟩
    refine ⟨_, rfl, lh, _, rfl, .inl (SqL.of W.lst), w.hoppers.length, lh, as, w.hoppers.map (·.weight), by rw [List.length_map, W.len], by omega, rfl, SqL.of W.lst, fun i hi => ?_, TA, fun u e => ?_, fun H2 e2 T2 q hq => ?_⟩
    · obtain ⟨x, hx, dh, hh⟩ := W.at_ hi
      exact ⟨x, dh, CH, _, hx, hh, T.clH, T.nH_weight, by rw [hg i hi]; exact hF_weight _⟩
    · rw [W.lst] at e
      cases e
    · obtain ⟨hs, hm⟩ := sortBy_ahead (w := w) (n := w.hoppers.length) hg
      refine k _ q _ (fun b o e n => ?_) (tabs_same T2 (Same.upd hq)) hs hm (by unfold sortBy; rw [List.length_mergeSort, List.length_range]) (fun b o e n => ne_of_none (e2 _ _ e n) hq) upd_same
      rw [upd_ne (ne_of_none (e2 _ _ e n) hq)]
      exact e2 _ _ e n
theorem inV_nat (x : Nat) (c : List Nat) : inV (.int (x : Int)) (vNats c) = decide (x ∈ c) := by
  unfold inV vNats
  rw [List.any_map, Bool.eq_iff_iff, List.any_eq_true, decide_eq_true_iff]
  constructor
  · rintro ⟨y, hy, e⟩
    have e' : ((y : Int) == (x : Int)) = true := e
    have : y = x := by
      have := eq_of_beq e'
      omega
    exact this ▸ hy
  · exact fun h => ⟨x, h, by show ((x : Int) == (x : Int)) = true; exact beq_self_eq_true _⟩
theorem flat_nats (c : List Nat) : (vNats c).all flatV = true := by
  unfold vNats
  rw [List.all_map, List.all_eq_true]
  exact fun _ _ => rfl
def spGreedy (TB : List (Addr × Str)) (CH CW : Addr) : Sp := fun vs H Q _ => ∃ (a lh lq : Addr) (as : List Addr) (w : Weigher), vs = [.ref a] ∧ WAt CH CW H a lh lq as w ∧ w.hoppers.length ≤ 8 ∧ Tabs TB H ∧
  ∀ H' : Hp, ExtN H H' → Tabs TB H' → Q (maskV (Kp411.greedySet w)) H'
theorem ok_greedy_mask {f : Addr} {fd : FuncData} (F : Fun K "greedy_mask" "greedy_mask" s_greedy_mask f fd) (T : Txt K mg CH CW CR) (m_due_numbers : Met P w K mg base 3 CW "due_numbers" (spDueNumbers CH CW) []) (m_weight_in : Met P w K mg base 1 CW "weight_in" (spWeightIn CH CW) [])
    (c_mask_of : Cal P w K mg base 1 "mask_of" spMaskOf []) (c_numbers_by_weight : Cal P w K mg base 5 "numbers_by_weight" (spOrder TB CH CW) []) : FnOk P w K mg base CX0 6 f fd ["weigher"] (spGreedy TB CH CW) := by
  refine F.ok sc_greedy_mask (fun vs H Q E h => ?_) (fun cdv A outer s H vs Q E hr h => ?_)
  · obtain ⟨a, lh, lq, as, w, rfl, _⟩ := h
    rfl
  · obtain ⟨a, lh, lq, as, w, rfl, W, h8, TA, k⟩ := h
    refine ⟨_, (pss_cons (ps_set (i := 1) sc_greedy_mask.nd rfl (Or.inl rfl) (C8.pe_mt0 m_due_numbers hr (by decide) (pv 0)))
      (pss_cons (ps_set (i := 2) sc_greedy_mask.nd rfl (Or.inl rfl) (C8.pe_mt m_weight_in hr (by decide) (pv 0) (pa_cons (C8.pe_c c_mask_of hr (by decide) (by rfl) (pa_cons (pv 1) pa_nil)) pa_nil)))
      (pss_cons (ps_for PassesOwn.never rfl (pi_list (C8.pe_c c_numbers_by_weight hr (by decide) (by rfl) (pa_cons (pv 0) pa_nil))) (pg_name (i := 3) sc_greedy_mask.nd rfl (Or.inl rfl))
      (pss_one (ps_if (PW.pt (pw_and (pt_cmpR op_lt (pv 2) (pe_fldK K rfl (pv 0) rfl) (nomark _)) (pw_and1 (pt_cmpR op_notIn_seq (pv 3) (pv 1) rfl)))) (pss_cons (ps_expr (pe_bm PySem.F.plainAttrs_list PySem.F.slot_list_append PySem.F.type_list_append mt_append (pv 1) (pa_cons (pv 3) pa_nil)))
      (pss_one (ps_aug (i := 2) sc_greedy_mask.nd rfl (Or.inl rfl) (pe_fldK K rfl (pe_ix ix_list (pe_fldK K rfl (pv 0) rfl) (pv 3) (fun _ _ => rfl)) rfl) ip_add))) pss_nil)))
      (pss_one (ps_ret (pe_ifExp (pt_cmpR op_ge (pv 2) (pe_fldK K rfl (pv 0) rfl) (nomark _)) (C8.pe_c c_mask_of hr (by decide) (by rfl) (pa_cons (pv 1) pa_nil)) pe_non)))))), ?_⟩
    obtain ⟨dx, h1⟩ := W.obj
    have hdl : (Kp411.dueHoppers w).length ≤ 8 := Nat.le_trans (length_filter_range _ _) h8
    refine ⟨_, rfl, a, dx, _, rfl, h1, wF_no _ _ _ (by decide +kernel), a, lh, lq, as, w, rfl, W, h8, fun H1 pc s1 n1 hp1 => ?_⟩
    refine ⟨_, rfl, a, dx, _, rfl, s1 _ _ h1, wF_no _ _ _ (by decide +kernel), _, rfl, pc, _, rfl, hp1, due_lt8 h8, by omega, fun H2 s2 => ?_⟩
    have s12 := s1.trans s2
    refine ⟨a, lh, lq, as, w, maskOf (Kp411.dueHoppers w), rfl, W.same s12, h8, fun H3 s3 => ?_⟩
    have s13 := s12.trans s3
    have hc3 := s3 _ _ (s2 _ _ hp1)
    refine ⟨_, rfl, a, lh, lq, as, w, rfl, W.same s13, h8, tabs_same TA s13, fun H4 p L e4 T4 hs hm hL np hp => ?_⟩
    have hc4 := e4 _ _ hc3 (fun _ q => by cases q)
    have nlst : ∀ (xs : List V) (ps : Array Value), HO.lst xs ≠ .tbl ps := fun xs ps q => by cases q
    have npc : pc ≠ p := np _ _ hc3 (nlst _)
    have W4 : WAt CH CW H4 a lh lq as w := (W.same s13).ext e4
    have off : ∀ b ∈ own a lh lq as, b ∉ [pc] := fun b hb m => by
      rw [List.mem_singleton] at m
      subst m
      obtain ⟨o, e, _⟩ := W.plain b hb
      rw [n1] at e
      cases e
    refine ⟨p, rfl, ⟨_, SqL.of hp⟩, for_list (K := K) (a := p) (xs := vNats L) (fun i σ H' => ∃ v3, σ = [some (.ref a), some (.ref pc), some (.int ((Kp411.weightOf w (maskOf ((L.take i).foldl (pick w) (Kp411.dueHoppers w))) : Nat) : Int)), v3] ∧ Keep [pc] H4 H' ∧ H' pc = some (.lst (vNats ((L.take i).foldl (pick w) (Kp411.dueHoppers w)))))
      ⟨_, rfl, Keep.refl _ _, hc4⟩ (fun i σ H' _ ⟨_, _, kp, _⟩ => SqL.of (kp _ _ hp (by simpa using Ne.symm npc))) ?_ ?_⟩
    · rintro i y σ H' hi ⟨v3, rfl, kp, hc⟩
      obtain ⟨x, hx, rfl⟩ := vNats_get hi
      have hxn : x < w.hoppers.length := (hm x).mp (List.mem_of_getElem? hx)
      have hin := (List.getElem?_eq_some_iff.mp hx).1
      have C : Chosen w ((L.take i).foldl (pick w) (Kp411.dueHoppers w)) := (Chosen.due w).fold fun z hz => (hm z).mp (List.mem_of_mem_take hz)
      have hlen := pick_len w (L.take i) (Kp411.dueHoppers w)
      rw [List.length_take] at hlen
      have es : (L.take (i + 1)).foldl (pick w) (Kp411.dueHoppers w) = pick w ((L.take i).foldl (pick w) (Kp411.dueHoppers w)) x := by
        rw [List.take_add_one, hx, Option.toList_some, List.foldl_append]
        rfl
      rw [es]
      generalize (L.take i).foldl (pick w) (Kp411.dueHoppers w) = c at hc C hlen
      have W' := W4.keep kp off
      obtain ⟨dx', h1'⟩ := W'.obj
      refine ⟨_, rfl, _, rfl, a, CW, dx', _, _, rfl, h1', T.clW, T.nW_target, wF_target _ _ _, _, _, rfl, rfl, _, rfl, ?_⟩
      by_cases d : Kp411.weightOf w (maskOf c) < w.target
      · refine if_true_of (decide_eq_true (by omega)) ?_
        refine ⟨_, rfl, _, rfl, pc, _, rfl, .inl (SqL.of hc), rfl, flat_nats c, _, rfl, ?_⟩
        have ein : (!inV (.int (x : Int)) (vNats c)) = !decide (x ∈ c) := by rw [inV_nat]
        by_cases m : x ∈ c
        · refine if_false_of (ein.trans (by rw [decide_eq_true m]; rfl)) ?_
          have ep : pick w c x = c := by
            unfold pick
            rw [if_neg fun q => q.2 m]
          rw [ep]
          exact ⟨_, rfl, kp, hc⟩
        · refine if_true_of (ein.trans (by rw [decide_eq_false m]; rfl)) ?_
          have ep : pick w c x = c ++ [x] := by
            unfold pick
            rw [if_pos ⟨d, m⟩]
          obtain ⟨z, hz, dh, hh⟩ := W'.at_ hxn
          have nz : z ≠ pc := fun q => off z (mem_own_x (List.mem_of_getElem? hz)) (by rw [q]; simp)
          have na : a ≠ pc := fun q => off a mem_own_a (by rw [q]; simp)
          have nl : lh ≠ pc := fun q => off lh mem_own_h (by rw [q]; simp)
          refine ⟨_, rfl, .inl ⟨rfl, _, SqL.of hc⟩, _, rfl, pc, _, _, rfl, rfl, hc, by rw [vNats_length]; exact small1000 (by omega), ?_⟩
          refine ⟨_, rfl, _, rfl, a, CW, dx', _, _, rfl, (upd_ne na).trans h1', T.clW, T.nW_hoppers, wF_hoppers _ _ _, _, rfl, lh, _, (x : Int), _, rfl, rfl, SqL.of ((upd_ne nl).trans W'.lst), at_of (j := x) rfl (by rw [List.getElem?_map, hz]; rfl), z, CH, dh, _, _, rfl, (upd_ne nz).trans hh, T.clH, T.nH_weight, hF_weight _, _, _, rfl, rfl, ?_⟩
          rw [ep, C.weight hxn m, vNats_append, vNats_one]
          exact ⟨_, rfl, kp.trans (Keep.upd (by simp)), upd_same⟩
      · refine if_false_of (decide_eq_false (by omega)) (if_false_of rfl ?_)
        have ep : pick w c x = c := by
          unfold pick
          rw [if_neg fun q => d q.1]
        rw [ep]
        exact ⟨_, rfl, kp, hc⟩
    · rintro σ H' ⟨v3, rfl, kp, hc⟩
      rw [vNats_length, List.take_length] at hc ⊢
      have C : Chosen w (L.foldl (pick w) (Kp411.dueHoppers w)) := (Chosen.due w).fold fun z hz => (hm z).mp hz
      have hlen := pick_len w L (Kp411.dueHoppers w)
      have eg : Kp411.greedySet w = if w.target ≤ Kp411.weightOf w (maskOf (L.foldl (pick w) (Kp411.dueHoppers w))) then some (maskOf (L.foldl (pick w) (Kp411.dueHoppers w))) else none := by rw [greedySet_eq, greedy_is hs hm]
      generalize L.foldl (pick w) (Kp411.dueHoppers w) = c at hc C hlen eg
      have W' := W4.keep kp off
      obtain ⟨dx', h1'⟩ := W'.obj
      have fin : ∀ H5, Same H' H5 → Q (maskV (Kp411.greedySet w)) H5 := fun H5 s5 => by
        refine k H5 (fun b o e n => s5 _ _ (kp _ _ (e4 _ _ (s13 _ _ e) n) ?_)) (tabs_same (tabs_keep T4 (fun b hb => ?_) kp) s5)
        · rw [List.mem_singleton]
          exact ne_of_none e n1
        · rw [List.mem_singleton] at hb
          subst hb
          exact ⟨_, hc4, nlst _, fun f q => by cases q⟩
      refine ⟨_, rfl, _, rfl, a, CW, dx', _, _, rfl, h1', T.clW, T.nW_target, wF_target _ _ _, _, _, rfl, rfl, _, rfl, ?_⟩
      by_cases d : w.target ≤ Kp411.weightOf w (maskOf c)
      · refine if_true_of (decide_eq_true (by omega)) ?_
        refine ⟨_, rfl, pc, c, rfl, hc, fun x hx => Nat.lt_of_lt_of_le (C.lt x hx) h8, by omega, fun H5 s5 => ?_⟩
        have q := fin H5 s5
        rw [eg, if_pos d] at q
        exact q
      · refine if_false_of (decide_eq_false (by omega)) ?_
        have q := fin H' (Same.refl _)
        rw [eg, if_neg d] at q
        exact q

/-! ### reachable -/
def spReach (CH CW : Addr) : Sp := fun vs H Q _ => ∃ (a lh lq : Addr) (as : List Addr) (w : Weigher), vs = [.ref a] ∧ WAt CH CW H a lh lq as w ∧ w.hoppers.length ≤ 8 ∧
  ∀ (H' : Hp) (p : Addr), Same H H' → H p = none → H' p = some (.lst (vNats (reachUpTo w (2 ^ w.hoppers.length)))) → Q (.ref p) H'
theorem ok_reachable {f : Addr} {fd : FuncData} (F : Fun K "reachable" "reachable" s_reachable f fd) (T : Txt K mg CH CW CR) (c_weights_by_mask : Cal P w K mg base 2 "weights_by_mask" (spWts CH CW) []) : FnOk P w K mg base CX0 3 f fd ["weigher"] (spReach CH CW) := by
  refine F.ok sc_reachable (fun vs H Q E h => ?_) (fun cdv A outer s H vs Q E hr h => ?_)
  · obtain ⟨a, lh, lq, as, w, rfl, _⟩ := h
    rfl
  · obtain ⟨a, lh, lq, as, w, rfl, W, h8, k⟩ := h
    refine ⟨_, (pss_cons (ps_set (i := 1) sc_reachable.nd rfl (Or.inl rfl) (pe_lst pa_nil))
      (pss_cons (ps_for PassesOwn.never rfl (pi_list (C8.pe_c c_weights_by_mask hr (by decide) (by rfl) (pa_cons (pv 0) pa_nil))) (pg_name (i := 2) sc_reachable.nd rfl (Or.inl rfl))
      (pss_one (ps_if (PW.pt (pw_and (pt_chain op_le op_le (pe_fldK K rfl (pv 0) rfl) (pv 2) (pe_op op_add (pe_fldK K rfl (pv 0) rfl) (C8.pe_gc (by rfl) T.g_MOST_EXCESS_TOLD))) (pw_and1 (pt_cmpR op_notIn_seq (pv 2) (pv 1) rfl)))) (pss_one (ps_expr (pe_bm PySem.F.plainAttrs_list PySem.F.slot_list_append PySem.F.type_list_append mt_append (pv 1) (pa_cons (pv 2) pa_nil)))) pss_nil)))
      (pss_one (ps_ret (pv 1))))), ?_⟩
    refine ⟨Nat.zero_le _, fun l hl => ?_⟩
    have s0 := Same.upd (o := .lst []) hl
    have hl0 : upd H l (.lst []) l = some (.lst []) := upd_same
    generalize upd H l (.lst []) = H0 at s0 hl0
    refine ⟨_, rfl, a, lh, lq, as, w, rfl, W.same s0, h8, fun H1 p s1 n1 hp => ?_⟩
    have npl : p ≠ l := (ne_of_none hl0 n1).symm
    have W1 := W.same (s0.trans s1)
    have off : ∀ b ∈ own a lh lq as, b ∉ [l] := fun b hb m => by
      rw [List.mem_singleton] at m
      subst m
      obtain ⟨o, e, _⟩ := W.plain b hb
      rw [hl] at e
      cases e
    refine ⟨p, rfl, ⟨_, SqL.of hp⟩, for_list (K := K) (a := p) (xs := vNats (wts w)) (fun i σ H' => ∃ v2, σ = [some (.ref a), some (.ref l), v2] ∧ Keep [l] H1 H' ∧ H' l = some (.lst (vNats (reachUpTo w i))))
      ⟨_, rfl, Keep.refl _ _, s1 _ _ hl0⟩ (fun i σ H' _ ⟨_, _, kp, _⟩ => SqL.of (kp _ _ hp (by simpa using npl))) ?_ ?_⟩
    · rintro i y σ H' hi ⟨v2, rfl, kp, hc⟩
      obtain ⟨x, hx, rfl⟩ := vNats_get hi
      have hin := (List.getElem?_eq_some_iff.mp hx).1
      rw [wts_length] at hin
      have ex : x = Kp411.weightOf w i := by
        have q := wts_get hin
        rw [List.getD_eq_getElem?_getD, hx] at q
        exact q
      subst ex
      have hp8 := pow_le8 h8
      have hlen := reach_len w i
      have W' := W1.keep kp off
      obtain ⟨dx', h1'⟩ := W'.obj
      rw [reachUpTo_succ]
      have no : reachP w (Kp411.weightOf w i) = false → ∃ v2, [some (V.ref a), some (.ref l), some (.int ((Kp411.weightOf w i : Nat) : Int))] = [some (V.ref a), some (.ref l), v2] ∧ Keep [l] H1 H' ∧ H' l = some (.lst (vNats (reachUpTo w i ++ if reachP w (Kp411.weightOf w i) = true ∧ Kp411.weightOf w i ∉ reachUpTo w i then [Kp411.weightOf w i] else []))) := fun z =>
        ⟨_, rfl, kp, by rw [if_neg (fun q => by rw [z] at q; exact Bool.noConfusion q.1), List.append_nil]; exact hc⟩
      refine ⟨_, rfl, a, CW, dx', _, _, rfl, h1', T.clW, T.nW_target, wF_target _ _ _, _, rfl, _, _, rfl, rfl, _, rfl, ?_⟩
      by_cases c1 : w.target ≤ Kp411.weightOf w i
      · refine if_true_of (decide_eq_true (by omega)) ?_
        refine ⟨_, rfl, a, CW, dx', _, _, rfl, h1', T.clW, T.nW_target, wF_target _ _ _, _, _, rfl, rfl, _, _, rfl, rfl, _, rfl, ?_⟩
        by_cases c2 : Kp411.weightOf w i < w.target + 20
        · refine if_true_of (decide_eq_true (by omega)) ?_
          have hP : reachP w (Kp411.weightOf w i) = true := by
            unfold reachP
            rw [decide_eq_true c1, decide_eq_true c2]
            rfl
          refine ⟨_, rfl, _, rfl, l, _, rfl, .inl (SqL.of hc), rfl, flat_nats _, _, rfl, ?_⟩
          have ein : (!inV (.int ((Kp411.weightOf w i : Nat) : Int)) (vNats (reachUpTo w i))) = !decide (Kp411.weightOf w i ∈ reachUpTo w i) := by rw [inV_nat]
          by_cases m : Kp411.weightOf w i ∈ reachUpTo w i
          · refine if_false_of (ein.trans (by rw [decide_eq_true m]; rfl)) ⟨_, rfl, kp, ?_⟩
            rw [if_neg (fun q => q.2 m), List.append_nil]
            exact hc
          · refine if_true_of (ein.trans (by rw [decide_eq_false m]; rfl)) ?_
            refine ⟨_, rfl, .inl ⟨rfl, _, SqL.of hc⟩, _, rfl, l, _, _, rfl, rfl, hc, by rw [vNats_length]; exact small1000 (by omega), ⟨_, rfl, kp.trans (Keep.upd (by simp)), ?_⟩⟩
            rw [upd_same, if_pos ⟨hP, m⟩, vNats_append, vNats_one]
        · refine if_false_of (decide_eq_false (by omega)) (if_false_of rfl (no ?_))
          unfold reachP
          rw [decide_eq_false c2, Bool.and_false]
      · refine if_false_of (decide_eq_false (by omega)) ⟨_, rfl, if_false_of rfl (if_false_of rfl (no ?_))⟩
        unfold reachP
        rw [decide_eq_false c1, Bool.false_and]
    · rintro σ H' ⟨v2, rfl, kp, hc⟩
      rw [vNats_length, wts_length] at hc
      refine ⟨_, rfl, k H' l (fun b o e => kp _ _ (s1 _ _ (s0 _ _ e)) ?_) hl hc⟩
      rw [List.mem_singleton]
      exact ne_of_none e hl
end
end HP

set_option Elab.async false
set_option maxRecDepth 100000
set_option maxHeartbeats 4000000
namespace HP
open PySem PySem.Spec PyProof.Rows L2
open C8 (Cal CalAt Met Mak)
open Kp411 (Weigher Hopper hopperAt)
open Kp411Neutral (asked1 callOf)
open LamX (Tabs TabS TabB CodeO ExtN)

/-! ### what each call's function promises -/
/-- the answer of a call as a list of whole numbers -/
def ansOf (s : Kp411.State) (x : Kp411.Call) : List Int := (Kp411.step s x).2.num :: (Kp411.step s x).2.nums
def Res (TB : List (Addr × Str)) (CH CW : Addr) (a lh lq : Addr) (as : List Addr) (w : Weigher) (x : Kp411.Call) (H : Hp) (Q : VK) : Prop :=
  Tabs TB H ∧ (∀ b ∈ own a lh lq as, Plain H b) ∧ ∀ (H' : Hp) (lh' lq' : Addr) (as' : List Addr) (w' : Weigher) (p : Addr), (Kp411.step (some w) x).1 = some w' → WAt CH CW H' a lh' lq' as' w' → KeepT (own a lh lq as) H H' → Tabs TB H' →
    (∀ b ∈ own a lh' lq' as', b ∈ own a lh lq as ∨ H b = none) → (∀ b o, H b = some o → b ∉ own a lh lq as → (∀ ps, o ≠ .tbl ps) → b ≠ p) → H' p = some (.lst ((ansOf (some w) x).map V.int)) → Q (.ref p) H'
def spOp (TB : List (Addr × Str)) (CH CW : Addr) (k : Int) : Sp := fun vs H Q _ => ∃ (a lh lq ln : Addr) (as : List Addr) (w : Weigher) (ns : List Int) (x : Kp411.Call), vs = [.ref a, .ref ln] ∧ WAt CH CW H a lh lq as w ∧ WInv w ∧
  H ln = some (.lst (ns.map V.int)) ∧ ln ∉ own a lh lq as ∧ asked1 [k :: ns] = true ∧ callOf [k :: ns] = some x ∧ Res TB CH CW a lh lq as w x H Q
section
variable {TB : List (Addr × Str)} {CH CW : Addr} {a lh lq : Addr} {as : List Addr} {w w' : Weigher} {x : Kp411.Call} {H H1 : Hp} {Q : VK}
theorem Res.tabs (R : Res TB CH CW a lh lq as w x H Q) : Tabs TB H := R.1
/-- a new list at the end, tables grown perhaps -/
theorem Res.lstT (R : Res TB CH CW a lh lq as w x H Q) {vs : List V} {p : Addr} (e1 : (Kp411.step (some w) x).1 = some w') (W1 : WAt CH CW H1 a lh lq as w') (K1 : KeepT (own a lh lq as) H H1) (T1 : Tabs TB H1) (hp : H1 p = none)
    (hv : vs = (ansOf (some w) x).map V.int) : Q (.ref p) (upd H1 p (.lst vs)) := by
  refine R.2.2 _ lh lq as w' p e1 (W1.same (Same.upd hp)) (K1.trans (Keep.toT (Same.keep (Same.upd hp)))) (tabs_same T1 (Same.upd hp)) (fun b m => .inl m) (fun b o e n q => ?_) (by rw [upd_same, hv])
  exact ne_of_none (K1 b o e n q) hp
/-- a new list at the end -/
theorem Res.lst (R : Res TB CH CW a lh lq as w x H Q) {vs : List V} {p : Addr} (e1 : (Kp411.step (some w) x).1 = some w') (W1 : WAt CH CW H1 a lh lq as w') (K1 : Keep (own a lh lq as) H H1) (hp : H1 p = none)
    (hv : vs = (ansOf (some w) x).map V.int) : Q (.ref p) (upd H1 p (.lst vs)) := R.lstT e1 W1 K1.toT (tabs_keep R.1 R.2.1 K1) hp hv
/-- a list that stands already -/
theorem Res.atT (R : Res TB CH CW a lh lq as w x H Q) {p : Addr} (e1 : (Kp411.step (some w) x).1 = some w') (W1 : WAt CH CW H1 a lh lq as w') (K1 : KeepT (own a lh lq as) H H1) (T1 : Tabs TB H1) (hp : ∀ b o, H b = some o → (∀ ps, o ≠ .tbl ps) → b ≠ p)
    (hv : H1 p = some (.lst ((ansOf (some w) x).map V.int))) : Q (.ref p) H1 :=
  R.2.2 _ lh lq as w' p e1 W1 K1 T1 (fun b m => .inl m) (fun b o e _ n => hp b o e n) hv
theorem Res.at_ (R : Res TB CH CW a lh lq as w x H Q) {p : Addr} (e1 : (Kp411.step (some w) x).1 = some w') (W1 : WAt CH CW H1 a lh lq as w') (K1 : Keep (own a lh lq as) H H1) (hp : H p = none)
    (hv : H1 p = some (.lst ((ansOf (some w) x).map V.int))) : Q (.ref p) H1 :=
  R.atT e1 W1 K1.toT (tabs_keep R.1 R.2.1 K1) (fun b o e _ => ne_of_none e hp) hv
end
theorem one_line : 1 ≤ sizeLine := by decide
theorem inR_nat (lo hi x : Nat) : inR (lo : Int) (hi : Int) (x : Int) = (decide (lo ≤ x) && decide (x ≤ hi)) := by
  unfold inR
  rw [Bool.eq_iff_iff, decide_eq_true_iff, Bool.and_eq_true, decide_eq_true_iff, decide_eq_true_iff]
  omega
theorem valid_in (x : Nat) : Kp411.validPortion x = inR 1 300 (x : Int) := (inR_nat 1 300 x).symm
theorem target_in (x : Nat) : Kp411.validTarget x = inR 1 999 (x : Int) := (inR_nat 1 999 x).symm
theorem age_in (x : Nat) : inR 0 9 (x : Int) = decide (x ≤ 9) := by
  have e := inR_nat 0 9 x
  rw [decide_eq_true (Nat.zero_le x), Bool.true_and] at e
  exact e
theorem count_in (x : Nat) : inR 1 8 (x : Int) = (decide (1 ≤ x) && decide (x ≤ 8)) := inR_nat 1 8 x
theorem not_true {b : Bool} (h : b = false) : (!b) = true := by rw [h]; rfl
theorem not_false' {b : Bool} (h : b = true) : (!b) = false := by rw [h]; rfl
section
variable {P : Program} {w : World} {K : PySem.W.Frag} {mg : Str → Option Value} {base : Heap} {CH CW CR : Addr} {TB : List (Addr × Str)}

/-! ### 1 add_portion -/
theorem ok_add_portion {f : Addr} {fd : FuncData} (F : Fun K "add_portion" "add_portion" s_add_portion f fd) (T : Txt K mg CH CW CR) (c_weight_is_right : Cal P w K mg base 1 "weight_is_right" (spTest (inR 1 300)) [])
    (m_arrive : Met P w K mg base 3 CW "arrive" (spArrive CH CW) []) : FnOk P w K mg base CX0 4 f fd ["weigher", "numbers"] (spOp TB CH CW 1) := by
  refine F.ok sc_add_portion (fun vs H Q E h => ?_) (fun cdv A outer s H vs Q E hr h => ?_)
  · obtain ⟨a, lh, lq, ln, as, w, ns, x, rfl, _⟩ := h
    rfl
  · obtain ⟨a, lh, lq, ln, as, w, ns, x, rfl, W, I, hl, hn, ha, hc, R⟩ := h
    obtain ⟨n, rfl, e⟩ := ask1 ha
    rw [e] at hc
    cases hc
    refine ⟨_, (pss_cons (ps_set (i := 2) sc_add_portion.nd rfl (Or.inl rfl) (pe_ix ix_list (pv 1) pe_int (fun _ _ => rfl)))
      (pss_cons (ps_if (pt_not (pt_val (C8.pe_c c_weight_is_right hr (by decide) (by rfl) (pa_cons (pv 2) pa_nil)))) (pss_one (ps_ret (pe_lst (pa_cons (C8.pe_gc (by rfl) T.g_OUTSIDE_LIMITS) pa_nil)))) pss_nil)
      (pss_cons (ps_if (pt_cmpR op_ge (pe_callB call_len_seq (by rfl) T.b_len (by decide +kernel) (pa_cons (pe_fldK K rfl (pv 0) rfl) pa_nil)) (C8.pe_gc (by rfl) T.g_MOST_QUEUED) (nomark _)) (pss_one (ps_ret (pe_lst (pa_cons (C8.pe_gc (by rfl) T.g_QUEUE_FULL) pa_nil)))) pss_nil)
      (pss_cons (ps_expr (C8.pe_mt m_arrive hr (by decide) (pv 0) (pa_cons (pv 2) pa_nil)))
      (pss_one (ps_ret (pe_lst (pa_cons (pe_callB call_len_seq (by rfl) T.b_len (by decide +kernel) (pa_cons (pe_fldK K rfl (pv 0) rfl) pa_nil)) pa_nil)))))))), ?_⟩
    obtain ⟨dx, h1⟩ := W.obj
    refine ⟨_, rfl, ln, _, 0, _, rfl, rfl, SqL.of hl, at_of (j := 0) rfl rfl, ?_⟩
    refine ⟨_, rfl, _, rfl, _, rfl, ?_⟩
    by_cases c : inR 1 300 (n : Int) = true
    · refine if_false_of (not_false' c) ?_
      have v : Kp411.validPortion n = true := by rw [valid_in]; exact c
      refine ⟨_, rfl, a, CW, dx, _, _, rfl, h1, T.clW, T.nW_queue, wF_queue _ _ _, lq, _, rfl, .inl (SqL.of W.que), _, _, rfl, rfl, _, rfl, ?_⟩
      by_cases d : 24 ≤ w.queue.length
      · refine if_true_of (decide_eq_true (by rw [vNats_length]; omega)) ?_
        refine ⟨one_line, fun p hp => R.lst (w' := w) ?_ W (Keep.refl _ _) hp ?_⟩
        · simp [Kp411.step, v, Kp411.maxQueue, d]
        · simp [ansOf, Kp411.step, v, Kp411.maxQueue, d, Kp411.single]
      · refine if_false_of (decide_eq_false (by rw [vNats_length]; omega)) ?_
        refine ⟨_, rfl, a, dx, _, rfl, h1, wF_no _ _ _ (by decide +kernel), _, rfl, a, lh, lq, as, w, n, rfl, W, by omega, fun H1 W1 K1 => ?_⟩
        obtain ⟨dx1, h2⟩ := W1.obj
        refine ⟨_, rfl, a, CW, dx1, _, _, rfl, h2, T.clW, T.nW_queue, wF_queue _ _ _, lq, _, rfl, .inl (SqL.of W1.que), one_line, fun p hp => R.lst (w' := Kp411.addPortion w n) ?_ W1 K1 hp ?_⟩
        · simp [Kp411.step, v, Kp411.maxQueue, d]
        · simp [ansOf, Kp411.step, v, Kp411.maxQueue, d, Kp411.single, vNats_length]
    · have c' := eq_false_of_ne_true c
      refine if_true_of (not_true c') ?_
      have v : Kp411.validPortion n = false := by rw [valid_in]; exact c'
      refine ⟨one_line, fun p hp => R.lst (w' := w) ?_ W (Keep.refl _ _) hp ?_⟩
      · simp [Kp411.step, v]
      · simp [ansOf, Kp411.step, v, Kp411.single]
end
end HP

set_option Elab.async false
set_option linter.all false
set_option maxRecDepth 100000
set_option maxHeartbeats 4000000
namespace HP
open PySem PySem.Spec PyProof.Rows L2
open C8 (Cal CalAt Met Mak)
open Kp411 (Weigher Hopper hopperAt)
open Kp411Neutral (asked1 callOf)
theorem nat_vals (v : Nat) (l : List Nat) : ((Kp411.natResult v l).num :: (Kp411.natResult v l).nums).map V.int = vNats (v :: l) := (vNats_ofNat (v :: l)).symm
theorem vNats_cons (n : Nat) (l : List Nat) : vNats (n :: l) = V.int (n : Int) :: vNats l := rfl
theorem adds_queue : ∀ {l : List Nat} {w : Weigher}, (l.foldl Kp411.addPortion w).queue.length ≤ w.queue.length + l.length
  | [], _ => Nat.le_refl _
  | x :: l, w => by
    rw [List.foldl_cons]
    have h1 := adds_queue (l := l) (w := Kp411.addPortion w x)
    have h2 := add_queue w x
    rw [List.length_cons]
    omega
theorem flat_len : ∀ l : List Hopper, (l.flatMap fun h => [h.weight, h.age]).length = 2 * l.length
  | [] => rfl
  | a :: l => by
    rw [List.flatMap_cons, List.length_append, flat_len l, List.length_cons]
    simp
    omega
section
variable {P : Program} {w : World} {K : PySem.W.Frag} {mg : Str → Option Value} {base : Heap} {CH CW CR : Addr} {TB : List (Addr × Str)}

/-! ### 2 add_portions -/
def spWeights : Sp := fun vs H Q _ => ∃ (ln : Addr) (ns : List Nat), vs = [.ref ln] ∧ H ln = some (.lst (vNats ns)) ∧ ns.length ≤ 30 ∧ ∀ H', Same H H' → Q (.bl (decide (0 < ns.length) && ns.all Kp411.validPortion)) H'
theorem ok_weights_are_right {f : Addr} {fd : FuncData} (F : Fun K "weights_are_right" "weights_are_right" s_weights_are_right f fd) (T : Txt K mg CH CW CR) (c_weight_is_right : Cal P w K mg base 1 "weight_is_right" (spTest (inR 1 300)) []) :
    FnOk P w K mg base CX0 2 f fd ["weights"] spWeights := by
  refine F.ok sc_weights_are_right (fun vs H Q E h => ?_) (fun cdv A outer s H vs Q E hr h => ?_)
  · obtain ⟨ln, ns, rfl, _⟩ := h
    rfl
  · obtain ⟨ln, ns, rfl, hl, h30, k⟩ := h
    refine ⟨_, (pss_one (ps_ret (pe_and (pe_cmpR op_gt (pe_callB call_len_seq (by rfl) T.b_len (by decide +kernel) (pa_cons (pv 0) pa_nil)) pe_int (nomark _)) (pe_one (pe_callB (cr_all rfl) (by rfl) T.b_all (by decide +kernel) (pa_cons (pe_lc (own := [("weight", 1)]) (g := (gName 1)) (tt := tYes) rfl sc_weights_are_right.nd (pi_list (pv 0)) (blkOk_by (N := N_weights_are_right) (sc := defScope s_weights_are_right) (by decide +kernel)) (fun _ _ _ _ _ => (pg_name (i := 1) sc_weights_are_right.nd rfl (Or.inl rfl))) (fun _ _ _ _ _ => pts_nil) (fun _ _ _ _ _ => (C8.pe_c c_weight_is_right hr (by decide) (by rfl) (pa_cons (pv 1) pa_nil)))) pa_nil)))))), ?_⟩
    refine ⟨_, rfl, ln, _, rfl, .inl (SqL.of hl), _, _, rfl, rfl, _, rfl, ?_⟩
    by_cases c : 0 < ns.length
    · refine if_true_of (decide_eq_true (by rw [vNats_length]; omega)) ?_
      refine ⟨_, rfl, ln, rfl, ⟨_, SqL.of hl⟩, fun D hD => ?_⟩
      have nD : ln ≠ D := ne_of_none hl hD
      refine lc_list (K := K) (a := ln) (xs := vNats ns) (fun i H1 => Same H H1 ∧ H1 D = some (.lst ((((ns.take i).map Kp411.validPortion)).map V.bl)))
        ⟨Same.upd hD, upd_same⟩ (fun i H1 _ ⟨s, _⟩ => SqL.of (s _ _ hl)) ?_ ?_
      · rintro i y H1 hi ⟨s1, hD1⟩
        obtain ⟨n, hn, rfl⟩ := vNats_get hi
        refine ⟨rfl, ?_⟩
        dsimp only [tYes]
        rw [if_pos rfl]
        refine ⟨_, rfl, _, rfl, _, hD1, ?_, fun b o e => ?_, ?_⟩
        · rw [List.length_map, List.length_map, List.length_take]
          exact small1000 (by omega)
        · rw [upd_ne (ne_of_none e hD)]
          exact s1 _ _ e
        · rw [upd_same, List.take_add_one, hn, Option.toList_some, List.map_append, List.map_append, ← valid_in]
          rfl
      · rintro H1 ⟨s1, hD1⟩
        rw [vNats_length, List.take_length] at hD1
        refine ⟨D, _, rfl, SqL.of hD1, ?_⟩
        have kk := k _ s1
        rw [decide_eq_true c, Bool.true_and] at kk
        rw [List.all_map]
        exact kk
    · refine if_false_of (decide_eq_false (by rw [vNats_length]; omega)) ?_
      have kk := k _ (Same.refl H)
      rw [decide_eq_false c, Bool.false_and] at kk
      exact kk
theorem ok_add_portions {f : Addr} {fd : FuncData} (F : Fun K "add_portions" "add_portions" s_add_portions f fd) (T : Txt K mg CH CW CR) (c_weights_are_right : Cal P w K mg base 2 "weights_are_right" spWeights [])
    (m_queue_length_after : Met P w K mg base 2 CW "queue_length_after" (spQueueAfter CH CW) []) (m_arrive : Met P w K mg base 3 CW "arrive" (spArrive CH CW) []) : FnOk P w K mg base CX0 4 f fd ["weigher", "weights"] (spOp TB CH CW 2) := by
  refine F.ok sc_add_portions (fun vs H Q E h => ?_) (fun cdv A outer s H vs Q E hr h => ?_)
  · obtain ⟨a, lh, lq, ln, as, w, ns, x, rfl, _⟩ := h
    rfl
  · obtain ⟨a, lh, lq, ln, as, w, ns, x, rfl, W, I, hl, hn, ha, hc, R⟩ := h
    obtain ⟨l, rfl, h30, e⟩ := ask2 ha
    rw [e] at hc
    cases hc
    rw [← vNats_ofNat] at hl
    refine ⟨_, (pss_cons (ps_if (pt_not (pt_val (C8.pe_c c_weights_are_right hr (by decide) (by rfl) (pa_cons (pv 1) pa_nil)))) (pss_one (ps_ret (pe_lst (pa_cons (C8.pe_gc (by rfl) T.g_OUTSIDE_LIMITS) pa_nil)))) pss_nil)
      (pss_cons (ps_if (pt_cmpR op_gt (C8.pe_mt m_queue_length_after hr (by decide) (pv 0) (pa_cons (pe_callB call_len_seq (by rfl) T.b_len (by decide +kernel) (pa_cons (pv 1) pa_nil)) pa_nil)) (C8.pe_gc (by rfl) T.g_MOST_QUEUED) (nomark _)) (pss_one (ps_ret (pe_lst (pa_cons (C8.pe_gc (by rfl) T.g_QUEUE_FULL) pa_nil)))) pss_nil)
      (pss_cons (ps_for PassesOwn.never rfl (pi_list (pv 1)) (pg_name (i := 2) sc_add_portions.nd rfl (Or.inl rfl))
      (pss_one (ps_expr (C8.pe_mt m_arrive hr (by decide) (pv 0) (pa_cons (pv 2) pa_nil)))))
      (pss_one (ps_ret (pe_lst (pa_cons (pe_callB call_len_seq (by rfl) T.b_len (by decide +kernel) (pa_cons (pe_fldK K rfl (pv 0) rfl) pa_nil)) pa_nil))))))), ?_⟩
    refine ⟨_, rfl, ln, l, rfl, hl, h30, fun H1 s1 => ?_⟩
    refine ⟨_, rfl, ?_⟩
    by_cases c : (decide (0 < l.length) && l.all Kp411.validPortion) = true
    · refine if_false_of (not_false' c) ?_
      rw [Bool.and_eq_true, decide_eq_true_iff] at c
      have ne : l.isEmpty = false := by cases l with
        | nil => simp at c
        | cons => rfl
      have pos : ∀ x ∈ l, 1 ≤ x := fun x m => (valid_of (List.all_eq_true.mp c.2 x m)).1
      have W1 := W.same s1
      obtain ⟨dx, h1⟩ := W1.obj
      refine ⟨_, rfl, a, dx, _, rfl, h1, wF_no _ _ _ (by decide +kernel), _, rfl, ln, _, rfl, .inl (SqL.of (s1 _ _ hl)), a, lh, lq, as, w, l.length, by rw [vNats_length]; rfl, W1, I.n8, fun H2 s2 => ?_⟩
      rw [← queue_after pos]
      refine ⟨_, _, rfl, rfl, _, rfl, ?_⟩
      have s12 := s1.trans s2
      by_cases d : 24 < (l.foldl Kp411.addPortion w).queue.length
      · refine if_true_of (decide_eq_true (by omega)) ?_
        refine ⟨one_line, fun p hp => R.lst (w' := w) ?_ (W.same s12) (Same.keep s12) hp ?_⟩
        · simp [Kp411.step, ne, c.2, Kp411.maxQueue, d]
        · simp [ansOf, Kp411.step, ne, c.2, Kp411.maxQueue, d, Kp411.single]
      · refine if_false_of (decide_eq_false (by omega)) ?_
        refine ⟨_, rfl, ln, rfl, ⟨_, SqL.of (s12 _ _ hl)⟩, for_list (K := K) (a := ln) (xs := vNats l) (fun i σ H' => (∃ v, σ = [some (.ref a), some (.ref ln), v]) ∧ WAt CH CW H' a lh lq as ((l.take i).foldl Kp411.addPortion w) ∧ Keep (own a lh lq as) H H')
          ⟨⟨_, rfl⟩, W.same s12, Same.keep s12⟩ (fun i σ H' _ ⟨_, _, k5⟩ => SqL.of (k5 _ _ hl hn)) ?_ ?_⟩
        · rintro i y σ H' hi ⟨⟨v, rfl⟩, W3, k3⟩
          obtain ⟨n, hn, rfl⟩ := vNats_get hi
          obtain ⟨dx3, h3⟩ := W3.obj
          have hq : ((l.take i).foldl Kp411.addPortion w).queue.length ≤ 1000 := by
            have q1 := adds_queue (l := l.take i) (w := w)
            have q2 := I.q24
            rw [List.length_take] at q1
            omega
          refine ⟨_, rfl, a, dx3, _, rfl, h3, wF_no _ _ _ (by decide +kernel), _, rfl, a, lh, lq, as, _, n, rfl, W3, hq, fun H4 W4 k4 => ?_⟩
          refine ⟨⟨_, rfl⟩, ?_, k3.trans k4⟩
          rw [List.take_add_one, hn, Option.toList_some, List.foldl_append]
          exact W4
        · rintro σ H' ⟨⟨v, rfl⟩, W3, k3⟩
          rw [vNats_length, List.take_length] at W3
          obtain ⟨dx3, h3⟩ := W3.obj
          refine ⟨_, rfl, a, CW, dx3, _, _, rfl, h3, T.clW, T.nW_queue, wF_queue _ _ _, lq, _, rfl, .inl (SqL.of W3.que), one_line, fun p hp => R.lst (w' := l.foldl Kp411.addPortion w) ?_ W3 k3 hp ?_⟩
          · simp [Kp411.step, ne, c.2, Kp411.maxQueue, d]
          · simp [ansOf, Kp411.step, ne, c.2, Kp411.maxQueue, d, Kp411.single, vNats_length]
    · have c' := eq_false_of_ne_true c
      refine if_true_of (not_true c') ?_
      have v : l.isEmpty = true ∨ l.all Kp411.validPortion = false := by
        rw [Bool.and_eq_false_iff, decide_eq_false_iff_not] at c'
        rcases c' with c' | c'
        · left
          cases l with
          | nil => rfl
          | cons => simp at c'
        · exact .inr c'
      refine ⟨one_line, fun p hp => R.lst (w' := w) ?_ (W.same s1) (Same.keep s1) hp ?_⟩
      · simp only [Kp411.step, if_pos v]
      · simp only [ansOf, Kp411.step, if_pos v]; rfl

/-! ### 3 set_target, 4 set_max_age -/
theorem ok_set_target {f : Addr} {fd : FuncData} (F : Fun K "set_target" "set_target" s_set_target f fd) (T : Txt K mg CH CW CR) (c_target_is_right : Cal P w K mg base 1 "target_is_right" (spTest (inR 1 999)) []) :
    FnOk P w K mg base CX0 2 f fd ["weigher", "numbers"] (spOp TB CH CW 3) := by
  refine F.ok sc_set_target (fun vs H Q E h => ?_) (fun cdv A outer s H vs Q E hr h => ?_)
  · obtain ⟨a, lh, lq, ln, as, w, ns, x, rfl, _⟩ := h
    rfl
  · obtain ⟨a, lh, lq, ln, as, w, ns, x, rfl, W, I, hl, hn, ha, hc, R⟩ := h
    obtain ⟨n, rfl, e⟩ := ask3 ha
    rw [e] at hc
    cases hc
    refine ⟨_, (pss_cons (ps_set (i := 2) sc_set_target.nd rfl (Or.inl rfl) (pe_ix ix_list (pv 1) pe_int (fun _ _ => rfl)))
      (pss_cons (ps_if (pt_not (pt_val (C8.pe_c c_target_is_right hr (by decide) (by rfl) (pa_cons (pv 2) pa_nil)))) (pss_one (ps_ret (pe_lst (pa_cons (C8.pe_gc (by rfl) T.g_OUTSIDE_LIMITS) pa_nil)))) pss_nil)
      (pss_cons (ps_set (i := 3) sc_set_target.nd rfl (Or.inl rfl) (pe_fldK K rfl (pv 0) rfl))
      (pss_cons (ps_fld (pv 0) (pv 2) rfl)
      (pss_one (ps_ret (pe_lst (pa_cons (pv 3) pa_nil)))))))), ?_⟩
    obtain ⟨dx, h1⟩ := W.obj
    refine ⟨_, rfl, ln, _, 0, _, rfl, rfl, SqL.of hl, at_of (j := 0) rfl rfl, ?_⟩
    refine ⟨_, rfl, _, rfl, _, rfl, ?_⟩
    by_cases c : inR 1 999 (n : Int) = true
    · refine if_false_of (not_false' c) ?_
      have v : Kp411.validTarget n = true := by rw [target_in]; exact c
      refine ⟨_, rfl, a, CW, dx, _, _, rfl, h1, T.clW, T.nW_target, wF_target _ _ _, ?_⟩
      refine ⟨_, rfl, _, rfl, a, CW, dx, _, rfl, h1, T.clW, T.nW_target, wF_len _ _ _, ?_⟩
      rw [wF_put_target]
      refine ⟨_, rfl, one_line, fun p hp => R.lst (w' := { w with target := n }) ?_ (W.put rfl rfl) (Keep.upd mem_own_a) hp ?_⟩
      · simp [Kp411.step, v]
      · simp [ansOf, Kp411.step, v, Kp411.single]
    · have c' := eq_false_of_ne_true c
      refine if_true_of (not_true c') ?_
      have v : Kp411.validTarget n = false := by rw [target_in]; exact c'
      refine ⟨one_line, fun p hp => R.lst (w' := w) ?_ W (Keep.refl _ _) hp ?_⟩
      · simp [Kp411.step, v]
      · simp [ansOf, Kp411.step, v, Kp411.single]
theorem ok_set_max_age {f : Addr} {fd : FuncData} (F : Fun K "set_max_age" "set_max_age" s_set_max_age f fd) (T : Txt K mg CH CW CR) (c_max_age_is_right : Cal P w K mg base 1 "max_age_is_right" (spTest (inR 0 9)) []) :
    FnOk P w K mg base CX0 2 f fd ["weigher", "numbers"] (spOp TB CH CW 4) := by
  refine F.ok sc_set_max_age (fun vs H Q E h => ?_) (fun cdv A outer s H vs Q E hr h => ?_)
  · obtain ⟨a, lh, lq, ln, as, w, ns, x, rfl, _⟩ := h
    rfl
  · obtain ⟨a, lh, lq, ln, as, w, ns, x, rfl, W, I, hl, hn, ha, hc, R⟩ := h
    obtain ⟨n, rfl, e⟩ := ask4 ha
    rw [e] at hc
    cases hc
    refine ⟨_, (pss_cons (ps_set (i := 2) sc_set_max_age.nd rfl (Or.inl rfl) (pe_ix ix_list (pv 1) pe_int (fun _ _ => rfl)))
      (pss_cons (ps_if (pt_not (pt_val (C8.pe_c c_max_age_is_right hr (by decide) (by rfl) (pa_cons (pv 2) pa_nil)))) (pss_one (ps_ret (pe_lst (pa_cons (C8.pe_gc (by rfl) T.g_OUTSIDE_LIMITS) pa_nil)))) pss_nil)
      (pss_cons (ps_set (i := 3) sc_set_max_age.nd rfl (Or.inl rfl) (pe_fldK K rfl (pv 0) rfl))
      (pss_cons (ps_fld (pv 0) (pv 2) rfl)
      (pss_one (ps_ret (pe_lst (pa_cons (pv 3) pa_nil)))))))), ?_⟩
    obtain ⟨dx, h1⟩ := W.obj
    refine ⟨_, rfl, ln, _, 0, _, rfl, rfl, SqL.of hl, at_of (j := 0) rfl rfl, ?_⟩
    refine ⟨_, rfl, _, rfl, _, rfl, ?_⟩
    by_cases c : inR 0 9 (n : Int) = true
    · refine if_false_of (not_false' c) ?_
      have v : ¬ 9 < n := by rw [age_in, decide_eq_true_iff] at c; omega
      refine ⟨_, rfl, a, CW, dx, _, _, rfl, h1, T.clW, T.nW_max_age, wF_max_age _ _ _, ?_⟩
      refine ⟨_, rfl, _, rfl, a, CW, dx, _, rfl, h1, T.clW, T.nW_max_age, wF_len _ _ _, ?_⟩
      rw [wF_put_max_age]
      refine ⟨_, rfl, one_line, fun p hp => R.lst (w' := { w with maxAge := n }) ?_ (W.put rfl rfl) (Keep.upd mem_own_a) hp ?_⟩
      · simp [Kp411.step, v]
      · simp [ansOf, Kp411.step, v, Kp411.single]
    · have c' := eq_false_of_ne_true c
      refine if_true_of (not_true c') ?_
      have v : 9 < n := by rw [age_in, decide_eq_false_iff_not] at c'; omega
      refine ⟨one_line, fun p hp => R.lst (w' := w) ?_ W (Keep.refl _ _) hp ?_⟩
      · simp [Kp411.step, v]
      · simp [ansOf, Kp411.step, v, Kp411.single]

/-! ### 5 get_hoppers, 6 get_queue, 7 due_hoppers -/
theorem ok_get_hoppers {f : Addr} {fd : FuncData} (F : Fun K "get_hoppers" "get_hoppers" s_get_hoppers f fd) (T : Txt K mg CH CW CR) : FnOk P w K mg base CX0 1 f fd ["weigher", "numbers"] (spOp TB CH CW 5) := by
  refine F.ok sc_get_hoppers (fun vs H Q E h => ?_) (fun cdv A outer s H vs Q E hr h => ?_)
  · obtain ⟨a, lh, lq, ln, as, w, ns, x, rfl, _⟩ := h
    rfl
  · obtain ⟨a, lh, lq, ln, as, w, ns, x, rfl, W, I, hl, hn, ha, hc, R⟩ := h
    obtain ⟨rfl, e⟩ := ask5 ha
    rw [e] at hc
    cases hc
    refine ⟨_, (pss_cons (ps_set (i := 2) sc_get_hoppers.nd rfl (Or.inl rfl) (pe_lst (pa_cons (pe_callB call_len_seq (by rfl) T.b_len (by decide +kernel) (pa_cons (pe_fldK K rfl (pv 0) rfl) pa_nil)) pa_nil)))
      (pss_cons (ps_for PassesOwn.never rfl (pi_list (pe_fldK K rfl (pv 0) rfl)) (pg_name (i := 3) sc_get_hoppers.nd rfl (Or.inl rfl))
      (pss_cons (ps_expr (pe_bm PySem.F.plainAttrs_list PySem.F.slot_list_append PySem.F.type_list_append mt_append (pv 2) (pa_cons (pe_fldK K rfl (pv 3) rfl) pa_nil)))
      (pss_one (ps_expr (pe_bm PySem.F.plainAttrs_list PySem.F.slot_list_append PySem.F.type_list_append mt_append (pv 2) (pa_cons (pe_fldK K rfl (pv 3) rfl) pa_nil))))))
      (pss_one (ps_ret (pv 2))))), ?_⟩
    obtain ⟨dx, h1⟩ := W.obj
    refine ⟨_, rfl, a, CW, dx, _, _, rfl, h1, T.clW, T.nW_hoppers, wF_hoppers _ _ _, lh, _, rfl, .inl (SqL.of W.lst), one_line, fun D hD => ?_⟩
    have s0 := Same.upd (o := .lst [.int ((as.map V.ref).length : Int)]) hD
    refine ⟨_, rfl, a, CW, dx, _, _, rfl, s0 _ _ h1, T.clW, T.nW_hoppers, wF_hoppers _ _ _, lh, rfl, ⟨_, SqL.of (s0 _ _ W.lst)⟩, for_list (K := K) (a := lh) (xs := as.map V.ref) (fun i σ H' => (∃ v, σ = [some (.ref a), some (.ref ln), some (.ref D), v]) ∧ Same H H' ∧ H' D = some (.lst (vNats (w.hoppers.length :: (w.hoppers.take i).flatMap fun h => [h.weight, h.age]))))
      ⟨⟨_, rfl⟩, s0, by rw [upd_same, List.length_map, W.len]; rfl⟩ (fun i σ H' _ ⟨_, s, _⟩ => SqL.of (s _ _ W.lst)) ?_ ?_⟩
    · rintro i y σ H' hi ⟨⟨v, rfl⟩, s1, hD1⟩
      obtain ⟨x, hx, rfl⟩ := map_ref_get hi
      obtain ⟨h, eh, dh, hh⟩ := W.hop i x hx
      have hin : i < w.hoppers.length := (List.getElem?_eq_some_iff.mp eh).1
      have hsz : ((w.hoppers.take i).flatMap fun h => [h.weight, h.age]).length ≤ 2 * i := by
        rw [flat_len]
        rw [List.length_take]
        omega
      have h8 := I.n8
      refine ⟨_, rfl, .inl ⟨rfl, _, SqL.of hD1⟩, _, rfl, x, CH, dh, _, _, rfl, s1 _ _ hh, T.clH, T.nH_weight, hF_weight h, D, _, _, rfl, rfl, hD1, by rw [vNats_length, List.length_cons]; exact small1000 (by omega), ?_⟩
      have nxD : x ≠ D := ne_of_none hh hD
      refine ⟨_, rfl, .inl ⟨rfl, _, SqL.of upd_same⟩, _, rfl, x, CH, dh, _, _, rfl, by rw [upd_ne nxD]; exact s1 _ _ hh, T.clH, T.nH_age, hF_age h, D, _, _, rfl, rfl, upd_same, by rw [List.length_append, vNats_length, List.length_cons, List.length_singleton]; exact small1000 (by omega), ?_⟩
      refine ⟨⟨_, rfl⟩, fun b o e => ?_, ?_⟩
      · rw [upd_ne (ne_of_none e hD), upd_ne (ne_of_none e hD)]
        exact s1 _ _ e
      · rw [upd_same, List.take_add_one, eh, Option.toList_some, List.flatMap_append, vNats_cons, vNats_cons, vNats_append]
        simp [vNats]
    · rintro σ H' ⟨⟨v, rfl⟩, s1, hD1⟩
      rw [List.length_map, W.len, List.take_length] at hD1
      refine ⟨_, rfl, R.at_ (w' := w) rfl (W.same s1) (Same.keep s1) hD ?_⟩
      rw [hD1, ← nat_vals]
      rfl
theorem ok_get_queue {f : Addr} {fd : FuncData} (F : Fun K "get_queue" "get_queue" s_get_queue f fd) (T : Txt K mg CH CW CR) : FnOk P w K mg base CX0 1 f fd ["weigher", "numbers"] (spOp TB CH CW 6) := by
  refine F.ok sc_get_queue (fun vs H Q E h => ?_) (fun cdv A outer s H vs Q E hr h => ?_)
  · obtain ⟨a, lh, lq, ln, as, w, ns, x, rfl, _⟩ := h
    rfl
  · obtain ⟨a, lh, lq, ln, as, w, ns, x, rfl, W, I, hl, hn, ha, hc, R⟩ := h
    obtain ⟨rfl, e⟩ := ask6 ha
    rw [e] at hc
    cases hc
    refine ⟨_, (pss_one (ps_ret (pe_op op_cat (pe_lst (pa_cons (pe_callB call_len_seq (by rfl) T.b_len (by decide +kernel) (pa_cons (pe_fldK K rfl (pv 0) rfl) pa_nil)) pa_nil)) (pe_fldK K rfl (pv 0) rfl)))), ?_⟩
    obtain ⟨dx, h1⟩ := W.obj
    refine ⟨_, rfl, a, CW, dx, _, _, rfl, h1, T.clW, T.nW_queue, wF_queue _ _ _, lq, _, rfl, .inl (SqL.of W.que), one_line, fun D hD => ?_⟩
    have s0 := Same.upd (o := .lst [.int ((vNats w.queue).length : Int)]) hD
    have q24 := I.q24
    refine ⟨_, rfl, a, CW, dx, _, _, rfl, s0 _ _ h1, T.clW, T.nW_queue, wF_queue _ _ _, D, lq, _, _, rfl, rfl, upd_same, s0 _ _ W.que, Nat.le_of_lt (by rw [vNats_length]; exact small1000 (by simp; omega)), fun p hp => R.lst (w' := w) rfl (W.same s0) (Same.keep s0) hp ?_⟩
    rw [vNats_length]
    exact (nat_vals w.queue.length w.queue).symm
theorem ok_due_hoppers {f : Addr} {fd : FuncData} (F : Fun K "due_hoppers" "due_hoppers" s_due_hoppers f fd) (T : Txt K mg CH CW CR) (m_due_numbers : Met P w K mg base 3 CW "due_numbers" (spDueNumbers CH CW) []) : FnOk P w K mg base CX0 4 f fd ["weigher", "numbers"] (spOp TB CH CW 7) := by
  refine F.ok sc_due_hoppers (fun vs H Q E h => ?_) (fun cdv A outer s H vs Q E hr h => ?_)
  · obtain ⟨a, lh, lq, ln, as, w, ns, x, rfl, _⟩ := h
    rfl
  · obtain ⟨a, lh, lq, ln, as, w, ns, x, rfl, W, I, hl, hn, ha, hc, R⟩ := h
    obtain ⟨rfl, e⟩ := ask7 ha
    rw [e] at hc
    cases hc
    refine ⟨_, (pss_cons (ps_set (i := 2) sc_due_hoppers.nd rfl (Or.inl rfl) (C8.pe_mt0 m_due_numbers hr (by decide) (pv 0)))
      (pss_one (ps_ret (pe_op op_cat (pe_lst (pa_cons (pe_callB call_len_seq (by rfl) T.b_len (by decide +kernel) (pa_cons (pv 2) pa_nil)) pa_nil)) (pv 2))))), ?_⟩
    obtain ⟨dx, h1⟩ := W.obj
    have hlen : (Kp411.dueHoppers w).length ≤ 8 := Nat.le_trans (length_filter_range _ _) I.n8
    refine ⟨_, rfl, a, dx, _, rfl, h1, wF_no _ _ _ (by decide +kernel), a, lh, lq, as, w, rfl, W, I.n8, fun H1 p s1 hp hp1 => ?_⟩
    refine ⟨_, rfl, p, _, rfl, .inl (SqL.of hp1), one_line, fun D hD => ?_⟩
    have s0 := Same.upd (o := .lst [.int ((vNats (Kp411.dueHoppers w)).length : Int)]) hD
    refine ⟨_, rfl, D, p, _, _, rfl, rfl, upd_same, s0 _ _ hp1, Nat.le_of_lt (by rw [vNats_length]; exact small1000 (by simp; omega)), fun p2 hp2 => R.lst (w' := w) rfl (W.same (s1.trans s0)) (Same.keep (s1.trans s0)) hp2 ?_⟩
    rw [vNats_length]
    exact (nat_vals (Kp411.dueHoppers w).length (Kp411.dueHoppers w)).symm

/-! ### 8 weight_of, 9 can_fill, 10 filling_set_count -/
theorem ok_weight_of {f : Addr} {fd : FuncData} (F : Fun K "weight_of" "weight_of" s_weight_of f fd) (T : Txt K mg CH CW CR) (m_set_limit : Met P w K mg base 1 CW "set_limit" (spSetLimit CH CW) []) (m_weight_in : Met P w K mg base 1 CW "weight_in" (spWeightIn CH CW) []) :
    FnOk P w K mg base CX0 2 f fd ["weigher", "numbers"] (spOp TB CH CW 8) := by
  refine F.ok sc_weight_of (fun vs H Q E h => ?_) (fun cdv A outer s H vs Q E hr h => ?_)
  · obtain ⟨a, lh, lq, ln, as, w, ns, x, rfl, _⟩ := h
    rfl
  · obtain ⟨a, lh, lq, ln, as, w, ns, x, rfl, W, I, hl, hn, ha, hc, R⟩ := h
    obtain ⟨m, rfl, e⟩ := ask8 ha
    rw [e] at hc
    cases hc
    refine ⟨_, (pss_cons (ps_set (i := 2) sc_weight_of.nd rfl (Or.inl rfl) (pe_ix ix_list (pv 1) pe_int (fun _ _ => rfl)))
      (pss_cons (ps_if (pt_cmpR op_ge (pv 2) (C8.pe_mt0 m_set_limit hr (by decide) (pv 0)) (nomark _)) (pss_one (ps_ret (pe_lst (pa_cons (C8.pe_gc (by rfl) T.g_OUTSIDE_LIMITS) pa_nil)))) pss_nil)
      (pss_one (ps_ret (pe_lst (pa_cons (C8.pe_mt m_weight_in hr (by decide) (pv 0) (pa_cons (pv 2) pa_nil)) pa_nil)))))), ?_⟩
    obtain ⟨dx, h1⟩ := W.obj
    refine ⟨_, rfl, ln, _, 0, _, rfl, rfl, SqL.of hl, at_of (j := 0) rfl rfl, ?_⟩
    refine ⟨_, rfl, _, rfl, a, dx, _, rfl, h1, wF_no _ _ _ (by decide +kernel), a, lh, lq, as, w, rfl, W, I.n8, _, _, rfl, rfl, _, rfl, ?_⟩
    by_cases c : m < 2 ^ w.hoppers.length
    · have v : Kp411.validSet w m = true := decide_eq_true c
      refine if_false_of (decide_eq_false (by omega)) ?_
      refine ⟨_, rfl, a, dx, _, rfl, h1, wF_no _ _ _ (by decide +kernel), _, rfl, a, lh, lq, as, w, m, rfl, W, I.n8, fun H1 s1 => ⟨one_line, fun p hp => R.lst (w' := w) rfl (W.same s1) (Same.keep s1) hp ?_⟩⟩
      simp [ansOf, Kp411.step, v, Kp411.single]
    · have v : Kp411.validSet w m = false := decide_eq_false c
      refine if_true_of (decide_eq_true (by omega)) ?_
      refine ⟨one_line, fun p hp => R.lst (w' := w) rfl W (Keep.refl _ _) hp ?_⟩
      simp [ansOf, Kp411.step, v, Kp411.single]
theorem fill_mem {w : Weigher} {m : Nat} (h : m < 2 ^ w.hoppers.length) : m ∈ Kp411.fillingSets w ↔ Kp411.canFill w m = true := by
  unfold Kp411.fillingSets
  rw [List.mem_filter, List.mem_range]
  exact ⟨fun q => q.2, fun q => ⟨h, q⟩⟩
theorem ok_can_fill {f : Addr} {fd : FuncData} (F : Fun K "can_fill" "can_fill" s_can_fill f fd) (T : Txt K mg CH CW CR) (m_set_limit : Met P w K mg base 1 CW "set_limit" (spSetLimit CH CW) []) (c_filling_masks : Cal P w K mg base 4 "filling_masks" (spFilling CH CW) []) :
    FnOk P w K mg base CX0 5 f fd ["weigher", "numbers"] (spOp TB CH CW 9) := by
  refine F.ok sc_can_fill (fun vs H Q E h => ?_) (fun cdv A outer s H vs Q E hr h => ?_)
  · obtain ⟨a, lh, lq, ln, as, w, ns, x, rfl, _⟩ := h
    rfl
  · obtain ⟨a, lh, lq, ln, as, w, ns, x, rfl, W, I, hl, hn, ha, hc, R⟩ := h
    obtain ⟨m, rfl, e⟩ := ask9 ha
    rw [e] at hc
    cases hc
    refine ⟨_, (pss_cons (ps_set (i := 2) sc_can_fill.nd rfl (Or.inl rfl) (pe_ix ix_list (pv 1) pe_int (fun _ _ => rfl)))
      (pss_cons (ps_if (pt_cmpR op_ge (pv 2) (C8.pe_mt0 m_set_limit hr (by decide) (pv 0)) (nomark _)) (pss_one (ps_ret (pe_lst (pa_cons (C8.pe_gc (by rfl) T.g_OUTSIDE_LIMITS) pa_nil)))) pss_nil)
      (pss_one (ps_ret (pe_lst (pa_cons (pe_ifExp (pt_cmpR op_in_seq (pv 2) (C8.pe_c c_filling_masks hr (by decide) (by rfl) (pa_cons (pv 0) (pa_cons (pe_fldK K rfl (pv 0) rfl) pa_nil))) rfl) pe_int pe_int) pa_nil)))))), ?_⟩
    obtain ⟨dx, h1⟩ := W.obj
    refine ⟨_, rfl, ln, _, 0, _, rfl, rfl, SqL.of hl, at_of (j := 0) rfl rfl, ?_⟩
    refine ⟨_, rfl, _, rfl, a, dx, _, rfl, h1, wF_no _ _ _ (by decide +kernel), a, lh, lq, as, w, rfl, W, I.n8, _, _, rfl, rfl, _, rfl, ?_⟩
    by_cases c : m < 2 ^ w.hoppers.length
    · have v : Kp411.validSet w m = true := decide_eq_true c
      refine if_false_of (decide_eq_false (by omega)) ?_
      refine ⟨_, rfl, _, rfl, _, rfl, a, CW, dx, _, _, rfl, h1, T.clW, T.nW_target, wF_target _ _ _, a, lh, lq, as, w, w.target, rfl, W, I.n8, fun H1 p1 s1 n1 hp1 => ?_⟩
      refine ⟨p1, _, rfl, .inl (SqL.of hp1), rfl, flat_nats _, _, rfl, ?_⟩
      have ein : inV (.int (m : Int)) (vNats (Kp411.fillingSets w)) = Kp411.canFill w m := by
        rw [inV_nat, Bool.eq_iff_iff, decide_eq_true_iff, fill_mem c]
      by_cases d : Kp411.canFill w m = true
      · refine if_true_of (ein.trans d) ⟨one_line, fun p hp => R.lst (w' := w) rfl (W.same s1) (Same.keep s1) hp ?_⟩
        simp [ansOf, Kp411.step, v, Kp411.single, Kp411.boolResult, d]
      · refine if_false_of (ein.trans (eq_false_of_ne_true d)) ⟨one_line, fun p hp => R.lst (w' := w) rfl (W.same s1) (Same.keep s1) hp ?_⟩
        simp [ansOf, Kp411.step, v, Kp411.single, Kp411.boolResult, d]
    · have v : Kp411.validSet w m = false := decide_eq_false c
      refine if_true_of (decide_eq_true (by omega)) ?_
      refine ⟨one_line, fun p hp => R.lst (w' := w) rfl W (Keep.refl _ _) hp ?_⟩
      simp [ansOf, Kp411.step, v, Kp411.single]
theorem ok_filling_set_count {f : Addr} {fd : FuncData} (F : Fun K "filling_set_count" "filling_set_count" s_filling_set_count f fd) (T : Txt K mg CH CW CR) (c_filling_masks : Cal P w K mg base 4 "filling_masks" (spFilling CH CW) []) :
    FnOk P w K mg base CX0 5 f fd ["weigher", "numbers"] (spOp TB CH CW 10) := by
  refine F.ok sc_filling_set_count (fun vs H Q E h => ?_) (fun cdv A outer s H vs Q E hr h => ?_)
  · obtain ⟨a, lh, lq, ln, as, w, ns, x, rfl, _⟩ := h
    rfl
  · obtain ⟨a, lh, lq, ln, as, w, ns, x, rfl, W, I, hl, hn, ha, hc, R⟩ := h
    obtain ⟨rfl, e⟩ := ask10 ha
    rw [e] at hc
    cases hc
    refine ⟨_, (pss_one (ps_ret (pe_lst (pa_cons (pe_callB call_len_seq (by rfl) T.b_len (by decide +kernel) (pa_cons (C8.pe_c c_filling_masks hr (by decide) (by rfl) (pa_cons (pv 0) (pa_cons (pe_fldK K rfl (pv 0) rfl) pa_nil))) pa_nil)) pa_nil)))), ?_⟩
    obtain ⟨dx, h1⟩ := W.obj
    refine ⟨_, rfl, _, rfl, a, CW, dx, _, _, rfl, h1, T.clW, T.nW_target, wF_target _ _ _, a, lh, lq, as, w, w.target, rfl, W, I.n8, fun H1 p1 s1 n1 hp1 => ?_⟩
    refine ⟨p1, _, rfl, .inl (SqL.of hp1), one_line, fun p hp => R.lst (w' := w) rfl (W.same s1) (Same.keep s1) hp ?_⟩
    rw [vNats_length]
    rfl
end
end HP

set_option Elab.async false
set_option linter.all false
set_option maxRecDepth 100000
set_option maxHeartbeats 4000000
namespace HP
open PySem PySem.Spec PyProof.Rows L2
open C8 (Cal CalAt Met Mak)
open Kp411 (Weigher Hopper hopperAt)
open Kp411Neutral (asked1 callOf)
open LamX (Tabs TabS TabB CodeO ExtN)
theorem WAt.keepT {CH CW : Addr} {H H' : Hp} {a lh lq : Addr} {as : List Addr} {w : Weigher} (W : WAt CH CW H a lh lq as w) {fp : List Addr} (s : KeepT fp H H') (d : ∀ b ∈ own a lh lq as, b ∉ fp) : WAt CH CW H' a lh lq as w := by
  obtain ⟨dx, h1⟩ := W.obj
  have z1 : ∀ {C dx fs} (ps : Array Value), HO.ins C dx fs ≠ .tbl ps := fun ps q => by cases q
  have z2 : ∀ {xs} (ps : Array Value), HO.lst xs ≠ .tbl ps := fun ps q => by cases q
  refine ⟨⟨dx, s _ _ h1 (d _ mem_own_a) z1⟩, s _ _ W.lst (d _ mem_own_h) z2, s _ _ W.que (d _ mem_own_q) z2, W.nd, W.len, fun j x e => ?_, W.ne, W.na⟩
  obtain ⟨h, e1, dh, e2⟩ := W.hop j x e
  exact ⟨h, e1, dh, s _ _ e2 (d _ (mem_own_x (List.mem_of_getElem? e))) z1⟩
theorem three_line : 3 ≤ sizeLine := by decide
theorem greedy_lt {w : Weigher} {m : Nat} (h : Kp411.greedySet w = some m) : m < 2 ^ w.hoppers.length ∧ w.target ≤ Kp411.weightOf w m := by
  have hs := greedyOrder_sorted w (List.range w.hoppers.length) List.pairwise_lt_range
  have hm : ∀ x, x ∈ greedyOrder w (List.range w.hoppers.length) ↔ x < w.hoppers.length := fun x => by rw [greedyOrder_mem, List.mem_range]
  have C : Chosen w ((greedyOrder w (List.range w.hoppers.length)).foldl (pick w) (Kp411.dueHoppers w)) := (Chosen.due w).fold fun z hz => (hm z).mp hz
  have b := C.mask
  rw [greedy_is hs hm] at b
  rw [greedySet_eq] at h
  split at h
  · cases h
    exact ⟨b, by assumption⟩
  · cases h
section
variable {P : Program} {w : World} {K : PySem.W.Frag} {mg : Str → Option Value} {base : Heap} {CH CW CR : Addr} {TB : List (Addr × Str)}

/-! ### told_of_set -/
def numsOf (r : Kp411.Ans) : List Int := r.num :: r.nums
def spTold (CH CW : Addr) : Sp := fun vs H Q _ => ∃ (a lh lq : Addr) (as : List Addr) (w : Weigher) (o : Option Nat) (t : Nat), vs = [.ref a, maskV o, .int (t : Int)] ∧ WAt CH CW H a lh lq as w ∧ w.hoppers.length ≤ 8 ∧ (∀ m, o = some m → m < 2 ^ w.hoppers.length ∧ t ≤ Kp411.weightOf w m) ∧
  ∀ (H' : Hp) (p : Addr), Same H H' → H p = none → H' p = some (.lst ((numsOf (Kp411.setResult { w with target := t } o)).map V.int)) → Q (.ref p) H'
theorem ok_told_of_set {f : Addr} {fd : FuncData} (F : Fun K "told_of_set" "told_of_set" s_told_of_set f fd) (T : Txt K mg CH CW CR) (m_weight_in : Met P w K mg base 1 CW "weight_in" (spWeightIn CH CW) []) (c_size_of : Cal P w K mg base 1 "size_of" spSize []) :
    FnOk P w K mg base CX0 2 f fd ["weigher", "mask", "target"] (spTold CH CW) := by
  refine F.ok sc_told_of_set (fun vs H Q E h => ?_) (fun cdv A outer s H vs Q E hr h => ?_)
  · obtain ⟨a, lh, lq, as, w, o, t, rfl, _⟩ := h
    rfl
  · obtain ⟨a, lh, lq, as, w, o, t, rfl, W, h8, hm, k⟩ := h
    refine ⟨_, (pss_cons (ps_if (pt_cmp (pc_isN (pv 1))) (pss_one (ps_ret (pe_lst (pa_cons (C8.pe_gc (by rfl) T.g_NO_FILLING_SET) pa_nil)))) pss_nil)
      (pss_one (ps_ret (pe_lst (pa_cons (pv 1) (pa_cons (pe_op op_sub (C8.pe_mt m_weight_in hr (by decide) (pv 0) (pa_cons (pv 1) pa_nil)) (pv 2)) (pa_cons (C8.pe_c c_size_of hr (by decide) (by rfl) (pa_cons (pv 1) pa_nil)) pa_nil))))))), ?_⟩
    obtain ⟨dx, h1⟩ := W.obj
    cases o with
    | none =>
      refine ⟨_, rfl, _, rfl, ?_⟩
      refine if_true_of (decide_eq_true rfl) ⟨one_line, fun p hp => k _ p (Same.upd hp) hp ?_⟩
      rw [upd_same]
      rfl
    | some m =>
      obtain ⟨hlt, hle⟩ := hm m rfl
      refine ⟨_, rfl, _, rfl, ?_⟩
      refine if_false_of (decide_eq_false (by intro q; cases q)) ?_
      refine ⟨_, rfl, _, rfl, a, dx, _, rfl, h1, wF_no _ _ _ (by decide +kernel), _, rfl, a, lh, lq, as, w, m, rfl, W, h8, fun H1 s1 => ?_⟩
      refine ⟨_, rfl, _, _, rfl, rfl, _, rfl, w, m, rfl, hlt, h8, fun H2 s2 => ⟨three_line, fun p hp => k _ p ((s1.trans s2).trans (Same.upd hp)) ((s1.trans s2).free hp) ?_⟩⟩
      rw [upd_same]
      have e : ((Kp411.weightOf w m : Nat) : Int) - (t : Int) = ((Kp411.weightOf w m - t : Nat) : Int) := by omega
      show some (HO.lst [V.int (m : Int), V.int (((Kp411.weightOf w m : Nat) : Int) - (t : Int)), V.int ((cnt w m : Nat) : Int)]) = _
      rw [e]
      rfl
/-! ### 11 best_set, 12 greedy_set, 16 best_set_for_target -/
theorem ok_best_set {f : Addr} {fd : FuncData} (F : Fun K "best_set" "best_set" s_best_set f fd) (T : Txt K mg CH CW CR) (c_best_mask : Cal P w K mg base 5 "best_mask" (spBest TB CH CW) []) (c_told_of_set : Cal P w K mg base 2 "told_of_set" (spTold CH CW) []) :
    FnOk P w K mg base CX0 6 f fd ["weigher", "numbers"] (spOp TB CH CW 11) := by
  refine F.ok sc_best_set (fun vs H Q E h => ?_) (fun cdv A outer s H vs Q E hr h => ?_)
  · obtain ⟨a, lh, lq, ln, as, w, ns, x, rfl, _⟩ := h
    rfl
  · obtain ⟨a, lh, lq, ln, as, w, ns, x, rfl, W, I, hl, hn, ha, hc, R⟩ := h
    obtain ⟨rfl, e⟩ := ask11 ha
    rw [e] at hc
    cases hc
    refine ⟨_, (pss_one (ps_ret (C8.pe_c c_told_of_set hr (by decide) (by rfl) (pa_cons (pv 0) (pa_cons (C8.pe_c c_best_mask hr (by decide) (by rfl) (pa_cons (pv 0) (pa_cons (pe_fldK K rfl (pv 0) rfl) pa_nil))) (pa_cons (pe_fldK K rfl (pv 0) rfl) pa_nil)))))), ?_⟩
    obtain ⟨dx, h1⟩ := W.obj
    refine ⟨_, rfl, _, rfl, _, rfl, a, CW, dx, _, _, rfl, h1, T.clW, T.nW_target, wF_target _ _ _, a, lh, lq, as, w, w.target, rfl, W, I.n8, R.tabs, fun H1 e1 T1 => ?_⟩
    have W1 := W.ext e1
    obtain ⟨dx1, h2⟩ := W1.obj
    refine ⟨_, rfl, a, CW, dx1, _, _, rfl, h2, T.clW, T.nW_target, wF_target _ _ _, a, lh, lq, as, w, Kp411.bestSet w, w.target, rfl, W1, I.n8, fun m hm => ⟨best_lt hm, best_weight hm⟩, fun H2 p s2 np hp => ?_⟩
    exact R.atT (w' := w) rfl (W1.same s2) ((ExtN.toT e1).trans (Keep.toT (Same.keep s2))) (tabs_same T1 s2) (fun b o e n => ne_of_none (e1 _ _ e n) np) hp
theorem ok_greedy_set {f : Addr} {fd : FuncData} (F : Fun K "greedy_set" "greedy_set" s_greedy_set f fd) (T : Txt K mg CH CW CR) (c_greedy_mask : Cal P w K mg base 6 "greedy_mask" (spGreedy TB CH CW) []) (c_told_of_set : Cal P w K mg base 2 "told_of_set" (spTold CH CW) []) :
    FnOk P w K mg base CX0 7 f fd ["weigher", "numbers"] (spOp TB CH CW 12) := by
  refine F.ok sc_greedy_set (fun vs H Q E h => ?_) (fun cdv A outer s H vs Q E hr h => ?_)
  · obtain ⟨a, lh, lq, ln, as, w, ns, x, rfl, _⟩ := h
    rfl
  · obtain ⟨a, lh, lq, ln, as, w, ns, x, rfl, W, I, hl, hn, ha, hc, R⟩ := h
    obtain ⟨rfl, e⟩ := ask12 ha
    rw [e] at hc
    cases hc
    refine ⟨_, (pss_one (ps_ret (C8.pe_c c_told_of_set hr (by decide) (by rfl) (pa_cons (pv 0) (pa_cons (C8.pe_c c_greedy_mask hr (by decide) (by rfl) (pa_cons (pv 0) pa_nil)) (pa_cons (pe_fldK K rfl (pv 0) rfl) pa_nil)))))), ?_⟩
    refine ⟨_, rfl, _, rfl, a, lh, lq, as, w, rfl, W, I.n8, R.tabs, fun H1 e1 T1 => ?_⟩
    have W1 := W.ext e1
    obtain ⟨dx1, h2⟩ := W1.obj
    refine ⟨_, rfl, a, CW, dx1, _, _, rfl, h2, T.clW, T.nW_target, wF_target _ _ _, a, lh, lq, as, w, Kp411.greedySet w, w.target, rfl, W1, I.n8, fun m hm => greedy_lt hm, fun H2 p s2 np hp => ?_⟩
    exact R.atT (w' := w) rfl (W1.same s2) ((ExtN.toT e1).trans (Keep.toT (Same.keep s2))) (tabs_same T1 s2) (fun b o e n => ne_of_none (e1 _ _ e n) np) hp
theorem ok_best_set_for_target {f : Addr} {fd : FuncData} (F : Fun K "best_set_for_target" "best_set_for_target" s_best_set_for_target f fd) (T : Txt K mg CH CW CR) (c_target_is_right : Cal P w K mg base 1 "target_is_right" (spTest (inR 1 999)) [])
    (c_best_mask : Cal P w K mg base 5 "best_mask" (spBest TB CH CW) []) (c_told_of_set : Cal P w K mg base 2 "told_of_set" (spTold CH CW) []) : FnOk P w K mg base CX0 6 f fd ["weigher", "numbers"] (spOp TB CH CW 16) := by
  refine F.ok sc_best_set_for_target (fun vs H Q E h => ?_) (fun cdv A outer s H vs Q E hr h => ?_)
  · obtain ⟨a, lh, lq, ln, as, w, ns, x, rfl, _⟩ := h
    rfl
  · obtain ⟨a, lh, lq, ln, as, w, ns, x, rfl, W, I, hl, hn, ha, hc, R⟩ := h
    obtain ⟨t, rfl, e⟩ := ask16 ha
    rw [e] at hc
    cases hc
    refine ⟨_, (pss_cons (ps_set (i := 2) sc_best_set_for_target.nd rfl (Or.inl rfl) (pe_ix ix_list (pv 1) pe_int (fun _ _ => rfl)))
      (pss_cons (ps_if (pt_not (pt_val (C8.pe_c c_target_is_right hr (by decide) (by rfl) (pa_cons (pv 2) pa_nil)))) (pss_one (ps_ret (pe_lst (pa_cons (C8.pe_gc (by rfl) T.g_OUTSIDE_LIMITS) pa_nil)))) pss_nil)
      (pss_one (ps_ret (C8.pe_c c_told_of_set hr (by decide) (by rfl) (pa_cons (pv 0) (pa_cons (C8.pe_c c_best_mask hr (by decide) (by rfl) (pa_cons (pv 0) (pa_cons (pv 2) pa_nil))) (pa_cons (pv 2) pa_nil)))))))), ?_⟩
    refine ⟨_, rfl, ln, _, 0, _, rfl, rfl, SqL.of hl, at_of (j := 0) rfl rfl, ?_⟩
    refine ⟨_, rfl, _, rfl, _, rfl, ?_⟩
    by_cases c : inR 1 999 (t : Int) = true
    · refine if_false_of (not_false' c) ?_
      have v : Kp411.validTarget t = true := by rw [target_in]; exact c
      refine ⟨_, rfl, _, rfl, _, rfl, a, lh, lq, as, w, t, rfl, W, I.n8, R.tabs, fun H1 e1 T1 => ?_⟩
      have W1 := W.ext e1
      refine ⟨_, rfl, a, lh, lq, as, w, Kp411.bestSet { w with target := t }, t, rfl, W1, I.n8, fun m hm => ⟨best_lt (w := { w with target := t }) hm, best_weight (w := { w with target := t }) hm⟩, fun H2 p s2 np hp => ?_⟩
      refine R.atT (w' := w) rfl (W1.same s2) ((ExtN.toT e1).trans (Keep.toT (Same.keep s2))) (tabs_same T1 s2) (fun b o e n => ne_of_none (e1 _ _ e n) np) ?_
      rw [hp]
      simp [ansOf, Kp411.step, v, numsOf]
    · have c' := eq_false_of_ne_true c
      refine if_true_of (not_true c') ?_
      have v : Kp411.validTarget t = false := by rw [target_in]; exact c'
      refine ⟨one_line, fun p hp => R.lst (w' := w) rfl W (Keep.refl _ _) hp ?_⟩
      simp [ansOf, Kp411.step, v, Kp411.single]

/-! ### 13 fill_bag, 14 fill_best_bag -/
theorem inv_age {w : Weigher} (I : WInv w) : ∀ h ∈ w.hoppers, h.weight = 0 → h.age = 0 := fun h m => (I.hok h m).2
theorem ok_fill_bag {f : Addr} {fd : FuncData} (F : Fun K "fill_bag" "fill_bag" s_fill_bag f fd) (T : Txt K mg CH CW CR) (m_set_limit : Met P w K mg base 1 CW "set_limit" (spSetLimit CH CW) []) (c_filling_masks : Cal P w K mg base 4 "filling_masks" (spFilling CH CW) [])
    (m_weight_in : Met P w K mg base 1 CW "weight_in" (spWeightIn CH CW) []) (m_fill_from : Met P w K mg base 3 CW "fill_from" (spFillFrom CH CW) []) : FnOk P w K mg base CX0 5 f fd ["weigher", "numbers"] (spOp TB CH CW 13) := by
  refine F.ok sc_fill_bag (fun vs H Q E h => ?_) (fun cdv A outer s H vs Q E hr h => ?_)
  · obtain ⟨a, lh, lq, ln, as, w, ns, x, rfl, _⟩ := h
    rfl
  · obtain ⟨a, lh, lq, ln, as, w, ns, x, rfl, W, I, hl, hn, ha, hc, R⟩ := h
    obtain ⟨m, rfl, e⟩ := ask13 ha
    rw [e] at hc
    cases hc
    refine ⟨_, (pss_cons (ps_set (i := 2) sc_fill_bag.nd rfl (Or.inl rfl) (pe_ix ix_list (pv 1) pe_int (fun _ _ => rfl)))
      (pss_cons (ps_if (pt_cmpR op_ge (pv 2) (C8.pe_mt0 m_set_limit hr (by decide) (pv 0)) (nomark _)) (pss_one (ps_ret (pe_lst (pa_cons (C8.pe_gc (by rfl) T.g_OUTSIDE_LIMITS) pa_nil)))) pss_nil)
      (pss_cons (ps_if (pt_cmpR op_notIn_seq (pv 2) (C8.pe_c c_filling_masks hr (by decide) (by rfl) (pa_cons (pv 0) (pa_cons (pe_fldK K rfl (pv 0) rfl) pa_nil))) rfl) (pss_one (ps_ret (pe_lst (pa_cons (C8.pe_gc (by rfl) T.g_NO_FILLING_SET) pa_nil)))) pss_nil)
      (pss_cons (ps_set (i := 3) sc_fill_bag.nd rfl (Or.inl rfl) (pe_op op_sub (C8.pe_mt m_weight_in hr (by decide) (pv 0) (pa_cons (pv 2) pa_nil)) (pe_fldK K rfl (pv 0) rfl)))
      (pss_cons (ps_expr (C8.pe_mt m_fill_from hr (by decide) (pv 0) (pa_cons (pv 2) pa_nil)))
      (pss_one (ps_ret (pe_lst (pa_cons (pv 3) pa_nil))))))))), ?_⟩
    obtain ⟨dx, h1⟩ := W.obj
    refine ⟨_, rfl, ln, _, 0, _, rfl, rfl, SqL.of hl, at_of (j := 0) rfl rfl, ?_⟩
    refine ⟨_, rfl, _, rfl, a, dx, _, rfl, h1, wF_no _ _ _ (by decide +kernel), a, lh, lq, as, w, rfl, W, I.n8, _, _, rfl, rfl, _, rfl, ?_⟩
    by_cases c : m < 2 ^ w.hoppers.length
    · have v : Kp411.validSet w m = true := decide_eq_true c
      refine if_false_of (decide_eq_false (by omega)) ?_
      refine ⟨_, rfl, _, rfl, _, rfl, a, CW, dx, _, _, rfl, h1, T.clW, T.nW_target, wF_target _ _ _, a, lh, lq, as, w, w.target, rfl, W, I.n8, fun H1 p1 s1 n1 hp1 => ?_⟩
      refine ⟨p1, _, rfl, .inl (SqL.of hp1), rfl, flat_nats _, _, rfl, ?_⟩
      have ein : (!inV (.int (m : Int)) (vNats (Kp411.fillingSets w))) = !Kp411.canFill w m := by
        have e0 : inV (.int (m : Int)) (vNats (Kp411.fillingSets w)) = Kp411.canFill w m := by rw [inV_nat, Bool.eq_iff_iff, decide_eq_true_iff, fill_mem c]
        rw [e0]
      by_cases d : Kp411.canFill w m = true
      · refine if_false_of (ein.trans (by rw [d]; rfl)) ?_
        have hle : w.target ≤ Kp411.weightOf w m := by
          rw [canFill_eq c] at d
          unfold fillsB at d
          rw [Bool.and_eq_true] at d
          exact of_decide_eq_true d.1
        have W1 := W.same s1
        refine ⟨_, rfl, a, dx, _, rfl, s1 _ _ h1, wF_no _ _ _ (by decide +kernel), _, rfl, a, lh, lq, as, w, m, rfl, W1, I.n8, fun H2 s2 => ?_⟩
        have s12 := s1.trans s2
        refine ⟨_, rfl, a, CW, dx, _, _, rfl, s12 _ _ h1, T.clW, T.nW_target, wF_target _ _ _, _, _, rfl, rfl, ?_⟩
        refine ⟨_, rfl, a, dx, _, rfl, s12 _ _ h1, wF_no _ _ _ (by decide +kernel), _, rfl, a, lh, lq, as, w, m, rfl, W.same s12, I.n8, inv_age I, fun H3 W3 K3 => ?_⟩
        refine ⟨_, rfl, one_line, fun p hp => R.lst (w' := Kp411.fillBag w m) ?_ W3 ((Same.keep s12).trans K3) hp ?_⟩
        · simp [Kp411.step, v, d]
        · have ei : ((Kp411.weightOf w m : Nat) : Int) - (w.target : Int) = ((Kp411.weightOf w m - w.target : Nat) : Int) := by omega
          show [V.int (((Kp411.weightOf w m : Nat) : Int) - (w.target : Int))] = _
          rw [ei]
          simp [ansOf, Kp411.step, v, d, Kp411.single]
      · have d' := eq_false_of_ne_true d
        refine if_true_of (ein.trans (by rw [d']; rfl)) ⟨one_line, fun p hp => R.lst (w' := w) ?_ (W.same s1) (Same.keep s1) hp ?_⟩
        · simp [Kp411.step, v, d']
        · simp [ansOf, Kp411.step, v, d', Kp411.single]
    · have v : Kp411.validSet w m = false := decide_eq_false c
      refine if_true_of (decide_eq_true (by omega)) ?_
      refine ⟨one_line, fun p hp => R.lst (w' := w) ?_ W (Keep.refl _ _) hp ?_⟩
      · simp [Kp411.step, v]
      · simp [ansOf, Kp411.step, v, Kp411.single]
theorem ok_fill_best_bag {f : Addr} {fd : FuncData} (F : Fun K "fill_best_bag" "fill_best_bag" s_fill_best_bag f fd) (T : Txt K mg CH CW CR) (c_best_mask : Cal P w K mg base 5 "best_mask" (spBest TB CH CW) []) (c_told_of_set : Cal P w K mg base 2 "told_of_set" (spTold CH CW) [])
    (m_fill_from : Met P w K mg base 3 CW "fill_from" (spFillFrom CH CW) []) : FnOk P w K mg base CX0 6 f fd ["weigher", "numbers"] (spOp TB CH CW 14) := by
  refine F.ok sc_fill_best_bag (fun vs H Q E h => ?_) (fun cdv A outer s H vs Q E hr h => ?_)
  · obtain ⟨a, lh, lq, ln, as, w, ns, x, rfl, _⟩ := h
    rfl
  · obtain ⟨a, lh, lq, ln, as, w, ns, x, rfl, W, I, hl, hn, ha, hc, R⟩ := h
    obtain ⟨rfl, e⟩ := ask14 ha
    rw [e] at hc
    cases hc
    refine ⟨_, (pss_cons (ps_set (i := 2) sc_fill_best_bag.nd rfl (Or.inl rfl) (C8.pe_c c_best_mask hr (by decide) (by rfl) (pa_cons (pv 0) (pa_cons (pe_fldK K rfl (pv 0) rfl) pa_nil))))
      (pss_cons (ps_set (i := 3) sc_fill_best_bag.nd rfl (Or.inl rfl) (C8.pe_c c_told_of_set hr (by decide) (by rfl) (pa_cons (pv 0) (pa_cons (pv 2) (pa_cons (pe_fldK K rfl (pv 0) rfl) pa_nil)))))
      (C8.pss_cut (ps_if (pt_cmp (pc_notN (pv 2))) (pss_one (ps_expr (C8.pe_mt m_fill_from hr (by decide) (pv 0) (pa_cons (pv 2) pa_nil)))) pss_nil)
      (pss_one (ps_ret (pv 3)))))), ?_⟩
    obtain ⟨dx, h1⟩ := W.obj
    refine ⟨_, rfl, _, rfl, a, CW, dx, _, _, rfl, h1, T.clW, T.nW_target, wF_target _ _ _, a, lh, lq, as, w, w.target, rfl, W, I.n8, R.tabs, fun H1 e1 T1 => ?_⟩
    have W1 := W.ext e1
    obtain ⟨dx1, h2⟩ := W1.obj
    refine ⟨_, rfl, _, rfl, _, rfl, a, CW, dx1, _, _, rfl, h2, T.clW, T.nW_target, wF_target _ _ _, a, lh, lq, as, w, Kp411.bestSet w, w.target, rfl, W1, I.n8, fun m hm => ⟨best_lt hm, best_weight hm⟩, fun H2 p s2 np hp => ?_⟩
    have W2 := W1.same s2
    have K2 : KeepT (own a lh lq as) H H2 := (ExtN.toT e1).trans (Keep.toT (Same.keep s2))
    have T2 := tabs_same T1 s2
    have fr : ∀ b o, H b = some o → (∀ ps, o ≠ .tbl ps) → b ≠ p := fun b o e n => ne_of_none (e1 _ _ e n) np
    cases eb : Kp411.bestSet w with
    | none =>
      rw [eb] at hp
      refine ⟨fun σ' H' => σ'[3]? = some (some (.ref p)) ∧ Q (.ref p) H', ⟨_, rfl, _, rfl, if_false_of rfl ⟨rfl, R.atT (w' := w) ?_ W2 K2 T2 fr ?_⟩⟩, fun σ' H' hq => ⟨_, hq.1, hq.2⟩⟩
      · simp [Kp411.step, eb]
      · rw [hp]
        simp [ansOf, Kp411.step, eb, numsOf, Kp411.setResult]
    | some m =>
      rw [eb] at hp
      refine ⟨fun σ' H' => σ'[3]? = some (some (.ref p)) ∧ Q (.ref p) H', ⟨_, rfl, _, rfl, if_true_of rfl ?_⟩, fun σ' H' hq => ⟨_, hq.1, hq.2⟩⟩
      obtain ⟨dx2, h3⟩ := W2.obj
      refine ⟨_, rfl, a, dx2, _, rfl, h3, wF_no _ _ _ (by decide +kernel), _, rfl, a, lh, lq, as, w, m, rfl, W2, I.n8, inv_age I, fun H3 W3 K3 => ?_⟩
      have npo : p ∉ own a lh lq as := fun hm => by
        obtain ⟨o, e, n, _⟩ := W.plain p hm
        exact fr p o e n rfl
      refine ⟨rfl, R.atT (w' := Kp411.fillBag w m) ?_ W3 (K2.trans K3.toT) (tabs_keep T2 W2.plain K3) fr ?_⟩
      · simp [Kp411.step, eb]
      · rw [K3 _ _ hp npo]
        simp [ansOf, Kp411.step, eb, numsOf]

/-! ### 15 run -/
theorem bags_in (x : Nat) : Kp411.validBags x = inR 1 12 (x : Int) := (inR_nat 1 12 x).symm
theorem two_line : 2 ≤ sizeLine := by decide
def spRun (TB : List (Addr × Str)) (CH CW : Addr) : Sp := fun vs H Q _ => ∃ (a lh lq ln : Addr) (as : List Addr) (w : Weigher) (b : Nat), vs = [.ref a, .ref ln] ∧ WAt CH CW H a lh lq as w ∧ WInv w ∧ H ln = some (.lst [.int (b : Int)]) ∧ Tabs TB H ∧
  (Kp411.validBags b = false → ∀ p, H p = none → Q (.ref p) (upd H p (.lst [.int (-22)]))) ∧
  (Kp411.validBags b = true → ∀ (H' : Hp) (p : Addr), WAt CH CW H' a lh lq as (Kp411.run w b) → KeepT (own a lh lq as) H H' → Tabs TB H' → H' p = none → Q (.ref p) (upd H' p (.lst ((numsOf (Kp411.runResult w (Kp411.run w b))).map V.int))))
def muRun (b : Nat) (σ : L2.St) : Nat := match (σ[3]? : Option (Option V)) with
  | some (some (V.int i)) => b - i.toNat
  | _ => 0
theorem ok_run {f : Addr} {fd : FuncData} (F : Fun K "run" "run" s_run f fd) (T : Txt K mg CH CW CR) (c_bags_are_right : Cal P w K mg base 1 "bags_are_right" (spTest (inR 1 12)) []) (c_best_mask : Cal P w K mg base 5 "best_mask" (spBest TB CH CW) [])
    (m_weight_in : Met P w K mg base 1 CW "weight_in" (spWeightIn CH CW) []) (m_fill_from : Met P w K mg base 3 CW "fill_from" (spFillFrom CH CW) []) : FnOk P w K mg base CX0 6 f fd ["weigher", "numbers"] (spRun TB CH CW) := by
  refine F.ok sc_run (fun vs H Q E h => ?_) (fun cdv A outer s H vs Q E hr h => ?_)
  · obtain ⟨a, lh, lq, ln, as, w, b, rfl, _⟩ := h
    rfl
  · obtain ⟨a, lh, lq, ln, as, w, b, rfl, W, I, hl, TA, kN, kY⟩ := h
    refine ⟨_, (pss_cons (ps_set (i := 2) sc_run.nd rfl (Or.inl rfl) (pe_ix ix_list (pv 1) pe_int (fun _ _ => rfl)))
      (pss_cons (ps_if (pt_not (pt_val (C8.pe_c c_bags_are_right hr (by decide) (by rfl) (pa_cons (pv 2) pa_nil)))) (pss_one (ps_ret (pe_lst (pa_cons (C8.pe_gc (by rfl) T.g_OUTSIDE_LIMITS) pa_nil)))) pss_nil)
      (pss_cons (ps_set (i := 3) sc_run.nd rfl (Or.inl rfl) pe_int)
      (pss_cons (ps_set (i := 4) sc_run.nd rfl (Or.inl rfl) pe_int)
      (pss_cons (ps_while PassesOwn.never (pt_cmpR op_lt (pv 3) (pv 2) (nomark _)) (pss_cons (ps_set (i := 5) sc_run.nd rfl (Or.inl rfl) (C8.pe_c c_best_mask hr (by decide) (by rfl) (pa_cons (pv 0) (pa_cons (pe_fldK K rfl (pv 0) rfl) pa_nil))))
      (pss_cons (ps_if (pt_cmp (pc_isN (pv 5))) (pss_one ps_break) pss_nil)
      (pss_cons (ps_aug (i := 4) sc_run.nd rfl (Or.inl rfl) (pe_op op_sub (C8.pe_mt m_weight_in hr (by decide) (pv 0) (pa_cons (pv 5) pa_nil)) (pe_fldK K rfl (pv 0) rfl)) ip_add)
      (pss_cons (ps_expr (C8.pe_mt m_fill_from hr (by decide) (pv 0) (pa_cons (pv 5) pa_nil)))
      (pss_one (ps_aug (i := 3) sc_run.nd rfl (Or.inl rfl) pe_int ip_add)))))))
      (pss_one (ps_ret (pe_lst (pa_cons (pv 3) (pa_cons (pv 4) pa_nil)))))))))), ?_⟩
    refine ⟨_, rfl, ln, _, 0, _, rfl, rfl, SqL.of hl, at_of (j := 0) rfl rfl, ?_⟩
    refine ⟨_, rfl, _, rfl, _, rfl, ?_⟩
    by_cases c : inR 1 12 (b : Int) = true
    · refine if_false_of (not_false' c) ?_
      have v : Kp411.validBags b = true := by rw [bags_in]; exact c
      have fin : ∀ (j x : Nat) (H' : Hp) (p : Addr), Kp411.run w b = Kp411.run w j → Ran w j x → WAt CH CW H' a lh lq as (Kp411.run w j) → KeepT (own a lh lq as) H H' → Tabs TB H' → H' p = none → Q (.ref p) (upd H' p (.lst [.int (j : Int), .int (x : Int)])) := fun j x H' p e R W' K' T' hp => by
        have q := kY v H' p (by rw [e]; exact W') K' T' hp
        rw [e, R.result] at q
        exact q
      refine while_by (fun σ H' => ∃ (j x : Nat) (z : Option V), σ = [some (.ref a), some (.ref ln), some (.int (b : Int)), some (.int (j : Int)), some (.int (x : Int)), z] ∧ j ≤ b ∧ Ran w j x ∧ WAt CH CW H' a lh lq as (Kp411.run w j) ∧ KeepT (own a lh lq as) H H' ∧ Tabs TB H') (fun σ _ => muRun b σ) ?_ ?_ ?_
      · exact ⟨0, 0, none, rfl, Nat.zero_le _, Ran.zero w, W, fun _ _ e _ _ => e, TA⟩
      · rintro σ H1 ⟨j, x, z, rfl, hj, R, W1, K1, T1⟩
        refine ⟨_, rfl, _, rfl, _, _, rfl, rfl, _, rfl, ?_⟩
        by_cases d : j < b
        · refine if_true_of (decide_eq_true (by omega)) ?_
          have n8 : (Kp411.run w j).hoppers.length ≤ 8 := by rw [run_hoppers]; exact I.n8
          have et : (Kp411.run w j).target = w.target := R.targ
          obtain ⟨dx1, h1⟩ := W1.obj
          refine ⟨_, rfl, _, rfl, a, CW, dx1, _, _, rfl, h1, T.clW, T.nW_target, wF_target _ _ _, a, lh, lq, as, Kp411.run w j, (Kp411.run w j).target, rfl, W1, n8, T1, fun H2 e2 T2 => ?_⟩
          have W2 := W1.ext e2
          have K2 := K1.trans (ExtN.toT (fp := own a lh lq as) e2)
          obtain ⟨dx2, h2⟩ := W2.obj
          cases eb : Kp411.bestSet (Kp411.run w j) with
          | none =>
            refine ⟨_, rfl, _, rfl, if_true_of (decide_eq_true rfl) ?_⟩
            exact ⟨_, rfl, _, rfl, two_line, fun p hp => fin j x H2 p (run_stop eb hj) R W2 K2 T2 hp⟩
          | some m =>
            refine ⟨_, rfl, _, rfl, if_false_of (decide_eq_false (by intro q; cases q)) ?_⟩
            refine ⟨_, rfl, _, rfl, a, dx2, _, rfl, h2, wF_no _ _ _ (by decide +kernel), _, rfl, a, lh, lq, as, Kp411.run w j, m, rfl, W2, n8, fun H3 s3 => ?_⟩
            have W3 := W2.same s3
            refine ⟨_, rfl, a, CW, dx2, _, _, rfl, s3 _ _ h2, T.clW, T.nW_target, wF_target _ _ _, _, _, rfl, rfl, _, _, rfl, rfl, ?_⟩
            refine ⟨_, rfl, a, dx2, _, rfl, s3 _ _ h2, wF_no _ _ _ (by decide +kernel), _, rfl, a, lh, lq, as, Kp411.run w j, m, rfl, W3, n8, inv_age (inv_run j I), fun H4 W4 K4 => ?_⟩
            obtain ⟨R', er⟩ := R.succ eb
            have hw := best_weight eb
            have ex : (x : Int) + (((Kp411.weightOf (Kp411.run w j) m : Nat) : Int) - ((Kp411.run w j).target : Int)) = ((x + (Kp411.weightOf (Kp411.run w j) m - w.target) : Nat) : Int) := by omega
            refine ⟨_, rfl, _, _, rfl, rfl, ⟨j + 1, x + (Kp411.weightOf (Kp411.run w j) m - w.target), some (.int (m : Int)), ?_, by omega, R', ?_, ?_, ?_⟩, ?_⟩
            · rw [← ex]
              rfl
            · rw [er]
              exact W4
            · exact (K2.trans (Keep.toT (Same.keep s3))).trans K4.toT
            · exact tabs_keep (tabs_same T2 s3) W3.plain K4
            · show b - ((j : Int) + 1).toNat < b - ((j : Int)).toNat
              omega
        · refine if_false_of (decide_eq_false (by omega)) ?_
          have ej : j = b := by omega
          exact ⟨_, rfl, _, rfl, two_line, fun p hp => fin j x H1 p (by rw [ej]) R W1 K1 T1 hp⟩
      · rintro σ H' Q1 Q2 hq h
        obtain ⟨v, e, u, e', i, j, e1, e2, b, e3, h⟩ := h
        exact ⟨v, e, u, e', i, j, e1, e2, b, e3, hq _ _ h⟩
    · have c' := eq_false_of_ne_true c
      refine if_true_of (not_true c') ⟨one_line, fun p hp => kN (by rw [bags_in]; exact c') p hp⟩
theorem run_op {k : Nat} {f : Addr} {fd : FuncData} (F : FnOk P w K mg base CX0 k f fd ["weigher", "numbers"] (spRun TB CH CW)) : FnOk P w K mg base CX0 k f fd ["weigher", "numbers"] (spOp TB CH CW 15) := by
  refine F.imp fun vs H Q E h => ?_
  obtain ⟨a, lh, lq, ln, as, w, ns, x, rfl, W, I, hl, hn, ha, hc, R⟩ := h
  obtain ⟨b, rfl, e⟩ := ask15 ha
  rw [e] at hc
  cases hc
  refine ⟨a, lh, lq, ln, as, w, b, rfl, W, I, hl, R.tabs, fun v p hp => R.lst (w' := w) ?_ W (Keep.refl _ _) hp ?_, fun v H' p W' K' T' hp => R.lstT (w' := Kp411.run w b) ?_ W' K' T' hp ?_⟩
  · simp [Kp411.step, v]
  · simp [ansOf, Kp411.step, v, Kp411.single]
  · simp [Kp411.step, v]
  · simp [ansOf, Kp411.step, v, numsOf]

/-! ### 17 preview_run -/
theorem ok_preview_run {f : Addr} {fd : FuncData} (F : Fun K "preview_run" "preview_run" s_preview_run f fd) (T : Txt K mg CH CW CR) (m_duplicate : Met P w K mg base 5 CW "duplicate" (spDup CH CW) []) (c_run : Cal P w K mg base 6 "run" (spRun TB CH CW) []) :
    FnOk P w K mg base CX0 7 f fd ["weigher", "numbers"] (spOp TB CH CW 17) := by
  refine F.ok sc_preview_run (fun vs H Q E h => ?_) (fun cdv A outer s H vs Q E hr h => ?_)
  · obtain ⟨a, lh, lq, ln, as, w, ns, x, rfl, _⟩ := h
    rfl
  · obtain ⟨a, lh, lq, ln, as, w, ns, x, rfl, W, I, hl, hn, ha, hc, R⟩ := h
    obtain ⟨b, rfl, e⟩ := ask17 ha
    rw [e] at hc
    cases hc
    refine ⟨_, (pss_one (ps_ret (C8.pe_c c_run hr (by decide) (by rfl) (pa_cons (C8.pe_mt0 m_duplicate hr (by decide) (pv 0)) (pa_cons (pv 1) pa_nil))))), ?_⟩
    obtain ⟨dx, h1⟩ := W.obj
    refine ⟨_, rfl, a, dx, _, rfl, h1, wF_no _ _ _ (by decide +kernel), a, lh, lq, as, w, rfl, W, I.n8, fun H1 t lh' lq' as' W1 s1 fr => ?_⟩
    have T1 := tabs_same R.tabs s1
    refine ⟨_, rfl, t, lh', lq', ln, as', w, b, rfl, W1, I, s1 _ _ hl, T1, fun v p hp => R.lst (w' := w) ?_ (W.same s1) (Same.keep s1) hp ?_, fun v H2 p W2 K2 T2 hp => ?_⟩
    · simp [Kp411.step, v]
    · simp [ansOf, Kp411.step, v, Kp411.single]
    · have off : ∀ b o, H b = some o → b ∉ own t lh' lq' as' := fun b o e m => by
        have := fr b m
        rw [e] at this
        cases this
      refine R.lstT (w' := w) ?_ ((W.same s1).keepT K2 fun b hb m => ?_) (fun b o e n q => K2 _ _ (s1 _ _ e) (off b o e) q) T2 hp ?_
      · simp [Kp411.step, v]
      · obtain ⟨o, e, _⟩ := W.plain b hb
        exact off b o e m
      · simp [ansOf, Kp411.step, v, numsOf]

/-! ### 18 reachable_weights, 19 totals, 20 discard -/
theorem ok_reachable_weights {f : Addr} {fd : FuncData} (F : Fun K "reachable_weights" "reachable_weights" s_reachable_weights f fd) (T : Txt K mg CH CW CR) (c_reachable : Cal P w K mg base 3 "reachable" (spReach CH CW) []) : FnOk P w K mg base CX0 4 f fd ["weigher", "numbers"] (spOp TB CH CW 18) := by
  refine F.ok sc_reachable_weights (fun vs H Q E h => ?_) (fun cdv A outer s H vs Q E hr h => ?_)
  · obtain ⟨a, lh, lq, ln, as, w, ns, x, rfl, _⟩ := h
    rfl
  · obtain ⟨a, lh, lq, ln, as, w, ns, x, rfl, W, I, hl, hn, ha, hc, R⟩ := h
    obtain ⟨rfl, e⟩ := ask18 ha
    rw [e] at hc
    cases hc
    refine ⟨_, (pss_cons (ps_set (i := 2) sc_reachable_weights.nd rfl (Or.inl rfl) (C8.pe_c c_reachable hr (by decide) (by rfl) (pa_cons (pv 0) pa_nil)))
      (pss_one (ps_ret (pe_op op_cat (pe_lst (pa_cons (pe_callB call_len_seq (by rfl) T.b_len (by decide +kernel) (pa_cons (pv 2) pa_nil)) pa_nil)) (pv 2))))), ?_⟩
    refine ⟨_, rfl, a, lh, lq, as, w, rfl, W, I.n8, fun H1 p s1 np hp => ?_⟩
    refine ⟨_, rfl, p, _, rfl, .inl (SqL.of hp), one_line, fun D hD => ?_⟩
    have s0 := Same.upd (o := .lst [.int ((vNats (reachUpTo w (2 ^ w.hoppers.length))).length : Int)]) hD
    have hp8 := pow_le8 I.n8
    have hlen := reach_len w (2 ^ w.hoppers.length)
    refine ⟨_, rfl, D, p, _, _, rfl, rfl, upd_same, s0 _ _ hp, Nat.le_of_lt (by rw [vNats_length]; exact small1000 (by simp; omega)), fun p2 hp2 => R.lst (w' := w) rfl (W.same (s1.trans s0)) (Same.keep (s1.trans s0)) hp2 ?_⟩
    rw [vNats_length]
    exact (nat_vals (reachUpTo w (2 ^ w.hoppers.length)).length (reachUpTo w (2 ^ w.hoppers.length))).symm
theorem five_line : 5 ≤ sizeLine := by decide
theorem ok_totals {f : Addr} {fd : FuncData} (F : Fun K "totals" "totals" s_totals f fd) (T : Txt K mg CH CW CR) : FnOk P w K mg base CX0 1 f fd ["weigher", "numbers"] (spOp TB CH CW 19) := by
  refine F.ok sc_totals (fun vs H Q E h => ?_) (fun cdv A outer s H vs Q E hr h => ?_)
  · obtain ⟨a, lh, lq, ln, as, w, ns, x, rfl, _⟩ := h
    rfl
  · obtain ⟨a, lh, lq, ln, as, w, ns, x, rfl, W, I, hl, hn, ha, hc, R⟩ := h
    obtain ⟨rfl, e⟩ := ask19 ha
    rw [e] at hc
    cases hc
    refine ⟨_, (pss_cons (ps_set (i := 2) sc_totals.nd rfl (Or.inl rfl) (pe_callB (cr_sum rfl) (by rfl) T.b_sum (by decide +kernel) (pa_cons (pe_lc (own := [("hopper", 3)]) (g := (gName 3)) (tt := tYes) rfl sc_totals.nd (pi_list (pe_fldK K rfl (pv 0) rfl)) (blkOk_by (N := N_totals) (sc := defScope s_totals) (by decide +kernel)) (fun _ _ _ _ _ => (pg_name (i := 3) sc_totals.nd rfl (Or.inl rfl))) (fun _ _ _ _ _ => pts_nil) (fun _ _ _ _ _ => (pe_fldK K rfl (pv 3) rfl))) pa_nil)))
      (pss_one (ps_ret (pe_lst (pa_cons (pe_fldK K rfl (pv 0) rfl) (pa_cons (pe_fldK K rfl (pv 0) rfl) (pa_cons (pe_fldK K rfl (pv 0) rfl) (pa_cons (pv 2) (pa_cons (pe_callB (cr_sum rfl) (by rfl) T.b_sum (by decide +kernel) (pa_cons (pe_fldK K rfl (pv 0) rfl) pa_nil)) pa_nil))))))))), ?_⟩
    obtain ⟨dx, h1⟩ := W.obj
    have h8 := I.n8
    refine ⟨_, rfl, a, CW, dx, _, _, rfl, h1, T.clW, T.nW_hoppers, wF_hoppers _ _ _, lh, rfl, ⟨_, SqL.of W.lst⟩, fun D hD => ?_⟩
    refine lc_list (K := K) (a := lh) (xs := as.map V.ref) (fun i H1 => Same H H1 ∧ H1 D = some (.lst (vNats ((w.hoppers.take i).map (·.weight)))))
      ⟨Same.upd hD, upd_same⟩ (fun i H1 _ ⟨s, _⟩ => SqL.of (s _ _ W.lst)) ?_ ?_
    · rintro i y H1 hi ⟨s1, hD1⟩
      obtain ⟨x, hx, rfl⟩ := map_ref_get hi
      obtain ⟨h, eh, dh, hh⟩ := W.hop i x hx
      have hin : i < w.hoppers.length := (List.getElem?_eq_some_iff.mp eh).1
      refine ⟨rfl, ?_⟩
      dsimp only [tYes]
      rw [if_pos rfl]
      refine ⟨_, rfl, x, CH, dh, _, _, rfl, s1 _ _ hh, T.clH, T.nH_weight, hF_weight h, _, hD1, ?_, fun b o e => ?_, ?_⟩
      · rw [vNats_length, List.length_map, List.length_take]
        exact small1000 (by omega)
      · rw [upd_ne (ne_of_none e hD)]
        exact s1 _ _ e
      · rw [upd_same, List.take_add_one, eh, Option.toList_some, List.map_append, vNats_append]
        rfl
    · rintro H1 ⟨s1, hD1⟩
      rw [List.length_map, W.len, List.take_length] at hD1
      refine ⟨D, _, rfl, by rw [← vNats_ofNat]; exact SqL.of hD1, ?_⟩
      rw [sum_cast]
      have g1 := s1 _ _ h1
      refine ⟨_, rfl, a, CW, dx, _, _, rfl, g1, T.clW, T.nW_bag_count, wF_bag_count _ _ _, _, rfl, a, CW, dx, _, _, rfl, g1, T.clW, T.nW_received, wF_received _ _ _, _, rfl, a, CW, dx, _, _, rfl, g1, T.clW, T.nW_packed, wF_packed _ _ _, _, rfl, _, rfl, a, CW, dx, _, _, rfl, g1, T.clW, T.nW_queue, wF_queue _ _ _, lq, _, rfl, by rw [← vNats_ofNat]; exact SqL.of (s1 _ _ W.que), ?_⟩
      rw [sum_cast]
      refine ⟨five_line, fun p hp => R.lst (w' := w) rfl (W.same s1) (Same.keep s1) hp ?_⟩
      rfl
theorem weight_le {w : Weigher} (I : WInv w) {j : Nat} {h : Hopper} (e : w.hoppers[j]? = some h) : h.weight ≤ w.received := by
  have b := I.bal
  have q := wsum_set (l := w.hoppers) (i := j) (List.getElem?_eq_some_iff.mp e).1 ⟨0, 0⟩
  rw [List.getD_eq_getElem?_getD, e] at q
  have q' : wsum (w.hoppers.set j ⟨0, 0⟩) + h.weight = wsum w.hoppers + 0 := q
  omega
theorem ok_discard {f : Addr} {fd : FuncData} (F : Fun K "discard" "discard" s_discard f fd) (T : Txt K mg CH CW CR) (m_is_empty : Met P w K mg base 1 CH "is_empty" (spIsEmpty CH) []) (m_throw_out : Met P w K mg base 3 CW "throw_out" (spThrowOut CH CW) []) :
    FnOk P w K mg base CX0 4 f fd ["weigher", "numbers"] (spOp TB CH CW 20) := by
  refine F.ok sc_discard (fun vs H Q E h => ?_) (fun cdv A outer s H vs Q E hr h => ?_)
  · obtain ⟨a, lh, lq, ln, as, w, ns, x, rfl, _⟩ := h
    rfl
  · obtain ⟨a, lh, lq, ln, as, w, ns, x, rfl, W, I, hl, hn, ha, hc, R⟩ := h
    obtain ⟨j, rfl, e⟩ := ask20 ha
    rw [e] at hc
    cases hc
    refine ⟨_, (pss_cons (ps_set (i := 2) sc_discard.nd rfl (Or.inl rfl) (pe_ix ix_list (pv 1) pe_int (fun _ _ => rfl)))
      (pss_cons (ps_if (pt_cmpR op_ge (pv 2) (pe_callB call_len_seq (by rfl) T.b_len (by decide +kernel) (pa_cons (pe_fldK K rfl (pv 0) rfl) pa_nil)) (nomark _)) (pss_one (ps_ret (pe_lst (pa_cons (C8.pe_gc (by rfl) T.g_NO_HOPPER) pa_nil)))) pss_nil)
      (pss_cons (ps_set (i := 3) sc_discard.nd rfl (Or.inl rfl) (pe_ix ix_list (pe_fldK K rfl (pv 0) rfl) (pv 2) (fun _ _ => rfl)))
      (pss_cons (ps_if (pt_val (C8.pe_mt0 m_is_empty hr (by decide) (pv 3))) (pss_one (ps_ret (pe_lst (pa_cons (C8.pe_gc (by rfl) T.g_HOPPER_EMPTY) pa_nil)))) pss_nil)
      (pss_cons (ps_set (i := 4) sc_discard.nd rfl (Or.inl rfl) (pe_fldK K rfl (pv 3) rfl))
      (pss_cons (ps_expr (C8.pe_mt m_throw_out hr (by decide) (pv 0) (pa_cons (pv 3) pa_nil)))
      (pss_one (ps_ret (pe_lst (pa_cons (pv 4) pa_nil)))))))))), ?_⟩
    obtain ⟨dx, h1⟩ := W.obj
    refine ⟨_, rfl, ln, _, 0, _, rfl, rfl, SqL.of hl, at_of (j := 0) rfl rfl, ?_⟩
    refine ⟨_, rfl, _, rfl, a, CW, dx, _, _, rfl, h1, T.clW, T.nW_hoppers, wF_hoppers _ _ _, lh, _, rfl, .inl (SqL.of W.lst), _, _, rfl, rfl, _, rfl, ?_⟩
    have el : (as.map V.ref).length = w.hoppers.length := by rw [List.length_map, W.len]
    rw [el]
    by_cases c : w.hoppers.length ≤ j
    · refine if_true_of (decide_eq_true (by omega)) ⟨one_line, fun p hp => R.lst (w' := w) ?_ W (Keep.refl _ _) hp ?_⟩
      · simp [Kp411.step, c]
      · simp [ansOf, Kp411.step, c, Kp411.single]
    · refine if_false_of (decide_eq_false (by omega)) ?_
      have hj : j < w.hoppers.length := by omega
      obtain ⟨x, hx, hA⟩ := W.at_ hj
      obtain ⟨h, eh, dh, hh⟩ := W.hop j x hx
      have e0 := hopperAt_some eh
      refine ⟨_, rfl, a, CW, dx, _, _, rfl, h1, T.clW, T.nW_hoppers, wF_hoppers _ _ _, _, rfl, lh, _, (j : Int), _, rfl, rfl, SqL.of W.lst, at_of (j := j) rfl (by rw [List.getElem?_map, hx]; rfl), ?_⟩
      refine ⟨_, rfl, x, dh, _, rfl, hh, hF_no h (by decide +kernel), x, h, rfl, ⟨dh, hh⟩, _, rfl, ?_⟩
      by_cases z : h.weight = 0
      · refine if_true_of (by simp [z]) ⟨one_line, fun p hp => R.lst (w' := w) ?_ W (Keep.refl _ _) hp ?_⟩
        · simp [Kp411.step, c, e0, z]
        · simp [ansOf, Kp411.step, c, e0, z, Kp411.single]
      · refine if_false_of (by simp [z]) ?_
        refine ⟨_, rfl, x, CH, dh, _, _, rfl, hh, T.clH, T.nH_weight, hF_weight h, ?_⟩
        refine ⟨_, rfl, a, dx, _, rfl, h1, wF_no _ _ _ (by decide +kernel), _, rfl, a, lh, lq, as, w, j, x, h, rfl, W, hx, eh, weight_le I eh, fun H1 W1 K1 => ?_⟩
        refine ⟨_, rfl, one_line, fun p hp => R.lst (w' := { w with hoppers := w.hoppers.set j ⟨0, 0⟩, received := w.received - h.weight }) ?_ W1 K1 hp ?_⟩
        · simp [Kp411.step, c, e0, z]
        · simp [ansOf, Kp411.step, c, e0, z, Kp411.single]
end
end HP

set_option Elab.async false
set_option linter.all false
set_option maxRecDepth 100000
set_option maxHeartbeats 4000000
namespace HP
open PySem PySem.Spec PyProof.Rows L2
open C8 (Cal CalAt Met Mak)
open Kp411 (Weigher Hopper hopperAt)
open Kp411Neutral (asked1 callOf)
open LamX (Tabs TabS TabB CodeO ExtN)

/-! ### the request's object and what it holds -/
def StAt (CH CW CR : Addr) (H : Hp) (r : Addr) (st : Kp411.State) (fp : List Addr) : Prop := match st with
  | none => (∃ dr, H r = some (.ins CR dr (rF none))) ∧ fp = []
  | some w => ∃ dr a lh lq as, H r = some (.ins CR dr (rF (some a))) ∧ WAt CH CW H a lh lq as w ∧ fp = own a lh lq as ∧ r ∉ fp
theorem StAt.obj {CH CW CR : Addr} {H : Hp} {r : Addr} {st : Kp411.State} {fp : List Addr} (S : StAt CH CW CR H r st fp) : ∃ dr o, H r = some (.ins CR dr (rF o)) := by
  cases st with
  | none => obtain ⟨⟨dr, h⟩, _⟩ := S; exact ⟨dr, _, h⟩
  | some w => obtain ⟨dr, a, lh, lq, as, h, _⟩ := S; exact ⟨dr, _, h⟩
theorem StAt.same {CH CW CR : Addr} {H H' : Hp} {r : Addr} {st : Kp411.State} {fp : List Addr} (S : StAt CH CW CR H r st fp) (s : Same H H') : StAt CH CW CR H' r st fp := by
  cases st with
  | none => obtain ⟨⟨dr, h⟩, e⟩ := S; exact ⟨⟨dr, s _ _ h⟩, e⟩
  | some w => obtain ⟨dr, a, lh, lq, as, h, W, e, n⟩ := S; exact ⟨dr, a, lh, lq, as, s _ _ h, W.same s, e, n⟩
theorem StAt.keep {CH CW CR : Addr} {H H' : Hp} {r : Addr} {st : Kp411.State} {fp fq : List Addr} (S : StAt CH CW CR H r st fp) (s : Keep fq H H') (nr : r ∉ fq) (d : ∀ b ∈ fp, b ∉ fq) : StAt CH CW CR H' r st fp := by
  cases st with
  | none => obtain ⟨⟨dr, h⟩, e⟩ := S; exact ⟨⟨dr, s _ _ h nr⟩, e⟩
  | some w =>
    obtain ⟨dr, a, lh, lq, as, h, W, e, n⟩ := S
    subst e
    exact ⟨dr, a, lh, lq, as, s _ _ h nr, W.keep s d, rfl, n⟩
theorem WAt.tracked {CH CW : Addr} {H : Hp} {a lh lq : Addr} {as : List Addr} {w : Weigher} (W : WAt CH CW H a lh lq as w) : ∀ b ∈ own a lh lq as, H b ≠ none := fun b hb e => by
  obtain ⟨dx, h1⟩ := W.obj
  rcases List.mem_cons.mp hb with rfl | hb
  · rw [h1] at e; cases e
  · rcases List.mem_cons.mp hb with rfl | hb
    · rw [W.lst] at e; cases e
    · rcases List.mem_cons.mp hb with rfl | hb
      · rw [W.que] at e; cases e
      · obtain ⟨j, hj⟩ := List.mem_iff_getElem?.mp hb
        obtain ⟨h, _, dh, q⟩ := W.hop j b hj
        rw [q] at e; cases e
theorem StAt.tracked {CH CW CR : Addr} {H : Hp} {r : Addr} {st : Kp411.State} {fp : List Addr} (S : StAt CH CW CR H r st fp) : ∀ b ∈ fp, H b ≠ none := by
  cases st with
  | none => obtain ⟨_, rfl⟩ := S; simp
  | some w => obtain ⟨dr, a, lh, lq, as, h, W, rfl, n⟩ := S; exact W.tracked
theorem StAt.plain {CH CW CR : Addr} {H : Hp} {r : Addr} {st : Kp411.State} {fp : List Addr} (S : StAt CH CW CR H r st fp) : ∀ b ∈ r :: fp, Plain H b := fun b hb => by
  have obj : ∀ {C dx fs}, H r = some (.ins C dx fs) → Plain H r := fun h => ⟨_, h, (fun _ q => by cases q), (fun _ q => by cases q)⟩
  cases st with
  | none =>
    obtain ⟨⟨dr, h⟩, rfl⟩ := S
    rw [List.mem_singleton] at hb
    subst hb
    exact obj h
  | some w =>
    obtain ⟨dr, a, lh, lq, as, h, W, rfl, n⟩ := S
    rcases List.mem_cons.mp hb with rfl | hb
    · exact obj h
    · exact W.plain b hb
/-- what a call leaves and hands back -/
def ResS (TB : List (Addr × Str)) (CH CW CR : Addr) (r : Addr) (fp : List Addr) (st : Kp411.State) (x : Kp411.Call) (H : Hp) (Q : VK) : Prop :=
  Tabs TB H ∧ (∀ b ∈ r :: fp, Plain H b) ∧ ∀ (H' : Hp) (fp' : List Addr) (p : Addr), StAt CH CW CR H' r (Kp411.step st x).1 fp' → KeepT (r :: fp) H H' → Tabs TB H' → (∀ b ∈ fp', b ∈ fp ∨ H b = none) → (∀ b o, H b = some o → b ∉ r :: fp → (∀ ps, o ≠ .tbl ps) → b ≠ p) →
    H' p = some (.lst ((ansOf st x).map V.int)) → Q (.ref p) H'
theorem ResS.fin {TB : List (Addr × Str)} {CH CW CR : Addr} {r : Addr} {fp : List Addr} {st : Kp411.State} {x : Kp411.Call} {H : Hp} {Q : VK} (R : ResS TB CH CW CR r fp st x H Q) (H' : Hp) (fp' : List Addr) (p : Addr) (S : StAt CH CW CR H' r (Kp411.step st x).1 fp') (k : Keep (r :: fp) H H')
    (fr : ∀ b ∈ fp', b ∈ fp ∨ H b = none) (np : ∀ b o, H b = some o → b ∉ r :: fp → b ≠ p) (hp : H' p = some (.lst ((ansOf st x).map V.int))) : Q (.ref p) H' :=
  R.2.2 H' fp' p S k.toT (tabs_keep R.1 R.2.1 k) fr (fun b o e n _ => np b o e n) hp
def spCreate (TB : List (Addr × Str)) (CH CW CR : Addr) : Sp := fun vs H Q _ => ∃ (r ln : Addr) (st : Kp411.State) (fp : List Addr) (ns : List Int) (x : Kp411.Call), vs = [.ref r, .ref ln] ∧ StAt CH CW CR H r st fp ∧
  H ln = some (.lst (ns.map V.int)) ∧ asked1 [0 :: ns] = true ∧ callOf [0 :: ns] = some x ∧ ResS TB CH CW CR r fp st x H Q
def spCall (TB : List (Addr × Str)) (CH CW CR : Addr) : Sp := fun vs H Q _ => ∃ (r ln : Addr) (k : Int) (st : Kp411.State) (fp : List Addr) (ns : List Int) (x : Kp411.Call), vs = [.ref r, .int k, .ref ln] ∧ StAt CH CW CR H r st fp ∧ SInv st ∧
  H ln = some (.lst (ns.map V.int)) ∧ ln ∉ fp ∧ asked1 [k :: ns] = true ∧ callOf [k :: ns] = some x ∧ ResS TB CH CW CR r fp st x H Q
theorem step_none {k : Int} {ns : List Int} {x : Kp411.Call} (ha : asked1 [k :: ns] = true) (hc : callOf [k :: ns] = some x) (hk : k ≠ 0) : Kp411.step none x = (none, Kp411.single (-11)) := by
  obtain ⟨h0, h1⟩ := ask_range ha
  obtain ⟨j, rfl⟩ : ∃ j : Nat, k = (j : Int) := ⟨k.toNat, by omega⟩
  have hj : j ≤ 20 := by omega
  match j, hj, ha, hc, hk with
  | 0, _, _, _, hk => exact absurd rfl hk
  | 1, _, ha, hc, _ => obtain ⟨a, _, e⟩ := ask1 ha; rw [show ((1 : Nat) : Int) = 1 from rfl, e] at hc; cases hc; rfl
  | 2, _, ha, hc, _ => obtain ⟨l, _, _, e⟩ := ask2 ha; rw [show ((2 : Nat) : Int) = 2 from rfl, e] at hc; cases hc; rfl
  | 3, _, ha, hc, _ => obtain ⟨a, _, e⟩ := ask3 ha; rw [show ((3 : Nat) : Int) = 3 from rfl, e] at hc; cases hc; rfl
  | 4, _, ha, hc, _ => obtain ⟨a, _, e⟩ := ask4 ha; rw [show ((4 : Nat) : Int) = 4 from rfl, e] at hc; cases hc; rfl
  | 5, _, ha, hc, _ => obtain ⟨_, e⟩ := ask5 ha; rw [show ((5 : Nat) : Int) = 5 from rfl, e] at hc; cases hc; rfl
  | 6, _, ha, hc, _ => obtain ⟨_, e⟩ := ask6 ha; rw [show ((6 : Nat) : Int) = 6 from rfl, e] at hc; cases hc; rfl
  | 7, _, ha, hc, _ => obtain ⟨_, e⟩ := ask7 ha; rw [show ((7 : Nat) : Int) = 7 from rfl, e] at hc; cases hc; rfl
  | 8, _, ha, hc, _ => obtain ⟨a, _, e⟩ := ask8 ha; rw [show ((8 : Nat) : Int) = 8 from rfl, e] at hc; cases hc; rfl
  | 9, _, ha, hc, _ => obtain ⟨a, _, e⟩ := ask9 ha; rw [show ((9 : Nat) : Int) = 9 from rfl, e] at hc; cases hc; rfl
  | 10, _, ha, hc, _ => obtain ⟨_, e⟩ := ask10 ha; rw [show ((10 : Nat) : Int) = 10 from rfl, e] at hc; cases hc; rfl
  | 11, _, ha, hc, _ => obtain ⟨_, e⟩ := ask11 ha; rw [show ((11 : Nat) : Int) = 11 from rfl, e] at hc; cases hc; rfl
  | 12, _, ha, hc, _ => obtain ⟨_, e⟩ := ask12 ha; rw [show ((12 : Nat) : Int) = 12 from rfl, e] at hc; cases hc; rfl
  | 13, _, ha, hc, _ => obtain ⟨a, _, e⟩ := ask13 ha; rw [show ((13 : Nat) : Int) = 13 from rfl, e] at hc; cases hc; rfl
  | 14, _, ha, hc, _ => obtain ⟨_, e⟩ := ask14 ha; rw [show ((14 : Nat) : Int) = 14 from rfl, e] at hc; cases hc; rfl
  | 15, _, ha, hc, _ => obtain ⟨a, _, e⟩ := ask15 ha; rw [show ((15 : Nat) : Int) = 15 from rfl, e] at hc; cases hc; rfl
  | 16, _, ha, hc, _ => obtain ⟨a, _, e⟩ := ask16 ha; rw [show ((16 : Nat) : Int) = 16 from rfl, e] at hc; cases hc; rfl
  | 17, _, ha, hc, _ => obtain ⟨a, _, e⟩ := ask17 ha; rw [show ((17 : Nat) : Int) = 17 from rfl, e] at hc; cases hc; rfl
  | 18, _, ha, hc, _ => obtain ⟨_, e⟩ := ask18 ha; rw [show ((18 : Nat) : Int) = 18 from rfl, e] at hc; cases hc; rfl
  | 19, _, ha, hc, _ => obtain ⟨_, e⟩ := ask19 ha; rw [show ((19 : Nat) : Int) = 19 from rfl, e] at hc; cases hc; rfl
  | 20, _, ha, hc, _ => obtain ⟨a, _, e⟩ := ask20 ha; rw [show ((20 : Nat) : Int) = 20 from rfl, e] at hc; cases hc; rfl
section
variable {P : Program} {w : World} {K : PySem.W.Frag} {mg : Str → Option Value} {base : Heap} {CH CW CR : Addr} {TB : List (Addr × Str)}
def spRInit (CR : Addr) : Sp := fun vs H Q _ => ∃ (p dx : Addr), vs = [.ref p] ∧ H p = some (.ins CR dx []) ∧ ∀ H' : Hp, (∃ d, H' p = some (.ins CR d (rF none))) → Keep [p] H H' → Q .non H'
theorem ok_Request_init {f : Addr} {fd : FuncData} (F : Fun K "__init__" "Request.__init__" s_Request_init f fd) (T : Txt K mg CH CW CR) : FnOk P w K mg base CX0 1 f fd ["self"] (spRInit CR) := by
  refine F.ok sc_Request_init (fun vs H Q E h => ?_) (fun cdv A outer s H vs Q E hr h => ?_)
  · obtain ⟨p, dx, rfl, _⟩ := h
    rfl
  · obtain ⟨p, dx, rfl, hp, k⟩ := h
    refine ⟨_, (pss_one (ps_fld (pv 0) pe_non rfl)), ?_⟩
    refine ⟨_, rfl, p, CR, dx, [], rfl, hp, T.clR, T.nR_weigher, (by show 0 < 1000; decide), ?_⟩
    exact k _ ⟨dx, upd_same⟩ (Keep.upd (by simp))
/-! ### 0 create -/
theorem ok_create {f : Addr} {fd : FuncData} (F : Fun K "create" "create" s_create f fd) (T : Txt K mg CH CW CR) (c_hopper_count_is_right : Cal P w K mg base 1 "hopper_count_is_right" (spTest (inR 1 8)) [])
    (c_target_is_right : Cal P w K mg base 1 "target_is_right" (spTest (inR 1 999)) []) (c_max_age_is_right : Cal P w K mg base 1 "max_age_is_right" (spTest (inR 0 9)) []) (k_Weigher : Mak P w K mg base 3 "Weigher" CW (spWInit CH CW) []) :
    FnOk P w K mg base CX0 5 f fd ["request", "numbers"] (spCreate TB CH CW CR) := by
  refine F.ok sc_create (fun vs H Q E h => ?_) (fun cdv A outer s H vs Q E hr h => ?_)
  · obtain ⟨r, ln, st, fp, ns, x, rfl, _⟩ := h
    rfl
  · obtain ⟨r, ln, st, fp, ns, x, rfl, S, hl, ha, hc, R⟩ := h
    obtain ⟨n, t, m, rfl, e⟩ := ask0 ha
    rw [e] at hc
    cases hc
    refine ⟨_, (pss_cons (ps_set (i := 2) sc_create.nd rfl (Or.inl rfl) (pe_ix ix_list (pv 1) pe_int (fun _ _ => rfl)))
      (pss_cons (ps_set (i := 3) sc_create.nd rfl (Or.inl rfl) (pe_ix ix_list (pv 1) pe_int (fun _ _ => rfl)))
      (pss_cons (ps_set (i := 4) sc_create.nd rfl (Or.inl rfl) (pe_ix ix_list (pv 1) pe_int (fun _ _ => rfl)))
      (pss_cons (ps_if (pt_not (PW.pt (pw_and (pt_val (C8.pe_c c_hopper_count_is_right hr (by decide) (by rfl) (pa_cons (pv 2) pa_nil))) (pw_and (pt_val (C8.pe_c c_target_is_right hr (by decide) (by rfl) (pa_cons (pv 3) pa_nil))) (pw_and1 (pt_val (C8.pe_c c_max_age_is_right hr (by decide) (by rfl) (pa_cons (pv 4) pa_nil)))))))) (pss_one (ps_ret (pe_lst (pa_cons (C8.pe_gc (by rfl) T.g_OUTSIDE_LIMITS) pa_nil)))) pss_nil)
      (pss_cons (ps_fld (pv 0) (C8.pe_mk k_Weigher hr (by decide) (by rfl) (pa_cons (pv 2) (pa_cons (pv 3) (pa_cons (pv 4) pa_nil)))) rfl)
      (pss_one (ps_ret (pe_lst (pa_cons pe_int pa_nil))))))))), ?_⟩
    refine ⟨_, rfl, ln, _, 0, _, rfl, rfl, SqL.of hl, at_of (j := 0) rfl rfl, ?_⟩
    refine ⟨_, rfl, ln, _, 1, _, rfl, rfl, SqL.of hl, at_of (j := 1) rfl rfl, ?_⟩
    refine ⟨_, rfl, ln, _, 2, _, rfl, rfl, SqL.of hl, at_of (j := 2) rfl rfl, ?_⟩
    have bad : (inR 1 8 (n : Int) && (inR 1 999 (t : Int) && inR 0 9 (m : Int))) = false → ∀ p, H p = none → Q (.ref p) (upd H p (.lst [V.int (-22)])) := fun hb p hp => by
      have hcond : n < 1 ∨ Kp411.maxHoppers < n ∨ Kp411.validTarget t = false ∨ 9 < m := by
        rw [Bool.and_eq_false_iff, Bool.and_eq_false_iff, count_in, ← target_in, age_in, Bool.and_eq_false_iff, decide_eq_false_iff_not, decide_eq_false_iff_not, decide_eq_false_iff_not] at hb
        unfold Kp411.maxHoppers
        rcases hb with (h | h) | h | h
        · exact .inl (by omega)
        · exact .inr (.inl (by omega))
        · exact .inr (.inr (.inl h))
        · exact .inr (.inr (.inr (by omega)))
      have es : Kp411.step st (.create n t m) = (st, Kp411.single (-22)) := by
        cases st <;> simp only [Kp411.step, if_pos hcond]
      refine R.fin _ fp p ?_ (Same.keep (Same.upd hp)) (fun b hb => .inl hb) (fun b o e _ => ne_of_none e hp) ?_
      · rw [es]; exact S.same (Same.upd hp)
      · rw [upd_same]; unfold ansOf; rw [es]; rfl
    refine ⟨_, rfl, _, rfl, _, rfl, ?_⟩
    by_cases c1 : inR 1 8 (n : Int) = true
    · refine if_true_of c1 ?_
      refine ⟨_, rfl, _, rfl, _, rfl, ?_⟩
      by_cases c2 : inR 1 999 (t : Int) = true
      · refine if_true_of c2 ?_
        refine ⟨_, rfl, _, rfl, _, rfl, ?_⟩
        by_cases c3 : inR 0 9 (m : Int) = true
        · refine if_false_of (not_false' c3) ?_
          rw [count_in, Bool.and_eq_true, decide_eq_true_iff, decide_eq_true_iff] at c1
          rw [← target_in] at c2
          rw [age_in, decide_eq_true_iff] at c3
          have hcond : ¬ (n < 1 ∨ Kp411.maxHoppers < n ∨ Kp411.validTarget t = false ∨ 9 < m) := by
            unfold Kp411.maxHoppers
            rintro (h | h | h | h)
            · omega
            · omega
            · rw [c2] at h; cases h
            · omega
          have es : Kp411.step st (.create n t m) = (some (w0 n t m), Kp411.single 0) := by
            cases st <;> simp only [Kp411.step, if_neg hcond] <;> rfl
          refine ⟨_, rfl, _, rfl, _, rfl, ?_⟩
          intro a dx na nd ned
          refine ⟨a, dx, n, t, m, rfl, c1.2, upd_same, fun H1 lh lq as W kp fr => ⟨rfl, ?_⟩⟩
          obtain ⟨dr, o, hr0⟩ := S.obj
          have nra : r ≠ a := ne_of_none hr0 na
          have frH : ∀ b ∈ lh :: lq :: as, H b = none := fun b hb => by
            have q := fr b hb
            by_cases e1 : b = a
            · rw [e1, upd_same] at q; cases q
            · rw [upd_ne e1] at q
              by_cases e2 : b = dx
              · rw [e2, upd_same] at q; cases q
              · rw [upd_ne e2] at q; exact q
          have frH' : ∀ b ∈ own a lh lq as, H b = none := fun b hb => by
            rcases List.mem_cons.mp hb with rfl | hb
            · exact na
            · exact frH b hb
          have kH : Same H H1 := fun b o e => by
            have nba : b ≠ a := ne_of_none e na
            refine kp _ _ ?_ (by rw [List.mem_singleton]; exact nba)
            rw [upd_ne nba, upd_ne (ne_of_none e nd)]
            exact e
          have nr : r ∉ own a lh lq as := fun hb => by
            have q := frH' r hb
            rw [hr0] at q; cases q
          refine ⟨_, rfl, r, CR, dr, _, rfl, kH _ _ hr0, T.clR, T.nR_weigher, (by show 1 < 1000; decide), ?_⟩
          rw [rF_put]
          refine ⟨one_line, fun p hp => ?_⟩
          have W2 : WAt CH CW (upd H1 r (.ins CR dr (rF (some a)))) a lh lq as (w0 n t m) := W.keep (fp := [r]) (Keep.upd (by simp)) fun b hb => by
            rw [List.mem_singleton]; exact fun q => nr (q ▸ hb)
          have hr2 : upd H1 r (.ins CR dr (rF (some a))) r = some (.ins CR dr (rF (some a))) := upd_same
          have s3 := Same.upd (o := .lst [V.int 0]) hp
          refine R.fin _ (own a lh lq as) p ?_ ?_ (fun b hb => .inr (frH' b hb)) (fun b o e n => ?_) ?_
          · rw [es]
            exact ⟨dr, a, lh, lq, as, s3 _ _ hr2, W2.same s3, rfl, nr⟩
          · intro b o e n
            have nbr : b ≠ r := fun q => n (by rw [q]; simp)
            exact s3 _ _ (by rw [upd_ne nbr]; exact kH _ _ e)
          · have nbr : b ≠ r := fun q => n (by rw [q]; simp)
            refine ne_of_none (o := o) ?_ hp
            rw [upd_ne nbr]
            exact kH _ _ e
          · rw [upd_same]; unfold ansOf; rw [es]; rfl
        · exact if_true_of (not_true (eq_false_of_ne_true c3)) ⟨one_line, bad (by simp [eq_false_of_ne_true c3])⟩
      · exact if_false_of (eq_false_of_ne_true c2) (if_true_of rfl ⟨one_line, bad (by simp [eq_false_of_ne_true c2])⟩)
    · exact if_false_of (eq_false_of_ne_true c1) (if_true_of rfl ⟨one_line, bad (by simp [eq_false_of_ne_true c1])⟩)

/-! ### a call by its number -/
theorem ok_answer_call {D f : Addr} {fd : FuncData} (F : Fun K "answer_call" "answer_call" s_answer_call f fd) (T : Txt K mg CH CW CR) (g_OPERATIONS : ∃ u, mg "OPERATIONS" = some u ∧ RelV (.ref D) u)
    (ops : ∀ k : Int, 1 ≤ k → k ≤ 20 → ∃ g j, KDctI K D k (.ref g) ∧ j ≤ 7 ∧ CalAt P w K mg base j g (spOp TB CH CW k)) (c_create : Cal P w K mg base 5 "create" (spCreate TB CH CW CR) []) :
    FnOk P w K mg base CX0 8 f fd ["request", "call_number", "numbers"] (spCall TB CH CW CR) := by
  refine F.ok sc_answer_call (fun vs H Q E h => ?_) (fun cdv A outer s H vs Q E hr h => ?_)
  · obtain ⟨r, ln, k, st, fp, ns, x, rfl, _⟩ := h
    rfl
  · obtain ⟨r, ln, k, st, fp, ns, x, rfl, S, SI, hl, hn, ha, hc, R⟩ := h
    refine ⟨_, (pss_cons (ps_if (pt_cmpR op_eq (pv 1) (C8.pe_gc (by rfl) T.g_CREATE) (nomark _)) (pss_one (ps_ret (C8.pe_c c_create hr (by decide) (by rfl) (pa_cons (pv 0) (pa_cons (pv 2) pa_nil))))) pss_nil)
      (pss_cons (ps_if (pt_cmp (pc_isN (pe_fldK K rfl (pv 0) rfl))) (pss_one (ps_ret (pe_lst (pa_cons (C8.pe_gc (by rfl) T.g_NO_WEIGHER) pa_nil)))) pss_nil)
      (pss_one (ps_ret (pe_callF (pe_ix ix_kdictI (C8.pe_gc (by rfl) g_OPERATIONS) (pv 1) (fun _ _ => rfl)) hr (pa_cons (pe_fldK K rfl (pv 0) rfl) (pa_cons (pv 2) pa_nil))))))), ?_⟩
    refine ⟨_, rfl, rfl, _, rfl, ?_⟩
    by_cases c : k = 0
    · subst c
      refine if_true_of (decide_eq_true rfl) ?_
      exact ⟨_, rfl, _, rfl, r, ln, st, fp, ns, x, rfl, S, hl, ha, hc, R⟩
    · refine if_false_of (decide_eq_false (by intro q; cases q; exact c rfl)) ?_
      obtain ⟨h0, h20⟩ := ask_range ha
      cases st with
      | none =>
        obtain ⟨⟨dr, hr0⟩, rfl⟩ := id S
        refine ⟨_, rfl, r, CR, dr, _, _, rfl, hr0, T.clR, T.nR_weigher, rF_weigher _, _, rfl, ?_⟩
        refine if_true_of (decide_eq_true rfl) ⟨one_line, fun p hp => ?_⟩
        have es := step_none ha hc c
        refine R.fin _ [] p ?_ (Same.keep (Same.upd hp)) (fun b hb => .inl hb) (fun b o e _ => ne_of_none e hp) ?_
        · rw [es]; exact S.same (Same.upd hp)
        · rw [upd_same]; unfold ansOf; rw [es]; rfl
      | some w =>
        obtain ⟨dr, a, lh, lq, as, hr0, W, rfl, nr⟩ := id S
        refine ⟨_, rfl, r, CR, dr, _, _, rfl, hr0, T.clR, T.nR_weigher, rF_weigher _, _, rfl, ?_⟩
        refine if_false_of (decide_eq_false (by intro q; cases q)) ?_
        obtain ⟨g, j, hd, hj, cg⟩ := ops k (by omega) h20
        refine ⟨_, rfl, D, k, _, rfl, rfl, hd, g, j, spOp TB CH CW k, rfl, hj, cg, ?_⟩
        refine ⟨_, rfl, r, CR, dr, _, _, rfl, hr0, T.clR, T.nR_weigher, rF_weigher _, _, rfl, ?_⟩
        refine ⟨a, lh, lq, ln, as, w, ns, x, rfl, W, SI w rfl, hl, hn, ha, hc, ?_⟩
        refine ⟨R.1, W.plain, ?_⟩
        intro H' lh' lq' as' w' p e1 W' kp T' fr np hp
        have hrk := kp _ _ hr0 nr (fun _ q => by cases q)
        refine R.2.2 H' (own a lh' lq' as') p ?_ (kp.more fun b hb => by simp [hb]) T' fr (fun b o e n z => np b o e (fun q => n (by simp [q])) z) hp
        rw [e1]
        refine ⟨dr, a, lh', lq', as', hrk, W', rfl, fun hb => ?_⟩
        rcases fr r hb with q | q
        · exact nr q
        · rw [hr0] at q; cases q
end
end HP

set_option Elab.async false
set_option linter.all false
set_option maxRecDepth 100000
set_option maxHeartbeats 4000000
namespace HP
open PySem PySem.Spec PyProof.Rows L2
open C8 (Cal CalAt Met Mak)
open Kp411Neutral (asked1 callOf)
open LamX (Tabs TabS TabB CodeO ExtN)
theorem short_of {l : List Int} (h : PyKp411.answers_asked l = true) : (PyKp411.answers l).length ≤ 10000000 := by
  unfold PyKp411.answers_asked at h
  split at h
  · cases h
  · rw [Bool.and_eq_true] at h
    have h2 := h.2
    unfold PyFlat.short at h2
    exact of_decide_eq_true h2
theorem cut_at (ns : List Int) {i n : Nat} (h : i + 2 + n < ns.length) : cutV (ns.map V.int) (some (((i : Int) + 2))) (some ((i : Int) + 2 + (n : Int))) = ((ns.drop (i + 2)).take n).map V.int := by
  have e1 : (i : Int) + 2 = ((i + 2 : Nat) : Int) := by omega
  have e2 : ((i + 2 : Nat) : Int) + (n : Int) = ((i + 2 + n : Nat) : Int) := by omega
  unfold cutV
  rw [e1, e2, HT.sIx_nat, HT.sIx_nat, List.length_map, Nat.min_eq_left (by omega), Nat.min_eq_left (by omega), List.map_take, List.map_drop]
  congr 1
  omega
/-- the argument's list, wherever it stands -/
def ArgAt (K : PySem.W.Frag) (H : Hp) (a : Addr) (xs : List V) (fp : List Addr) : Prop :=
  (∃ o, H a = some o ∧ (∀ ps, o ≠ .tbl ps) ∧ (∀ H', H' a = some o → SqL K H' a xs) ∧ a ∉ fp) ∨ ∀ H', SqL K H' a xs
theorem ArgAt.sq {K : PySem.W.Frag} {H : Hp} {a : Addr} {xs : List V} {fp : List Addr} (A : ArgAt K H a xs fp) : SqL K H a xs := by
  rcases A with ⟨o, h, _, q, _⟩ | q
  · exact q H h
  · exact q H
theorem ArgAt.of {K : PySem.W.Frag} {H : Hp} {a : Addr} {xs : List V} (h : SqL K H a xs) : ArgAt K H a xs [] := by
  rcases h with (h | ⟨o, h⟩) | h
  · exact .inl ⟨_, h, (fun _ q => by cases q), fun H' e => .inl (.inl e), by simp⟩
  · exact .inl ⟨_, h, (fun _ q => by cases q), fun H' e => .inl (.inr ⟨o, e⟩), by simp⟩
  · exact .inr fun H' => .inr h
theorem ArgAt.step {K : PySem.W.Frag} {H H' : Hp} {a : Addr} {xs : List V} {fp fp' fk : List Addr} (A : ArgAt K H a xs fp) (k : KeepT fk H H') (sub : ∀ b ∈ fk, b ∈ fp ∨ H b = none) (fr : ∀ b ∈ fp', b ∈ fp ∨ H b = none) : ArgAt K H' a xs fp' := by
  rcases A with ⟨o, h, nt, q, n⟩ | q
  · have nn : ∀ {l : List Addr}, (∀ b ∈ l, b ∈ fp ∨ H b = none) → a ∉ l := fun s m => by
      rcases s a m with z | z
      · exact n z
      · rw [h] at z; cases z
    exact .inl ⟨o, k _ _ h (nn sub) nt, nt, q, nn fr⟩
  · exact .inr q
section
variable {P : Program} {w : World} {K : PySem.W.Frag} {mg : Str → Option Value} {base : Heap} {CH CW CR : Addr} {TB : List (Addr × Str)}
def spAns (TB : List (Addr × Str)) (K : PySem.W.Frag) : Sp := fun vs H Q _ => ∃ (a : Addr) (ns : List Int), vs = [.ref a] ∧ SqL K H a (ns.map V.int) ∧ Tabs TB H ∧ PyKp411.answers_asked ns = true ∧
  ∀ (H' : Hp) (p : Addr), H' p = some (.lst ((PyKp411.answers ns).map V.int)) → Q (.ref p) H'
/-- behind the calls ahead of place i: the state, what is told so far, what is still due -/
def Lp (TB : List (Addr × Str)) (K : PySem.W.Frag) (CH CW CR a r tl : Addr) (ns : List Int) (i : Nat) (H : Hp) : Prop :=
  ∃ (st : Kp411.State) (fp : List Addr) (T : List Int) (f : Nat) (cs : List (List (List Int))), i ≤ ns.length ∧ Tabs TB H ∧ StAt CH CW CR H r st fp ∧ SInv st ∧ H tl = some (.lst (T.map V.int)) ∧ tl ∉ r :: fp ∧
    ArgAt K H a (ns.map V.int) (r :: tl :: fp) ∧ PyWide.calls f (ns.drop i) = some cs ∧ cs.all asked1 = true ∧ PyKp411.answers ns = T ++ due st cs
def mu (ns : List Int) (σ : L2.St) : Nat := match (σ[3]? : Option (Option V)) with
  | some (some (V.int i)) => ns.length - i.toNat
  | _ => 0
theorem ok_answers {f : Addr} {fd : FuncData} (F : Fun K "answers" "answers" s_answers f fd) (T : Txt K mg CH CW CR) (k_Request : Mak P w K mg base 1 "Request" CR (spRInit CR) []) (c_answer_call : Cal P w K mg base 8 "answer_call" (spCall TB CH CW CR) []) :
    FnOk P w K mg base CX0 9 f fd ["calls"] (spAns TB K) := by
  refine F.ok sc_answers (fun vs H Q E h => ?_) (fun cdv A outer s H vs Q E hr h => ?_)
  · obtain ⟨a, ns, rfl, _⟩ := h
    rfl
  · obtain ⟨a, ns, rfl, hS, TA, hA, k⟩ := h
    obtain ⟨cs0, hcs0, _, hall, hans⟩ := asked_parts hA
    have hsh := short_of hA
    refine ⟨_, (pss_cons (ps_set (i := 1) sc_answers.nd rfl (Or.inl rfl) (pe_mk0 k_Request hr (by decide) (by rfl)))
      (pss_cons (ps_set (i := 2) sc_answers.nd rfl (Or.inl rfl) (pe_lst pa_nil))
      (pss_cons (ps_set (i := 3) sc_answers.nd rfl (Or.inl rfl) pe_int)
      (pss_cons (ps_while PassesOwn.never (pt_cmpR op_lt (pv 3) (pe_callB call_len_seq (by rfl) T.b_len (by decide +kernel) (pa_cons (pv 0) pa_nil)) (nomark _)) (pss_cons (ps_set (i := 4) sc_answers.nd rfl (Or.inl rfl) (pe_op op_add (pv 3) pe_int))
      (pss_cons (ps_set (i := 5) sc_answers.nd rfl (Or.inl rfl) (pe_op op_add (pv 4) (pe_ix ix_list (pv 0) (pe_op op_add (pv 3) pe_int) (fun _ _ => rfl))))
      (pss_cons (ps_set (i := 6) sc_answers.nd rfl (Or.inl rfl) (C8.pe_c c_answer_call hr (by decide) (by rfl) (pa_cons (pv 1) (pa_cons (pe_ix ix_list (pv 0) (pv 3) (fun _ _ => rfl)) (pa_cons (pe_slice sl_list (pv 0) (po_some (pv 4)) (po_some (pv 5))) pa_nil)))))
      (pss_cons (ps_expr (pe_bm PySem.F.plainAttrs_list PySem.F.slot_list_append PySem.F.type_list_append mt_append (pv 2) (pa_cons (pe_callB call_len_seq (by rfl) T.b_len (by decide +kernel) (pa_cons (pv 6) pa_nil)) pa_nil)))
      (pss_cons (ps_expr (pe_bm PySem.F.plainAttrs_list PySem.F.slot_list_extend PySem.F.type_list_extend mt_extend (pv 2) (pa_cons (pv 6) pa_nil)))
      (pss_one (ps_set (i := 3) sc_answers.nd rfl (Or.inl rfl) (pe_op op_add (pv 5) pe_int)))))))))
      (pss_one (ps_ret (pv 2))))))), ?_⟩
    intro r dx nr nd ned
    refine ⟨r, dx, rfl, upd_same, fun H1 hr1 kp => ⟨rfl, ?_⟩⟩
    obtain ⟨dr, hr1⟩ := hr1
    have s1 : Same H H1 := fun b o e => by
      have nbr : b ≠ r := ne_of_none e nr
      refine kp _ _ ?_ (by rw [List.mem_singleton]; exact nbr)
      rw [upd_ne nbr, upd_ne (ne_of_none e nd)]
      exact e
    refine ⟨Nat.zero_le _, fun tl hl => ?_⟩
    have s2 : Same H1 (upd H1 tl (.lst [])) := Same.upd hl
    have nrt : tl ≠ r := (ne_of_none hr1 hl).symm
    refine while_by (fun σ H' => ∃ (i : Nat) (v4 v5 v6 : Option V), σ = [some (.ref a), some (.ref r), some (.ref tl), some (.int (i : Int)), v4, v5, v6] ∧ Lp TB K CH CW CR a r tl ns i H') (fun σ _ => mu ns σ) ?_ ?_ ?_
    · refine ⟨0, none, none, none, rfl, none, [], [], ns.length, cs0, Nat.zero_le _, tabs_same TA (s1.trans s2), ⟨⟨dr, s2 _ _ hr1⟩, rfl⟩, SInv.none, upd_same, by simpa using nrt, ?_, hcs0, hall, hans⟩
      refine ((ArgAt.of hS).step (fp' := [r]) (Keep.toT (Same.keep (fp := []) s1)) (fun b m => by simp at m) (fun b m => .inr (by rw [List.mem_singleton] at m; rw [m]; exact nr))).step (Keep.toT (Same.keep (fp := []) s2)) (fun b m => by simp at m) (fun b m => ?_)
      rcases List.mem_cons.mp m with rfl | m
      · exact .inl (by simp)
      · rw [List.mem_singleton] at m
        subst m
        exact .inr hl
    · rintro σ H2 ⟨i, v4, v5, v6, rfl, st, fp, Tl, f, cs, hi, TA2, S, SI, hT, ntl, Ar, hf, hc, hdue⟩
      refine ⟨_, rfl, _, rfl, a, _, rfl, .inl Ar.sq, _, _, rfl, rfl, _, rfl, ?_⟩
      by_cases c : i < ns.length
      · refine if_true_of (decide_eq_true (by rw [List.length_map]; omega)) ?_
        obtain ⟨p, n, as, cs', f', hp, hn, hn0, eas, las, hb, rfl, ha1, hall', hf'⟩ := next_call hf c hc
        obtain ⟨m, rfl⟩ : ∃ m : Nat, n = (m : Int) := ⟨n.toNat, by omega⟩
        rw [Int.toNat_natCast] at eas las hb hf'
        -- first = at + 2; behind = first + calls[at + 1]
        refine ⟨_, rfl, _, _, rfl, rfl, ?_⟩
        refine ⟨_, rfl, _, rfl, _, rfl, _, _, rfl, rfl, a, _, _, _, rfl, rfl, Ar.sq, at_of (j := i + 1) (by omega) (by rw [List.getElem?_map, hn]; rfl), _, _, rfl, rfl, ?_⟩
        -- told_of_call = answer_call(request, calls[at], calls[first:behind])
        refine ⟨_, rfl, _, rfl, _, rfl, a, _, _, _, rfl, rfl, Ar.sq, at_of (j := i) rfl (by rw [List.getElem?_map, hp]; rfl), _, rfl, _, rfl, _, rfl, _, rfl, _, rfl, a, _, rfl, Ar.sq, fun ln hln => ?_⟩
        rw [cut_at ns hb, ← eas]
        have s3 := Same.upd (o := .lst (as.map V.int)) hln
        obtain ⟨x, hx⟩ := ask_call ha1
        have fpn : ∀ b ∈ fp, H2 b ≠ none := StAt.tracked S
        refine ⟨r, ln, p, st, fp, as, x, rfl, S.same s3, SI, upd_same, fun hm => fpn _ hm hln, ha1, hx, tabs_same TA2 s3, (S.same s3).plain, ?_⟩
        intro H4 fp' q S4 k4 T4 fr4 nq hq
        have es := step_of (s := st) hx
        have e3 : due st ([p :: as] :: cs') = (((ansOf st x).length : Int) :: ansOf st x) ++ due (Kp411.step st x).1 cs' := by
          rw [due_cons, es]; rfl
        rw [e3] at hdue
        have hlen : Tl.length + ((ansOf st x).length + 1) ≤ 10000000 := by
          rw [hdue, List.length_append, List.length_append, List.length_cons] at hsh
          omega
        have htl3 := s3 _ _ hT
        have hT4 := k4 _ _ htl3 ntl (fun _ q => by cases q)
        have ntq : tl ≠ q := nq _ _ htl3 ntl (fun _ q => by cases q)
        -- told.append(len(told_of_call)); told.extend(told_of_call)
        refine ⟨_, rfl, .inl ⟨rfl, _, SqL.of hT4⟩, _, rfl, q, _, rfl, .inl (SqL.of hq), tl, _, _, rfl, rfl, hT4, ?_, ?_⟩
        · rw [List.length_map]
          show Tl.length < 2 ^ 24
          omega
        refine ⟨_, rfl, .inl ⟨rfl, _, SqL.of upd_same⟩, _, rfl, tl, q, _, _, rfl, rfl, upd_same, by rw [upd_ne (Ne.symm ntq)]; exact hq, ?_, ?_⟩
        · rw [List.length_append, List.length_map, List.length_map, List.length_singleton]
          show _ ≤ 2 ^ 24
          omega
        -- at = behind + 1
        refine ⟨_, rfl, _, _, rfl, rfl, ⟨i + 2 + m + 1, some (.int ((i : Int) + 2)), some (.int ((i : Int) + 2 + (m : Int))), some (.ref q), ?_, (Kp411.step st x).1, fp', Tl ++ (((ansOf st x).length : Int) :: ansOf st x), f', cs', by omega, ?_, ?_, sinv_step SI x, ?_, ?_, ?_, hf', hall', ?_⟩, ?_⟩
        · have e9 : (i : Int) + 2 + (m : Int) + 1 = ((i + 2 + m + 1 : Nat) : Int) := by omega
          show [some (V.ref a), some (V.ref r), some (V.ref tl), some (V.int ((i : Int) + 2 + (m : Int) + 1)), _, _, _] = _
          rw [e9]
        · refine tabs_keep (fp := [tl]) T4 (fun b hb => ?_) ((Keep.upd (by simp)).trans (Keep.upd (by simp)))
          rw [List.mem_singleton] at hb
          subst hb
          exact ⟨_, hT4, (fun _ q => by cases q), (fun _ q => by cases q)⟩
        · refine S4.keep (fq := [tl]) ((Keep.upd (by simp)).trans (Keep.upd (by simp))) (fun e => ?_) (fun b hb e => ?_)
          · rw [List.mem_singleton] at e
            exact nrt e.symm
          · rw [List.mem_singleton] at e
            subst e
            rcases fr4 b hb with z | z
            · exact ntl (by simp [z])
            · rw [htl3] at z; cases z
        · rw [upd_same, List.map_append, List.map_cons, List.append_assoc]
          rw [List.length_map]; rfl
        · intro hm
          rcases List.mem_cons.mp hm with z | z
          · exact nrt z
          · rcases fr4 tl z with z | z
            · exact ntl (by simp [z])
            · rw [htl3] at z; cases z
        · have A3 : ArgAt K (upd H2 ln (.lst (as.map V.int))) a (ns.map V.int) (r :: tl :: fp) := Ar.step (Keep.toT (Same.keep (fp := []) s3)) (fun b m => by simp at m) (fun b m => .inl m)
          have A4 : ArgAt K H4 a (ns.map V.int) (r :: tl :: fp') := A3.step k4 (fun b m => .inl (by
            rcases List.mem_cons.mp m with rfl | m
            · simp
            · simp [m])) (fun b m => by
              rcases List.mem_cons.mp m with rfl | m
              · exact .inl (by simp)
              · rcases List.mem_cons.mp m with rfl | m
                · exact .inl (by simp)
                · rcases fr4 b m with z | z
                  · exact .inl (by simp [z])
                  · exact .inr z)
          exact A4.step (fk := [tl]) (Keep.toT ((Keep.upd (by simp)).trans (Keep.upd (by simp)))) (fun b m => .inl (by rw [List.mem_singleton] at m; subst m; simp)) (fun b m => .inl m)
        · rw [hdue, List.append_assoc]
        · show ns.length - (((i : Int) + 2 + (m : Int) + 1)).toNat < ns.length - ((i : Int)).toNat
          omega
      · refine if_false_of (decide_eq_false (by rw [List.length_map]; omega)) ?_
        have e0 : ns.drop i = [] := List.drop_eq_nil_of_le (by omega)
        rw [e0] at hf
        rw [calls_end hf, due_nil, List.append_nil] at hdue
        refine ⟨_, rfl, k _ _ ?_⟩
        rw [hT, hdue]
    · rintro σ H' Q1 Q2 hq h
      obtain ⟨v, e, v0, e0, q, ys, e1, e2, i, j, e3, e4, b, e5, h⟩ := h
      exact ⟨v, e, v0, e0, q, ys, e1, e2, i, j, e3, e4, b, e5, hq _ _ h⟩
end
end HP

set_option Elab.async false
set_option linter.all false
set_option maxRecDepth 100000
set_option maxHeartbeats 4000000
namespace HP
open PySem PySem.Spec PyProof.Rows L2
open C8 (Cal CalAt Met Mak)
/-! ### the table of the module -/
def entOk (e : DictEntry) (k : Int) (f : Addr) : Bool := match e.key, e.val with
  | .int k' _, .ref f' => k' == k && f' == f && e.hash == hashInt k
  | _, _ => false
def tabOk : List DictEntry → List (Int × Addr) → Bool
  | [], [] => true
  | e :: es, (k, f) :: l => entOk e k f && tabOk es l
  | _, _ => false
theorem ent_lit {e : DictEntry} {k : Int} {f : Addr} (h : entOk e k f = true) : (∃ t, e.key = .int k t) ∧ e.val = .ref f ∧ e.hash = hashInt k := by
  unfold entOk at h
  split at h
  · rename_i k' t f' e1 e2
    simp only [Bool.and_eq_true, beq_iff_eq] at h
    obtain ⟨⟨rfl, rfl⟩, h3⟩ := h
    exact ⟨⟨t, e1⟩, e2, h3⟩
  · cases h
theorem tab_lit : ∀ {es : List DictEntry} {l : List (Int × Addr)}, tabOk es l = true → ∀ e ∈ es, litI e
  | [], _, _, e, m => by simp at m
  | e :: es, [], h, _, _ => by simp [tabOk] at h
  | e :: es, (k, f) :: l, h, e', m => by
    rw [tabOk, Bool.and_eq_true] at h
    rcases List.mem_cons.mp m with rfl | m
    · obtain ⟨⟨t, e1⟩, _, e3⟩ := ent_lit h.1
      exact ⟨k, t, e1, e3⟩
    · exact tab_lit h.2 e' m
theorem tab_find : ∀ {es : List DictEntry} {l : List (Int × Addr)}, tabOk es l = true → (l.map (·.1)).Nodup → ∀ {k : Int} {f : Addr}, (k, f) ∈ l → (es.find? fun e => Value.isInt k e.key).map (·.val) = some (.ref f)
  | [], [], _, _, k, f, m => by simp at m
  | [], _ :: _, h, _, _, _, _ => by simp [tabOk] at h
  | e :: es, [], h, _, _, _, _ => by simp [tabOk] at h
  | e :: es, (k, f) :: l, h, nd, k', f', m => by
    rw [tabOk, Bool.and_eq_true] at h
    obtain ⟨⟨t, e1⟩, e2, _⟩ := ent_lit h.1
    rw [List.map_cons, List.nodup_cons] at nd
    rcases List.mem_cons.mp m with q | m
    · cases q
      have : Value.isInt k e.key = true := by rw [e1]; simp [Value.isInt]
      rw [List.find?_cons]
      simp only [this, Option.map_some, e2]
    · have hne : k' ≠ k := fun q => nd.1 (by rw [← q]; exact List.mem_map_of_mem (f := (·.1)) m)
      have : Value.isInt k' e.key = false := by rw [e1]; simp [Value.isInt]; exact fun q => hne q.symm
      rw [List.find?_cons]
      simp only [this]
      exact tab_find h.2 nd.2 m
theorem tab_get {K : PySem.W.Frag} {D : Addr} {es : Array DictEntry} {n : Nat} {l : List (Int × Addr)} (hl : K.lookup D = some ⟨.type "dict", none, .dict es n, #[]⟩) (h : tabOk es.toList l = true) (nd : (l.map (·.1)).Nodup) {k : Int} {f : Addr} (m : (k, f) ∈ l) : KDctI K D k (.ref f) := by
  refine ⟨es, n, .ref f, hl, tab_lit h, ?_, rfl⟩
  have q := tab_find h nd m
  unfold findBy
  rw [← Array.find?_toList]
  exact q
theorem tab_in {K : PySem.W.Frag} {x : Str} {f co T : Addr} {oc : Value} {od oe : Option Addr} {fd : FuncData} {sl os : Array (Option Value)} {oo : Value} {ov : Array Value} (a : PySem.W.nsIn K mainGlobals x = some (some (.ref f))) (l : K.lookup f = some ⟨oc, od, .func fd, sl⟩) (hc : fd.code = .ref co)
    (o : K.lookup co = some ⟨oo, oe, .fields ov, os⟩) (p : ov[11]? = some (Value.ref T)) : PySem.W.tabIn K x = some (co, T) := by
  unfold PySem.W.tabIn
  simp only [a, l, hc, o, p]
/-- the names of the two lambdas -/
def lamNames : List Str := [(PySem.Str.ofString "best_mask" ++ ".<locals>.") ++ "<lambda>", (PySem.Str.ofString "numbers_by_weight" ++ ".<locals>.") ++ "<lambda>"]
def TBs (ts : List (Addr × Addr)) : List (Addr × Str) := (ts.map (·.2)).zip lamNames
theorem tabl_1 {base : Heap} {mg : Str → Option Value} {c1 t1 c2 t2 : Addr} (h : LamX.TabB base mg c1 t1) (n : t1 ≠ t2) : Tabl base mg (TBs [(c1, t1), (c2, t2)]) "best_mask" c1 t1 :=
  ⟨h, List.mem_cons_self .., fun p hp e => by
    rcases List.mem_cons.mp hp with rfl | hp
    · rfl
    · rcases List.mem_cons.mp hp with rfl | hp
      · exact absurd e.symm n
      · cases hp⟩
theorem tabl_2 {base : Heap} {mg : Str → Option Value} {c1 t1 c2 t2 : Addr} (h : LamX.TabB base mg c2 t2) (n : t1 ≠ t2) : Tabl base mg (TBs [(c1, t1), (c2, t2)]) "numbers_by_weight" c2 t2 :=
  ⟨h, List.mem_cons_of_mem _ (List.mem_cons_self ..), fun p hp e => by
    rcases List.mem_cons.mp hp with rfl | hp
    · exact absurd e n
    · rcases List.mem_cons.mp hp with rfl | hp
      · rfl
      · cases hp⟩
theorem tabs_start {H : Hp} {ts : List (Addr × Addr)} (h : ∀ p ∈ ts, H p.2 = some (.tbl #[])) : LamX.Tabs (TBs ts) H := fun p hp => by
  obtain ⟨q, hq, e⟩ := List.mem_map.mp (List.of_mem_zip (show (p.1, p.2) ∈ (ts.map (·.2)).zip lamNames from hp)).1
  rw [← e]
  exact LamX.TabS.nil (h q hq)

theorem all_mk {P : Program} {w : World} {K : PySem.W.Frag} {h : Heap} {mg : Str → Option Value} {fa CH CW CR f1 f2 f3 f4 f5 f6 f7 f8 f9 f10 f11 f12 f13 f14 f15 f16 f17 f18 f19 f20 f21 f22 f23 f24 f25 f26 f27 f28 f29 f30 f31 f32 f33 f34 f35 f36 f37 f38 f39 f40 f41 f42 f43 f44 f45 f46 f47 f48 f49 f50 f51 f52 f53 f54 f55 f56 D_OPERATIONS : Addr} (X : K.In h) {pq : Program} {loose : List Str} {mean : ExcName → Option Value} {mb : Str → Option Value} (GT : Top pq loose mean mg mb h) (hfa : mg "answers" = some (.ref fa))
    {od1 an1 od2 an2 od3 an3 od4 an4 od5 an5 od6 an6 od7 an7 od8 an8 od9 an9 od10 an10 od11 an11 od12 an12 od13 an13 od14 an14 od15 an15 od16 an16 od17 an17 od18 an18 od19 an19 od20 an20 od21 an21 od22 an22 od23 an23 od24 an24 od25 an25 od26 an26 od27 an27 od28 an28 od29 an29 od30 an30 od31 an31 od32 an32 od33 an33 od34 an34 od35 an35 od36 an36 od37 an37 od38 an38 od39 an39 od40 an40 od41 an41 od42 an42 od43 an43 od44 an44 od45 an45 od46 an46 od47 an47 od48 an48 od49 an49 od50 an50 od51 an51 od52 an52 od53 an53 od54 an54 od55 an55 od56 an56 : Option Addr} {sl1 sl2 sl3 sl4 sl5 sl6 sl7 sl8 sl9 sl10 sl11 sl12 sl13 sl14 sl15 sl16 sl17 sl18 sl19 sl20 sl21 sl22 sl23 sl24 sl25 sl26 sl27 sl28 sl29 sl30 sl31 sl32 sl33 sl34 sl35 sl36 sl37 sl38 sl39 sl40 sl41 sl42 sl43 sl44 sl45 sl46 sl47 sl48 sl49 sl50 sl51 sl52 sl53 sl54 sl55 sl56 : Array (Option Value)} {oc1 kV1 dc1 pm1 cd1 ct1 oc2 kV2 dc2 pm2 cd2 ct2 oc3 kV3 dc3 pm3 cd3 ct3 oc4 kV4 dc4 pm4 cd4 ct4 oc5 kV5 dc5 pm5 cd5 ct5 oc6 kV6 dc6 pm6 cd6 ct6 oc7 kV7 dc7 pm7 cd7 ct7 oc8 kV8 dc8 pm8 cd8 ct8 oc9 kV9 dc9 pm9 cd9 ct9 oc10 kV10 dc10 pm10 cd10 ct10 oc11 kV11 dc11 pm11 cd11 ct11 oc12 kV12 dc12 pm12 ct12 oc13 kV13 dc13 pm13 ct13 oc14 kV14 dc14 pm14 cd14 ct14 oc15 kV15 dc15 pm15 cd15 ct15 oc16 kV16 dc16 pm16 cd16 ct16 oc17 kV17 dc17 pm17 cd17 ct17 oc18 kV18 dc18 pm18 cd18 ct18 oc19 kV19 dc19 pm19 cd19 ct19 oc20 kV20 dc20 pm20 cd20 ct20 oc21 kV21 dc21 pm21 cd21 ct21 oc22 kV22 dc22 pm22 cd22 ct22 oc23 kV23 dc23 pm23 cd23 ct23 oc24 kV24 dc24 pm24 cd24 ct24 oc25 kV25 dc25 pm25 cd25 ct25 oc26 kV26 dc26 pm26 cd26 ct26 oc27 kV27 dc27 pm27 cd27 ct27 oc28 kV28 dc28 pm28 cd28 ct28 oc29 kV29 dc29 pm29 cd29 ct29 oc30 kV30 dc30 pm30 cd30 ct30 oc31 kV31 dc31 pm31 cd31 ct31 oc32 kV32 dc32 pm32 cd32 ct32 oc33 kV33 dc33 pm33 cd33 ct33 oc34 kV34 dc34 pm34 cd34 ct34 oc35 kV35 dc35 pm35 cd35 ct35 oc36 kV36 dc36 pm36 cd36 ct36 oc37 kV37 dc37 pm37 cd37 ct37 oc38 kV38 dc38 pm38 cd38 ct38 oc39 kV39 dc39 pm39 cd39 ct39 oc40 kV40 dc40 pm40 cd40 ct40 oc41 kV41 dc41 pm41 cd41 ct41 oc42 kV42 dc42 pm42 cd42 ct42 oc43 kV43 dc43 pm43 cd43 ct43 oc44 kV44 dc44 pm44 cd44 ct44 oc45 kV45 dc45 pm45 cd45 ct45 oc46 kV46 dc46 pm46 cd46 ct46 oc47 kV47 dc47 pm47 cd47 ct47 oc48 kV48 dc48 pm48 cd48 ct48 oc49 kV49 dc49 pm49 cd49 ct49 oc50 kV50 dc50 pm50 cd50 ct50 oc51 kV51 dc51 pm51 cd51 ct51 oc52 kV52 dc52 pm52 cd52 ct52 oc53 kV53 dc53 pm53 cd53 ct53 oc54 kV54 dc54 pm54 cd54 ct54 oc55 kV55 dc55 pm55 cd55 ct55 oc56 kV56 dc56 pm56 cd56 ct56 : Value}
    {co12 tb12 co13 tb13 : Addr} {oo12 oo13 : Value} {oe12 oe13 : Option Addr} {ov12 ov13 : Array Value} {os12 os13 : Array (Option Value)} {dr12 dr13 : DefRec}
    {t_NO_WEIGHER t_NO_HOPPER t_OUTSIDE_LIMITS t_QUEUE_FULL t_NO_FILLING_SET t_HOPPER_EMPTY t_MOST_HOPPERS t_MOST_TARGET t_MOST_AGE t_MOST_WEIGHT t_MOST_BAGS t_MOST_QUEUED t_MOST_EXCESS_TOLD t_CREATE : Tok}
    {es_OPERATIONS : Array DictEntry} {n_OPERATIONS : Nat}
    (a_Hopper : PySem.W.nsIn K mainGlobals "Hopper" = some (some (.ref CH)))
    (a_Weigher : PySem.W.nsIn K mainGlobals "Weigher" = some (some (.ref CW)))
    (a_Request : PySem.W.nsIn K mainGlobals "Request" = some (some (.ref CR)))
    (a1 : PySem.W.nsIn K mainGlobals "hopper_count_is_right" = some (some (.ref f1)))
    (l1 : K.lookup f1 = some ⟨oc1, od1, .func (PySem.W.fnOf "hopper_count_is_right" "hopper_count_is_right" (defArgs s_hopper_count_is_right) (defBody s_hopper_count_is_right) (defScope s_hopper_count_is_right) .none kV1 dc1 pm1 an1 cd1 ct1), sl1⟩)
    (c1 : PySem.W.codeIn K cd1 "hopper_count_is_right" = true)
    (k1 : PySem.W.keepIn K (.ref f1) = true)
    (a2 : PySem.W.nsIn K mainGlobals "target_is_right" = some (some (.ref f2)))
    (l2 : K.lookup f2 = some ⟨oc2, od2, .func (PySem.W.fnOf "target_is_right" "target_is_right" (defArgs s_target_is_right) (defBody s_target_is_right) (defScope s_target_is_right) .none kV2 dc2 pm2 an2 cd2 ct2), sl2⟩)
    (c2 : PySem.W.codeIn K cd2 "target_is_right" = true)
    (k2 : PySem.W.keepIn K (.ref f2) = true)
    (a3 : PySem.W.nsIn K mainGlobals "max_age_is_right" = some (some (.ref f3)))
    (l3 : K.lookup f3 = some ⟨oc3, od3, .func (PySem.W.fnOf "max_age_is_right" "max_age_is_right" (defArgs s_max_age_is_right) (defBody s_max_age_is_right) (defScope s_max_age_is_right) .none kV3 dc3 pm3 an3 cd3 ct3), sl3⟩)
    (c3 : PySem.W.codeIn K cd3 "max_age_is_right" = true)
    (k3 : PySem.W.keepIn K (.ref f3) = true)
    (a4 : PySem.W.nsIn K mainGlobals "weight_is_right" = some (some (.ref f4)))
    (l4 : K.lookup f4 = some ⟨oc4, od4, .func (PySem.W.fnOf "weight_is_right" "weight_is_right" (defArgs s_weight_is_right) (defBody s_weight_is_right) (defScope s_weight_is_right) .none kV4 dc4 pm4 an4 cd4 ct4), sl4⟩)
    (c4 : PySem.W.codeIn K cd4 "weight_is_right" = true)
    (k4 : PySem.W.keepIn K (.ref f4) = true)
    (a5 : PySem.W.nsIn K mainGlobals "weights_are_right" = some (some (.ref f5)))
    (l5 : K.lookup f5 = some ⟨oc5, od5, .func (PySem.W.fnOf "weights_are_right" "weights_are_right" (defArgs s_weights_are_right) (defBody s_weights_are_right) (defScope s_weights_are_right) .none kV5 dc5 pm5 an5 cd5 ct5), sl5⟩)
    (c5 : PySem.W.codeIn K cd5 "weights_are_right" = true)
    (k5 : PySem.W.keepIn K (.ref f5) = true)
    (a6 : PySem.W.nsIn K mainGlobals "bags_are_right" = some (some (.ref f6)))
    (l6 : K.lookup f6 = some ⟨oc6, od6, .func (PySem.W.fnOf "bags_are_right" "bags_are_right" (defArgs s_bags_are_right) (defBody s_bags_are_right) (defScope s_bags_are_right) .none kV6 dc6 pm6 an6 cd6 ct6), sl6⟩)
    (c6 : PySem.W.codeIn K cd6 "bags_are_right" = true)
    (k6 : PySem.W.keepIn K (.ref f6) = true)
    (a7 : PySem.W.nsIn K mainGlobals "sums_by_mask" = some (some (.ref f7)))
    (l7 : K.lookup f7 = some ⟨oc7, od7, .func (PySem.W.fnOf "sums_by_mask" "sums_by_mask" (defArgs s_sums_by_mask) (defBody s_sums_by_mask) (defScope s_sums_by_mask) .none kV7 dc7 pm7 an7 cd7 ct7), sl7⟩)
    (c7 : PySem.W.codeIn K cd7 "sums_by_mask" = true)
    (k7 : PySem.W.keepIn K (.ref f7) = true)
    (a8 : PySem.W.nsIn K mainGlobals "weights_by_mask" = some (some (.ref f8)))
    (l8 : K.lookup f8 = some ⟨oc8, od8, .func (PySem.W.fnOf "weights_by_mask" "weights_by_mask" (defArgs s_weights_by_mask) (defBody s_weights_by_mask) (defScope s_weights_by_mask) .none kV8 dc8 pm8 an8 cd8 ct8), sl8⟩)
    (c8 : PySem.W.codeIn K cd8 "weights_by_mask" = true)
    (k8 : PySem.W.keepIn K (.ref f8) = true)
    (a9 : PySem.W.nsIn K mainGlobals "size_of" = some (some (.ref f9)))
    (l9 : K.lookup f9 = some ⟨oc9, od9, .func (PySem.W.fnOf "size_of" "size_of" (defArgs s_size_of) (defBody s_size_of) (defScope s_size_of) .none kV9 dc9 pm9 an9 cd9 ct9), sl9⟩)
    (c9 : PySem.W.codeIn K cd9 "size_of" = true)
    (k9 : PySem.W.keepIn K (.ref f9) = true)
    (a10 : PySem.W.nsIn K mainGlobals "mask_of" = some (some (.ref f10)))
    (l10 : K.lookup f10 = some ⟨oc10, od10, .func (PySem.W.fnOf "mask_of" "mask_of" (defArgs s_mask_of) (defBody s_mask_of) (defScope s_mask_of) .none kV10 dc10 pm10 an10 cd10 ct10), sl10⟩)
    (c10 : PySem.W.codeIn K cd10 "mask_of" = true)
    (k10 : PySem.W.keepIn K (.ref f10) = true)
    (a11 : PySem.W.nsIn K mainGlobals "filling_masks" = some (some (.ref f11)))
    (l11 : K.lookup f11 = some ⟨oc11, od11, .func (PySem.W.fnOf "filling_masks" "filling_masks" (defArgs s_filling_masks) (defBody s_filling_masks) (defScope s_filling_masks) .none kV11 dc11 pm11 an11 cd11 ct11), sl11⟩)
    (c11 : PySem.W.codeIn K cd11 "filling_masks" = true)
    (k11 : PySem.W.keepIn K (.ref f11) = true)
    (a12 : PySem.W.nsIn K mainGlobals "best_mask" = some (some (.ref f12)))
    (l12 : K.lookup f12 = some ⟨oc12, od12, .func (PySem.W.fnOf "best_mask" "best_mask" (defArgs s_best_mask) (defBody s_best_mask) (defScope s_best_mask) .none kV12 dc12 pm12 an12 (.ref co12) ct12), sl12⟩)
    (o12 : K.lookup co12 = some ⟨oo12, oe12, .fields ov12, os12⟩)
    (p12 : ov12[11]? = some (Value.ref tb12))
    (n12 : K.lookup tb12 = none)
    (r12 : (recsOf pq).find? (fun e => e.name == PySem.Str.ofString "best_mask") = some dr12)
    (c12 : PySem.W.codeIn K (.ref co12) "best_mask" = true)
    (k12 : PySem.W.keepIn K (.ref f12) = true)
    (a13 : PySem.W.nsIn K mainGlobals "numbers_by_weight" = some (some (.ref f13)))
    (l13 : K.lookup f13 = some ⟨oc13, od13, .func (PySem.W.fnOf "numbers_by_weight" "numbers_by_weight" (defArgs s_numbers_by_weight) (defBody s_numbers_by_weight) (defScope s_numbers_by_weight) .none kV13 dc13 pm13 an13 (.ref co13) ct13), sl13⟩)
    (o13 : K.lookup co13 = some ⟨oo13, oe13, .fields ov13, os13⟩)
    (p13 : ov13[11]? = some (Value.ref tb13))
    (n13 : K.lookup tb13 = none)
    (r13 : (recsOf pq).find? (fun e => e.name == PySem.Str.ofString "numbers_by_weight") = some dr13)
    (c13 : PySem.W.codeIn K (.ref co13) "numbers_by_weight" = true)
    (k13 : PySem.W.keepIn K (.ref f13) = true)
    (a14 : PySem.W.nsIn K mainGlobals "greedy_mask" = some (some (.ref f14)))
    (l14 : K.lookup f14 = some ⟨oc14, od14, .func (PySem.W.fnOf "greedy_mask" "greedy_mask" (defArgs s_greedy_mask) (defBody s_greedy_mask) (defScope s_greedy_mask) .none kV14 dc14 pm14 an14 cd14 ct14), sl14⟩)
    (c14 : PySem.W.codeIn K cd14 "greedy_mask" = true)
    (k14 : PySem.W.keepIn K (.ref f14) = true)
    (a15 : PySem.W.nsIn K mainGlobals "reachable" = some (some (.ref f15)))
    (l15 : K.lookup f15 = some ⟨oc15, od15, .func (PySem.W.fnOf "reachable" "reachable" (defArgs s_reachable) (defBody s_reachable) (defScope s_reachable) .none kV15 dc15 pm15 an15 cd15 ct15), sl15⟩)
    (c15 : PySem.W.codeIn K cd15 "reachable" = true)
    (k15 : PySem.W.keepIn K (.ref f15) = true)
    (a16 : PySem.W.findIn K (.ref CH) "__init__" = some (some (.ref f16)))
    (i16 : PySem.W.isFn K (.ref f16) = true)
    (l16 : K.lookup f16 = some ⟨oc16, od16, .func (PySem.W.fnOf "__init__" "Hopper.__init__" (defArgs s_Hopper_init) (defBody s_Hopper_init) (defScope s_Hopper_init) .none kV16 dc16 pm16 an16 cd16 ct16), sl16⟩)
    (c16 : PySem.W.codeIn K cd16 "Hopper.__init__" = true)
    (k16 : PySem.W.keepIn K (.ref f16) = true)
    (a17 : PySem.W.findIn K (.ref CH) "is_empty" = some (some (.ref f17)))
    (i17 : PySem.W.isFn K (.ref f17) = true)
    (l17 : K.lookup f17 = some ⟨oc17, od17, .func (PySem.W.fnOf "is_empty" "Hopper.is_empty" (defArgs s_Hopper_is_empty) (defBody s_Hopper_is_empty) (defScope s_Hopper_is_empty) .none kV17 dc17 pm17 an17 cd17 ct17), sl17⟩)
    (c17 : PySem.W.codeIn K cd17 "Hopper.is_empty" = true)
    (k17 : PySem.W.keepIn K (.ref f17) = true)
    (a18 : PySem.W.findIn K (.ref CH) "load" = some (some (.ref f18)))
    (i18 : PySem.W.isFn K (.ref f18) = true)
    (l18 : K.lookup f18 = some ⟨oc18, od18, .func (PySem.W.fnOf "load" "Hopper.load" (defArgs s_Hopper_load) (defBody s_Hopper_load) (defScope s_Hopper_load) .none kV18 dc18 pm18 an18 cd18 ct18), sl18⟩)
    (c18 : PySem.W.codeIn K cd18 "Hopper.load" = true)
    (k18 : PySem.W.keepIn K (.ref f18) = true)
    (a19 : PySem.W.findIn K (.ref CH) "unload" = some (some (.ref f19)))
    (i19 : PySem.W.isFn K (.ref f19) = true)
    (l19 : K.lookup f19 = some ⟨oc19, od19, .func (PySem.W.fnOf "unload" "Hopper.unload" (defArgs s_Hopper_unload) (defBody s_Hopper_unload) (defScope s_Hopper_unload) .none kV19 dc19 pm19 an19 cd19 ct19), sl19⟩)
    (c19 : PySem.W.codeIn K cd19 "Hopper.unload" = true)
    (k19 : PySem.W.keepIn K (.ref f19) = true)
    (a20 : PySem.W.findIn K (.ref CW) "__init__" = some (some (.ref f20)))
    (i20 : PySem.W.isFn K (.ref f20) = true)
    (l20 : K.lookup f20 = some ⟨oc20, od20, .func (PySem.W.fnOf "__init__" "Weigher.__init__" (defArgs s_Weigher_init) (defBody s_Weigher_init) (defScope s_Weigher_init) .none kV20 dc20 pm20 an20 cd20 ct20), sl20⟩)
    (c20 : PySem.W.codeIn K cd20 "Weigher.__init__" = true)
    (k20 : PySem.W.keepIn K (.ref f20) = true)
    (a21 : PySem.W.findIn K (.ref CW) "duplicate" = some (some (.ref f21)))
    (i21 : PySem.W.isFn K (.ref f21) = true)
    (l21 : K.lookup f21 = some ⟨oc21, od21, .func (PySem.W.fnOf "duplicate" "Weigher.duplicate" (defArgs s_Weigher_duplicate) (defBody s_Weigher_duplicate) (defScope s_Weigher_duplicate) .none kV21 dc21 pm21 an21 cd21 ct21), sl21⟩)
    (c21 : PySem.W.codeIn K cd21 "Weigher.duplicate" = true)
    (k21 : PySem.W.keepIn K (.ref f21) = true)
    (a22 : PySem.W.findIn K (.ref CW) "first_empty" = some (some (.ref f22)))
    (i22 : PySem.W.isFn K (.ref f22) = true)
    (l22 : K.lookup f22 = some ⟨oc22, od22, .func (PySem.W.fnOf "first_empty" "Weigher.first_empty" (defArgs s_Weigher_first_empty) (defBody s_Weigher_first_empty) (defScope s_Weigher_first_empty) .none kV22 dc22 pm22 an22 cd22 ct22), sl22⟩)
    (c22 : PySem.W.codeIn K cd22 "Weigher.first_empty" = true)
    (k22 : PySem.W.keepIn K (.ref f22) = true)
    (a23 : PySem.W.findIn K (.ref CW) "arrive" = some (some (.ref f23)))
    (i23 : PySem.W.isFn K (.ref f23) = true)
    (l23 : K.lookup f23 = some ⟨oc23, od23, .func (PySem.W.fnOf "arrive" "Weigher.arrive" (defArgs s_Weigher_arrive) (defBody s_Weigher_arrive) (defScope s_Weigher_arrive) .none kV23 dc23 pm23 an23 cd23 ct23), sl23⟩)
    (c23 : PySem.W.codeIn K cd23 "Weigher.arrive" = true)
    (k23 : PySem.W.keepIn K (.ref f23) = true)
    (a24 : PySem.W.findIn K (.ref CW) "queue_length_after" = some (some (.ref f24)))
    (i24 : PySem.W.isFn K (.ref f24) = true)
    (l24 : K.lookup f24 = some ⟨oc24, od24, .func (PySem.W.fnOf "queue_length_after" "Weigher.queue_length_after" (defArgs s_Weigher_queue_length_after) (defBody s_Weigher_queue_length_after) (defScope s_Weigher_queue_length_after) .none kV24 dc24 pm24 an24 cd24 ct24), sl24⟩)
    (c24 : PySem.W.codeIn K cd24 "Weigher.queue_length_after" = true)
    (k24 : PySem.W.keepIn K (.ref f24) = true)
    (a25 : PySem.W.findIn K (.ref CW) "is_due" = some (some (.ref f25)))
    (i25 : PySem.W.isFn K (.ref f25) = true)
    (l25 : K.lookup f25 = some ⟨oc25, od25, .func (PySem.W.fnOf "is_due" "Weigher.is_due" (defArgs s_Weigher_is_due) (defBody s_Weigher_is_due) (defScope s_Weigher_is_due) .none kV25 dc25 pm25 an25 cd25 ct25), sl25⟩)
    (c25 : PySem.W.codeIn K cd25 "Weigher.is_due" = true)
    (k25 : PySem.W.keepIn K (.ref f25) = true)
    (a26 : PySem.W.findIn K (.ref CW) "due_numbers" = some (some (.ref f26)))
    (i26 : PySem.W.isFn K (.ref f26) = true)
    (l26 : K.lookup f26 = some ⟨oc26, od26, .func (PySem.W.fnOf "due_numbers" "Weigher.due_numbers" (defArgs s_Weigher_due_numbers) (defBody s_Weigher_due_numbers) (defScope s_Weigher_due_numbers) .none kV26 dc26 pm26 an26 cd26 ct26), sl26⟩)
    (c26 : PySem.W.codeIn K cd26 "Weigher.due_numbers" = true)
    (k26 : PySem.W.keepIn K (.ref f26) = true)
    (a27 : PySem.W.findIn K (.ref CW) "set_limit" = some (some (.ref f27)))
    (i27 : PySem.W.isFn K (.ref f27) = true)
    (l27 : K.lookup f27 = some ⟨oc27, od27, .func (PySem.W.fnOf "set_limit" "Weigher.set_limit" (defArgs s_Weigher_set_limit) (defBody s_Weigher_set_limit) (defScope s_Weigher_set_limit) .none kV27 dc27 pm27 an27 cd27 ct27), sl27⟩)
    (c27 : PySem.W.codeIn K cd27 "Weigher.set_limit" = true)
    (k27 : PySem.W.keepIn K (.ref f27) = true)
    (a28 : PySem.W.findIn K (.ref CW) "weight_in" = some (some (.ref f28)))
    (i28 : PySem.W.isFn K (.ref f28) = true)
    (l28 : K.lookup f28 = some ⟨oc28, od28, .func (PySem.W.fnOf "weight_in" "Weigher.weight_in" (defArgs s_Weigher_weight_in) (defBody s_Weigher_weight_in) (defScope s_Weigher_weight_in) .none kV28 dc28 pm28 an28 cd28 ct28), sl28⟩)
    (c28 : PySem.W.codeIn K cd28 "Weigher.weight_in" = true)
    (k28 : PySem.W.keepIn K (.ref f28) = true)
    (a29 : PySem.W.findIn K (.ref CW) "fill_from" = some (some (.ref f29)))
    (i29 : PySem.W.isFn K (.ref f29) = true)
    (l29 : K.lookup f29 = some ⟨oc29, od29, .func (PySem.W.fnOf "fill_from" "Weigher.fill_from" (defArgs s_Weigher_fill_from) (defBody s_Weigher_fill_from) (defScope s_Weigher_fill_from) .none kV29 dc29 pm29 an29 cd29 ct29), sl29⟩)
    (c29 : PySem.W.codeIn K cd29 "Weigher.fill_from" = true)
    (k29 : PySem.W.keepIn K (.ref f29) = true)
    (a30 : PySem.W.findIn K (.ref CW) "refill" = some (some (.ref f30)))
    (i30 : PySem.W.isFn K (.ref f30) = true)
    (l30 : K.lookup f30 = some ⟨oc30, od30, .func (PySem.W.fnOf "refill" "Weigher.refill" (defArgs s_Weigher_refill) (defBody s_Weigher_refill) (defScope s_Weigher_refill) .none kV30 dc30 pm30 an30 cd30 ct30), sl30⟩)
    (c30 : PySem.W.codeIn K cd30 "Weigher.refill" = true)
    (k30 : PySem.W.keepIn K (.ref f30) = true)
    (a31 : PySem.W.findIn K (.ref CW) "throw_out" = some (some (.ref f31)))
    (i31 : PySem.W.isFn K (.ref f31) = true)
    (l31 : K.lookup f31 = some ⟨oc31, od31, .func (PySem.W.fnOf "throw_out" "Weigher.throw_out" (defArgs s_Weigher_throw_out) (defBody s_Weigher_throw_out) (defScope s_Weigher_throw_out) .none kV31 dc31 pm31 an31 cd31 ct31), sl31⟩)
    (c31 : PySem.W.codeIn K cd31 "Weigher.throw_out" = true)
    (k31 : PySem.W.keepIn K (.ref f31) = true)
    (a32 : PySem.W.findIn K (.ref CR) "__init__" = some (some (.ref f32)))
    (i32 : PySem.W.isFn K (.ref f32) = true)
    (l32 : K.lookup f32 = some ⟨oc32, od32, .func (PySem.W.fnOf "__init__" "Request.__init__" (defArgs s_Request_init) (defBody s_Request_init) (defScope s_Request_init) .none kV32 dc32 pm32 an32 cd32 ct32), sl32⟩)
    (c32 : PySem.W.codeIn K cd32 "Request.__init__" = true)
    (k32 : PySem.W.keepIn K (.ref f32) = true)
    (a33 : PySem.W.nsIn K mainGlobals "create" = some (some (.ref f33)))
    (l33 : K.lookup f33 = some ⟨oc33, od33, .func (PySem.W.fnOf "create" "create" (defArgs s_create) (defBody s_create) (defScope s_create) .none kV33 dc33 pm33 an33 cd33 ct33), sl33⟩)
    (c33 : PySem.W.codeIn K cd33 "create" = true)
    (k33 : PySem.W.keepIn K (.ref f33) = true)
    (a34 : PySem.W.nsIn K mainGlobals "add_portion" = some (some (.ref f34)))
    (l34 : K.lookup f34 = some ⟨oc34, od34, .func (PySem.W.fnOf "add_portion" "add_portion" (defArgs s_add_portion) (defBody s_add_portion) (defScope s_add_portion) .none kV34 dc34 pm34 an34 cd34 ct34), sl34⟩)
    (c34 : PySem.W.codeIn K cd34 "add_portion" = true)
    (k34 : PySem.W.keepIn K (.ref f34) = true)
    (a35 : PySem.W.nsIn K mainGlobals "add_portions" = some (some (.ref f35)))
    (l35 : K.lookup f35 = some ⟨oc35, od35, .func (PySem.W.fnOf "add_portions" "add_portions" (defArgs s_add_portions) (defBody s_add_portions) (defScope s_add_portions) .none kV35 dc35 pm35 an35 cd35 ct35), sl35⟩)
    (c35 : PySem.W.codeIn K cd35 "add_portions" = true)
    (k35 : PySem.W.keepIn K (.ref f35) = true)
    (a36 : PySem.W.nsIn K mainGlobals "set_target" = some (some (.ref f36)))
    (l36 : K.lookup f36 = some ⟨oc36, od36, .func (PySem.W.fnOf "set_target" "set_target" (defArgs s_set_target) (defBody s_set_target) (defScope s_set_target) .none kV36 dc36 pm36 an36 cd36 ct36), sl36⟩)
    (c36 : PySem.W.codeIn K cd36 "set_target" = true)
    (k36 : PySem.W.keepIn K (.ref f36) = true)
    (a37 : PySem.W.nsIn K mainGlobals "set_max_age" = some (some (.ref f37)))
    (l37 : K.lookup f37 = some ⟨oc37, od37, .func (PySem.W.fnOf "set_max_age" "set_max_age" (defArgs s_set_max_age) (defBody s_set_max_age) (defScope s_set_max_age) .none kV37 dc37 pm37 an37 cd37 ct37), sl37⟩)
    (c37 : PySem.W.codeIn K cd37 "set_max_age" = true)
    (k37 : PySem.W.keepIn K (.ref f37) = true)
    (a38 : PySem.W.nsIn K mainGlobals "get_hoppers" = some (some (.ref f38)))
    (l38 : K.lookup f38 = some ⟨oc38, od38, .func (PySem.W.fnOf "get_hoppers" "get_hoppers" (defArgs s_get_hoppers) (defBody s_get_hoppers) (defScope s_get_hoppers) .none kV38 dc38 pm38 an38 cd38 ct38), sl38⟩)
    (c38 : PySem.W.codeIn K cd38 "get_hoppers" = true)
    (k38 : PySem.W.keepIn K (.ref f38) = true)
    (a39 : PySem.W.nsIn K mainGlobals "get_queue" = some (some (.ref f39)))
    (l39 : K.lookup f39 = some ⟨oc39, od39, .func (PySem.W.fnOf "get_queue" "get_queue" (defArgs s_get_queue) (defBody s_get_queue) (defScope s_get_queue) .none kV39 dc39 pm39 an39 cd39 ct39), sl39⟩)
    (c39 : PySem.W.codeIn K cd39 "get_queue" = true)
    (k39 : PySem.W.keepIn K (.ref f39) = true)
    (a40 : PySem.W.nsIn K mainGlobals "due_hoppers" = some (some (.ref f40)))
    (l40 : K.lookup f40 = some ⟨oc40, od40, .func (PySem.W.fnOf "due_hoppers" "due_hoppers" (defArgs s_due_hoppers) (defBody s_due_hoppers) (defScope s_due_hoppers) .none kV40 dc40 pm40 an40 cd40 ct40), sl40⟩)
    (c40 : PySem.W.codeIn K cd40 "due_hoppers" = true)
    (k40 : PySem.W.keepIn K (.ref f40) = true)
    (a41 : PySem.W.nsIn K mainGlobals "weight_of" = some (some (.ref f41)))
    (l41 : K.lookup f41 = some ⟨oc41, od41, .func (PySem.W.fnOf "weight_of" "weight_of" (defArgs s_weight_of) (defBody s_weight_of) (defScope s_weight_of) .none kV41 dc41 pm41 an41 cd41 ct41), sl41⟩)
    (c41 : PySem.W.codeIn K cd41 "weight_of" = true)
    (k41 : PySem.W.keepIn K (.ref f41) = true)
    (a42 : PySem.W.nsIn K mainGlobals "can_fill" = some (some (.ref f42)))
    (l42 : K.lookup f42 = some ⟨oc42, od42, .func (PySem.W.fnOf "can_fill" "can_fill" (defArgs s_can_fill) (defBody s_can_fill) (defScope s_can_fill) .none kV42 dc42 pm42 an42 cd42 ct42), sl42⟩)
    (c42 : PySem.W.codeIn K cd42 "can_fill" = true)
    (k42 : PySem.W.keepIn K (.ref f42) = true)
    (a43 : PySem.W.nsIn K mainGlobals "filling_set_count" = some (some (.ref f43)))
    (l43 : K.lookup f43 = some ⟨oc43, od43, .func (PySem.W.fnOf "filling_set_count" "filling_set_count" (defArgs s_filling_set_count) (defBody s_filling_set_count) (defScope s_filling_set_count) .none kV43 dc43 pm43 an43 cd43 ct43), sl43⟩)
    (c43 : PySem.W.codeIn K cd43 "filling_set_count" = true)
    (k43 : PySem.W.keepIn K (.ref f43) = true)
    (a44 : PySem.W.nsIn K mainGlobals "told_of_set" = some (some (.ref f44)))
    (l44 : K.lookup f44 = some ⟨oc44, od44, .func (PySem.W.fnOf "told_of_set" "told_of_set" (defArgs s_told_of_set) (defBody s_told_of_set) (defScope s_told_of_set) .none kV44 dc44 pm44 an44 cd44 ct44), sl44⟩)
    (c44 : PySem.W.codeIn K cd44 "told_of_set" = true)
    (k44 : PySem.W.keepIn K (.ref f44) = true)
    (a45 : PySem.W.nsIn K mainGlobals "best_set" = some (some (.ref f45)))
    (l45 : K.lookup f45 = some ⟨oc45, od45, .func (PySem.W.fnOf "best_set" "best_set" (defArgs s_best_set) (defBody s_best_set) (defScope s_best_set) .none kV45 dc45 pm45 an45 cd45 ct45), sl45⟩)
    (c45 : PySem.W.codeIn K cd45 "best_set" = true)
    (k45 : PySem.W.keepIn K (.ref f45) = true)
    (a46 : PySem.W.nsIn K mainGlobals "greedy_set" = some (some (.ref f46)))
    (l46 : K.lookup f46 = some ⟨oc46, od46, .func (PySem.W.fnOf "greedy_set" "greedy_set" (defArgs s_greedy_set) (defBody s_greedy_set) (defScope s_greedy_set) .none kV46 dc46 pm46 an46 cd46 ct46), sl46⟩)
    (c46 : PySem.W.codeIn K cd46 "greedy_set" = true)
    (k46 : PySem.W.keepIn K (.ref f46) = true)
    (a47 : PySem.W.nsIn K mainGlobals "fill_bag" = some (some (.ref f47)))
    (l47 : K.lookup f47 = some ⟨oc47, od47, .func (PySem.W.fnOf "fill_bag" "fill_bag" (defArgs s_fill_bag) (defBody s_fill_bag) (defScope s_fill_bag) .none kV47 dc47 pm47 an47 cd47 ct47), sl47⟩)
    (c47 : PySem.W.codeIn K cd47 "fill_bag" = true)
    (k47 : PySem.W.keepIn K (.ref f47) = true)
    (a48 : PySem.W.nsIn K mainGlobals "fill_best_bag" = some (some (.ref f48)))
    (l48 : K.lookup f48 = some ⟨oc48, od48, .func (PySem.W.fnOf "fill_best_bag" "fill_best_bag" (defArgs s_fill_best_bag) (defBody s_fill_best_bag) (defScope s_fill_best_bag) .none kV48 dc48 pm48 an48 cd48 ct48), sl48⟩)
    (c48 : PySem.W.codeIn K cd48 "fill_best_bag" = true)
    (k48 : PySem.W.keepIn K (.ref f48) = true)
    (a49 : PySem.W.nsIn K mainGlobals "run" = some (some (.ref f49)))
    (l49 : K.lookup f49 = some ⟨oc49, od49, .func (PySem.W.fnOf "run" "run" (defArgs s_run) (defBody s_run) (defScope s_run) .none kV49 dc49 pm49 an49 cd49 ct49), sl49⟩)
    (c49 : PySem.W.codeIn K cd49 "run" = true)
    (k49 : PySem.W.keepIn K (.ref f49) = true)
    (a50 : PySem.W.nsIn K mainGlobals "best_set_for_target" = some (some (.ref f50)))
    (l50 : K.lookup f50 = some ⟨oc50, od50, .func (PySem.W.fnOf "best_set_for_target" "best_set_for_target" (defArgs s_best_set_for_target) (defBody s_best_set_for_target) (defScope s_best_set_for_target) .none kV50 dc50 pm50 an50 cd50 ct50), sl50⟩)
    (c50 : PySem.W.codeIn K cd50 "best_set_for_target" = true)
    (k50 : PySem.W.keepIn K (.ref f50) = true)
    (a51 : PySem.W.nsIn K mainGlobals "preview_run" = some (some (.ref f51)))
    (l51 : K.lookup f51 = some ⟨oc51, od51, .func (PySem.W.fnOf "preview_run" "preview_run" (defArgs s_preview_run) (defBody s_preview_run) (defScope s_preview_run) .none kV51 dc51 pm51 an51 cd51 ct51), sl51⟩)
    (c51 : PySem.W.codeIn K cd51 "preview_run" = true)
    (k51 : PySem.W.keepIn K (.ref f51) = true)
    (a52 : PySem.W.nsIn K mainGlobals "reachable_weights" = some (some (.ref f52)))
    (l52 : K.lookup f52 = some ⟨oc52, od52, .func (PySem.W.fnOf "reachable_weights" "reachable_weights" (defArgs s_reachable_weights) (defBody s_reachable_weights) (defScope s_reachable_weights) .none kV52 dc52 pm52 an52 cd52 ct52), sl52⟩)
    (c52 : PySem.W.codeIn K cd52 "reachable_weights" = true)
    (k52 : PySem.W.keepIn K (.ref f52) = true)
    (a53 : PySem.W.nsIn K mainGlobals "totals" = some (some (.ref f53)))
    (l53 : K.lookup f53 = some ⟨oc53, od53, .func (PySem.W.fnOf "totals" "totals" (defArgs s_totals) (defBody s_totals) (defScope s_totals) .none kV53 dc53 pm53 an53 cd53 ct53), sl53⟩)
    (c53 : PySem.W.codeIn K cd53 "totals" = true)
    (k53 : PySem.W.keepIn K (.ref f53) = true)
    (a54 : PySem.W.nsIn K mainGlobals "discard" = some (some (.ref f54)))
    (l54 : K.lookup f54 = some ⟨oc54, od54, .func (PySem.W.fnOf "discard" "discard" (defArgs s_discard) (defBody s_discard) (defScope s_discard) .none kV54 dc54 pm54 an54 cd54 ct54), sl54⟩)
    (c54 : PySem.W.codeIn K cd54 "discard" = true)
    (k54 : PySem.W.keepIn K (.ref f54) = true)
    (a55 : PySem.W.nsIn K mainGlobals "answer_call" = some (some (.ref f55)))
    (l55 : K.lookup f55 = some ⟨oc55, od55, .func (PySem.W.fnOf "answer_call" "answer_call" (defArgs s_answer_call) (defBody s_answer_call) (defScope s_answer_call) .none kV55 dc55 pm55 an55 cd55 ct55), sl55⟩)
    (c55 : PySem.W.codeIn K cd55 "answer_call" = true)
    (k55 : PySem.W.keepIn K (.ref f55) = true)
    (a56 : PySem.W.nsIn K mainGlobals "answers" = some (some (.ref f56)))
    (l56 : K.lookup f56 = some ⟨oc56, od56, .func (PySem.W.fnOf "answers" "answers" (defArgs s_answers) (defBody s_answers) (defScope s_answers) .none kV56 dc56 pm56 an56 cd56 ct56), sl56⟩)
    (c56 : PySem.W.codeIn K cd56 "answers" = true)
    (k56 : PySem.W.keepIn K (.ref f56) = true)
    (pg_Hopper : PySem.W.plainGet K CH Str.empty = true)
    (hd_Hopper : PySem.W.hasDictIn K CH = true)
    (po_Hopper : PySem.W.plainOver K CH = true)
    (sa_Hopper : PySem.W.findIn K (.ref CH) "__setattr__" = some (some (.builtin "object.__setattr__")))
    (mk_Hopper : PySem.W.makesIn K CH = true)
    (kc_Hopper : PySem.W.keepIn K (.ref CH) = true)
    (n_Hopper_weight : PySem.W.findIn K (.ref CH) "weight" = some none)
    (n_Hopper_age : PySem.W.findIn K (.ref CH) "age" = some none)
    (pg_Weigher : PySem.W.plainGet K CW Str.empty = true)
    (hd_Weigher : PySem.W.hasDictIn K CW = true)
    (po_Weigher : PySem.W.plainOver K CW = true)
    (sa_Weigher : PySem.W.findIn K (.ref CW) "__setattr__" = some (some (.builtin "object.__setattr__")))
    (mk_Weigher : PySem.W.makesIn K CW = true)
    (kc_Weigher : PySem.W.keepIn K (.ref CW) = true)
    (n_Weigher_hoppers : PySem.W.findIn K (.ref CW) "hoppers" = some none)
    (n_Weigher_target : PySem.W.findIn K (.ref CW) "target" = some none)
    (n_Weigher_max_age : PySem.W.findIn K (.ref CW) "max_age" = some none)
    (n_Weigher_queue : PySem.W.findIn K (.ref CW) "queue" = some none)
    (n_Weigher_received : PySem.W.findIn K (.ref CW) "received" = some none)
    (n_Weigher_packed : PySem.W.findIn K (.ref CW) "packed" = some none)
    (n_Weigher_bag_count : PySem.W.findIn K (.ref CW) "bag_count" = some none)
    (pg_Request : PySem.W.plainGet K CR Str.empty = true)
    (hd_Request : PySem.W.hasDictIn K CR = true)
    (po_Request : PySem.W.plainOver K CR = true)
    (sa_Request : PySem.W.findIn K (.ref CR) "__setattr__" = some (some (.builtin "object.__setattr__")))
    (mk_Request : PySem.W.makesIn K CR = true)
    (kc_Request : PySem.W.keepIn K (.ref CR) = true)
    (n_Request_weigher : PySem.W.findIn K (.ref CR) "weigher" = some none)
    (z_all : PySem.W.nsIn K mainGlobals "all" = some none)
    (z_len : PySem.W.nsIn K mainGlobals "len" = some none)
    (z_range : PySem.W.nsIn K mainGlobals "range" = some none)
    (z_sum : PySem.W.nsIn K mainGlobals "sum" = some none)
    (z_enumerate : PySem.W.nsIn K mainGlobals "enumerate" = some none)
    (z_min : PySem.W.nsIn K mainGlobals "min" = some none)
    (z_sorted : PySem.W.nsIn K mainGlobals "sorted" = some none)
    (z_list : PySem.W.nsIn K mainGlobals "list" = some none)
    (z_max : PySem.W.nsIn K mainGlobals "max" = some none)
    (g_NO_WEIGHER : PySem.W.nsIn K mainGlobals "NO_WEIGHER" = some (some (.int (-11) t_NO_WEIGHER)))
    (g_NO_HOPPER : PySem.W.nsIn K mainGlobals "NO_HOPPER" = some (some (.int (-2) t_NO_HOPPER)))
    (g_OUTSIDE_LIMITS : PySem.W.nsIn K mainGlobals "OUTSIDE_LIMITS" = some (some (.int (-22) t_OUTSIDE_LIMITS)))
    (g_QUEUE_FULL : PySem.W.nsIn K mainGlobals "QUEUE_FULL" = some (some (.int (-28) t_QUEUE_FULL)))
    (g_NO_FILLING_SET : PySem.W.nsIn K mainGlobals "NO_FILLING_SET" = some (some (.int (-33) t_NO_FILLING_SET)))
    (g_HOPPER_EMPTY : PySem.W.nsIn K mainGlobals "HOPPER_EMPTY" = some (some (.int (-6) t_HOPPER_EMPTY)))
    (g_MOST_HOPPERS : PySem.W.nsIn K mainGlobals "MOST_HOPPERS" = some (some (.int 8 t_MOST_HOPPERS)))
    (g_MOST_TARGET : PySem.W.nsIn K mainGlobals "MOST_TARGET" = some (some (.int 999 t_MOST_TARGET)))
    (g_MOST_AGE : PySem.W.nsIn K mainGlobals "MOST_AGE" = some (some (.int 9 t_MOST_AGE)))
    (g_MOST_WEIGHT : PySem.W.nsIn K mainGlobals "MOST_WEIGHT" = some (some (.int 300 t_MOST_WEIGHT)))
    (g_MOST_BAGS : PySem.W.nsIn K mainGlobals "MOST_BAGS" = some (some (.int 12 t_MOST_BAGS)))
    (g_MOST_QUEUED : PySem.W.nsIn K mainGlobals "MOST_QUEUED" = some (some (.int 24 t_MOST_QUEUED)))
    (g_MOST_EXCESS_TOLD : PySem.W.nsIn K mainGlobals "MOST_EXCESS_TOLD" = some (some (.int 19 t_MOST_EXCESS_TOLD)))
    (g_CREATE : PySem.W.nsIn K mainGlobals "CREATE" = some (some (.int 0 t_CREATE)))
    (d_OPERATIONS : PySem.W.nsIn K mainGlobals "OPERATIONS" = some (some (.ref D_OPERATIONS)))
    (e_OPERATIONS : K.lookup D_OPERATIONS = some ⟨.type "dict", none, .dict es_OPERATIONS n_OPERATIONS, #[]⟩)
    (t_OPERATIONS : tabOk es_OPERATIONS.toList [(1, f34), (2, f35), (3, f36), (4, f37), (5, f38), (6, f39), (7, f40), (8, f41), (9, f42), (10, f43), (11, f45), (12, f46), (13, f47), (14, f48), (15, f49), (16, f50), (17, f51), (18, f52), (19, f53), (20, f54)] = true)
    (ne_Hopper_Weigher : CH ≠ CW)
    (ne_Hopper_Request : CH ≠ CR)
    (ne_Weigher_Request : CW ≠ CR)
    (nt_12_13 : tb12 ≠ tb13)
    : ∃ (fd : FuncData) (ts : List (Addr × Addr)), (∀ p ∈ ts, PySem.W.CodeHd h p.1 p.2 ∧ h.get? p.2 = some emptyT) ∧ (∀ p ∈ ts, K.lookup p.2 = none) ∧ (∀ (s : Shared) (us : List Value), us.length = (["calls"] : List Str).length → BindsTo s fd ⟨us, []⟩ ((["calls"] : List Str).zip us)) ∧ ∀ base : Heap, K.In base → base.Ns mainGlobals mg → (∀ p ∈ ts, LamX.TabB base mg p.1 p.2) → FnOk P w K mg base CX0 9 fa fd ["calls"] (spAns (TBs ts) K) := by
  have G := GT.g
  have e := hfa.symm.trans (PySem.W.mg_of X G a56)
  cases e
  have T : Txt K mg CH CW CR := {
    clH := ⟨pg_Hopper, hd_Hopper, po_Hopper, sa_Hopper⟩
    nH_weight := n_Hopper_weight
    nH_age := n_Hopper_age
    clW := ⟨pg_Weigher, hd_Weigher, po_Weigher, sa_Weigher⟩
    nW_hoppers := n_Weigher_hoppers
    nW_target := n_Weigher_target
    nW_max_age := n_Weigher_max_age
    nW_queue := n_Weigher_queue
    nW_received := n_Weigher_received
    nW_packed := n_Weigher_packed
    nW_bag_count := n_Weigher_bag_count
    clR := ⟨pg_Request, hd_Request, po_Request, sa_Request⟩
    nR_weigher := n_Request_weigher
    b_all := PySem.W.mg_none_of X G z_all
    b_len := PySem.W.mg_none_of X G z_len
    b_range := PySem.W.mg_none_of X G z_range
    b_sum := PySem.W.mg_none_of X G z_sum
    b_enumerate := PySem.W.mg_none_of X G z_enumerate
    b_min := PySem.W.mg_none_of X G z_min
    b_sorted := PySem.W.mg_none_of X G z_sorted
    b_list := PySem.W.mg_none_of X G z_list
    b_max := PySem.W.mg_none_of X G z_max
    neHW := ne_Hopper_Weigher
    neHR := ne_Hopper_Request
    neWR := ne_Weigher_Request
    g_NO_WEIGHER := ⟨_, PySem.W.mg_of X G g_NO_WEIGHER, _, rfl⟩
    g_NO_HOPPER := ⟨_, PySem.W.mg_of X G g_NO_HOPPER, _, rfl⟩
    g_OUTSIDE_LIMITS := ⟨_, PySem.W.mg_of X G g_OUTSIDE_LIMITS, _, rfl⟩
    g_QUEUE_FULL := ⟨_, PySem.W.mg_of X G g_QUEUE_FULL, _, rfl⟩
    g_NO_FILLING_SET := ⟨_, PySem.W.mg_of X G g_NO_FILLING_SET, _, rfl⟩
    g_HOPPER_EMPTY := ⟨_, PySem.W.mg_of X G g_HOPPER_EMPTY, _, rfl⟩
    g_MOST_HOPPERS := ⟨_, PySem.W.mg_of X G g_MOST_HOPPERS, _, rfl⟩
    g_MOST_TARGET := ⟨_, PySem.W.mg_of X G g_MOST_TARGET, _, rfl⟩
    g_MOST_AGE := ⟨_, PySem.W.mg_of X G g_MOST_AGE, _, rfl⟩
    g_MOST_WEIGHT := ⟨_, PySem.W.mg_of X G g_MOST_WEIGHT, _, rfl⟩
    g_MOST_BAGS := ⟨_, PySem.W.mg_of X G g_MOST_BAGS, _, rfl⟩
    g_MOST_QUEUED := ⟨_, PySem.W.mg_of X G g_MOST_QUEUED, _, rfl⟩
    g_MOST_EXCESS_TOLD := ⟨_, PySem.W.mg_of X G g_MOST_EXCESS_TOLD, _, rfl⟩
    g_CREATE := ⟨_, PySem.W.mg_of X G g_CREATE, _, rfl⟩
  }
  have g_OPERATIONS : ∃ u, mg "OPERATIONS" = some u ∧ RelV (.ref D_OPERATIONS) u := ⟨_, PySem.W.mg_of X G d_OPERATIONS, rfl⟩
  have F1 := fun_mk (st := s_hopper_count_is_right) l1 c1 k1
  have b1 := F1.binds (ps := ["hopper_count"]) fun _ _ _ _ _ _ us hl => match us, hl with | [_], _ => rfl
  have F2 := fun_mk (st := s_target_is_right) l2 c2 k2
  have b2 := F2.binds (ps := ["target"]) fun _ _ _ _ _ _ us hl => match us, hl with | [_], _ => rfl
  have F3 := fun_mk (st := s_max_age_is_right) l3 c3 k3
  have b3 := F3.binds (ps := ["max_age"]) fun _ _ _ _ _ _ us hl => match us, hl with | [_], _ => rfl
  have F4 := fun_mk (st := s_weight_is_right) l4 c4 k4
  have b4 := F4.binds (ps := ["weight"]) fun _ _ _ _ _ _ us hl => match us, hl with | [_], _ => rfl
  have F5 := fun_mk (st := s_weights_are_right) l5 c5 k5
  have b5 := F5.binds (ps := ["weights"]) fun _ _ _ _ _ _ us hl => match us, hl with | [_], _ => rfl
  have F6 := fun_mk (st := s_bags_are_right) l6 c6 k6
  have b6 := F6.binds (ps := ["bags"]) fun _ _ _ _ _ _ us hl => match us, hl with | [_], _ => rfl
  have F7 := fun_mk (st := s_sums_by_mask) l7 c7 k7
  have b7 := F7.binds (ps := ["values"]) fun _ _ _ _ _ _ us hl => match us, hl with | [_], _ => rfl
  have F8 := fun_mk (st := s_weights_by_mask) l8 c8 k8
  have b8 := F8.binds (ps := ["weigher"]) fun _ _ _ _ _ _ us hl => match us, hl with | [_], _ => rfl
  have F9 := fun_mk (st := s_size_of) l9 c9 k9
  have b9 := F9.binds (ps := ["mask"]) fun _ _ _ _ _ _ us hl => match us, hl with | [_], _ => rfl
  have F10 := fun_mk (st := s_mask_of) l10 c10 k10
  have b10 := F10.binds (ps := ["numbers"]) fun _ _ _ _ _ _ us hl => match us, hl with | [_], _ => rfl
  have F11 := fun_mk (st := s_filling_masks) l11 c11 k11
  have b11 := F11.binds (ps := ["weigher", "target"]) fun _ _ _ _ _ _ us hl => match us, hl with | [_, _], _ => rfl
  have F12 := fun_mk (st := s_best_mask) l12 c12 k12
  have FC12 : FunC K "best_mask" "best_mask" s_best_mask f12 _ co12 := ⟨⟨_, _, _, _, _, _, _, _, rfl, l12, c12⟩⟩
  have ht12 : PySem.W.tabIn K "best_mask" = some (co12, tb12) := tab_in a12 l12 rfl o12 p12
  have b12 := F12.binds (ps := ["weigher", "target"]) fun _ _ _ _ _ _ us hl => match us, hl with | [_, _], _ => rfl
  have F13 := fun_mk (st := s_numbers_by_weight) l13 c13 k13
  have FC13 : FunC K "numbers_by_weight" "numbers_by_weight" s_numbers_by_weight f13 _ co13 := ⟨⟨_, _, _, _, _, _, _, _, rfl, l13, c13⟩⟩
  have ht13 : PySem.W.tabIn K "numbers_by_weight" = some (co13, tb13) := tab_in a13 l13 rfl o13 p13
  have b13 := F13.binds (ps := ["weigher"]) fun _ _ _ _ _ _ us hl => match us, hl with | [_], _ => rfl
  have F14 := fun_mk (st := s_greedy_mask) l14 c14 k14
  have b14 := F14.binds (ps := ["weigher"]) fun _ _ _ _ _ _ us hl => match us, hl with | [_], _ => rfl
  have F15 := fun_mk (st := s_reachable) l15 c15 k15
  have b15 := F15.binds (ps := ["weigher"]) fun _ _ _ _ _ _ us hl => match us, hl with | [_], _ => rfl
  have F16 := fun_mk (st := s_Hopper_init) l16 c16 k16
  have b16 := F16.binds (ps := ["self", "weight", "age"]) fun _ _ _ _ _ _ us hl => match us, hl with | [_, _, _], _ => rfl
  have F17 := fun_mk (st := s_Hopper_is_empty) l17 c17 k17
  have b17 := F17.binds (ps := ["self"]) fun _ _ _ _ _ _ us hl => match us, hl with | [_], _ => rfl
  have F18 := fun_mk (st := s_Hopper_load) l18 c18 k18
  have b18 := F18.binds (ps := ["self", "weight"]) fun _ _ _ _ _ _ us hl => match us, hl with | [_, _], _ => rfl
  have F19 := fun_mk (st := s_Hopper_unload) l19 c19 k19
  have b19 := F19.binds (ps := ["self"]) fun _ _ _ _ _ _ us hl => match us, hl with | [_], _ => rfl
  have F20 := fun_mk (st := s_Weigher_init) l20 c20 k20
  have b20 := F20.binds (ps := ["self", "hopper_count", "target", "max_age"]) fun _ _ _ _ _ _ us hl => match us, hl with | [_, _, _, _], _ => rfl
  have F21 := fun_mk (st := s_Weigher_duplicate) l21 c21 k21
  have b21 := F21.binds (ps := ["self"]) fun _ _ _ _ _ _ us hl => match us, hl with | [_], _ => rfl
  have F22 := fun_mk (st := s_Weigher_first_empty) l22 c22 k22
  have b22 := F22.binds (ps := ["self"]) fun _ _ _ _ _ _ us hl => match us, hl with | [_], _ => rfl
  have F23 := fun_mk (st := s_Weigher_arrive) l23 c23 k23
  have b23 := F23.binds (ps := ["self", "weight"]) fun _ _ _ _ _ _ us hl => match us, hl with | [_, _], _ => rfl
  have F24 := fun_mk (st := s_Weigher_queue_length_after) l24 c24 k24
  have b24 := F24.binds (ps := ["self", "portion_count"]) fun _ _ _ _ _ _ us hl => match us, hl with | [_, _], _ => rfl
  have F25 := fun_mk (st := s_Weigher_is_due) l25 c25 k25
  have b25 := F25.binds (ps := ["self", "hopper"]) fun _ _ _ _ _ _ us hl => match us, hl with | [_, _], _ => rfl
  have F26 := fun_mk (st := s_Weigher_due_numbers) l26 c26 k26
  have b26 := F26.binds (ps := ["self"]) fun _ _ _ _ _ _ us hl => match us, hl with | [_], _ => rfl
  have F27 := fun_mk (st := s_Weigher_set_limit) l27 c27 k27
  have b27 := F27.binds (ps := ["self"]) fun _ _ _ _ _ _ us hl => match us, hl with | [_], _ => rfl
  have F28 := fun_mk (st := s_Weigher_weight_in) l28 c28 k28
  have b28 := F28.binds (ps := ["self", "mask"]) fun _ _ _ _ _ _ us hl => match us, hl with | [_, _], _ => rfl
  have F29 := fun_mk (st := s_Weigher_fill_from) l29 c29 k29
  have b29 := F29.binds (ps := ["self", "mask"]) fun _ _ _ _ _ _ us hl => match us, hl with | [_, _], _ => rfl
  have F30 := fun_mk (st := s_Weigher_refill) l30 c30 k30
  have b30 := F30.binds (ps := ["self", "hopper"]) fun _ _ _ _ _ _ us hl => match us, hl with | [_, _], _ => rfl
  have F31 := fun_mk (st := s_Weigher_throw_out) l31 c31 k31
  have b31 := F31.binds (ps := ["self", "hopper"]) fun _ _ _ _ _ _ us hl => match us, hl with | [_, _], _ => rfl
  have F32 := fun_mk (st := s_Request_init) l32 c32 k32
  have b32 := F32.binds (ps := ["self"]) fun _ _ _ _ _ _ us hl => match us, hl with | [_], _ => rfl
  have F33 := fun_mk (st := s_create) l33 c33 k33
  have b33 := F33.binds (ps := ["request", "numbers"]) fun _ _ _ _ _ _ us hl => match us, hl with | [_, _], _ => rfl
  have F34 := fun_mk (st := s_add_portion) l34 c34 k34
  have b34 := F34.binds (ps := ["weigher", "numbers"]) fun _ _ _ _ _ _ us hl => match us, hl with | [_, _], _ => rfl
  have F35 := fun_mk (st := s_add_portions) l35 c35 k35
  have b35 := F35.binds (ps := ["weigher", "weights"]) fun _ _ _ _ _ _ us hl => match us, hl with | [_, _], _ => rfl
  have F36 := fun_mk (st := s_set_target) l36 c36 k36
  have b36 := F36.binds (ps := ["weigher", "numbers"]) fun _ _ _ _ _ _ us hl => match us, hl with | [_, _], _ => rfl
  have F37 := fun_mk (st := s_set_max_age) l37 c37 k37
  have b37 := F37.binds (ps := ["weigher", "numbers"]) fun _ _ _ _ _ _ us hl => match us, hl with | [_, _], _ => rfl
  have F38 := fun_mk (st := s_get_hoppers) l38 c38 k38
  have b38 := F38.binds (ps := ["weigher", "numbers"]) fun _ _ _ _ _ _ us hl => match us, hl with | [_, _], _ => rfl
  have F39 := fun_mk (st := s_get_queue) l39 c39 k39
  have b39 := F39.binds (ps := ["weigher", "numbers"]) fun _ _ _ _ _ _ us hl => match us, hl with | [_, _], _ => rfl
  have F40 := fun_mk (st := s_due_hoppers) l40 c40 k40
  have b40 := F40.binds (ps := ["weigher", "numbers"]) fun _ _ _ _ _ _ us hl => match us, hl with | [_, _], _ => rfl
  have F41 := fun_mk (st := s_weight_of) l41 c41 k41
  have b41 := F41.binds (ps := ["weigher", "numbers"]) fun _ _ _ _ _ _ us hl => match us, hl with | [_, _], _ => rfl
  have F42 := fun_mk (st := s_can_fill) l42 c42 k42
  have b42 := F42.binds (ps := ["weigher", "numbers"]) fun _ _ _ _ _ _ us hl => match us, hl with | [_, _], _ => rfl
  have F43 := fun_mk (st := s_filling_set_count) l43 c43 k43
  have b43 := F43.binds (ps := ["weigher", "numbers"]) fun _ _ _ _ _ _ us hl => match us, hl with | [_, _], _ => rfl
  have F44 := fun_mk (st := s_told_of_set) l44 c44 k44
  have b44 := F44.binds (ps := ["weigher", "mask", "target"]) fun _ _ _ _ _ _ us hl => match us, hl with | [_, _, _], _ => rfl
  have F45 := fun_mk (st := s_best_set) l45 c45 k45
  have b45 := F45.binds (ps := ["weigher", "numbers"]) fun _ _ _ _ _ _ us hl => match us, hl with | [_, _], _ => rfl
  have F46 := fun_mk (st := s_greedy_set) l46 c46 k46
  have b46 := F46.binds (ps := ["weigher", "numbers"]) fun _ _ _ _ _ _ us hl => match us, hl with | [_, _], _ => rfl
  have F47 := fun_mk (st := s_fill_bag) l47 c47 k47
  have b47 := F47.binds (ps := ["weigher", "numbers"]) fun _ _ _ _ _ _ us hl => match us, hl with | [_, _], _ => rfl
  have F48 := fun_mk (st := s_fill_best_bag) l48 c48 k48
  have b48 := F48.binds (ps := ["weigher", "numbers"]) fun _ _ _ _ _ _ us hl => match us, hl with | [_, _], _ => rfl
  have F49 := fun_mk (st := s_run) l49 c49 k49
  have b49 := F49.binds (ps := ["weigher", "numbers"]) fun _ _ _ _ _ _ us hl => match us, hl with | [_, _], _ => rfl
  have F50 := fun_mk (st := s_best_set_for_target) l50 c50 k50
  have b50 := F50.binds (ps := ["weigher", "numbers"]) fun _ _ _ _ _ _ us hl => match us, hl with | [_, _], _ => rfl
  have F51 := fun_mk (st := s_preview_run) l51 c51 k51
  have b51 := F51.binds (ps := ["weigher", "numbers"]) fun _ _ _ _ _ _ us hl => match us, hl with | [_, _], _ => rfl
  have F52 := fun_mk (st := s_reachable_weights) l52 c52 k52
  have b52 := F52.binds (ps := ["weigher", "numbers"]) fun _ _ _ _ _ _ us hl => match us, hl with | [_, _], _ => rfl
  have F53 := fun_mk (st := s_totals) l53 c53 k53
  have b53 := F53.binds (ps := ["weigher", "numbers"]) fun _ _ _ _ _ _ us hl => match us, hl with | [_, _], _ => rfl
  have F54 := fun_mk (st := s_discard) l54 c54 k54
  have b54 := F54.binds (ps := ["weigher", "numbers"]) fun _ _ _ _ _ _ us hl => match us, hl with | [_, _], _ => rfl
  have F55 := fun_mk (st := s_answer_call) l55 c55 k55
  have b55 := F55.binds (ps := ["request", "call_number", "numbers"]) fun _ _ _ _ _ _ us hl => match us, hl with | [_, _, _], _ => rfl
  have F56 := fun_mk (st := s_answers) l56 c56 k56
  have b56 := F56.binds (ps := ["calls"]) fun _ _ _ _ _ _ us hl => match us, hl with | [_], _ => rfl
  refine ⟨PySem.W.fnOf "answers" "answers" (defArgs s_answers) (defBody s_answers) (defScope s_answers) .none kV56 dc56 pm56 an56 cd56 ct56, [(co12, tb12), (co13, tb13)], ?_, ?_, fun s us hu => match us, hu with | [_], _ => .of_eq rfl, fun base _ _ hTB => ?_⟩
  · intro p hp
    simp only [List.mem_cons, List.not_mem_nil, or_false] at hp
    rcases hp with rfl | rfl
    · exact PySem.W.tab_of GT X r12 ht12
    · exact PySem.W.tab_of GT X r13 ht13
  · intro p hp
    simp only [List.mem_cons, List.not_mem_nil, or_false] at hp
    rcases hp with rfl | rfl
    · exact n12
    · exact n13
  have t_best_mask : Tabl base mg (TBs [(co12, tb12), (co13, tb13)]) "best_mask" co12 tb12 := tabl_1 (hTB (co12, tb12) (by simp)) nt_12_13
  have t_numbers_by_weight : Tabl base mg (TBs [(co12, tb12), (co13, tb13)]) "numbers_by_weight" co13 tb13 := tabl_2 (hTB (co13, tb13) (by simp)) nt_12_13
  have ok32 := ok_Request_init (P := P) (w := w) (base := base) (mg := mg) F32 T
  have k_Request : Mak P w K mg base _ "Request" CR _ [] := ⟨f32, _, ["self"], [], ⟨mk_Request, a32, i32, kc_Request⟩, ok32, PySem.W.mg_of X G a_Request, b32, .nil⟩
  have ok4 := ok_weight_is_right (P := P) (w := w) (base := base) (mg := mg) F4 T
  have c_weight_is_right : Cal P w K mg base _ "weight_is_right" _ [] := ⟨f4, _, ["weight"], [], ok4, PySem.W.mg_of X G a4, k4, b4, .nil⟩
  have ok17 := ok_Hopper_is_empty (P := P) (w := w) (base := base) (mg := mg) F17 T
  have m_is_empty : Met P w K mg base _ CH "is_empty" _ [] := ⟨f17, _, ["self"], [], T.clH, ⟨a17, i17, k17⟩, ok17, b17, .nil⟩
  have ok22 := ok_Weigher_first_empty (P := P) (w := w) (base := base) (mg := mg) F22 T m_is_empty
  have m_first_empty : Met P w K mg base _ CW "first_empty" _ [] := ⟨f22, _, ["self"], [], T.clW, ⟨a22, i22, k22⟩, ok22, b22, .nil⟩
  have ok18 := ok_Hopper_load (P := P) (w := w) (base := base) (mg := mg) F18 T
  have m_load : Met P w K mg base _ CH "load" _ [] := ⟨f18, _, ["self", "weight"], [], T.clH, ⟨a18, i18, k18⟩, ok18, b18, .nil⟩
  have ok23 := ok_Weigher_arrive (P := P) (w := w) (base := base) (mg := mg) F23 T m_first_empty m_load
  have m_arrive : Met P w K mg base _ CW "arrive" _ [] := ⟨f23, _, ["self", "weight"], [], T.clW, ⟨a23, i23, k23⟩, ok23, b23, .nil⟩
  have ok34 := ok_add_portion (P := P) (w := w) (base := base) (mg := mg) (TB := TBs [(co12, tb12), (co13, tb13)]) F34 T c_weight_is_right m_arrive
  have c_add_portion : Cal P w K mg base _ "add_portion" _ [] := ⟨f34, _, ["weigher", "numbers"], [], ok34, PySem.W.mg_of X G a34, k34, b34, .nil⟩
  have ok5 := ok_weights_are_right (P := P) (w := w) (base := base) (mg := mg) F5 T c_weight_is_right
  have c_weights_are_right : Cal P w K mg base _ "weights_are_right" _ [] := ⟨f5, _, ["weights"], [], ok5, PySem.W.mg_of X G a5, k5, b5, .nil⟩
  have ok24 := ok_Weigher_queue_length_after (P := P) (w := w) (base := base) (mg := mg) F24 T m_is_empty
  have m_queue_length_after : Met P w K mg base _ CW "queue_length_after" _ [] := ⟨f24, _, ["self", "portion_count"], [], T.clW, ⟨a24, i24, k24⟩, ok24, b24, .nil⟩
  have ok35 := ok_add_portions (P := P) (w := w) (base := base) (mg := mg) (TB := TBs [(co12, tb12), (co13, tb13)]) F35 T c_weights_are_right m_queue_length_after m_arrive
  have c_add_portions : Cal P w K mg base _ "add_portions" _ [] := ⟨f35, _, ["weigher", "weights"], [], ok35, PySem.W.mg_of X G a35, k35, b35, .nil⟩
  have ok7 := ok_sums_by_mask (P := P) (w := w) (base := base) (mg := mg) F7
  have c_sums_by_mask : Cal P w K mg base _ "sums_by_mask" _ [] := ⟨f7, _, ["values"], [], ok7, PySem.W.mg_of X G a7, k7, b7, .nil⟩
  have ok8 := ok_weights_by_mask (P := P) (w := w) (base := base) (mg := mg) F8 T c_sums_by_mask
  have c_weights_by_mask : Cal P w K mg base _ "weights_by_mask" _ [] := ⟨f8, _, ["weigher"], [], ok8, PySem.W.mg_of X G a8, k8, b8, .nil⟩
  have ok25 := ok_Weigher_is_due (P := P) (w := w) (base := base) (mg := mg) F25 T m_is_empty
  have m_is_due : Met P w K mg base _ CW "is_due" _ [] := ⟨f25, _, ["self", "hopper"], [], T.clW, ⟨a25, i25, k25⟩, ok25, b25, .nil⟩
  have ok26 := ok_Weigher_due_numbers (P := P) (w := w) (base := base) (mg := mg) F26 T m_is_due
  have m_due_numbers : Met P w K mg base _ CW "due_numbers" _ [] := ⟨f26, _, ["self"], [], T.clW, ⟨a26, i26, k26⟩, ok26, b26, .nil⟩
  have ok10 := ok_mask_of (P := P) (w := w) (base := base) (mg := mg) F10 T
  have c_mask_of : Cal P w K mg base _ "mask_of" _ [] := ⟨f10, _, ["numbers"], [], ok10, PySem.W.mg_of X G a10, k10, b10, .nil⟩
  have ok11 := ok_filling_masks (P := P) (w := w) (base := base) (mg := mg) F11 T m_due_numbers c_mask_of c_weights_by_mask
  have c_filling_masks : Cal P w K mg base _ "filling_masks" _ [] := ⟨f11, _, ["weigher", "target"], [], ok11, PySem.W.mg_of X G a11, k11, b11, .nil⟩
  have ok12 := ok_best_mask (P := P) (w := w) (base := base) (mg := mg) (TB := TBs [(co12, tb12), (co13, tb13)]) FC12 T t_best_mask c_weights_by_mask c_sums_by_mask c_filling_masks
  have c_best_mask : Cal P w K mg base _ "best_mask" _ [] := ⟨f12, _, ["weigher", "target"], [], ok12, PySem.W.mg_of X G a12, k12, b12, .nil⟩
  have ok28 := ok_Weigher_weight_in (P := P) (w := w) (base := base) (mg := mg) F28 T
  have m_weight_in : Met P w K mg base _ CW "weight_in" _ [] := ⟨f28, _, ["self", "mask"], [], T.clW, ⟨a28, i28, k28⟩, ok28, b28, .nil⟩
  have ok9 := ok_size_of (P := P) (w := w) (base := base) (mg := mg) F9 T
  have c_size_of : Cal P w K mg base _ "size_of" _ [] := ⟨f9, _, ["mask"], [], ok9, PySem.W.mg_of X G a9, k9, b9, .nil⟩
  have ok44 := ok_told_of_set (P := P) (w := w) (base := base) (mg := mg) F44 T m_weight_in c_size_of
  have c_told_of_set : Cal P w K mg base _ "told_of_set" _ [] := ⟨f44, _, ["weigher", "mask", "target"], [], ok44, PySem.W.mg_of X G a44, k44, b44, .nil⟩
  have ok45 := ok_best_set (P := P) (w := w) (base := base) (mg := mg) (TB := TBs [(co12, tb12), (co13, tb13)]) F45 T c_best_mask c_told_of_set
  have c_best_set : Cal P w K mg base _ "best_set" _ [] := ⟨f45, _, ["weigher", "numbers"], [], ok45, PySem.W.mg_of X G a45, k45, b45, .nil⟩
  have ok2 := ok_target_is_right (P := P) (w := w) (base := base) (mg := mg) F2 T
  have c_target_is_right : Cal P w K mg base _ "target_is_right" _ [] := ⟨f2, _, ["target"], [], ok2, PySem.W.mg_of X G a2, k2, b2, .nil⟩
  have ok50 := ok_best_set_for_target (P := P) (w := w) (base := base) (mg := mg) (TB := TBs [(co12, tb12), (co13, tb13)]) F50 T c_target_is_right c_best_mask c_told_of_set
  have c_best_set_for_target : Cal P w K mg base _ "best_set_for_target" _ [] := ⟨f50, _, ["weigher", "numbers"], [], ok50, PySem.W.mg_of X G a50, k50, b50, .nil⟩
  have ok27 := ok_Weigher_set_limit (P := P) (w := w) (base := base) (mg := mg) F27 T
  have m_set_limit : Met P w K mg base _ CW "set_limit" _ [] := ⟨f27, _, ["self"], [], T.clW, ⟨a27, i27, k27⟩, ok27, b27, .nil⟩
  have ok42 := ok_can_fill (P := P) (w := w) (base := base) (mg := mg) (TB := TBs [(co12, tb12), (co13, tb13)]) F42 T m_set_limit c_filling_masks
  have c_can_fill : Cal P w K mg base _ "can_fill" _ [] := ⟨f42, _, ["weigher", "numbers"], [], ok42, PySem.W.mg_of X G a42, k42, b42, .nil⟩
  have ok19 := ok_Hopper_unload (P := P) (w := w) (base := base) (mg := mg) F19 T m_load
  have m_unload : Met P w K mg base _ CH "unload" _ [] := ⟨f19, _, ["self"], [], T.clH, ⟨a19, i19, k19⟩, ok19, b19, .nil⟩
  have ok31 := ok_Weigher_throw_out (P := P) (w := w) (base := base) (mg := mg) F31 T m_unload
  have m_throw_out : Met P w K mg base _ CW "throw_out" _ [] := ⟨f31, _, ["self", "hopper"], [], T.clW, ⟨a31, i31, k31⟩, ok31, b31, .nil⟩
  have ok54 := ok_discard (P := P) (w := w) (base := base) (mg := mg) (TB := TBs [(co12, tb12), (co13, tb13)]) F54 T m_is_empty m_throw_out
  have c_discard : Cal P w K mg base _ "discard" _ [] := ⟨f54, _, ["weigher", "numbers"], [], ok54, PySem.W.mg_of X G a54, k54, b54, .nil⟩
  have ok40 := ok_due_hoppers (P := P) (w := w) (base := base) (mg := mg) (TB := TBs [(co12, tb12), (co13, tb13)]) F40 T m_due_numbers
  have c_due_hoppers : Cal P w K mg base _ "due_hoppers" _ [] := ⟨f40, _, ["weigher", "numbers"], [], ok40, PySem.W.mg_of X G a40, k40, b40, .nil⟩
  have ok30 := ok_Weigher_refill (P := P) (w := w) (base := base) (mg := mg) F30 T m_load
  have m_refill : Met P w K mg base _ CW "refill" _ [] := ⟨f30, _, ["self", "hopper"], [], T.clW, ⟨a30, i30, k30⟩, ok30, b30, .nil⟩
  have ok29 := ok_Weigher_fill_from (P := P) (w := w) (base := base) (mg := mg) F29 T m_weight_in m_unload m_refill m_is_empty
  have m_fill_from : Met P w K mg base _ CW "fill_from" _ [] := ⟨f29, _, ["self", "mask"], [], T.clW, ⟨a29, i29, k29⟩, ok29, b29, .nil⟩
  have ok47 := ok_fill_bag (P := P) (w := w) (base := base) (mg := mg) (TB := TBs [(co12, tb12), (co13, tb13)]) F47 T m_set_limit c_filling_masks m_weight_in m_fill_from
  have c_fill_bag : Cal P w K mg base _ "fill_bag" _ [] := ⟨f47, _, ["weigher", "numbers"], [], ok47, PySem.W.mg_of X G a47, k47, b47, .nil⟩
  have ok48 := ok_fill_best_bag (P := P) (w := w) (base := base) (mg := mg) (TB := TBs [(co12, tb12), (co13, tb13)]) F48 T c_best_mask c_told_of_set m_fill_from
  have c_fill_best_bag : Cal P w K mg base _ "fill_best_bag" _ [] := ⟨f48, _, ["weigher", "numbers"], [], ok48, PySem.W.mg_of X G a48, k48, b48, .nil⟩
  have ok43 := ok_filling_set_count (P := P) (w := w) (base := base) (mg := mg) (TB := TBs [(co12, tb12), (co13, tb13)]) F43 T c_filling_masks
  have c_filling_set_count : Cal P w K mg base _ "filling_set_count" _ [] := ⟨f43, _, ["weigher", "numbers"], [], ok43, PySem.W.mg_of X G a43, k43, b43, .nil⟩
  have ok38 := ok_get_hoppers (P := P) (w := w) (base := base) (mg := mg) (TB := TBs [(co12, tb12), (co13, tb13)]) F38 T
  have c_get_hoppers : Cal P w K mg base _ "get_hoppers" _ [] := ⟨f38, _, ["weigher", "numbers"], [], ok38, PySem.W.mg_of X G a38, k38, b38, .nil⟩
  have ok39 := ok_get_queue (P := P) (w := w) (base := base) (mg := mg) (TB := TBs [(co12, tb12), (co13, tb13)]) F39 T
  have c_get_queue : Cal P w K mg base _ "get_queue" _ [] := ⟨f39, _, ["weigher", "numbers"], [], ok39, PySem.W.mg_of X G a39, k39, b39, .nil⟩
  have ok13 := ok_numbers_by_weight (P := P) (w := w) (base := base) (mg := mg) (TB := TBs [(co12, tb12), (co13, tb13)]) FC13 T t_numbers_by_weight
  have c_numbers_by_weight : Cal P w K mg base _ "numbers_by_weight" _ [] := ⟨f13, _, ["weigher"], [], ok13, PySem.W.mg_of X G a13, k13, b13, .nil⟩
  have ok14 := ok_greedy_mask (P := P) (w := w) (base := base) (mg := mg) (TB := TBs [(co12, tb12), (co13, tb13)]) F14 T m_due_numbers m_weight_in c_mask_of c_numbers_by_weight
  have c_greedy_mask : Cal P w K mg base _ "greedy_mask" _ [] := ⟨f14, _, ["weigher"], [], ok14, PySem.W.mg_of X G a14, k14, b14, .nil⟩
  have ok46 := ok_greedy_set (P := P) (w := w) (base := base) (mg := mg) (TB := TBs [(co12, tb12), (co13, tb13)]) F46 T c_greedy_mask c_told_of_set
  have c_greedy_set : Cal P w K mg base _ "greedy_set" _ [] := ⟨f46, _, ["weigher", "numbers"], [], ok46, PySem.W.mg_of X G a46, k46, b46, .nil⟩
  have ok16 := ok_Hopper_init (P := P) (w := w) (base := base) (mg := mg) F16 T
  have k_Hopper : Mak P w K mg base _ "Hopper" CH _ [] := ⟨f16, _, ["self", "weight", "age"], [], ⟨mk_Hopper, a16, i16, kc_Hopper⟩, ok16, PySem.W.mg_of X G a_Hopper, b16, .nil⟩
  have ok20 := ok_Weigher_init (P := P) (w := w) (base := base) (mg := mg) F20 T k_Hopper
  have k_Weigher : Mak P w K mg base _ "Weigher" CW _ [] := ⟨f20, _, ["self", "hopper_count", "target", "max_age"], [], ⟨mk_Weigher, a20, i20, kc_Weigher⟩, ok20, PySem.W.mg_of X G a_Weigher, b20, .nil⟩
  have ok21 := ok_Weigher_duplicate (P := P) (w := w) (base := base) (mg := mg) F21 T k_Weigher k_Hopper
  have m_duplicate : Met P w K mg base _ CW "duplicate" _ [] := ⟨f21, _, ["self"], [], T.clW, ⟨a21, i21, k21⟩, ok21, b21, .nil⟩
  have ok6 := ok_bags_are_right (P := P) (w := w) (base := base) (mg := mg) F6 T
  have c_bags_are_right : Cal P w K mg base _ "bags_are_right" _ [] := ⟨f6, _, ["bags"], [], ok6, PySem.W.mg_of X G a6, k6, b6, .nil⟩
  have ok49 := ok_run (P := P) (w := w) (base := base) (mg := mg) (TB := TBs [(co12, tb12), (co13, tb13)]) F49 T c_bags_are_right c_best_mask m_weight_in m_fill_from
  have c_run : Cal P w K mg base _ "run" _ [] := ⟨f49, _, ["weigher", "numbers"], [], ok49, PySem.W.mg_of X G a49, k49, b49, .nil⟩
  have ok51 := ok_preview_run (P := P) (w := w) (base := base) (mg := mg) (TB := TBs [(co12, tb12), (co13, tb13)]) F51 T m_duplicate c_run
  have c_preview_run : Cal P w K mg base _ "preview_run" _ [] := ⟨f51, _, ["weigher", "numbers"], [], ok51, PySem.W.mg_of X G a51, k51, b51, .nil⟩
  have ok15 := ok_reachable (P := P) (w := w) (base := base) (mg := mg) F15 T c_weights_by_mask
  have c_reachable : Cal P w K mg base _ "reachable" _ [] := ⟨f15, _, ["weigher"], [], ok15, PySem.W.mg_of X G a15, k15, b15, .nil⟩
  have ok52 := ok_reachable_weights (P := P) (w := w) (base := base) (mg := mg) (TB := TBs [(co12, tb12), (co13, tb13)]) F52 T c_reachable
  have c_reachable_weights : Cal P w K mg base _ "reachable_weights" _ [] := ⟨f52, _, ["weigher", "numbers"], [], ok52, PySem.W.mg_of X G a52, k52, b52, .nil⟩
  have ok3 := ok_max_age_is_right (P := P) (w := w) (base := base) (mg := mg) F3 T
  have c_max_age_is_right : Cal P w K mg base _ "max_age_is_right" _ [] := ⟨f3, _, ["max_age"], [], ok3, PySem.W.mg_of X G a3, k3, b3, .nil⟩
  have ok37 := ok_set_max_age (P := P) (w := w) (base := base) (mg := mg) (TB := TBs [(co12, tb12), (co13, tb13)]) F37 T c_max_age_is_right
  have c_set_max_age : Cal P w K mg base _ "set_max_age" _ [] := ⟨f37, _, ["weigher", "numbers"], [], ok37, PySem.W.mg_of X G a37, k37, b37, .nil⟩
  have ok36 := ok_set_target (P := P) (w := w) (base := base) (mg := mg) (TB := TBs [(co12, tb12), (co13, tb13)]) F36 T c_target_is_right
  have c_set_target : Cal P w K mg base _ "set_target" _ [] := ⟨f36, _, ["weigher", "numbers"], [], ok36, PySem.W.mg_of X G a36, k36, b36, .nil⟩
  have ok53 := ok_totals (P := P) (w := w) (base := base) (mg := mg) (TB := TBs [(co12, tb12), (co13, tb13)]) F53 T
  have c_totals : Cal P w K mg base _ "totals" _ [] := ⟨f53, _, ["weigher", "numbers"], [], ok53, PySem.W.mg_of X G a53, k53, b53, .nil⟩
  have ok41 := ok_weight_of (P := P) (w := w) (base := base) (mg := mg) (TB := TBs [(co12, tb12), (co13, tb13)]) F41 T m_set_limit m_weight_in
  have c_weight_of : Cal P w K mg base _ "weight_of" _ [] := ⟨f41, _, ["weigher", "numbers"], [], ok41, PySem.W.mg_of X G a41, k41, b41, .nil⟩
  have ok1 := ok_hopper_count_is_right (P := P) (w := w) (base := base) (mg := mg) F1 T
  have c_hopper_count_is_right : Cal P w K mg base _ "hopper_count_is_right" _ [] := ⟨f1, _, ["hopper_count"], [], ok1, PySem.W.mg_of X G a1, k1, b1, .nil⟩
  have ok33 := ok_create (P := P) (w := w) (base := base) (mg := mg) (TB := TBs [(co12, tb12), (co13, tb13)]) F33 T c_hopper_count_is_right c_target_is_right c_max_age_is_right k_Weigher
  have c_create : Cal P w K mg base _ "create" _ [] := ⟨f33, _, ["request", "numbers"], [], ok33, PySem.W.mg_of X G a33, k33, b33, .nil⟩
  have ops : ∀ k : Int, 1 ≤ k → k ≤ 20 → ∃ g j, KDctI K D_OPERATIONS k (.ref g) ∧ j ≤ 7 ∧ CalAt P w K mg base j g (spOp (TBs [(co12, tb12), (co13, tb13)]) CH CW k) := by
    intro k hk1 hk2
    obtain ⟨m, rfl⟩ : ∃ m : Nat, k = (m : Int) := ⟨k.toNat, by omega⟩
    have hm1 : 1 ≤ m := by omega
    have hm2 : m ≤ 20 := by omega
    match m, hm1, hm2 with
    | 0, h, _ => omega
    | 1, _, _ => exact ⟨_, _, tab_get e_OPERATIONS t_OPERATIONS (by simp) (by simp), by decide, ⟨_, _, ok34, k34, b34⟩⟩
    | 2, _, _ => exact ⟨_, _, tab_get e_OPERATIONS t_OPERATIONS (by simp) (by simp), by decide, ⟨_, _, ok35, k35, b35⟩⟩
    | 3, _, _ => exact ⟨_, _, tab_get e_OPERATIONS t_OPERATIONS (by simp) (by simp), by decide, ⟨_, _, ok36, k36, b36⟩⟩
    | 4, _, _ => exact ⟨_, _, tab_get e_OPERATIONS t_OPERATIONS (by simp) (by simp), by decide, ⟨_, _, ok37, k37, b37⟩⟩
    | 5, _, _ => exact ⟨_, _, tab_get e_OPERATIONS t_OPERATIONS (by simp) (by simp), by decide, ⟨_, _, ok38, k38, b38⟩⟩
    | 6, _, _ => exact ⟨_, _, tab_get e_OPERATIONS t_OPERATIONS (by simp) (by simp), by decide, ⟨_, _, ok39, k39, b39⟩⟩
    | 7, _, _ => exact ⟨_, _, tab_get e_OPERATIONS t_OPERATIONS (by simp) (by simp), by decide, ⟨_, _, ok40, k40, b40⟩⟩
    | 8, _, _ => exact ⟨_, _, tab_get e_OPERATIONS t_OPERATIONS (by simp) (by simp), by decide, ⟨_, _, ok41, k41, b41⟩⟩
    | 9, _, _ => exact ⟨_, _, tab_get e_OPERATIONS t_OPERATIONS (by simp) (by simp), by decide, ⟨_, _, ok42, k42, b42⟩⟩
    | 10, _, _ => exact ⟨_, _, tab_get e_OPERATIONS t_OPERATIONS (by simp) (by simp), by decide, ⟨_, _, ok43, k43, b43⟩⟩
    | 11, _, _ => exact ⟨_, _, tab_get e_OPERATIONS t_OPERATIONS (by simp) (by simp), by decide, ⟨_, _, ok45, k45, b45⟩⟩
    | 12, _, _ => exact ⟨_, _, tab_get e_OPERATIONS t_OPERATIONS (by simp) (by simp), by decide, ⟨_, _, ok46, k46, b46⟩⟩
    | 13, _, _ => exact ⟨_, _, tab_get e_OPERATIONS t_OPERATIONS (by simp) (by simp), by decide, ⟨_, _, ok47, k47, b47⟩⟩
    | 14, _, _ => exact ⟨_, _, tab_get e_OPERATIONS t_OPERATIONS (by simp) (by simp), by decide, ⟨_, _, ok48, k48, b48⟩⟩
    | 15, _, _ => exact ⟨_, _, tab_get e_OPERATIONS t_OPERATIONS (by simp) (by simp), by decide, ⟨_, _, (run_op ok49), k49, b49⟩⟩
    | 16, _, _ => exact ⟨_, _, tab_get e_OPERATIONS t_OPERATIONS (by simp) (by simp), by decide, ⟨_, _, ok50, k50, b50⟩⟩
    | 17, _, _ => exact ⟨_, _, tab_get e_OPERATIONS t_OPERATIONS (by simp) (by simp), by decide, ⟨_, _, ok51, k51, b51⟩⟩
    | 18, _, _ => exact ⟨_, _, tab_get e_OPERATIONS t_OPERATIONS (by simp) (by simp), by decide, ⟨_, _, ok52, k52, b52⟩⟩
    | 19, _, _ => exact ⟨_, _, tab_get e_OPERATIONS t_OPERATIONS (by simp) (by simp), by decide, ⟨_, _, ok53, k53, b53⟩⟩
    | 20, _, _ => exact ⟨_, _, tab_get e_OPERATIONS t_OPERATIONS (by simp) (by simp), by decide, ⟨_, _, ok54, k54, b54⟩⟩
    | m + 21, _, h => omega
  have ok55 := ok_answer_call (P := P) (w := w) (base := base) (mg := mg) (TB := TBs [(co12, tb12), (co13, tb13)]) F55 T g_OPERATIONS ops c_create
  have c_answer_call : Cal P w K mg base _ "answer_call" _ [] := ⟨f55, _, ["request", "call_number", "numbers"], [], ok55, PySem.W.mg_of X G a55, k55, b55, .nil⟩
  exact ok_answers F56 T k_Request c_answer_call
end HP
open PySem PySem.W PyProof.Rows
set_option maxRecDepth 100000 in
set_option maxHeartbeats 0 in
theorem PySem.Challenge.cw_hopperset_s01_answers_holds : PySem.Challenge.rw_hopperset_s01_answers.Holds := by
  w_on; k_headS; (case hw => exact ⟨[.list [.int 5, .int 0, .int 0]], by decide +kernel, by decide +kernel⟩)
  k_fillS
  refine HP.walk_row (r := PySem.Challenge.rw_hopperset_s01_answers) (k := 9) (ps := ["calls"]) (sp := fun K ts => HP.spAns (HP.TBs ts) K) (by decide +kernel) rfl ⟨rfl, by decide, by decide⟩ (fun w h Y => PySem.W.kIn_of Y) ?F ?S
  case F =>
    intro w s0 mg mb fa h Y KX G hmg
    refine' HP.all_mk KX G.T hmg ?a_Hopper ?a_Weigher ?a_Request ?a1 ?l1 ?c1 ?k1 ?a2 ?l2 ?c2 ?k2 ?a3 ?l3 ?c3 ?k3 ?a4 ?l4 ?c4 ?k4 ?a5 ?l5 ?c5 ?k5 ?a6 ?l6 ?c6 ?k6 ?a7 ?l7 ?c7 ?k7 ?a8 ?l8 ?c8 ?k8 ?a9 ?l9 ?c9 ?k9 ?a10 ?l10 ?c10 ?k10 ?a11 ?l11 ?c11 ?k11 ?a12 ?l12 ?o12 ?p12 ?n12 ?r12 ?c12 ?k12 ?a13 ?l13 ?o13 ?p13 ?n13 ?r13 ?c13 ?k13 ?a14 ?l14 ?c14 ?k14 ?a15 ?l15 ?c15 ?k15 ?a16 ?i16 ?l16 ?c16 ?k16 ?a17 ?i17 ?l17 ?c17 ?k17 ?a18 ?i18 ?l18 ?c18 ?k18 ?a19 ?i19 ?l19 ?c19 ?k19 ?a20 ?i20 ?l20 ?c20 ?k20 ?a21 ?i21 ?l21 ?c21 ?k21 ?a22 ?i22 ?l22 ?c22 ?k22 ?a23 ?i23 ?l23 ?c23 ?k23 ?a24 ?i24 ?l24 ?c24 ?k24 ?a25 ?i25 ?l25 ?c25 ?k25 ?a26 ?i26 ?l26 ?c26 ?k26 ?a27 ?i27 ?l27 ?c27 ?k27 ?a28 ?i28 ?l28 ?c28 ?k28 ?a29 ?i29 ?l29 ?c29 ?k29 ?a30 ?i30 ?l30 ?c30 ?k30 ?a31 ?i31 ?l31 ?c31 ?k31 ?a32 ?i32 ?l32 ?c32 ?k32 ?a33 ?l33 ?c33 ?k33 ?a34 ?l34 ?c34 ?k34 ?a35 ?l35 ?c35 ?k35 ?a36 ?l36 ?c36 ?k36 ?a37 ?l37 ?c37 ?k37 ?a38 ?l38 ?c38 ?k38 ?a39 ?l39 ?c39 ?k39 ?a40 ?l40 ?c40 ?k40 ?a41 ?l41 ?c41 ?k41 ?a42 ?l42 ?c42 ?k42 ?a43 ?l43 ?c43 ?k43 ?a44 ?l44 ?c44 ?k44 ?a45 ?l45 ?c45 ?k45 ?a46 ?l46 ?c46 ?k46 ?a47 ?l47 ?c47 ?k47 ?a48 ?l48 ?c48 ?k48 ?a49 ?l49 ?c49 ?k49 ?a50 ?l50 ?c50 ?k50 ?a51 ?l51 ?c51 ?k51 ?a52 ?l52 ?c52 ?k52 ?a53 ?l53 ?c53 ?k53 ?a54 ?l54 ?c54 ?k54 ?a55 ?l55 ?c55 ?k55 ?a56 ?l56 ?c56 ?k56 ?pg_Hopper ?hd_Hopper ?po_Hopper ?sa_Hopper ?mk_Hopper ?kc_Hopper ?n_Hopper_weight ?n_Hopper_age ?pg_Weigher ?hd_Weigher ?po_Weigher ?sa_Weigher ?mk_Weigher ?kc_Weigher ?n_Weigher_hoppers ?n_Weigher_target ?n_Weigher_max_age ?n_Weigher_queue ?n_Weigher_received ?n_Weigher_packed ?n_Weigher_bag_count ?pg_Request ?hd_Request ?po_Request ?sa_Request ?mk_Request ?kc_Request ?n_Request_weigher ?z_all ?z_len ?z_range ?z_sum ?z_enumerate ?z_min ?z_sorted ?z_list ?z_max ?g_NO_WEIGHER ?g_NO_HOPPER ?g_OUTSIDE_LIMITS ?g_QUEUE_FULL ?g_NO_FILLING_SET ?g_HOPPER_EMPTY ?g_MOST_HOPPERS ?g_MOST_TARGET ?g_MOST_AGE ?g_MOST_WEIGHT ?g_MOST_BAGS ?g_MOST_QUEUED ?g_MOST_EXCESS_TOLD ?g_CREATE ?d_OPERATIONS ?e_OPERATIONS ?t_OPERATIONS ?ne_Hopper_Weigher ?ne_Hopper_Request ?ne_Weigher_Request ?nt_12_13
    (case a_Hopper => k_is)
    (case a_Weigher => k_is)
    (case a_Request => k_is)
    (case a1 => k_is)
    (case l1 => k_is)
    (case c1 => k_is)
    (case k1 => k_is)
    (case a2 => k_is)
    (case l2 => k_is)
    (case c2 => k_is)
    (case k2 => k_is)
    (case a3 => k_is)
    (case l3 => k_is)
    (case c3 => k_is)
    (case k3 => k_is)
    (case a4 => k_is)
    (case l4 => k_is)
    (case c4 => k_is)
    (case k4 => k_is)
    (case a5 => k_is)
    (case l5 => k_is)
    (case c5 => k_is)
    (case k5 => k_is)
    (case a6 => k_is)
    (case l6 => k_is)
    (case c6 => k_is)
    (case k6 => k_is)
    (case a7 => k_is)
    (case l7 => k_is)
    (case c7 => k_is)
    (case k7 => k_is)
    (case a8 => k_is)
    (case l8 => k_is)
    (case c8 => k_is)
    (case k8 => k_is)
    (case a9 => k_is)
    (case l9 => k_is)
    (case c9 => k_is)
    (case k9 => k_is)
    (case a10 => k_is)
    (case l10 => k_is)
    (case c10 => k_is)
    (case k10 => k_is)
    (case a11 => k_is)
    (case l11 => k_is)
    (case c11 => k_is)
    (case k11 => k_is)
    (case a12 => k_is)
    (case l12 => k_is)
    (case o12 => k_is)
    (case p12 => rfl)
    (case n12 => kernel_rfl)
    (case r12 => exact rfl)
    (case c12 => k_is)
    (case k12 => k_is)
    (case a13 => k_is)
    (case l13 => k_is)
    (case o13 => k_is)
    (case p13 => rfl)
    (case n13 => kernel_rfl)
    (case r13 => exact rfl)
    (case c13 => k_is)
    (case k13 => k_is)
    (case a14 => k_is)
    (case l14 => k_is)
    (case c14 => k_is)
    (case k14 => k_is)
    (case a15 => k_is)
    (case l15 => k_is)
    (case c15 => k_is)
    (case k15 => k_is)
    (case a16 => k_is)
    (case i16 => k_is)
    (case l16 => k_is)
    (case c16 => k_is)
    (case k16 => k_is)
    (case a17 => k_is)
    (case i17 => k_is)
    (case l17 => k_is)
    (case c17 => k_is)
    (case k17 => k_is)
    (case a18 => k_is)
    (case i18 => k_is)
    (case l18 => k_is)
    (case c18 => k_is)
    (case k18 => k_is)
    (case a19 => k_is)
    (case i19 => k_is)
    (case l19 => k_is)
    (case c19 => k_is)
    (case k19 => k_is)
    (case a20 => k_is)
    (case i20 => k_is)
    (case l20 => k_is)
    (case c20 => k_is)
    (case k20 => k_is)
    (case a21 => k_is)
    (case i21 => k_is)
    (case l21 => k_is)
    (case c21 => k_is)
    (case k21 => k_is)
    (case a22 => k_is)
    (case i22 => k_is)
    (case l22 => k_is)
    (case c22 => k_is)
    (case k22 => k_is)
    (case a23 => k_is)
    (case i23 => k_is)
    (case l23 => k_is)
    (case c23 => k_is)
    (case k23 => k_is)
    (case a24 => k_is)
    (case i24 => k_is)
    (case l24 => k_is)
    (case c24 => k_is)
    (case k24 => k_is)
    (case a25 => k_is)
    (case i25 => k_is)
    (case l25 => k_is)
    (case c25 => k_is)
    (case k25 => k_is)
    (case a26 => k_is)
    (case i26 => k_is)
    (case l26 => k_is)
    (case c26 => k_is)
    (case k26 => k_is)
    (case a27 => k_is)
    (case i27 => k_is)
    (case l27 => k_is)
    (case c27 => k_is)
    (case k27 => k_is)
    (case a28 => k_is)
    (case i28 => k_is)
    (case l28 => k_is)
    (case c28 => k_is)
    (case k28 => k_is)
    (case a29 => k_is)
    (case i29 => k_is)
    (case l29 => k_is)
    (case c29 => k_is)
    (case k29 => k_is)
    (case a30 => k_is)
    (case i30 => k_is)
    (case l30 => k_is)
    (case c30 => k_is)
    (case k30 => k_is)
    (case a31 => k_is)
    (case i31 => k_is)
    (case l31 => k_is)
    (case c31 => k_is)
    (case k31 => k_is)
    (case a32 => k_is)
    (case i32 => k_is)
    (case l32 => k_is)
    (case c32 => k_is)
    (case k32 => k_is)
    (case a33 => k_is)
    (case l33 => k_is)
    (case c33 => k_is)
    (case k33 => k_is)
    (case a34 => k_is)
    (case l34 => k_is)
    (case c34 => k_is)
    (case k34 => k_is)
    (case a35 => k_is)
    (case l35 => k_is)
    (case c35 => k_is)
    (case k35 => k_is)
    (case a36 => k_is)
    (case l36 => k_is)
    (case c36 => k_is)
    (case k36 => k_is)
    (case a37 => k_is)
    (case l37 => k_is)
    (case c37 => k_is)
    (case k37 => k_is)
    (case a38 => k_is)
    (case l38 => k_is)
    (case c38 => k_is)
    (case k38 => k_is)
    (case a39 => k_is)
    (case l39 => k_is)
    (case c39 => k_is)
    (case k39 => k_is)
    (case a40 => k_is)
    (case l40 => k_is)
    (case c40 => k_is)
    (case k40 => k_is)
    (case a41 => k_is)
    (case l41 => k_is)
    (case c41 => k_is)
    (case k41 => k_is)
    (case a42 => k_is)
    (case l42 => k_is)
    (case c42 => k_is)
    (case k42 => k_is)
    (case a43 => k_is)
    (case l43 => k_is)
    (case c43 => k_is)
    (case k43 => k_is)
    (case a44 => k_is)
    (case l44 => k_is)
    (case c44 => k_is)
    (case k44 => k_is)
    (case a45 => k_is)
    (case l45 => k_is)
    (case c45 => k_is)
    (case k45 => k_is)
    (case a46 => k_is)
    (case l46 => k_is)
    (case c46 => k_is)
    (case k46 => k_is)
    (case a47 => k_is)
    (case l47 => k_is)
    (case c47 => k_is)
    (case k47 => k_is)
    (case a48 => k_is)
    (case l48 => k_is)
    (case c48 => k_is)
    (case k48 => k_is)
    (case a49 => k_is)
    (case l49 => k_is)
    (case c49 => k_is)
    (case k49 => k_is)
    (case a50 => k_is)
    (case l50 => k_is)
    (case c50 => k_is)
    (case k50 => k_is)
    (case a51 => k_is)
    (case l51 => k_is)
    (case c51 => k_is)
    (case k51 => k_is)
    (case a52 => k_is)
    (case l52 => k_is)
    (case c52 => k_is)
    (case k52 => k_is)
    (case a53 => k_is)
    (case l53 => k_is)
    (case c53 => k_is)
    (case k53 => k_is)
    (case a54 => k_is)
    (case l54 => k_is)
    (case c54 => k_is)
    (case k54 => k_is)
    (case a55 => k_is)
    (case l55 => k_is)
    (case c55 => k_is)
    (case k55 => k_is)
    (case a56 => k_is)
    (case l56 => k_is)
    (case c56 => k_is)
    (case k56 => k_is)
    (case pg_Hopper => k_is)
    (case hd_Hopper => k_is)
    (case po_Hopper => k_is)
    (case sa_Hopper => k_is)
    (case mk_Hopper => k_is)
    (case kc_Hopper => k_is)
    (case n_Hopper_weight => k_is)
    (case n_Hopper_age => k_is)
    (case pg_Weigher => k_is)
    (case hd_Weigher => k_is)
    (case po_Weigher => k_is)
    (case sa_Weigher => k_is)
    (case mk_Weigher => k_is)
    (case kc_Weigher => k_is)
    (case n_Weigher_hoppers => k_is)
    (case n_Weigher_target => k_is)
    (case n_Weigher_max_age => k_is)
    (case n_Weigher_queue => k_is)
    (case n_Weigher_received => k_is)
    (case n_Weigher_packed => k_is)
    (case n_Weigher_bag_count => k_is)
    (case pg_Request => k_is)
    (case hd_Request => k_is)
    (case po_Request => k_is)
    (case sa_Request => k_is)
    (case mk_Request => k_is)
    (case kc_Request => k_is)
    (case n_Request_weigher => k_is)
    (case z_all => k_is)
    (case z_len => k_is)
    (case z_range => k_is)
    (case z_sum => k_is)
    (case z_enumerate => k_is)
    (case z_min => k_is)
    (case z_sorted => k_is)
    (case z_list => k_is)
    (case z_max => k_is)
    (case g_NO_WEIGHER => k_is)
    (case g_NO_HOPPER => k_is)
    (case g_OUTSIDE_LIMITS => k_is)
    (case g_QUEUE_FULL => k_is)
    (case g_NO_FILLING_SET => k_is)
    (case g_HOPPER_EMPTY => k_is)
    (case g_MOST_HOPPERS => k_is)
    (case g_MOST_TARGET => k_is)
    (case g_MOST_AGE => k_is)
    (case g_MOST_WEIGHT => k_is)
    (case g_MOST_BAGS => k_is)
    (case g_MOST_QUEUED => k_is)
    (case g_MOST_EXCESS_TOLD => k_is)
    (case g_CREATE => k_is)
    (case d_OPERATIONS => k_is)
    (case e_OPERATIONS => k_is)
    (case t_OPERATIONS => decide +kernel)
    (case ne_Hopper_Weigher => decide)
    (case ne_Hopper_Request => decide)
    (case ne_Weigher_Request => decide)
    (case nt_12_13 => decide)
  case S =>
    intro K ts H0 H xs a hwi hask hs ht hx
    cases hx with
    | cons h1 h2 =>
      cases h2
      cases h1 with
      | lst hq ha =>
        have e := L2.ints_dw a.1 _ ha
        subst e
        exact ⟨_, a.1, rfl, hs.seq hq, HP.tabs_start ht, hask, fun H' p hp => .lst (L2.SqL.of hp) (L2.dw_ints _)⟩
