import PyProof.Rows.All
import Wide.All
import OpenK.AllK
import Wide.FinOn
import Open.SpecLaws
import KE.OsHead
import KE.OsGo
import HandS.Base
import HandS.Call
import HandS.List
import HandS.Comp
import HandS.Iter
import HandS.Walk
import HandS.Ends
import HandS.Spec
import HandS.Words
import HandS.WordsList
import HandS.WideBits
import HandS.CallLocal
import PySem.Challenge.RW_viewtables_s01_answers
import KE.DataMinMax
import KE.DataMinKey
import HandS.SortKw
import KE.DataCmp
import PyProof.ListRange
set_option maxRecDepth 100000
set_option linter.all false
/-! Pure mathematics for the tables: bits, rows, fractions, margins, the reading of a list of calls. Core Lean and the specification's modules alone. -/
namespace VT
open Kp351 Kp340

/-! ### sets of questions as numbers below 32 -/
abbrev bits (s : Nat) : List Nat := setOf 5 s
def rowM (x : Nat) (qs : List Nat) : Nat := qs.zipIdx.foldl (fun (a : Nat) (q : Nat × Nat) => a ||| ((x / 2 ^ q.1 % 2) * 2 ^ q.2)) 0
def worldM (c : Nat) (qs : List Nat) : Nat := qs.zipIdx.foldl (fun (a : Nat) (q : Nat × Nat) => a ||| ((c / 2 ^ q.2 % 2) * 2 ^ q.1)) 0

theorem row_is : ∀ x, x < 32 → ∀ s, s < 32 → rowM x (bits s) = rowOf x (bits s) := by decide +kernel
theorem row_lt : ∀ x, x < 32 → ∀ s, s < 32 → rowM x (bits s) < 2 ^ (bits s).length := by decide +kernel
theorem world_lt : ∀ c, c < 32 → ∀ s, s < 32 → worldM c (bits s) < 32 := by decide +kernel
def partQ (vqs : List Nat) (c : Nat) (qs : List Nat) : Nat := qs.zipIdx.foldl (fun (a : Nat) (q : Nat × Nat) => if c.testBit (vqs.findIdx fun y => y == q.1) then a + 2 ^ q.2 else a) 0
theorem partQ_is (v : View) (c : Nat) (qs : List Nat) : partRow v c qs = partQ v.qs c qs := rfl
theorem part_is : ∀ s, s < 32 → ∀ u, u < 32 → u &&& s = u → ∀ c, c < 2 ^ (bits s).length → rowM (worldM c (bits s)) (bits u) = partQ (bits s) c (bits u) := by decide +kernel
theorem num_bits : ∀ s, s < 32 → numOf (bits s) = s := by decide +kernel
theorem len_bits_le : ∀ s, s < 32 → (bits s).length ≤ 5 := by decide +kernel
theorem bits_lt : ∀ s, s < 32 → ∀ q, q ∈ bits s → q < 5 := fun s _ q h => List.mem_range.mp (List.mem_filter.mp h).1
theorem setOf_bits : ∀ n, n < 6 → ∀ s, s < 2 ^ n → setOf n s = bits s := by decide +kernel
theorem and_bits : ∀ s, s < 32 → ∀ u, u < 32 → (bits s).filter (fun q => (bits u).contains q) = bits (s &&& u) := by decide +kernel
theorem sub_any : ∀ n, n < 6 → ∀ u, u < 2 ^ n → ∀ s, s < 2 ^ n → ((setOf n u).any fun q => !(bits s).contains q) = !decide (u &&& s = u) := by decide +kernel

theorem and_ne_of_ge {n u s : Nat} (hs : s < 2 ^ n) (hu : 2 ^ n ≤ u) : ¬ u &&& s = u := by
  intro e
  have := Nat.and_le_right (n := u) (m := s)
  omega

/-! ### fractions -/
theorem fr_pos (a b : Nat) (hb : 0 < b) : fr (a : Int) (b : Int) = (((a / Nat.gcd a b : Nat) : Int), ((b / Nat.gcd a b : Nat) : Int)) := by
  have hg : Nat.gcd a b ≠ 0 := fun h => by
    have := Nat.gcd_pos_of_pos_right a hb
    omega
  have hn : ¬ ((b : Int) < 0) := by omega
  unfold fr
  simp only [Int.natAbs_natCast, hg, if_false, hn]
  rw [Int.natCast_ediv, Int.natCast_ediv]
theorem fr_zero (b : Nat) (hb : 0 < b) : fr (0 : Nat) (b : Int) = (0, 1) := by
  rw [fr_pos 0 b hb, Nat.gcd_zero_left, Nat.zero_div, Nat.div_self hb]
  rfl
/-- a fraction does not change when both parts are multiplied -/
theorem fr_mul (a b k : Nat) (hb : 0 < b) (hk : 0 < k) : fr ((a * k : Nat) : Int) ((b * k : Nat) : Int) = fr (a : Int) (b : Int) := by
  rw [fr_pos _ _ (Nat.mul_pos hb hk), fr_pos a b hb, Nat.gcd_mul_right, Nat.mul_div_mul_right _ _ hk, Nat.mul_div_mul_right _ _ hk]
theorem add_fr (a b t : Nat) (ht : 0 < t) : add (fr (a : Int) (t : Int)) (fr (b : Int) (t : Int)) = fr ((a + b : Nat) : Int) (t : Int) := by
  have e1 := fr_pos a t ht
  have e2 := fr_pos b t ht
  have ga := Nat.gcd_pos_of_pos_right a ht
  have gb := Nat.gcd_pos_of_pos_right b ht
  generalize hg1 : Nat.gcd a t = g1 at e1 ga
  generalize hg2 : Nat.gcd b t = g2 at e2 gb
  have da : g1 ∣ a := hg1 ▸ Nat.gcd_dvd_left a t
  have dt1 : g1 ∣ t := hg1 ▸ Nat.gcd_dvd_right a t
  have db : g2 ∣ b := hg2 ▸ Nat.gcd_dvd_left b t
  have dt2 : g2 ∣ t := hg2 ▸ Nat.gcd_dvd_right b t
  obtain ⟨a', rfl⟩ := da
  obtain ⟨b', rfl⟩ := db
  obtain ⟨t1, ht1⟩ := dt1
  obtain ⟨t2, ht2⟩ := dt2
  have q1 : g1 * a' / g1 = a' := Nat.mul_div_cancel_left _ ga
  have q2 : g2 * b' / g2 = b' := Nat.mul_div_cancel_left _ gb
  have q3 : t / g1 = t1 := by rw [ht1]; exact Nat.mul_div_cancel_left _ ga
  have q4 : t / g2 = t2 := by rw [ht2]; exact Nat.mul_div_cancel_left _ gb
  rw [q1, q3] at e1
  rw [q2, q4] at e2
  rw [e1, e2]
  have p1 : 0 < t1 := Nat.pos_of_ne_zero fun h => by subst h; simp at ht1; omega
  have p2 : 0 < t2 := Nat.pos_of_ne_zero fun h => by subst h; simp at ht2; omega
  show fr ((a' : Int) * (t2 : Int) + (b' : Int) * (t1 : Int)) ((t1 : Int) * (t2 : Int)) = _
  have c1 : (a' : Int) * (t2 : Int) + (b' : Int) * (t1 : Int) = ((a' * t2 + b' * t1 : Nat) : Int) := by simp
  have c2 : (t1 : Int) * (t2 : Int) = ((t1 * t2 : Nat) : Int) := by simp
  rw [c1, c2, ← fr_mul (a' * t2 + b' * t1) (t1 * t2) (g1 * g2) (Nat.mul_pos p1 p2) (Nat.mul_pos ga gb), ← fr_mul (g1 * a' + g2 * b') t t ht ht]
  have h1 : (a' * t2 + b' * t1) * (g1 * g2) = (g1 * a' + g2 * b') * t := by
    have x1 : a' * t2 * (g1 * g2) = (g1 * a') * (g2 * t2) := by
      simp only [Nat.mul_comm, Nat.mul_left_comm, Nat.mul_assoc]
    have x2 : b' * t1 * (g1 * g2) = (g2 * b') * (g1 * t1) := by
      simp only [Nat.mul_comm, Nat.mul_left_comm, Nat.mul_assoc]
    rw [Nat.add_mul, x1, x2, ← ht1, ← ht2, Nat.add_mul]
  have h2 : t1 * t2 * (g1 * g2) = t * t := by
    have x : t1 * t2 * (g1 * g2) = (g1 * t1) * (g2 * t2) := by
      simp only [Nat.mul_comm, Nat.mul_left_comm, Nat.mul_assoc]
    rw [x, ← ht1, ← ht2]
  rw [h1, h2]
theorem foldl_add_fr (t : Nat) (ht : 0 < t) (f : Nat → Nat) : ∀ (l : List Nat) (a : Nat), (l.map fun c => fr (f c : Nat) (t : Int)).foldl add (fr (a : Nat) (t : Int)) = fr ((a + (l.map f).sum : Nat) : Int) (t : Int)
  | [], a => by simp
  | c :: l, a => by
    rw [List.map_cons, List.foldl_cons, add_fr _ _ _ ht, foldl_add_fr t ht f l (a + f c), List.map_cons, List.sum_cons, Nat.add_assoc]
theorem sumF_fr (t : Nat) (ht : 0 < t) (f : Nat → Nat) (l : List Nat) : sumF (l.map fun c => fr (f c : Nat) (t : Int)) = fr (((l.map f).sum : Nat) : Int) (t : Int) := by
  unfold sumF
  rw [← fr_zero t ht, foldl_add_fr t ht f l 0, Nat.zero_add]
theorem total_sum (l : List Nat) : total l = l.sum := by
  have h : ∀ (l : List Nat) (a : Nat), l.foldl (fun (a b : Nat) => a + b) a = a + l.sum := by
    intro l
    induction l with
    | nil => intro a; rfl
    | cons x l ih => intro a; rw [List.foldl_cons, ih, List.sum_cons]; omega
  unfold total
  rw [h, Nat.zero_add]

/-! ### margins -/
/-- how often row r was seen, over the first i rows of the table -/
def seenAt (pr : Nat → Nat) (tab : List Nat) (i r : Nat) : Nat := (((List.range i).filter fun c => pr c == r).map fun c => tab.getD c 0).sum
theorem seenAt_succ (pr : Nat → Nat) (tab : List Nat) (i r : Nat) : seenAt pr tab (i + 1) r = if pr i = r then seenAt pr tab i r + tab.getD i 0 else seenAt pr tab i r := by
  unfold seenAt
  rw [List.range_succ, List.filter_append, List.map_append, List.sum_append]
  by_cases h : pr i = r
  · rw [if_pos h, List.filter_cons, if_pos (by simp [h])]
    simp
  · rw [if_neg h, List.filter_cons, if_neg (by simp [h])]
    simp
def seenL (pr : Nat → Nat) (tab : List Nat) (k i : Nat) : List Nat := (List.range k).map (seenAt pr tab i)
theorem seenL_zero (pr : Nat → Nat) (tab : List Nat) (k : Nat) : seenL pr tab k 0 = List.replicate k 0 := by
  unfold seenL
  apply List.ext_getElem?
  intro i
  by_cases h : i < k
  · simp [h, seenAt]
  · simp [h]
theorem map_range_set {α : Type} (f : Nat → α) (k j : Nat) (v : α) : ((List.range k).map f).set j v = (List.range k).map fun r => if r = j then v else f r := by
  apply List.ext_getElem?
  intro i
  rw [List.getElem?_set]
  by_cases h : j = i
  · subst h
    by_cases hk : j < k
    · simp [hk]
    · simp [hk]
  · rw [if_neg h]
    by_cases hk : i < k
    · simp [hk, Ne.symm h]
    · simp [hk]
theorem seenL_succ (pr : Nat → Nat) (tab : List Nat) (k i : Nat) : seenL pr tab k (i + 1) = (seenL pr tab k i).set (pr i) (seenAt pr tab i (pr i) + tab.getD i 0) := by
  unfold seenL
  rw [map_range_set]
  apply List.map_congr_left
  intro r _
  rw [seenAt_succ]
  by_cases h : r = pr i
  · subst h
    simp
  · rw [if_neg h, if_neg (Ne.symm h)]
theorem seenL_get (pr : Nat → Nat) (tab : List Nat) (k i j : Nat) (hj : j < k) : (seenL pr tab k i)[j]? = some (seenAt pr tab i j) := by
  unfold seenL
  simp [hj]
theorem seenL_len (pr : Nat → Nat) (tab : List Nat) (k i : Nat) : (seenL pr tab k i).length = k := by
  unfold seenL
  simp
theorem margin_is (v : View) (qs : List Nat) (ht : 0 < total v.table) : margin v qs = (seenL (fun c => partQ v.qs c qs) v.table (2 ^ qs.length) (2 ^ v.qs.length)).map fun k => fr (k : Nat) (total v.table : Int) := by
  unfold margin seenL rows
  rw [List.map_map]
  apply List.map_congr_left
  intro r _
  rw [Function.comp_apply]
  have e : share v = fun c => fr ((v.table.getD c 0 : Nat) : Int) (total v.table : Int) := rfl
  rw [e, sumF_fr _ ht]
  rfl
end VT
namespace VT
open Kp351 Kp340
/-- a view as the program holds it: its questions as a number, its table -/
structure VOk (s : Nat) (tab : List Nat) : Prop where
  lt : s < 32
  lo : 1 ≤ (bits s).length
  hi : (bits s).length ≤ 3
  len : tab.length = 2 ^ (bits s).length
  le : ∀ x ∈ tab, x ≤ 100
  pos : 0 < total tab
theorem sum_le : ∀ (l : List Nat), (∀ x ∈ l, x ≤ 100) → l.sum ≤ 100 * l.length
  | [], _ => Nat.le_refl _
  | x :: l, h => by
    rw [List.sum_cons, List.length_cons]
    have h1 := h x (List.mem_cons_self ..)
    have h2 := sum_le l fun y hy => h y (List.mem_cons_of_mem _ hy)
    omega
theorem le_sum : ∀ {l : List Nat} {x : Nat}, x ∈ l → x ≤ l.sum
  | y :: l, x, h => by
    rw [List.sum_cons]
    rcases List.mem_cons.mp h with h | h
    · omega
    · have := le_sum h
      omega
theorem VOk.len8 {s : Nat} {tab : List Nat} (v : VOk s tab) : tab.length ≤ 8 := by
  rw [v.len]
  exact Nat.pow_le_pow_right (by decide) v.hi
theorem VOk.total_le {s : Nat} {tab : List Nat} (v : VOk s tab) : total tab ≤ 800 := by
  rw [total_sum]
  have h1 := sum_le tab v.le
  have h2 := v.len8
  omega
end VT
namespace VT
open Kp351
open Kp340 (Fr fr)
/-! ### the calls, over what the program holds: how many questions (0: not begun), the views -/
def vw (v : Nat × List Nat) : Kp351.View := ⟨bits v.1, v.2⟩
def desk (n : Nat) (ws : List (Nat × List Nat)) : Desk := ⟨n, ws.map vw⟩
structure DOk (n : Nat) (ws : List (Nat × List Nat)) : Prop where
  lo : 2 ≤ n
  hi : n ≤ 5
  len : ws.length ≤ 6
  each : ∀ v ∈ ws, VOk v.1 v.2 ∧ v.1 < 2 ^ n
def stOf (n : Nat) (ws : List (Nat × List Nat)) : State := if n = 0 then none else some (desk n ws)
def WOk (n : Nat) (ws : List (Nat × List Nat)) : Prop := (n = 0 ∧ ws = []) ∨ DOk n ws
def ansOf (y : Ans) : List Int := y.num :: y.nums
theorem stOf_ok {n : Nat} {ws : List (Nat × List Nat)} (h : DOk n ws) : stOf n ws = some (desk n ws) := if_neg (by have := h.lo; omega)
theorem view_at {n : Nat} {ws : List (Nat × List Nat)} {i : Nat} {v : Nat × List Nat} (h : ws[i]? = some v) : viewAt (desk n ws) i = vw v := by
  unfold viewAt desk
  rw [List.getD_eq_getElem?_getD, List.getElem?_map, h]
  rfl
theorem is_view {n : Nat} {ws : List (Nat × List Nat)} {i : Nat} : isView (desk n ws) i = decide (i < ws.length) := by
  unfold isView desk
  rw [List.length_map]
theorem is_view_yes {n : Nat} {ws : List (Nat × List Nat)} {i : Nat} {v : Nat × List Nat} (h : ws[i]? = some v) : isView (desk n ws) i = true := by
  rw [is_view]
  exact decide_eq_true (List.getElem?_eq_some_iff.mp h).1
theorem is_view_no {n : Nat} {ws : List (Nat × List Nat)} {i : Nat} (h : ¬ i < ws.length) : isView (desk n ws) i = false := by
  rw [is_view]
  exact decide_eq_false h
theorem is_row {n : Nat} {ws : List (Nat × List Nat)} {i c : Nat} {v : Nat × List Nat} (h : ws[i]? = some v) (ok : VOk v.1 v.2) : isRowOf (desk n ws) i c = decide (c < v.2.length) := by
  unfold isRowOf
  rw [view_at h, ok.len]
  rfl
theorem get_of_lt {α : Type} {l : List α} {i : Nat} (h : i < l.length) : ∃ v, l[i]? = some v := ⟨_, List.getElem?_eq_getElem h⟩
section
variable {n : Nat} {ws : List (Nat × List Nat)}
/-! begin -/
theorem st_begin_no {st : State} {k : Nat} (h : k < 2 ∨ 5 < k) : step st (.begin_ k) = (st, say (-22)) := if_pos h
theorem st_begin_yes {st : State} {k : Nat} (h : ¬ (k < 2 ∨ 5 < k)) : step st (.begin_ k) = (some ⟨k, []⟩, say 0) := if_neg h
/-! view -/
def okV (n s : Nat) : Bool := decide (s < 2 ^ n) && (decide (1 ≤ (bits s).length) && decide ((bits s).length ≤ 3))
theorem okV_is (hn : n ≤ 5) (s : Nat) : okView (desk n ws) s = okV n s := by
  unfold okView okV
  show (decide (s < 2 ^ n) && decide (1 ≤ (setOf n s).length) && decide ((setOf n s).length ≤ 3)) = _
  by_cases h : s < 2 ^ n
  · rw [setOf_bits n (by omega) s h, Bool.and_assoc]
  · rw [decide_eq_false h]
    rfl
theorem any_is (h : ∀ v ∈ ws, VOk v.1 v.2 ∧ v.1 < 2 ^ n) (s : Nat) : (desk n ws).views.any (fun v => numOf v.qs == s) = ws.any (fun v => v.1 == s) := by
  unfold desk
  rw [List.any_map]
  induction ws with
  | nil => rfl
  | cons v r ih =>
    rw [List.any_cons, List.any_cons, ih fun x hx => h x (List.mem_cons_of_mem _ hx)]
    have e : numOf (vw v).qs = v.1 := num_bits v.1 (h v (List.mem_cons_self ..)).1.lt
    rw [Function.comp_apply, e]
theorem st_view_22 (hn : n ≤ 5) {s : Nat} (h : okV n s = false) : step (some (desk n ws)) (.view s) = (some (desk n ws), say (-22)) := by
  rw [← okV_is (ws := ws) hn s] at h
  exact if_pos h
theorem st_view_17 (d : DOk n ws) {s : Nat} (h : okV n s = true) (h2 : ws.any (fun v => v.1 == s) = true) : step (some (desk n ws)) (.view s) = (some (desk n ws), say (-17)) := by
  have h' := h
  rw [← okV_is (ws := ws) d.hi s] at h'
  rw [← any_is d.each s] at h2
  show (if okView (desk n ws) s = false then _ else if (desk n ws).views.any (fun v => numOf v.qs == s) = true then _ else _) = _
  rw [if_neg (by rw [h']; decide), if_pos h2]
theorem st_view_28 (d : DOk n ws) {s : Nat} (h : okV n s = true) (h2 : ws.any (fun v => v.1 == s) = false) (h3 : 6 ≤ ws.length) : step (some (desk n ws)) (.view s) = (some (desk n ws), say (-28)) := by
  have h' := h
  rw [← okV_is (ws := ws) d.hi s] at h'
  rw [← any_is d.each s] at h2
  have h4 : VIEWS ≤ (desk n ws).views.length := by unfold desk VIEWS; rw [List.length_map]; exact h3
  show (if okView (desk n ws) s = false then _ else if (desk n ws).views.any (fun v => numOf v.qs == s) = true then _ else if VIEWS ≤ (desk n ws).views.length then _ else _) = _
  rw [if_neg (by rw [h']; decide), if_neg (by rw [h2]; decide), if_pos h4]
theorem okV_lt {s : Nat} (h : okV n s = true) : s < 2 ^ n ∧ 1 ≤ (bits s).length ∧ (bits s).length ≤ 3 := by
  unfold okV at h
  rw [Bool.and_eq_true, Bool.and_eq_true] at h
  exact ⟨of_decide_eq_true h.1, of_decide_eq_true h.2.1, of_decide_eq_true h.2.2⟩
def newV (s : Nat) : Nat × List Nat := (s, List.replicate (2 ^ (bits s).length) 1)
theorem st_view_ok (d : DOk n ws) {s : Nat} (h : okV n s = true) (h2 : ws.any (fun v => v.1 == s) = false) (h3 : ¬ 6 ≤ ws.length) : step (some (desk n ws)) (.view s) = (some (desk n (ws ++ [newV s])), say (ws.length : Nat)) := by
  have h' := h
  rw [← okV_is (ws := ws) d.hi s] at h'
  rw [← any_is d.each s] at h2
  have h4 : ¬ VIEWS ≤ (desk n ws).views.length := by unfold desk VIEWS; rw [List.length_map]; exact h3
  show (if okView (desk n ws) s = false then _ else if (desk n ws).views.any (fun v => numOf v.qs == s) = true then _ else if VIEWS ≤ (desk n ws).views.length then _ else (_, say ((desk n ws).views.length : Nat))) = _
  rw [if_neg (by rw [h']; decide), if_neg (by rw [h2]; decide), if_neg h4]
  have hb : setOf n s = bits s := setOf_bits n (by have := d.hi; omega) s (okV_lt h).1
  show (some (⟨n, ws.map vw ++ [⟨setOf n s, List.replicate (2 ^ (setOf n s).length) 1⟩]⟩ : Desk), say ((ws.map vw).length : Nat)) = _
  rw [hb, List.length_map]
  unfold desk newV
  rw [List.map_append]
  rfl
theorem new_ok (d : DOk n ws) {s : Nat} (h : okV n s = true) (h3 : ¬ 6 ≤ ws.length) : DOk n (ws ++ [newV s]) := by
  obtain ⟨h1, h2, h4⟩ := okV_lt h
  refine ⟨d.lo, d.hi, by rw [List.length_append]; show ws.length + 1 ≤ 6; omega, fun v hv => ?_⟩
  rcases List.mem_append.mp hv with hv | hv
  · exact d.each v hv
  · rw [List.mem_singleton.mp hv]
    have h5 : 2 ^ n ≤ 32 := Nat.pow_le_pow_right (by decide) d.hi
    refine ⟨⟨by show s < 32; omega, h2, h4, by show (List.replicate _ 1).length = _; rw [List.length_replicate]; rfl, fun x hx => ?_, ?_⟩, h1⟩
    · rw [(List.mem_replicate.mp hx).2]
      decide
    · show 0 < total (List.replicate _ 1)
      rw [total_sum]
      refine Nat.lt_of_lt_of_le Nat.zero_lt_one (le_sum (List.mem_replicate.mpr ⟨?_, rfl⟩))
      exact Nat.ne_of_gt (Nat.two_pow_pos _)
/-! unview -/
theorem take_drop {α : Type} (l : List α) (i : Nat) : l.take i ++ l.drop (i + 1) = l.eraseIdx i := (List.eraseIdx_eq_take_drop_succ l i).symm
theorem map_erase : ∀ (l : List (Nat × List Nat)) (i : Nat), (l.map vw).eraseIdx i = (l.eraseIdx i).map vw
  | [], _ => rfl
  | _ :: _, 0 => rfl
  | x :: l, i + 1 => congrArg (fun z => vw x :: z) (map_erase l i)
theorem st_unview_2 {i : Nat} (h : ¬ i < ws.length) : step (some (desk n ws)) (.unview i) = (some (desk n ws), say (-2)) := if_pos (is_view_no h)
theorem st_unview {i : Nat} (h : i < ws.length) : step (some (desk n ws)) (.unview i) = (some (desk n (ws.eraseIdx i)), say (ws.length - 1 : Nat)) := by
  show (if isView (desk n ws) i = false then _ else (some (⟨n, (ws.map vw).take i ++ (ws.map vw).drop (i + 1)⟩ : Desk), say ((ws.map vw).length - 1 : Nat))) = _
  rw [if_neg (by rw [is_view, decide_eq_true h]; decide), take_drop, List.length_map, map_erase]
  rfl
theorem erase_ok (d : DOk n ws) (i : Nat) : DOk n (ws.eraseIdx i) := ⟨d.lo, d.hi, Nat.le_trans (List.length_eraseIdx_le _ _) d.len, fun v hv => d.each v (List.mem_of_mem_eraseIdx hv)⟩
/-! table -/
theorem st_table_2 {i : Nat} {l : List Nat} (h : ¬ i < ws.length) : step (some (desk n ws)) (.table i l) = (some (desk n ws), say (-2)) := if_pos (is_view_no h)
theorem st_table_22 {i : Nat} {l : List Nat} {v : Nat × List Nat} (h : ws[i]? = some v) (h2 : l.length ≠ 2 ^ (bits v.1).length ∨ l.any (fun v => decide (100 < v)) = true ∨ total l = 0) : step (some (desk n ws)) (.table i l) = (some (desk n ws), say (-22)) := by
  show (if isView (desk n ws) i = false then _ else if l.length ≠ 2 ^ (viewAt (desk n ws) i).qs.length ∨ l.any (fun v => decide (100 < v)) = true ∨ total l = 0 then _ else _) = _
  rw [if_neg (by rw [is_view_yes h]; decide), view_at h]
  exact if_pos h2
theorem st_table {i : Nat} {l : List Nat} {v : Nat × List Nat} (h : ws[i]? = some v) (h2 : ¬ (l.length ≠ 2 ^ (bits v.1).length ∨ l.any (fun v => decide (100 < v)) = true ∨ total l = 0)) : step (some (desk n ws)) (.table i l) = (some (desk n (ws.set i (v.1, l))), say 0) := by
  show (if isView (desk n ws) i = false then _ else if l.length ≠ 2 ^ (viewAt (desk n ws) i).qs.length ∨ l.any (fun v => decide (100 < v)) = true ∨ total l = 0 then _ else (some (⟨n, (ws.map vw).set i { viewAt (desk n ws) i with table := l }⟩ : Desk), say 0)) = _
  rw [if_neg (by rw [is_view_yes h]; decide), view_at h]
  refine (if_neg h2).trans ?_
  unfold desk
  rw [List.map_set]
  rfl
theorem set_ok (d : DOk n ws) {i : Nat} {l : List Nat} {v : Nat × List Nat} (h : ws[i]? = some v) (h2 : ¬ (l.length ≠ 2 ^ (bits v.1).length ∨ l.any (fun v => decide (100 < v)) = true ∨ total l = 0)) : DOk n (ws.set i (v.1, l)) := by
  refine ⟨d.lo, d.hi, by rw [List.length_set]; exact d.len, fun z hz => ?_⟩
  rcases List.mem_or_eq_of_mem_set hz with hz | hz
  · exact d.each z hz
  · subst hz
    have hv := d.each v (List.mem_of_getElem? h)
    refine ⟨⟨hv.1.lt, hv.1.lo, hv.1.hi, ?_, fun x hx => ?_, ?_⟩, hv.2⟩
    · exact Classical.byContradiction fun e => h2 (.inl e)
    · refine Nat.le_of_not_lt fun e => h2 (.inr (.inl ?_))
      rw [List.any_eq_true]
      exact ⟨x, hx, decide_eq_true e⟩
    · exact Nat.pos_of_ne_zero fun e => h2 (.inr (.inr e))
theorem max_any {l : List Nat} {m : Nat} (h1 : m ∈ l) (h2 : ∀ y ∈ l, y ≤ m) : l.any (fun v => decide (100 < v)) = decide (100 < m) := by
  by_cases h : 100 < m
  · rw [decide_eq_true h, List.any_eq_true]
    exact ⟨m, h1, decide_eq_true h⟩
  · rw [decide_eq_false h, List.any_eq_false]
    intro x hx
    have := h2 x hx
    simp
    omega
theorem max_zero {l : List Nat} {m : Nat} (h1 : m ∈ l) (h2 : ∀ y ∈ l, y ≤ m) : total l = 0 ↔ m = 0 := by
  rw [total_sum, List.sum_eq_zero_iff_forall_eq_nat]
  constructor
  · intro h
    exact h m h1
  · intro h x hx
    have := h2 x hx
    omega
/-! viewis -/
theorem st_viewis_2 {i : Nat} (h : ¬ i < ws.length) : step (some (desk n ws)) (.viewIs i) = (some (desk n ws), say (-2)) := congrArg (Prod.mk _) (if_pos (is_view_no h))
theorem st_viewis {i : Nat} {v : Nat × List Nat} (h : ws[i]? = some v) (ok : VOk v.1 v.2) : step (some (desk n ws)) (.viewIs i) = (some (desk n ws), ⟨(v.1 : Int), v.2.map fun (x : Nat) => (x : Int)⟩) := by
  refine congrArg (Prod.mk _) ((if_neg (by rw [is_view_yes h]; decide)).trans ?_)
  show (⟨(numOf (viewAt (desk n ws) i).qs : Int), (viewAt (desk n ws) i).table.map fun (x : Nat) => (x : Int)⟩ : Ans) = _
  rw [view_at h]
  show (⟨((numOf (bits v.1) : Nat) : Int), _⟩ : Ans) = _
  rw [num_bits v.1 ok.lt]
  rfl
/-! world -/
def seeV (x : Nat) (v : Nat × List Nat) : Nat × List Nat := (v.1, v.2.set (rowM x (bits v.1)) (min 100 (v.2.getD (rowM x (bits v.1)) 0 + 1)))
theorem see_is {x : Nat} {v : Nat × List Nat} (hx : x < 32) (ok : VOk v.1 v.2) : ({ vw v with table := (Kp351.rows (vw v).qs).map fun c => if c = rowOf x (vw v).qs then min 100 ((vw v).table.getD c 0 + 1) else (vw v).table.getD c 0 } : View) = vw (seeV x v) := by
  show (⟨bits v.1, (List.range (2 ^ (bits v.1).length)).map fun c => if c = rowOf x (bits v.1) then min 100 (v.2.getD c 0 + 1) else v.2.getD c 0⟩ : View) = ⟨bits v.1, v.2.set (rowM x (bits v.1)) (min 100 (v.2.getD (rowM x (bits v.1)) 0 + 1))⟩
  rw [row_is x hx v.1 ok.lt, ← ok.len]
  congr 1
  apply List.ext_getElem?
  intro j
  rw [List.getElem?_map, List.getElem?_set]
  by_cases hj : j < v.2.length
  · rw [List.getElem?_range hj, Option.map_some]
    by_cases e : rowOf x (bits v.1) = j
    · rw [if_pos e, if_pos e.symm, if_pos (by rw [e]; exact hj), e]
    · rw [if_neg e, if_neg (Ne.symm e), List.getD_eq_getElem?_getD, List.getElem?_eq_getElem hj]
      rfl
  · have h1 : v.2[j]? = none := List.getElem?_eq_none_iff.mpr (by omega)
    have h2 : (List.range v.2.length)[j]? = none := List.getElem?_eq_none_iff.mpr (by rw [List.length_range]; omega)
    rw [h2, h1]
    by_cases e : rowOf x (bits v.1) = j
    · rw [if_pos e, if_neg (by rw [e]; exact hj)]
      rfl
    · rw [if_neg e]
      rfl
theorem st_world_22 {x : Nat} (h : 2 ^ n ≤ x) : step (some (desk n ws)) (.world x) = (some (desk n ws), say (-22)) := if_pos h
theorem st_world (d : DOk n ws) {x : Nat} (h : ¬ 2 ^ n ≤ x) : step (some (desk n ws)) (.world x) = (some (desk n (ws.map (seeV x))), say (ws.length : Nat)) := by
  have hx : x < 32 := by
    have h5 : 2 ^ n ≤ 32 := Nat.pow_le_pow_right (by decide) d.hi
    omega
  show (if 2 ^ n ≤ x then _ else (some (⟨n, (ws.map vw).map fun v => { v with table := (Kp351.rows v.qs).map fun c => if c = rowOf x v.qs then min 100 (v.table.getD c 0 + 1) else v.table.getD c 0 }⟩ : Desk), say ((ws.map vw).length : Nat))) = _
  rw [if_neg h, List.length_map, List.map_map]
  unfold desk
  rw [List.map_map]
  congr 3
  apply List.map_congr_left
  intro v hv
  exact see_is hx (d.each v hv).1
theorem sum_set_pos {l : List Nat} {j k : Nat} (hj : j < l.length) (hk : 0 < k) : 0 < (l.set j k).sum := by
  have h : k ∈ l.set j k := by
    rw [List.mem_iff_getElem?]
    exact ⟨j, List.getElem?_set_self hj⟩
  have h2 := le_sum h
  omega
theorem seeV_ok {x : Nat} {v : Nat × List Nat} (hx : x < 32) (ok : VOk v.1 v.2) : VOk (seeV x v).1 (seeV x v).2 := by
  refine ⟨ok.lt, ok.lo, ok.hi, by show (v.2.set _ _).length = _; rw [List.length_set]; exact ok.len, fun y hy => ?_, ?_⟩
  · rcases List.mem_or_eq_of_mem_set hy with hy | hy
    · exact ok.le y hy
    · rw [hy]
      exact Nat.min_le_left _ _
  · rw [total_sum]
    refine sum_set_pos ?_ (by omega)
    rw [ok.len]
    exact row_lt x hx v.1 ok.lt
theorem see_ok (d : DOk n ws) {x : Nat} (h : x < 32) : DOk n (ws.map (seeV x)) := by
  refine ⟨d.lo, d.hi, by rw [List.length_map]; exact d.len, fun v hv => ?_⟩
  obtain ⟨z, hz, rfl⟩ := List.mem_map.mp hv
  exact ⟨seeV_ok h (d.each z hz).1, (d.each z hz).2⟩
/-! share, margin, agree, off -/
theorem of_row_2 {st : State} {i c : Nat} {f : View → Ans} (h : ¬ i < ws.length) : ofRow st (desk n ws) i c f = (st, say (-2)) := congrArg (Prod.mk _) (if_pos (.inl (is_view_no h)))
theorem of_row_2c {st : State} {i c : Nat} {f : View → Ans} {v : Nat × List Nat} (h : ws[i]? = some v) (ok : VOk v.1 v.2) (hc : ¬ c < v.2.length) : ofRow st (desk n ws) i c f = (st, say (-2)) := congrArg (Prod.mk _) (if_pos (.inr (by rw [is_row h ok, decide_eq_false hc])))
theorem of_row {st : State} {i c : Nat} {f : View → Ans} {v : Nat × List Nat} (h : ws[i]? = some v) (ok : VOk v.1 v.2) (hc : c < v.2.length) : ofRow st (desk n ws) i c f = (st, f (vw v)) := by
  refine congrArg (Prod.mk _) ((if_neg ?_).trans (congrArg f (view_at h)))
  rw [is_view_yes h, is_row h ok, decide_eq_true hc]
  decide
theorem share_is {v : Nat × List Nat} {c k : Nat} (h : v.2[c]? = some k) : share (vw v) c = fr (k : Nat) (total v.2 : Nat) := by
  show fr ((v.2.getD c 0 : Nat) : Int) _ = _
  rw [List.getD_eq_getElem?_getD, h]
  rfl
theorem st_margin_2 {i s : Nat} (h : ¬ i < ws.length) : step (some (desk n ws)) (.margin i s) = (some (desk n ws), say (-2)) := congrArg (Prod.mk _) (if_pos (is_view_no h))
theorem marg_cond (d : DOk n ws) {i u : Nat} {v : Nat × List Nat} (h : ws[i]? = some v) : (2 ^ n ≤ u ∨ ((setOf n u).any fun q => !(vw v).qs.contains q) = true) ↔ ¬ u &&& v.1 = u := by
  have hv := d.each v (List.mem_of_getElem? h)
  by_cases hu : 2 ^ n ≤ u
  · exact ⟨fun _ => and_ne_of_ge hv.2 hu, fun _ => .inl hu⟩
  · have e := sub_any n (by have := d.hi; omega) u (by omega) v.1 hv.2
    constructor
    · rintro (h | h)
      · exact absurd h hu
      · have h' : ((setOf n u).any fun q => !(bits v.1).contains q) = true := h
        rw [e] at h'
        simpa using h'
    · intro h
      refine .inr ?_
      show ((setOf n u).any fun q => !(bits v.1).contains q) = true
      rw [e]
      simpa using h
theorem st_margin_22 (d : DOk n ws) {i u : Nat} {v : Nat × List Nat} (h : ws[i]? = some v) (h2 : ¬ u &&& v.1 = u) : step (some (desk n ws)) (.margin i u) = (some (desk n ws), say (-22)) := by
  refine congrArg (Prod.mk _) ((if_neg (by rw [is_view_yes h]; decide)).trans ?_)
  show (if 2 ^ n ≤ u ∨ ((setOf n u).any fun q => !(viewAt (desk n ws) i).qs.contains q) = true then _ else _) = _
  rw [view_at h, if_pos ((marg_cond d h).mpr h2)]
theorem st_margin (d : DOk n ws) {i u : Nat} {v : Nat × List Nat} (h : ws[i]? = some v) (h2 : u &&& v.1 = u) : step (some (desk n ws)) (.margin i u) = (some (desk n ws), frs (margin (vw v) (bits u))) := by
  have hv := d.each v (List.mem_of_getElem? h)
  have hlt : u < 2 ^ n := Nat.lt_of_not_le fun e => and_ne_of_ge hv.2 e h2
  refine congrArg (Prod.mk _) ((if_neg (by rw [is_view_yes h]; decide)).trans ?_)
  show (if 2 ^ n ≤ u ∨ ((setOf n u).any fun q => !(viewAt (desk n ws) i).qs.contains q) = true then _ else frs (margin (viewAt (desk n ws) i) (setOf n u))) = _
  rw [view_at h, if_neg (fun e => (marg_cond d h).mp e h2), setOf_bits n (by have := d.hi; omega) u hlt]
theorem st_agree_2 {i j : Nat} (h : ¬ i < ws.length ∨ ¬ j < ws.length) : step (some (desk n ws)) (.agree i j) = (some (desk n ws), say (-2)) := by
  refine congrArg (Prod.mk _) (if_pos ?_)
  rcases h with h | h
  · exact .inl (is_view_no h)
  · exact .inr (is_view_no h)
theorem st_agree {i j : Nat} {v z : Nat × List Nat} (h : ws[i]? = some v) (h2 : ws[j]? = some z) : step (some (desk n ws)) (.agree i j) = (some (desk n ws), yes (agree (vw v) (vw z))) := by
  refine congrArg (Prod.mk _) ((if_neg (by rw [is_view_yes h, is_view_yes h2]; decide)).trans ?_)
  rw [view_at h, view_at h2]
def okP (n : Nat) (ws : List (Nat × List Nat)) (p : Nat × Nat) : Bool := agree (viewAt (desk n ws) p.1) (viewAt (desk n ws) p.2)
def lexP (p q : Nat × Nat) : Bool := decide (p.1 < q.1) || (p.1 == q.1 && decide (p.2 < q.2))
theorem pairs_sorted : ∀ k, k < 7 → (pairs k).Pairwise (fun p q => lexP p q = true) := by decide +kernel
theorem mem_pairs {k : Nat} {p : Nat × Nat} : p ∈ pairs k ↔ p.1 < p.2 ∧ p.2 < k := by
  unfold pairs
  rw [List.mem_flatMap]
  constructor
  · rintro ⟨i, hi, h⟩
    obtain ⟨j, hj, rfl⟩ := List.mem_map.mp h
    have := List.mem_filter.mp hj
    exact ⟨of_decide_eq_true this.2, List.mem_range.mp this.1⟩
  · rintro ⟨h1, h2⟩
    exact ⟨p.1, List.mem_range.mpr (by omega), List.mem_map.mpr ⟨p.2, List.mem_filter.mpr ⟨List.mem_range.mpr h2, decide_eq_true h1⟩, rfl⟩⟩
theorem off_len : (desk n ws).views.length = ws.length := by unfold desk; rw [List.length_map]
theorem off_none (h : ∀ a b, a < b → b < ws.length → okP n ws (a, b) = true) : off (desk n ws) = none := by
  unfold off
  rw [List.find?_eq_none]
  intro p hp
  rw [off_len] at hp
  obtain ⟨h1, h2⟩ := mem_pairs.mp hp
  have := h p.1 p.2 h1 h2
  have e : okP n ws p = true := this
  unfold okP at e
  rw [e]
  decide
theorem off_some (hl : ws.length ≤ 6) {a b : Nat} (hab : a < b) (hb : b < ws.length) (hno : okP n ws (a, b) = false) (h : ∀ a' b', a' < b' → b' < ws.length → lexP (a', b') (a, b) = true → okP n ws (a', b') = true) : off (desk n ws) = some (a, b) := by
  have hm : (a, b) ∈ pairs (desk n ws).views.length := by rw [off_len]; exact mem_pairs.mpr ⟨hab, hb⟩
  have hp : (!okP n ws (a, b)) = true := by rw [hno]; rfl
  have hs : (List.find? (fun p => !okP n ws p) (pairs (desk n ws).views.length)).isSome = true := List.find?_isSome.mpr ⟨(a, b), hm, hp⟩
  obtain ⟨x, hx⟩ := Option.isSome_iff_exists.mp hs
  have key : x = (a, b) := by
    obtain ⟨hpx, as, bs, hl1, has⟩ := List.find?_eq_some_iff_append.mp hx
    have hsrt := pairs_sorted ws.length (by omega)
    rw [← off_len (n := n), hl1] at hsrt
    rw [hl1] at hm
    rcases List.mem_append.mp hm with hm | hm
    · have := has _ hm
      rw [hno] at this
      cases this
    · rcases List.mem_cons.mp hm with hm | hm
      · exact hm.symm
      · have h1 := (List.pairwise_append.mp hsrt).2.1
        have h2 := (List.pairwise_cons.mp h1).1 _ hm
        have hxm : x ∈ pairs (desk n ws).views.length := List.mem_of_find?_eq_some hx
        rw [off_len] at hxm
        obtain ⟨e1, e2⟩ := mem_pairs.mp hxm
        have h3 := h x.1 x.2 e1 e2 h2
        have h4 : okP n ws x = true := h3
        rw [h4] at hpx
        cases hpx
  rw [key] at hx
  exact hx
end
end VT

set_option maxRecDepth 100000
set_option linter.all false
/-! The reading of a list of calls: one call taken off. Core Lean and the specification's modules alone. -/
namespace VT
def argL : List Nat := [1, 1, 1, 1, 1, 1, 2, 2, 2, 0, 0, 1, 2, 0, 0, 0, 1, 1, 1, 2]
def argN (p : Nat) : Nat := argL.getD p 0
def callG (p : Nat) (gs : List Nat) : Kp351.Call := match p with
  | 0 => .begin_ (gs.getD 0 0)
  | 1 => .view (gs.getD 0 0)
  | 2 => .unview (gs.getD 0 0)
  | 3 => .table (gs.getD 0 0) (gs.drop 2)
  | 4 => .viewIs (gs.getD 0 0)
  | 5 => .world (gs.getD 0 0)
  | 6 => .share (gs.getD 0 0) (gs.getD 1 0)
  | 7 => .margin (gs.getD 0 0) (gs.getD 1 0)
  | 8 => .agree (gs.getD 0 0) (gs.getD 1 0)
  | 9 => .off
  | 10 => .worlds
  | 11 => .fits (gs.getD 0 0)
  | 12 => .shown (gs.getD 0 0) (gs.getD 1 0)
  | 13 => .lonely
  | 14 => .fewest
  | 15 => .most
  | 16 => .together (gs.getD 0 0)
  | 17 => .without (gs.getD 0 0)
  | 18 => .sure (gs.getD 0 0)
  | _ => .ask (gs.getD 0 0) (gs.getD 1 0)
/-- what is handed to the call numbered p: so many numbers; of a table at most 10 behind its length -/
def GsOk (p : Nat) (gs : List Nat) : Prop := if p = 3 then 2 ≤ gs.length ∧ gs.length ≤ 12 else gs.length = argN p
theorem one_of {gs : List Nat} (h : gs.length = 1) : ∃ i, gs = [i] := List.length_eq_one_iff.mp h
theorem two_of {gs : List Nat} (h : gs.length = 2) : ∃ i c, gs = [i, c] := by
  match gs, h with
  | [i, c], _ => exact ⟨i, c, rfl⟩
theorem nil_of {gs : List Nat} (h : gs.length = 0) : gs = [] := List.length_eq_zero_iff.mp h
/-- before a begin all else is -11 -/
theorem st_none {p : Nat} (hp : p ≠ 0) (gs : List Nat) : Kp351.step none (callG p gs) = (none, Kp351.say (-11)) := by
  match p, hp with
  | 0, h => exact absurd rfl h
  | 1, _ => rfl
  | 2, _ => rfl
  | 3, _ => rfl
  | 4, _ => rfl
  | 5, _ => rfl
  | 6, _ => rfl
  | 7, _ => rfl
  | 8, _ => rfl
  | 9, _ => rfl
  | 10, _ => rfl
  | 11, _ => rfl
  | 12, _ => rfl
  | 13, _ => rfl
  | 14, _ => rfl
  | 15, _ => rfl
  | 16, _ => rfl
  | 17, _ => rfl
  | 18, _ => rfl
  | p + 19, _ => rfl
abbrev ofN (l : List Nat) : List Int := l.map fun (x : Nat) => (x : Int)
theorem shape_some {p : Int} {n k : Nat} (h : PyKp351.shape p = some (n, k)) : ∃ q : Nat, p = (q : Int) ∧ q < 20 ∧ n = argN q ∧ k = if q = 3 then 1 else 0 := by
  unfold PyKp351.shape at h
  by_cases e0 : p = 0
  · rw [if_pos e0] at h
    cases h
    exact ⟨0, e0, by decide, rfl, rfl⟩
  rw [if_neg e0] at h
  by_cases e1 : p = 1
  · rw [if_pos e1] at h
    cases h
    exact ⟨1, e1, by decide, rfl, rfl⟩
  rw [if_neg e1] at h
  by_cases e2 : p = 2
  · rw [if_pos e2] at h
    cases h
    exact ⟨2, e2, by decide, rfl, rfl⟩
  rw [if_neg e2] at h
  by_cases e3 : p = 3
  · rw [if_pos e3] at h
    cases h
    exact ⟨3, e3, by decide, rfl, rfl⟩
  rw [if_neg e3] at h
  by_cases e4 : p = 4
  · rw [if_pos e4] at h
    cases h
    exact ⟨4, e4, by decide, rfl, rfl⟩
  rw [if_neg e4] at h
  by_cases e5 : p = 5
  · rw [if_pos e5] at h
    cases h
    exact ⟨5, e5, by decide, rfl, rfl⟩
  rw [if_neg e5] at h
  by_cases e6 : p = 6
  · rw [if_pos e6] at h
    cases h
    exact ⟨6, e6, by decide, rfl, rfl⟩
  rw [if_neg e6] at h
  by_cases e7 : p = 7
  · rw [if_pos e7] at h
    cases h
    exact ⟨7, e7, by decide, rfl, rfl⟩
  rw [if_neg e7] at h
  by_cases e8 : p = 8
  · rw [if_pos e8] at h
    cases h
    exact ⟨8, e8, by decide, rfl, rfl⟩
  rw [if_neg e8] at h
  by_cases e9 : p = 9
  · rw [if_pos e9] at h
    cases h
    exact ⟨9, e9, by decide, rfl, rfl⟩
  rw [if_neg e9] at h
  by_cases e10 : p = 10
  · rw [if_pos e10] at h
    cases h
    exact ⟨10, e10, by decide, rfl, rfl⟩
  rw [if_neg e10] at h
  by_cases e11 : p = 11
  · rw [if_pos e11] at h
    cases h
    exact ⟨11, e11, by decide, rfl, rfl⟩
  rw [if_neg e11] at h
  by_cases e12 : p = 12
  · rw [if_pos e12] at h
    cases h
    exact ⟨12, e12, by decide, rfl, rfl⟩
  rw [if_neg e12] at h
  by_cases e13 : p = 13
  · rw [if_pos e13] at h
    cases h
    exact ⟨13, e13, by decide, rfl, rfl⟩
  rw [if_neg e13] at h
  by_cases e14 : p = 14
  · rw [if_pos e14] at h
    cases h
    exact ⟨14, e14, by decide, rfl, rfl⟩
  rw [if_neg e14] at h
  by_cases e15 : p = 15
  · rw [if_pos e15] at h
    cases h
    exact ⟨15, e15, by decide, rfl, rfl⟩
  rw [if_neg e15] at h
  by_cases e16 : p = 16
  · rw [if_pos e16] at h
    cases h
    exact ⟨16, e16, by decide, rfl, rfl⟩
  rw [if_neg e16] at h
  by_cases e17 : p = 17
  · rw [if_pos e17] at h
    cases h
    exact ⟨17, e17, by decide, rfl, rfl⟩
  rw [if_neg e17] at h
  by_cases e18 : p = 18
  · rw [if_pos e18] at h
    cases h
    exact ⟨18, e18, by decide, rfl, rfl⟩
  rw [if_neg e18] at h
  by_cases e19 : p = 19
  · rw [if_pos e19] at h
    cases h
    exact ⟨19, e19, by decide, rfl, rfl⟩
  rw [if_neg e19] at h
  cases h
/-- the specification's step at a call as it is read -/
def Told (c : List (List Int)) (p : Nat) (gs : List Nat) : Prop := ∀ st : Kp351.State, Kp351Neutral.step st (PyKp351.whole c) = ((Kp351.step st (callG p gs)).1, ansOf (Kp351.step st (callG p gs)).2)
theorem told_of {c : List (List Int)} {p : Nat} {gs : List Nat} (h : Kp351Neutral.callOf (PyKp351.whole c) = some (callG p gs)) : Told c p gs := fun st => by
  unfold Kp351Neutral.step
  rw [h]
  rfl
theorem told_plain {p : Nat} {gs : List Nat} (hp : p < 20) (h3 : p ≠ 3) (hg : gs.length = argN p) : Told [(p : Int) :: ofN gs] p gs := by
  refine told_of ?_
  match p, hp, h3, hg with
  | 0, _, _, hg => obtain ⟨a, rfl⟩ := one_of hg; rfl
  | 1, _, _, hg => obtain ⟨a, rfl⟩ := one_of hg; rfl
  | 2, _, _, hg => obtain ⟨a, rfl⟩ := one_of hg; rfl
  | 3, _, h, hg => exact absurd rfl h
  | 4, _, _, hg => obtain ⟨a, rfl⟩ := one_of hg; rfl
  | 5, _, _, hg => obtain ⟨a, rfl⟩ := one_of hg; rfl
  | 6, _, _, hg => obtain ⟨a, b, rfl⟩ := two_of hg; rfl
  | 7, _, _, hg => obtain ⟨a, b, rfl⟩ := two_of hg; rfl
  | 8, _, _, hg => obtain ⟨a, b, rfl⟩ := two_of hg; rfl
  | 9, _, _, hg => obtain rfl := nil_of hg; rfl
  | 10, _, _, hg => obtain rfl := nil_of hg; rfl
  | 11, _, _, hg => obtain ⟨a, rfl⟩ := one_of hg; rfl
  | 12, _, _, hg => obtain ⟨a, b, rfl⟩ := two_of hg; rfl
  | 13, _, _, hg => obtain rfl := nil_of hg; rfl
  | 14, _, _, hg => obtain rfl := nil_of hg; rfl
  | 15, _, _, hg => obtain rfl := nil_of hg; rfl
  | 16, _, _, hg => obtain ⟨a, rfl⟩ := one_of hg; rfl
  | 17, _, _, hg => obtain ⟨a, rfl⟩ := one_of hg; rfl
  | 18, _, _, hg => obtain ⟨a, rfl⟩ := one_of hg; rfl
  | 19, _, _, hg => obtain ⟨a, b, rfl⟩ := two_of hg; rfl
  | p + 20, h, _, _ => omega
theorem toNat_ofN (l : List Nat) : (ofN l).map Int.toNat = l := by
  unfold ofN
  rw [List.map_map]
  induction l with
  | nil => rfl
  | cons x l ih => rw [List.map_cons, ih]; rfl
theorem told_table (i m : Nat) (row : List Nat) : Told [[3, (i : Int)], ofN row] 3 (i :: m :: row) := by
  refine told_of ?_
  show Kp351Neutral.callOf [3 :: (i : Int) :: ofN row] = some (.table i row)
  show some (Kp351.Call.table (i : Int).toNat ((ofN row).map Int.toNat)) = _
  rw [toNat_ofN, Int.toNat_natCast]
theorem ofN_drop (l : List Nat) (n : Nat) : (ofN l).drop n = ofN (l.drop n) := List.map_drop.symm
theorem ofN_take (l : List Nat) (n : Nat) : (ofN l).take n = ofN (l.take n) := List.map_take.symm
/-- one call taken off the list's front -/
theorem parse_step {f : Nat} {p : Nat} {r : List Nat} {cs : List (List (List Int))} (h : PyFlat.calls PyKp351.shape f (ofN (p :: r)) = some cs) (hb : PyInside.calls PyKp351.bound cs = true) :
    ∃ (f' : Nat) (gs t : List Nat) (c : List (List Int)) (cs' : List (List (List Int))), p < 20 ∧ r = gs ++ t ∧ GsOk p gs ∧ (p = 3 → ∃ i row, gs = i :: row.length :: row) ∧ cs = c :: cs' ∧ PyFlat.calls PyKp351.shape f' (ofN t) = some cs' ∧ PyInside.calls PyKp351.bound cs' = true ∧ Told c p gs := by
  cases f with
  | zero => cases h
  | succ f =>
    have h' : (match PyFlat.call PyKp351.shape ((p : Int) :: ofN r) with
      | none => none
      | some (c, t) => match PyFlat.calls PyKp351.shape f t with
        | none => none
        | some cs => some (c :: cs)) = some cs := h
    cases hc : PyFlat.call PyKp351.shape ((p : Int) :: ofN r) with
    | none => rw [hc] at h'; cases h'
    | some ct =>
      obtain ⟨c, t⟩ := ct
      rw [hc] at h'
      cases hcs : PyFlat.calls PyKp351.shape f t with
      | none =>
        have h2 : (match PyFlat.calls PyKp351.shape f t with
          | none => none
          | some cs => some (c :: cs)) = some cs := h'
        rw [hcs] at h2
        cases h2
      | some cs' =>
        have h2 : (match PyFlat.calls PyKp351.shape f t with
          | none => none
          | some cs => some (c :: cs)) = some cs := h'
        rw [hcs] at h2
        cases h2
        unfold PyInside.calls at hb
        rw [List.all_cons, Bool.and_eq_true] at hb
        have hc' : (match PyKp351.shape (p : Int) with
          | none => none
          | some (n, k) => if (ofN r).length < n then none else match PyFlat.rows k ((ofN r).drop n) with
            | none => none
            | some (xs, t) => some (((p : Int) :: (ofN r).take n) :: xs, t)) = some (c, t) := hc
        cases hs : PyKp351.shape (p : Int) with
        | none => rw [hs] at hc'; cases hc'
        | some nk =>
          obtain ⟨n, k⟩ := nk
          obtain ⟨q, e1, hq, e2, e3⟩ := shape_some hs
          have epq : p = q := by omega
          subst epq
          rw [hs] at hc'
          have hc2 : (if (ofN r).length < n then none else match PyFlat.rows k ((ofN r).drop n) with
            | none => none
            | some (xs, t) => some (((p : Int) :: (ofN r).take n) :: xs, t)) = some (c, t) := hc'
          by_cases hl : (ofN r).length < n
          · rw [if_pos hl] at hc2
            cases hc2
          · rw [if_neg hl] at hc2
            have hl' : n ≤ r.length := by
              rw [List.length_map] at hl
              omega
            by_cases h3 : p = 3
            · subst h3
              have en : n = 1 := e2
              have ek : k = 1 := e3
              subst en ek
              match r, hl' with
              | x :: r1, _ =>
                have hc3 : (match (match PyFlat.row (ofN r1) with
                    | none => none
                    | some (y, s) => some ([y], s)) with
                  | none => none
                  | some (xs, t) => some ([(3 : Int), (x : Int)] :: xs, t)) = some (c, t) := hc2
                match r1, hc3 with
                | [], hc3 => cases hc3
                | m :: r2, hc3 =>
                  have hrow : PyFlat.row (ofN (m :: r2)) = if 0 ≤ (m : Int) ∧ (m : Int).toNat ≤ (ofN r2).length then some ((ofN r2).take (m : Int).toNat, (ofN r2).drop (m : Int).toNat) else none := rfl
                  rw [hrow] at hc3
                  by_cases hm : 0 ≤ (m : Int) ∧ (m : Int).toNat ≤ (ofN r2).length
                  · rw [if_pos hm] at hc3
                    have hm2 : m ≤ r2.length := by
                      have := hm.2
                      rw [List.length_map, Int.toNat_natCast] at this
                      exact this
                    have hc4 : some ([(3 : Int), (x : Int)] :: [(ofN r2).take (m : Int).toNat], (ofN r2).drop (m : Int).toNat) = some (c, t) := hc3
                    rw [Int.toNat_natCast, ofN_take, ofN_drop] at hc4
                    cases hc4
                    have hlt : (r2.take m).length = m := by
                      rw [List.length_take]
                      omega
                    have hb10 : m ≤ 10 := by
                      have hb1 : (PyInside.within 0 4294967295 (x : Int) && true) = true ∧ ((decide (0 ≤ (ofN (r2.take m)).length) && decide ((ofN (r2.take m)).length ≤ 10)) && (ofN (r2.take m)).all (PyInside.within 0 4294967295) && true) = true := by
                        have := hb.1
                        have h9 : ((PyInside.within 0 4294967295 (x : Int) && true) && ((decide (0 ≤ (ofN (r2.take m)).length) && decide ((ofN (r2.take m)).length ≤ 10)) && (ofN (r2.take m)).all (PyInside.within 0 4294967295) && true)) = true := this
                        rw [Bool.and_eq_true] at h9
                        exact h9
                      have := hb1.2
                      rw [Bool.and_eq_true, Bool.and_eq_true, Bool.and_eq_true] at this
                      have h8 := of_decide_eq_true this.1.1.2
                      rw [List.length_map, hlt] at h8
                      exact h8
                    refine ⟨f, x :: m :: r2.take m, r2.drop m, _, _, by decide, ?_, ?_, fun _ => ⟨x, r2.take m, by rw [hlt]⟩, rfl, hcs, hb.2, told_table x m (r2.take m)⟩
                    · rw [List.cons_append, List.cons_append, List.take_append_drop]
                    · show 2 ≤ (r2.take m).length + 1 + 1 ∧ (r2.take m).length + 1 + 1 ≤ 12
                      omega
                  · rw [if_neg hm] at hc3
                    cases hc3
            · have ek : k = 0 := e3.trans (if_neg h3)
              subst ek
              have hc3 : some ([(p : Int) :: (ofN r).take n], (ofN r).drop n) = some (c, t) := hc2
              rw [ofN_take, ofN_drop] at hc3
              cases hc3
              have hlt : (r.take n).length = argN p := by
                rw [List.length_take, ← e2]
                omega
              exact ⟨f, r.take n, r.drop n, _, _, hq, (List.take_append_drop n r).symm, (by unfold GsOk; rw [if_neg h3]; exact hlt), fun e => absurd e h3, rfl, hcs, hb.2, told_plain hq h3 hlt⟩
theorem parse_nil {f : Nat} {cs : List (List (List Int))} (h : PyFlat.calls PyKp351.shape f (ofN []) = some cs) : cs = [] := by
  cases f <;> cases h <;> rfl
end VT

set_option maxRecDepth 100000
set_option linter.all false
/-! The worlds that fit, the fewest that can't be together, the most: the specification's own words over what the program holds. Core Lean and the specification's modules alone. -/
namespace VT
open Kp351
abbrev Vw := Nat × List Nat
/-- the world fits the view -/
def fitV (x : Nat) (v : Vw) : Bool := decide (0 < v.2.getD (rowM x (bits v.1)) 0)
theorem seen_is {x : Nat} {v : Vw} (hx : x < 32) (hv : v.1 < 32) : seen (vw v) (rowOf x (vw v).qs) = fitV x v := by
  unfold seen fitV
  rw [row_is x hx v.1 hv]
  rfl
theorem fitsIn_is {x : Nat} (hx : x < 32) : ∀ {ws : List Vw}, (∀ v ∈ ws, v.1 < 32) → fitsIn (ws.map vw) x = ws.all (fitV x)
  | [], _ => rfl
  | v :: ws, h => by
    show (seen (vw v) (rowOf x (vw v).qs) && fitsIn (ws.map vw) x) = (fitV x v && ws.all (fitV x))
    rw [seen_is hx (h v (List.mem_cons_self ..)), fitsIn_is hx fun z hz => h z (List.mem_cons_of_mem _ hz)]
theorem filter_congr' {α : Type} {p q : α → Bool} : ∀ {l : List α}, (∀ x ∈ l, p x = q x) → l.filter p = l.filter q
  | [], _ => rfl
  | x :: l, h => by
    rw [List.filter_cons, List.filter_cons, h x (List.mem_cons_self ..), filter_congr' fun y hy => h y (List.mem_cons_of_mem _ hy)]
theorem any_congr' {α : Type} {p q : α → Bool} : ∀ {l : List α}, (∀ x ∈ l, p x = q x) → l.any p = l.any q
  | [], _ => rfl
  | x :: l, h => by
    rw [List.any_cons, List.any_cons, h x (List.mem_cons_self ..), any_congr' fun y hy => h y (List.mem_cons_of_mem _ hy)]
/-- the worlds that fit all of these -/
def worldsM (n : Nat) (ws : List Vw) : List Nat := (List.range (2 ^ n)).filter fun x => ws.all (fitV x)
theorem pow32 {n : Nat} (h : n ≤ 5) : 2 ^ n ≤ 32 := Nat.pow_le_pow_right (by decide) h
theorem worlds_is {n : Nat} {ws : List Vw} (hn : n ≤ 5) (h : ∀ v ∈ ws, v.1 < 32) : worlds (desk n ws) = worldsM n ws := by
  unfold worlds worldsM
  refine filter_congr' fun x hx => ?_
  have hx' := List.mem_range.mp hx
  exact fitsIn_is (Nat.lt_of_lt_of_le hx' (pow32 hn)) h
theorem DOk.lt32 {n : Nat} {ws : List Vw} (d : DOk n ws) : ∀ v ∈ ws, v.1 < 32 := fun v hv => (d.each v hv).1.lt
theorem worldsM_lt {n x : Nat} {ws : List Vw} (h : x ∈ worldsM n ws) : x < 2 ^ n := List.mem_range.mp (List.mem_filter.mp h).1
/-- view i of these, as a world meets it -/
def fitI (ws : List Vw) (x i : Nat) : Bool := (ws[i]?.map (fitV x)).getD false
theorem fitI_at {ws : List Vw} {i x : Nat} {v : Vw} (h : ws[i]? = some v) : fitI ws x i = fitV x v := by
  unfold fitI
  rw [h]
  rfl
/-- which views a world fits -/
def fittedM (ws : List Vw) (x : Nat) : List Nat := (List.range ws.length).filter (fitI ws x)
theorem fitted_is {n x : Nat} {ws : List Vw} (hx : x < 32) (h : ∀ v ∈ ws, v.1 < 32) : fitted (desk n ws) x = fittedM ws x := by
  unfold fitted fittedM
  rw [off_len]
  refine filter_congr' fun i hi => ?_
  obtain ⟨v, hv⟩ := get_of_lt (List.mem_range.mp hi)
  rw [view_at hv, fitI_at hv]
  have e := fitsIn_is hx (ws := [v]) fun z hz => by rw [List.mem_singleton.mp hz]; exact h v (List.mem_of_getElem? hv)
  show fitsIn ([v].map vw) x = _
  rw [e]
  show (fitV x v && true) = _
  rw [Bool.and_true]
/-- some world fits these views -/
def someM (n : Nat) (ws : List Vw) (is : List Nat) : Bool := (List.range (2 ^ n)).any fun x => is.all (fitI ws x)
theorem someFits_is {n : Nat} {ws : List Vw} (hn : n ≤ 5) (h : ∀ v ∈ ws, v.1 < 32) {is : List Nat} (hi : ∀ i ∈ is, i < ws.length) : someFits (desk n ws) is = someM n ws is := by
  unfold someFits someM
  refine any_congr' fun x hx => ?_
  have hx' := Nat.lt_of_lt_of_le (List.mem_range.mp hx) (pow32 hn)
  induction is with
  | nil => rfl
  | cons i is ih =>
    obtain ⟨v, hv⟩ := get_of_lt (hi i (List.mem_cons_self ..))
    show (seen (viewAt (desk n ws) i) (rowOf x (viewAt (desk n ws) i).qs) && fitsIn (is.map (viewAt (desk n ws))) x) = (fitI ws x i && is.all (fitI ws x))
    rw [ih fun j hj => hi j (List.mem_cons_of_mem _ hj), view_at hv, seen_is hx' (h v (List.mem_of_getElem? hv)), fitI_at hv]
theorem setOf_lt {k s i : Nat} (h : i ∈ setOf k s) : i < k := List.mem_range.mp (List.mem_filter.mp h).1
theorem setOf_mem {k s i : Nat} : i ∈ setOf k s ↔ i < k ∧ s.testBit i = true := by
  unfold setOf
  rw [List.mem_filter, List.mem_range]
theorem all_range_fit (ws : List Vw) (x : Nat) : (List.range ws.length).all (fitI ws x) = ws.all (fitV x) := by
  rw [Bool.eq_iff_iff, List.all_eq_true, List.all_eq_true]
  constructor
  · intro h v hv
    obtain ⟨i, hi⟩ := List.mem_iff_getElem?.mp hv
    rw [← fitI_at hi]
    exact h i (List.mem_range.mpr (List.getElem?_eq_some_iff.mp hi).1)
  · intro h i hi
    obtain ⟨v, hv⟩ := get_of_lt (List.mem_range.mp hi)
    rw [fitI_at hv]
    exact h v (List.mem_of_getElem? hv)
theorem someM_all (n : Nat) (ws : List Vw) : someM n ws (List.range ws.length) = !(worldsM n ws).isEmpty := by
  unfold someM worldsM
  rw [any_congr' fun x _ => all_range_fit ws x, Bool.eq_iff_iff, List.any_eq_true]
  constructor
  · rintro ⟨x, hx, h⟩
    have : x ∈ (List.range (2 ^ n)).filter fun x => ws.all (fitV x) := List.mem_filter.mpr ⟨hx, h⟩
    cases e : (List.range (2 ^ n)).filter fun x => ws.all (fitV x) with
    | nil => rw [e] at this; cases this
    | cons _ _ => rfl
  · intro h
    cases e : (List.range (2 ^ n)).filter fun x => ws.all (fitV x) with
    | nil => rw [e] at h; cases h
    | cons x r =>
      have hm : x ∈ (List.range (2 ^ n)).filter fun x => ws.all (fitV x) := by rw [e]; exact List.mem_cons_self ..
      exact ⟨x, (List.mem_filter.mp hm).1, (List.mem_filter.mp hm).2⟩
/-- fewer views, no fewer worlds -/
theorem someM_mono {n : Nat} {ws : List Vw} {is js : List Nat} (h : ∀ i ∈ js, i ∈ is) (hs : someM n ws is = true) : someM n ws js = true := by
  unfold someM at hs ⊢
  rw [List.any_eq_true] at hs ⊢
  obtain ⟨x, hx, h1⟩ := hs
  refine ⟨x, hx, List.all_eq_true.mpr fun i hi => List.all_eq_true.mp h1 i (h i hi)⟩
/-! ### the fewest -/
def ltS (l m : List Nat) : Prop := l.length < m.length ∨ (l.length = m.length ∧ ahead l m = true)
instance (l m : List Nat) : Decidable (ltS l m) := inferInstanceAs (Decidable (_ ∨ _))
theorem ahead_trans : ∀ {a b c : List Nat}, ahead a b = true → ahead b c = true → ahead a c = true
  | [], _, _, h, _ => by unfold ahead at h; cases h
  | _ :: _, [], _, h, _ => by unfold ahead at h; cases h
  | _ :: _, _ :: _, [], _, h => by unfold ahead at h; cases h
  | x :: a, y :: b, z :: c, h1, h2 => by
    have e1 : (decide (x < y) || (x == y && ahead a b)) = true := h1
    have e2 : (decide (y < z) || (y == z && ahead b c)) = true := h2
    show (decide (x < z) || (x == z && ahead a c)) = true
    rw [Bool.or_eq_true, Bool.and_eq_true] at e1 e2 ⊢
    rcases e1 with e1 | ⟨e1, e1'⟩
    · have h1' := of_decide_eq_true e1
      rcases e2 with e2 | ⟨e2, _⟩
      · have h2' := of_decide_eq_true e2
        exact .inl (decide_eq_true (by omega))
      · have h2' : y = z := eq_of_beq e2
        exact .inl (decide_eq_true (by omega))
    · have h1' : x = y := eq_of_beq e1
      rcases e2 with e2 | ⟨e2, e2'⟩
      · have h2' := of_decide_eq_true e2
        exact .inl (decide_eq_true (by omega))
      · have h2' : y = z := eq_of_beq e2
        exact .inr ⟨by rw [h1', h2']; exact beq_self_eq_true z, ahead_trans e1' e2'⟩
theorem ltS_trans {a b c : List Nat} (h1 : ltS a b) (h2 : ltS b c) : ltS a c := by
  rcases h1 with h1 | ⟨h1, h1'⟩
  · rcases h2 with h2 | ⟨h2, _⟩
    · exact .inl (by omega)
    · exact .inl (by omega)
  · rcases h2 with h2 | ⟨h2, h2'⟩
    · exact .inl (by omega)
    · exact .inr ⟨by omega, ahead_trans h1' h2'⟩
theorem ahead_irr : ∀ y : List Nat, ahead y y = false
  | [] => rfl
  | a :: y => by
    show (decide (a < a) || (a == a && ahead y y)) = false
    rw [ahead_irr y, Bool.and_false, decide_eq_false (Nat.lt_irrefl a)]
    rfl
theorem irr (y : List Nat) : ¬ ltS y y := by
  rintro (z | ⟨_, z⟩)
  · omega
  · rw [ahead_irr] at z
    cases z
/-- one turn of the specification's search -/
def fewStep (d : Desk) (b : Option (List Nat)) (l : List Nat) : Option (List Nat) := if someFits d l then b else match b with
  | none => some l
  | some m => if l.length < m.length ∨ (l.length = m.length ∧ ahead l m = true) then some l else b
theorem fewest_def (d : Desk) : fewest d = ((List.range (2 ^ d.views.length)).map (setOf d.views.length)).foldl (fewStep d) none := rfl
theorem few_none (d : Desk) : ∀ (L : List (List Nat)) (b : Option (List Nat)), (∀ l ∈ L, someFits d l = true) → L.foldl (fewStep d) b = b
  | [], _, _ => rfl
  | l :: L, b, h => by
    rw [List.foldl_cons, few_none d L _ fun x hx => h x (List.mem_cons_of_mem _ hx)]
    unfold fewStep
    rw [if_pos (h l (List.mem_cons_self ..))]
/-- the search keeps one that none met so far is ahead of -/
theorem few_keeps (d : Desk) : ∀ (L : List (List Nat)) (b : Option (List Nat)) (S : List (List Nat)), (∀ l ∈ S, someFits d l = false → ∃ m, b = some m ∧ ¬ ltS l m) → (∀ m, b = some m → m ∈ S ∧ someFits d m = false) →
    (∀ l ∈ S ++ L, someFits d l = false → ∃ m, L.foldl (fewStep d) b = some m ∧ ¬ ltS l m) ∧ (∀ m, L.foldl (fewStep d) b = some m → m ∈ S ++ L ∧ someFits d m = false)
  | [], b, S, h1, h2 => by
    rw [List.append_nil]
    exact ⟨h1, h2⟩
  | l :: L, b, S, h1, h2 => by
    rw [List.foldl_cons, show S ++ l :: L = (S ++ [l]) ++ L by simp]
    refine few_keeps d L (fewStep d b l) (S ++ [l]) (fun x hx hx2 => ?_) (fun m hm => ?_)
    · unfold fewStep
      rcases List.mem_append.mp hx with hx | hx
      · obtain ⟨m, e, hm⟩ := h1 x hx hx2
        subst e
        cases hs : someFits d l
        · by_cases hlt : l.length < m.length ∨ (l.length = m.length ∧ ahead l m = true)
          · refine ⟨l, ?_, fun z => hm (ltS_trans z hlt)⟩
            rw [if_neg Bool.false_ne_true]
            exact if_pos hlt
          · refine ⟨m, ?_, hm⟩
            rw [if_neg Bool.false_ne_true]
            exact if_neg hlt
        · exact ⟨m, if_pos rfl, hm⟩
      · have e : x = l := List.mem_singleton.mp hx
        subst e
        rw [hx2, if_neg Bool.false_ne_true]
        cases b with
        | none => exact ⟨x, rfl, irr x⟩
        | some m =>
          by_cases hlt : x.length < m.length ∨ (x.length = m.length ∧ ahead x m = true)
          · exact ⟨x, if_pos hlt, irr x⟩
          · exact ⟨m, if_neg hlt, hlt⟩
    · unfold fewStep at hm
      cases hs : someFits d l
      · rw [hs, if_neg Bool.false_ne_true] at hm
        cases b with
        | none =>
          cases hm
          exact ⟨List.mem_append_right _ (List.mem_singleton.mpr rfl), hs⟩
        | some m0 =>
          have hm' : (if l.length < m0.length ∨ (l.length = m0.length ∧ ahead l m0 = true) then some l else some m0) = some m := hm
          split at hm'
          · cases hm'
            exact ⟨List.mem_append_right _ (List.mem_singleton.mpr rfl), hs⟩
          · cases hm'
            obtain ⟨h3, h4⟩ := h2 _ rfl
            exact ⟨List.mem_append_left _ h3, h4⟩
      · rw [hs, if_pos rfl] at hm
        obtain ⟨h3, h4⟩ := h2 m hm
        exact ⟨List.mem_append_left _ h3, h4⟩
/-- the one that is told: no world fits it, and it is ahead of every other one that no world fits -/
theorem fewest_some {d : Desk} {l : List Nat} (hl : ∃ s, s < 2 ^ d.views.length ∧ setOf d.views.length s = l) (hno : someFits d l = false)
    (hmin : ∀ s, s < 2 ^ d.views.length → someFits d (setOf d.views.length s) = false → setOf d.views.length s = l ∨ ltS l (setOf d.views.length s)) : fewest d = some l := by
  rw [fewest_def]
  obtain ⟨h1, h2⟩ := few_keeps d ((List.range (2 ^ d.views.length)).map (setOf d.views.length)) none [] (by simp) (by simp)
  obtain ⟨s, hs, e⟩ := hl
  have hm : l ∈ ([] : List (List Nat)) ++ (List.range (2 ^ d.views.length)).map (setOf d.views.length) := by
    rw [List.nil_append]
    exact List.mem_map.mpr ⟨s, List.mem_range.mpr hs, e⟩
  obtain ⟨m, em, hm2⟩ := h1 l hm hno
  obtain ⟨hm3, hm4⟩ := h2 m em
  rw [List.nil_append] at hm3
  obtain ⟨s', hs', e'⟩ := List.mem_map.mp hm3
  subst e'
  rcases hmin s' (List.mem_range.mp hs') hm4 with h | h
  · rw [em, h]
  · exact absurd h hm2
theorem fewest_none {d : Desk} (h : ∀ s, s < 2 ^ d.views.length → someFits d (setOf d.views.length s) = true) : fewest d = none := by
  rw [fewest_def]
  refine few_none d _ none fun l hl => ?_
  obtain ⟨s, hs, rfl⟩ := List.mem_map.mp hl
  exact h s (List.mem_range.mp hs)
/-! ### the most -/
def cntM (ws : List Vw) (x : Nat) : Nat := (fittedM ws x).length
/-- the first of the worlds below i that fit the most views -/
def mostAt (ws : List Vw) (i : Nat) : Nat := (List.range i).foldl (fun (b x : Nat) => if cntM ws b < cntM ws x then x else b) 0
theorem mostAt_succ (ws : List Vw) (i : Nat) : mostAt ws (i + 1) = if cntM ws (mostAt ws i) < cntM ws i then i else mostAt ws i := by
  unfold mostAt
  rw [List.range_succ, List.foldl_append]
  rfl
theorem mostAt_le (ws : List Vw) : ∀ i, mostAt ws i ≤ i
  | 0 => Nat.le_refl _
  | i + 1 => by
    rw [mostAt_succ]
    have := mostAt_le ws i
    split <;> omega
theorem mostAt_lt (ws : List Vw) {i : Nat} (h : 0 < i) : mostAt ws i < i := by
  match i, h with
  | i + 1, _ =>
    rw [mostAt_succ]
    have := mostAt_le ws i
    split <;> omega
theorem most_is {n : Nat} {ws : List Vw} (hn : n ≤ 5) (h : ∀ v ∈ ws, v.1 < 32) : most (desk n ws) = mostAt ws (2 ^ n) := by
  have hp := pow32 hn
  have key : ∀ i, i ≤ 2 ^ n → (List.range i).foldl (fun (b x : Nat) => if (fitted (desk n ws) b).length < (fitted (desk n ws) x).length then x else b) 0 = mostAt ws i := by
    intro i
    induction i with
    | zero => intro _; rfl
    | succ i ih =>
      intro hi
      rw [mostAt_succ, List.range_succ, List.foldl_append, ih (by omega)]
      show (if (fitted (desk n ws) (mostAt ws i)).length < (fitted (desk n ws) i).length then i else mostAt ws i) = _
      have hm := mostAt_le ws i
      rw [fitted_is (by omega) h, fitted_is (by omega) h]
      rfl
  exact key (2 ^ n) (Nat.le_refl _)
/-- any first world that fits the most is the one told -/
theorem mostAt_is (ws : List Vw) {i x : Nat} (hx : x < i) (h1 : ∀ y, y < i → cntM ws y ≤ cntM ws x) (h2 : ∀ y, y < x → cntM ws y < cntM ws x) : mostAt ws i = x := by
  have low : ∀ j, j ≤ x → 0 < j → mostAt ws j < x ∨ j = x ∧ mostAt ws j < x := fun j hj h0 => .inl (Nat.lt_of_lt_of_le (mostAt_lt ws h0) hj)
  have at_ : mostAt ws (x + 1) = x := by
    rw [mostAt_succ]
    by_cases h0 : x = 0
    · subst h0
      show (if cntM ws 0 < cntM ws 0 then 0 else 0) = 0
      rw [if_neg (Nat.lt_irrefl _)]
    · rw [if_pos (h2 _ (mostAt_lt ws (Nat.pos_of_ne_zero h0)))]
  have up : ∀ k, x + 1 + k ≤ i → mostAt ws (x + 1 + k) = x := by
    intro k
    induction k with
    | zero => intro _; exact at_
    | succ k ih =>
      intro hk
      rw [show x + 1 + (k + 1) = (x + 1 + k) + 1 by omega, mostAt_succ, ih (by omega), if_neg (Nat.not_lt.mpr (h1 _ (by omega)))]
  have := up (i - (x + 1)) (by omega)
  rw [show x + 1 + (i - (x + 1)) = i by omega] at this
  exact this
/-! ### the calls -/
section
variable {n : Nat} {ws : List Vw}
def rowA (l : List Nat) : List Int := ((l.length : Nat) : Int) :: l.map fun (x : Nat) => (x : Int)
theorem ans_row (l : List Nat) : ansOf (row l) = rowA l := rfl
theorem st_worlds (d : DOk n ws) : step (some (desk n ws)) .worlds = (some (desk n ws), row (worldsM n ws)) := by
  show (some (desk n ws), row (worlds (desk n ws))) = _
  rw [worlds_is d.hi d.lt32]
theorem st_fits_22 {x : Nat} (h : 2 ^ n ≤ x) : step (some (desk n ws)) (.fits x) = (some (desk n ws), say (-22)) := congrArg (Prod.mk _) (if_pos h)
theorem st_fits (d : DOk n ws) {x : Nat} (h : ¬ 2 ^ n ≤ x) : step (some (desk n ws)) (.fits x) = (some (desk n ws), row (fittedM ws x)) := by
  refine congrArg (Prod.mk _) ((if_neg h).trans ?_)
  have := pow32 d.hi
  rw [fitted_is (by omega) d.lt32]
def shownM (n : Nat) (ws : List Vw) (v : Vw) (c : Nat) : Bool := (worldsM n ws).any fun x => rowM x (bits v.1) == c
theorem shown_is (d : DOk n ws) {v : Vw} {c : Nat} (hv : v.1 < 32) : shown (desk n ws) (vw v) c = shownM n ws v c := by
  unfold shown shownM
  rw [worlds_is d.hi d.lt32]
  refine any_congr' fun x hx => ?_
  have h1 := worldsM_lt hx
  have h2 := pow32 d.hi
  rw [row_is x (by omega) v.1 hv]
  rfl
theorem seen_at {v : Vw} {c k : Nat} (h : v.2[c]? = some k) : seen (vw v) c = decide (0 < k) := by
  unfold seen
  show decide (0 < v.2.getD c 0) = _
  rw [List.getD_eq_getElem?_getD, h]
  rfl
theorem eq_shown {i c : Nat} : step (some (desk n ws)) (.shown i c) = ofRow (some (desk n ws)) (desk n ws) i c fun v => if seen v c = false then say (-33) else yes (Kp351.shown (desk n ws) v c) := rfl
theorem eq_ask {i c : Nat} : step (some (desk n ws)) (.ask i c) = ofRow (some (desk n ws)) (desk n ws) i c fun v => row ((worlds (desk n ws)).filter fun x => rowOf x v.qs == c) := rfl
theorem st_shown_2 {i c : Nat} (h : ¬ i < ws.length) : step (some (desk n ws)) (.shown i c) = (some (desk n ws), say (-2)) := eq_shown.trans (of_row_2 h)
theorem st_shown_2c {i c : Nat} {v : Vw} (h : ws[i]? = some v) (ok : VOk v.1 v.2) (hc : ¬ c < v.2.length) : step (some (desk n ws)) (.shown i c) = (some (desk n ws), say (-2)) := eq_shown.trans (of_row_2c h ok hc)
theorem st_shown_33 {i c : Nat} {v : Vw} (h : ws[i]? = some v) (ok : VOk v.1 v.2) (hk : v.2[c]? = some 0) : step (some (desk n ws)) (.shown i c) = (some (desk n ws), say (-33)) := by
  refine eq_shown.trans ((of_row h ok (List.getElem?_eq_some_iff.mp hk).1).trans ?_)
  rw [seen_at hk]
  rfl
theorem st_shown (d : DOk n ws) {i c k : Nat} {v : Vw} (h : ws[i]? = some v) (hk : v.2[c]? = some k) (h0 : 0 < k) : step (some (desk n ws)) (.shown i c) = (some (desk n ws), yes (shownM n ws v c)) := by
  have ok := (d.each v (List.mem_of_getElem? h)).1
  refine eq_shown.trans ((of_row h ok (List.getElem?_eq_some_iff.mp hk).1).trans ?_)
  rw [seen_at hk, decide_eq_true h0, shown_is d ok.lt]
  rfl
/-- the lonely rows of one view -/
def lonelyV (n : Nat) (ws : List Vw) (v : Vw) : List Nat := (List.range v.2.length).filter fun c => decide (0 < v.2.getD c 0) && !shownM n ws v c
def lonelyM (n : Nat) (ws : List Vw) : List (Nat × Nat) := (List.range ws.length).flatMap fun i => ((ws[i]?.map (lonelyV n ws)).getD []).map fun c => (i, c)
theorem flatMap_congr' {α β : Type} {f g : α → List β} : ∀ {l : List α}, (∀ x ∈ l, f x = g x) → l.flatMap f = l.flatMap g
  | [], _ => rfl
  | x :: l, h => by
    rw [List.flatMap_cons, List.flatMap_cons, h x (List.mem_cons_self ..), flatMap_congr' fun y hy => h y (List.mem_cons_of_mem _ hy)]
theorem lonely_is (d : DOk n ws) : lonely (desk n ws) = lonelyM n ws := by
  unfold lonely lonelyM
  rw [off_len]
  refine flatMap_congr' fun i hi => ?_
  obtain ⟨v, hv⟩ := get_of_lt (List.mem_range.mp hi)
  have ok := (d.each v (List.mem_of_getElem? hv)).1
  rw [hv]
  show (((Kp351.rows (viewAt (desk n ws) i).qs).filter fun c => seen (viewAt (desk n ws) i) c && !shown (desk n ws) (viewAt (desk n ws) i) c).map fun c => (i, c)) = (lonelyV n ws v).map fun c => (i, c)
  rw [view_at hv]
  unfold lonelyV
  have e : Kp351.rows (vw v).qs = List.range v.2.length := by
    rw [ok.len]
    rfl
  rw [e]
  congr 1
  refine filter_congr' fun c _ => ?_
  rw [shown_is d ok.lt]
  rfl
def lonelyA (l : List (Nat × Nat)) : List Int := ((l.length : Nat) : Int) :: l.flatMap fun x => [(x.1 : Int), (x.2 : Int)]
theorem st_lonely (d : DOk n ws) : (step (some (desk n ws)) .lonely).1 = some (desk n ws) ∧ ansOf (step (some (desk n ws)) .lonely).2 = lonelyA (lonelyM n ws) := by
  refine ⟨rfl, ?_⟩
  show (((lonely (desk n ws)).length : Nat) : Int) :: (lonely (desk n ws)).flatMap (fun x => [(x.1 : Int), (x.2 : Int)]) = _
  rw [lonely_is d]
  rfl
theorem st_most (d : DOk n ws) : step (some (desk n ws)) .most = (some (desk n ws), ⟨((mostAt ws (2 ^ n) : Nat) : Int), [((cntM ws (mostAt ws (2 ^ n)) : Nat) : Int)]⟩) := by
  show (some (desk n ws), (⟨((most (desk n ws) : Nat) : Int), [((fitted (desk n ws) (most (desk n ws))).length : Int)]⟩ : Ans)) = _
  rw [most_is d.hi d.lt32]
  have h1 := mostAt_lt ws (Nat.two_pow_pos n)
  have h2 := pow32 d.hi
  rw [fitted_is (by omega) d.lt32]
  rfl
theorem st_together_22 {s : Nat} (h : 2 ^ ws.length ≤ s) : step (some (desk n ws)) (.together s) = (some (desk n ws), say (-22)) := by
  refine congrArg (Prod.mk _) (if_pos ?_)
  rw [off_len]
  exact h
theorem st_together (d : DOk n ws) {s : Nat} (h : ¬ 2 ^ ws.length ≤ s) : step (some (desk n ws)) (.together s) = (some (desk n ws), yes (someM n ws (setOf ws.length s))) := by
  refine congrArg (Prod.mk _) ((if_neg (by rw [off_len]; exact h)).trans ?_)
  rw [off_len, someFits_is d.hi d.lt32 fun i hi => setOf_lt hi]
theorem st_without_2 {i : Nat} (h : ¬ i < ws.length) : step (some (desk n ws)) (.without i) = (some (desk n ws), say (-2)) := congrArg (Prod.mk _) (if_pos (is_view_no h))
theorem st_without (d : DOk n ws) {i : Nat} (h : i < ws.length) : step (some (desk n ws)) (.without i) = (some (desk n ws), row (worldsM n (ws.eraseIdx i))) := by
  refine congrArg (Prod.mk _) ((if_neg (by rw [is_view, decide_eq_true h]; decide)).trans ?_)
  have e : ({ desk n ws with views := (desk n ws).views.take i ++ (desk n ws).views.drop (i + 1) } : Desk) = desk n (ws.eraseIdx i) := by
    show (⟨n, (ws.map vw).take i ++ (ws.map vw).drop (i + 1)⟩ : Desk) = _
    rw [take_drop, map_erase]
    rfl
  show row (worlds { desk n ws with views := (desk n ws).views.take i ++ (desk n ws).views.drop (i + 1) }) = _
  rw [e, worlds_is d.hi fun v hv => d.lt32 v (List.mem_of_mem_eraseIdx hv)]
theorem st_sure_2 {q : Nat} (h : n ≤ q) : step (some (desk n ws)) (.sure q) = (some (desk n ws), say (-2)) := congrArg (Prod.mk _) (if_pos h)
theorem st_sure_33 (d : DOk n ws) {q : Nat} (h : ¬ n ≤ q) (he : worldsM n ws = []) : step (some (desk n ws)) (.sure q) = (some (desk n ws), say (-33)) := by
  refine congrArg (Prod.mk _) ((if_neg h).trans ?_)
  show (if (worlds (desk n ws)).isEmpty then _ else _) = _
  rw [worlds_is d.hi d.lt32, he]
  rfl
theorem st_sure (d : DOk n ws) {q : Nat} (h : ¬ n ≤ q) (he : worldsM n ws ≠ []) : step (some (desk n ws)) (.sure q) = (some (desk n ws), say (if (worldsM n ws).all fun x => x.testBit q then 1 else if (worldsM n ws).all fun x => !x.testBit q then 0 else 2)) := by
  refine congrArg (Prod.mk _) ((if_neg h).trans ?_)
  show (if (worlds (desk n ws)).isEmpty then _ else say (if (worlds (desk n ws)).all fun x => x.testBit q then 1 else if (worlds (desk n ws)).all fun x => !x.testBit q then 0 else 2)) = _
  rw [worlds_is d.hi d.lt32]
  cases e : worldsM n ws with
  | nil => exact absurd e he
  | cons x r => rfl
theorem st_ask_2 {i c : Nat} (h : ¬ i < ws.length) : step (some (desk n ws)) (.ask i c) = (some (desk n ws), say (-2)) := eq_ask.trans (of_row_2 h)
theorem st_ask_2c {i c : Nat} {v : Vw} (h : ws[i]? = some v) (ok : VOk v.1 v.2) (hc : ¬ c < v.2.length) : step (some (desk n ws)) (.ask i c) = (some (desk n ws), say (-2)) := eq_ask.trans (of_row_2c h ok hc)
theorem st_ask (d : DOk n ws) {i c : Nat} {v : Vw} (h : ws[i]? = some v) (hc : c < v.2.length) : step (some (desk n ws)) (.ask i c) = (some (desk n ws), row ((worldsM n ws).filter fun x => rowM x (bits v.1) == c)) := by
  have ok := (d.each v (List.mem_of_getElem? h)).1
  refine eq_ask.trans ((of_row h ok hc).trans ?_)
  rw [worlds_is d.hi d.lt32]
  have e : (worldsM n ws).filter (fun x => rowOf x (vw v).qs == c) = (worldsM n ws).filter fun x => rowM x (bits v.1) == c := filter_congr' fun x hx => by
    have h1 := worldsM_lt hx
    have h2 := pow32 d.hi
    rw [row_is x (by omega) v.1 ok.lt]
    rfl
  rw [e]
theorem setOf_all : ∀ k, k < 7 → setOf k (2 ^ k - 1) = List.range k := by decide +kernel
/-- fewest, where some world fits all: -6 -/
theorem st_fewest_6 (d : DOk n ws) (h : worldsM n ws ≠ []) : step (some (desk n ws)) .fewest = (some (desk n ws), say (-6)) := by
  have e : fewest (desk n ws) = none := fewest_none fun s hs => by
    rw [someFits_is d.hi d.lt32 fun i hi => by rw [← off_len (n := n)]; exact setOf_lt hi]
    refine someM_mono (is := List.range ws.length) (fun i hi => List.mem_range.mpr (by rw [← off_len (n := n)]; exact setOf_lt hi)) ?_
    rw [someM_all]
    cases e : worldsM n ws with
    | nil => exact absurd e h
    | cons _ _ => rfl
  show (some (desk n ws), match fewest (desk n ws) with
        | none => say (-6)
        | some l => row l) = _
  rw [e]
/-- fewest, where none does: the one that is ahead of all others that no world fits -/
theorem st_fewest (d : DOk n ws) {s : Nat} (hs : s < 2 ^ ws.length) (hno : someM n ws (setOf ws.length s) = false) (hmin : ∀ u, u < 2 ^ ws.length → someM n ws (setOf ws.length u) = false → setOf ws.length u = setOf ws.length s ∨ ltS (setOf ws.length s) (setOf ws.length u)) :
    step (some (desk n ws)) .fewest = (some (desk n ws), row (setOf ws.length s)) := by
  have e : fewest (desk n ws) = some (setOf ws.length s) := by
    refine fewest_some ⟨s, by rw [off_len]; exact hs, by rw [off_len]⟩ ?_ ?_
    · rw [someFits_is d.hi d.lt32 fun i hi => setOf_lt hi]
      exact hno
    · rw [off_len]
      intro u hu hf
      rw [someFits_is d.hi d.lt32 fun i hi => setOf_lt hi] at hf
      exact hmin u hu hf
  show (some (desk n ws), match fewest (desk n ws) with
        | none => say (-6)
        | some l => row l) = _
  rw [e]
end
end VT

set_option maxRecDepth 100000
set_option linter.all false
/-! What the program of stage 2 computes: sets of views as numbers, worlds by such sets. Core Lean and the specification's modules alone. -/
namespace VT
open Kp351
/-- the set, as a number, of the views below i that a world fits -/
def maskAt (ws : List Vw) (x : Nat) : Nat → Nat
  | 0 => 0
  | i + 1 => if fitI ws x i = true then maskAt ws x i ||| 2 ^ i else maskAt ws x i
def maskM (ws : List Vw) (x : Nat) : Nat := maskAt ws x ws.length
theorem mask_bit (ws : List Vw) (x j : Nat) : ∀ i, (maskAt ws x i).testBit j = (decide (j < i) && fitI ws x j)
  | 0 => by
    show Nat.testBit 0 j = _
    simp
  | i + 1 => by
    have ih := mask_bit ws x j i
    show (if fitI ws x i = true then maskAt ws x i ||| 2 ^ i else maskAt ws x i).testBit j = _
    cases hf : fitI ws x i
    · rw [if_neg Bool.false_ne_true, ih]
      by_cases hj : j = i
      · subst hj
        rw [hf, Bool.and_false, Bool.and_false]
      · have e : decide (j < i + 1) = decide (j < i) := by
          by_cases h : j < i
          · rw [decide_eq_true h, decide_eq_true (by omega)]
          · rw [decide_eq_false h, decide_eq_false (by omega)]
        rw [e]
    · rw [if_pos rfl, Nat.testBit_or, ih, Nat.testBit_two_pow]
      by_cases hj : j = i
      · subst hj
        simp [hf]
      · have e : decide (j < i + 1) = decide (j < i) := by
          by_cases h : j < i
          · rw [decide_eq_true h, decide_eq_true (by omega)]
          · rw [decide_eq_false h, decide_eq_false (by omega)]
        rw [e, decide_eq_false (Ne.symm hj), Bool.or_false]
theorem mask_lt (ws : List Vw) (x : Nat) : ∀ i, maskAt ws x i < 2 ^ i
  | 0 => Nat.zero_lt_one
  | i + 1 => by
    have ih := mask_lt ws x i
    have h1 : 2 ^ i < 2 ^ (i + 1) := Nat.pow_lt_pow_right (by decide) (Nat.lt_succ_self i)
    show (if fitI ws x i = true then maskAt ws x i ||| 2 ^ i else maskAt ws x i) < _
    split
    · exact Nat.or_lt_two_pow (by omega) h1
    · omega
theorem maskM_lt {ws : List Vw} {x : Nat} (h : ws.length ≤ 6) : maskM ws x < 64 := by
  have h1 := mask_lt ws x ws.length
  have h2 : 2 ^ ws.length ≤ 2 ^ 6 := Nat.pow_le_pow_right (by decide) h
  unfold maskM
  omega
theorem mask_and {ws : List Vw} {x s : Nat} (hs : s < 2 ^ ws.length) : decide (maskM ws x &&& s = s) = (setOf ws.length s).all (fitI ws x) := by
  rw [Bool.eq_iff_iff, List.all_eq_true]
  constructor
  · intro h j hj
    have e := of_decide_eq_true h
    obtain ⟨h1, h2⟩ := setOf_mem.mp hj
    have hb : (maskM ws x &&& s).testBit j = true := by rw [e]; exact h2
    rw [Nat.testBit_and, Bool.and_eq_true] at hb
    have hm := hb.1
    unfold maskM at hm
    rw [mask_bit, Bool.and_eq_true] at hm
    exact hm.2
  · intro h
    refine decide_eq_true (Nat.eq_of_testBit_eq fun j => ?_)
    rw [Nat.testBit_and]
    cases hb : s.testBit j
    · rw [Bool.and_false]
    · have hj : j < ws.length := by
        refine Nat.lt_of_not_le fun hle => ?_
        have : s < 2 ^ j := Nat.lt_of_lt_of_le hs (Nat.pow_le_pow_right (by decide) hle)
        rw [Nat.testBit_lt_two_pow this] at hb
        cases hb
      have hf := h j (setOf_mem.mpr ⟨hj, hb⟩)
      unfold maskM
      rw [mask_bit, decide_eq_true hj, hf]
      rfl
theorem setOf_six : ∀ k, k < 7 → ∀ s, s < 2 ^ k → setOf 6 s = setOf k s := by decide +kernel
theorem setOf_five : ∀ s, s < 32 → setOf 6 s = bits s := by decide +kernel
theorem setOf_len6 (s : Nat) : (setOf 6 s).length ≤ 6 := by
  unfold setOf
  exact Nat.le_trans (List.length_filter_le _ _) (by rw [List.length_range]; exact Nat.le_refl _)
theorem mask_members {ws : List Vw} {x : Nat} (h : ws.length ≤ 6) : setOf 6 (maskM ws x) = fittedM ws x := by
  rw [setOf_six ws.length (by omega) (maskM ws x) (mask_lt ws x ws.length)]
  unfold setOf fittedM
  refine filter_congr' fun j hj => ?_
  unfold maskM
  rw [mask_bit, decide_eq_true (List.mem_range.mp hj), Bool.true_and]
/-- the worlds that fit each of a set of views -/
def fitW (n : Nat) (ws : List Vw) (s : Nat) : List Nat := (List.range (2 ^ n)).filter fun x => decide (maskM ws x &&& s = s)
theorem fitW_len {n : Nat} {ws : List Vw} {s : Nat} (h : n ≤ 5) : (fitW n ws s).length ≤ 32 := by
  unfold fitW
  refine Nat.le_trans (List.length_filter_le _ _) ?_
  rw [List.length_range]
  exact pow32 h
theorem fitW_is {n : Nat} {ws : List Vw} {s : Nat} (hs : s < 2 ^ ws.length) : fitW n ws s = (List.range (2 ^ n)).filter fun x => (setOf ws.length s).all (fitI ws x) := filter_congr' fun x _ => mask_and hs
theorem full_lt (k : Nat) : 2 ^ k - 1 < 2 ^ k := by
  have := Nat.two_pow_pos k
  omega
theorem fitW_all {n : Nat} {ws : List Vw} (h : ws.length ≤ 6) : fitW n ws (2 ^ ws.length - 1) = worldsM n ws := by
  rw [fitW_is (full_lt _), setOf_all ws.length (by omega)]
  exact filter_congr' fun x _ => all_range_fit ws x
theorem fitW_some {n : Nat} {ws : List Vw} {s : Nat} (hs : s < 2 ^ ws.length) : decide (0 < (fitW n ws s).length) = someM n ws (setOf ws.length s) := by
  rw [fitW_is hs]
  unfold someM
  rw [Bool.eq_iff_iff, List.any_eq_true]
  constructor
  · intro h
    obtain ⟨x, hx⟩ := List.exists_mem_of_length_pos (of_decide_eq_true h)
    exact ⟨x, (List.mem_filter.mp hx).1, (List.mem_filter.mp hx).2⟩
  · rintro ⟨x, h1, h2⟩
    exact decide_eq_true (List.length_pos_of_mem (List.mem_filter.mpr ⟨h1, h2⟩))
theorem setOf_but : ∀ k, k < 7 → ∀ i, i < k → setOf k (2 ^ k - 1 - 2 ^ i) = (List.range k).eraseIdx i := by decide +kernel
theorem all_but (ws : List Vw) (x i : Nat) : ((List.range ws.length).eraseIdx i).all (fitI ws x) = (ws.eraseIdx i).all (fitV x) := by
  rw [Bool.eq_iff_iff, List.all_eq_true, List.all_eq_true]
  constructor
  · intro h v hv
    obtain ⟨j, hj, e⟩ := List.mem_eraseIdx_iff_getElem?.mp hv
    rw [← fitI_at e]
    refine h j (List.mem_eraseIdx_iff_getElem?.mpr ⟨j, hj, ?_⟩)
    exact List.getElem?_range (List.getElem?_eq_some_iff.mp e).1
  · intro h j hj
    obtain ⟨m, hm, e⟩ := List.mem_eraseIdx_iff_getElem?.mp hj
    have hl : m < ws.length := by
      have := (List.getElem?_eq_some_iff.mp e).1
      rw [List.length_range] at this
      exact this
    rw [List.getElem?_range hl] at e
    obtain rfl : m = j := Option.some.inj e
    obtain ⟨v, hv⟩ := get_of_lt hl
    rw [fitI_at hv]
    exact h v (List.mem_eraseIdx_iff_getElem?.mpr ⟨m, hm, hv⟩)
theorem fitW_but {n : Nat} {ws : List Vw} {i : Nat} (h : ws.length ≤ 6) (hi : i < ws.length) : fitW n ws (2 ^ ws.length - 1 - 2 ^ i) = worldsM n (ws.eraseIdx i) := by
  rw [fitW_is (Nat.lt_of_le_of_lt (Nat.sub_le _ _) (full_lt _)), setOf_but ws.length (by omega) i hi]
  exact filter_congr' fun x _ => all_but ws x i
theorem worldsM_len {n : Nat} {ws : List Vw} (h : n ≤ 5) : (worldsM n ws).length ≤ 32 := by
  unfold worldsM
  refine Nat.le_trans (List.length_filter_le _ _) ?_
  rw [List.length_range]
  exact pow32 h
theorem worldsM_32 {n x : Nat} {ws : List Vw} (hn : n ≤ 5) (h : x ∈ worldsM n ws) : x < 32 := Nat.lt_of_lt_of_le (worldsM_lt h) (pow32 hn)
theorem pow64 {k : Nat} (h : k ≤ 6) : 2 ^ k ≤ 64 := Nat.pow_le_pow_right (by decide) h
/-! ### the order of the sets -/
theorem ahead_tri : ∀ (l m : List Nat), l.length = m.length → ahead l m = true ∨ l = m ∨ ahead m l = true
  | [], [], _ => .inr (.inl rfl)
  | [], _ :: _, h => nomatch h
  | _ :: _, [], h => nomatch h
  | a :: l, b :: m, h => by
    have e1 : ahead (a :: l) (b :: m) = (decide (a < b) || (a == b && ahead l m)) := rfl
    have e2 : ahead (b :: m) (a :: l) = (decide (b < a) || (b == a && ahead m l)) := rfl
    rw [e1, e2]
    rcases Nat.lt_trichotomy a b with h1 | h1 | h1
    · exact .inl (by rw [decide_eq_true h1]; rfl)
    · subst h1
      rcases ahead_tri l m (Nat.succ.inj h) with h2 | h2 | h2
      · exact .inl (by rw [h2]; simp)
      · exact .inr (.inl (by rw [h2]))
      · exact .inr (.inr (by rw [h2]; simp))
    · exact .inr (.inr (by rw [decide_eq_true h1]; rfl))
theorem ltS_tri (l m : List Nat) : ltS l m ∨ l = m ∨ ltS m l := by
  rcases Nat.lt_trichotomy l.length m.length with h | h | h
  · exact .inl (.inl h)
  · rcases ahead_tri l m h with h2 | h2 | h2
    · exact .inl (.inr ⟨h, h2⟩)
    · exact .inr (.inl h2)
    · exact .inr (.inr (.inr ⟨h.symm, h2⟩))
  · exact .inr (.inr (.inl h))
/-- the sets of views that can't be together -/
def apartM (n : Nat) (ws : List Vw) : List Nat := (List.range (2 ^ ws.length)).filter fun s => !someM n ws (setOf ws.length s)
theorem apartM_len {n : Nat} {ws : List Vw} (h : ws.length ≤ 6) : (apartM n ws).length ≤ 64 := by
  unfold apartM
  refine Nat.le_trans (List.length_filter_le _ _) ?_
  rw [List.length_range]
  exact pow64 h
theorem apart_nil {n : Nat} {ws : List Vw} (h6 : ws.length ≤ 6) (h : apartM n ws = []) : worldsM n ws ≠ [] := by
  intro e
  have hm : 2 ^ ws.length - 1 ∈ apartM n ws := by
    refine List.mem_filter.mpr ⟨List.mem_range.mpr (full_lt _), ?_⟩
    show (!someM n ws (setOf ws.length (2 ^ ws.length - 1))) = true
    rw [setOf_all ws.length (by omega), someM_all, e]
    rfl
  rw [h] at hm
  cases hm
/-- the least of those that can't be together is the one told -/
theorem st_fewest_at {n : Nat} {ws : List Vw} (d : DOk n ws) {s : Nat} (hs : s ∈ apartM n ws) (hmin : ∀ u ∈ apartM n ws, ¬ ltS (setOf 6 u) (setOf 6 s)) : step (some (desk n ws)) .fewest = (some (desk n ws), row (setOf 6 s)) := by
  have h6 := d.len
  have at_ : ∀ u, u ∈ apartM n ws → u < 2 ^ ws.length ∧ someM n ws (setOf ws.length u) = false := fun u hu => by
    have h1 := (List.mem_filter.mp hu)
    exact ⟨List.mem_range.mp h1.1, by simpa using h1.2⟩
  obtain ⟨h1, h2⟩ := at_ s hs
  rw [setOf_six ws.length (by omega) s h1]
  refine st_fewest d h1 h2 fun u hu hf => ?_
  have hm : u ∈ apartM n ws := List.mem_filter.mpr ⟨List.mem_range.mpr hu, by rw [hf]; rfl⟩
  have h3 := hmin u hm
  rw [setOf_six ws.length (by omega) s h1, setOf_six ws.length (by omega) u hu] at h3
  rcases ltS_tri (setOf ws.length u) (setOf ws.length s) with h | h | h
  · exact absurd h h3
  · exact .inl h
  · exact .inr h
/-! ### sure -/
def bitM (q x : Nat) : Nat := x / 2 ^ q % 2
theorem bit_test (q x : Nat) : x.testBit q = (bitM q x == 1) := by
  rw [Nat.testBit_eq_decide_div_mod_eq]
  unfold bitM
  by_cases h : x / 2 ^ q % 2 = 1
  · rw [h]; rfl
  · rw [decide_eq_false h]
    exact (beq_eq_false_iff_ne.mpr h).symm
theorem bit_le (q x : Nat) : bitM q x ≤ 1 := by
  unfold bitM
  omega
theorem sure_is {l : List Nat} {q x : Nat} {r : List Nat} (hl : l = x :: r) {a b : Nat} (ha : a ∈ l.map (bitM q)) (hb : b ∈ l.map (bitM q)) (hal : ∀ y ∈ l.map (bitM q), a ≤ y) (hbl : ∀ y ∈ l.map (bitM q), y ≤ b) :
    (if l.all fun x => x.testBit q then (1 : Int) else if l.all fun x => !x.testBit q then 0 else 2) = if a = b then ((bitM q x : Nat) : Int) else 2 := by
  have hx : bitM q x ∈ l.map (bitM q) := List.mem_map.mpr ⟨x, by rw [hl]; exact List.mem_cons_self .., rfl⟩
  have e1 : (l.all fun x => x.testBit q) = decide (a = 1) := by
    rw [Bool.eq_iff_iff, List.all_eq_true]
    obtain ⟨y, hy, rfl⟩ := List.mem_map.mp ha
    constructor
    · intro h
      have := h y hy
      rw [bit_test] at this
      exact decide_eq_true (eq_of_beq this)
    · intro h z hz
      have h1 := hal _ (List.mem_map.mpr ⟨z, hz, rfl⟩)
      have h2 := of_decide_eq_true h
      have h3 := bit_le q z
      rw [bit_test]
      have : bitM q z = 1 := by omega
      rw [this]
      rfl
  have e2 : (l.all fun x => !x.testBit q) = decide (b = 0) := by
    rw [Bool.eq_iff_iff, List.all_eq_true]
    obtain ⟨y, hy, rfl⟩ := List.mem_map.mp hb
    constructor
    · intro h
      have := h y hy
      rw [bit_test] at this
      have h3 := bit_le q y
      refine decide_eq_true ?_
      by_cases h4 : bitM q y = 1
      · rw [h4] at this
        cases this
      · omega
    · intro h z hz
      have h1 := hbl _ (List.mem_map.mpr ⟨z, hz, rfl⟩)
      have h2 := of_decide_eq_true h
      rw [bit_test]
      have : bitM q z = 0 := by omega
      rw [this]
      rfl
  have h1 := hal _ hx
  have h2 := hbl _ hx
  have h3 : b ≤ 1 := by
    obtain ⟨y, _, rfl⟩ := List.mem_map.mp hb
    exact bit_le q y
  have h4 := hal _ hb
  rw [e1, e2]
  by_cases ea : a = 1
  · rw [if_pos (decide_eq_true ea), if_pos (by omega)]
    have : bitM q x = 1 := by omega
    rw [this]
    rfl
  · rw [if_neg (by simpa using ea)]
    by_cases eb : b = 0
    · rw [if_pos (decide_eq_true eb), if_pos (by omega)]
      have : bitM q x = 0 := by omega
      rw [this]
      rfl
    · rw [if_neg (by simpa using eb), if_neg (by omega)]
/-! ### lonely -/
/-- the lonely rows of the views below i -/
def lonUp (n : Nat) (ws : List Vw) (i : Nat) : List (Nat × Nat) := (List.range i).flatMap fun i => ((ws[i]?.map (lonelyV n ws)).getD []).map fun c => (i, c)
theorem lonUp_all (n : Nat) (ws : List Vw) : lonUp n ws ws.length = lonelyM n ws := rfl
theorem lonUp_succ {n : Nat} {ws : List Vw} {i : Nat} {v : Vw} (h : ws[i]? = some v) : lonUp n ws (i + 1) = lonUp n ws i ++ (lonelyV n ws v).map fun c => (i, c) := by
  unfold lonUp
  rw [List.range_succ, List.flatMap_append, List.flatMap_cons, List.flatMap_nil, List.append_nil, h]
  rfl
def lonB (n : Nat) (ws : List Vw) (v : Vw) (c : Nat) : Bool := decide (0 < v.2.getD c 0) && !shownM n ws v c
/-- .. and of view i below row c -/
def lonAt (n : Nat) (ws : List Vw) (v : Vw) (i c : Nat) : List (Nat × Nat) := lonUp n ws i ++ ((List.range c).filter (lonB n ws v)).map fun c => (i, c)
theorem lonAt_zero (n : Nat) (ws : List Vw) (v : Vw) (i : Nat) : lonAt n ws v i 0 = lonUp n ws i := by
  unfold lonAt
  rw [List.range_zero, List.filter_nil, List.map_nil, List.append_nil]
theorem lonAt_all {n : Nat} {ws : List Vw} {i : Nat} {v : Vw} (h : ws[i]? = some v) : lonAt n ws v i v.2.length = lonUp n ws (i + 1) := by
  rw [lonUp_succ h]
  rfl
theorem lonAt_yes {n : Nat} {ws : List Vw} {v : Vw} {i c : Nat} (h : lonB n ws v c = true) : lonAt n ws v i (c + 1) = lonAt n ws v i c ++ [(i, c)] := by
  unfold lonAt
  rw [List.range_succ, List.filter_append, List.filter_cons, if_pos h, List.filter_nil, List.map_append, ← List.append_assoc]
  rfl
theorem lonAt_no {n : Nat} {ws : List Vw} {v : Vw} {i c : Nat} (h : lonB n ws v c = false) : lonAt n ws v i (c + 1) = lonAt n ws v i c := by
  unfold lonAt
  rw [List.range_succ, List.filter_append, List.filter_cons, if_neg (by rw [h]; exact Bool.false_ne_true), List.filter_nil, List.append_nil]
def flat2 (l : List (Nat × Nat)) : List Nat := l.flatMap fun x => [x.1, x.2]
theorem flat2_snoc (l : List (Nat × Nat)) (x : Nat × Nat) : flat2 (l ++ [x]) = flat2 l ++ [x.1, x.2] := by
  unfold flat2
  rw [List.flatMap_append]
  rfl
theorem flat2_len : ∀ l : List (Nat × Nat), (flat2 l).length = 2 * l.length
  | [] => rfl
  | x :: l => by
    show ((flat2 l).length + 1) + 1 = 2 * (l.length + 1)
    rw [flat2_len l]
    omega
theorem lonelyA_is : ∀ l : List (Nat × Nat), (l.flatMap fun x => [(x.1 : Int), (x.2 : Int)]) = (flat2 l).map fun (x : Nat) => (x : Int)
  | [] => rfl
  | x :: l => by
    show (x.1 : Int) :: (x.2 : Int) :: (l.flatMap fun x => [(x.1 : Int), (x.2 : Int)]) = (x.1 : Int) :: (x.2 : Int) :: (flat2 l).map fun (x : Nat) => (x : Int)
    rw [lonelyA_is l]
theorem lonUp_len {n : Nat} {ws : List Vw} (h : ∀ v ∈ ws, v.2.length ≤ 8) : ∀ i, i ≤ ws.length → (lonUp n ws i).length ≤ 8 * i
  | 0, _ => by
    unfold lonUp
    exact Nat.le_refl _
  | i + 1, hi => by
    obtain ⟨v, hv⟩ := get_of_lt (l := ws) (i := i) (by omega)
    rw [lonUp_succ hv, List.length_append, List.length_map]
    have ih := lonUp_len (n := n) h i (by omega)
    have h1 : (lonelyV n ws v).length ≤ 8 := by
      unfold lonelyV
      refine Nat.le_trans (List.length_filter_le _ _) ?_
      rw [List.length_range]
      exact h v (List.mem_of_getElem? hv)
    omega
theorem lonAt_len {n : Nat} {ws : List Vw} {v : Vw} (h : ∀ v ∈ ws, v.2.length ≤ 8) {i c : Nat} (hi : i ≤ ws.length) (h6 : ws.length ≤ 6) (hc : c ≤ 8) : (lonAt n ws v i c).length ≤ 56 := by
  unfold lonAt
  rw [List.length_append, List.length_map]
  have h1 := lonUp_len (n := n) h i hi
  have h2 : ((List.range c).filter (lonB n ws v)).length ≤ 8 := by
    refine Nat.le_trans (List.length_filter_le _ _) ?_
    rw [List.length_range]
    exact hc
  omega
/-- the worlds that fit all views and show row c of this one -/
def showM (n : Nat) (ws : List Vw) (v : Vw) (c : Nat) : List Nat := (worldsM n ws).filter fun x => rowM x (bits v.1) == c
theorem show_some (n : Nat) (ws : List Vw) (v : Vw) (c : Nat) : decide (0 < (showM n ws v c).length) = shownM n ws v c := by
  unfold showM shownM
  rw [Bool.eq_iff_iff, List.any_eq_true]
  constructor
  · intro h
    obtain ⟨x, hx⟩ := List.exists_mem_of_length_pos (of_decide_eq_true h)
    exact ⟨x, (List.mem_filter.mp hx).1, (List.mem_filter.mp hx).2⟩
  · rintro ⟨x, h1, h2⟩
    exact decide_eq_true (List.length_pos_of_mem (List.mem_filter.mpr ⟨h1, h2⟩))
theorem showM_len {n : Nat} {ws : List Vw} {v : Vw} {c : Nat} (h : n ≤ 5) : (showM n ws v c).length ≤ 32 := Nat.le_trans (List.length_filter_le _ _) (worldsM_len h)
end VT

set_option Elab.async false
set_option linter.all false
set_option maxRecDepth 100000
set_option maxHeartbeats 2000000
namespace VT
open PySem PySem.Spec PyProof.Rows L2
open PySem.W (Codec)
/-! ### the text by places -/
def top (i : Nat) : Stmt := PySem.Challenge.pw_viewtables_s01_answers.main.body.getD i (.Pass ⟨0, 0, 0, 0⟩)
abbrev sMembers : Stmt := top 17
abbrev sRowCount : Stmt := top 18
abbrev sRowOf : Stmt := top 19
abbrev sWorldOf : Stmt := top 20
abbrev sCommon : Stmt := top 21
abbrev sFraction : Stmt := top 22
def nats (l : List Nat) : List V := l.map fun (x : Nat) => V.int (x : Int)
theorem same_upd {H : Hp} {p : Addr} {o : HO} (h : H p = none) : Same H (upd H p o) := fun b x e => by
  rw [upd_ne (ne_of_none e h)]
  exact e
/-- what names of Python's own the program has left as they are -/
structure Own (mg : Str → Option Value) : Prop where
  range : mg "range" = none
  len : mg "len" = none
  enumerate : mg "enumerate" = none
  sum : mg "sum" = none
  min : mg "min" = none
  max : mg "max" = none
  any : mg "any" = none
theorem bit_nat (s i : Nat) : Builtin.bitAnd ((s : Int) / 2 ^ (0 + (i : Int)).toNat) 1 = ((s / 2 ^ i % 2 : Nat) : Int) := by
  rw [PyProof.Rows.bitAnd_m1, show (0 + (i : Int)).toNat = i by omega]
  simp
theorem beq_cast (a b : Nat) : (((a : Int)) == (b : Int)) = (a == b) := by
  by_cases h : a = b
  · subst h; simp
  · rw [beq_eq_false_iff_ne.mpr h]
    exact beq_eq_false_iff_ne.mpr (by omega)
theorem ite_b {c c' : Bool} {A B : Prop} (e : c = c') (h1 : c' = true → A) (h2 : c' = false → B) : if c = true then A else B := by
  subst e
  cases h : c
  · rw [if_neg Bool.false_ne_true]; exact h2 h
  · rw [if_pos rfl]; exact h1 h
theorem range_filter_yes (p : Nat → Bool) (i : Nat) (h : p i = true) : (List.range (i + 1)).filter p = (List.range i).filter p ++ [i] := by
  rw [List.range_succ, List.filter_append, List.filter_cons, if_pos h, List.filter_nil]
theorem range_filter_no (p : Nat → Bool) (i : Nat) (h : p i = false) : (List.range (i + 1)).filter p = (List.range i).filter p := by
  rw [List.range_succ, List.filter_append, List.filter_cons, if_neg (by rw [h]; exact Bool.false_ne_true), List.filter_nil, List.append_nil]
/-! ### members -/
def spMembers6 : Sp := fun vs H Q _ => ∃ s : Nat, vs = [.int (s : Int)] ∧ s < 64 ∧ ∀ H' p, H p = none → Same H H' → H' p = some (.lst (nats (Kp351.setOf 6 s))) → Q (.ref p) H'
def spMembers : Sp := fun vs H Q _ => ∃ s : Nat, vs = [.int (s : Int)] ∧ s < 32 ∧ ∀ H' p, H p = none → Same H H' → H' p = some (.lst (nats (bits s))) → Q (.ref p) H'
theorem scMembers : FnScope ["chosen", "k"] ["chosen"] (defScope sMembers) := ⟨rfl, rfl, rfl, by decide +kernel, rfl, by decide +kernel, by decide +kernel⟩
theorem bits_len : ∀ s, s < 64 → ((List.range (Builtin.Int.intBits (s : Nat))).filter fun k => s / 2 ^ k % 2 == 1) = Kp351.setOf 6 s := by decide +kernel
theorem intBits_le : ∀ s, s < 64 → Builtin.Int.intBits (s : Nat) ≤ 6 := by decide +kernel
section
variable {P : Program} {w : World} {K : PySem.W.Frag} {mg : Str → Option Value} {base : Heap}
theorem ok_members6 {f : Addr} {fd : FuncData} {k : Nat} (F : Fun K "members" "members" sMembers f fd) (T : Own mg) : FnOk P w K mg base CX0 (k + 1) f fd ["chosen"] spMembers6 := by
  refine F.ok scMembers (fun vs H Q E h => ?_) (fun cdv A outer s0 H vs Q E hr h => ?_)
  · obtain ⟨s, rfl, _⟩ := h
    rfl
  · obtain ⟨s, rfl, hs, q⟩ := h
    refine ⟨_, pss_one (ps_ret (pe_lc (own := [("k", 1)]) (g := gName 1) rfl scMembers.nd (pi_range1 rfl T.range (pa_cons (pe_bits (pv 0)) pa_nil)) (blkOk_by (N := ["chosen", "k"]) (sc := defScope sMembers) (by decide +kernel))
      (fun _ _ _ _ _ => pg_name (i := 1) scMembers.nd rfl (Or.inl rfl))
      (fun _ _ _ _ _ => pts_one (pt_cmpR op_eq (pe_op op_and (pe_op op_shr (pv 0) (pv 1)) pe_int) pe_int (nomark _)))
      (fun _ _ _ _ _ => pv 1))), ?_⟩
    refine ⟨_, rfl, _, rfl, _, rfl, ?_⟩
    have hb := intBits_le s hs
    refine ⟨by omega, by omega, fun D nD => ?_⟩
    have sD : Same H (upd H D (.lst [])) := same_upd nD
    refine lc_range (lo := 0) (n := ((Builtin.Int.intBits (s : Nat) : Nat) : Int).toNat) (fun i H' => Same H H' ∧ H' D = some (.lst (nats ((List.range i).filter fun k => s / 2 ^ k % 2 == 1)))) ⟨sD, upd_same⟩ ?_ ?_
    · rintro i H' hi ⟨sm, hD⟩
      refine ⟨rfl, _, rfl, _, rfl, _, _, rfl, rfl, (by show (0 : Int) ≤ 0 + i; omega), _, _, rfl, rfl, rfl, _, rfl, ?_⟩
      have e : Builtin.bitAnd ((s : Int) / 2 ^ (0 + (i : Int)).toNat) 1 = ((s / 2 ^ i % 2 : Nat) : Int) := bit_nat s i
      have e2 : decide (V.int (Builtin.bitAnd ((s : Int) / 2 ^ (0 + (i : Int)).toNat) 1) = V.int 1) = (s / 2 ^ i % 2 == 1) := by
        rw [e, dec_int]
        exact beq_cast _ 1
      refine ite_b (c' := s / 2 ^ i % 2 == 1) e2 (fun h => ?_) (fun h => ?_)
      · refine ⟨_, rfl, _, hD, ?_, fun b o q => ?_, ?_⟩
        · unfold nats
          rw [List.length_map]
          exact small1000 (Nat.le_trans (List.length_filter_le _ _) (by rw [List.length_range]; omega))
        · rw [upd_ne (ne_of_none q nD)]
          exact sm b o q
        · rw [upd_same, range_filter_yes _ i h, show (0 + (i : Int)) = (i : Int) by omega]
          unfold nats
          rw [List.map_append]
          rfl
      · exact ⟨sm, by rw [range_filter_no _ i h]; exact hD⟩
    · rintro H' ⟨sm, hD⟩
      rw [Int.toNat_natCast, bits_len s hs] at hD
      exact q _ _ nD sm hD
theorem ok_members {f : Addr} {fd : FuncData} {k : Nat} (F : Fun K "members" "members" sMembers f fd) (T : Own mg) : FnOk P w K mg base CX0 (k + 1) f fd ["chosen"] spMembers :=
  (ok_members6 F T).imp fun vs H Q E ⟨s, e, hs, q⟩ => ⟨s, e, by omega, fun H' p np sm hp => q H' p np sm (by rw [hp, setOf_five s hs])⟩
end
end VT

set_option Elab.async false
set_option linter.all false
set_option maxRecDepth 100000
set_option maxHeartbeats 2000000
namespace VT
open PySem PySem.Spec PyProof.Rows L2
open PySem.W (Codec)
theorem take_snoc {α : Type} : ∀ {l : List α} {i : Nat} {x : α}, l[i]? = some x → l.take (i + 1) = l.take i ++ [x]
  | [], i, x, h => by simp at h
  | a :: l, 0, x, h => by
    have e : a = x := Option.some.inj h
    subst e
    rfl
  | a :: l, i + 1, x, h => by
    have ih := take_snoc (l := l) (i := i) (x := x) h
    show a :: l.take (i + 1) = a :: l.take i ++ [x]
    rw [ih]
    rfl
theorem zip_snoc {l : List Nat} {i q : Nat} (h : l[i]? = some q) : (l.take (i + 1)).zipIdx = (l.take i).zipIdx ++ [(q, i)] := by
  have hi : i < l.length := (List.getElem?_eq_some_iff.mp h).1
  rw [take_snoc h, List.zipIdx_append, List.length_take, Nat.min_eq_left (Nat.le_of_lt hi), Nat.zero_add]
  rfl
theorem rowM_snoc {x : Nat} {l : List Nat} {i q : Nat} (h : l[i]? = some q) : rowM x (l.take (i + 1)) = rowM x (l.take i) ||| ((x / 2 ^ q % 2) * 2 ^ i) := by
  unfold rowM
  rw [zip_snoc h, List.foldl_append]
  rfl
theorem worldM_snoc {x : Nat} {l : List Nat} {i q : Nat} (h : l[i]? = some q) : worldM x (l.take (i + 1)) = worldM x (l.take i) ||| ((x / 2 ^ i % 2) * 2 ^ q) := by
  unfold worldM
  rw [zip_snoc h, List.foldl_append]
  rfl
theorem or_nat (a x q i : Nat) : Builtin.bitOr (a : Int) (Builtin.bitAnd ((x : Int) / 2 ^ (q : Int).toNat) 1 * 2 ^ (i : Int).toNat) = ((a ||| ((x / 2 ^ q % 2) * 2 ^ i) : Nat) : Int) := by
  have e : Builtin.bitAnd ((x : Int) / 2 ^ (q : Int).toNat) 1 * 2 ^ (i : Int).toNat = (((x / 2 ^ q % 2) * 2 ^ i : Nat) : Int) := by
    rw [PyProof.Rows.bitAnd_m1, Int.toNat_natCast, Int.toNat_natCast]
    simp
  rw [e, L2.bitOr_nn (Int.natCast_nonneg _) (Int.natCast_nonneg _), Int.toNat_natCast, Int.toNat_natCast]
theorem bit_small (x q : Nat) : (Builtin.bitAnd ((x : Int) / 2 ^ (q : Int).toNat) 1).natAbs < 2 ^ 64 := by
  rw [PyProof.Rows.bitAnd_m1]
  have : ((x : Int) / 2 ^ (q : Int).toNat) % 2 < 2 := Int.emod_lt_of_pos _ (by decide)
  have h2 : 0 ≤ ((x : Int) / 2 ^ (q : Int).toNat) % 2 := Int.emod_nonneg _ (by decide)
  omega
theorem nats_get {l : List Nat} {i : Nat} {v : V} (h : (nats l)[i]? = some v) : ∃ q : Nat, l[i]? = some q ∧ v = .int (q : Int) := by
  unfold nats at h
  rw [List.getElem?_map] at h
  cases e : l[i]? with
  | none => rw [e] at h; cases h
  | some q => rw [e] at h; exact ⟨q, rfl, (Option.some.inj h).symm⟩
theorem nats_len (l : List Nat) : (nats l).length = l.length := by unfold nats; rw [List.length_map]
theorem nats_at {l : List Nat} {i q : Nat} (h : l[i]? = some q) : (nats l)[i]? = some (.int (q : Int)) := by
  unfold nats
  rw [List.getElem?_map, h]
  rfl
/-- a def of the text, ready to be called -/
structure Def (K : PySem.W.Frag) (mg : Str → Option Value) (x qual : Str) (st : Stmt) (ps : List Str) (f : Addr) (fd : FuncData) : Prop where
  fn : Fun K x qual st f fd
  g : mg x = some (.ref f)
  b : Binds K fd ps []
def spRowCount : Sp := fun vs H Q _ => ∃ s : Nat, vs = [.int (s : Int)] ∧ s < 32 ∧ ∀ H', Same H H' → Q (.int ((2 ^ (bits s).length : Nat) : Int)) H'
def spRowOf : Sp := fun vs H Q _ => ∃ x s : Nat, vs = [.int (x : Int), .int (s : Int)] ∧ s < 32 ∧ ∀ H', Same H H' → Q (.int (rowM x (bits s) : Nat)) H'
def spWorldOf : Sp := fun vs H Q _ => ∃ x s : Nat, vs = [.int (x : Int), .int (s : Int)] ∧ s < 32 ∧ ∀ H', Same H H' → Q (.int (worldM x (bits s) : Nat)) H'
theorem scRowCount : FnScope ["questions"] ["questions"] (defScope sRowCount) := ⟨rfl, rfl, rfl, by decide +kernel, rfl, by decide +kernel, by decide +kernel⟩
theorem scRowOf : FnScope ["world", "questions", "row", "place", "question"] ["world", "questions"] (defScope sRowOf) := ⟨rfl, rfl, rfl, by decide +kernel, rfl, by decide +kernel, by decide +kernel⟩
theorem scWorldOf : FnScope ["row", "questions", "world", "place", "question"] ["row", "questions"] (defScope sWorldOf) := ⟨rfl, rfl, rfl, by decide +kernel, rfl, by decide +kernel, by decide +kernel⟩
section
variable {P : Program} {w : World} {K : PySem.W.Frag} {mg : Str → Option Value} {base : Heap}
theorem ok_row_count {f f1 : Addr} {fd fd1 : FuncData} (F : Fun K "row_count" "row_count" sRowCount f fd) (T : Own mg) (D1 : Def K mg "members" "members" sMembers ["chosen"] f1 fd1) : FnOk P w K mg base CX0 2 f fd ["questions"] spRowCount := by
  have G1 : FnOk P w K mg base CX0 1 f1 fd1 ["chosen"] spMembers := ok_members D1.fn T
  refine F.ok scRowCount (fun vs H Q E h => ?_) (fun cdv A outer s0 H vs Q E hr h => ?_)
  · obtain ⟨s, rfl, _⟩ := h
    rfl
  · obtain ⟨s, rfl, hs, q⟩ := h
    refine ⟨_, pss_one (ps_ret (pe_op op_shl pe_int (pe_callB call_len_seq (by rfl) T.len PySem.boot_len (pa_cons (pe_call G1 hr rfl D1.g D1.fn.kp D1.b .nil pass0 (pa_cons (pv 0) pa_nil)) pa_nil)))), ?_⟩
    refine ⟨_, rfl, s, rfl, hs, fun H' p np sm hp => ?_⟩
    refine ⟨p, _, rfl, .inl (SqL.of hp), _, _, rfl, rfl, ?_, ?_⟩
    · have := len_bits_le s hs
      rw [nats_len]
      exact ⟨by omega, by omega, by decide⟩
    · have e : (1 : Int) * 2 ^ ((nats (bits s)).length : Int).toNat = ((2 ^ (bits s).length : Nat) : Int) := by
        rw [nats_len, Int.toNat_natCast]
        simp
      show Q (.int (1 * 2 ^ ((nats (bits s)).length : Int).toNat)) H'
      rw [e]
      exact q H' sm
theorem ok_row_of {f f1 : Addr} {fd fd1 : FuncData} (F : Fun K "row_of" "row_of" sRowOf f fd) (T : Own mg) (D1 : Def K mg "members" "members" sMembers ["chosen"] f1 fd1) : FnOk P w K mg base CX0 2 f fd ["world", "questions"] spRowOf := by
  have G1 : FnOk P w K mg base CX0 1 f1 fd1 ["chosen"] spMembers := ok_members D1.fn T
  refine F.ok scRowOf (fun vs H Q E h => ?_) (fun cdv A outer s0 H vs Q E hr h => ?_)
  · obtain ⟨x, s, rfl, _⟩ := h
    rfl
  · obtain ⟨x, s, rfl, hs, q⟩ := h
    refine ⟨_, pss_cons (ps_set (i := 2) scRowOf.nd rfl (Or.inl rfl) pe_int)
      (pss_cons (ps_for PassesOwn.never rfl (pi_enum (by rfl) T.enumerate (pa_cons (pe_call G1 hr rfl D1.g D1.fn.kp D1.b .nil pass0 (pa_cons (pv 1) pa_nil)) pa_nil))
          (pg_tup rfl (pgs_cons (pg_name (i := 3) scRowOf.nd rfl (.inl rfl)) (pgs_cons (pg_name (i := 4) scRowOf.nd rfl (.inl rfl)) pgs_nil)))
        (pss_one (ps_aug (i := 2) scRowOf.nd rfl (Or.inl rfl) (pe_op op_shl (pe_op op_and (pe_op op_shr (pv 0) (pv 4)) pe_int) (pv 3)) iop_or)))
      (pss_one (ps_ret (pv 2)))), ?_⟩
    refine ⟨_, rfl, s, rfl, hs, fun H1 p np sm hp => ?_⟩
    refine ⟨p, _, rfl, SqL.of hp, for_it (walk_enum (xs := nats (bits s))) (fun i σ H' => Same H1 H' ∧ ∃ v3 v4, σ = [some (.int (x : Int)), some (.int (s : Int)), some (.int (rowM x ((bits s).take i) : Nat)), v3, v4])
      ⟨Same.refl _, none, none, rfl⟩ (fun i σ H' _ h => SqL.of (h.1 _ _ hp)) ?_ ?_⟩
    · rintro i y σ H2 H3 hi ⟨s2, v3, v4, rfl⟩ ⟨T1, a1, a2, rfl, nT, rfl, e1, e2⟩
      obtain rfl := (Option.some.inj e1)
      obtain ⟨q1, h1, rfl⟩ := nats_get e2
      refine ⟨T1, _, rfl, SqT.of upd_same, rfl, _, _, rfl, _, _, rfl, rfl, ?_⟩
      have hq : q1 < 5 := bits_lt s hs q1 (List.mem_of_getElem? h1)
      rw [nats_len] at hi
      have hl := len_bits_le s hs
      refine ⟨_, rfl, _, rfl, _, rfl, _, _, rfl, rfl, (by show (0 : Int) ≤ (q1 : Int); omega), _, _, rfl, rfl, _, rfl, _, _, rfl, rfl, ⟨by omega, by omega, bit_small x q1⟩, _, _, rfl, rfl, ?_⟩
      refine ⟨s2.trans (same_upd nT), some (.int (i : Nat)), some (.int (q1 : Int)), ?_⟩
      rw [rowM_snoc h1, ← or_nat]
      rfl
    · rintro σ H' ⟨s2, v3, v4, rfl⟩
      refine ⟨_, rfl, ?_⟩
      rw [nats_len, List.take_length]
      exact q H' (sm.trans s2)
theorem ok_world_of {f f1 : Addr} {fd fd1 : FuncData} (F : Fun K "world_of" "world_of" sWorldOf f fd) (T : Own mg) (D1 : Def K mg "members" "members" sMembers ["chosen"] f1 fd1) : FnOk P w K mg base CX0 2 f fd ["row", "questions"] spWorldOf := by
  have G1 : FnOk P w K mg base CX0 1 f1 fd1 ["chosen"] spMembers := ok_members D1.fn T
  refine F.ok scWorldOf (fun vs H Q E h => ?_) (fun cdv A outer s0 H vs Q E hr h => ?_)
  · obtain ⟨x, s, rfl, _⟩ := h
    rfl
  · obtain ⟨x, s, rfl, hs, q⟩ := h
    refine ⟨_, pss_cons (ps_set (i := 2) scWorldOf.nd rfl (Or.inl rfl) pe_int)
      (pss_cons (ps_for PassesOwn.never rfl (pi_enum (by rfl) T.enumerate (pa_cons (pe_call G1 hr rfl D1.g D1.fn.kp D1.b .nil pass0 (pa_cons (pv 1) pa_nil)) pa_nil))
          (pg_tup rfl (pgs_cons (pg_name (i := 3) scWorldOf.nd rfl (.inl rfl)) (pgs_cons (pg_name (i := 4) scWorldOf.nd rfl (.inl rfl)) pgs_nil)))
        (pss_one (ps_aug (i := 2) scWorldOf.nd rfl (Or.inl rfl) (pe_op op_shl (pe_op op_and (pe_op op_shr (pv 0) (pv 3)) pe_int) (pv 4)) iop_or)))
      (pss_one (ps_ret (pv 2)))), ?_⟩
    refine ⟨_, rfl, s, rfl, hs, fun H1 p np sm hp => ?_⟩
    refine ⟨p, _, rfl, SqL.of hp, for_it (walk_enum (xs := nats (bits s))) (fun i σ H' => Same H1 H' ∧ ∃ v3 v4, σ = [some (.int (x : Int)), some (.int (s : Int)), some (.int (worldM x ((bits s).take i) : Nat)), v3, v4])
      ⟨Same.refl _, none, none, rfl⟩ (fun i σ H' _ h => SqL.of (h.1 _ _ hp)) ?_ ?_⟩
    · rintro i y σ H2 H3 hi ⟨s2, v3, v4, rfl⟩ ⟨T1, a1, a2, rfl, nT, rfl, e1, e2⟩
      obtain rfl := (Option.some.inj e1)
      obtain ⟨q1, h1, rfl⟩ := nats_get e2
      refine ⟨T1, _, rfl, SqT.of upd_same, rfl, _, _, rfl, _, _, rfl, rfl, ?_⟩
      have hq : q1 < 5 := bits_lt s hs q1 (List.mem_of_getElem? h1)
      rw [nats_len] at hi
      have hl := len_bits_le s hs
      refine ⟨_, rfl, _, rfl, _, rfl, _, _, rfl, rfl, (by show (0 : Int) ≤ (i : Int); omega), _, _, rfl, rfl, _, rfl, _, _, rfl, rfl, ⟨by omega, by omega, bit_small x i⟩, _, _, rfl, rfl, ?_⟩
      refine ⟨s2.trans (same_upd nT), some (.int (i : Nat)), some (.int (q1 : Int)), ?_⟩
      rw [worldM_snoc h1, ← or_nat]
      rfl
    · rintro σ H' ⟨s2, v3, v4, rfl⟩
      refine ⟨_, rfl, ?_⟩
      rw [nats_len, List.take_length]
      exact q H' (sm.trans s2)
end
end VT

set_option Elab.async false
set_option linter.all false
set_option maxRecDepth 100000
set_option maxHeartbeats 2000000
namespace VT
open PySem PySem.Spec PyProof.Rows L2
open PySem.W (Codec)
/-- xs[k] read, for xs[k] op= e -/
theorem get_list {X : Cx} : PGet X (rIxL X.K) := by
  intro pins s σ H x y v u Q I rx ry h
  obtain ⟨p, xs, i, z, rfl, rfl, hq, he, q⟩ := h
  cases rx
  obtain ⟨t, rfl⟩ := ry
  obtain ⟨its, r, pl, hz⟩ := I.list hq
  obtain ⟨j, h1, h2, h3, h4, h5⟩ := atI_get he
  obtain ⟨w, ew, rw'⟩ := r.get h2
  have hl := r.length
  have hn := line63
  have fin : EP X pins σ Q w s := ⟨z, H, I, rw', q⟩
  by_cases h0 : 0 ≤ i
  · have hj : i.toNat = j := by
      rw [seqIndex_of h0 h5] at h1
      exact Option.some.inj h1
    exact wpAny_getItem_list pl.isList h0 (by omega) (by rw [hj]; simpa using ew) fin
  · have hj : (i + (its.toArray.size : Int)).toNat = j := by
      rw [seqIndex_neg (by omega) h4] at h1
      rw [List.size_toArray, ← hl]
      exact Option.some.inj h1
    exact wpAny_getItem_list_neg pl.isList (by omega) (by rw [List.size_toArray] <;> omega) (by omega) (by rw [hj]; simpa using ew) fin
def frV (x : Kp340.Fr) : List V := [.int x.1, .int x.2]
def spCommon : Sp := fun vs H Q _ => ∃ a b : Nat, vs = [.int (a : Int), .int (b : Int)] ∧ Q (.int (Nat.gcd a b : Nat)) H
def spFraction : Sp := fun vs H Q _ => ∃ a b : Nat, vs = [.int (a : Int), .int (b : Int)] ∧ 0 < b ∧ b < 1000000 ∧ ∀ H' p, H p = none → Same H H' → H' p = some (.lst (frV (Kp340.fr (a : Int) (b : Int)))) → Q (.ref p) H'
theorem scCommon : FnScope ["first", "second", "rest"] ["first", "second"] (defScope sCommon) := ⟨rfl, rfl, rfl, by decide +kernel, rfl, by decide +kernel, by decide +kernel⟩
theorem scFraction : FnScope ["part", "whole", "shared"] ["part", "whole"] (defScope sFraction) := ⟨rfl, rfl, rfl, by decide +kernel, rfl, by decide +kernel, by decide +kernel⟩
section
variable {P : Program} {w : World} {K : PySem.W.Frag} {mg : Str → Option Value} {base : Heap}
theorem ok_common {f : Addr} {fd : FuncData} (F : Fun K "common_part" "common_part" sCommon f fd) : FnOk P w K mg base CX0 1 f fd ["first", "second"] spCommon := by
  refine F.ok scCommon (fun vs H Q E h => ?_) (fun cdv A outer s0 H vs Q E hr h => ?_)
  · obtain ⟨a, b, rfl, _⟩ := h
    rfl
  · obtain ⟨a, b, rfl, q⟩ := h
    refine ⟨_, pss_cons (ps_while PassesOwn.never (pt_cmpR op_gt (pv 1) pe_int (nomark _))
        (pss_cons (ps_set (i := 2) scCommon.nd rfl (Or.inl rfl) (pe_op op_mod (pv 0) (pv 1)))
        (pss_cons (ps_set (i := 0) scCommon.nd rfl (Or.inl rfl) (pv 1))
        (pss_one (ps_set (i := 1) scCommon.nd rfl (Or.inl rfl) (pv 2))))))
      (pss_one (ps_ret (pv 0))), ?_⟩
    refine ⟨fun m σ H' => H' = H ∧ ∃ (x y : Nat) (v : Option V), σ = [some (.int (x : Int)), some (.int (y : Int)), v] ∧ y = m ∧ Nat.gcd x y = Nat.gcd a b, ⟨b, rfl, a, b, none, rfl, rfl, rfl⟩, ?_⟩
    rintro m σ H' ⟨rfl, x, y, v, rfl, rfl, hg⟩
    refine ⟨_, rfl, _, _, rfl, rfl, _, rfl, ?_⟩
    refine ite2 (fun h => ?_) (fun h => ?_)
    · have hy : 0 < y := by
        have := of_decide_eq_true h
        omega
      refine ⟨fun σ' H1 => H1 = H' ∧ ∃ (x' y' : Nat) (v' : Option V), σ' = [some (.int (x' : Int)), some (.int (y' : Int)), v'] ∧ y' < y ∧ Nat.gcd x' y' = Nat.gcd a b, ?_, ?_⟩
      · rintro σ' H1 ⟨rfl, x', y', v', rfl, hlt, hg'⟩
        exact ⟨y', hlt, rfl, x', y', v', rfl, rfl, hg'⟩
      · refine ⟨_, rfl, _, rfl, _, _, rfl, rfl, (by show (0 : Int) < (y : Int); omega), _, rfl, _, rfl, rfl, y, x % y, some (.int ((x % y : Nat) : Int)), ?_, Nat.mod_lt _ hy, ?_⟩
        · show [some (V.int (y : Int)), some (V.int ((x : Int) % (y : Int))), some (V.int ((x : Int) % (y : Int)))] = _
          rw [Int.natCast_emod]
        · rw [← hg, Nat.gcd_comm y (x % y), ← Nat.gcd_rec, Nat.gcd_comm]
    · have hy : y = 0 := by
        have : ¬ (0 : Int) < (y : Int) := fun z => h (decide_eq_true z)
        omega
      subst hy
      refine ⟨_, rfl, ?_⟩
      rw [Nat.gcd_zero_right] at hg
      rw [hg]
      exact q
theorem ok_fraction {f f1 : Addr} {fd fd1 : FuncData} (F : Fun K "fraction" "fraction" sFraction f fd) (D1 : Def K mg "common_part" "common_part" sCommon ["first", "second"] f1 fd1) : FnOk P w K mg base CX0 2 f fd ["part", "whole"] spFraction := by
  have G1 : FnOk P w K mg base CX0 1 f1 fd1 ["first", "second"] spCommon := ok_common D1.fn
  refine F.ok scFraction (fun vs H Q E h => ?_) (fun cdv A outer s0 H vs Q E hr h => ?_)
  · obtain ⟨a, b, rfl, _⟩ := h
    rfl
  · obtain ⟨a, b, rfl, hb, hb2, q⟩ := h
    refine ⟨_, pss_cons (ps_set (i := 2) scFraction.nd rfl (Or.inl rfl) (pe_call G1 hr rfl D1.g D1.fn.kp D1.b .nil pass0 (pa_cons (pv 0) (pa_cons (pv 1) pa_nil))))
      (pss_one (ps_ret (pe_lst (pa_cons (pe_op op_fdiv (pv 0) (pv 2)) (pa_cons (pe_op op_fdiv (pv 1) (pv 2)) pa_nil))))), ?_⟩
    have hg := Nat.gcd_pos_of_pos_right a hb
    have hg2 := Nat.gcd_le_right a hb
    have hc : CDiv (a : Int) (Nat.gcd a b : Nat) ∧ CDiv (b : Int) (Nat.gcd a b : Nat) := ⟨⟨by omega, by omega⟩, ⟨by omega, by omega⟩⟩
    refine ⟨_, rfl, _, rfl, a, b, rfl, ?_⟩
    refine ⟨_, rfl, _, rfl, _, _, rfl, rfl, hc.1, _, rfl, _, rfl, _, _, rfl, rfl, hc.2, (by show 2 ≤ sizeLine; decide), fun p hp => ?_⟩
    refine q _ p hp (same_upd hp) ?_
    rw [upd_same, fr_pos a b hb]
    show some (HO.lst [V.int ((a : Int) / (Nat.gcd a b : Nat)), V.int ((b : Int) / (Nat.gcd a b : Nat))]) = _
    unfold frV
    rw [Int.natCast_ediv, Int.natCast_ediv]
end
end VT

set_option Elab.async false
set_option linter.all false
set_option maxRecDepth 100000
set_option maxHeartbeats 2000000
namespace VT
open PySem PySem.Spec PyProof.Rows L2
open PySem.W (Codec)
abbrev sView : Stmt := top 23
abbrev sVInit : Stmt := inClass sView 0
abbrev sSee : Stmt := inClass sView 1
abbrev sHasSeen : Stmt := inClass sView 2
abbrev sFits : Stmt := inClass sView 3
abbrev sShare : Stmt := inClass sView 4
abbrev sMargin : Stmt := inClass sView 5
abbrev sAgrees : Stmt := inClass sView 6
/-! ### fields -/
theorem lk_here {k : Str} {v : V} {r : List (Str × V)} : List.lookup k ((k, v) :: r) = some v := by
  have e : (k == k) = true := beq_self_eq_true k
  simp only [List.lookup, e]
theorem lk_past {k g : Str} {v : V} {r : List (Str × V)} (h : (k == g) = false) : List.lookup k ((g, v) :: r) = List.lookup k r := by
  simp only [List.lookup, h]
theorem put_here {f : Str} {v x : V} {r : List (Str × V)} : putF f v ((f, x) :: r) = (f, v) :: r := if_pos rfl
theorem put_past {f g : Str} {v x : V} {r : List (Str × V)} (h : ¬ g = f) : putF f v ((g, x) :: r) = (g, x) :: putF f v r := if_neg h
def vF (s : Nat) (t : Addr) : List (Str × V) := [("questions", .int (s : Int)), ("table", .ref t)]
theorem vF_q (s : Nat) (t : Addr) : (vF s t).lookup ("questions" : Str) = some (.int (s : Int)) := lk_here
theorem vF_t (s : Nat) (t : Addr) : (vF s t).lookup ("table" : Str) = some (.ref t) := (lk_past (by decide +kernel)).trans lk_here
theorem vF_no (s : Nat) (t : Addr) {m : Str} (h1 : (m == ("questions" : Str)) = false) (h2 : (m == ("table" : Str)) = false) : (vF s t).lookup m = none := (lk_past h1).trans ((lk_past h2).trans rfl)
theorem vF_new (s : Nat) (t : Addr) : putF "table" (.ref t) (putF "questions" (.int (s : Int)) []) = vF s t := (put_past (by decide +kernel)).trans rfl
theorem vF_put (s : Nat) (t r : Addr) : putF "table" (.ref r) (vF s t) = vF s r := (put_past (by decide +kernel)).trans (congrArg _ put_here)
/-- a view stands at a: its questions, its table at t -/
structure ViewAt (C : Addr) (H : Hp) (a t : Addr) (s : Nat) (tab : List Nat) : Prop where
  at_ : ∃ dx, H a = some (.ins C dx (vF s t))
  tb : H t = some (.lst (nats tab))
structure TxtV (K : PySem.W.Frag) (mg : Str → Option Value) (C : Addr) : Prop where
  cl : Cls K C
  nQ : NoAttr K C "questions"
  nT : NoAttr K C "table"
  g : mg "View" = some (.ref C)
theorem repl_flat (n : Nat) (v : V) : (List.replicate n [v]).flatten = List.replicate n v := by
  induction n with
  | zero => rfl
  | succ n ih => rw [List.replicate_succ, List.flatten_cons, ih, List.replicate_succ]; rfl
theorem nats_repl (n k : Nat) : nats (List.replicate n k) = List.replicate n (.int (k : Int)) := by
  unfold nats
  rw [List.map_replicate]
theorem nats_ints (l : List Nat) : nats l = (l.map fun (x : Nat) => (x : Int)).map V.int := by
  unfold nats
  rw [List.map_map]
  rfl
theorem sum_cast (l : List Nat) : (l.map fun (x : Nat) => (x : Int)).sum = ((l.sum : Nat) : Int) := by
  induction l with
  | nil => rfl
  | cons x l ih => rw [List.map_cons, List.sum_cons, List.sum_cons, ih, Int.natCast_add]
theorem nats_set (l : List Nat) (j k : Nat) : (nats l).set j (.int (k : Int)) = nats (l.set j k) := by
  unfold nats
  rw [List.map_set]
theorem nb1 {n : Nat} : -(2 ^ 63) ≤ (n : Int) := by omega
theorem nb2 {n : Nat} (h : n ≤ 1000) : (n : Int) < 2 ^ 63 := by omega
theorem small_pow {s : Nat} (hs : s < 32) : 2 ^ (bits s).length ≤ 32 := Nat.pow_le_pow_right (by decide) (len_bits_le s hs)
/-! ### promises -/
def spVInit (C : Addr) : Sp := fun vs H Q _ => ∃ (p dx : Addr) (s : Nat), vs = [.ref p, .int (s : Int)] ∧ H p = some (.ins C dx []) ∧ s < 32 ∧
  ∀ (H' : Hp) (t : Addr), H t = none → H' p = some (.ins C dx (vF s t)) → H' t = some (.lst (nats (List.replicate (2 ^ (bits s).length) 1))) → (∀ b o, H b = some o → b ≠ p → H' b = some o) → Q .non H'
def spSee (C : Addr) : Sp := fun vs H Q _ => ∃ (a t : Addr) (x s : Nat) (tab : List Nat) (k : Nat), vs = [.ref a, .int (x : Int)] ∧ ViewAt C H a t s tab ∧ s < 32 ∧ tab[rowM x (bits s)]? = some k ∧
  ∀ H' : Hp, H' t = some (.lst (nats (tab.set (rowM x (bits s)) (min 100 (k + 1))))) → (∀ b o, H b = some o → b ≠ t → H' b = some o) → Q .non H'
def spShare (C : Addr) : Sp := fun vs H Q _ => ∃ (a t : Addr) (s c : Nat) (tab : List Nat) (k : Nat), vs = [.ref a, .int (c : Int)] ∧ ViewAt C H a t s tab ∧ VOk s tab ∧ tab[c]? = some k ∧
  ∀ (H' : Hp) (p : Addr), H p = none → Same H H' → H' p = some (.lst (frV (Kp340.fr (k : Nat) (Kp351.total tab : Nat)))) → Q (.ref p) H'
def Frs (H : Hp) (as : List Addr) (l : List Kp340.Fr) : Prop := as.length = l.length ∧ ∀ (j : Nat) (a : Addr) (x : Kp340.Fr), as[j]? = some a → l[j]? = some x → H a = some (.lst (frV x))
def spMargin (C : Addr) : Sp := fun vs H Q _ => ∃ (a t : Addr) (s u : Nat) (tab : List Nat), vs = [.ref a, .int (u : Int)] ∧ ViewAt C H a t s tab ∧ VOk s tab ∧ u < 32 ∧ u &&& s = u ∧
  ∀ (H' : Hp) (p : Addr) (as : List Addr), H p = none → (∀ b ∈ as, H b = none) → Same H H' → H' p = some (.lst (as.map V.ref)) → Frs H' as (Kp351.margin ⟨bits s, tab⟩ (bits u)) → Q (.ref p) H'
theorem scVInit : FnScope ["self", "questions"] ["self", "questions"] (defScope sVInit) := ⟨rfl, rfl, rfl, by decide +kernel, rfl, by decide +kernel, by decide +kernel⟩
theorem scSee : FnScope ["self", "world", "row"] ["self", "world"] (defScope sSee) := ⟨rfl, rfl, rfl, by decide +kernel, rfl, by decide +kernel, by decide +kernel⟩
theorem scShare : FnScope ["self", "row"] ["self", "row"] (defScope sShare) := ⟨rfl, rfl, rfl, by decide +kernel, rfl, by decide +kernel, by decide +kernel⟩
theorem scMargin : FnScope ["self", "questions", "seen", "row", "times", "whole"] ["self", "questions"] (defScope sMargin) := ⟨rfl, rfl, rfl, by decide +kernel, rfl, by decide +kernel, by decide +kernel⟩
section
variable {P : Program} {w : World} {K : PySem.W.Frag} {mg : Str → Option Value} {base : Heap} {C : Addr}
theorem ok_vinit {f f1 : Addr} {fd fd1 : FuncData} (F : Fun K "__init__" "View.__init__" sVInit f fd) (T : TxtV K mg C) (D1 : Def K mg "row_count" "row_count" sRowCount ["questions"] f1 fd1) (G1 : FnOk P w K mg base CX0 2 f1 fd1 ["questions"] spRowCount) :
    FnOk P w K mg base CX0 3 f fd ["self", "questions"] (spVInit C) := by
  refine F.ok scVInit (fun vs H Q E h => ?_) (fun cdv A outer s0 H vs Q E hr h => ?_)
  · obtain ⟨p, dx, s, rfl, _⟩ := h
    rfl
  · obtain ⟨p, dx, s, rfl, hp, hs, q⟩ := h
    refine ⟨_, pss_cons (ps_fld (pv 0) (pv 1) rfl) (pss_one (ps_fld (pv 0) (pe_op op_rep (pe_lst (pa_cons pe_int pa_nil)) (pe_call G1 hr rfl D1.g D1.fn.kp D1.b .nil pass0 (pa_cons (pv 1) pa_nil))) rfl)), ?_⟩
    refine ⟨_, rfl, _, rfl, p, C, dx, [], rfl, hp, T.cl, T.nQ, (by show 0 < 1000; decide), ?_⟩
    refine ⟨(by show 1 ≤ sizeLine; decide), fun l nl => ?_⟩
    refine ⟨_, rfl, s, rfl, hs, fun H1 sm => ?_⟩
    have h32 := small_pow hs
    refine ⟨l, _, _, rfl, rfl, sm _ _ upd_same, nb1, nb2 (Nat.le_trans h32 (by decide)), ?_, fun t nt => ?_⟩
    · rw [Int.toNat_natCast]
      show 1 * _ ≤ sizeLine
      rw [Nat.one_mul]
      exact Nat.le_of_lt (small1000 (by omega))
    have np : p ≠ l := fun e => by rw [← e, upd_same] at nl; cases nl
    have hp1 : H1 p = some (.ins C dx (putF "questions" (.int (s : Int)) [])) := sm _ _ (by rw [upd_ne np, upd_same])
    have npt : p ≠ t := ne_of_none hp1 nt
    refine ⟨_, rfl, p, C, dx, _, rfl, by rw [upd_ne npt]; exact hp1, T.cl, T.nT, (by show 1 < 1000; decide), ?_⟩
    have hk : ∀ b o, H b = some o → b ≠ p → H1 b = some o := fun b o e hb => sm _ _ (by
      have hbl : b ≠ l := fun z => by rw [← z, upd_ne hb, e] at nl; cases nl
      rw [upd_ne hbl, upd_ne hb]
      exact e)
    have ht : H t = none := by
      cases e : H t with
      | none => rfl
      | some o =>
        have := hk t o e npt.symm
        rw [nt] at this
        cases this
    refine q _ t ht ?_ ?_ fun b o e hb => ?_
    · rw [upd_same, vF_new]
    · rw [upd_ne npt.symm, upd_same, repl_flat, nats_repl, Int.toNat_natCast]
      rfl
    · rw [upd_ne hb, upd_ne (ne_of_none (hk b o e hb) nt)]
      exact hk b o e hb
theorem ok_see {f f1 : Addr} {fd fd1 : FuncData} (F : Fun K "see" "View.see" sSee f fd) (T : TxtV K mg C) (O : Own mg) (cs : ∃ t, mg "MOST_SEEN" = some (.int 100 t)) (D1 : Def K mg "row_of" "row_of" sRowOf ["world", "questions"] f1 fd1) (G1 : FnOk P w K mg base CX0 2 f1 fd1 ["world", "questions"] spRowOf) :
    FnOk P w K mg base CX0 3 f fd ["self", "world"] (spSee C) := by
  obtain ⟨tk, cs⟩ := cs
  refine F.ok scSee (fun vs H Q E h => ?_) (fun cdv A outer s0 H vs Q E hr h => ?_)
  · obtain ⟨a, t, x, s, tab, k, rfl, _⟩ := h
    rfl
  · obtain ⟨a, t, x, s, tab, k, rfl, ⟨⟨dx, ha⟩, ht⟩, hs, hk, q⟩ := h
    refine ⟨_, pss_cons (ps_set (i := 2) scSee.nd rfl (Or.inl rfl) (pe_call G1 hr rfl D1.g D1.fn.kp D1.b .nil pass0 (pa_cons (pv 1) (pa_cons (pe_fld (pv 0) rfl) pa_nil))))
      (pss_one (ps_asg (pe_callB (call_min2 rfl) (by rfl) O.min (by decide +kernel) (pa_cons (pe_op op_add (pe_ix ix_list (pe_fld (pv 0) rfl) (pv 2) (fun _ _ => rfl)) pe_int) (pa_cons (pe_glob (v := .int 100) rfl cs ⟨_, rfl⟩) pa_nil)))
        (pg_sub (pe_fld (pv 0) rfl) (pv 2) set_list))), ?_⟩
    refine ⟨_, rfl, _, rfl, a, C, dx, _, _, rfl, ha, T.cl, T.nQ, vF_q s t, x, s, rfl, hs, fun H1 sm => ?_⟩
    have ha1 := sm _ _ ha
    have ht1 := sm _ _ ht
    refine ⟨_, rfl, a, C, dx, _, _, rfl, ha1, T.cl, T.nT, vF_t s t, _, rfl, t, _, _, _, rfl, rfl, SqL.of ht1, atI_nat (nats_at hk), _, _, rfl, rfl, _, _, rfl, ?_⟩
    have hj : rowM x (bits s) < tab.length := (List.getElem?_eq_some_iff.mp hk).1
    refine ⟨_, rfl, a, C, dx, _, _, rfl, ha1, T.cl, T.nT, vF_t s t, _, rfl, t, _, _, rowM x (bits s), rfl, rfl, ht1, ?_, ?_⟩
    · unfold ixN
      rw [nats_len, if_pos (by omega), if_pos (by omega)]
      simp
    · refine q _ ?_ fun b o e hb => ?_
      · rw [upd_same, ← nats_set]
        congr 3
        have : (if (100 : Int) < (k : Int) + 1 then (100 : Int) else (k : Int) + 1) = ((min 100 (k + 1) : Nat) : Int) := by
          by_cases c : (100 : Int) < (k : Int) + 1
          · rw [if_pos c]
            omega
          · rw [if_neg c]
            omega
        exact congrArg V.int this
      · rw [upd_ne hb]
        exact sm b o e
theorem ok_share {f f1 : Addr} {fd fd1 : FuncData} (F : Fun K "share" "View.share" sShare f fd) (T : TxtV K mg C) (O : Own mg) (D1 : Def K mg "fraction" "fraction" sFraction ["part", "whole"] f1 fd1) (G1 : FnOk P w K mg base CX0 2 f1 fd1 ["part", "whole"] spFraction) :
    FnOk P w K mg base CX0 3 f fd ["self", "row"] (spShare C) := by
  refine F.ok scShare (fun vs H Q E h => ?_) (fun cdv A outer s0 H vs Q E hr h => ?_)
  · obtain ⟨a, t, s, c, tab, k, rfl, _⟩ := h
    rfl
  · obtain ⟨a, t, s, c, tab, k, rfl, ⟨⟨dx, ha⟩, ht⟩, hv, hk, q⟩ := h
    refine ⟨_, pss_one (ps_ret (pe_call G1 hr rfl D1.g D1.fn.kp D1.b .nil pass0 (pa_cons (pe_ix ix_list (pe_fld (pv 0) rfl) (pv 1) (fun _ _ => rfl))
      (pa_cons (pe_callB (cr_sum rfl) (by rfl) O.sum (by decide +kernel) (pa_cons (pe_fld (pv 0) rfl) pa_nil)) pa_nil)))), ?_⟩
    refine ⟨_, rfl, a, C, dx, _, _, rfl, ha, T.cl, T.nT, vF_t s t, _, rfl, t, _, _, _, rfl, rfl, SqL.of ht, atI_nat (nats_at hk), _, rfl, a, C, dx, _, _, rfl, ha, T.cl, T.nT, vF_t s t, t, tab.map (fun (x : Nat) => (x : Int)), rfl, ?_, ?_⟩
    · rw [← nats_ints]
      exact SqL.of ht
    · have := hv.total_le
      refine ⟨k, Kp351.total tab, ?_, hv.pos, by omega, fun H' p np sm hp => q H' p np sm hp⟩
      rw [sum_cast, ← total_sum]
      rfl
theorem ok_margin {f f1 f2 f3 f4 : Addr} {fd fd1 fd2 fd3 fd4 : FuncData} (F : Fun K "margin" "View.margin" sMargin f fd) (T : TxtV K mg C) (O : Own mg)
    (D1 : Def K mg "row_count" "row_count" sRowCount ["questions"] f1 fd1) (G1 : FnOk P w K mg base CX0 2 f1 fd1 ["questions"] spRowCount)
    (D2 : Def K mg "row_of" "row_of" sRowOf ["world", "questions"] f2 fd2) (G2 : FnOk P w K mg base CX0 2 f2 fd2 ["world", "questions"] spRowOf)
    (D3 : Def K mg "world_of" "world_of" sWorldOf ["row", "questions"] f3 fd3) (G3 : FnOk P w K mg base CX0 2 f3 fd3 ["row", "questions"] spWorldOf)
    (D4 : Def K mg "fraction" "fraction" sFraction ["part", "whole"] f4 fd4) (G4 : FnOk P w K mg base CX0 2 f4 fd4 ["part", "whole"] spFraction) :
    FnOk P w K mg base CX0 3 f fd ["self", "questions"] (spMargin C) := by
  refine F.ok scMargin (fun vs H Q E h => ?_) (fun cdv A outer s0 H vs Q E hr h => ?_)
  · obtain ⟨a, t, s, u, tab, rfl, _⟩ := h
    rfl
  · obtain ⟨a, t, s, u, tab, rfl, ⟨⟨dx, ha⟩, ht⟩, hv, hu, hus, q⟩ := h
    refine ⟨_, pss_cons (ps_set (i := 2) scMargin.nd rfl (Or.inl rfl) (pe_op op_rep (pe_lst (pa_cons pe_int pa_nil)) (pe_call G1 hr rfl D1.g D1.fn.kp D1.b .nil pass0 (pa_cons (pv 1) pa_nil))))
      (pss_cons (ps_for PassesOwn.never rfl (pi_enum (by rfl) O.enumerate (pa_cons (pe_fld (pv 0) rfl) pa_nil))
          (pg_tup rfl (pgs_cons (pg_name (i := 3) scMargin.nd rfl (.inl rfl)) (pgs_cons (pg_name (i := 4) scMargin.nd rfl (.inl rfl)) pgs_nil)))
        (pss_one (ps_augS (pv 2) (pe_call G2 hr rfl D2.g D2.fn.kp D2.b .nil pass0 (pa_cons (pe_call G3 hr rfl D3.g D3.fn.kp D3.b .nil pass0 (pa_cons (pv 3) (pa_cons (pe_fld (pv 0) rfl) pa_nil))) (pa_cons (pv 1) pa_nil))) get_list (pv 4) ip_add set_list)))
      (pss_cons (ps_set (i := 5) scMargin.nd rfl (Or.inr rfl) (pe_callB (cr_sum rfl) (by rfl) O.sum (by decide +kernel) (pa_cons (pe_fld (pv 0) rfl) pa_nil)))
      (pss_one (ps_ret (pe_lc (own := [("times", 4)]) (g := gName 4) (tt := tYes) rfl scMargin.nd (pi_list (pv 2)) (blkOk_by (N := ["self", "questions", "seen", "row", "times", "whole"]) (sc := defScope sMargin) (by decide +kernel))
        (fun _ _ _ _ _ => pg_name (i := 4) scMargin.nd rfl (Or.inl rfl)) (fun _ _ _ _ _ => pts_nil)
        (fun _ _ _ _ _ => pe_call G4 hr rfl D4.g D4.fn.kp D4.b .nil pass0 (pa_cons (pv 4) (pa_cons (pv 5) pa_nil)))))))), ?_⟩
    -- seen = [0] * row_count(questions)
    refine ⟨(by show 1 ≤ sizeLine; decide), fun l nl => ?_⟩
    refine ⟨_, rfl, u, rfl, hu, fun H1 sm => ?_⟩
    have h32 := small_pow hu
    refine ⟨l, _, _, rfl, rfl, sm _ _ upd_same, nb1, nb2 (Nat.le_trans h32 (by decide)), ?_, fun p np => ?_⟩
    · rw [Int.toNat_natCast]
      show 1 * _ ≤ sizeLine
      rw [Nat.one_mul]
      exact Nat.le_of_lt (small1000 (by omega))
    have s1 : Same H H1 := (same_upd nl).trans sm
    have np0 : H p = none := s1.free np
    have s2 : Same H (upd H1 p (.lst (List.replicate ((2 ^ (bits u).length : Nat) : Int).toNat [V.int 0]).flatten)) := s1.trans (same_upd np)
    let pr : Nat → Nat := fun c => partQ (bits s) c (bits u)
    have hp2 : (upd H1 p (.lst (List.replicate ((2 ^ (bits u).length : Nat) : Int).toNat [V.int 0]).flatten)) p = some (.lst (nats (seenL pr tab (2 ^ (bits u).length) 0))) := by
      rw [upd_same, repl_flat, seenL_zero, nats_repl, Int.toNat_natCast]
      rfl
    -- for row, times in enumerate(self.table)
    refine ⟨_, rfl, a, C, dx, _, _, rfl, s2 _ _ ha, T.cl, T.nT, vF_t s t, t, _, rfl, SqL.of (s2 _ _ ht), for_it (walk_enum (xs := nats tab)) (fun i σ H' => Same H H' ∧ H' p = some (.lst (nats (seenL pr tab (2 ^ (bits u).length) i))) ∧ ∃ v3 v4, σ = [some (.ref a), some (.int (u : Int)), some (.ref p), v3, v4, none])
      ⟨s2, hp2, none, none, rfl⟩ (fun i σ H' _ h => SqL.of (h.1 _ _ ht)) ?_ ?_⟩
    · rintro i y σ H2 H3 hi ⟨s3, hp3, v3, v4, rfl⟩ ⟨T1, a1, a2, rfl, nT, rfl, e1, e2⟩
      obtain rfl := (Option.some.inj e1)
      obtain ⟨k, hk, rfl⟩ := nats_get e2
      rw [nats_len, hv.len] at hi
      have s4 : Same H2 (upd H2 T1 (.tup [.int (i : Nat), .int (k : Int)])) := same_upd nT
      refine ⟨T1, _, rfl, SqT.of upd_same, rfl, _, _, rfl, _, _, rfl, rfl, ?_⟩
      refine ⟨_, rfl, _, rfl, _, rfl, a, C, dx, _, _, rfl, s4 _ _ (s3 _ _ ha), T.cl, T.nQ, vF_q s t, i, s, rfl, hv.lt, fun H4 s5 => ?_⟩
      refine ⟨_, rfl, worldM i (bits s), u, rfl, hu, fun H6 s6 => ?_⟩
      have hi32 : i < 32 := Nat.lt_of_lt_of_le hi (small_pow hv.lt)
      have epr : rowM (worldM i (bits s)) (bits u) = pr i := part_is s hv.lt u hu hus i hi
      have hj : pr i < 2 ^ (bits u).length := by
        rw [← epr]
        exact row_lt _ (world_lt i hi32 s hv.lt) u hu
      have hp6 : H6 p = some (.lst (nats (seenL pr tab (2 ^ (bits u).length) i))) := s6 _ _ (s5 _ _ (s4 _ _ hp3))
      rw [epr]
      refine ⟨p, _, _, _, rfl, rfl, SqL.of hp6, atI_nat (nats_at (seenL_get pr tab _ i _ hj)), _, rfl, _, _, rfl, rfl, p, _, _, pr i, rfl, rfl, hp6, ?_, ?_⟩
      · unfold ixN
        rw [nats_len, seenL_len, if_pos (by omega), if_pos (by omega)]
        simp
      · refine ⟨fun b o e => ?_, ?_, some (.int (i : Nat)), some (.int (k : Int)), rfl⟩
        · rw [upd_ne (ne_of_none e np0)]
          exact s6 _ _ (s5 _ _ (s4 _ _ (s3 _ _ e)))
        · rw [upd_same, seenL_succ, ← nats_set, List.getD_eq_getElem?_getD, hk]
          rfl
    · rintro σ H2 ⟨s3, hp3, v3, v4, rfl⟩
      rw [nats_len, hv.len] at hp3
      -- whole = sum(self.table)
      refine ⟨_, rfl, a, C, dx, _, _, rfl, s3 _ _ ha, T.cl, T.nT, vF_t s t, t, tab.map (fun (x : Nat) => (x : Int)), rfl, ?_, ?_⟩
      · rw [← nats_ints]
        exact SqL.of (s3 _ _ ht)
      rw [sum_cast, ← total_sum]
      -- return [fraction(times, whole) for times in seen]
      refine ⟨_, rfl, p, rfl, ⟨_, SqL.of hp3⟩, fun D nD => ?_⟩
      have nD0 : H D = none := s3.free nD
      have sD : Same H2 (upd H2 D (.lst [])) := same_upd nD
      have npD : p ≠ D := ne_of_none hp3 nD
      have em := margin_is ⟨bits s, tab⟩ (bits u) hv.pos
      refine lc_list (K := K) (a := p) (xs := nats (seenL pr tab (2 ^ (bits u).length) (2 ^ (bits s).length))) (fun i H' => Same H2 H' ∧ ∃ as : List Addr, H' D = some (.lst (as.map V.ref)) ∧ (∀ b ∈ as, H b = none) ∧ (∀ b ∈ as, b ≠ D) ∧ Frs H' as ((Kp351.margin ⟨bits s, tab⟩ (bits u)).take i))
        ⟨sD, [], upd_same, by simp, by simp, rfl, by simp⟩ (fun i H' _ h => SqL.of (h.1 _ _ hp3)) ?_ ?_
      · rintro i y H' hy ⟨s5, as, hD, hn, hnD, hlen, hfr⟩
        obtain ⟨k, hk, rfl⟩ := nats_get hy
        have htl := hv.total_le
        refine ⟨rfl, ?_⟩
        refine ⟨_, rfl, _, rfl, k, Kp351.total tab, rfl, hv.pos, by omega, fun H6 c nc s6 hc => ?_⟩
        have hil : i < 2 ^ (bits u).length := by
          have := (List.getElem?_eq_some_iff.mp hk).1
          rw [seenL_len] at this
          exact this
        have hml : as.length = i := by
          rw [hlen, List.length_take, em, List.length_map, seenL_len]
          exact Nat.min_eq_left (Nat.le_of_lt hil)
        have hg : (Kp351.margin ⟨bits s, tab⟩ (bits u))[i]? = some (Kp340.fr (k : Nat) (Kp351.total tab : Nat)) := by
          rw [em, List.getElem?_map]
          show Option.map _ (seenL pr tab (2 ^ (bits u).length) (2 ^ (bits s).length))[i]? = _
          rw [hk]
          rfl
        refine ⟨_, s6 _ _ hD, ?_, ?_, as ++ [c], ?_, ?_, ?_, ?_⟩
        · rw [List.length_map, hml]
          exact small1000 (by omega)
        · intro b o e
          rw [upd_ne (ne_of_none e nD)]
          exact s6 _ _ (s5 _ _ e)
        · rw [upd_same, List.map_append]
          rfl
        · intro b hb
          rcases List.mem_append.mp hb with hb | hb
          · exact hn b hb
          · rw [List.mem_singleton.mp hb]
            exact (s3.trans s5).free nc
        · intro b hb
          rcases List.mem_append.mp hb with hb | hb
          · exact hnD b hb
          · rw [List.mem_singleton.mp hb]
            exact (ne_of_none hD nc).symm
        · rw [take_snoc hg]
          refine ⟨by rw [List.length_append, List.length_append, hlen]; rfl, fun j b x e1 e2 => ?_⟩
          by_cases hj : j < as.length
          · rw [List.getElem?_append_left hj] at e1
            rw [List.getElem?_append_left (by rw [← hlen]; exact hj)] at e2
            rw [upd_ne (hnD b (List.mem_of_getElem? e1))]
            exact s6 _ _ (hfr j b x e1 e2)
          · have hjl : j = as.length := by
              have := (List.getElem?_eq_some_iff.mp e1).1
              rw [List.length_append] at this
              have h1 : ([c] : List Addr).length = 1 := rfl
              omega
            subst hjl
            rw [List.getElem?_append_right (Nat.le_refl _), Nat.sub_self] at e1
            rw [hlen, List.getElem?_append_right (Nat.le_refl _), Nat.sub_self] at e2
            cases e1
            cases e2
            rw [upd_ne (ne_of_none hD nc).symm]
            exact hc
      · rintro H' ⟨s5, as, hD, hn, hnD, hfr⟩
        rw [nats_len, seenL_len] at hfr
        have : (Kp351.margin ⟨bits s, tab⟩ (bits u)).take (2 ^ (bits u).length) = Kp351.margin ⟨bits s, tab⟩ (bits u) := List.take_of_length_le (by rw [em, List.length_map, seenL_len]; exact Nat.le_refl _)
        rw [this] at hfr
        exact q H' D as nD0 hn (s3.trans s5) hD hfr
end
end VT

set_option Elab.async false
set_option linter.all false
set_option maxRecDepth 100000
set_option maxHeartbeats 2000000
namespace VT
open PySem PySem.Spec PyProof.Rows L2
open PySem.W (Codec)
/-! ### a call of what an expression gives -/
def tCallE (R : Addr → Sp → Prop) (t0 : TE) (t : TA) : TE := fun σ H Q => t0 σ H fun v H1 => ∃ f sp, v = .ref f ∧ R f sp ∧ t σ H1 fun vs H2 => sp vs H2 Q E0
theorem pe_callE {X : Cx} {k : Nat} {R : Addr → Sp → Prop} {e0 e : Expr} {es : List Expr} {pos : Pos} {t0 : TE} {t : TA} (A : ∀ f sp, R f sp → Held X.prog X.w X.K X.mg X.base k f sp) (hr : Room k X.A) (h0 : PE X e0 t0) (ha : PA X (e :: es) t)
    (he : starEach (e :: es) X.env = (false, eval e X.env) :: starEach es X.env := by rfl) (hpl : (backTo pos (starEach es X.env)).any (·.1) = false := by rfl)
    (hc : eval (.Call e0 (e :: es) [] pos) X.env = (do callWith pos (← eval e0 X.env) [] (backTo pos (starEach (e :: es) X.env)) (backToKw pos (keywordEach [] X.env))) := by rfl) : PE X (.Call e0 (e :: es) [] pos) (tCallE R t0 t) := by
  refine ⟨fun pins s σ H Q I h => ?_⟩
  refine Call_ (thn (h0.run pins s σ H _ I h) fun u s1 ⟨v, H1, I1, r1, f, sp, ev, hR, ht⟩ => ?_) hc
  subst ev
  cases r1
  obtain ⟨fd, ps, F, hk, hb⟩ := (A f sp hR).ex
  refine PySem.W.callWith_K (h₀ := X.base) I1.ok.mod.kin hk (thn (ha.run pos pins s1 σ _ _ I1 ht) fun us s2 ⟨vs, H2, I2, r, q⟩ => ⟨I2.kIn, ?_⟩) he hpl
  have q' : sp (vs ++ []) H2 Q E0 := by rw [List.append_nil]; exact q
  exact run_fn F hr hb .nil (fun _ _ _ _ _ _ _ z => z.elim) I2 r q'
/-- a method of the text, ready to be called -/
structure MDef (K : PySem.W.Frag) (C : Addr) (m qual : Str) (st : Stmt) (ps : List Str) (f : Addr) (fd : FuncData) : Prop where
  fn : Fun K m qual st f fd
  m : Meth K C m f
  b : Binds K fd ps []
/-! ### agrees -/
def frD (x : Kp340.Fr) : PyData := .list [.int x.1, .int x.2]
theorem eqv_frs : ∀ (l m : List Kp340.Fr), PyData.eqvAll (l.map frD) (m.map frD) = (l == m)
  | [], [] => rfl
  | [], _ :: _ => rfl
  | _ :: _, [] => rfl
  | x :: l, y :: m => by
    show (PyData.eqv (frD x) (frD y) && PyData.eqvAll (l.map frD) (m.map frD)) = (x :: l == y :: m)
    rw [eqv_frs l m]
    show (((x.1 == y.1) && ((x.2 == y.2) && true)) && (l == m)) = ((x == y) && (l == m))
    rw [Bool.and_true]
    rfl
theorem lay_frs : ∀ l : List Kp340.Fr, PyData.canLayAll0 (l.map frD) = true
  | [] => rfl
  | x :: l => by
    show ((true && (true && true)) && PyData.canLayAll0 (l.map frD)) = true
    rw [lay_frs l]
    rfl
theorem depth_frs : ∀ l : List Kp340.Fr, PyData.depthAll (l.map frD) ≤ 1
  | [] => Nat.zero_le _
  | x :: l => by
    show max 1 (PyData.depthAll (l.map frD)) ≤ 1
    have := depth_frs l
    omega
theorem shaped_frs (l : List Kp340.Fr) : SeqAt.shaped (.list (l.map frD)) = true := by
  unfold SeqAt.shaped
  rw [Bool.and_eq_true]
  refine ⟨lay_frs l, decide_eq_true ?_⟩
  show PyData.depthAll (l.map frD) + 1 ≤ 64
  have := depth_frs l
  omega
theorem frs_dp {K : PySem.W.Frag} {H : Hp} : ∀ {as : List Addr} {l : List Kp340.Fr}, Frs H as l → DpAll K H (as.map V.ref) (l.map frD)
  | [], [], _ => .nil
  | [], _ :: _, h => nomatch h.1
  | _ :: _, [], h => nomatch h.1
  | a :: as, x :: l, h => by
    refine .cons (.lst (SqL.of (h.2 0 a x rfl rfl)) (.cons (.int _) (.cons (.int _) .nil))) (frs_dp ⟨Nat.succ.inj h.1, fun j b y e1 e2 => h.2 (j + 1) b y e1 e2⟩)
theorem frs_same {H H' : Hp} {as : List Addr} {l : List Kp340.Fr} (h : Frs H as l) (s : Same H H') : Frs H' as l := ⟨h.1, fun j a x e1 e2 => s _ _ (h.2 j a x e1 e2)⟩
def spAgrees (C : Addr) : Sp := fun vs H Q _ => ∃ (a t b r : Addr) (v z : Nat × List Nat), vs = [.ref a, .ref b] ∧ ViewAt C H a t v.1 v.2 ∧ ViewAt C H b r z.1 z.2 ∧ VOk v.1 v.2 ∧ VOk z.1 z.2 ∧
  ∀ H' : Hp, Same H H' → Q (.bl (Kp351.agree (vw v) (vw z))) H'
theorem scAgrees : FnScope ["self", "other", "common"] ["self", "other"] (defScope sAgrees) := ⟨rfl, rfl, rfl, by decide +kernel, rfl, by decide +kernel, by decide +kernel⟩
theorem and_lt {s u : Nat} (h : s < 32) : s &&& u < 32 := Nat.lt_of_le_of_lt Nat.and_le_left h
theorem and_l (s u : Nat) : (s &&& u) &&& s = s &&& u := by rw [Nat.and_comm s u, Nat.and_assoc, Nat.and_self]
theorem and_r (s u : Nat) : (s &&& u) &&& u = s &&& u := by rw [Nat.and_assoc, Nat.and_self]
theorem and_cast (s u : Nat) : Builtin.bitAnd (s : Int) (u : Int) = ((s &&& u : Nat) : Int) := by
  rw [PyProof.Rows.bitAnd_pp (Int.natCast_nonneg _) (Int.natCast_nonneg _), Int.toNat_natCast, Int.toNat_natCast]
theorem ViewAt.same {C : Addr} {H H' : Hp} {a t : Addr} {s : Nat} {tab : List Nat} (v : ViewAt C H a t s tab) (sm : Same H H') : ViewAt C H' a t s tab := ⟨let ⟨dx, h⟩ := v.at_; ⟨dx, sm _ _ h⟩, sm _ _ v.tb⟩
section
variable {P : Program} {w : World} {K : PySem.W.Frag} {mg : Str → Option Value} {base : Heap} {C : Addr}
theorem ok_agrees {f f1 : Addr} {fd fd1 : FuncData} (F : Fun K "agrees" "View.agrees" sAgrees f fd) (T : TxtV K mg C) (D1 : MDef K C "margin" "View.margin" sMargin ["self", "questions"] f1 fd1) (G1 : FnOk P w K mg base CX0 3 f1 fd1 ["self", "questions"] (spMargin C)) :
    FnOk P w K mg base CX0 4 f fd ["self", "other"] (spAgrees C) := by
  refine F.ok scAgrees (fun vs H Q E h => ?_) (fun cdv A outer s0 H vs Q E hr h => ?_)
  · obtain ⟨a, t, b, r, v, z, rfl, _⟩ := h
    rfl
  · obtain ⟨a, t, b, r, v, z, rfl, va, vb, ov, oz, q⟩ := h
    obtain ⟨dx, ha⟩ := va.at_
    obtain ⟨dy, hb⟩ := vb.at_
    refine ⟨_, pss_cons (ps_set (i := 2) scAgrees.nd rfl (Or.inl rfl) (pe_op op_and (pe_fld (pv 0) rfl) (pe_fld (pv 1) rfl)))
      (pss_one (ps_ret (pe_cmpR (op_eqD hr.units) (pe_meth (pv 0) T.cl D1.m G1 hr D1.b .nil pass0 (pa_cons (pv 2) pa_nil)) (pe_meth (pv 1) T.cl D1.m G1 hr D1.b .nil pass0 (pa_cons (pv 2) pa_nil)) (nomark _)))), ?_⟩
    refine ⟨_, rfl, a, C, dx, _, _, rfl, ha, T.cl, T.nQ, vF_q _ _, _, rfl, b, C, dy, _, _, rfl, hb, T.cl, T.nQ, vF_q _ _, _, _, rfl, rfl, ?_⟩
    dsimp only
    rw [and_cast]
    refine ⟨_, rfl, a, dx, _, rfl, ha, vF_no _ _ (by decide +kernel) (by decide +kernel), _, rfl, a, t, v.1, v.1 &&& z.1, v.2, rfl, va, ov, and_lt ov.lt, and_l _ _, fun H1 p as np hn s1 hp hf => ?_⟩
    refine ⟨_, rfl, b, dy, _, rfl, s1 _ _ hb, vF_no _ _ (by decide +kernel) (by decide +kernel), _, rfl, b, r, z.1, v.1 &&& z.1, z.2, rfl, vb.same s1, oz, and_lt ov.lt, and_r _ _, fun H2 p2 as2 np2 hn2 s2 hp2 hf2 => ?_⟩
    refine ⟨_, _, .lst (SqL.of (s2 _ _ hp)) (frs_dp (frs_same hf s2)), .lst (SqL.of hp2) (frs_dp hf2), shaped_frs _, shaped_frs _, ?_⟩
    have e : PyData.eqv (.list ((Kp351.margin ⟨bits v.1, v.2⟩ (bits (v.1 &&& z.1))).map frD)) (.list ((Kp351.margin ⟨bits z.1, z.2⟩ (bits (v.1 &&& z.1))).map frD)) = Kp351.agree (vw v) (vw z) := by
      show PyData.eqvAll _ _ = _
      rw [eqv_frs]
      unfold Kp351.agree
      have ec : Kp351.common (vw v) (vw z) = bits (v.1 &&& z.1) := and_bits v.1 ov.lt z.1 oz.lt
      rw [ec]
      rfl
    rw [e]
    exact q H2 (s1.trans s2)
end
/-! ### the thing -/
abbrev sThing : Stmt := top 24
abbrev sTInit : Stmt := inClass sThing 0
abbrev sHasView : Stmt := inClass sThing 1
abbrev sHasRow : Stmt := inClass sThing 2
abbrev sHasWorld : Stmt := inClass sThing 3
abbrev sWorldCount : Stmt := inClass sThing 4
abbrev sAllViews : Stmt := inClass sThing 5
abbrev sMayView : Stmt := inClass sThing 6
def tF (n : Nat) (l : Addr) : List (Str × V) := [("question_count", .int (n : Int)), ("views", .ref l)]
theorem tF_n (n : Nat) (l : Addr) : (tF n l).lookup ("question_count" : Str) = some (.int (n : Int)) := lk_here
theorem tF_v (n : Nat) (l : Addr) : (tF n l).lookup ("views" : Str) = some (.ref l) := (lk_past (by decide +kernel)).trans lk_here
theorem tF_no (n : Nat) (l : Addr) {m : Str} (h1 : (m == ("question_count" : Str)) = false) (h2 : (m == ("views" : Str)) = false) : (tF n l).lookup m = none := (lk_past h1).trans ((lk_past h2).trans rfl)
theorem tF_new (l : Addr) : putF "views" (.ref l) (putF "question_count" (.int 0) []) = tF 0 l := (put_past (by decide +kernel)).trans rfl
theorem tF_putN (n m : Nat) (l : Addr) : putF "question_count" (.int (m : Int)) (tF n l) = tF m l := put_here
theorem tF_putV (n : Nat) (l k : Addr) : putF "views" (.ref k) (tF n l) = tF n k := (put_past (by decide +kernel)).trans (congrArg _ put_here)
structure TxtT (K : PySem.W.Frag) (mg : Str → Option Value) (C : Addr) : Prop where
  cl : Cls K C
  nN : NoAttr K C "question_count"
  nV : NoAttr K C "views"
  g : mg "Thing" = some (.ref C)
def spTInit (C : Addr) : Sp := fun vs H Q _ => ∃ (p dx : Addr), vs = [.ref p] ∧ H p = some (.ins C dx []) ∧
  ∀ (H' : Hp) (l : Addr), H l = none → H' p = some (.ins C dx (tF 0 l)) → H' l = some (.lst []) → (∀ b o, H b = some o → b ≠ p → H' b = some o) → Q .non H'
def spHasView (C : Addr) : Sp := fun vs H Q _ => ∃ (t dx l : Addr) (n i : Nat) (xs : List V), vs = [.ref t, .int (i : Int)] ∧ H t = some (.ins C dx (tF n l)) ∧ H l = some (.lst xs) ∧ Q (.bl (decide (i < xs.length))) H
def spHasWorld (C : Addr) : Sp := fun vs H Q _ => ∃ (t dx l : Addr) (n i : Nat), vs = [.ref t, .int (i : Int)] ∧ H t = some (.ins C dx (tF n l)) ∧ n ≤ 5 ∧ Q (.bl (decide (i < 2 ^ n))) H
def spMayView (C : Addr) : Sp := fun vs H Q _ => ∃ (t dx l : Addr) (n s : Nat), vs = [.ref t, .int (s : Int)] ∧ H t = some (.ins C dx (tF n l)) ∧ n ≤ 5 ∧ ∀ H' : Hp, Same H H' → Q (.bl (decide (s < 2 ^ n) && (decide (1 ≤ (bits s).length) && decide ((bits s).length ≤ 3)))) H'
theorem scTInit : FnScope ["self"] ["self"] (defScope sTInit) := ⟨rfl, rfl, rfl, by decide +kernel, rfl, by decide +kernel, by decide +kernel⟩
theorem scHasView : FnScope ["self", "number"] ["self", "number"] (defScope sHasView) := ⟨rfl, rfl, rfl, by decide +kernel, rfl, by decide +kernel, by decide +kernel⟩
theorem scHasWorld : FnScope ["self", "world"] ["self", "world"] (defScope sHasWorld) := ⟨rfl, rfl, rfl, by decide +kernel, rfl, by decide +kernel, by decide +kernel⟩
theorem scMayView : FnScope ["self", "questions"] ["self", "questions"] (defScope sMayView) := ⟨rfl, rfl, rfl, by decide +kernel, rfl, by decide +kernel, by decide +kernel⟩
theorem cpow1 {n : Nat} (h : n ≤ 5) : CPow 1 (n : Int) := ⟨by omega, by omega, by decide⟩
theorem shl1 (n : Nat) : (1 : Int) * 2 ^ (n : Int).toNat = ((2 ^ n : Nat) : Int) := by
  rw [Int.toNat_natCast]
  simp
theorem dec_lt (a b : Nat) : decide ((a : Int) < (b : Int)) = decide (a < b) := by
  by_cases h : a < b
  · rw [decide_eq_true h, decide_eq_true (by omega)]
  · rw [decide_eq_false h, decide_eq_false (by omega)]
theorem dec_le (a b : Nat) : decide ((a : Int) ≤ (b : Int)) = decide (a ≤ b) := by
  by_cases h : a ≤ b
  · rw [decide_eq_true h, decide_eq_true (by omega)]
  · rw [decide_eq_false h, decide_eq_false (by omega)]
section
variable {P : Program} {w : World} {K : PySem.W.Frag} {mg : Str → Option Value} {base : Heap} {C : Addr}
theorem ok_tinit {f : Addr} {fd : FuncData} (F : Fun K "__init__" "Thing.__init__" sTInit f fd) (T : TxtT K mg C) : FnOk P w K mg base CX0 1 f fd ["self"] (spTInit C) := by
  refine F.ok scTInit (fun vs H Q E h => ?_) (fun cdv A outer s0 H vs Q E hr h => ?_)
  · obtain ⟨p, dx, rfl, _⟩ := h
    rfl
  · obtain ⟨p, dx, rfl, hp, q⟩ := h
    refine ⟨_, pss_cons (ps_fld (pv 0) pe_int rfl) (pss_one (ps_fld (pv 0) (pe_lst pa_nil) rfl)), ?_⟩
    refine ⟨_, rfl, p, C, dx, [], rfl, hp, T.cl, T.nN, (by show 0 < 1000; decide), ?_⟩
    refine ⟨Nat.zero_le _, fun l nl => ?_⟩
    have npl : p ≠ l := fun e => by rw [← e, upd_same] at nl; cases nl
    refine ⟨_, rfl, p, C, dx, _, rfl, by rw [upd_ne npl, upd_same], T.cl, T.nV, (by show 1 < 1000; decide), ?_⟩
    have hl : H l = none := by rw [upd_ne npl.symm] at nl; exact nl
    refine q _ l hl ?_ ?_ fun b o e hb => ?_
    · rw [upd_same, tF_new]
    · rw [upd_ne npl.symm, upd_same]
    · rw [upd_ne hb, upd_ne (ne_of_none e hl), upd_ne hb]
      exact e
theorem ok_has_view {f : Addr} {fd : FuncData} (F : Fun K "has_view" "Thing.has_view" sHasView f fd) (T : TxtT K mg C) (O : Own mg) : FnOk P w K mg base CX0 1 f fd ["self", "number"] (spHasView C) := by
  refine F.ok scHasView (fun vs H Q E h => ?_) (fun cdv A outer s0 H vs Q E hr h => ?_)
  · obtain ⟨t, dx, l, n, i, xs, rfl, _⟩ := h
    rfl
  · obtain ⟨t, dx, l, n, i, xs, rfl, ht, hl, q⟩ := h
    refine ⟨_, pss_one (ps_ret (pe_cmpR op_lt (pv 1) (pe_callB call_len_seq (by rfl) O.len PySem.boot_len (pa_cons (pe_fld (pv 0) rfl) pa_nil)) (nomark _))), ?_⟩
    refine ⟨_, rfl, _, rfl, t, C, dx, _, _, rfl, ht, T.cl, T.nV, tF_v n l, l, _, rfl, .inl (SqL.of hl), _, _, rfl, rfl, ?_⟩
    dsimp only
    rw [dec_lt]
    exact q
theorem ok_may_view {f f1 : Addr} {fd fd1 : FuncData} (F : Fun K "may_view" "Thing.may_view" sMayView f fd) (T : TxtT K mg C) (O : Own mg) (cs : ∃ t, mg "MOST_IN_VIEW" = some (.int 3 t)) (D1 : Def K mg "members" "members" sMembers ["chosen"] f1 fd1) (G1 : FnOk P w K mg base CX0 1 f1 fd1 ["chosen"] spMembers) :
    FnOk P w K mg base CX0 2 f fd ["self", "questions"] (spMayView C) := by
  obtain ⟨tk, cs⟩ := cs
  refine F.ok scMayView (fun vs H Q E h => ?_) (fun cdv A outer s0 H vs Q E hr h => ?_)
  · obtain ⟨t, dx, l, n, s, rfl, _⟩ := h
    rfl
  · obtain ⟨t, dx, l, n, s, rfl, ht, hn, q⟩ := h
    refine ⟨_, pss_cons (ps_if (pt_cmpR op_ge (pv 1) (pe_op op_shl pe_int (pe_fld (pv 0) rfl)) (nomark _)) (pss_one (ps_ret pe_bl)) pss_nil)
      (pss_one (ps_ret (pe_chain op_le op_le pe_int (pe_callB call_len_seq (by rfl) O.len PySem.boot_len (pa_cons (pe_call G1 hr rfl D1.g D1.fn.kp D1.b .nil pass0 (pa_cons (pv 1) pa_nil)) pa_nil)) (pe_glob (v := .int 3) rfl cs ⟨_, rfl⟩)))), ?_⟩
    refine ⟨_, rfl, _, rfl, t, C, dx, _, _, rfl, ht, T.cl, T.nN, tF_n n l, _, _, rfl, rfl, cpow1 hn, _, _, rfl, rfl, _, rfl, ?_⟩
    rw [shl1]
    refine ite_b (c' := decide (2 ^ n ≤ s)) (dec_le _ _) (fun h => ?_) (fun h => ?_)
    · have := of_decide_eq_true h
      have q' := q H (Same.refl _)
      rw [decide_eq_false (show ¬ s < 2 ^ n by omega), Bool.false_and] at q'
      exact q'
    · have hlt : s < 2 ^ n := by
        have := of_decide_eq_false h
        omega
      have h32 : s < 32 := Nat.lt_of_lt_of_le hlt (Nat.pow_le_pow_right (by decide) hn)
      refine ⟨_, rfl, s, rfl, h32, fun H1 p np sm hp => ?_⟩
      refine ⟨p, _, rfl, .inl (SqL.of hp), _, _, rfl, rfl, _, rfl, ?_⟩
      have q' := q H1 sm
      rw [decide_eq_true hlt, Bool.true_and] at q'
      have e1 : decide ((1 : Int) ≤ ((nats (bits s)).length : Int)) = decide (1 ≤ (bits s).length) := by
        rw [nats_len]
        exact dec_le 1 _
      refine ite_b e1 (fun h1 => ?_) (fun h1 => ?_)
      · refine ⟨_, _, rfl, rfl, ?_⟩
        rw [h1, Bool.true_and] at q'
        have e2 : decide (((nats (bits s)).length : Int) ≤ 3) = decide ((bits s).length ≤ 3) := by
          rw [nats_len]
          exact dec_le _ 3
        dsimp only
        rw [e2]
        exact q'
      · rw [h1, Bool.false_and] at q'
        exact q'
end
end VT

set_option Elab.async false
set_option linter.all false
set_option maxRecDepth 100000
set_option maxHeartbeats 2000000
namespace VT
open PySem PySem.Spec PyProof.Rows L2
open PySem.W (Codec)
/-! ### what is called, by its promise -/
def Callee (P : Program) (w : World) (K : PySem.W.Frag) (mg : Str → Option Value) (base : Heap) (k : Nat) (x : Str) (ps : List Str) (sp : Sp) : Prop :=
  ∃ (f : Addr) (fd : FuncData), mg x = some (.ref f) ∧ PySem.W.keepIn K (.ref f) = true ∧ Binds K fd ps [] ∧ FnOk P w K mg base CX0 k f fd ps sp
def MCallee (P : Program) (w : World) (K : PySem.W.Frag) (mg : Str → Option Value) (base : Heap) (C : Addr) (k : Nat) (m : Str) (ps : List Str) (sp : Sp) : Prop :=
  ∃ (f : Addr) (fd : FuncData), Meth K C m f ∧ Binds K fd ps [] ∧ FnOk P w K mg base CX0 k f fd ps sp
def Maker (P : Program) (w : World) (K : PySem.W.Frag) (mg : Str → Option Value) (base : Heap) (C : Addr) (k : Nat) (x : Str) (ps : List Str) (sp : Sp) : Prop :=
  ∃ (f : Addr) (fd : FuncData), Mk K C f ∧ mg x = some (.ref C) ∧ Binds K fd ps [] ∧ FnOk P w K mg base CX0 k f fd ps sp
section
variable {X : Cx} {k : Nat} {C : Addr} {x m : Str} {ps : List Str} {sp : Sp} {p apos pos : Pos} {e o : Expr} {es : List Expr} {t : TA} {ta : TE}
theorem pe_callD (D : Callee X.prog X.w X.K X.mg X.base k x ps sp) (hr : Room k X.A) (hg : Gl X x) (ha : PA X (e :: es) t) (hdb : (x == ("__debug__" : Str)) = false := by decide)
    (he : starEach (e :: es) X.env = (false, eval e X.env) :: starEach es X.env := by rfl) (hpl : (backTo pos (starEach es X.env)).any (·.1) = false := by rfl) : PE X (.Call (.Name x p) (e :: es) [] pos) (tCall sp [] E0 t) := by
  obtain ⟨f, fd, h1, h2, h3, h4⟩ := D
  exact pe_call h4 hr hg h1 h2 h3 .nil pass0 ha hdb he hpl
theorem pe_methD {pl : Sem Bool} (D : MCallee X.prog X.w X.K X.mg X.base C k m ps sp) (c : Cls X.K C) (hr : Room k X.A) (ho : PE X o ta) (ha : PA X (e :: es) t)
    (hst : starEach (e :: es) X.env = (false, eval e X.env) :: starEach es X.env := by rfl) (hpl : (backTo pos (starEach es X.env)).any (·.1) = false := by rfl)
    (ht : eval (.Call (.Attribute o m apos) (e :: es) [] pos) X.env = (do
      let ov ← eval o X.env
      standAt apos.atName
      let (f, first) ← holding [ov] (getMethod ov m pl)
      callWith pos f first (backTo pos (starEach (e :: es) X.env)) (backToKw pos (keywordEach [] X.env))) := by rfl) :
    PE X (.Call (.Attribute o m apos) (e :: es) [] pos) (tMeth C m sp [] E0 ta t) := by
  obtain ⟨f, fd, h1, h3, h4⟩ := D
  exact pe_meth (pl := pl) ho c h1 h4 hr h3 .nil pass0 ha hst hpl ht
end
/-! ### the constants -/
structure Cons (mg : Str → Option Value) : Prop where
  noSuch : ∃ t, mg "NO_SUCH" = some (.int (-2) t)
  noneFound : ∃ t, mg "NONE_FOUND" = some (.int (-6) t)
  notBegun : ∃ t, mg "NOT_BEGUN" = some (.int (-11) t)
  sameView : ∃ t, mg "SAME_VIEW" = some (.int (-17) t)
  notAllowed : ∃ t, mg "NOT_ALLOWED" = some (.int (-22) t)
  tooMany : ∃ t, mg "TOO_MANY" = some (.int (-28) t)
  nothing : ∃ t, mg "NOTHING_TO_TELL" = some (.int (-33) t)
  fewestQ : ∃ t, mg "FEWEST_QUESTIONS" = some (.int 2 t)
  mostQ : ∃ t, mg "MOST_QUESTIONS" = some (.int 5 t)
  mostIn : ∃ t, mg "MOST_IN_VIEW" = some (.int 3 t)
  mostViews : ∃ t, mg "MOST_VIEWS" = some (.int 6 t)
  mostSeen : ∃ t, mg "MOST_SEEN" = some (.int 100 t)
  unsure : ∃ t, mg "UNSURE" = some (.int 2 t)
  begin_ : ∃ t, mg "BEGIN" = some (.int 0 t)
  table : ∃ t, mg "TABLE" = some (.int 3 t)
theorem pe_con1 {X : Cx} {x : Str} {i : Int} {pos : Pos} (hm : ∃ t, X.mg x = some (.int i t)) (hg : Gl X x) (hd : (x == ("__debug__" : Str)) = false := by decide) : PE X (.Name x pos) (tC (.int i)) := by
  obtain ⟨t, h⟩ := hm
  exact pe_glob hg h ⟨_, rfl⟩ hd
/-! ### the thing and all that is its own -/
def foot (t l : Addr) (as ts : List Addr) : List Addr := t :: l :: (as ++ ts)
structure ThingAt (C CV : Addr) (H : Hp) (t l : Addr) (as ts : List Addr) (n : Nat) (ws : List (Nat × List Nat)) : Prop where
  at_ : ∃ dx, H t = some (.ins C dx (tF n l))
  lst : H l = some (.lst (as.map V.ref))
  la : as.length = ws.length
  lt : ts.length = ws.length
  nda : as.Nodup
  ndt : ts.Nodup
  nl : l ∉ ts
  view : ∀ (j : Nat) (a tb : Addr) (v : Nat × List Nat), as[j]? = some a → ts[j]? = some tb → ws[j]? = some v → ViewAt CV H a tb v.1 v.2
section
variable {C CV : Addr} {H H' : Hp} {t l : Addr} {as ts : List Addr} {n : Nat} {ws : List (Nat × List Nat)}
theorem ThingAt.same (h : ThingAt C CV H t l as ts n ws) (s : Same H H') : ThingAt C CV H' t l as ts n ws :=
  ⟨let ⟨dx, e⟩ := h.at_; ⟨dx, s _ _ e⟩, s _ _ h.lst, h.la, h.lt, h.nda, h.ndt, h.nl, fun j a tb v e1 e2 e3 => (h.view j a tb v e1 e2 e3).same s⟩
theorem ThingAt.get (h : ThingAt C CV H t l as ts n ws) {j : Nat} {v : Nat × List Nat} (e : ws[j]? = some v) : ∃ a tb, as[j]? = some a ∧ ts[j]? = some tb ∧ ViewAt CV H a tb v.1 v.2 := by
  have hj : j < ws.length := (List.getElem?_eq_some_iff.mp e).1
  obtain ⟨a, ea⟩ := get_of_lt (l := as) (i := j) (by rw [h.la]; exact hj)
  obtain ⟨tb, et⟩ := get_of_lt (l := ts) (i := j) (by rw [h.lt]; exact hj)
  exact ⟨a, tb, ea, et, h.view j a tb v ea et e⟩
theorem ThingAt.len (h : ThingAt C CV H t l as ts n ws) : (as.map V.ref).length = ws.length := by rw [List.length_map, h.la]
theorem ThingAt.there (h : ThingAt C CV H t l as ts n ws) {b : Addr} (hb : b ∈ foot t l as ts) : ∃ o, H b = some o := by
  rcases List.mem_cons.mp hb with e | hb
  · obtain ⟨dx, q⟩ := h.at_
    exact ⟨_, e ▸ q⟩
  rcases List.mem_cons.mp hb with e | hb
  · exact ⟨_, e ▸ h.lst⟩
  rcases List.mem_append.mp hb with hb | hb
  · obtain ⟨j, hj⟩ := List.mem_iff_getElem?.mp hb
    obtain ⟨v, hv⟩ := get_of_lt (l := ws) (i := j) (by rw [← h.la]; exact (List.getElem?_eq_some_iff.mp hj).1)
    obtain ⟨a, tb, e1, e2, q⟩ := h.get hv
    rw [hj] at e1
    cases e1
    obtain ⟨dx, q⟩ := q.at_
    exact ⟨_, q⟩
  · obtain ⟨j, hj⟩ := List.mem_iff_getElem?.mp hb
    obtain ⟨v, hv⟩ := get_of_lt (l := ws) (i := j) (by rw [← h.lt]; exact (List.getElem?_eq_some_iff.mp hj).1)
    obtain ⟨a, tb, e1, e2, q⟩ := h.get hv
    rw [hj] at e2
    cases e2
    exact ⟨_, q.tb⟩
theorem ThingAt.free (h : ThingAt C CV H t l as ts n ws) {b : Addr} (e : H b = none) : b ∉ foot t l as ts := fun hb => by
  obtain ⟨o, q⟩ := h.there hb
  rw [e] at q
  cases q
end
/-- how a call ends: a new list of what is answered, the thing as the specification's step leaves it, all else as it was -/
def Post (C CV : Addr) (H : Hp) (ft : List Addr) (t : Addr) (st : Kp351.State) (ans : List Int) (Q : VK) : Prop :=
  ∀ (H' : Hp) (p l' : Addr) (as' ts' : List Addr) (n' : Nat) (ws' : List (Nat × List Nat)), H p = none → H' p = some (.lst (ans.map V.int)) → ThingAt C CV H' t l' as' ts' n' ws' → stOf n' ws' = st → WOk n' ws' → p ∉ foot t l' as' ts' →
    (∀ b ∈ foot t l' as' ts', b ∈ ft ∨ H b = none) → (∀ b o, H b = some o → b ∉ ft → H' b = some o) → Q (.ref p) H'
theorem Post.read {C CV : Addr} {H H' : Hp} {t l p : Addr} {as ts : List Addr} {n : Nat} {ws : List (Nat × List Nat)} {st : Kp351.State} {ans : List Int} {Q : VK} (h : Post C CV H (foot t l as ts) t st ans Q) (T : ThingAt C CV H t l as ts n ws) (hst : stOf n ws = st) (ok : WOk n ws)
    (s : Same H H') (np : H p = none) (hp : H' p = some (.lst (ans.map V.int))) : Q (.ref p) H' :=
  h H' p l as ts n ws np hp (T.same s) hst ok (T.free np) (fun b hb => .inl hb) fun b o e _ => s b o e
/-! ### the calls by their numbers -/
/-- the promise of the def that answers the call numbered p -/
def spStep (K : PySem.W.Frag) (C CV : Addr) (p : Nat) : Sp := fun vs H Q _ => ∃ (t g l : Addr) (as ts : List Addr) (n : Nat) (ws : List (Nat × List Nat)) (gs : List Nat), vs = [.ref t, .ref g] ∧ ThingAt C CV H t l as ts n ws ∧ (if p = 0 then WOk n ws else DOk n ws) ∧
  SqL K H g (nats gs) ∧ g ∉ foot t l as ts ∧ GsOk p gs ∧ Post C CV H (foot t l as ts) t (Kp351.step (stOf n ws) (callG p gs)).1 (ansOf (Kp351.step (stOf n ws) (callG p gs)).2) Q
theorem SqL.at_ {K : PySem.W.Frag} {g : Addr} {gs : List Nat} {j x : Nat} (h : gs[j]? = some x) : atI (nats gs) (j : Int) = some (.int (x : Int)) := atI_nat (nats_at h)
end VT

set_option Elab.async false
set_option linter.all false
set_option maxRecDepth 100000
set_option maxHeartbeats 2000000
namespace VT
open PySem PySem.Spec PyProof.Rows L2
open PySem.W (Codec)
abbrev sBegin : Stmt := top 25
abbrev sViewC : Stmt := top 26
abbrev sUnview : Stmt := top 27
abbrev sTable : Stmt := top 28
abbrev sViewis : Stmt := top 29
abbrev sWorld : Stmt := top 30
theorem scBegin : FnScope ["thing", "given"] ["thing", "given"] (defScope sBegin) := ⟨rfl, rfl, rfl, by decide +kernel, rfl, by decide +kernel, by decide +kernel⟩
theorem scViewC : FnScope ["thing", "given", "questions", "view"] ["thing", "given"] (defScope sViewC) := ⟨rfl, rfl, rfl, by decide +kernel, rfl, by decide +kernel, by decide +kernel⟩
theorem scUnview : FnScope ["thing", "given"] ["thing", "given"] (defScope sUnview) := ⟨rfl, rfl, rfl, by decide +kernel, rfl, by decide +kernel, by decide +kernel⟩
theorem scTable : FnScope ["thing", "given", "view", "row"] ["thing", "given"] (defScope sTable) := ⟨rfl, rfl, rfl, by decide +kernel, rfl, by decide +kernel, by decide +kernel⟩
theorem scViewis : FnScope ["thing", "given", "view"] ["thing", "given"] (defScope sViewis) := ⟨rfl, rfl, rfl, by decide +kernel, rfl, by decide +kernel, by decide +kernel⟩
theorem scWorld : FnScope ["thing", "given", "view"] ["thing", "given"] (defScope sWorld) := ⟨rfl, rfl, rfl, by decide +kernel, rfl, by decide +kernel, by decide +kernel⟩
theorem WOk.d {n : Nat} {ws : List (Nat × List Nat)} (h : DOk n ws) : WOk n ws := .inr h
section
variable {P : Program} {w : World} {K : PySem.W.Frag} {mg : Str → Option Value} {base : Heap} {C CV : Addr}
theorem sp_len {p : Nat} {vs : List V} {H : Hp} {Q : VK} {E : XK} (h : spStep K C CV p vs H Q E) : vs.length = 2 := by
  obtain ⟨t, g, l, as, ts, n, ws, gs, rfl, _⟩ := h
  rfl
theorem ok_begin {f : Addr} {fd : FuncData} (F : Fun K "answer_begin" "answer_begin" sBegin f fd) (T : TxtT K mg C) (c : Cons mg) : FnOk P w K mg base CX0 1 f fd ["thing", "given"] (spStep K C CV 0) := by
  refine F.ok scBegin (fun vs H Q E h => sp_len h) (fun cdv A outer s0 H vs Q E hr h => ?_)
  obtain ⟨t, g, l, as, ts, n, ws, gs, rfl, TH, ok, hg, hgf, hgs, post⟩ := h
  obtain ⟨k, rfl⟩ := one_of (show gs.length = 1 from hgs)
  obtain ⟨dx, ht⟩ := TH.at_
  have at0 : atI (nats [k]) 0 = some (.int (k : Int)) := SqL.at_ (K := K) (g := g) (gs := [k]) (j := 0) rfl
  have ok' : WOk n ws := ok
  refine ⟨_, pss_cons (ps_if (PW.pt (pw_or (pt_cmpR op_lt (pe_ix ix_list (pv 1) pe_int (fun _ _ => rfl)) (pe_con1 c.fewestQ rfl) (nomark _)) (pw_or1 (pt_cmpR op_gt (pe_ix ix_list (pv 1) pe_int (fun _ _ => rfl)) (pe_con1 c.mostQ rfl) (nomark _)))))
      (pss_one (ps_ret (pe_lst (pa_cons (pe_con1 c.notAllowed rfl) pa_nil)))) pss_nil)
    (pss_cons (ps_fld (pv 0) (pe_ix ix_list (pv 1) pe_int (fun _ _ => rfl)) rfl) (pss_cons (ps_fld (pv 0) (pe_lst pa_nil) rfl) (pss_one (ps_ret (pe_lst (pa_cons pe_int pa_nil)))))), ?_⟩
  have no : (k < 2 ∨ 5 < k) → ∀ p, H p = none → Q (.ref p) (upd H p (.lst [.int (-22)])) := fun h p np => by
    have post' : Post C CV H (foot t l as ts) t _ _ Q := post
    rw [show Kp351.step (stOf n ws) (callG 0 [k]) = _ from st_begin_no h] at post'
    exact post'.read TH rfl ok' (same_upd np) np upd_same
  refine ⟨_, rfl, g, _, _, _, rfl, rfl, hg, at0, _, _, rfl, rfl, _, rfl, ?_⟩
  refine ite_b (c' := decide (k < 2)) (dec_lt k 2) (fun h => ?_) (fun h => ?_)
  · exact iteT ⟨(by show 1 ≤ sizeLine; decide), fun p np => no (.inl (of_decide_eq_true h)) p np⟩
  refine ⟨_, rfl, g, _, _, _, rfl, rfl, hg, at0, _, _, rfl, rfl, _, rfl, ?_⟩
  refine ite_b (c' := decide (5 < k)) (dec_lt 5 k) (fun h2 => ?_) (fun h2 => ?_)
  · exact ⟨(by show 1 ≤ sizeLine; decide), fun p np => no (.inr (of_decide_eq_true h2)) p np⟩
  have hk : ¬ (k < 2 ∨ 5 < k) := fun z => z.elim (of_decide_eq_false h) (of_decide_eq_false h2)
  refine ⟨_, rfl, g, _, _, _, rfl, rfl, hg, at0, _, rfl, t, C, dx, _, rfl, ht, T.cl, T.nN, (by show 2 < 1000; decide), ?_⟩
  refine ⟨Nat.zero_le _, fun m nm => ?_⟩
  have ntm : t ≠ m := fun e => by rw [← e, upd_same] at nm; cases nm
  refine ⟨_, rfl, t, C, dx, _, rfl, by rw [upd_ne ntm, upd_same], T.cl, T.nV, (by show 2 < 1000; decide), ?_⟩
  refine ⟨(by show 1 ≤ sizeLine; decide), fun p np => ?_⟩
  have nm0 : H m = none := by rw [upd_ne ntm.symm] at nm; exact nm
  have ntp : t ≠ p := fun e => by rw [← e, upd_same] at np; cases np
  have nmp : m ≠ p := fun e => by rw [← e, upd_ne ntm.symm, upd_same] at np; cases np
  have np0 : H p = none := by rw [upd_ne ntp.symm, upd_ne nmp.symm, upd_ne ntp.symm] at np; exact np
  have post' : Post C CV H (foot t l as ts) t _ _ Q := post
  rw [show Kp351.step (stOf n ws) (callG 0 [k]) = _ from st_begin_yes hk] at post'
  refine post' _ p m [] [] k [] np0 upd_same ⟨⟨dx, ?_⟩, ?_, rfl, rfl, .nil, .nil, by simp, by simp⟩ ?_ (.inr ⟨by omega, by omega, by decide, by simp⟩) ?_ ?_ ?_
  · rw [upd_ne ntp, upd_same, tF_putN, tF_putV]
  · rw [upd_ne nmp, upd_ne ntm.symm, upd_same]
    rfl
  · exact if_neg (by omega)
  · unfold foot
    simp [ntp.symm, nmp.symm]
  · intro b hb
    unfold foot at hb ⊢
    simp at hb
    rcases hb with rfl | rfl
    · exact .inl (List.mem_cons_self ..)
    · exact .inr nm0
  · intro b o e hb
    have hbt : b ≠ t := fun z => hb (z ▸ List.mem_cons_self ..)
    rw [upd_ne (ne_of_none e np0), upd_ne hbt, upd_ne (ne_of_none e nm0), upd_ne hbt]
    exact e

theorem pe_makeD {X : Cx} {k : Nat} {C : Addr} {x : Str} {ps : List Str} {sp : Sp} {p pos : Pos} {e : Expr} {es : List Expr} {t : TA} (D : Maker X.prog X.w X.K X.mg X.base C k x ps sp) (hr : Room (k + 1) X.A) (hg : Gl X x) (ha : PA X (e :: es) t) (hdb : (x == ("__debug__" : Str)) = false := by decide)
    (he : starEach (e :: es) X.env = (false, eval e X.env) :: starEach es X.env := by rfl) (hpl : (backTo pos (starEach es X.env)).any (·.1) = false := by rfl) : PE X (.Call (.Name x p) (e :: es) [] pos) (tMake C sp [] E0 t) := by
  obtain ⟨f, fd, h1, h2, h3, h4⟩ := D
  exact pe_make h1 h4 hr hg h2 h3 .nil pass0 ha hdb he hpl
theorem ViewAt.upd {CV : Addr} {H : Hp} {a tb b : Addr} {s : Nat} {tab : List Nat} {o : HO} (h : ViewAt CV H a tb s tab) (h1 : a ≠ b) (h2 : tb ≠ b) : ViewAt CV (upd H b o) a tb s tab := ⟨let ⟨dx, e⟩ := h.at_; ⟨dx, by rw [upd_ne h1]; exact e⟩, by rw [upd_ne h2]; exact h.tb⟩
section
variable {C CV : Addr} {H H2 : Hp} {t l : Addr} {as ts : List Addr} {n : Nat} {ws : List (Nat × List Nat)}
theorem ThingAt.tl (h : ThingAt C CV H t l as ts n ws) : t ≠ l := let ⟨_, e⟩ := h.at_; ne_of e h.lst (by intro q; cases q)
theorem ThingAt.al (h : ThingAt C CV H t l as ts n ws) {j : Nat} {a tb : Addr} {v : Nat × List Nat} (e1 : as[j]? = some a) (e2 : ts[j]? = some tb) (e3 : ws[j]? = some v) : a ≠ l ∧ tb ≠ l ∧ t ≠ tb ∧ a ≠ tb := by
  have q := h.view j a tb v e1 e2 e3
  obtain ⟨dx, qa⟩ := q.at_
  obtain ⟨dt, qt⟩ := h.at_
  exact ⟨ne_of qa h.lst (by intro z; cases z), fun z => h.nl (z ▸ List.mem_of_getElem? e2), ne_of qt q.tb (by intro z; cases z), ne_of qa q.tb (by intro z; cases z)⟩
theorem ThingAt.push (h : ThingAt C CV H t l as ts n ws) (sm : Same H H2) {x tb : Addr} {s : Nat} {tab : List Nat} (nx : H x = none) (nt : H tb = none) (hv : ViewAt CV H2 x tb s tab) :
    ThingAt C CV (upd H2 l (.lst (as.map V.ref ++ [.ref x]))) t l (as ++ [x]) (ts ++ [tb]) n (ws ++ [(s, tab)]) := by
  have h2 := h.same sm
  obtain ⟨dt, ht⟩ := h2.at_
  have hx : x ∉ as := fun z => h.free nx (by unfold foot; exact List.mem_cons_of_mem _ (List.mem_cons_of_mem _ (List.mem_append_left _ z)))
  have hb : tb ∉ ts := fun z => h.free nt (by unfold foot; exact List.mem_cons_of_mem _ (List.mem_cons_of_mem _ (List.mem_append_right _ z)))
  have hxl : x ≠ l := (ne_of_none h.lst nx).symm
  have hbl : tb ≠ l := (ne_of_none h.lst nt).symm
  refine ⟨⟨dt, by rw [upd_ne h2.tl]; exact ht⟩, by rw [upd_same, List.map_append]; rfl, by rw [List.length_append, List.length_append, h.la]; rfl, by rw [List.length_append, List.length_append, h.lt]; rfl, ?_, ?_, ?_, fun j a b v e1 e2 e3 => ?_⟩
  · exact List.nodup_append.mpr ⟨h.nda, by simp, fun a ha b hb e => hx (by rw [List.mem_singleton.mp hb] at e; exact e ▸ ha)⟩
  · exact List.nodup_append.mpr ⟨h.ndt, by simp, fun a ha b hb' e => hb (by rw [List.mem_singleton.mp hb'] at e; exact e ▸ ha)⟩
  · intro z
    rcases List.mem_append.mp z with z | z
    · exact h.nl z
    · exact hbl (List.mem_singleton.mp z).symm
  · by_cases hj : j < ws.length
    · rw [List.getElem?_append_left (by rw [h.la]; exact hj)] at e1
      rw [List.getElem?_append_left (by rw [h.lt]; exact hj)] at e2
      rw [List.getElem?_append_left hj] at e3
      obtain ⟨q1, q2, _, _⟩ := h2.al e1 e2 e3
      exact (h2.view j a b v e1 e2 e3).upd q1 q2
    · have hjl : j = ws.length := by
        have := (List.getElem?_eq_some_iff.mp e3).1
        rw [List.length_append] at this
        have h1 : ([(s, tab)] : List (Nat × List Nat)).length = 1 := rfl
        omega
      subst hjl
      rw [← h.la, List.getElem?_append_right (Nat.le_refl _), Nat.sub_self] at e1
      rw [← h.lt, List.getElem?_append_right (Nat.le_refl _), Nat.sub_self] at e2
      rw [List.getElem?_append_right (Nat.le_refl _), Nat.sub_self] at e3
      cases e1
      cases e2
      cases e3
      exact hv.upd hxl hbl
theorem ThingAt.erase (h : ThingAt C CV H t l as ts n ws) (i : Nat) : ThingAt C CV (upd H l (.lst ((as.map V.ref).eraseIdx i))) t l (as.eraseIdx i) (ts.eraseIdx i) n (ws.eraseIdx i) := by
  obtain ⟨dt, ht⟩ := h.at_
  have me : ∀ (as : List Addr) (i : Nat), (as.map V.ref).eraseIdx i = (as.eraseIdx i).map V.ref := by
    intro as
    induction as with
    | nil => intro i; rfl
    | cons a as ih =>
      intro i
      cases i with
      | zero => rfl
      | succ i => exact congrArg (fun z => V.ref a :: z) (ih i)
  refine ⟨⟨dt, by rw [upd_ne h.tl]; exact ht⟩, by rw [upd_same, me], by rw [List.length_eraseIdx, List.length_eraseIdx, h.la], by rw [List.length_eraseIdx, List.length_eraseIdx, h.lt], h.nda.sublist (List.eraseIdx_sublist _ _), h.ndt.sublist (List.eraseIdx_sublist _ _), fun z => h.nl (List.mem_of_mem_eraseIdx z), fun j a b v e1 e2 e3 => ?_⟩
  rw [List.getElem?_eraseIdx] at e1 e2 e3
  by_cases hj : j < i
  · rw [if_pos hj] at e1 e2 e3
    obtain ⟨q1, q2, _, _⟩ := h.al e1 e2 e3
    exact (h.view j a b v e1 e2 e3).upd q1 q2
  · rw [if_neg hj] at e1 e2 e3
    obtain ⟨q1, q2, _, _⟩ := h.al e1 e2 e3
    exact (h.view (j + 1) a b v e1 e2 e3).upd q1 q2
/-- the i-th view gets another table, which stands at r -/
theorem ThingAt.setTable (h : ThingAt C CV H t l as ts n ws) {i : Nat} {a dx r : Addr} {s : Nat} {tab : List Nat} (ha : as[i]? = some a) (hr : H r = some (.lst (nats tab))) (hf : r ∉ foot t l as ts) :
    ThingAt C CV (upd H a (.ins CV dx (vF s r))) t l as (ts.set i r) n (ws.set i (s, tab)) := by
  obtain ⟨dt, ht⟩ := h.at_
  obtain ⟨v, hv⟩ := get_of_lt (l := ws) (i := i) (by rw [← h.la]; exact (List.getElem?_eq_some_iff.mp ha).1)
  obtain ⟨tb, htb⟩ := get_of_lt (l := ts) (i := i) (by rw [h.lt]; exact (List.getElem?_eq_some_iff.mp hv).1)
  obtain ⟨q1, q2, q3, q4⟩ := h.al ha htb hv
  have hva := h.view i a tb v ha htb hv
  obtain ⟨dv, hda⟩ := hva.at_
  have hta : t ≠ a := by
    intro e
    rw [e, hda] at ht
    injection ht with ht
    injection ht with e1 e2 e3
    have : (vF v.1 tb).lookup ("views" : Str) = (tF n l).lookup ("views" : Str) := by rw [e3]
    rw [tF_v, vF_no _ _ (by decide +kernel) (by decide +kernel)] at this
    cases this
  have hra : r ≠ a := ne_of hr hda (by intro z; cases z)
  refine ⟨⟨dt, by rw [upd_ne hta]; exact ht⟩, by rw [upd_ne q1.symm]; exact h.lst, by rw [List.length_set]; exact h.la, by rw [List.length_set, List.length_set]; exact h.lt, h.nda, ?_, ?_, fun j b c z e1 e2 e3 => ?_⟩
  · rw [List.nodup_iff_pairwise_ne, List.pairwise_iff_getElem]
    intro x y hx hy hxy e
    rw [List.length_set] at hx hy
    rw [List.getElem_set, List.getElem_set] at e
    have hnr : ∀ (k : Nat) (hk : k < ts.length), ts[k] ≠ r := fun k hk e => hf (by unfold foot; exact List.mem_cons_of_mem _ (List.mem_cons_of_mem _ (List.mem_append_right _ (e ▸ List.getElem_mem hk))))
    split at e
    · split at e
      · omega
      · exact hnr y hy e.symm
    · split at e
      · exact hnr x hx e
      · have := (List.getElem_inj h.ndt).mp e
        omega
  · intro z
    rcases List.mem_or_eq_of_mem_set z with z | z
    · exact h.nl z
    · exact hf (by rw [← z]; unfold foot; exact List.mem_cons_of_mem _ (List.mem_cons_self ..))
  · rw [List.getElem?_set] at e2 e3
    by_cases hj : i = j
    · subst hj
      have hl1 : i < ts.length := (List.getElem?_eq_some_iff.mp htb).1
      have hl2 : i < ws.length := (List.getElem?_eq_some_iff.mp hv).1
      rw [if_pos rfl, if_pos hl1] at e2
      rw [if_pos rfl, if_pos hl2] at e3
      rw [ha] at e1
      cases e1
      cases e2
      cases e3
      exact ⟨⟨dx, upd_same⟩, by rw [upd_ne hra]; exact hr⟩
    · rw [if_neg hj] at e2 e3
      have hb : b ≠ a := fun e => hj (nd_ix h.nda ha (by rw [← e]; exact e1))
      have hc : c ≠ a := (ne_of (h.view j b c z e1 e2 e3).tb hda (by intro z; cases z))
      exact (h.view j b c z e1 e2 e3).upd hb hc
/-- the i-th view's own table is written -/
theorem ThingAt.setTab (h : ThingAt C CV H t l as ts n ws) {i : Nat} {tb : Addr} {v : Nat × List Nat} {tab : List Nat} (hv : ws[i]? = some v) (htb : ts[i]? = some tb) (hn : H2 tb = some (.lst (nats tab))) (kp : ∀ b o, H b = some o → b ≠ tb → H2 b = some o) :
    ThingAt C CV H2 t l as ts n (ws.set i (v.1, tab)) := by
  obtain ⟨dt, ht⟩ := h.at_
  obtain ⟨a, ha⟩ := get_of_lt (l := as) (i := i) (by rw [h.la]; exact (List.getElem?_eq_some_iff.mp hv).1)
  obtain ⟨q1, q2, q3, q4⟩ := h.al ha htb hv
  refine ⟨⟨dt, kp _ _ ht q3⟩, kp _ _ h.lst q2.symm, by rw [List.length_set]; exact h.la, by rw [List.length_set]; exact h.lt, h.nda, h.ndt, h.nl, fun j b c z e1 e2 e3 => ?_⟩
  have hl2 : i < ws.length := (List.getElem?_eq_some_iff.mp hv).1
  rw [List.getElem?_set] at e3
  by_cases hj : i = j
  · subst hj
    rw [if_pos rfl, if_pos hl2] at e3
    rw [ha] at e1
    rw [htb] at e2
    cases e1
    cases e2
    cases e3
    obtain ⟨dx, hda⟩ := (h.view i a tb v ha htb hv).at_
    exact ⟨⟨dx, kp _ _ hda q4⟩, hn⟩
  · rw [if_neg hj] at e3
    have hc : c ≠ tb := fun e => hj (nd_ix h.ndt htb (by rw [← e]; exact e2))
    obtain ⟨dx, hdb⟩ := (h.view j b c z e1 e2 e3).at_
    have hb : b ≠ tb := ne_of hdb (h.view i a tb v ha htb hv).tb (by intro z; cases z)
    exact ⟨⟨dx, kp _ _ hdb hb⟩, kp _ _ (h.view j b c z e1 e2 e3).tb hc⟩
end
theorem in_nats (s : Nat) (l : List Nat) : inV (.int (s : Int)) (nats l) = l.any (fun x => x == s) := by
  unfold inV nats
  rw [List.any_map]
  congr 1
  funext x
  exact beq_cast x s
theorem flat_nats (l : List Nat) : (nats l).all flatV = true := by
  unfold nats
  rw [List.all_map, List.all_eq_true]
  intro x _
  rfl
theorem any_map1 (ws : List (Nat × List Nat)) (s : Nat) : (ws.map (·.1)).any (fun x => x == s) = ws.any (fun v => v.1 == s) := by
  rw [List.any_map]
  rfl
theorem ok_viewC {f : Addr} {fd : FuncData} (F : Fun K "answer_view" "answer_view" sViewC f fd) (T : TxtT K mg C) (V' : TxtV K mg CV) (O : Own mg) (c : Cons mg)
    (M1 : MCallee P w K mg base C 2 "may_view" ["self", "questions"] (spMayView C)) (M2 : Maker P w K mg base CV 3 "View" ["self", "questions"] (spVInit CV)) : FnOk P w K mg base CX0 5 f fd ["thing", "given"] (spStep K C CV 1) := by
  refine F.ok scViewC (fun vs H Q E h => sp_len h) (fun cdv A outer s0 H vs Q E hr h => ?_)
  obtain ⟨t, g, l, as, ts, n, ws, gs, rfl, TH, ok, hg, hgf, hgs, post⟩ := h
  obtain ⟨s, rfl⟩ := one_of (show gs.length = 1 from hgs)
  obtain ⟨dx, ht⟩ := TH.at_
  have at0 : atI (nats [s]) 0 = some (.int (s : Int)) := SqL.at_ (K := K) (g := g) (gs := [s]) (j := 0) rfl
  have d : DOk n ws := ok
  have hr2 : Room 2 _ := hr.mono (by decide)
  have est := stOf_ok d
  have post : Post C CV H (foot t l as ts) t (Kp351.step (stOf n ws) (.view s)).1 (ansOf (Kp351.step (stOf n ws) (.view s)).2) Q := post
  rw [est] at post
  refine ⟨_, pss_cons (ps_set (i := 2) scViewC.nd rfl (Or.inl rfl) (pe_ix ix_list (pv 1) pe_int (fun _ _ => rfl)))
    (pss_cons (ps_if (pt_not (pt_val (pe_methD M1 T.cl hr2 (pv 0) (pa_cons (pv 2) pa_nil)))) (pss_one (ps_ret (pe_lst (pa_cons (pe_con1 c.notAllowed rfl) pa_nil)))) pss_nil)
    (pss_cons (ps_if (pt_cmpR op_in_seq (pv 2) (pe_lc (own := [("view", 3)]) (g := gName 3) (tt := tYes) (te := tFld K (tVar 3) "questions") rfl scViewC.nd (pi_list (pe_fld (pv 0) rfl)) (blkOk_by (N := ["thing", "given", "questions", "view"]) (sc := defScope sViewC) (by decide +kernel))
        (fun _ _ _ _ _ => pg_name (i := 3) scViewC.nd rfl (Or.inl rfl)) (fun _ _ _ _ _ => pts_nil) (fun _ _ _ _ _ => by exact pe_fld (pv 3) rfl)) (by rfl)) (pss_one (ps_ret (pe_lst (pa_cons (pe_con1 c.sameView rfl) pa_nil)))) pss_nil)
    (pss_cons (ps_if (pt_cmpR op_ge (pe_callB call_len_seq (by rfl) O.len PySem.boot_len (pa_cons (pe_fld (pv 0) rfl) pa_nil)) (pe_con1 c.mostViews rfl) (nomark _)) (pss_one (ps_ret (pe_lst (pa_cons (pe_con1 c.tooMany rfl) pa_nil)))) pss_nil)
    (pss_cons (ps_expr (pe_bm PySem.F.plainAttrs_list PySem.F.slot_list_append PySem.F.type_list_append mt_append (pe_fld (pv 0) rfl) (pa_cons (pe_makeD M2 hr rfl (pa_cons (pv 2) pa_nil)) pa_nil)))
    (pss_one (ps_ret (pe_lst (pa_cons (pe_op op_sub (pe_callB call_len_seq (by rfl) O.len PySem.boot_len (pa_cons (pe_fld (pv 0) rfl) pa_nil)) pe_int) pa_nil)))))))), ?_⟩
  refine ⟨_, rfl, g, _, _, _, rfl, rfl, hg, at0, ?_⟩
  refine ⟨_, rfl, t, dx, _, rfl, ht, tF_no _ _ (by decide +kernel) (by decide +kernel), _, rfl, t, dx, l, n, s, rfl, ht, d.hi, fun H1 s1 => ⟨_, rfl, ?_⟩⟩
  have TH1 := TH.same s1
  show if (!okV n s) = true then _ else _
  cases hok : okV n s
  · refine iteT ⟨(by show 1 ≤ sizeLine; decide), fun p np => ?_⟩
    rw [st_view_22 d.hi hok] at post
    exact post.read TH est (.inr d) (s1.trans (same_upd np)) (s1.free np) upd_same
  refine iteF ?_
  -- questions in [view.questions for view in thing.views]
  obtain ⟨h1, h2, h3⟩ := okV_lt hok
  have h32 : s < 32 := Nat.lt_of_lt_of_le h1 (Nat.pow_le_pow_right (by decide) d.hi)
  have ht1 := s1 _ _ ht
  refine ⟨_, rfl, _, rfl, t, C, dx, _, _, rfl, ht1, T.cl, T.nV, tF_v n l, l, rfl, ⟨_, SqL.of TH1.lst⟩, fun D nD => ?_⟩
  have sD : Same H1 (upd H1 D (.lst [])) := same_upd nD
  refine lc_list (K := K) (a := l) (xs := as.map V.ref) (fun i H' => Same H1 H' ∧ H' D = some (.lst (nats ((ws.map (·.1)).take i)))) ⟨sD, upd_same⟩ (fun i H' _ h => SqL.of (h.1 _ _ TH1.lst)) ?_ ?_
  · rintro i y H' hy ⟨s5, hD⟩
    rw [List.getElem?_map] at hy
    cases ea : as[i]? with
    | none => rw [ea] at hy; cases hy
    | some a =>
      rw [ea] at hy
      cases hy
      obtain ⟨v, hv⟩ := get_of_lt (l := ws) (i := i) (by rw [← TH.la]; exact (List.getElem?_eq_some_iff.mp ea).1)
      obtain ⟨a', tb, e1, e2, q⟩ := TH1.get hv
      rw [ea] at e1
      cases e1
      obtain ⟨dv, hda⟩ := q.at_
      have hil : i < ws.length := (List.getElem?_eq_some_iff.mp hv).1
      refine ⟨rfl, _, rfl, a, CV, dv, _, _, rfl, s5 _ _ hda, V'.cl, V'.nQ, vF_q _ _, _, hD, ?_, fun b o e => ?_, ?_⟩
      · rw [nats_len]
        refine small1000 (Nat.le_trans (List.length_take_le _ _) ?_)
        have := d.len
        omega
      · rw [upd_ne (ne_of_none e nD)]
        exact s5 _ _ e
      · rw [upd_same, take_snoc (l := ws.map (·.1)) (i := i) (x := v.1) (by rw [List.getElem?_map, hv]; rfl)]
        unfold nats
        rw [List.map_append]
        rfl
  · rintro H2 ⟨s2, hD⟩
    rw [List.length_map, TH.la, ← List.length_map (f := fun (v : Nat × List Nat) => v.1), List.take_length] at hD
    refine ⟨D, _, rfl, .inl (SqL.of hD), rfl, flat_nats _, _, rfl, ?_⟩
    have TH2 := TH1.same s2
    have s12 := s1.trans s2
    refine ite_b (c' := ws.any (fun v => v.1 == s)) (by rw [if_neg Bool.false_ne_true, in_nats, any_map1]) (fun h17 => ?_) (fun h17 => ?_)
    · refine ⟨(by show 1 ≤ sizeLine; decide), fun p np => ?_⟩
      rw [st_view_17 d hok h17] at post
      exact post.read TH est (.inr d) (s12.trans (same_upd np)) (s12.free np) upd_same
    refine ⟨_, rfl, t, C, dx, _, _, rfl, s2 _ _ ht1, T.cl, T.nV, tF_v n l, l, _, rfl, .inl (SqL.of TH2.lst), _, _, rfl, rfl, _, rfl, ?_⟩
    refine ite_b (c' := decide (6 ≤ ws.length)) (by rw [TH.len]; exact dec_le 6 _) (fun h28 => ?_) (fun h28 => ?_)
    · refine ⟨(by show 1 ≤ sizeLine; decide), fun p np => ?_⟩
      rw [st_view_28 d hok h17 (of_decide_eq_true h28)] at post
      exact post.read TH est (.inr d) (s12.trans (same_upd np)) (s12.free np) upd_same
    have h6 : ¬ 6 ≤ ws.length := of_decide_eq_false h28
    rw [st_view_ok d hok h17 h6] at post
    -- thing.views.append(View(questions))
    refine ⟨_, rfl, t, C, dx, _, _, rfl, s2 _ _ ht1, T.cl, T.nV, tF_v n l, .inl ⟨rfl, _, SqL.of TH2.lst⟩, _, rfl, ?_⟩
    intro x dv nx ndv nexd
    refine ⟨x, dv, s, rfl, upd_same, h32, fun H3 tb ntb hx htb kp => ⟨rfl, ?_⟩⟩
    have s3 : Same H2 H3 := fun b o e => kp b o (by rw [upd_ne (ne_of_none e nx), upd_ne (ne_of_none e ndv)]; exact e) (ne_of_none e nx)
    have ntx : tb ≠ x := fun e => by rw [e, upd_same] at ntb; cases ntb
    have ntb2 : H2 tb = none := by
      have ntd : tb ≠ dv := fun e => by rw [e, upd_ne nexd, upd_same] at ntb; cases ntb
      rw [upd_ne ntx, upd_ne ntd] at ntb
      exact ntb
    have TH3 := TH2.push s3 nx ntb2 (x := x) (tb := tb) (s := s) (tab := List.replicate (2 ^ (bits s).length) 1) ⟨⟨dv, hx⟩, htb⟩
    refine ⟨l, _, _, rfl, rfl, s3 _ _ TH2.lst, ?_, ?_⟩
    · rw [TH.len]
      exact small1000 (by have := d.len; omega)
    obtain ⟨dt, ht3⟩ := TH3.at_
    refine ⟨_, rfl, t, C, dt, _, _, rfl, ht3, T.cl, T.nV, tF_v n l, l, _, rfl, .inl (SqL.of TH3.lst), _, _, rfl, rfl, (by show 1 ≤ sizeLine; decide), fun p np => ?_⟩
    have s123 : Same H H3 := s12.trans s3
    have npl : p ≠ l := fun e => by rw [e, upd_same] at np; cases np
    have np3 : H3 p = none := by rw [upd_ne npl] at np; exact np
    have np0 : H p = none := s123.free np3
    refine post _ p l (as ++ [x]) (ts ++ [tb]) n (ws ++ [newV s]) np0 ?_ (TH3.same (same_upd np)) (stOf_ok (new_ok d hok h6)) (.inr (new_ok d hok h6)) (TH3.free np) ?_ ?_
    · rw [upd_same]
      congr 2
      show [V.int (((as ++ [x]).map V.ref).length - 1 : Int)] = [V.int (ws.length : Int)]
      rw [List.length_map, List.length_append, TH.la]
      congr 2
      show (((ws.length + 1 : Nat) : Int) - 1) = _
      omega
    · intro b hb
      unfold foot at hb ⊢
      simp only [List.mem_cons, List.mem_append, List.not_mem_nil, or_false] at hb ⊢
      rcases hb with hb | hb | (hb | hb) | (hb | hb)
      · exact .inl (.inl hb)
      · exact .inl (.inr (.inl hb))
      · exact .inl (.inr (.inr (.inl hb)))
      · exact .inr (hb ▸ s12.free nx)
      · exact .inl (.inr (.inr (.inr hb)))
      · exact .inr (hb ▸ s12.free ntb2)
    · intro b o e hb
      have hbl : b ≠ l := fun z => hb (by unfold foot; exact List.mem_cons_of_mem _ (z ▸ List.mem_cons_self ..))
      rw [upd_ne (ne_of_none e np0), upd_ne hbl]
      exact s123 _ _ e
end
end VT

set_option Elab.async false
set_option linter.all false
set_option maxRecDepth 100000
set_option maxHeartbeats 2000000
namespace VT
open PySem PySem.Spec PyProof.Rows L2
open PySem.W (Codec)
theorem map_ref_get {as : List Addr} {i : Nat} {a : Addr} (h : as[i]? = some a) : (as.map V.ref)[i]? = some (.ref a) := by rw [List.getElem?_map, h]; rfl
theorem seqIx {i n : Nat} (h : i < n) : seqIndex? (i : Int) n = some i := by
  rw [seqIndex_of (by omega) (by omega)]
  simp
theorem max_nats {l : List Nat} {m : Int} (h : m ∈ l.map (fun (x : Nat) => (x : Int))) (h2 : ∀ y, y ∈ l.map (fun (x : Nat) => (x : Int)) → y ≤ m) : ∃ k : Nat, m = (k : Int) ∧ k ∈ l ∧ ∀ y ∈ l, y ≤ k := by
  obtain ⟨k, hk, rfl⟩ := List.mem_map.mp h
  exact ⟨k, rfl, hk, fun y hy => by have := h2 _ (List.mem_map.mpr ⟨y, hy, rfl⟩); omega⟩
theorem cut2 (l : List Nat) (h : 2 ≤ l.length) : cutV (nats l) (some 2) none = nats (l.drop 2) := by
  unfold cutV
  rw [show HT.sIx (nats l).length 0 (some 2) = min 2 (nats l).length from HT.sIx_nat (nats l).length 0 2, HT.sIx_none, nats_len, Nat.min_eq_left h]
  unfold nats
  rw [List.map_drop, List.take_of_length_le (by rw [List.length_drop, List.length_map]; exact Nat.le_refl _)]
theorem decI (a b : Nat) : decide (V.int (a : Int) = V.int (b : Int)) = decide (a = b) := by
  by_cases h : a = b
  · subst h
    simp
  · rw [decide_eq_false h, decide_eq_false (fun e => h (by injection e with e; omega))]
def wsAt (x i : Nat) (ws : List (Nat × List Nat)) : List (Nat × List Nat) := (ws.take i).map (seeV x) ++ ws.drop i
theorem wsAt_get {x i : Nat} {ws : List (Nat × List Nat)} {v : Nat × List Nat} (h : ws[i]? = some v) : (wsAt x i ws)[i]? = some v := by
  have hi : i < ws.length := (List.getElem?_eq_some_iff.mp h).1
  unfold wsAt
  rw [List.getElem?_append_right (by rw [List.length_map, List.length_take]; omega), List.length_map, List.length_take, Nat.min_eq_left (Nat.le_of_lt hi), Nat.sub_self, List.getElem?_drop]
  exact h
theorem wsAt_succ {x i : Nat} {ws : List (Nat × List Nat)} {v : Nat × List Nat} (h : ws[i]? = some v) : wsAt x (i + 1) ws = (wsAt x i ws).set i (seeV x v) := by
  have hi : i < ws.length := (List.getElem?_eq_some_iff.mp h).1
  unfold wsAt
  rw [take_snoc h, List.map_append, List.append_assoc, List.set_append_right _ _ (by rw [List.length_map, List.length_take]; omega), List.length_map, List.length_take, Nat.min_eq_left (Nat.le_of_lt hi), Nat.sub_self, List.drop_eq_getElem_cons hi]
  rfl
theorem wsAt_zero (x : Nat) (ws : List (Nat × List Nat)) : wsAt x 0 ws = ws := rfl
theorem wsAt_len (x : Nat) (ws : List (Nat × List Nat)) : wsAt x ws.length ws = ws.map (seeV x) := by
  unfold wsAt
  rw [List.take_length, List.drop_length, List.append_nil]
section
variable {P : Program} {w : World} {K : PySem.W.Frag} {mg : Str → Option Value} {base : Heap} {C CV : Addr}
theorem ok_unview {f : Addr} {fd : FuncData} (F : Fun K "answer_unview" "answer_unview" sUnview f fd) (T : TxtT K mg C) (O : Own mg) (c : Cons mg)
    (M1 : MCallee P w K mg base C 1 "has_view" ["self", "number"] (spHasView C)) : FnOk P w K mg base CX0 2 f fd ["thing", "given"] (spStep K C CV 2) := by
  refine F.ok scUnview (fun vs H Q E h => sp_len h) (fun cdv A outer s0 H vs Q E hr h => ?_)
  obtain ⟨t, g, l, as, ts, n, ws, gs, rfl, TH, ok, hg, hgf, hgs, post⟩ := h
  obtain ⟨i, rfl⟩ := one_of (show gs.length = 1 from hgs)
  obtain ⟨dx, ht⟩ := TH.at_
  have at0 : atI (nats [i]) 0 = some (.int (i : Int)) := SqL.at_ (K := K) (g := g) (gs := [i]) (j := 0) rfl
  have d : DOk n ws := ok
  have est := stOf_ok d
  have post : Post C CV H (foot t l as ts) t (Kp351.step (stOf n ws) (.unview i)).1 (ansOf (Kp351.step (stOf n ws) (.unview i)).2) Q := post
  rw [est] at post
  refine ⟨_, pss_cons (ps_if (pt_not (pt_val (pe_methD M1 T.cl hr (pv 0) (pa_cons (pe_ix ix_list (pv 1) pe_int (fun _ _ => rfl)) pa_nil)))) (pss_one (ps_ret (pe_lst (pa_cons (pe_con1 c.noSuch rfl) pa_nil)))) pss_nil)
    (pss_cons (ps_expr (pe_bm PySem.F.plainAttrs_list PySem.F.slot_list_pop PySem.F.type_list_pop mt_popAt (pe_fld (pv 0) rfl) (pa_cons (pe_ix ix_list (pv 1) pe_int (fun _ _ => rfl)) pa_nil)))
    (pss_one (ps_ret (pe_lst (pa_cons (pe_callB call_len_seq (by rfl) O.len PySem.boot_len (pa_cons (pe_fld (pv 0) rfl) pa_nil)) pa_nil))))), ?_⟩
  refine ⟨_, rfl, t, dx, _, rfl, ht, tF_no _ _ (by decide +kernel) (by decide +kernel), _, rfl, g, _, _, _, rfl, rfl, hg, at0, t, dx, l, n, i, _, rfl, ht, TH.lst, _, rfl, ?_⟩
  refine ite_b (c' := !decide (i < ws.length)) (by rw [TH.len]) (fun hno => ?_) (fun hyes => ?_)
  · have hi : ¬ i < ws.length := by simpa using hno
    refine ⟨(by show 1 ≤ sizeLine; decide), fun p np => ?_⟩
    rw [st_unview_2 hi] at post
    exact post.read TH est (.inr d) (same_upd np) np upd_same
  · have hi : i < ws.length := by simpa using hyes
    rw [st_unview hi] at post
    refine ⟨_, rfl, t, C, dx, _, _, rfl, ht, T.cl, T.nV, tF_v n l, .inl ⟨rfl, _, SqL.of TH.lst⟩, _, rfl, g, _, _, _, rfl, rfl, hg, at0, ?_⟩
    obtain ⟨a, ea⟩ := get_of_lt (l := as) (i := i) (by rw [TH.la]; exact hi)
    have h6 := d.len
    refine ⟨l, _, _, i, _, rfl, rfl, TH.lst, nb1, nb2 (by omega), by rw [TH.len]; exact seqIx hi, map_ref_get ea, ?_⟩
    have TH2 := TH.erase i
    obtain ⟨dt, ht2⟩ := TH2.at_
    refine ⟨_, rfl, t, C, dt, _, _, rfl, ht2, T.cl, T.nV, tF_v n l, l, _, rfl, .inl (SqL.of TH2.lst), (by show 1 ≤ sizeLine; decide), fun p np => ?_⟩
    have npl : p ≠ l := fun e => by rw [e, upd_same] at np; cases np
    have np0 : H p = none := by rw [upd_ne npl] at np; exact np
    refine post _ p l (as.eraseIdx i) (ts.eraseIdx i) n (ws.eraseIdx i) np0 ?_ (TH2.same (same_upd np)) (stOf_ok (erase_ok d i)) (.inr (erase_ok d i)) (TH2.free np) ?_ ?_
    · rw [upd_same]
      congr 2
      show [V.int (((as.eraseIdx i).map V.ref).length : Int)] = [V.int ((ws.length - 1 : Nat) : Int)]
      rw [List.length_map, List.length_eraseIdx, TH.la, if_pos hi]
    · intro b hb
      unfold foot at hb ⊢
      simp only [List.mem_cons, List.mem_append] at hb ⊢
      rcases hb with hb | hb | hb | hb
      · exact .inl (.inl hb)
      · exact .inl (.inr (.inl hb))
      · exact .inl (.inr (.inr (.inl (List.mem_of_mem_eraseIdx hb))))
      · exact .inl (.inr (.inr (.inr (List.mem_of_mem_eraseIdx hb))))
    · intro b o e hb
      have hbl : b ≠ l := fun z => hb (by unfold foot; exact List.mem_cons_of_mem _ (z ▸ List.mem_cons_self ..))
      rw [upd_ne (ne_of_none e np0), upd_ne hbl]
      exact e
theorem ok_table {f : Addr} {fd : FuncData} (F : Fun K "answer_table" "answer_table" sTable f fd) (T : TxtT K mg C) (V' : TxtV K mg CV) (O : Own mg) (c : Cons mg)
    (M1 : MCallee P w K mg base C 1 "has_view" ["self", "number"] (spHasView C)) : FnOk P w K mg base CX0 2 f fd ["thing", "given"] (spStep K C CV 3) := by
  refine F.ok scTable (fun vs H Q E h => sp_len h) (fun cdv A outer s0 H vs Q E hr h => ?_)
  obtain ⟨t, g, l, as, ts, n, ws, gs, rfl, TH, ok, hg, hgf, hgs, post⟩ := h
  have hgs2 : 2 ≤ gs.length ∧ gs.length ≤ 12 := hgs
  obtain ⟨i, rest, rfl⟩ : ∃ i rest, gs = i :: rest := by
    match gs, hgs2.1 with
    | i :: rest, _ => exact ⟨i, rest, rfl⟩
  obtain ⟨dx, ht⟩ := TH.at_
  have at0 : atI (nats (i :: rest)) 0 = some (.int (i : Int)) := SqL.at_ (K := K) (g := g) (gs := i :: rest) (j := 0) rfl
  have d : DOk n ws := ok
  have est := stOf_ok d
  have post : Post C CV H (foot t l as ts) t (Kp351.step (stOf n ws) (.table i ((i :: rest).drop 2))).1 (ansOf (Kp351.step (stOf n ws) (.table i ((i :: rest).drop 2))).2) Q := post
  rw [est] at post
  refine ⟨_, pss_cons (ps_if (pt_not (pt_val (pe_methD M1 T.cl hr (pv 0) (pa_cons (pe_ix ix_list (pv 1) pe_int (fun _ _ => rfl)) pa_nil)))) (pss_one (ps_ret (pe_lst (pa_cons (pe_con1 c.noSuch rfl) pa_nil)))) pss_nil)
    (pss_cons (ps_set (i := 2) scTable.nd rfl (Or.inl rfl) (pe_ix ix_list (pe_fld (pv 0) rfl) (pe_ix ix_list (pv 1) pe_int (fun _ _ => rfl)) (fun _ _ => rfl)))
    (pss_cons (ps_set (i := 3) scTable.nd rfl (Or.inl rfl) (pe_slice sl_list (pv 1) (po_some pe_int) po_none))
    (pss_cons (ps_if (PW.pt (pw_or (pt_cmpR op_ne (pe_callB call_len_seq (by rfl) O.len PySem.boot_len (pa_cons (pv 3) pa_nil)) (pe_callB call_len_seq (by rfl) O.len PySem.boot_len (pa_cons (pe_fld (pv 2) rfl) pa_nil)) (nomark _))
        (pw_or (pt_cmpR op_gt (pe_callB (cr_max rfl) (by rfl) O.max (by decide +kernel) (pa_cons (pv 3) pa_nil)) (pe_con1 c.mostSeen rfl) (nomark _)) (pw_or1 (pt_cmpR op_eq (pe_callB (cr_max rfl) (by rfl) O.max (by decide +kernel) (pa_cons (pv 3) pa_nil)) pe_int (nomark _))))))
      (pss_one (ps_ret (pe_lst (pa_cons (pe_con1 c.notAllowed rfl) pa_nil)))) pss_nil)
    (pss_cons (ps_fld (pv 2) (pv 3) rfl) (pss_one (ps_ret (pe_lst (pa_cons pe_int pa_nil)))))))), ?_⟩
  refine ⟨_, rfl, t, dx, _, rfl, ht, tF_no _ _ (by decide +kernel) (by decide +kernel), _, rfl, g, _, _, _, rfl, rfl, hg, at0, t, dx, l, n, i, _, rfl, ht, TH.lst, _, rfl, ?_⟩
  refine ite_b (c' := !decide (i < ws.length)) (by rw [TH.len]) (fun hno => ?_) (fun hyes => ?_)
  · have hi : ¬ i < ws.length := by simpa using hno
    refine ⟨(by show 1 ≤ sizeLine; decide), fun p np => ?_⟩
    rw [st_table_2 hi] at post
    exact post.read TH est (.inr d) (same_upd np) np upd_same
  have hi : i < ws.length := by simpa using hyes
  obtain ⟨v, hv⟩ := get_of_lt hi
  obtain ⟨a, tb, ea, etb, va⟩ := TH.get hv
  obtain ⟨dv, hda⟩ := va.at_
  have hok := (d.each v (List.mem_of_getElem? hv)).1
  refine ⟨_, rfl, t, C, dx, _, _, rfl, ht, T.cl, T.nV, tF_v n l, _, rfl, g, _, _, _, rfl, rfl, hg, at0, l, _, _, _, rfl, rfl, SqL.of TH.lst, atI_nat (map_ref_get ea), ?_⟩
  refine ⟨_, rfl, _, rfl, g, _, rfl, hg, fun r nr => ?_⟩
  rw [cut2 _ hgs2.1]
  have sr : Same H (upd H r (.lst (nats ((i :: rest).drop 2)))) := same_upd nr
  have hrr : (upd H r (.lst (nats ((i :: rest).drop 2)))) r = some (.lst (nats ((i :: rest).drop 2))) := upd_same
  generalize hrow : (i :: rest).drop 2 = row at post sr hrr ⊢
  have hrl : row.length ≤ 10 := by
    rw [← hrow, List.length_drop]
    have := hgs2.2
    omega
  have bad : (row.length ≠ 2 ^ (bits v.1).length ∨ row.any (fun v => decide (100 < v)) = true ∨ Kp351.total row = 0) → ∀ p, (upd H r (.lst (nats row))) p = none → Q (.ref p) (upd (upd H r (.lst (nats row))) p (.lst [.int (-22)])) := fun h p np => by
    rw [st_table_22 hv h] at post
    exact post.read TH est (.inr d) (sr.trans (same_upd np)) (sr.free np) upd_same
  refine ⟨_, rfl, r, _, rfl, .inl (SqL.of hrr), _, rfl, a, CV, dv, _, _, rfl, sr _ _ hda, V'.cl, V'.nT, vF_t _ _, tb, _, rfl, .inl (SqL.of (sr _ _ va.tb)), rfl, _, rfl, ?_⟩
  refine ite_b (c' := !decide (row.length = v.2.length)) (by rw [nats_len, nats_len, decI]) (fun hno => ?_) (fun hye => ?_)
  · have hlen : ¬ row.length = v.2.length := by simpa using hno
    exact iteT ⟨(by show 1 ≤ sizeLine; decide), fun p np => bad (.inl (by rw [← hok.len]; exact hlen)) p np⟩
  have hlen : row.length = v.2.length := by simpa using hye
  have hne : 0 < row.length := by
    rw [hlen, hok.len]
    exact Nat.two_pow_pos _
  have hmax : SqL K (upd H r (.lst (nats row))) r ((row.map fun (x : Nat) => (x : Int)).map V.int) := by
    rw [← nats_ints]
    exact SqL.of hrr
  refine ⟨_, rfl, r, _, rfl, hmax, by rw [List.length_map]; exact hne, fun m hm hle => ?_⟩
  obtain ⟨k, rfl, hk, hkle⟩ := max_nats hm hle
  refine ⟨_, _, rfl, rfl, _, rfl, ?_⟩
  refine ite_b (c' := decide (100 < k)) (dec_lt 100 k) (fun h100 => ?_) (fun h100 => ?_)
  · exact iteT ⟨(by show 1 ≤ sizeLine; decide), fun p np => bad (.inr (.inl (by rw [max_any hk hkle]; exact h100))) p np⟩
  refine ⟨_, rfl, r, _, rfl, hmax, by rw [List.length_map]; exact hne, fun m2 hm2 hle2 => ?_⟩
  obtain ⟨k2, rfl, hk2, hkle2⟩ := max_nats hm2 hle2
  refine ⟨rfl, _, rfl, ?_⟩
  refine ite_b (c' := decide (k2 = 0)) (decI k2 0) (fun h0 => ?_) (fun h0 => ?_)
  · exact ⟨(by show 1 ≤ sizeLine; decide), fun p np => bad (.inr (.inr ((max_zero hk2 hkle2).mpr (of_decide_eq_true h0)))) p np⟩
  have good : ¬ (row.length ≠ 2 ^ (bits v.1).length ∨ row.any (fun v => decide (100 < v)) = true ∨ Kp351.total row = 0) := by
    rintro (h | h | h)
    · exact h (by rw [← hok.len]; exact hlen)
    · rw [max_any hk hkle, h100] at h
      cases h
    · exact of_decide_eq_false h0 ((max_zero hk2 hkle2).mp h)
  rw [st_table hv good] at post
  have hrf : r ∉ foot t l as ts := TH.free nr
  have TH2 := (TH.same sr).setTable (dx := dv) (s := v.1) ea hrr hrf
  refine ⟨_, rfl, _, rfl, a, CV, dv, _, rfl, sr _ _ hda, V'.cl, V'.nT, (by show 2 < 1000; decide), ?_⟩
  rw [vF_put]
  refine ⟨(by show 1 ≤ sizeLine; decide), fun p np => ?_⟩
  have npa : p ≠ a := fun e => by rw [e, upd_same] at np; cases np
  have np1 : (upd H r (.lst (nats row))) p = none := by rw [upd_ne npa] at np; exact np
  have np0 : H p = none := sr.free np1
  refine post _ p l as (ts.set i r) n (ws.set i (v.1, row)) np0 upd_same (TH2.same (same_upd np)) (stOf_ok (set_ok d hv good)) (.inr (set_ok d hv good)) (TH2.free np) ?_ ?_
  · intro b hb
    unfold foot at hb ⊢
    simp only [List.mem_cons, List.mem_append] at hb ⊢
    rcases hb with hb | hb | hb | hb
    · exact .inl (.inl hb)
    · exact .inl (.inr (.inl hb))
    · exact .inl (.inr (.inr (.inl hb)))
    · rcases List.mem_or_eq_of_mem_set hb with hb | hb
      · exact .inl (.inr (.inr (.inr hb)))
      · exact .inr (hb ▸ nr)
  · intro b o e hb
    have hba : b ≠ a := fun z => hb (by unfold foot; exact List.mem_cons_of_mem _ (List.mem_cons_of_mem _ (List.mem_append_left _ (z ▸ List.mem_of_getElem? ea))))
    rw [upd_ne (ne_of_none e np0), upd_ne hba]
    exact sr _ _ e
theorem ok_viewis {f : Addr} {fd : FuncData} (F : Fun K "answer_viewis" "answer_viewis" sViewis f fd) (T : TxtT K mg C) (V' : TxtV K mg CV) (c : Cons mg)
    (M1 : MCallee P w K mg base C 1 "has_view" ["self", "number"] (spHasView C)) : FnOk P w K mg base CX0 2 f fd ["thing", "given"] (spStep K C CV 4) := by
  refine F.ok scViewis (fun vs H Q E h => sp_len h) (fun cdv A outer s0 H vs Q E hr h => ?_)
  obtain ⟨t, g, l, as, ts, n, ws, gs, rfl, TH, ok, hg, hgf, hgs, post⟩ := h
  obtain ⟨i, rfl⟩ := one_of (show gs.length = 1 from hgs)
  obtain ⟨dx, ht⟩ := TH.at_
  have at0 : atI (nats [i]) 0 = some (.int (i : Int)) := SqL.at_ (K := K) (g := g) (gs := [i]) (j := 0) rfl
  have d : DOk n ws := ok
  have est := stOf_ok d
  have post : Post C CV H (foot t l as ts) t (Kp351.step (stOf n ws) (.viewIs i)).1 (ansOf (Kp351.step (stOf n ws) (.viewIs i)).2) Q := post
  rw [est] at post
  refine ⟨_, pss_cons (ps_if (pt_not (pt_val (pe_methD M1 T.cl hr (pv 0) (pa_cons (pe_ix ix_list (pv 1) pe_int (fun _ _ => rfl)) pa_nil)))) (pss_one (ps_ret (pe_lst (pa_cons (pe_con1 c.noSuch rfl) pa_nil)))) pss_nil)
    (pss_cons (ps_set (i := 2) scViewis.nd rfl (Or.inl rfl) (pe_ix ix_list (pe_fld (pv 0) rfl) (pe_ix ix_list (pv 1) pe_int (fun _ _ => rfl)) (fun _ _ => rfl)))
    (pss_one (ps_ret (pe_op op_cat (pe_lst (pa_cons (pe_fld (pv 2) rfl) pa_nil)) (pe_fld (pv 2) rfl))))), ?_⟩
  refine ⟨_, rfl, t, dx, _, rfl, ht, tF_no _ _ (by decide +kernel) (by decide +kernel), _, rfl, g, _, _, _, rfl, rfl, hg, at0, t, dx, l, n, i, _, rfl, ht, TH.lst, _, rfl, ?_⟩
  refine ite_b (c' := !decide (i < ws.length)) (by rw [TH.len]) (fun hno => ?_) (fun hyes => ?_)
  · have hi : ¬ i < ws.length := by simpa using hno
    refine ⟨(by show 1 ≤ sizeLine; decide), fun p np => ?_⟩
    rw [st_viewis_2 hi] at post
    exact post.read TH est (.inr d) (same_upd np) np upd_same
  have hi : i < ws.length := by simpa using hyes
  obtain ⟨v, hv⟩ := get_of_lt hi
  obtain ⟨a, tb, ea, etb, va⟩ := TH.get hv
  obtain ⟨dv, hda⟩ := va.at_
  have hok := (d.each v (List.mem_of_getElem? hv)).1
  rw [st_viewis hv hok] at post
  refine ⟨_, rfl, t, C, dx, _, _, rfl, ht, T.cl, T.nV, tF_v n l, _, rfl, g, _, _, _, rfl, rfl, hg, at0, l, _, _, _, rfl, rfl, SqL.of TH.lst, atI_nat (map_ref_get ea), ?_⟩
  refine ⟨_, rfl, a, CV, dv, _, _, rfl, hda, V'.cl, V'.nQ, vF_q _ _, (by show 1 ≤ sizeLine; decide), fun q nq => ?_⟩
  have sq : Same H (upd H q (.lst [.int (v.1 : Int)])) := same_upd nq
  refine ⟨_, rfl, a, CV, dv, _, _, rfl, sq _ _ hda, V'.cl, V'.nT, vF_t _ _, q, tb, _, _, rfl, rfl, upd_same, sq _ _ va.tb, ?_, fun p np => ?_⟩
  · rw [nats_len]
    have := hok.len8
    exact Nat.le_of_lt (small1000 (by show 1 + v.2.length ≤ 1000; omega))
  · refine post.read TH est (.inr d) (sq.trans (same_upd np)) (sq.free np) ?_
    rw [upd_same, nats_ints]
    rfl
theorem ok_world {f : Addr} {fd : FuncData} (F : Fun K "answer_world" "answer_world" sWorld f fd) (T : TxtT K mg C) (V' : TxtV K mg CV) (O : Own mg) (c : Cons mg)
    (M1 : MCallee P w K mg base C 2 "has_world" ["self", "world"] (spHasWorld C)) (M2 : MCallee P w K mg base CV 3 "see" ["self", "world"] (spSee CV)) : FnOk P w K mg base CX0 4 f fd ["thing", "given"] (spStep K C CV 5) := by
  refine F.ok scWorld (fun vs H Q E h => sp_len h) (fun cdv A outer s0 H vs Q E hr h => ?_)
  obtain ⟨t, g, l, as, ts, n, ws, gs, rfl, TH, ok, hg, hgf, hgs, post⟩ := h
  obtain ⟨x, rfl⟩ := one_of (show gs.length = 1 from hgs)
  obtain ⟨dx, ht⟩ := TH.at_
  have at0 : atI (nats [x]) 0 = some (.int (x : Int)) := SqL.at_ (K := K) (g := g) (gs := [x]) (j := 0) rfl
  have d : DOk n ws := ok
  have hr1 : Room 2 _ := hr.mono (by decide)
  have est := stOf_ok d
  have post : Post C CV H (foot t l as ts) t (Kp351.step (stOf n ws) (.world x)).1 (ansOf (Kp351.step (stOf n ws) (.world x)).2) Q := post
  rw [est] at post
  refine ⟨_, pss_cons (ps_if (pt_not (pt_val (pe_methD M1 T.cl hr1 (pv 0) (pa_cons (pe_ix ix_list (pv 1) pe_int (fun _ _ => rfl)) pa_nil)))) (pss_one (ps_ret (pe_lst (pa_cons (pe_con1 c.notAllowed rfl) pa_nil)))) pss_nil)
    (pss_cons (ps_for PassesOwn.never rfl (pi_list (pe_fld (pv 0) rfl)) (pg_name (i := 2) scWorld.nd rfl (Or.inl rfl)) (pss_one (ps_expr (pe_methD M2 V'.cl hr (pv 2) (pa_cons (pe_ix ix_list (pv 1) pe_int (fun _ _ => rfl)) pa_nil)))))
    (pss_one (ps_ret (pe_lst (pa_cons (pe_callB call_len_seq (by rfl) O.len PySem.boot_len (pa_cons (pe_fld (pv 0) rfl) pa_nil)) pa_nil))))), ?_⟩
  refine ⟨_, rfl, t, dx, _, rfl, ht, tF_no _ _ (by decide +kernel) (by decide +kernel), _, rfl, g, _, _, _, rfl, rfl, hg, at0, t, dx, l, n, x, rfl, ht, d.hi, _, rfl, ?_⟩
  refine ite_b (c' := !decide (x < 2 ^ n)) rfl (fun hno => ?_) (fun hyes => ?_)
  · have hx : ¬ x < 2 ^ n := by simpa using hno
    refine ⟨(by show 1 ≤ sizeLine; decide), fun p np => ?_⟩
    rw [st_world_22 (by omega)] at post
    exact post.read TH est (.inr d) (same_upd np) np upd_same
  have hx : x < 2 ^ n := by simpa using hyes
  rw [st_world d (by omega)] at post
  have hx32 : x < 32 := Nat.lt_of_lt_of_le hx (Nat.pow_le_pow_right (by decide) d.hi)
  have keepG : ∀ H' : Hp, (∀ b o, H b = some o → b ∉ ts → H' b = some o) → SqL K H' g (nats [x]) := fun H' kp => by
    have hgt : g ∉ ts := fun z => hgf (by unfold foot; exact List.mem_cons_of_mem _ (List.mem_cons_of_mem _ (List.mem_append_right _ z)))
    rcases hg with (h | ⟨o, h⟩) | h
    · exact .inl (.inl (kp _ _ h hgt))
    · exact .inl (.inr ⟨o, kp _ _ h hgt⟩)
    · exact .inr h
  refine ⟨_, rfl, t, C, dx, _, _, rfl, ht, T.cl, T.nV, tF_v n l, l, rfl, ⟨_, SqL.of TH.lst⟩, for_list (K := K) (a := l) (xs := as.map V.ref) (fun i σ H' => (∃ v2, σ = [some (.ref t), some (.ref g), v2]) ∧ ThingAt C CV H' t l as ts n (wsAt x i ws) ∧ ∀ b o, H b = some o → b ∉ ts → H' b = some o)
    ⟨⟨none, rfl⟩, TH, fun _ _ e _ => e⟩ (fun i σ H' _ h => SqL.of h.2.1.lst) ?_ ?_⟩
  · rintro i y σ H1 hy ⟨⟨v2, rfl⟩, TH1, kp⟩
    rw [List.getElem?_map] at hy
    cases ea : as[i]? with
    | none => rw [ea] at hy; cases hy
    | some a =>
      rw [ea] at hy
      cases hy
      obtain ⟨v, hv⟩ := get_of_lt (l := ws) (i := i) (by rw [← TH.la]; exact (List.getElem?_eq_some_iff.mp ea).1)
      have hv1 : (wsAt x i ws)[i]? = some v := wsAt_get hv
      obtain ⟨a', tb, e1, e2, q⟩ := TH1.get hv1
      rw [ea] at e1
      cases e1
      obtain ⟨dv, hda⟩ := q.at_
      have hok := (d.each v (List.mem_of_getElem? hv)).1
      obtain ⟨k, hk⟩ := get_of_lt (l := v.2) (i := rowM x (bits v.1)) (by rw [hok.len]; exact row_lt x hx32 v.1 hok.lt)
      refine ⟨_, rfl, a, dv, _, rfl, hda, vF_no _ _ (by decide +kernel) (by decide +kernel), _, rfl, g, _, _, _, rfl, rfl, keepG H1 kp, at0, a, tb, x, v.1, v.2, k, rfl, q, hok.lt, hk, fun H2 h2 kp2 => ?_⟩
      refine ⟨⟨some (.ref a), rfl⟩, ?_, fun b o e hb => kp2 b o (kp b o e hb) (fun z => hb (z ▸ List.mem_of_getElem? e2))⟩
      rw [wsAt_succ hv]
      have es : seeV x v = (v.1, v.2.set (rowM x (bits v.1)) (min 100 (k + 1))) := by
        unfold seeV
        rw [List.getD_eq_getElem?_getD, hk]
        rfl
      rw [es]
      exact TH1.setTab hv1 e2 h2 kp2
  · rintro σ H1 ⟨⟨v2, rfl⟩, TH1, kp⟩
    rw [List.length_map, TH.la, wsAt_len] at TH1
    obtain ⟨dt, ht1⟩ := TH1.at_
    refine ⟨_, rfl, t, C, dt, _, _, rfl, ht1, T.cl, T.nV, tF_v n l, l, _, rfl, .inl (SqL.of TH1.lst), (by show 1 ≤ sizeLine; decide), fun p np => ?_⟩
    have np0 : H p = none := by
      cases e : H p with
      | none => rfl
      | some o =>
        by_cases hb : p ∈ ts
        · exact absurd (by unfold foot; exact List.mem_cons_of_mem _ (List.mem_cons_of_mem _ (List.mem_append_right _ hb))) (TH1.free np)
        · rw [kp p o e hb] at np
          cases np
    refine post _ p l as ts n (ws.map (seeV x)) np0 ?_ (TH1.same (same_upd np)) (stOf_ok (see_ok d hx32)) (.inr (see_ok d hx32)) (TH1.free np) (fun b hb => .inl hb) fun b o e hb => ?_
    · rw [upd_same, TH.len]
      rfl
    · rw [upd_ne (ne_of_none e np0)]
      exact kp b o e fun z => hb (by unfold foot; exact List.mem_cons_of_mem _ (List.mem_cons_of_mem _ (List.mem_append_right _ z)))
end
end VT

set_option Elab.async false
set_option linter.all false
set_option maxRecDepth 100000
set_option maxHeartbeats 2000000
namespace VT
open PySem PySem.Spec PyProof.Rows L2
open PySem.W (Codec)
abbrev sShareC : Stmt := top 31
abbrev sMarginC : Stmt := top 32
abbrev sAgreeC : Stmt := top 33
abbrev sOff : Stmt := top 34
theorem scShareC : FnScope ["thing", "given"] ["thing", "given"] (defScope sShareC) := ⟨rfl, rfl, rfl, by decide +kernel, rfl, by decide +kernel, by decide +kernel⟩
theorem scMarginC : FnScope ["thing", "given", "view", "told", "likely"] ["thing", "given"] (defScope sMarginC) := ⟨rfl, rfl, rfl, by decide +kernel, rfl, by decide +kernel, by decide +kernel⟩
theorem scAgreeC : FnScope ["thing", "given"] ["thing", "given"] (defScope sAgreeC) := ⟨rfl, rfl, rfl, by decide +kernel, rfl, by decide +kernel, by decide +kernel⟩
theorem scOff : FnScope ["thing", "given", "view_count", "first", "second"] ["thing", "given"] (defScope sOff) := ⟨rfl, rfl, rfl, by decide +kernel, rfl, by decide +kernel, by decide +kernel⟩
/-- there is a view i, and a row c of it -/
def rowB (ws : List (Nat × List Nat)) (i c : Nat) : Bool := match ws[i]? with
  | some v => decide (c < v.2.length)
  | none => false
theorem rowB_yes {ws : List (Nat × List Nat)} {i c : Nat} (h : rowB ws i c = true) : ∃ v, ws[i]? = some v ∧ c < v.2.length := by
  unfold rowB at h
  cases e : ws[i]? with
  | none => rw [e] at h; cases h
  | some v => rw [e] at h; exact ⟨v, rfl, of_decide_eq_true h⟩
theorem of_row_no {n : Nat} {ws : List (Nat × List Nat)} (d : DOk n ws) {st : Kp351.State} {i c : Nat} {f : Kp351.View → Kp351.Ans} (h : rowB ws i c = false) : Kp351.ofRow st (desk n ws) i c f = (st, Kp351.say (-2)) := by
  by_cases hi : i < ws.length
  · obtain ⟨v, hv⟩ := get_of_lt hi
    unfold rowB at h
    rw [hv] at h
    exact of_row_2c hv (d.each v (List.mem_of_getElem? hv)).1 (of_decide_eq_false h)
  · exact of_row_2 hi
def spHasRow (C CV : Addr) : Sp := fun vs H Q _ => ∃ (t l : Addr) (as ts : List Addr) (n : Nat) (ws : List (Nat × List Nat)) (i c : Nat), vs = [.ref t, .int (i : Int), .int (c : Int)] ∧ ThingAt C CV H t l as ts n ws ∧ Q (.bl (rowB ws i c)) H
def flatF (l : List Kp340.Fr) : List Int := l.flatMap fun x => [x.1, x.2]
theorem flatF_snoc (l : List Kp340.Fr) (x : Kp340.Fr) : (flatF (l ++ [x])).map V.int = (flatF l).map V.int ++ frV x := by
  unfold flatF
  rw [List.flatMap_append, List.map_append]
  rfl
theorem flatF_len (l : List Kp340.Fr) : (flatF l).length = 2 * l.length := by
  induction l with
  | nil => rfl
  | cons x l ih =>
    show ((flatF l).length + 1) + 1 = 2 * (l.length + 1)
    rw [ih]
    omega
theorem marg_len (s u : Nat) (tab : List Nat) : (Kp351.margin ⟨bits s, tab⟩ (bits u)).length = 2 ^ (bits u).length := by
  unfold Kp351.margin Kp351.rows
  rw [List.length_map, List.length_range]
section
variable {P : Program} {w : World} {K : PySem.W.Frag} {mg : Str → Option Value} {base : Heap} {C CV : Addr}
theorem ok_shareC {f : Addr} {fd : FuncData} (F : Fun K "answer_share" "answer_share" sShareC f fd) (T : TxtT K mg C) (V' : TxtV K mg CV) (O : Own mg) (c : Cons mg)
    (M1 : MCallee P w K mg base C 2 "has_row" ["self", "number", "row"] (spHasRow C CV)) (M2 : MCallee P w K mg base CV 3 "share" ["self", "row"] (spShare CV)) : FnOk P w K mg base CX0 4 f fd ["thing", "given"] (spStep K C CV 6) := by
  refine F.ok scShareC (fun vs H Q E h => sp_len h) (fun cdv A outer s0 H vs Q E hr h => ?_)
  obtain ⟨t, g, l, as, ts, n, ws, gs, rfl, TH, ok, hg, hgf, hgs, post⟩ := h
  obtain ⟨i, k, rfl⟩ := two_of (show gs.length = 2 from hgs)
  obtain ⟨dx, ht⟩ := TH.at_
  have at0 : atI (nats [i, k]) 0 = some (.int (i : Int)) := SqL.at_ (K := K) (g := g) (gs := [i, k]) (j := 0) rfl
  have at1 : atI (nats [i, k]) 1 = some (.int (k : Int)) := SqL.at_ (K := K) (g := g) (gs := [i, k]) (j := 1) rfl
  have d : DOk n ws := ok
  have est := stOf_ok d
  have hr2 : Room 2 _ := hr.mono (by decide)
  have post : Post C CV H (foot t l as ts) t (Kp351.step (stOf n ws) (.share i k)).1 (ansOf (Kp351.step (stOf n ws) (.share i k)).2) Q := post
  rw [est] at post
  have eq : Kp351.step (some (desk n ws)) (.share i k) = Kp351.ofRow (some (desk n ws)) (desk n ws) i k fun v => Kp351.frRow (Kp351.share v k) := rfl
  rw [eq] at post
  refine ⟨_, pss_cons (ps_if (pt_not (pt_val (pe_methD M1 T.cl hr2 (pv 0) (pa_cons (pe_ix ix_list (pv 1) pe_int (fun _ _ => rfl)) (pa_cons (pe_ix ix_list (pv 1) pe_int (fun _ _ => rfl)) pa_nil))))) (pss_one (ps_ret (pe_lst (pa_cons (pe_con1 c.noSuch rfl) pa_nil)))) pss_nil)
    (pss_one (ps_ret (pe_op op_cat (pe_lst (pa_cons pe_int pa_nil)) (pe_methD M2 V'.cl hr (pe_ix ix_list (pe_fld (pv 0) rfl) (pe_ix ix_list (pv 1) pe_int (fun _ _ => rfl)) (fun _ _ => rfl)) (pa_cons (pe_ix ix_list (pv 1) pe_int (fun _ _ => rfl)) pa_nil))))), ?_⟩
  refine ⟨_, rfl, t, dx, _, rfl, ht, tF_no _ _ (by decide +kernel) (by decide +kernel), _, rfl, g, _, _, _, rfl, rfl, hg, at0, _, rfl, g, _, _, _, rfl, rfl, hg, at1, t, l, as, ts, n, ws, i, k, rfl, TH, _, rfl, ?_⟩
  refine ite_b (c' := !rowB ws i k) rfl (fun hno => ?_) (fun hyes => ?_)
  · have hno : rowB ws i k = false := by simpa using hno
    refine ⟨(by show 1 ≤ sizeLine; decide), fun p np => ?_⟩
    rw [of_row_no d hno] at post
    exact post.read TH est (.inr d) (same_upd np) np upd_same
  obtain ⟨v, hv, hk⟩ := rowB_yes (show rowB ws i k = true by simpa using hyes)
  obtain ⟨a, tb, ea, etb, va⟩ := TH.get hv
  obtain ⟨dv, hda⟩ := va.at_
  have hok := (d.each v (List.mem_of_getElem? hv)).1
  obtain ⟨x, hx⟩ := get_of_lt hk
  rw [of_row hv hok hk, share_is hx] at post
  refine ⟨(by show 1 ≤ sizeLine; decide), fun q nq => ?_⟩
  have sq : Same H (upd H q (.lst [.int 0])) := same_upd nq
  refine ⟨_, rfl, t, C, dx, _, _, rfl, sq _ _ ht, T.cl, T.nV, tF_v n l, _, rfl, g, _, _, _, rfl, rfl, sq.seq hg, at0, l, _, _, _, rfl, rfl, SqL.of (sq _ _ TH.lst), atI_nat (map_ref_get ea), ?_⟩
  refine ⟨a, dv, _, rfl, sq _ _ hda, vF_no _ _ (by decide +kernel) (by decide +kernel), _, rfl, g, _, _, _, rfl, rfl, sq.seq hg, at1, a, tb, v.1, k, v.2, x, rfl, va.same sq, hok, hx, fun H2 r nr s2 hr2 => ?_⟩
  refine ⟨q, r, _, _, rfl, rfl, s2 _ _ upd_same, hr2, (by show 1 + 2 ≤ sizeLine; decide), fun p np => ?_⟩
  have s3 := sq.trans s2
  refine post.read TH est (.inr d) (s3.trans (same_upd np)) (s3.free np) ?_
  rw [upd_same]
  rfl
theorem ok_marginC {f : Addr} {fd : FuncData} (F : Fun K "answer_margin" "answer_margin" sMarginC f fd) (T : TxtT K mg C) (V' : TxtV K mg CV) (O : Own mg) (c : Cons mg)
    (M1 : MCallee P w K mg base C 1 "has_view" ["self", "number"] (spHasView C)) (M2 : MCallee P w K mg base CV 3 "margin" ["self", "questions"] (spMargin CV)) (D3 : Callee P w K mg base 2 "row_count" ["questions"] spRowCount) :
    FnOk P w K mg base CX0 4 f fd ["thing", "given"] (spStep K C CV 7) := by
  refine F.ok scMarginC (fun vs H Q E h => sp_len h) (fun cdv A outer s0 H vs Q E hr h => ?_)
  obtain ⟨t, g, l, as, ts, n, ws, gs, rfl, TH, ok, hg, hgf, hgs, post⟩ := h
  obtain ⟨i, u, rfl⟩ := two_of (show gs.length = 2 from hgs)
  obtain ⟨dx, ht⟩ := TH.at_
  have at0 : atI (nats [i, u]) 0 = some (.int (i : Int)) := SqL.at_ (K := K) (g := g) (gs := [i, u]) (j := 0) rfl
  have at1 : atI (nats [i, u]) 1 = some (.int (u : Int)) := SqL.at_ (K := K) (g := g) (gs := [i, u]) (j := 1) rfl
  have d : DOk n ws := ok
  have est := stOf_ok d
  have hr1 : Room 1 _ := hr.mono (by decide)
  have hr2 : Room 2 _ := hr.mono (by decide)
  have post : Post C CV H (foot t l as ts) t (Kp351.step (stOf n ws) (.margin i u)).1 (ansOf (Kp351.step (stOf n ws) (.margin i u)).2) Q := post
  rw [est] at post
  refine ⟨_, pss_cons (ps_if (pt_not (pt_val (pe_methD M1 T.cl hr1 (pv 0) (pa_cons (pe_ix ix_list (pv 1) pe_int (fun _ _ => rfl)) pa_nil)))) (pss_one (ps_ret (pe_lst (pa_cons (pe_con1 c.noSuch rfl) pa_nil)))) pss_nil)
    (pss_cons (ps_set (i := 2) scMarginC.nd rfl (Or.inl rfl) (pe_ix ix_list (pe_fld (pv 0) rfl) (pe_ix ix_list (pv 1) pe_int (fun _ _ => rfl)) (fun _ _ => rfl)))
    (pss_cons (ps_if (pt_cmpR op_ne (pe_op op_and (pe_ix ix_list (pv 1) pe_int (fun _ _ => rfl)) (pe_fld (pv 2) rfl)) (pe_ix ix_list (pv 1) pe_int (fun _ _ => rfl)) (nomark _)) (pss_one (ps_ret (pe_lst (pa_cons (pe_con1 c.notAllowed rfl) pa_nil)))) pss_nil)
    (pss_cons (ps_set (i := 3) scMarginC.nd rfl (Or.inl rfl) (pe_lst (pa_cons (pe_callD D3 hr2 rfl (pa_cons (pe_ix ix_list (pv 1) pe_int (fun _ _ => rfl)) pa_nil)) pa_nil)))
    (pss_cons (ps_for PassesOwn.never rfl (pi_list (pe_methD M2 V'.cl hr (pv 2) (pa_cons (pe_ix ix_list (pv 1) pe_int (fun _ _ => rfl)) pa_nil))) (pg_name (i := 4) scMarginC.nd rfl (Or.inl rfl))
      (pss_one (ps_expr (pe_bm PySem.F.plainAttrs_list PySem.F.slot_list_extend PySem.F.type_list_extend mt_extend (pv 3) (pa_cons (pv 4) pa_nil)))))
    (pss_one (ps_ret (pv 3))))))), ?_⟩
  refine ⟨_, rfl, t, dx, _, rfl, ht, tF_no _ _ (by decide +kernel) (by decide +kernel), _, rfl, g, _, _, _, rfl, rfl, hg, at0, t, dx, l, n, i, _, rfl, ht, TH.lst, _, rfl, ?_⟩
  refine ite_b (c' := !decide (i < ws.length)) (by rw [TH.len]) (fun hno => ?_) (fun hyes => ?_)
  · have hi : ¬ i < ws.length := by simpa using hno
    refine ⟨(by show 1 ≤ sizeLine; decide), fun p np => ?_⟩
    rw [st_margin_2 hi] at post
    exact post.read TH est (.inr d) (same_upd np) np upd_same
  have hi : i < ws.length := by simpa using hyes
  obtain ⟨v, hv⟩ := get_of_lt hi
  obtain ⟨a, tb, ea, etb, va⟩ := TH.get hv
  obtain ⟨dv, hda⟩ := va.at_
  have hok := (d.each v (List.mem_of_getElem? hv)).1
  refine ⟨_, rfl, t, C, dx, _, _, rfl, ht, T.cl, T.nV, tF_v n l, _, rfl, g, _, _, _, rfl, rfl, hg, at0, l, _, _, _, rfl, rfl, SqL.of TH.lst, atI_nat (map_ref_get ea), ?_⟩
  refine ⟨_, rfl, g, _, _, _, rfl, rfl, hg, at1, _, rfl, a, CV, dv, _, _, rfl, hda, V'.cl, V'.nQ, vF_q _ _, _, _, rfl, rfl, _, rfl, g, _, _, _, rfl, rfl, hg, at1, rfl, _, rfl, ?_⟩
  refine ite_b (c' := !decide (u &&& v.1 = u)) (by show (!decide (V.int (Builtin.bitAnd (u : Int) (v.1 : Int)) = V.int (u : Int))) = _; rw [and_cast, decI]) (fun h2 => ?_) (fun h2 => ?_)
  · refine ⟨(by show 1 ≤ sizeLine; decide), fun p np => ?_⟩
    rw [st_margin_22 d hv (by simpa using h2)] at post
    exact post.read TH est (.inr d) (same_upd np) np upd_same
  have hus : u &&& v.1 = u := by simpa using h2
  have hu : u < 32 := by
    rw [← hus]
    exact Nat.lt_of_le_of_lt Nat.and_le_right hok.lt
  rw [st_margin d hv hus] at post
  refine ⟨_, rfl, g, _, _, _, rfl, rfl, hg, at1, u, rfl, hu, fun H1 s1 => ?_⟩
  refine ⟨(by show 1 ≤ sizeLine; decide), fun q nq => ?_⟩
  have s2 : Same H (upd H1 q (.lst [.int ((2 ^ (bits u).length : Nat) : Int)])) := s1.trans (same_upd nq)
  refine ⟨_, rfl, a, dv, _, rfl, s2 _ _ hda, vF_no _ _ (by decide +kernel) (by decide +kernel), _, rfl, g, _, _, _, rfl, rfl, s2.seq hg, at1, a, tb, v.1, u, v.2, rfl, va.same s2, hok, hu, hus, fun H3 r bs nr nbs s3 hr3 hf => ?_⟩
  have hq3 : H3 q = some (.lst [.int ((2 ^ (bits u).length : Nat) : Int)]) := s3 _ _ upd_same
  have hml := marg_len v.1 u v.2
  have nqr : r ≠ q := fun e => by rw [e, upd_same] at nr; cases nr
  have nqb : ∀ b ∈ bs, b ≠ q := fun b hb e => by
    have := nbs b hb
    rw [e, upd_same] at this
    cases this
  have hp5 := small_pow hu
  refine ⟨r, rfl, ⟨_, SqL.of hr3⟩, for_list (K := K) (a := r) (xs := bs.map V.ref) (fun j σ H' => (∃ v4, σ = [some (.ref t), some (.ref g), some (.ref a), some (.ref q), v4]) ∧ (∀ b o, H3 b = some o → b ≠ q → H' b = some o) ∧ H' q = some (.lst (.int ((2 ^ (bits u).length : Nat) : Int) :: (flatF ((Kp351.margin ⟨bits v.1, v.2⟩ (bits u)).take j)).map V.int)))
    ⟨⟨none, rfl⟩, fun _ _ e _ => e, hq3⟩ (fun j σ H' _ h => SqL.of (h.2.1 _ _ hr3 nqr)) ?_ ?_⟩
  · rintro j y σ H4 hy ⟨⟨v4, rfl⟩, kp, hq⟩
    rw [List.getElem?_map] at hy
    cases eb : bs[j]? with
    | none => rw [eb] at hy; cases hy
    | some b =>
      rw [eb] at hy
      cases hy
      have hjl : j < bs.length := (List.getElem?_eq_some_iff.mp eb).1
      rw [hf.1, hml] at hjl
      obtain ⟨x, hx⟩ := get_of_lt (l := Kp351.margin ⟨bits v.1, v.2⟩ (bits u)) (i := j) (by rw [hml]; exact hjl)
      have hb := kp _ _ (hf.2 j b x eb hx) (nqb b (List.mem_of_getElem? eb))
      refine ⟨_, rfl, .inl ⟨rfl, _, SqL.of hq⟩, _, rfl, q, b, _, _, rfl, rfl, hq, hb, ?_, ?_⟩
      · have e1 : ((flatF ((Kp351.margin ⟨bits v.1, v.2⟩ (bits u)).take j)).map V.int).length ≤ 64 := by
          rw [List.length_map, flatF_len, List.length_take, hml]
          omega
        show (_ + 1) + 2 ≤ sizeLine
        exact Nat.le_of_lt (small1000 (by omega))
      · refine ⟨⟨some (.ref b), rfl⟩, fun c o e hc => ?_, ?_⟩
        · rw [upd_ne hc]
          exact kp c o e hc
        · rw [upd_same, take_snoc hx, flatF_snoc]
          rfl
  · rintro σ H4 ⟨⟨v4, rfl⟩, kp, hq⟩
    have e1 : (Kp351.margin ⟨bits v.1, v.2⟩ (bits u)).take (bs.map V.ref).length = Kp351.margin ⟨bits v.1, v.2⟩ (bits u) := by
      rw [List.length_map, hf.1, List.take_length]
    rw [e1] at hq
    refine ⟨_, rfl, ?_⟩
    have nq0 : H q = none := s1.free nq
    have s5 : Same H H4 := fun b o e => kp b o (s3 _ _ (s2 _ _ e)) (ne_of_none e nq0)
    refine post.read TH est (.inr d) s5 nq0 ?_
    rw [hq]
    have e2 : ansOf (Kp351.frs (Kp351.margin (vw v) (bits u))) = ((2 ^ (bits u).length : Nat) : Int) :: flatF (Kp351.margin ⟨bits v.1, v.2⟩ (bits u)) := by
      rw [← hml]
      rfl
    rw [e2]
    rfl
theorem ok_agreeC {f : Addr} {fd : FuncData} (F : Fun K "answer_agree" "answer_agree" sAgreeC f fd) (T : TxtT K mg C) (V' : TxtV K mg CV) (c : Cons mg)
    (M1 : MCallee P w K mg base C 1 "has_view" ["self", "number"] (spHasView C)) (M2 : MCallee P w K mg base CV 4 "agrees" ["self", "other"] (spAgrees CV)) : FnOk P w K mg base CX0 5 f fd ["thing", "given"] (spStep K C CV 8) := by
  refine F.ok scAgreeC (fun vs H Q E h => sp_len h) (fun cdv A outer s0 H vs Q E hr h => ?_)
  obtain ⟨t, g, l, as, ts, n, ws, gs, rfl, TH, ok, hg, hgf, hgs, post⟩ := h
  obtain ⟨i, j, rfl⟩ := two_of (show gs.length = 2 from hgs)
  obtain ⟨dx, ht⟩ := TH.at_
  have at0 : atI (nats [i, j]) 0 = some (.int (i : Int)) := SqL.at_ (K := K) (g := g) (gs := [i, j]) (j := 0) rfl
  have at1 : atI (nats [i, j]) 1 = some (.int (j : Int)) := SqL.at_ (K := K) (g := g) (gs := [i, j]) (j := 1) rfl
  have d : DOk n ws := ok
  have est := stOf_ok d
  have hr1 : Room 1 _ := hr.mono (by decide)
  have post : Post C CV H (foot t l as ts) t (Kp351.step (stOf n ws) (.agree i j)).1 (ansOf (Kp351.step (stOf n ws) (.agree i j)).2) Q := post
  rw [est] at post
  refine ⟨_, pss_cons (ps_if (PW.pt (pw_or (pt_not (pt_val (pe_methD M1 T.cl hr1 (pv 0) (pa_cons (pe_ix ix_list (pv 1) pe_int (fun _ _ => rfl)) pa_nil)))) (pw_or1 (pt_not (pt_val (pe_methD M1 T.cl hr1 (pv 0) (pa_cons (pe_ix ix_list (pv 1) pe_int (fun _ _ => rfl)) pa_nil)))))))
      (pss_one (ps_ret (pe_lst (pa_cons (pe_con1 c.noSuch rfl) pa_nil)))) pss_nil)
    (pss_one (ps_ret (pe_lst (pa_cons (pe_ifExp (pt_val (pe_methD M2 V'.cl hr (pe_ix ix_list (pe_fld (pv 0) rfl) (pe_ix ix_list (pv 1) pe_int (fun _ _ => rfl)) (fun _ _ => rfl)) (pa_cons (pe_ix ix_list (pe_fld (pv 0) rfl) (pe_ix ix_list (pv 1) pe_int (fun _ _ => rfl)) (fun _ _ => rfl)) pa_nil))) pe_int pe_int) pa_nil)))), ?_⟩
  have no : (¬ i < ws.length ∨ ¬ j < ws.length) → ∀ p, H p = none → Q (.ref p) (upd H p (.lst [.int (-2)])) := fun h p np => by
    rw [st_agree_2 h] at post
    exact post.read TH est (.inr d) (same_upd np) np upd_same
  refine ⟨_, rfl, t, dx, _, rfl, ht, tF_no _ _ (by decide +kernel) (by decide +kernel), _, rfl, g, _, _, _, rfl, rfl, hg, at0, t, dx, l, n, i, _, rfl, ht, TH.lst, _, rfl, ?_⟩
  refine ite_b (c' := !decide (i < ws.length)) (by rw [TH.len]) (fun hno => ?_) (fun hyes => ?_)
  · exact iteT ⟨(by show 1 ≤ sizeLine; decide), fun p np => no (.inl (by simpa using hno)) p np⟩
  refine ⟨_, rfl, t, dx, _, rfl, ht, tF_no _ _ (by decide +kernel) (by decide +kernel), _, rfl, g, _, _, _, rfl, rfl, hg, at1, t, dx, l, n, j, _, rfl, ht, TH.lst, _, rfl, ?_⟩
  refine ite_b (c' := !decide (j < ws.length)) (by rw [TH.len]) (fun hno2 => ?_) (fun hyes2 => ?_)
  · exact ⟨(by show 1 ≤ sizeLine; decide), fun p np => no (.inr (by simpa using hno2)) p np⟩
  obtain ⟨v, hv⟩ := get_of_lt (show i < ws.length by simpa using hyes)
  obtain ⟨z, hz⟩ := get_of_lt (show j < ws.length by simpa using hyes2)
  obtain ⟨a, tb, ea, etb, va⟩ := TH.get hv
  obtain ⟨b, rb, eb, erb, vb⟩ := TH.get hz
  obtain ⟨dv, hda⟩ := va.at_
  have hok := (d.each v (List.mem_of_getElem? hv)).1
  have hok2 := (d.each z (List.mem_of_getElem? hz)).1
  rw [st_agree hv hz] at post
  refine ⟨_, rfl, t, C, dx, _, _, rfl, ht, T.cl, T.nV, tF_v n l, _, rfl, g, _, _, _, rfl, rfl, hg, at0, l, _, _, _, rfl, rfl, SqL.of TH.lst, atI_nat (map_ref_get ea), a, dv, _, rfl, hda, vF_no _ _ (by decide +kernel) (by decide +kernel), ?_⟩
  refine ⟨_, rfl, t, C, dx, _, _, rfl, ht, T.cl, T.nV, tF_v n l, _, rfl, g, _, _, _, rfl, rfl, hg, at1, l, _, _, _, rfl, rfl, SqL.of TH.lst, atI_nat (map_ref_get eb), a, tb, b, rb, v, z, rfl, va, vb, hok, hok2, fun H1 s1 => ⟨_, rfl, ?_⟩⟩
  cases hag : Kp351.agree (vw v) (vw z)
  · refine iteF ⟨(by show 1 ≤ sizeLine; decide), fun p np => ?_⟩
    rw [hag] at post
    exact post.read TH est (.inr d) (s1.trans (same_upd np)) (s1.free np) upd_same
  · refine iteT ⟨(by show 1 ≤ sizeLine; decide), fun p np => ?_⟩
    rw [hag] at post
    exact post.read TH est (.inr d) (s1.trans (same_upd np)) (s1.free np) upd_same
theorem ok_off {f : Addr} {fd : FuncData} (F : Fun K "answer_off" "answer_off" sOff f fd) (T : TxtT K mg C) (V' : TxtV K mg CV) (O : Own mg) (c : Cons mg)
    (M2 : MCallee P w K mg base CV 4 "agrees" ["self", "other"] (spAgrees CV)) : FnOk P w K mg base CX0 5 f fd ["thing", "given"] (spStep K C CV 9) := by
  refine F.ok scOff (fun vs H Q E h => sp_len h) (fun cdv A outer s0 H vs Q E hr h => ?_)
  obtain ⟨t, g, l, as, ts, n, ws, gs, rfl, TH, ok, hg, hgf, hgs, post⟩ := h
  obtain ⟨dx, ht⟩ := TH.at_
  have d : DOk n ws := ok
  have est := stOf_ok d
  have post : Post C CV H (foot t l as ts) t (Kp351.step (stOf n ws) .off).1 (ansOf (Kp351.step (stOf n ws) .off).2) Q := post
  rw [est] at post
  have eq : Kp351.step (some (desk n ws)) .off = (some (desk n ws), match Kp351.off (desk n ws) with
        | none => Kp351.say (-6)
        | some (i, j) => ⟨(i : Int), [(j : Int)]⟩) := rfl
  rw [eq] at post
  have h6 := d.len
  refine ⟨_, pss_cons (ps_set (i := 2) scOff.nd rfl (Or.inl rfl) (pe_callB call_len_seq (by rfl) O.len PySem.boot_len (pa_cons (pe_fld (pv 0) rfl) pa_nil)))
    (pss_cons (ps_for PassesOwn.never rfl (pi_range1 rfl O.range (pa_cons (pv 2) pa_nil)) (pg_name (i := 3) scOff.nd rfl (Or.inl rfl))
      (pss_one (ps_for PassesOwn.never rfl (pi_range2 (by rfl) O.range (pa_cons (pe_op op_add (pv 3) pe_int) (pa_cons (pv 2) pa_nil))) (pg_name (i := 4) scOff.nd rfl (Or.inl rfl))
        (pss_one (ps_if (pt_not (pt_val (pe_methD M2 V'.cl hr (pe_ix ix_list (pe_fld (pv 0) rfl) (pv 3) (fun _ _ => rfl)) (pa_cons (pe_ix ix_list (pe_fld (pv 0) rfl) (pv 4) (fun _ _ => rfl)) pa_nil))))
          (pss_one (ps_ret (pe_lst (pa_cons (pv 3) (pa_cons (pv 4) pa_nil))))) pss_nil)))))
    (pss_one (ps_ret (pe_lst (pa_cons (pe_con1 c.noneFound rfl) pa_nil))))), ?_⟩
  refine ⟨_, rfl, t, C, dx, _, _, rfl, ht, T.cl, T.nV, tF_v n l, l, _, rfl, .inl (SqL.of TH.lst), ?_⟩
  have hlen : ((as.map V.ref).length : Int) = (ws.length : Int) := by rw [TH.len]
  have hlb : -(2 ^ 62) ≤ ((as.map V.ref).length : Int) ∧ ((as.map V.ref).length : Int) < 2 ^ 62 := by omega
  refine ⟨_, rfl, _, rfl, hlb.1, hlb.2, ?_⟩
  refine for_range (lo := 0) (n := (((as.map V.ref).length : Int)).toNat) (fun i σ H' => Same H H' ∧ (∃ v3 v4, σ = [some (.ref t), some (.ref g), some (.int ((as.map V.ref).length : Int)), v3, v4]) ∧ ∀ a b, a < i → a < b → b < ws.length → okP n ws (a, b) = true)
    ⟨Same.refl _, ⟨none, none, rfl⟩, fun a b h => absurd h (Nat.not_lt_zero _)⟩ ?_ ?_
  · rintro i σ H1 hi ⟨s1, ⟨v3, v4, rfl⟩, hall⟩
    rw [hlen, Int.toNat_natCast] at hi
    refine ⟨_, rfl, _, _, rfl, rfl, _, rfl, _, _, rfl, ⟨by omega, by omega, hlb.1, hlb.2⟩, ?_⟩
    refine for_range (lo := 0 + (i : Int) + 1) (n := (((as.map V.ref).length : Int) - (0 + (i : Int) + 1)).toNat) (fun j σ H' => Same H H' ∧ (∃ v4, σ = [some (.ref t), some (.ref g), some (.int ((as.map V.ref).length : Int)), some (.int (0 + (i : Int))), v4]) ∧ ∀ b, i < b → b < i + 1 + j → b < ws.length → okP n ws (i, b) = true)
      ⟨s1, ⟨_, rfl⟩, fun b h1 h2 => absurd h2 (by omega)⟩ ?_ ?_
    · rintro j σ H2 hj ⟨s2, ⟨v4, rfl⟩, hin⟩
      have hj2 : i + 1 + j < ws.length := by omega
      obtain ⟨v, hv⟩ := get_of_lt hi
      obtain ⟨z, hz⟩ := get_of_lt hj2
      have TH2 := TH.same s2
      obtain ⟨a, tb, ea, etb, va⟩ := TH2.get hv
      obtain ⟨b, rb, eb, erb, vb⟩ := TH2.get hz
      obtain ⟨dv, hda⟩ := va.at_
      have hok := (d.each v (List.mem_of_getElem? hv)).1
      have hok2 := (d.each z (List.mem_of_getElem? hz)).1
      have ei : (0 + (i : Int)) = (i : Int) := by omega
      have ej : (0 + (i : Int) + 1 + (j : Int)) = ((i + 1 + j : Nat) : Int) := by omega
      refine ⟨_, rfl, t, C, dx, _, _, rfl, s2 _ _ ht, T.cl, T.nV, tF_v n l, _, rfl, l, _, _, _, rfl, rfl, SqL.of TH2.lst, at_of ei (map_ref_get ea), a, dv, _, rfl, hda, vF_no _ _ (by decide +kernel) (by decide +kernel), ?_⟩
      refine ⟨_, rfl, t, C, dx, _, _, rfl, s2 _ _ ht, T.cl, T.nV, tF_v n l, _, rfl, l, _, _, _, rfl, rfl, SqL.of TH2.lst, at_of ej (map_ref_get eb), a, tb, b, rb, v, z, rfl, va, vb, hok, hok2, fun H3 s3 => ⟨_, rfl, ?_⟩⟩
      have s23 := s2.trans s3
      have eok : okP n ws (i, i + 1 + j) = Kp351.agree (vw v) (vw z) := by
        unfold okP
        rw [view_at hv, view_at hz]
      refine ite_b (c' := !okP n ws (i, i + 1 + j)) (by rw [eok]) (fun h => ?_) (fun h => ?_)
      · have hno : okP n ws (i, i + 1 + j) = false := by simpa using h
        have eo := off_some (n := n) h6 (show i < i + 1 + j by omega) hj2 hno fun a' b' h1 h2 h3 => by
          unfold lexP at h3
          rw [Bool.or_eq_true, Bool.and_eq_true] at h3
          rcases h3 with h3 | ⟨h3, h4⟩
          · exact hall a' b' (of_decide_eq_true h3) h1 h2
          · have e3 : a' = i := eq_of_beq h3
            subst e3
            exact hin b' h1 (of_decide_eq_true h4) h2
        rw [eo] at post
        refine ⟨_, rfl, _, rfl, (by show 2 ≤ sizeLine; decide), fun p np => ?_⟩
        refine post.read TH est (.inr d) (s23.trans (same_upd np)) (s23.free np) ?_
        rw [upd_same, ej, ei]
        rfl
      · have hyes : okP n ws (i, i + 1 + j) = true := by simpa using h
        refine ⟨s23, ⟨_, rfl⟩, fun b' h1 h2 h3 => ?_⟩
        by_cases hb : b' < i + 1 + j
        · exact hin b' h1 hb h3
        · have : b' = i + 1 + j := by omega
          subst this
          exact hyes
    · rintro σ H2 ⟨s2, ⟨v4, rfl⟩, hin⟩
      refine ⟨s2, ⟨_, _, rfl⟩, fun a b h1 h2 h3 => ?_⟩
      by_cases ha : a < i
      · exact hall a b ha h2 h3
      · have : a = i := by omega
        subst this
        exact hin b h2 (by omega) h3
  · rintro σ H1 ⟨s1, ⟨v3, v4, rfl⟩, hall⟩
    rw [hlen, Int.toNat_natCast] at hall
    rw [off_none fun a b h1 h2 => hall a b (by omega) h1 h2] at post
    exact ⟨(by show 1 ≤ sizeLine; decide), fun p np => post.read TH est (.inr d) (s1.trans (same_upd np)) (s1.free np) upd_same⟩
end
end VT

set_option Elab.async false
set_option linter.all false
set_option maxRecDepth 100000
set_option maxHeartbeats 2000000
namespace VT
open PySem PySem.Spec PyProof.Rows L2
open PySem.W (Codec)
section
variable {X : Cx} {k : Nat} {C : Addr} {m : Str} {ps : List Str} {sp : Sp} {apos pos : Pos} {o : Expr} {ta : TE}
theorem pe_methD0 {pl : Sem Bool} (D : MCallee X.prog X.w X.K X.mg X.base C k m ps sp) (c : Cls X.K C) (hr : Room k X.A) (ho : PE X o ta)
    (ht : eval (.Call (.Attribute o m apos) [] [] pos) X.env = (do
      let ov ← eval o X.env
      standAt apos.atName
      let (f, first) ← holding [ov] (getMethod ov m pl)
      callWith pos f first (backTo pos (starEach [] X.env)) (backToKw pos (keywordEach [] X.env))) := by rfl) :
    PE X (.Call (.Attribute o m apos) [] [] pos) (tMeth C m sp [] E0 ta tNil) := by
  obtain ⟨f, fd, h1, h3, h4⟩ := D
  exact pe_meth0 (pl := pl) ho c h1 h4 hr h3 .nil pass0 ht
end
/-! ### promises -/
def spHasSeen (C : Addr) : Sp := fun vs H Q _ => ∃ (a t : Addr) (s c : Nat) (tab : List Nat) (k : Nat), vs = [.ref a, .int (c : Int)] ∧ ViewAt C H a t s tab ∧ tab[c]? = some k ∧ Q (.bl (decide (0 < k))) H
def spFits (C : Addr) : Sp := fun vs H Q _ => ∃ (a t : Addr) (x : Nat) (v : Nat × List Nat), vs = [.ref a, .int (x : Int)] ∧ ViewAt C H a t v.1 v.2 ∧ VOk v.1 v.2 ∧ x < 32 ∧ ∀ H' : Hp, Same H H' → Q (.bl (fitV x v)) H'
def spWorldCount (C : Addr) : Sp := fun vs H Q _ => ∃ (t dx l : Addr) (n : Nat), vs = [.ref t] ∧ H t = some (.ins C dx (tF n l)) ∧ n ≤ 5 ∧ Q (.int ((2 ^ n : Nat) : Int)) H
def spAllViews (C : Addr) : Sp := fun vs H Q _ => ∃ (t dx l : Addr) (n k : Nat) (xs : List V), vs = [.ref t] ∧ H t = some (.ins C dx (tF n l)) ∧ H l = some (.lst xs) ∧ xs.length = k ∧ k ≤ 6 ∧ Q (.int ((2 ^ k - 1 : Nat) : Int)) H
theorem scHasSeen : FnScope ["self", "row"] ["self", "row"] (defScope sHasSeen) := ⟨rfl, rfl, rfl, by decide +kernel, rfl, by decide +kernel, by decide +kernel⟩
theorem scFits : FnScope ["self", "world"] ["self", "world"] (defScope sFits) := ⟨rfl, rfl, rfl, by decide +kernel, rfl, by decide +kernel, by decide +kernel⟩
theorem scHasRow : FnScope ["self", "number", "row"] ["self", "number", "row"] (defScope sHasRow) := ⟨rfl, rfl, rfl, by decide +kernel, rfl, by decide +kernel, by decide +kernel⟩
theorem scWorldCount : FnScope ["self"] ["self"] (defScope sWorldCount) := ⟨rfl, rfl, rfl, by decide +kernel, rfl, by decide +kernel, by decide +kernel⟩
theorem scAllViews : FnScope ["self"] ["self"] (defScope sAllViews) := ⟨rfl, rfl, rfl, by decide +kernel, rfl, by decide +kernel, by decide +kernel⟩
section
variable {P : Program} {w : World} {K : PySem.W.Frag} {mg : Str → Option Value} {base : Heap} {C CV : Addr}
theorem ok_has_seen {f : Addr} {fd : FuncData} (F : Fun K "has_seen" "View.has_seen" sHasSeen f fd) (T : TxtV K mg C) : FnOk P w K mg base CX0 1 f fd ["self", "row"] (spHasSeen C) := by
  refine F.ok scHasSeen (fun vs H Q E h => ?_) (fun cdv A outer s0 H vs Q E hr h => ?_)
  · obtain ⟨a, t, s, c, tab, k, rfl, _⟩ := h
    rfl
  · obtain ⟨a, t, s, c, tab, k, rfl, ⟨⟨dx, ha⟩, ht⟩, hk, q⟩ := h
    refine ⟨_, pss_one (ps_ret (pe_cmpR op_gt (pe_ix ix_list (pe_fld (pv 0) rfl) (pv 1) (fun _ _ => rfl)) pe_int (nomark _))), ?_⟩
    refine ⟨_, rfl, a, C, dx, _, _, rfl, ha, T.cl, T.nT, vF_t s t, _, rfl, t, _, _, _, rfl, rfl, SqL.of ht, atI_nat (nats_at hk), _, _, rfl, rfl, ?_⟩
    have e : decide ((k : Int) > 0) = decide (0 < k) := dec_lt 0 k
    dsimp only
    rw [e]
    exact q
theorem ok_fits {f f1 : Addr} {fd fd1 : FuncData} (F : Fun K "fits" "View.fits" sFits f fd) (T : TxtV K mg C) (M1 : MCallee P w K mg base C 1 "has_seen" ["self", "row"] (spHasSeen C))
    (D1 : Def K mg "row_of" "row_of" sRowOf ["world", "questions"] f1 fd1) (G1 : FnOk P w K mg base CX0 2 f1 fd1 ["world", "questions"] spRowOf) : FnOk P w K mg base CX0 3 f fd ["self", "world"] (spFits C) := by
  refine F.ok scFits (fun vs H Q E h => ?_) (fun cdv A outer s0 H vs Q E hr h => ?_)
  · obtain ⟨a, t, x, v, rfl, _⟩ := h
    rfl
  · obtain ⟨a, t, x, v, rfl, va, ok, hx, q⟩ := h
    obtain ⟨dx, ha⟩ := va.at_
    have hr1 : Room 1 _ := hr.mono (by decide)
    refine ⟨_, pss_one (ps_ret (pe_methD M1 T.cl hr1 (pv 0) (pa_cons (pe_call G1 hr rfl D1.g D1.fn.kp D1.b .nil pass0 (pa_cons (pv 1) (pa_cons (pe_fld (pv 0) rfl) pa_nil))) pa_nil))), ?_⟩
    obtain ⟨k, hk⟩ := get_of_lt (l := v.2) (i := rowM x (bits v.1)) (by rw [ok.len]; exact row_lt x hx v.1 ok.lt)
    refine ⟨_, rfl, a, dx, _, rfl, ha, vF_no _ _ (by decide +kernel) (by decide +kernel), _, rfl, _, rfl, a, C, dx, _, _, rfl, ha, T.cl, T.nQ, vF_q _ _, x, v.1, rfl, ok.lt, fun H1 s1 => ?_⟩
    refine ⟨a, t, v.1, rowM x (bits v.1), v.2, k, rfl, va.same s1, hk, ?_⟩
    have e : fitV x v = decide (0 < k) := by
      unfold fitV
      rw [List.getD_eq_getElem?_getD, hk]
      rfl
    have q' := q H1 s1
    rw [e] at q'
    exact q'
theorem ok_world_count {f : Addr} {fd : FuncData} (F : Fun K "world_count" "Thing.world_count" sWorldCount f fd) (T : TxtT K mg C) : FnOk P w K mg base CX0 1 f fd ["self"] (spWorldCount C) := by
  refine F.ok scWorldCount (fun vs H Q E h => ?_) (fun cdv A outer s0 H vs Q E hr h => ?_)
  · obtain ⟨t, dx, l, n, rfl, _⟩ := h
    rfl
  · obtain ⟨t, dx, l, n, rfl, ht, hn, q⟩ := h
    refine ⟨_, pss_one (ps_ret (pe_op op_shl pe_int (pe_fld (pv 0) rfl))), ?_⟩
    refine ⟨_, rfl, t, C, dx, _, _, rfl, ht, T.cl, T.nN, tF_n n l, _, _, rfl, rfl, cpow1 hn, ?_⟩
    dsimp only
    rw [shl1]
    exact q
theorem ok_has_world {f : Addr} {fd : FuncData} (F : Fun K "has_world" "Thing.has_world" sHasWorld f fd) (T : TxtT K mg C) (M1 : MCallee P w K mg base C 1 "world_count" ["self"] (spWorldCount C)) : FnOk P w K mg base CX0 2 f fd ["self", "world"] (spHasWorld C) := by
  refine F.ok scHasWorld (fun vs H Q E h => ?_) (fun cdv A outer s0 H vs Q E hr h => ?_)
  · obtain ⟨t, dx, l, n, i, rfl, _⟩ := h
    rfl
  · obtain ⟨t, dx, l, n, i, rfl, ht, hn, q⟩ := h
    refine ⟨_, pss_one (ps_ret (pe_cmpR op_lt (pv 1) (pe_methD0 M1 T.cl hr (pv 0)) (nomark _))), ?_⟩
    refine ⟨_, rfl, _, rfl, t, dx, _, rfl, ht, tF_no _ _ (by decide +kernel) (by decide +kernel), t, dx, l, n, rfl, ht, hn, _, _, rfl, rfl, ?_⟩
    dsimp only
    rw [dec_lt]
    exact q
theorem ok_all_views {f : Addr} {fd : FuncData} (F : Fun K "all_views" "Thing.all_views" sAllViews f fd) (T : TxtT K mg C) (O : Own mg) : FnOk P w K mg base CX0 1 f fd ["self"] (spAllViews C) := by
  refine F.ok scAllViews (fun vs H Q E h => ?_) (fun cdv A outer s0 H vs Q E hr h => ?_)
  · obtain ⟨t, dx, l, n, k, xs, rfl, _⟩ := h
    rfl
  · obtain ⟨t, dx, l, n, k, xs, rfl, ht, hl, hk, h6, q⟩ := h
    refine ⟨_, pss_one (ps_ret (pe_op op_sub (pe_op op_shl pe_int (pe_callB call_len_seq (by rfl) O.len PySem.boot_len (pa_cons (pe_fld (pv 0) rfl) pa_nil))) pe_int)), ?_⟩
    refine ⟨_, rfl, t, C, dx, _, _, rfl, ht, T.cl, T.nV, tF_v n l, l, _, rfl, .inl (SqL.of hl), _, _, rfl, rfl, ⟨by omega, by omega, by decide⟩, _, _, rfl, rfl, ?_⟩
    dsimp only
    rw [hk, shl1]
    have h1 := Nat.two_pow_pos k
    rw [show ((2 ^ k : Nat) : Int) - 1 = ((2 ^ k - 1 : Nat) : Int) by omega]
    exact q
theorem ok_has_row {f : Addr} {fd : FuncData} (F : Fun K "has_row" "Thing.has_row" sHasRow f fd) (T : TxtT K mg C) (V' : TxtV K mg CV) (O : Own mg) (M1 : MCallee P w K mg base C 1 "has_view" ["self", "number"] (spHasView C)) : FnOk P w K mg base CX0 2 f fd ["self", "number", "row"] (spHasRow C CV) := by
  refine F.ok scHasRow (fun vs H Q E h => ?_) (fun cdv A outer s0 H vs Q E hr h => ?_)
  · obtain ⟨t, l, as, ts, n, ws, i, c, rfl, _⟩ := h
    rfl
  · obtain ⟨t, l, as, ts, n, ws, i, c, rfl, TH, q⟩ := h
    obtain ⟨dx, ht⟩ := TH.at_
    refine ⟨_, pss_one (ps_ret (pe_and (pe_methD M1 T.cl hr (pv 0) (pa_cons (pv 1) pa_nil)) (pe_one (pe_cmpR op_lt (pv 2) (pe_callB call_len_seq (by rfl) O.len PySem.boot_len (pa_cons (pe_fld (pe_ix ix_list (pe_fld (pv 0) rfl) (pv 1) (fun _ _ => rfl)) rfl) pa_nil)) (nomark _))))), ?_⟩
    refine ⟨_, rfl, t, dx, _, rfl, ht, tF_no _ _ (by decide +kernel) (by decide +kernel), _, rfl, t, dx, l, n, i, _, rfl, ht, TH.lst, _, rfl, ?_⟩
    refine ite_b (c' := decide (i < ws.length)) (by rw [TH.len]) (fun hy => ?_) (fun hn => ?_)
    · obtain ⟨v, hv⟩ := get_of_lt (of_decide_eq_true hy)
      obtain ⟨a, tb, ea, etb, va⟩ := TH.get hv
      obtain ⟨dv, hda⟩ := va.at_
      refine ⟨_, rfl, _, rfl, t, C, dx, _, _, rfl, ht, T.cl, T.nV, tF_v n l, _, rfl, l, _, _, _, rfl, rfl, SqL.of TH.lst, atI_nat (map_ref_get ea), a, CV, dv, _, _, rfl, hda, V'.cl, V'.nT, vF_t _ _, tb, _, rfl, .inl (SqL.of va.tb), _, _, rfl, rfl, ?_⟩
      have e : rowB ws i c = decide (c < v.2.length) := by
        unfold rowB
        rw [hv]
      dsimp only
      rw [dec_lt, nats_len, ← e]
      exact q
    · have e : rowB ws i c = false := by
        unfold rowB
        rw [List.getElem?_eq_none_iff.mpr (Nat.le_of_not_lt (of_decide_eq_false hn))]
      rw [e] at q
      exact q
end
end VT

set_option Elab.async false
set_option linter.all false
set_option maxRecDepth 100000
set_option maxHeartbeats 2000000
namespace VT
open PySem PySem.Spec PyProof.Rows L2
open PySem.W (Codec)
abbrev sViewsFitted : Stmt := inClass sThing 7
abbrev sWorldsFitting : Stmt := inClass sThing 8
abbrev sWorldsShowing : Stmt := inClass sThing 9
def spViewsFitted (C CV : Addr) : Sp := fun vs H Q _ => ∃ (t l : Addr) (as ts : List Addr) (n : Nat) (ws : List (Nat × List Nat)) (x : Nat), vs = [.ref t, .int (x : Int)] ∧ ThingAt C CV H t l as ts n ws ∧ DOk n ws ∧ x < 32 ∧ ∀ H' : Hp, Same H H' → Q (.int ((maskM ws x : Nat) : Int)) H'
def spWorldsFitting (C CV : Addr) : Sp := fun vs H Q _ => ∃ (t l : Addr) (as ts : List Addr) (n : Nat) (ws : List (Nat × List Nat)) (s : Nat), vs = [.ref t, .int (s : Int)] ∧ ThingAt C CV H t l as ts n ws ∧ DOk n ws ∧ ∀ (H' : Hp) (p : Addr), H p = none → Same H H' → H' p = some (.lst (nats (fitW n ws s))) → Q (.ref p) H'
def spWorldsShowing (C CV : Addr) : Sp := fun vs H Q _ => ∃ (t l : Addr) (as ts : List Addr) (n : Nat) (ws : List (Nat × List Nat)) (i c : Nat) (v : Nat × List Nat), vs = [.ref t, .int (i : Int), .int (c : Int)] ∧ ThingAt C CV H t l as ts n ws ∧ DOk n ws ∧ ws[i]? = some v ∧
  ∀ (H' : Hp) (p : Addr), H p = none → Same H H' → H' p = some (.lst (nats (showM n ws v c))) → Q (.ref p) H'
theorem scViewsFitted : FnScope ["self", "world", "fitted", "number", "view"] ["self", "world"] (defScope sViewsFitted) := ⟨rfl, rfl, rfl, by decide +kernel, rfl, by decide +kernel, by decide +kernel⟩
theorem scWorldsFitting : FnScope ["self", "chosen", "world"] ["self", "chosen"] (defScope sWorldsFitting) := ⟨rfl, rfl, rfl, by decide +kernel, rfl, by decide +kernel, by decide +kernel⟩
theorem scWorldsShowing : FnScope ["self", "number", "row", "questions", "world"] ["self", "number", "row"] (defScope sWorldsShowing) := ⟨rfl, rfl, rfl, by decide +kernel, rfl, by decide +kernel, by decide +kernel⟩
theorem rb {m : Nat} (h : m ≤ 100) : -(2 ^ 62) ≤ (m : Int) ∧ (m : Int) < 2 ^ 62 := by omega
theorem or_pow (a i : Nat) : Builtin.bitOr (a : Int) (1 * 2 ^ (i : Int).toNat) = ((a ||| 2 ^ i : Nat) : Int) := by
  rw [shl1, L2.bitOr_nn (Int.natCast_nonneg _) (Int.natCast_nonneg _), Int.toNat_natCast, Int.toNat_natCast]
theorem ref_get {as : List Addr} {i : Nat} {v : V} (h : (as.map V.ref)[i]? = some v) : ∃ a, as[i]? = some a ∧ v = .ref a := by
  rw [List.getElem?_map] at h
  cases e : as[i]? with
  | none => rw [e] at h; cases h
  | some a => rw [e] at h; exact ⟨a, rfl, (Option.some.inj h).symm⟩
theorem nats_snoc (l : List Nat) (x : Nat) : nats (l ++ [x]) = nats l ++ [.int (x : Int)] := by
  unfold nats
  rw [List.map_append]
  rfl
section
variable {P : Program} {w : World} {K : PySem.W.Frag} {mg : Str → Option Value} {base : Heap} {C CV : Addr}
theorem ok_views_fitted {f : Addr} {fd : FuncData} (F : Fun K "views_fitted" "Thing.views_fitted" sViewsFitted f fd) (T : TxtT K mg C) (V' : TxtV K mg CV) (O : Own mg) (M1 : MCallee P w K mg base CV 3 "fits" ["self", "world"] (spFits CV)) :
    FnOk P w K mg base CX0 4 f fd ["self", "world"] (spViewsFitted C CV) := by
  refine F.ok scViewsFitted (fun vs H Q E h => ?_) (fun cdv A outer s0 H vs Q E hr h => ?_)
  · obtain ⟨t, l, as, ts, n, ws, x, rfl, _⟩ := h
    rfl
  obtain ⟨t, l, as, ts, n, ws, x, rfl, TH, d, hx, q⟩ := h
  obtain ⟨dx, ht⟩ := TH.at_
  have h6 := d.len
  refine ⟨_, pss_cons (ps_set (i := 2) scViewsFitted.nd rfl (Or.inl rfl) pe_int)
    (pss_cons (ps_for PassesOwn.never rfl (pi_enum (by rfl) O.enumerate (pa_cons (pe_fld (pv 0) rfl) pa_nil))
        (pg_tup rfl (pgs_cons (pg_name (i := 3) scViewsFitted.nd rfl (.inl rfl)) (pgs_cons (pg_name (i := 4) scViewsFitted.nd rfl (.inl rfl)) pgs_nil)))
      (pss_one (ps_if (pt_val (pe_methD M1 V'.cl hr (pv 4) (pa_cons (pv 1) pa_nil))) (pss_one (ps_aug (i := 2) scViewsFitted.nd rfl (Or.inl rfl) (pe_op op_shl pe_int (pv 3)) iop_or)) pss_nil)))
    (pss_one (ps_ret (pv 2)))), ?_⟩
  refine ⟨_, rfl, t, C, dx, _, _, rfl, ht, T.cl, T.nV, tF_v n l, l, _, rfl, SqL.of TH.lst, for_it (walk_enum (xs := as.map V.ref)) (fun i σ H' => Same H H' ∧ ∃ v3 v4, σ = [some (.ref t), some (.int (x : Int)), some (.int ((maskAt ws x i : Nat) : Int)), v3, v4])
    ⟨Same.refl _, none, none, rfl⟩ (fun i σ H' _ h => SqL.of (h.1 _ _ TH.lst)) ?_ ?_⟩
  · rintro i y σ H2 H3 hi ⟨s2, v3, v4, rfl⟩ ⟨T1, a1, a2, rfl, nT, rfl, e1, e2⟩
    obtain rfl := (Option.some.inj e1)
    obtain ⟨a, ea, rfl⟩ := ref_get e2
    have s3 := s2.trans (same_upd (o := .tup [.int (i : Nat), .ref a]) nT)
    obtain ⟨v, hv⟩ := get_of_lt (l := ws) (i := i) (by rw [← TH.la]; exact (List.getElem?_eq_some_iff.mp ea).1)
    obtain ⟨a', tb, ea', etb, va⟩ := TH.get hv
    rw [ea] at ea'
    cases ea'
    obtain ⟨dv, hda⟩ := va.at_
    have hok := (d.each v (List.mem_of_getElem? hv)).1
    have hil : i < ws.length := (List.getElem?_eq_some_iff.mp hv).1
    refine ⟨T1, _, rfl, SqT.of upd_same, rfl, _, _, rfl, _, _, rfl, rfl, ?_⟩
    refine ⟨_, rfl, a, dv, _, rfl, s3 _ _ hda, vF_no _ _ (by decide +kernel) (by decide +kernel), _, rfl, a, tb, x, v, rfl, va.same s3, hok, hx, fun H4 s4 => ⟨_, rfl, ?_⟩⟩
    have em : maskAt ws x (i + 1) = if fitV x v = true then maskAt ws x i ||| 2 ^ i else maskAt ws x i := by
      show (if fitI ws x i = true then _ else _) = _
      rw [fitI_at hv]
    cases hf : fitV x v
    · refine iteF ⟨s3.trans s4, some (.int (i : Nat)), some (.ref a), ?_⟩
      rw [em, hf, if_neg Bool.false_ne_true]
      rfl
    · refine iteT ⟨_, rfl, _, rfl, _, _, rfl, rfl, ⟨by omega, by omega, by decide⟩, _, _, rfl, rfl, s3.trans s4, some (.int (i : Nat)), some (.ref a), ?_⟩
      rw [em, hf, if_pos rfl, ← or_pow]
      rfl
  · rintro σ H' ⟨s2, v3, v4, rfl⟩
    refine ⟨_, rfl, ?_⟩
    rw [TH.len]
    exact q H' s2
theorem ok_worlds_fitting {f : Addr} {fd : FuncData} (F : Fun K "worlds_fitting" "Thing.worlds_fitting" sWorldsFitting f fd) (T : TxtT K mg C) (O : Own mg) (M1 : MCallee P w K mg base C 1 "world_count" ["self"] (spWorldCount C)) (M2 : MCallee P w K mg base C 4 "views_fitted" ["self", "world"] (spViewsFitted C CV)) :
    FnOk P w K mg base CX0 5 f fd ["self", "chosen"] (spWorldsFitting C CV) := by
  refine F.ok scWorldsFitting (fun vs H Q E h => ?_) (fun cdv A outer s0 H vs Q E hr h => ?_)
  · obtain ⟨t, l, as, ts, n, ws, s, rfl, _⟩ := h
    rfl
  obtain ⟨t, l, as, ts, n, ws, s, rfl, TH, d, q⟩ := h
  obtain ⟨dx, ht⟩ := TH.at_
  have hr1 : Room 1 _ := hr.mono (by decide)
  have h32 := pow32 d.hi
  refine ⟨_, pss_one (ps_ret (pe_lc (own := [("world", 2)]) (g := gName 2) rfl scWorldsFitting.nd (pi_range1 rfl O.range (pa_cons (pe_methD0 M1 T.cl hr1 (pv 0)) pa_nil)) (blkOk_by (N := ["self", "chosen", "world"]) (sc := defScope sWorldsFitting) (by decide +kernel))
      (fun _ _ _ _ _ => pg_name (i := 2) scWorldsFitting.nd rfl (Or.inl rfl))
      (fun _ _ _ _ _ => pts_one (pt_cmpR op_eq (pe_op op_and (pe_methD M2 T.cl hr (pv 0) (pa_cons (pv 2) pa_nil)) (pv 1)) (pv 1) (nomark _)))
      (fun _ _ _ _ _ => pv 2))), ?_⟩
  refine ⟨_, rfl, t, dx, _, rfl, ht, tF_no _ _ (by decide +kernel) (by decide +kernel), t, dx, l, n, rfl, ht, d.hi, _, rfl, (rb (Nat.le_trans h32 (by decide))).1, (rb (Nat.le_trans h32 (by decide))).2, fun D nD => ?_⟩
  have sD : Same H (upd H D (.lst [])) := same_upd nD
  refine lc_range (lo := 0) (n := ((2 ^ n : Nat) : Int).toNat) (fun i H' => Same H H' ∧ H' D = some (.lst (nats ((List.range i).filter fun x => decide (maskM ws x &&& s = s))))) ⟨sD, upd_same⟩ ?_ ?_
  · rintro i H' hi ⟨sm, hD⟩
    rw [Int.toNat_natCast] at hi
    have ei : (0 + (i : Int)) = (i : Int) := by omega
    rw [ei]
    refine ⟨rfl, _, rfl, t, dx, _, rfl, sm _ _ ht, tF_no _ _ (by decide +kernel) (by decide +kernel), _, rfl, t, l, as, ts, n, ws, i, rfl, TH.same sm, d, by omega, fun H2 s2 => ?_⟩
    refine ⟨_, rfl, _, _, rfl, rfl, _, rfl, rfl, _, rfl, ?_⟩
    refine ite_b (c' := decide (maskM ws i &&& s = s)) (by show decide (V.int (Builtin.bitAnd ((maskM ws i : Nat) : Int) (s : Int)) = V.int (s : Int)) = _; rw [and_cast, decI]) (fun h => ?_) (fun h => ?_)
    · refine ⟨_, rfl, _, s2 _ _ hD, ?_, fun b o q => ?_, ?_⟩
      · rw [nats_len]
        exact small1000 (Nat.le_trans (List.length_filter_le _ _) (by rw [List.length_range]; omega))
      · rw [upd_ne (ne_of_none q nD)]
        exact s2 _ _ (sm b o q)
      · rw [upd_same, range_filter_yes _ i h, nats_snoc]
    · exact ⟨sm.trans s2, by rw [range_filter_no _ i h]; exact s2 _ _ hD⟩
  · rintro H' ⟨sm, hD⟩
    rw [Int.toNat_natCast] at hD
    exact q _ _ nD sm hD
theorem ok_worlds_showing {f f1 : Addr} {fd fd1 : FuncData} (F : Fun K "worlds_showing" "Thing.worlds_showing" sWorldsShowing f fd) (T : TxtT K mg C) (V' : TxtV K mg CV) (M1 : MCallee P w K mg base C 1 "all_views" ["self"] (spAllViews C)) (M2 : MCallee P w K mg base C 5 "worlds_fitting" ["self", "chosen"] (spWorldsFitting C CV))
    (D1 : Def K mg "row_of" "row_of" sRowOf ["world", "questions"] f1 fd1) (G1 : FnOk P w K mg base CX0 2 f1 fd1 ["world", "questions"] spRowOf) : FnOk P w K mg base CX0 6 f fd ["self", "number", "row"] (spWorldsShowing C CV) := by
  refine F.ok scWorldsShowing (fun vs H Q E h => ?_) (fun cdv A outer s0 H vs Q E hr h => ?_)
  · obtain ⟨t, l, as, ts, n, ws, i, c, v, rfl, _⟩ := h
    rfl
  obtain ⟨t, l, as, ts, n, ws, i, c, v, rfl, TH, d, hv, q⟩ := h
  obtain ⟨dx, ht⟩ := TH.at_
  obtain ⟨a, tb, ea, etb, va⟩ := TH.get hv
  obtain ⟨dv, hda⟩ := va.at_
  have hok := (d.each v (List.mem_of_getElem? hv)).1
  have hr1 : Room 1 _ := hr.mono (by decide)
  have hr2 : Room 2 _ := hr.mono (by decide)
  have h6 := d.len
  refine ⟨_, pss_cons (ps_set (i := 3) scWorldsShowing.nd rfl (Or.inr rfl) (pe_fld (pe_ix ix_list (pe_fld (pv 0) rfl) (pv 1) (fun _ _ => rfl)) rfl))
    (pss_one (ps_ret (pe_lc (own := [("world", 4)]) (g := gName 4) rfl scWorldsShowing.nd (pi_list (pe_methD M2 T.cl hr (pv 0) (pa_cons (pe_methD0 M1 T.cl hr1 (pv 0)) pa_nil))) (blkOk_by (N := ["self", "number", "row", "questions", "world"]) (sc := defScope sWorldsShowing) (by decide +kernel))
      (fun _ _ _ _ _ => pg_name (i := 4) scWorldsShowing.nd rfl (Or.inl rfl))
      (fun _ _ _ _ _ => pts_one (pt_cmpR op_eq (pe_call G1 hr2 rfl D1.g D1.fn.kp D1.b .nil pass0 (pa_cons (pv 4) (pa_cons (pv 3) pa_nil))) (pv 2) (nomark _)))
      (fun _ _ _ _ _ => pv 4)))), ?_⟩
  refine ⟨_, rfl, t, C, dx, _, _, rfl, ht, T.cl, T.nV, tF_v n l, _, rfl, l, _, _, _, rfl, rfl, SqL.of TH.lst, atI_nat (map_ref_get ea), a, CV, dv, _, _, rfl, hda, V'.cl, V'.nQ, vF_q _ _, ?_⟩
  refine ⟨_, rfl, t, dx, _, rfl, ht, tF_no _ _ (by decide +kernel) (by decide +kernel), _, rfl, t, dx, _, rfl, ht, tF_no _ _ (by decide +kernel) (by decide +kernel), t, dx, l, n, ws.length, _, rfl, ht, TH.lst, TH.len, h6, ?_⟩
  refine ⟨t, l, as, ts, n, ws, 2 ^ ws.length - 1, rfl, TH, d, fun H1 p np s1 hp => ?_⟩
  rw [fitW_all h6] at hp
  refine ⟨p, rfl, ⟨_, SqL.of hp⟩, fun D nD => ?_⟩
  have nD0 : H D = none := s1.free nD
  have sD : Same H1 (upd H1 D (.lst [])) := same_upd nD
  refine lc_list (K := K) (a := p) (xs := nats (worldsM n ws)) (fun i H' => Same H1 H' ∧ H' D = some (.lst (nats (((worldsM n ws).take i).filter fun x => rowM x (bits v.1) == c)))) ⟨sD, upd_same⟩ (fun i H' _ h => SqL.of (h.1 _ _ hp)) ?_ ?_
  · rintro j y H' hy ⟨sm, hD⟩
    obtain ⟨x, hx, rfl⟩ := nats_get hy
    refine ⟨rfl, _, rfl, _, rfl, x, v.1, rfl, hok.lt, fun H2 s2 => ?_⟩
    refine ⟨_, rfl, rfl, _, rfl, ?_⟩
    have hlen : ((worldsM n ws).take j).length ≤ 32 := Nat.le_trans (List.length_take_le' _ _) (worldsM_len d.hi)
    rw [take_snoc hx, List.filter_append, List.filter_cons, List.filter_nil]
    refine ite_b (c' := rowM x (bits v.1) == c) (by rw [decI]; rfl) (fun h => ?_) (fun h => ?_)
    · rw [if_pos h]
      refine ⟨_, rfl, _, s2 _ _ hD, ?_, fun b o q => ?_, ?_⟩
      · rw [nats_len]
        exact small1000 (Nat.le_trans (List.length_filter_le _ _) (by omega))
      · rw [upd_ne (ne_of_none q nD)]
        exact s2 _ _ (sm b o q)
      · rw [upd_same, nats_snoc]
    · rw [if_neg (by rw [h]; exact Bool.false_ne_true), List.append_nil]
      exact ⟨sm.trans s2, s2 _ _ hD⟩
  · rintro H' ⟨sm, hD⟩
    rw [nats_len, List.take_length] at hD
    exact q _ _ nD0 (s1.trans sm) hD
end
end VT

set_option Elab.async false
set_option linter.all false
set_option maxRecDepth 100000
set_option maxHeartbeats 2000000
namespace VT
open PySem PySem.Spec PyProof.Rows L2
open PySem.W (Codec)
abbrev sApart : Stmt := inClass sThing 10
abbrev sCounted : Stmt := top 35
/-- lists of views stand at these addresses -/
def Sets (H : Hp) (as : List Addr) (L : List Nat) : Prop := as.length = L.length ∧ ∀ (j : Nat) (a : Addr) (s : Nat), as[j]? = some a → L[j]? = some s → H a = some (.lst (nats (Kp351.setOf 6 s)))
theorem Sets.same {H H' : Hp} {as : List Addr} {L : List Nat} (h : Sets H as L) (s : Same H H') : Sets H' as L := ⟨h.1, fun j a u e1 e2 => s _ _ (h.2 j a u e1 e2)⟩
theorem Sets.at_ {H : Hp} {as : List Addr} {L : List Nat} (h : Sets H as L) {j : Nat} {a : Addr} (e : as[j]? = some a) : ∃ s, L[j]? = some s ∧ H a = some (.lst (nats (Kp351.setOf 6 s))) := by
  obtain ⟨s, hs⟩ := get_of_lt (l := L) (i := j) (by rw [← h.1]; exact (List.getElem?_eq_some_iff.mp e).1)
  exact ⟨s, hs, h.2 j a s e hs⟩
theorem Sets.snoc {H H' : Hp} {as : List Addr} {L : List Nat} {c D : Addr} {s : Nat} (h : Sets H as L) (hn : ∀ b ∈ as, b ≠ D) (k : ∀ b o, H b = some o → b ≠ D → H' b = some o) (hc : H' c = some (.lst (nats (Kp351.setOf 6 s)))) : Sets H' (as ++ [c]) (L ++ [s]) := by
  refine ⟨by rw [List.length_append, List.length_append, h.1]; rfl, fun j b x e1 e2 => ?_⟩
  by_cases hj : j < as.length
  · rw [List.getElem?_append_left hj] at e1
    rw [List.getElem?_append_left (by rw [← h.1]; exact hj)] at e2
    exact k _ _ (h.2 j b x e1 e2) (hn b (List.mem_of_getElem? e1))
  · have hjl : j = as.length := by
      have := (List.getElem?_eq_some_iff.mp e1).1
      rw [List.length_append] at this
      have h1 : ([c] : List Addr).length = 1 := rfl
      omega
    subst hjl
    rw [List.getElem?_append_right (Nat.le_refl _), Nat.sub_self] at e1
    rw [h.1, List.getElem?_append_right (Nat.le_refl _), Nat.sub_self] at e2
    cases e1
    cases e2
    exact hc
def spApart (C CV : Addr) : Sp := fun vs H Q _ => ∃ (t l : Addr) (as ts : List Addr) (n : Nat) (ws : List (Nat × List Nat)), vs = [.ref t] ∧ ThingAt C CV H t l as ts n ws ∧ DOk n ws ∧
  ∀ (H' : Hp) (p : Addr) (bs : List Addr), H p = none → Same H H' → H' p = some (.lst (bs.map V.ref)) → Sets H' bs (apartM n ws) → Q (.ref p) H'
def spCounted : Sp := fun vs H Q _ => ∃ (a : Addr) (ns : List Nat), vs = [.ref a] ∧ H a = some (.lst (nats ns)) ∧ ns.length ≤ 900 ∧ ∀ (H' : Hp) (p : Addr), H p = none → Same H H' → H' p = some (.lst ((rowA ns).map V.int)) → Q (.ref p) H'
theorem scApart : FnScope ["self", "fitted", "found", "chosen", "world", "views"] ["self"] (defScope sApart) := ⟨rfl, rfl, rfl, by decide +kernel, rfl, by decide +kernel, by decide +kernel⟩
theorem scCounted : FnScope ["found"] ["found"] (defScope sCounted) := ⟨rfl, rfl, rfl, by decide +kernel, rfl, by decide +kernel, by decide +kernel⟩
def masksM (n : Nat) (ws : List Vw) : List Nat := (List.range (2 ^ n)).map (maskM ws)
theorem any_mask {n : Nat} {ws : List Vw} {s : Nat} (hs : s < 2 ^ ws.length) : ((masksM n ws).map fun m => decide (m &&& s = s)).any id = someM n ws (Kp351.setOf ws.length s) := by
  unfold masksM someM
  rw [List.map_map, List.any_map]
  refine any_congr' fun x _ => ?_
  exact mask_and hs
theorem masks_len {n : Nat} {ws : List Vw} (h : n ≤ 5) : (masksM n ws).length ≤ 32 := by
  unfold masksM
  rw [List.length_map, List.length_range]
  exact pow32 h
section
variable {P : Program} {w : World} {K : PySem.W.Frag} {mg : Str → Option Value} {base : Heap} {C CV : Addr}
theorem ok_counted {f : Addr} {fd : FuncData} (F : Fun K "counted" "counted" sCounted f fd) (O : Own mg) : FnOk P w K mg base CX0 1 f fd ["found"] spCounted := by
  refine F.ok scCounted (fun vs H Q E h => ?_) (fun cdv A outer s0 H vs Q E hr h => ?_)
  · obtain ⟨a, ns, rfl, _⟩ := h
    rfl
  obtain ⟨a, ns, rfl, ha, hl, q⟩ := h
  refine ⟨_, pss_one (ps_ret (pe_op op_cat (pe_lst (pa_cons (pe_callB call_len_seq (by rfl) O.len PySem.boot_len (pa_cons (pv 0) pa_nil)) pa_nil)) (pv 0))), ?_⟩
  refine ⟨_, rfl, a, _, rfl, .inl (SqL.of ha), (by show 1 ≤ sizeLine; decide), fun r nr => ?_⟩
  have sr := same_upd (o := .lst [.int (((nats ns).length : Nat) : Int)]) nr
  refine ⟨_, rfl, r, a, _, _, rfl, rfl, upd_same, sr _ _ ha, ?_, fun p np => ?_⟩
  · rw [nats_len]
    exact Nat.le_of_lt (small1000 (by show 1 + ns.length ≤ 1000; omega))
  · refine q _ p (sr.free np) (sr.trans (same_upd np)) ?_
    rw [upd_same, nats_ints, List.length_map, List.length_map]
    rfl
theorem ok_apart {f : Addr} {fd : FuncData} (F : Fun K "apart" "Thing.apart" sApart f fd) (T : TxtT K mg C) (O : Own mg) (M1 : MCallee P w K mg base C 1 "world_count" ["self"] (spWorldCount C)) (M2 : MCallee P w K mg base C 4 "views_fitted" ["self", "world"] (spViewsFitted C CV))
    (M3 : MCallee P w K mg base C 1 "all_views" ["self"] (spAllViews C)) (D1 : Callee P w K mg base 1 "members" ["chosen"] spMembers6) : FnOk P w K mg base CX0 5 f fd ["self"] (spApart C CV) := by
  refine F.ok scApart (fun vs H Q E h => ?_) (fun cdv A outer s0 H vs Q E hr h => ?_)
  · obtain ⟨t, l, as, ts, n, ws, rfl, _⟩ := h
    rfl
  obtain ⟨t, l, as, ts, n, ws, rfl, TH, d, q⟩ := h
  obtain ⟨dx, ht⟩ := TH.at_
  have hr1 : Room 1 _ := hr.mono (by decide)
  have h32 := pow32 d.hi
  have h6 := d.len
  have h64 := pow64 h6
  refine ⟨_, pss_cons (ps_setLc (i := 1) (own := [("world", 4)]) (g := gName 4) (tt := tYes) rfl scApart.nd rfl rfl (sw_true rfl rfl rfl (by decide +kernel)) (pi_range1 rfl O.range (pa_cons (pe_methD0 M1 T.cl hr1 (pv 0)) pa_nil)) (blkOk_by (N := ["self", "fitted", "found", "chosen", "world", "views"]) (sc := defScope sApart) (by decide +kernel))
      (fun _ _ _ _ _ => pg_name (i := 4) scApart.nd rfl (Or.inl rfl)) (fun _ _ _ _ _ => pts_nil) (fun _ _ _ _ _ => pe_methD M2 T.cl hr (pv 0) (pa_cons (pv 4) pa_nil)))
    (pss_cons (ps_set (i := 2) scApart.nd rfl (Or.inl rfl) (pe_lst pa_nil))
    (pss_cons (ps_for PassesOwn.never rfl (pi_range1 rfl O.range (pa_cons (pe_op op_add (pe_methD0 M3 T.cl hr1 (pv 0)) pe_int) pa_nil)) (pg_name (i := 3) scApart.nd rfl (Or.inr rfl))
      (pss_one (ps_if (pt_not (pt_val (pe_callB (cr_any rfl) (by rfl) O.any (by decide +kernel) (pa_cons
          (pe_lc (own := [("views", 5)]) (g := gName 5) (tt := tYes) rfl scApart.nd (pi_list (pv 1)) (blkOk_by (N := ["self", "fitted", "found", "chosen", "world", "views"]) (sc := defScope sApart) (by decide +kernel))
            (fun _ _ _ _ _ => pg_name (i := 5) scApart.nd rfl (Or.inl rfl)) (fun _ _ _ _ _ => pts_nil) (fun _ _ _ _ _ => pe_cmpR op_eq (pe_op op_and (pv 5) (pv 3)) (pv 3) (nomark _))) pa_nil))))
        (pss_one (ps_expr (pe_bm PySem.F.plainAttrs_list PySem.F.slot_list_append PySem.F.type_list_append mt_append (pv 2) (pa_cons (pe_callD D1 hr1 rfl (pa_cons (pv 3) pa_nil)) pa_nil)))) pss_nil)))
    (pss_one (ps_ret (pv 2))))), ?_⟩
  refine ⟨_, rfl, t, dx, _, rfl, ht, tF_no _ _ (by decide +kernel) (by decide +kernel), t, dx, l, n, rfl, ht, d.hi, _, rfl, (rb (Nat.le_trans h32 (by decide))).1, (rb (Nat.le_trans h32 (by decide))).2, fun B nB => ?_⟩
  have sB : Same H (upd H B (.lst [])) := same_upd nB
  refine lc_range (lo := 0) (n := ((2 ^ n : Nat) : Int).toNat) (fun i H' => Same H H' ∧ H' B = some (.lst (nats ((List.range i).map (maskM ws))))) ⟨sB, upd_same⟩ ?_ ?_
  · rintro i H' hi ⟨sm, hB⟩
    rw [Int.toNat_natCast] at hi
    have ei : (0 + (i : Int)) = (i : Int) := by omega
    rw [ei]
    refine ⟨rfl, _, rfl, t, dx, _, rfl, sm _ _ ht, tF_no _ _ (by decide +kernel) (by decide +kernel), _, rfl, t, l, as, ts, n, ws, i, rfl, TH.same sm, d, by omega, fun H2 s2 => ?_⟩
    refine ⟨_, s2 _ _ hB, ?_, fun b o q => ?_, ?_⟩
    · rw [nats_len, List.length_map, List.length_range]
      exact small1000 (by omega)
    · rw [upd_ne (ne_of_none q nB)]
      exact s2 _ _ (sm b o q)
    · rw [upd_same, List.range_succ, List.map_append, ← nats_snoc]
      rfl
  rintro H1 ⟨s1, hB⟩
  rw [Int.toNat_natCast] at hB
  have hB : H1 B = some (.lst (nats (masksM n ws))) := hB
  refine ⟨Nat.zero_le _, fun D nD => ?_⟩
  have sD : Same H1 (upd H1 D (.lst [])) := same_upd nD
  have nD0 : H D = none := s1.free nD
  have s1D := s1.trans sD
  refine ⟨_, rfl, t, dx, _, rfl, s1D _ _ ht, tF_no _ _ (by decide +kernel) (by decide +kernel), t, dx, l, n, ws.length, _, rfl, s1D _ _ ht, s1D _ _ TH.lst, TH.len, h6, ?_⟩
  have ek : ((2 ^ ws.length - 1 : Nat) : Int) + 1 = ((2 ^ ws.length : Nat) : Int) := by
    have := Nat.two_pow_pos ws.length
    omega
  refine ⟨_, _, rfl, rfl, ((2 ^ ws.length : Nat) : Int), congrArg (fun z => [V.int z]) ek, (rb (Nat.le_trans h64 (by decide))).1, (rb (Nat.le_trans h64 (by decide))).2, ?_⟩
  refine for_range (lo := 0) (n := ((2 ^ ws.length : Nat) : Int).toNat) (fun i σ H' => Same H1 H' ∧ (∃ v3, σ = [some (.ref t), some (.ref B), some (.ref D), v3, none, none]) ∧ ∃ bs : List Addr, H' D = some (.lst (bs.map V.ref)) ∧ (∀ b ∈ bs, b ≠ D) ∧ Sets H' bs ((List.range i).filter fun s => !someM n ws (Kp351.setOf ws.length s)))
    ⟨sD, ⟨none, rfl⟩, [], upd_same, by simp, rfl, by simp⟩ ?_ ?_
  · rintro i σ H2 hi ⟨s2, ⟨v3, rfl⟩, bs, hD, hnD, hS⟩
    rw [Int.toNat_natCast] at hi
    have ei : (0 + (i : Int)) = (i : Int) := by omega
    rw [ei]
    refine ⟨_, rfl, B, rfl, ⟨_, SqL.of (s2 _ _ hB)⟩, fun Z nZ => ?_⟩
    have sZ : Same H2 (upd H2 Z (.lst [])) := same_upd nZ
    refine lc_list (K := K) (a := B) (xs := nats (masksM n ws)) (fun j H' => Same H2 H' ∧ H' Z = some (.lst ((((masksM n ws).take j).map fun m => decide (m &&& i = i)).map V.bl))) ⟨sZ, upd_same⟩ (fun j H' _ h => SqL.of (h.1 _ _ (s2 _ _ hB))) ?_ ?_
    · rintro j y H' hy ⟨sm, hZ⟩
      obtain ⟨m, hm, rfl⟩ := nats_get hy
      refine ⟨rfl, _, rfl, _, rfl, _, _, rfl, rfl, _, rfl, rfl, _, hZ, ?_, fun b o q => ?_, ?_⟩
      · rw [List.length_map, List.length_map]
        have := masks_len (ws := ws) d.hi
        exact small1000 (Nat.le_trans (List.length_take_le' _ _) (by omega))
      · rw [upd_ne (ne_of_none q nZ)]
        exact sm b o q
      · rw [upd_same, take_snoc hm, List.map_append, List.map_append]
        have e : decide (V.int (Builtin.bitAnd (m : Int) (i : Int)) = V.int (i : Int)) = decide (m &&& i = i) := by rw [and_cast, decI]
        show some (HO.lst (_ ++ [V.bl (decide (V.int (Builtin.bitAnd (m : Int) (i : Int)) = V.int (i : Int)))])) = _
        rw [e]
        rfl
    · rintro H3 ⟨s3, hZ⟩
      rw [nats_len, List.take_length] at hZ
      refine ⟨Z, _, rfl, SqL.of hZ, _, rfl, ?_⟩
      rw [any_mask hi]
      have hD3 := s3 _ _ hD
      refine ite_b (c' := !someM n ws (Kp351.setOf ws.length i)) rfl (fun h => ?_) (fun h => ?_)
      · refine ⟨_, rfl, .inl ⟨rfl, _, SqL.of hD3⟩, _, rfl, i, rfl, by omega, fun H4 r nr s4 hr4 => ?_⟩
        have hD4 := s4 _ _ hD3
        have nrD : r ≠ D := (ne_of_none hD3 nr).symm
        refine ⟨D, _, _, rfl, rfl, hD4, ?_, ?_⟩
        · rw [List.length_map, hS.1]
          exact small1000 (Nat.le_trans (List.length_filter_le _ _) (by rw [List.length_range]; omega))
        · refine ⟨fun b o e => ?_, ⟨_, rfl⟩, bs ++ [r], ?_, ?_, ?_⟩
          · rw [upd_ne (ne_of_none e nD)]
            exact s4 _ _ (s3 _ _ (s2 _ _ e))
          · rw [upd_same, List.map_append]
            rfl
          · intro b hb
            rcases List.mem_append.mp hb with hb | hb
            · exact hnD b hb
            · rw [List.mem_singleton.mp hb]
              exact nrD
          · rw [range_filter_yes _ i h]
            refine hS.snoc hnD (fun b o e hb => ?_) ?_
            · rw [upd_ne hb]
              exact s4 _ _ (s3 _ _ e)
            · rw [upd_ne nrD]
              exact hr4
      · refine ⟨s2.trans s3, ⟨_, rfl⟩, bs, hD3, hnD, ?_⟩
        rw [range_filter_no _ i h]
        exact hS.same s3
  · rintro σ H2 ⟨s2, ⟨v3, rfl⟩, bs, hD, hnD, hS⟩
    rw [Int.toNat_natCast] at hS
    exact ⟨_, rfl, q H2 D bs nD0 (s1.trans s2) hD hS⟩
end
end VT

set_option Elab.async false
set_option linter.all false
set_option maxRecDepth 100000
set_option maxHeartbeats 2000000
namespace VT
open PySem PySem.Spec PyProof.Rows L2
open PySem.W (Codec)
abbrev sWorlds : Stmt := top 36
abbrev sFitsC : Stmt := top 37
abbrev sShown : Stmt := top 38
abbrev sTogether : Stmt := top 43
abbrev sWithout : Stmt := top 44
abbrev sAsk : Stmt := top 46
theorem scWorlds : FnScope ["thing", "given"] ["thing", "given"] (defScope sWorlds) := ⟨rfl, rfl, rfl, by decide +kernel, rfl, by decide +kernel, by decide +kernel⟩
theorem scFitsC : FnScope ["thing", "given"] ["thing", "given"] (defScope sFitsC) := ⟨rfl, rfl, rfl, by decide +kernel, rfl, by decide +kernel, by decide +kernel⟩
theorem scShown : FnScope ["thing", "given"] ["thing", "given"] (defScope sShown) := ⟨rfl, rfl, rfl, by decide +kernel, rfl, by decide +kernel, by decide +kernel⟩
theorem scTogether : FnScope ["thing", "given"] ["thing", "given"] (defScope sTogether) := ⟨rfl, rfl, rfl, by decide +kernel, rfl, by decide +kernel, by decide +kernel⟩
theorem scWithout : FnScope ["thing", "given"] ["thing", "given"] (defScope sWithout) := ⟨rfl, rfl, rfl, by decide +kernel, rfl, by decide +kernel, by decide +kernel⟩
theorem scAsk : FnScope ["thing", "given"] ["thing", "given"] (defScope sAsk) := ⟨rfl, rfl, rfl, by decide +kernel, rfl, by decide +kernel, by decide +kernel⟩
section
variable {P : Program} {w : World} {K : PySem.W.Frag} {mg : Str → Option Value} {base : Heap} {C CV : Addr}
theorem ok_worlds {f : Addr} {fd : FuncData} (F : Fun K "answer_worlds" "answer_worlds" sWorlds f fd) (T : TxtT K mg C) (D1 : Callee P w K mg base 1 "counted" ["found"] spCounted) (M1 : MCallee P w K mg base C 1 "all_views" ["self"] (spAllViews C)) (M2 : MCallee P w K mg base C 5 "worlds_fitting" ["self", "chosen"] (spWorldsFitting C CV)) :
    FnOk P w K mg base CX0 6 f fd ["thing", "given"] (spStep K C CV 10) := by
  refine F.ok scWorlds (fun vs H Q E h => sp_len h) (fun cdv A outer s0 H vs Q E hr h => ?_)
  obtain ⟨t, g, l, as, ts, n, ws, gs, rfl, TH, ok, hg, hgf, hgs, post⟩ := h
  obtain ⟨dx, ht⟩ := TH.at_
  have d : DOk n ws := ok
  have est := stOf_ok d
  have h6 := d.len
  have hr1 : Room 1 _ := hr.mono (by decide)
  have post : Post C CV H (foot t l as ts) t (Kp351.step (stOf n ws) .worlds).1 (ansOf (Kp351.step (stOf n ws) .worlds).2) Q := post
  rw [est, st_worlds d] at post
  refine ⟨_, pss_one (ps_ret (pe_callD D1 hr1 rfl (pa_cons (pe_methD M2 T.cl hr (pv 0) (pa_cons (pe_methD0 M1 T.cl hr1 (pv 0)) pa_nil)) pa_nil))), ?_⟩
  refine ⟨_, rfl, t, dx, _, rfl, ht, tF_no _ _ (by decide +kernel) (by decide +kernel), _, rfl, t, dx, _, rfl, ht, tF_no _ _ (by decide +kernel) (by decide +kernel), t, dx, l, n, ws.length, _, rfl, ht, TH.lst, TH.len, h6, ?_⟩
  refine ⟨t, l, as, ts, n, ws, 2 ^ ws.length - 1, rfl, TH, d, fun H1 p np s1 hp => ?_⟩
  rw [fitW_all h6] at hp
  have hl := worldsM_len (ws := ws) d.hi
  exact ⟨p, worldsM n ws, rfl, hp, by omega, fun H2 r nr s2 hr2 => post.read TH est (.inr d) (s1.trans s2) (s1.free nr) hr2⟩
theorem ok_fitsC {f : Addr} {fd : FuncData} (F : Fun K "answer_fits" "answer_fits" sFitsC f fd) (T : TxtT K mg C) (c : Cons mg) (D1 : Callee P w K mg base 1 "counted" ["found"] spCounted) (D2 : Callee P w K mg base 1 "members" ["chosen"] spMembers6)
    (M1 : MCallee P w K mg base C 2 "has_world" ["self", "world"] (spHasWorld C)) (M2 : MCallee P w K mg base C 4 "views_fitted" ["self", "world"] (spViewsFitted C CV)) : FnOk P w K mg base CX0 5 f fd ["thing", "given"] (spStep K C CV 11) := by
  refine F.ok scFitsC (fun vs H Q E h => sp_len h) (fun cdv A outer s0 H vs Q E hr h => ?_)
  obtain ⟨t, g, l, as, ts, n, ws, gs, rfl, TH, ok, hg, hgf, hgs, post⟩ := h
  obtain ⟨x, rfl⟩ := one_of (show gs.length = 1 from hgs)
  obtain ⟨dx, ht⟩ := TH.at_
  have at0 : atI (nats [x]) 0 = some (.int (x : Int)) := SqL.at_ (K := K) (g := g) (gs := [x]) (j := 0) rfl
  have d : DOk n ws := ok
  have est := stOf_ok d
  have h6 := d.len
  have hr1 : Room 1 _ := hr.mono (by decide)
  have hr2 : Room 2 _ := hr.mono (by decide)
  have post : Post C CV H (foot t l as ts) t (Kp351.step (stOf n ws) (.fits x)).1 (ansOf (Kp351.step (stOf n ws) (.fits x)).2) Q := post
  rw [est] at post
  refine ⟨_, pss_cons (ps_if (pt_not (pt_val (pe_methD M1 T.cl hr2 (pv 0) (pa_cons (pe_ix ix_list (pv 1) pe_int (fun _ _ => rfl)) pa_nil)))) (pss_one (ps_ret (pe_lst (pa_cons (pe_con1 c.notAllowed rfl) pa_nil)))) pss_nil)
    (pss_one (ps_ret (pe_callD D1 hr1 rfl (pa_cons (pe_callD D2 hr1 rfl (pa_cons (pe_methD M2 T.cl hr (pv 0) (pa_cons (pe_ix ix_list (pv 1) pe_int (fun _ _ => rfl)) pa_nil)) pa_nil)) pa_nil)))), ?_⟩
  refine ⟨_, rfl, t, dx, _, rfl, ht, tF_no _ _ (by decide +kernel) (by decide +kernel), _, rfl, g, _, _, _, rfl, rfl, hg, at0, t, dx, l, n, x, rfl, ht, d.hi, _, rfl, ?_⟩
  refine ite_b (c' := !decide (x < 2 ^ n)) rfl (fun hno => ?_) (fun hyes => ?_)
  · have hx : ¬ x < 2 ^ n := by simpa using hno
    refine ⟨(by show 1 ≤ sizeLine; decide), fun p np => ?_⟩
    rw [st_fits_22 (by omega)] at post
    exact post.read TH est (.inr d) (same_upd np) np upd_same
  have hx : x < 2 ^ n := by simpa using hyes
  rw [st_fits d (by omega)] at post
  have h32 := pow32 d.hi
  refine ⟨_, rfl, t, dx, _, rfl, ht, tF_no _ _ (by decide +kernel) (by decide +kernel), _, rfl, g, _, _, _, rfl, rfl, hg, at0, t, l, as, ts, n, ws, x, rfl, TH, d, by omega, fun H1 s1 => ?_⟩
  refine ⟨maskM ws x, rfl, maskM_lt h6, fun H2 p np s2 hp => ?_⟩
  have hl := setOf_len6 (maskM ws x)
  rw [mask_members h6] at hp hl
  exact ⟨p, _, rfl, hp, by omega, fun H3 r nr s3 hr3 => post.read TH est (.inr d) ((s1.trans s2).trans s3) ((s1.trans s2).free nr) hr3⟩
theorem ok_shown {f : Addr} {fd : FuncData} (F : Fun K "answer_shown" "answer_shown" sShown f fd) (T : TxtT K mg C) (V' : TxtV K mg CV) (O : Own mg) (c : Cons mg) (M1 : MCallee P w K mg base C 2 "has_row" ["self", "number", "row"] (spHasRow C CV)) (M2 : MCallee P w K mg base CV 1 "has_seen" ["self", "row"] (spHasSeen CV))
    (M3 : MCallee P w K mg base C 6 "worlds_showing" ["self", "number", "row"] (spWorldsShowing C CV)) : FnOk P w K mg base CX0 7 f fd ["thing", "given"] (spStep K C CV 12) := by
  refine F.ok scShown (fun vs H Q E h => sp_len h) (fun cdv A outer s0 H vs Q E hr h => ?_)
  obtain ⟨t, g, l, as, ts, n, ws, gs, rfl, TH, ok, hg, hgf, hgs, post⟩ := h
  obtain ⟨i, k, rfl⟩ := two_of (show gs.length = 2 from hgs)
  obtain ⟨dx, ht⟩ := TH.at_
  have at0 : atI (nats [i, k]) 0 = some (.int (i : Int)) := SqL.at_ (K := K) (g := g) (gs := [i, k]) (j := 0) rfl
  have at1 : atI (nats [i, k]) 1 = some (.int (k : Int)) := SqL.at_ (K := K) (g := g) (gs := [i, k]) (j := 1) rfl
  have d : DOk n ws := ok
  have est := stOf_ok d
  have hr1 : Room 1 _ := hr.mono (by decide)
  have hr2 : Room 2 _ := hr.mono (by decide)
  have post : Post C CV H (foot t l as ts) t (Kp351.step (stOf n ws) (.shown i k)).1 (ansOf (Kp351.step (stOf n ws) (.shown i k)).2) Q := post
  rw [est] at post
  refine ⟨_, pss_cons (ps_if (pt_not (pt_val (pe_methD M1 T.cl hr2 (pv 0) (pa_cons (pe_ix ix_list (pv 1) pe_int (fun _ _ => rfl)) (pa_cons (pe_ix ix_list (pv 1) pe_int (fun _ _ => rfl)) pa_nil))))) (pss_one (ps_ret (pe_lst (pa_cons (pe_con1 c.noSuch rfl) pa_nil)))) pss_nil)
    (pss_cons (ps_if (pt_not (pt_val (pe_methD M2 V'.cl hr1 (pe_ix ix_list (pe_fld (pv 0) rfl) (pe_ix ix_list (pv 1) pe_int (fun _ _ => rfl)) (fun _ _ => rfl)) (pa_cons (pe_ix ix_list (pv 1) pe_int (fun _ _ => rfl)) pa_nil)))) (pss_one (ps_ret (pe_lst (pa_cons (pe_con1 c.nothing rfl) pa_nil)))) pss_nil)
    (pss_one (ps_ret (pe_lst (pa_cons (pe_ifExp (pt_cmpR op_gt (pe_callB call_len_seq (by rfl) O.len PySem.boot_len (pa_cons (pe_methD M3 T.cl hr (pv 0) (pa_cons (pe_ix ix_list (pv 1) pe_int (fun _ _ => rfl)) (pa_cons (pe_ix ix_list (pv 1) pe_int (fun _ _ => rfl)) pa_nil))) pa_nil)) pe_int (nomark _)) pe_int pe_int) pa_nil))))), ?_⟩
  refine ⟨_, rfl, t, dx, _, rfl, ht, tF_no _ _ (by decide +kernel) (by decide +kernel), _, rfl, g, _, _, _, rfl, rfl, hg, at0, _, rfl, g, _, _, _, rfl, rfl, hg, at1, t, l, as, ts, n, ws, i, k, rfl, TH, _, rfl, ?_⟩
  refine ite_b (c' := !rowB ws i k) rfl (fun hno => ?_) (fun hyes => ?_)
  · refine ⟨(by show 1 ≤ sizeLine; decide), fun p np => ?_⟩
    rw [eq_shown, of_row_no d (by simpa using hno)] at post
    exact post.read TH est (.inr d) (same_upd np) np upd_same
  obtain ⟨v, hv, hk⟩ := rowB_yes (show rowB ws i k = true by simpa using hyes)
  obtain ⟨a, tb, ea, etb, va⟩ := TH.get hv
  obtain ⟨dv, hda⟩ := va.at_
  have hok := (d.each v (List.mem_of_getElem? hv)).1
  obtain ⟨x, hx⟩ := get_of_lt hk
  refine ⟨_, rfl, t, C, dx, _, _, rfl, ht, T.cl, T.nV, tF_v n l, _, rfl, g, _, _, _, rfl, rfl, hg, at0, l, _, _, _, rfl, rfl, SqL.of TH.lst, atI_nat (map_ref_get ea), ?_⟩
  refine ⟨a, dv, _, rfl, hda, vF_no _ _ (by decide +kernel) (by decide +kernel), _, rfl, g, _, _, _, rfl, rfl, hg, at1, a, tb, v.1, k, v.2, x, rfl, va, hx, _, rfl, ?_⟩
  refine ite_b (c' := !decide (0 < x)) rfl (fun hno => ?_) (fun hyes => ?_)
  · have h0 : x = 0 := by simpa using hno
    subst h0
    refine ⟨(by show 1 ≤ sizeLine; decide), fun p np => ?_⟩
    rw [st_shown_33 hv hok hx] at post
    exact post.read TH est (.inr d) (same_upd np) np upd_same
  have h0 : 0 < x := by simpa using hyes
  rw [st_shown d hv hx h0] at post
  refine ⟨_, rfl, t, dx, _, rfl, ht, tF_no _ _ (by decide +kernel) (by decide +kernel), _, rfl, g, _, _, _, rfl, rfl, hg, at0, _, rfl, g, _, _, _, rfl, rfl, hg, at1, t, l, as, ts, n, ws, i, k, v, rfl, TH, d, hv, fun H1 p np s1 hp => ?_⟩
  refine ⟨p, _, rfl, .inl (SqL.of hp), _, _, rfl, rfl, _, rfl, ?_⟩
  refine ite_b (c' := shownM n ws v k) (by rw [nats_len, ← show_some]; exact dec_lt 0 _) (fun h => ?_) (fun h => ?_)
  · rw [h] at post
    exact ⟨(by show 1 ≤ sizeLine; decide), fun r nr => post.read TH est (.inr d) (s1.trans (same_upd nr)) (s1.free nr) upd_same⟩
  · rw [h] at post
    exact ⟨(by show 1 ≤ sizeLine; decide), fun r nr => post.read TH est (.inr d) (s1.trans (same_upd nr)) (s1.free nr) upd_same⟩
theorem ok_ask {f : Addr} {fd : FuncData} (F : Fun K "answer_ask" "answer_ask" sAsk f fd) (T : TxtT K mg C) (c : Cons mg) (D1 : Callee P w K mg base 1 "counted" ["found"] spCounted) (M1 : MCallee P w K mg base C 2 "has_row" ["self", "number", "row"] (spHasRow C CV))
    (M3 : MCallee P w K mg base C 6 "worlds_showing" ["self", "number", "row"] (spWorldsShowing C CV)) : FnOk P w K mg base CX0 7 f fd ["thing", "given"] (spStep K C CV 19) := by
  refine F.ok scAsk (fun vs H Q E h => sp_len h) (fun cdv A outer s0 H vs Q E hr h => ?_)
  obtain ⟨t, g, l, as, ts, n, ws, gs, rfl, TH, ok, hg, hgf, hgs, post⟩ := h
  obtain ⟨i, k, rfl⟩ := two_of (show gs.length = 2 from hgs)
  obtain ⟨dx, ht⟩ := TH.at_
  have at0 : atI (nats [i, k]) 0 = some (.int (i : Int)) := SqL.at_ (K := K) (g := g) (gs := [i, k]) (j := 0) rfl
  have at1 : atI (nats [i, k]) 1 = some (.int (k : Int)) := SqL.at_ (K := K) (g := g) (gs := [i, k]) (j := 1) rfl
  have d : DOk n ws := ok
  have est := stOf_ok d
  have hr1 : Room 1 _ := hr.mono (by decide)
  have hr2 : Room 2 _ := hr.mono (by decide)
  have post : Post C CV H (foot t l as ts) t (Kp351.step (stOf n ws) (.ask i k)).1 (ansOf (Kp351.step (stOf n ws) (.ask i k)).2) Q := post
  rw [est] at post
  refine ⟨_, pss_cons (ps_if (pt_not (pt_val (pe_methD M1 T.cl hr2 (pv 0) (pa_cons (pe_ix ix_list (pv 1) pe_int (fun _ _ => rfl)) (pa_cons (pe_ix ix_list (pv 1) pe_int (fun _ _ => rfl)) pa_nil))))) (pss_one (ps_ret (pe_lst (pa_cons (pe_con1 c.noSuch rfl) pa_nil)))) pss_nil)
    (pss_one (ps_ret (pe_callD D1 hr1 rfl (pa_cons (pe_methD M3 T.cl hr (pv 0) (pa_cons (pe_ix ix_list (pv 1) pe_int (fun _ _ => rfl)) (pa_cons (pe_ix ix_list (pv 1) pe_int (fun _ _ => rfl)) pa_nil))) pa_nil)))), ?_⟩
  refine ⟨_, rfl, t, dx, _, rfl, ht, tF_no _ _ (by decide +kernel) (by decide +kernel), _, rfl, g, _, _, _, rfl, rfl, hg, at0, _, rfl, g, _, _, _, rfl, rfl, hg, at1, t, l, as, ts, n, ws, i, k, rfl, TH, _, rfl, ?_⟩
  refine ite_b (c' := !rowB ws i k) rfl (fun hno => ?_) (fun hyes => ?_)
  · refine ⟨(by show 1 ≤ sizeLine; decide), fun p np => ?_⟩
    rw [eq_ask, of_row_no d (by simpa using hno)] at post
    exact post.read TH est (.inr d) (same_upd np) np upd_same
  obtain ⟨v, hv, hk⟩ := rowB_yes (show rowB ws i k = true by simpa using hyes)
  rw [st_ask d hv hk] at post
  refine ⟨_, rfl, t, dx, _, rfl, ht, tF_no _ _ (by decide +kernel) (by decide +kernel), _, rfl, g, _, _, _, rfl, rfl, hg, at0, _, rfl, g, _, _, _, rfl, rfl, hg, at1, t, l, as, ts, n, ws, i, k, v, rfl, TH, d, hv, fun H1 p np s1 hp => ?_⟩
  have hl := showM_len (ws := ws) (v := v) (c := k) d.hi
  exact ⟨p, _, rfl, hp, by omega, fun H2 r nr s2 hr2 => post.read TH est (.inr d) (s1.trans s2) (s1.free nr) hr2⟩
theorem ok_together {f : Addr} {fd : FuncData} (F : Fun K "answer_together" "answer_together" sTogether f fd) (T : TxtT K mg C) (O : Own mg) (c : Cons mg) (M1 : MCallee P w K mg base C 1 "all_views" ["self"] (spAllViews C)) (M2 : MCallee P w K mg base C 5 "worlds_fitting" ["self", "chosen"] (spWorldsFitting C CV)) :
    FnOk P w K mg base CX0 6 f fd ["thing", "given"] (spStep K C CV 16) := by
  refine F.ok scTogether (fun vs H Q E h => sp_len h) (fun cdv A outer s0 H vs Q E hr h => ?_)
  obtain ⟨t, g, l, as, ts, n, ws, gs, rfl, TH, ok, hg, hgf, hgs, post⟩ := h
  obtain ⟨s, rfl⟩ := one_of (show gs.length = 1 from hgs)
  obtain ⟨dx, ht⟩ := TH.at_
  have at0 : atI (nats [s]) 0 = some (.int (s : Int)) := SqL.at_ (K := K) (g := g) (gs := [s]) (j := 0) rfl
  have d : DOk n ws := ok
  have est := stOf_ok d
  have h6 := d.len
  have hr1 : Room 1 _ := hr.mono (by decide)
  have post : Post C CV H (foot t l as ts) t (Kp351.step (stOf n ws) (.together s)).1 (ansOf (Kp351.step (stOf n ws) (.together s)).2) Q := post
  rw [est] at post
  refine ⟨_, pss_cons (ps_if (pt_cmpR op_gt (pe_ix ix_list (pv 1) pe_int (fun _ _ => rfl)) (pe_methD0 M1 T.cl hr1 (pv 0)) (nomark _)) (pss_one (ps_ret (pe_lst (pa_cons (pe_con1 c.notAllowed rfl) pa_nil)))) pss_nil)
    (pss_one (ps_ret (pe_lst (pa_cons (pe_ifExp (pt_cmpR op_gt (pe_callB call_len_seq (by rfl) O.len PySem.boot_len (pa_cons (pe_methD M2 T.cl hr (pv 0) (pa_cons (pe_ix ix_list (pv 1) pe_int (fun _ _ => rfl)) pa_nil)) pa_nil)) pe_int (nomark _)) pe_int pe_int) pa_nil)))), ?_⟩
  refine ⟨_, rfl, g, _, _, _, rfl, rfl, hg, at0, _, rfl, t, dx, _, rfl, ht, tF_no _ _ (by decide +kernel) (by decide +kernel), t, dx, l, n, ws.length, _, rfl, ht, TH.lst, TH.len, h6, _, _, rfl, rfl, _, rfl, ?_⟩
  have hp2 := Nat.two_pow_pos ws.length
  refine ite_b (c' := decide (2 ^ ws.length - 1 < s)) (dec_lt _ _) (fun hno => ?_) (fun hyes => ?_)
  · have h := of_decide_eq_true hno
    refine ⟨(by show 1 ≤ sizeLine; decide), fun p np => ?_⟩
    rw [st_together_22 (by omega)] at post
    exact post.read TH est (.inr d) (same_upd np) np upd_same
  have h := of_decide_eq_false hyes
  have hs : s < 2 ^ ws.length := by omega
  rw [st_together d (by omega)] at post
  refine ⟨_, rfl, t, dx, _, rfl, ht, tF_no _ _ (by decide +kernel) (by decide +kernel), _, rfl, g, _, _, _, rfl, rfl, hg, at0, t, l, as, ts, n, ws, s, rfl, TH, d, fun H1 p np s1 hp => ?_⟩
  refine ⟨p, _, rfl, .inl (SqL.of hp), _, _, rfl, rfl, _, rfl, ?_⟩
  refine ite_b (c' := someM n ws (Kp351.setOf ws.length s)) (by rw [nats_len, ← fitW_some hs]; exact dec_lt 0 _) (fun h => ?_) (fun h => ?_)
  · rw [h] at post
    exact ⟨(by show 1 ≤ sizeLine; decide), fun r nr => post.read TH est (.inr d) (s1.trans (same_upd nr)) (s1.free nr) upd_same⟩
  · rw [h] at post
    exact ⟨(by show 1 ≤ sizeLine; decide), fun r nr => post.read TH est (.inr d) (s1.trans (same_upd nr)) (s1.free nr) upd_same⟩
theorem ok_without {f : Addr} {fd : FuncData} (F : Fun K "answer_without" "answer_without" sWithout f fd) (T : TxtT K mg C) (c : Cons mg) (D1 : Callee P w K mg base 1 "counted" ["found"] spCounted) (M1 : MCallee P w K mg base C 1 "has_view" ["self", "number"] (spHasView C)) (M2 : MCallee P w K mg base C 1 "all_views" ["self"] (spAllViews C))
    (M3 : MCallee P w K mg base C 5 "worlds_fitting" ["self", "chosen"] (spWorldsFitting C CV)) : FnOk P w K mg base CX0 6 f fd ["thing", "given"] (spStep K C CV 17) := by
  refine F.ok scWithout (fun vs H Q E h => sp_len h) (fun cdv A outer s0 H vs Q E hr h => ?_)
  obtain ⟨t, g, l, as, ts, n, ws, gs, rfl, TH, ok, hg, hgf, hgs, post⟩ := h
  obtain ⟨i, rfl⟩ := one_of (show gs.length = 1 from hgs)
  obtain ⟨dx, ht⟩ := TH.at_
  have at0 : atI (nats [i]) 0 = some (.int (i : Int)) := SqL.at_ (K := K) (g := g) (gs := [i]) (j := 0) rfl
  have d : DOk n ws := ok
  have est := stOf_ok d
  have h6 := d.len
  have hr1 : Room 1 _ := hr.mono (by decide)
  have post : Post C CV H (foot t l as ts) t (Kp351.step (stOf n ws) (.without i)).1 (ansOf (Kp351.step (stOf n ws) (.without i)).2) Q := post
  rw [est] at post
  refine ⟨_, pss_cons (ps_if (pt_not (pt_val (pe_methD M1 T.cl hr1 (pv 0) (pa_cons (pe_ix ix_list (pv 1) pe_int (fun _ _ => rfl)) pa_nil)))) (pss_one (ps_ret (pe_lst (pa_cons (pe_con1 c.noSuch rfl) pa_nil)))) pss_nil)
    (pss_one (ps_ret (pe_callD D1 hr1 rfl (pa_cons (pe_methD M3 T.cl hr (pv 0) (pa_cons (pe_op op_sub (pe_methD0 M2 T.cl hr1 (pv 0)) (pe_op op_shl pe_int (pe_ix ix_list (pv 1) pe_int (fun _ _ => rfl)))) pa_nil)) pa_nil)))), ?_⟩
  refine ⟨_, rfl, t, dx, _, rfl, ht, tF_no _ _ (by decide +kernel) (by decide +kernel), _, rfl, g, _, _, _, rfl, rfl, hg, at0, t, dx, l, n, i, _, rfl, ht, TH.lst, _, rfl, ?_⟩
  refine ite_b (c' := !decide (i < ws.length)) (by rw [TH.len]) (fun hno => ?_) (fun hyes => ?_)
  · have hi : ¬ i < ws.length := by simpa using hno
    refine ⟨(by show 1 ≤ sizeLine; decide), fun p np => ?_⟩
    rw [st_without_2 hi] at post
    exact post.read TH est (.inr d) (same_upd np) np upd_same
  have hi : i < ws.length := by simpa using hyes
  rw [st_without d hi] at post
  refine ⟨_, rfl, t, dx, _, rfl, ht, tF_no _ _ (by decide +kernel) (by decide +kernel), _, rfl, t, dx, _, rfl, ht, tF_no _ _ (by decide +kernel) (by decide +kernel), t, dx, l, n, ws.length, _, rfl, ht, TH.lst, TH.len, h6, ?_⟩
  refine ⟨_, rfl, g, _, _, _, rfl, rfl, hg, at0, _, _, rfl, rfl, ⟨by omega, by omega, by decide⟩, _, _, rfl, rfl, ?_⟩
  have hpw : 2 ^ i ≤ 2 ^ ws.length - 1 := by
    have : 2 ^ i < 2 ^ ws.length := Nat.pow_lt_pow_right (by decide) hi
    omega
  have e : ((2 ^ ws.length - 1 : Nat) : Int) - (1 * 2 ^ (i : Int).toNat) = ((2 ^ ws.length - 1 - 2 ^ i : Nat) : Int) := by
    rw [shl1]
    exact (Int.ofNat_sub hpw).symm
  refine ⟨t, l, as, ts, n, ws, 2 ^ ws.length - 1 - 2 ^ i, congrArg (fun z => [V.ref t, V.int z]) e, TH, d, fun H1 p np s1 hp => ?_⟩
  rw [fitW_but h6 hi] at hp
  have hl := worldsM_len (ws := ws.eraseIdx i) d.hi
  exact ⟨p, _, rfl, hp, by omega, fun H2 r nr s2 hr2 => post.read TH est (.inr d) (s1.trans s2) (s1.free nr) hr2⟩
end
end VT

set_option Elab.async false
set_option linter.all false
set_option maxRecDepth 100000
set_option maxHeartbeats 2000000
namespace VT
open PySem PySem.Spec PyProof.Rows L2
open PySem.W (Codec)
abbrev sLonely : Stmt := top 39
abbrev sMost : Stmt := top 42
abbrev sSure : Stmt := top 45
theorem scLonely : FnScope ["thing", "given", "fitting", "found", "number", "view", "shown", "row", "world"] ["thing", "given"] (defScope sLonely) := ⟨rfl, rfl, rfl, by decide +kernel, rfl, by decide +kernel, by decide +kernel⟩
theorem scMost : FnScope ["thing", "given", "counts", "most", "world"] ["thing", "given"] (defScope sMost) := ⟨rfl, rfl, rfl, by decide +kernel, rfl, by decide +kernel, by decide +kernel⟩
theorem scSure : FnScope ["thing", "given", "said", "world"] ["thing", "given"] (defScope sSure) := ⟨rfl, rfl, rfl, by decide +kernel, rfl, by decide +kernel, by decide +kernel⟩
theorem min_nats {l : List Nat} {m : Int} (h : m ∈ l.map (fun (x : Nat) => (x : Int))) (h2 : ∀ y, y ∈ l.map (fun (x : Nat) => (x : Int)) → m ≤ y) : ∃ k : Nat, m = (k : Int) ∧ k ∈ l ∧ ∀ y ∈ l, k ≤ y := by
  obtain ⟨k, hk, rfl⟩ := List.mem_map.mp h
  exact ⟨k, rfl, hk, fun y hy => by have := h2 _ (List.mem_map.mpr ⟨y, hy, rfl⟩); omega⟩
theorem first_ix : ∀ {L : List Nat} {k : Nat}, k ∈ L → ∃ j : Nat, L[j]? = some k ∧ ∀ (m x : Nat), m < j → L[m]? = some x → x ≠ k
  | [], k, h => nomatch h
  | y :: L, k, h => by
    by_cases e : y = k
    · subst e
      exact ⟨0, rfl, fun m x hm => absurd hm (Nat.not_lt_zero _)⟩
    · have hk : k ∈ L := by
        rcases List.mem_cons.mp h with h | h
        · exact absurd h.symm e
        · exact h
      obtain ⟨j, h1, h2⟩ := first_ix hk
      refine ⟨j + 1, h1, fun m x hm hx => ?_⟩
      cases m with
      | zero =>
        have : y = x := Option.some.inj hx
        rw [← this]
        exact e
      | succ m => exact h2 m x (by omega) hx
def lenR (K : PySem.W.Frag) : List V → Hp → VK → Prop := fun xs H Q => ∃ p ys, xs = [.ref p] ∧ (SqL K H p ys ∨ SqT K H p ys) ∧ Q (.int ys.length) H
theorem bit_nat' (s q : Nat) : Builtin.bitAnd ((s : Int) / 2 ^ (q : Int).toNat) 1 = ((bitM q s : Nat) : Int) := by
  unfold bitM
  rw [PyProof.Rows.bitAnd_m1, Int.toNat_natCast]
  simp
section
variable {P : Program} {w : World} {K : PySem.W.Frag} {mg : Str → Option Value} {base : Heap} {C CV : Addr}
theorem ok_sure {f : Addr} {fd : FuncData} (F : Fun K "answer_sure" "answer_sure" sSure f fd) (T : TxtT K mg C) (O : Own mg) (c : Cons mg) (M1 : MCallee P w K mg base C 1 "all_views" ["self"] (spAllViews C)) (M2 : MCallee P w K mg base C 5 "worlds_fitting" ["self", "chosen"] (spWorldsFitting C CV)) :
    FnOk P w K mg base CX0 6 f fd ["thing", "given"] (spStep K C CV 18) := by
  refine F.ok scSure (fun vs H Q E h => sp_len h) (fun cdv A outer s0 H vs Q E hr h => ?_)
  obtain ⟨t, g, l, as, ts, n, ws, gs, rfl, TH, ok, hg, hgf, hgs, post⟩ := h
  obtain ⟨x, rfl⟩ := one_of (show gs.length = 1 from hgs)
  obtain ⟨dx, ht⟩ := TH.at_
  have at0 : atI (nats [x]) 0 = some (.int (x : Int)) := SqL.at_ (K := K) (g := g) (gs := [x]) (j := 0) rfl
  have d : DOk n ws := ok
  have est := stOf_ok d
  have h6 := d.len
  have hr1 : Room 1 _ := hr.mono (by decide)
  have post : Post C CV H (foot t l as ts) t (Kp351.step (stOf n ws) (.sure x)).1 (ansOf (Kp351.step (stOf n ws) (.sure x)).2) Q := post
  rw [est] at post
  refine ⟨_, pss_cons (ps_if (pt_cmpR op_ge (pe_ix ix_list (pv 1) pe_int (fun _ _ => rfl)) (pe_fld (pv 0) rfl) (nomark _)) (pss_one (ps_ret (pe_lst (pa_cons (pe_con1 c.noSuch rfl) pa_nil)))) pss_nil)
    (pss_cons (ps_setLc (i := 2) (own := [("world", 3)]) (g := gName 3) (tt := tYes) rfl scSure.nd rfl rfl (sw_true rfl rfl rfl (by decide +kernel)) (pi_list (pe_methD M2 T.cl hr (pv 0) (pa_cons (pe_methD0 M1 T.cl hr1 (pv 0)) pa_nil))) (blkOk_by (N := ["thing", "given", "said", "world"]) (sc := defScope sSure) (by decide +kernel))
      (fun _ _ _ _ _ => pg_name (i := 3) scSure.nd rfl (Or.inl rfl)) (fun _ _ _ _ _ => pts_nil) (fun _ _ _ _ _ => pe_op op_and (pe_op op_shr (pv 3) (pe_ix (r := rIxL K) (by exact ix_list) (pv 1) pe_int (fun _ _ => rfl))) pe_int))
    (pss_cons (ps_if (pt_cmpR op_eq (pe_callB call_len_seq (by rfl) O.len PySem.boot_len (pa_cons (pv 2) pa_nil)) pe_int (nomark _)) (pss_one (ps_ret (pe_lst (pa_cons (pe_con1 c.nothing rfl) pa_nil)))) pss_nil)
    (pss_one (ps_ret (pe_lst (pa_cons (pe_ifExp (pt_cmpR op_eq (pe_callB (cr_min rfl) (by rfl) O.min (by decide +kernel) (pa_cons (pv 2) pa_nil)) (pe_callB (cr_max rfl) (by rfl) O.max (by decide +kernel) (pa_cons (pv 2) pa_nil)) (nomark _)) (pe_ix ix_list (pv 2) pe_int (fun _ _ => rfl)) (pe_con1 c.unsure rfl)) pa_nil)))))), ?_⟩
  refine ⟨_, rfl, g, _, _, _, rfl, rfl, hg, at0, _, rfl, t, C, dx, _, _, rfl, ht, T.cl, T.nN, tF_n n l, _, _, rfl, rfl, _, rfl, ?_⟩
  refine ite_b (c' := decide (n ≤ x)) (dec_le _ _) (fun hno => ?_) (fun hyes => ?_)
  · refine ⟨(by show 1 ≤ sizeLine; decide), fun p np => ?_⟩
    rw [st_sure_2 (of_decide_eq_true hno)] at post
    exact post.read TH est (.inr d) (same_upd np) np upd_same
  have hx := of_decide_eq_false hyes
  refine ⟨_, rfl, t, dx, _, rfl, ht, tF_no _ _ (by decide +kernel) (by decide +kernel), _, rfl, t, dx, _, rfl, ht, tF_no _ _ (by decide +kernel) (by decide +kernel), t, dx, l, n, ws.length, _, rfl, ht, TH.lst, TH.len, h6, ?_⟩
  refine ⟨t, l, as, ts, n, ws, 2 ^ ws.length - 1, rfl, TH, d, fun H1 p np s1 hp => ?_⟩
  rw [fitW_all h6] at hp
  have hl := worldsM_len (ws := ws) d.hi
  refine ⟨p, rfl, ⟨_, SqL.of hp⟩, fun D nD => ?_⟩
  have sD : Same H1 (upd H1 D (.lst [])) := same_upd nD
  refine lc_list (K := K) (a := p) (xs := nats (worldsM n ws)) (fun i H' => Same H1 H' ∧ H' D = some (.lst (nats (((worldsM n ws).take i).map (bitM x))))) ⟨sD, upd_same⟩ (fun i H' _ h => SqL.of (h.1 _ _ hp)) ?_ ?_
  · rintro j y H' hy ⟨sm, hD⟩
    obtain ⟨u, hu, rfl⟩ := nats_get hy
    refine ⟨rfl, _, rfl, _, rfl, g, _, _, _, rfl, rfl, (s1.trans sm).seq hg, at0, _, _, rfl, rfl, (by show (0 : Int) ≤ (x : Int); omega), _, _, rfl, rfl, _, hD, ?_, fun b o q => ?_, ?_⟩
    · rw [nats_len, List.length_map]
      exact small1000 (Nat.le_trans (List.length_take_le' _ _) (by omega))
    · rw [upd_ne (ne_of_none q nD)]
      exact sm b o q
    · rw [upd_same, take_snoc hu, List.map_append]
      show some (HO.lst (_ ++ [V.int (Builtin.bitAnd ((u : Int) / 2 ^ (x : Int).toNat) 1)])) = _
      rw [bit_nat', ← nats_snoc]
      rfl
  rintro H2 ⟨s2, hD⟩
  rw [nats_len, List.take_length] at hD
  have s12 := s1.trans s2
  refine ⟨_, rfl, D, _, rfl, .inl (SqL.of hD), rfl, _, rfl, ?_⟩
  refine ite_b (c' := decide ((worldsM n ws).length = 0)) (by rw [nats_len, List.length_map]; exact decI _ 0) (fun h0 => ?_) (fun h0 => ?_)
  · refine ⟨(by show 1 ≤ sizeLine; decide), fun r nr => ?_⟩
    rw [st_sure_33 d hx (List.length_eq_zero_iff.mp (of_decide_eq_true h0))] at post
    exact post.read TH est (.inr d) (s12.trans (same_upd nr)) (s12.free nr) upd_same
  have hne : worldsM n ws ≠ [] := fun e => of_decide_eq_false h0 (by rw [e]; rfl)
  obtain ⟨u, r, eu⟩ : ∃ u r, worldsM n ws = u :: r := by
    cases e : worldsM n ws with
    | nil => exact absurd e hne
    | cons u r => exact ⟨u, r, rfl⟩
  rw [st_sure d hx hne] at post
  have hI : SqL K H2 D ((((worldsM n ws).map (bitM x)).map fun (x : Nat) => (x : Int)).map V.int) := by
    rw [← nats_ints]
    exact SqL.of hD
  have hpos : 0 < (((worldsM n ws).map (bitM x)).map fun (x : Nat) => (x : Int)).length := by
    rw [List.length_map, List.length_map, eu]
    exact Nat.succ_pos _
  refine ⟨_, rfl, D, _, rfl, hI, hpos, fun m hm hle => ?_⟩
  obtain ⟨a, rfl, ha, hal⟩ := min_nats hm hle
  refine ⟨_, rfl, D, _, rfl, hI, hpos, fun m2 hm2 hle2 => ?_⟩
  obtain ⟨b, rfl, hb, hbl⟩ := max_nats hm2 hle2
  rw [sure_is eu ha hb hal hbl] at post
  refine ⟨rfl, _, rfl, ?_⟩
  refine ite_b (c' := decide (a = b)) (decI a b) (fun h => ?_) (fun h => ?_)
  · rw [if_pos (of_decide_eq_true h)] at post
    refine ⟨_, rfl, D, _, _, .int ((bitM x u : Nat) : Int), rfl, rfl, SqL.of hD, ?_, (by show 1 ≤ sizeLine; decide), fun r nr => post.read TH est (.inr d) (s12.trans (same_upd nr)) (s12.free nr) upd_same⟩
    have h00 : ((worldsM n ws).map (bitM x))[0]? = some (bitM x u) := by rw [eu]; rfl
    exact SqL.at_ (K := K) (g := D) (j := 0) h00
  · rw [if_neg (of_decide_eq_false h)] at post
    exact ⟨(by show 1 ≤ sizeLine; decide), fun r nr => post.read TH est (.inr d) (s12.trans (same_upd nr)) (s12.free nr) upd_same⟩
theorem ok_most {f : Addr} {fd : FuncData} (F : Fun K "answer_most" "answer_most" sMost f fd) (T : TxtT K mg C) (O : Own mg) (D1 : Callee P w K mg base 1 "members" ["chosen"] spMembers6) (M1 : MCallee P w K mg base C 1 "world_count" ["self"] (spWorldCount C)) (M2 : MCallee P w K mg base C 4 "views_fitted" ["self", "world"] (spViewsFitted C CV)) :
    FnOk P w K mg base CX0 5 f fd ["thing", "given"] (spStep K C CV 15) := by
  refine F.ok scMost (fun vs H Q E h => sp_len h) (fun cdv A outer s0 H vs Q E hr h => ?_)
  obtain ⟨t, g, l, as, ts, n, ws, gs, rfl, TH, ok, hg, hgf, hgs, post⟩ := h
  obtain ⟨dx, ht⟩ := TH.at_
  have d : DOk n ws := ok
  have est := stOf_ok d
  have h6 := d.len
  have h32 := pow32 d.hi
  have hr1 : Room 1 _ := hr.mono (by decide)
  have post : Post C CV H (foot t l as ts) t (Kp351.step (stOf n ws) .most).1 (ansOf (Kp351.step (stOf n ws) .most).2) Q := post
  rw [est, st_most d] at post
  refine ⟨_, pss_cons (ps_setLc (i := 2) (own := [("world", 4)]) (g := gName 4) (tt := tYes) rfl scMost.nd rfl rfl (sw_true rfl rfl rfl (by decide +kernel)) (pi_range1 rfl O.range (pa_cons (pe_methD0 M1 T.cl hr1 (pv 0)) pa_nil)) (blkOk_by (N := ["thing", "given", "counts", "most", "world"]) (sc := defScope sMost) (by decide +kernel))
      (fun _ _ _ _ _ => pg_name (i := 4) scMost.nd rfl (Or.inl rfl)) (fun _ _ _ _ _ => pts_nil) (fun _ _ _ _ _ => pe_callB (r := lenR K) (by exact call_len_seq) (by rfl) O.len PySem.boot_len (pa_cons (pe_callD D1 hr1 rfl (pa_cons (pe_methD M2 T.cl hr (pv 0) (pa_cons (pv 4) pa_nil)) pa_nil)) pa_nil)))
    (pss_cons (ps_set (i := 3) scMost.nd rfl (Or.inl rfl) (pe_callB (cr_max rfl) (by rfl) O.max (by decide +kernel) (pa_cons (pv 2) pa_nil)))
    (pss_one (ps_ret (pe_lst (pa_cons (pe_bm PySem.F.plainAttrs_list PySem.F.slot_list_index PySem.F.type_list_index mt_index (pv 2) (pa_cons (pv 3) pa_nil)) (pa_cons (pv 3) pa_nil)))))), ?_⟩
  refine ⟨_, rfl, t, dx, _, rfl, ht, tF_no _ _ (by decide +kernel) (by decide +kernel), t, dx, l, n, rfl, ht, d.hi, _, rfl, (rb (Nat.le_trans h32 (by decide))).1, (rb (Nat.le_trans h32 (by decide))).2, fun B nB => ?_⟩
  have sB : Same H (upd H B (.lst [])) := same_upd nB
  refine lc_range (lo := 0) (n := ((2 ^ n : Nat) : Int).toNat) (fun i H' => Same H H' ∧ H' B = some (.lst (nats ((List.range i).map (cntM ws))))) ⟨sB, upd_same⟩ ?_ ?_
  · rintro i H' hi ⟨sm, hB⟩
    rw [Int.toNat_natCast] at hi
    have ei : (0 + (i : Int)) = (i : Int) := by omega
    rw [ei]
    refine ⟨rfl, _, rfl, t, dx, _, rfl, sm _ _ ht, tF_no _ _ (by decide +kernel) (by decide +kernel), _, rfl, t, l, as, ts, n, ws, i, rfl, TH.same sm, d, by omega, fun H2 s2 => ?_⟩
    refine ⟨maskM ws i, rfl, maskM_lt h6, fun H3 p np s3 hp => ?_⟩
    rw [mask_members h6] at hp
    refine ⟨p, _, rfl, .inl (SqL.of hp), _, s3 _ _ (s2 _ _ hB), ?_, fun b o q => ?_, ?_⟩
    · rw [nats_len, List.length_map, List.length_range]
      exact small1000 (by omega)
    · rw [upd_ne (ne_of_none q nB)]
      exact s3 _ _ (s2 _ _ (sm b o q))
    · rw [upd_same, List.range_succ, List.map_append, nats_len, ← nats_snoc]
      rfl
  rintro H1 ⟨s1, hB⟩
  rw [Int.toNat_natCast] at hB
  have hI : SqL K H1 B ((((List.range (2 ^ n)).map (cntM ws)).map fun (x : Nat) => (x : Int)).map V.int) := by
    rw [← nats_ints]
    exact SqL.of hB
  have hpos : 0 < (((List.range (2 ^ n)).map (cntM ws)).map fun (x : Nat) => (x : Int)).length := by
    rw [List.length_map, List.length_map, List.length_range]
    exact Nat.two_pow_pos n
  refine ⟨_, rfl, B, _, rfl, hI, hpos, fun m hm hle => ?_⟩
  obtain ⟨k, rfl, hk, hkle⟩ := max_nats hm hle
  obtain ⟨j, hj, hfirst⟩ := first_ix hk
  have hget : ∀ m, m < 2 ^ n → ((List.range (2 ^ n)).map (cntM ws))[m]? = some (cntM ws m) := fun m hm => by
    rw [List.getElem?_map, List.getElem?_range hm]
    rfl
  have hjl : j < 2 ^ n := by
    have := (List.getElem?_eq_some_iff.mp hj).1
    rw [List.length_map, List.length_range] at this
    exact this
  have ek : cntM ws j = k := by
    rw [hget j hjl] at hj
    exact Option.some.inj hj
  have em : mostAt ws (2 ^ n) = j := mostAt_is ws hjl
    (fun y hy => by rw [ek]; exact hkle _ (List.mem_of_getElem? (hget y hy)))
    (fun y hy => by
      have h1 := hkle _ (List.mem_of_getElem? (hget y (by omega)))
      have h2 := hfirst y _ hy (hget y (by omega))
      omega)
  rw [em, ek] at post
  refine ⟨_, rfl, .inl ⟨rfl, _, SqL.of hB⟩, _, rfl, B, _, _, j, _, rfl, rfl, SqL.of hB, rfl, flat_nats _, nats_at hj, ?_, fun m z hm hz => ?_, _, rfl, (by show 2 ≤ sizeLine; decide), fun r nr => post.read TH est (.inr d) (s1.trans (same_upd nr)) (s1.free nr) upd_same⟩
  · exact (beq_cast k k).trans (beq_self_eq_true k)
  · obtain ⟨y, hy, rfl⟩ := nats_get hz
    exact (beq_cast y k).trans (beq_eq_false_iff_ne.mpr (hfirst m y hm hy))
theorem ok_lonely {f f1 : Addr} {fd fd1 : FuncData} (F : Fun K "answer_lonely" "answer_lonely" sLonely f fd) (T : TxtT K mg C) (V' : TxtV K mg CV) (O : Own mg) (M1 : MCallee P w K mg base C 1 "all_views" ["self"] (spAllViews C)) (M2 : MCallee P w K mg base C 5 "worlds_fitting" ["self", "chosen"] (spWorldsFitting C CV))
    (M3 : MCallee P w K mg base CV 1 "has_seen" ["self", "row"] (spHasSeen CV)) (D1 : Def K mg "row_of" "row_of" sRowOf ["world", "questions"] f1 fd1) (G1 : FnOk P w K mg base CX0 2 f1 fd1 ["world", "questions"] spRowOf) : FnOk P w K mg base CX0 6 f fd ["thing", "given"] (spStep K C CV 13) := by
  refine F.ok scLonely (fun vs H Q E h => sp_len h) (fun cdv A outer s0 H vs Q E hr h => ?_)
  obtain ⟨t, g, l, as, ts, n, ws, gs, rfl, TH, ok, hg, hgf, hgs, post⟩ := h
  obtain ⟨dx, ht⟩ := TH.at_
  have d : DOk n ws := ok
  have est := stOf_ok d
  have h6 := d.len
  have h8 : ∀ v ∈ ws, v.2.length ≤ 8 := fun v hv => (d.each v hv).1.len8
  have hr1 : Room 1 _ := hr.mono (by decide)
  have hr2 : Room 2 _ := hr.mono (by decide)
  have post : Post C CV H (foot t l as ts) t (Kp351.step (stOf n ws) .lonely).1 (ansOf (Kp351.step (stOf n ws) .lonely).2) Q := post
  rw [est, (st_lonely d).1, (st_lonely d).2] at post
  refine ⟨_, pss_cons (ps_set (i := 2) scLonely.nd rfl (Or.inl rfl) (pe_methD M2 T.cl hr (pv 0) (pa_cons (pe_methD0 M1 T.cl hr1 (pv 0)) pa_nil)))
    (pss_cons (ps_set (i := 3) scLonely.nd rfl (Or.inl rfl) (pe_lst pa_nil))
    (pss_cons (ps_for PassesOwn.never rfl (pi_enum (by rfl) O.enumerate (pa_cons (pe_fld (pv 0) rfl) pa_nil))
        (pg_tup rfl (pgs_cons (pg_name (i := 4) scLonely.nd rfl (.inl rfl)) (pgs_cons (pg_name (i := 5) scLonely.nd rfl (.inr rfl)) pgs_nil)))
      (pss_cons (ps_setLc (i := 6) (own := [("world", 8)]) (g := gName 8) (tt := tYes) (te := tCall spRowOf [] E0 (tCons (tVar 8) (tCons (tFld K (tVar 5) "questions") tNil))) rfl scLonely.nd rfl rfl (sw_true rfl rfl rfl (by decide +kernel)) (pi_list (pv 2)) (blkOk_by (N := ["thing", "given", "fitting", "found", "number", "view", "shown", "row", "world"]) (sc := defScope sLonely) (by decide +kernel))
          (fun _ _ _ _ _ => pg_name (i := 8) scLonely.nd rfl (Or.inl rfl)) (fun _ _ _ _ _ => pts_nil) (fun _ _ _ _ _ => pe_call G1 hr2 rfl D1.g D1.fn.kp D1.b .nil pass0 (pa_cons (pv 8) (pa_cons (by exact pe_fld (pv 5) rfl) pa_nil))))
      (pss_one (ps_for PassesOwn.never rfl (pi_range1 rfl O.range (pa_cons (pe_callB call_len_seq (by rfl) O.len PySem.boot_len (pa_cons (pe_fld (pv 5) rfl) pa_nil)) pa_nil)) (pg_name (i := 7) scLonely.nd rfl (Or.inl rfl))
        (pss_one (ps_if (PW.pt (pw_and (pt_val (pe_methD M3 V'.cl hr1 (pv 5) (pa_cons (pv 7) pa_nil))) (pw_and1 (pt_cmpR op_notIn_seq (pv 7) (pv 6) (by rfl)))))
          (pss_one (ps_expr (pe_bm PySem.F.plainAttrs_list PySem.F.slot_list_extend PySem.F.type_list_extend mt_extend (pv 3) (pa_cons (pe_lst (pa_cons (pv 4) (pa_cons (pv 7) pa_nil))) pa_nil)))) pss_nil))))))
    (pss_one (ps_ret (pe_op op_cat (pe_lst (pa_cons (pe_op op_fdiv (pe_callB call_len_seq (by rfl) O.len PySem.boot_len (pa_cons (pv 3) pa_nil)) pe_int) pa_nil)) (pv 3)))))), ?_⟩
  -- fitting
  refine ⟨_, rfl, t, dx, _, rfl, ht, tF_no _ _ (by decide +kernel) (by decide +kernel), _, rfl, t, dx, _, rfl, ht, tF_no _ _ (by decide +kernel) (by decide +kernel), t, dx, l, n, ws.length, _, rfl, ht, TH.lst, TH.len, h6, ?_⟩
  refine ⟨t, l, as, ts, n, ws, 2 ^ ws.length - 1, rfl, TH, d, fun H1 p np s1 hp => ?_⟩
  rw [fitW_all h6] at hp
  have hwl := worldsM_len (ws := ws) d.hi
  -- found = []
  refine ⟨Nat.zero_le _, fun D nD => ?_⟩
  have sD : Same H1 (upd H1 D (.lst [])) := same_upd nD
  have nD0 : H D = none := s1.free nD
  have s1D := s1.trans sD
  refine ⟨_, rfl, t, C, dx, _, _, rfl, s1D _ _ ht, T.cl, T.nV, tF_v n l, l, _, rfl, SqL.of (s1D _ _ TH.lst), for_it (walk_enum (xs := as.map V.ref)) (fun i σ H' => Same H1 H' ∧ H' D = some (.lst (nats (flat2 (lonUp n ws i)))) ∧ ∃ v4 v5 v6 v7, σ = [some (.ref t), some (.ref g), some (.ref p), some (.ref D), v4, v5, v6, v7, none])
    ⟨sD, upd_same, none, none, none, none, rfl⟩ (fun i σ H' _ h => SqL.of (h.1 _ _ (s1 _ _ TH.lst))) ?_ ?_⟩
  · rintro i y σ H2 H3 hi ⟨s2, hD, v4, v5, v6, v7, rfl⟩ ⟨T1, a1, a2, rfl, nT, rfl, e1, e2⟩
    obtain rfl := (Option.some.inj e1)
    obtain ⟨a, ea, rfl⟩ := ref_get e2
    have sT := same_upd (o := .tup [.int (i : Nat), .ref a]) nT
    have s3 := s2.trans sT
    obtain ⟨v, hv⟩ := get_of_lt (l := ws) (i := i) (by rw [← TH.la]; exact (List.getElem?_eq_some_iff.mp ea).1)
    obtain ⟨a', tb, ea', etb, va⟩ := TH.get hv
    rw [ea] at ea'
    cases ea'
    obtain ⟨dv, hda⟩ := va.at_
    have hok := (d.each v (List.mem_of_getElem? hv)).1
    have hl8 := hok.len8
    have hil : i < ws.length := (List.getElem?_eq_some_iff.mp hv).1
    refine ⟨T1, _, rfl, SqT.of upd_same, rfl, _, _, rfl, _, _, rfl, rfl, ?_⟩
    -- shown = [row_of(world, view.questions) for world in fitting]
    refine ⟨_, rfl, p, rfl, ⟨_, SqL.of (s3 _ _ hp)⟩, fun Z nZ => ?_⟩
    have nZ2 : H2 Z = none := sT.free nZ
    refine lc_list (K := K) (a := p) (xs := nats (worldsM n ws)) (fun j H' => Same H2 H' ∧ H' Z = some (.lst (nats (((worldsM n ws).take j).map fun x => rowM x (bits v.1))))) ⟨sT.trans (same_upd nZ), upd_same⟩ (fun j H' _ h => SqL.of (h.1 _ _ (s2 _ _ hp))) ?_ ?_
    · rintro j y H' hy ⟨sm, hZ⟩
      obtain ⟨x, hx, rfl⟩ := nats_get hy
      have hda' := sm _ _ (s2 _ _ (s1 _ _ hda))
      refine ⟨rfl, _, rfl, _, rfl, a, CV, dv, _, _, rfl, hda', V'.cl, V'.nQ, vF_q _ _, x, v.1, rfl, hok.lt, fun H4 s4 => ?_⟩
      refine ⟨_, s4 _ _ hZ, ?_, fun b o q => ?_, ?_⟩
      · rw [nats_len, List.length_map]
        exact small1000 (Nat.le_trans (List.length_take_le' _ _) (by omega))
      · rw [upd_ne (ne_of_none q nZ2)]
        exact s4 _ _ (sm b o q)
      · rw [upd_same, take_snoc hx, List.map_append, ← nats_snoc]
        rfl
    rintro H4 ⟨s4, hZ⟩
    rw [nats_len, List.take_length] at hZ
    have s24 : Same H1 H4 := s2.trans s4
    have hda4 := s24 _ _ (s1 _ _ hda)
    have va4 := va.same (s1.trans s24)
    refine ⟨_, rfl, a, CV, dv, _, _, rfl, hda4, V'.cl, V'.nT, vF_t _ _, tb, _, rfl, .inl (SqL.of va4.tb), _, rfl, ?_, ?_, ?_⟩
    · rw [nats_len]
      exact (rb (by omega)).1
    · rw [nats_len]
      exact (rb (by omega)).2
    have hnZD : Z ≠ D := (ne_of_none hD nZ2).symm
    have s14 := s1.trans s24
    refine for_range (lo := 0) (n := (((nats v.2).length : Nat) : Int).toNat) (fun c σ H' => Same H1 H' ∧ (∀ b o, H4 b = some o → b ≠ D → H' b = some o) ∧ H' D = some (.lst (nats (flat2 (lonAt n ws v i c)))) ∧ ∃ v7, σ = [some (.ref t), some (.ref g), some (.ref p), some (.ref D), some (.int (i : Nat)), some (.ref a), some (.ref Z), v7, none])
      ⟨s24, fun _ _ e _ => e, by rw [lonAt_zero]; exact s4 _ _ hD, _, rfl⟩ ?_ ?_
    · rintro c σ H5 hc ⟨s5, kp5, hD5, v7', rfl⟩
      rw [Int.toNat_natCast, nats_len] at hc
      have ei : (0 + (c : Int)) = (c : Int) := by omega
      rw [ei]
      obtain ⟨x, hx⟩ := get_of_lt hc
      have va5 := va.same (s1.trans s5)
      have hZ5 := kp5 _ _ hZ hnZD
      refine ⟨_, rfl, a, dv, _, rfl, s5 _ _ (s1 _ _ hda), vF_no _ _ (by decide +kernel) (by decide +kernel), _, rfl, a, tb, v.1, c, v.2, x, rfl, va5, hx, _, rfl, ?_⟩
      have hgd : v.2.getD c 0 = x := by
        rw [List.getD_eq_getElem?_getD, hx]
        rfl
      have no : lonB n ws v c = false → _ := fun h => (show Same H1 H5 ∧ (∀ b o, H4 b = some o → b ≠ D → H5 b = some o) ∧ H5 D = some (.lst (nats (flat2 (lonAt n ws v i (c + 1))))) ∧ ∃ v7, [some (V.ref t), some (.ref g), some (.ref p), some (.ref D), some (.int (i : Nat)), some (.ref a), some (.ref Z), some (.int (c : Int)), none] = [some (.ref t), some (.ref g), some (.ref p), some (.ref D), some (.int (i : Nat)), some (.ref a), some (.ref Z), v7, none] from
        ⟨s5, kp5, by rw [lonAt_no h]; exact hD5, _, rfl⟩)
      refine ite_b (c' := decide (0 < x)) rfl (fun h0 => ?seen) (fun h0 => ?unseen)
      case unseen =>
        refine iteF (no ?_)
        unfold lonB
        rw [hgd, h0]
        rfl
      refine ⟨_, rfl, _, rfl, Z, _, rfl, .inl (SqL.of hZ5), rfl, flat_nats _, _, rfl, ?_⟩
      have esh : inV (.int (c : Int)) (nats ((worldsM n ws).map fun x => rowM x (bits v.1))) = shownM n ws v c := by
        rw [in_nats, List.any_map]
        rfl
      refine ite_b (c' := !shownM n ws v c) (by rw [if_pos rfl, esh]) (fun h1 => ?_) (fun h1 => ?_)
      · have hb : lonB n ws v c = true := by
          unfold lonB
          rw [hgd, h0, h1]
          rfl
        refine ⟨_, rfl, .inl ⟨rfl, _, SqL.of hD5⟩, _, rfl, _, rfl, (by show 2 ≤ sizeLine; decide), fun r nr => ?_⟩
        have sr := same_upd (o := .lst [.int (i : Nat), .int (c : Int)]) nr
        refine ⟨D, r, _, _, rfl, rfl, sr _ _ hD5, upd_same, ?_, ?_⟩
        · have hle := lonAt_len (n := n) (v := v) h8 (i := i) (c := c) (by omega) h6 (by omega)
          rw [nats_len, flat2_len]
          exact Nat.le_of_lt (small1000 (by show 2 * (lonAt n ws v i c).length + 2 ≤ 1000; omega))
        · refine ⟨fun b o e => ?_, fun b o e hb => ?_, ?_, _, rfl⟩
          · rw [upd_ne (ne_of_none e nD)]
            exact sr _ _ (s5 _ _ e)
          · rw [upd_ne hb]
            exact sr _ _ (kp5 _ _ e hb)
          · rw [upd_same, lonAt_yes hb, flat2_snoc]
            unfold nats
            rw [List.map_append]
            rfl
      · refine no ?_
        unfold lonB
        rw [h1, Bool.and_false]
    · rintro σ H5 ⟨s5, kp5, hD5, v7', rfl⟩
      rw [Int.toNat_natCast, nats_len, lonAt_all hv] at hD5
      exact ⟨s5, hD5, _, _, _, _, rfl⟩
  · rintro σ H2 ⟨s2, hD, v4, v5, v6, v7, rfl⟩
    rw [TH.len, lonUp_all] at hD
    have hle := lonUp_len (n := n) (ws := ws) h8 ws.length (Nat.le_refl _)
    rw [lonUp_all] at hle
    have s12 := s1.trans s2
    refine ⟨_, rfl, D, _, rfl, .inl (SqL.of hD), _, _, rfl, rfl, ⟨by decide, by decide⟩, (by show 1 ≤ sizeLine; decide), fun q nq => ?_⟩
    have sq := same_upd (o := .lst [.int ((((nats (flat2 (lonelyM n ws))).length : Nat) : Int) / 2)]) nq
    refine ⟨_, rfl, q, D, _, _, rfl, rfl, upd_same, sq _ _ hD, ?_, fun r nr => ?_⟩
    · rw [nats_len, flat2_len]
      exact Nat.le_of_lt (small1000 (by show 1 + 2 * (lonelyM n ws).length ≤ 1000; omega))
    · have s3 := s12.trans sq
      refine post.read TH est (.inr d) (s3.trans (same_upd nr)) (s3.free nr) ?_
      rw [upd_same, nats_len, flat2_len]
      have e2 : (((2 * (lonelyM n ws).length : Nat) : Int) / 2) = (((lonelyM n ws).length : Nat) : Int) := by omega
      show some (HO.lst (V.int (((2 * (lonelyM n ws).length : Nat) : Int) / 2) :: nats (flat2 (lonelyM n ws)))) = some (HO.lst ((lonelyA (lonelyM n ws)).map V.int))
      unfold lonelyA
      rw [e2, lonelyA_is, nats_ints]
      rfl
end
end VT

set_option Elab.async false
set_option linter.all false
set_option maxRecDepth 100000
set_option maxHeartbeats 2000000
namespace VT
open PySem PySem.Spec PyProof.Rows L2
open PySem.W (Codec)
/-! ### min(x, key=f), where what is known of the best key so far and of the heap is said by one predicate -/
/-- J none: ahead of the first key; J (some (b, k)): k is the key of item b, the best so far -/
structure BestRun (prog : Program) (w : World) (A : Around) (f : Value) (S : Addr) (wr : List Addr) (G : Array GenState → Array GenState → Prop) (n : Nat) (P : Nat → Value → Prop) (St : Nat → Shared → Prop) (J : Option (Nat × Value) → Shared → Prop) (bt : Nat → Nat → Bool) : Prop where
  kept : ∀ o s t, J o s → Moved (S :: wr) G s t → J o t
  goes : ∀ o i v (s : Shared) ob (Q E : Value → Shared → Prop), i < n → P i v → J o s → St (i + 1) s → s.heap.get? S = some ob →
    (∀ k t, J o t → J (some (i, k)) t → (∀ b kb, o = some (b, kb) → PySem.SeqAt.RcLt A t k kb (bt i b)) → St (i + 1) t → t.heap.get? S = some ob → Q k t) → wpAny (model prog w) A (call f [v]) Q E s
section
variable {prog : Program} {w : World} {A : Around} {R : Result → Shared → Prop} {I S q : Addr} {fp wr : List Addr} {G : Array GenState → Array GenState → Prop} {n : Nat} {P : Nat → Value → Prop} {St : Nat → Shared → Prop} {J : Option (Nat × Value) → Shared → Prop} {bt : Nat → Nat → Bool} {kw : List (Str × Value)}
def lsO (xs : Array Value) (c : Nat) : Obj := { cls := .type "list", dict := none, data := .seq xs c, slots := #[] }
theorem put_moved (W : WalksS prog w A I fp wr G n P St) (s : Shared) (xs : Array Value) : Moved (S :: wr) G s { s with heap := s.heap.update S (Obj.mapSeq fun _ => xs), toks := s.toks } := by
  refine (Moved.refl W.grefl).then_heap (tk := s.toks) (Nat.le_refl _) fun b o hb e => ?_
  have hne : S ≠ b := by
    rintro rfl
    exact hb (List.mem_cons_self ..)
  rw [Heap.get?_update_other _ _ hne]
  exact e
theorem put_stays (W : WalksS prog w A I fp wr G n P St) (hS : S ∉ fp) {i : Nat} {s : Shared} (h : St i s) (xs : Array Value) : St i { s with heap := s.heap.update S (Obj.mapSeq fun _ => xs), toks := s.toks } := by
  refine W.frame i s _ s.toks h (Nat.le_refl _) fun b hb o e => ?_
  have hne : S ≠ b := by
    rintro rfl
    exact hS hb
  rw [Heap.get?_update_other _ _ hne]
  exact e
theorem min_loop_name : (toString "min" ++ toString ".loop" : String) = "min.loop" := by decide
theorem best_rest (W : WalksS prog w A.in1 I fp wr G n P St) (hS : S ∉ fp) (B : BestRun prog w A.in1 (.ref q) S wr G n P St J bt)
    (fin : ∀ v t k, P (argBest bt (n - 1)) v → J (some (argBest bt (n - 1), k)) t → R (.ok (.ret v)) t) :
    ∀ (r i : Nat) (s : Shared) (vb kb : Value) (c : Nat), i + 1 + r = n → J (some (argBest bt i, kb)) s → St (i + 1) s → P (argBest bt i) vb → s.heap.get? S = some (lsO #[vb, kb] c) →
      codeAny (model prog w) A (.builtin "min.loop" ⟨[.ref I, .ref q, .ref S], kw⟩) R s
  | 0, i, s, vb, kb, c, e, j, st, pb, hs => by
    have en : i + 1 = n := e
    have ei : n - 1 = i := by omega
    rw [ei] at fin
    refine codeAny_builtin F.entry_min_loop ?_
    rw [Around.under_plainId F.plain_min_loop _]
    refine wpAny_bind (m := seqItems? (.ref S)) (wpAny_seqItems hs rfl ?_)
    refine wpAny_bind (m := tryCatch (pyNext (.ref I)) _) (wpAny_tryCatch (W.done s _ _ (by rw [← en]; exact st) fun t mv => ?_))
    have hs2 := mv.heap S _ (fun z => hS (W.sub _ z)) hs
    refine wpAny_bind (m := updateSeq S (fun _ => #[])) (wpAny_updateSeq hs2 rfl (wpAny_bind (wpAny_letGo (wpAny_pure ?_))))
    exact fin vb _ kb pb (B.kept _ _ _ (B.kept _ _ _ j (mv.mono fun b hb => List.mem_cons_of_mem S hb)) (put_moved W t #[]))
  | r + 1, i, s, vb, kb, c, e, j, st, pb, hs => by
    have hlt : i + 1 < n := by omega
    refine codeAny_builtin F.entry_min_loop ?_
    rw [Around.under_plainId F.plain_min_loop _]
    refine wpAny_bind (m := seqItems? (.ref S)) (wpAny_seqItems hs rfl ?_)
    refine wpAny_bind (m := tryCatch (pyNext (.ref I)) _) (wpAny_tryCatch (W.item (i + 1) s _ _ hlt st fun v t pv st2 mv => ?_))
    have hs2 := mv.heap S _ (fun z => hS (W.sub _ z)) hs
    have j2 := B.kept _ _ _ j (mv.mono fun b hb => List.mem_cons_of_mem S hb)
    refine wpAny_bind (m := tryCatch (holding [v] (call (.ref q) [v])) _) (wpAny_tryCatch (wpAny_holding (B.goes _ (i + 1) v t _ _ _ hlt pv j2 st2 hs2 fun k t2 j3 j4 lt st3 hs3 => ?_)))
    refine wpAny_bind (m := tryCatch (holding [v, k] (richCompare .Lt k kb >>= _)) _) (wpAny_tryCatch (wpAny_holding (wpAny_bind (lt _ _ rfl prog w _ _ ?_))))
    refine wpAny_bind (wpAny_holding (wpAny_truthy_bool (wpAny_bind (wpAny_letGo (wpAny_pure ?_)))))
    cases hb : bt (i + 1) (argBest bt i) with
    | true =>
      have eb : argBest bt (i + 1) = i + 1 := if_pos hb
      rw [if_pos rfl]
      refine wpAny_bind (wpAny_updateSeq hs3 rfl (wpAny_bind (wpAny_letGo ?_)))
      rw [min_loop_name]
      exact wpAny_pure ⟨plainId_quiet F.plain_min_loop _, best_rest W hS B fin r (i + 1) _ v k _ (by omega) (by rw [eb]; exact B.kept _ _ _ j4 (put_moved W t2 #[v, k])) (put_stays W hS st3 #[v, k]) (by rw [eb]; exact pv) (Heap.get?_update_self _ hs3 rfl)⟩
    | false =>
      have eb : argBest bt (i + 1) = argBest bt i := if_neg (by rw [hb]; exact Bool.false_ne_true)
      rw [if_neg Bool.false_ne_true]
      refine wpAny_bind (wpAny_letGo ?_)
      rw [min_loop_name]
      exact wpAny_pure ⟨plainId_quiet F.plain_min_loop _, best_rest W hS B fin r (i + 1) t2 vb kb c (by omega) (by rw [eb]; exact j3) st3 (by rw [eb]; exact pb) hs3⟩
theorem best_first (W : WalksS prog w A.in1 I fp wr G n P St) (hS : S ∉ fp) (B : BestRun prog w A.in1 (.ref q) S wr G n P St J bt) (hn : 0 < n)
    (fin : ∀ v t k, P (argBest bt (n - 1)) v → J (some (argBest bt (n - 1), k)) t → R (.ok (.ret v)) t) {s : Shared} {c : Nat} (j : J none s) (st : St 0 s) (hs : s.heap.get? S = some (lsO #[] c)) :
    codeAny (model prog w) A (.builtin "min.loop" ⟨[.ref I, .ref q, .ref S], kw⟩) R s := by
  refine codeAny_builtin F.entry_min_loop ?_
  rw [Around.under_plainId F.plain_min_loop _]
  refine wpAny_bind (m := seqItems? (.ref S)) (wpAny_seqItems hs rfl ?_)
  refine wpAny_bind (m := tryCatch (pyNext (.ref I)) _) (wpAny_tryCatch (W.item 0 s _ _ hn st fun v t pv st2 mv => ?_))
  have hs2 := mv.heap S _ (fun z => hS (W.sub _ z)) hs
  have j2 := B.kept _ _ _ j (mv.mono fun b hb => List.mem_cons_of_mem S hb)
  refine wpAny_bind (m := tryCatch (holding [v] (call (.ref q) [v])) _) (wpAny_tryCatch (wpAny_holding (B.goes _ 0 v t _ _ _ hn pv j2 st2 hs2 fun k t2 j3 j4 lt st3 hs3 => ?_)))
  refine wpAny_bind (m := updateSeq S (fun _ => #[v, k])) (wpAny_updateSeq hs3 rfl ?_)
  rw [min_loop_name]
  exact wpAny_pure ⟨plainId_quiet F.plain_min_loop _, best_rest W hS B fin (n - 1) 0 _ v k _ (by omega) (B.kept _ _ _ j4 (put_moved W t2 #[v, k])) (put_stays W hS st3 #[v, k]) pv (Heap.get?_update_self _ hs3 rfl)⟩
/-- min(l, key=f) of a list -/
theorem min_key {l : Addr} {vs : Array Value} {s : Shared} {Q E : Value → Shared → Prop} (hh : A.handled = none) (hl : s.heap.IsList l vs) (hn : 0 < vs.size)
    (h : ∀ s2 : Shared, s2 = { s with heap := s.heap.push { cls := .type "list_iterator", data := .fields #[.ref l, .int 0 0] } } → ∃ J bt,
      BestRun prog w A.in1 (.ref q) s2.heap.objs.size [s.heap.objs.size] (fun a b => b = a) vs.size (fun i v => vs[i]? = some v) (fun i t => t.heap.IsListIter s.heap.objs.size l i ∧ t.heap.IsList l vs) J bt ∧ J none s2 ∧
      ∀ v t k, vs[argBest bt (vs.size - 1)]? = some v → J (some (argBest bt (vs.size - 1), k)) t → Q v t) :
    wpAny (model prog w) A (call (.builtin "min") [.ref l] [(Str.ofString "key", .ref q)]) Q E s := by
  refine PyProof.Rows.kmk_tree F.kind_min F.plain_min F.entry_min (PyProof.Rows.kmk_min_key _ _) ?_
  refine wpAny_bind (m := Builtin.Builtins.bindParams "min" ["key", "default"] 0 ⟨[], [(Str.ofString "key", .ref q)]⟩) (wpAny_of_eq (a := [some (.ref q), none]) rfl (wpAny_bind (wpAny_pure ?_)))
  refine wpAny_bind (PySem.W.iter_listW (A := A.in1) hh hl fun s2 e2 W st hfp _ hk => ?_)
  obtain ⟨J, bt, B, j, fin⟩ := h s2 e2
  refine wpAny_bind (wpAny_newObj_type ?_)
  rw [min_loop_name]
  have hS : s2.heap.objs.size ∉ [s.heap.objs.size, l] := fun z => Nat.lt_irrefl _ (hfp _ z)
  have mv : Moved (s2.heap.objs.size :: [s.heap.objs.size]) (fun a b => b = a) s2 { s2 with heap := s2.heap.push { cls := .type "list", data := .seq #[] 0 }, toks := s2.toks } :=
    ⟨fun b o _ e => Heap.get?_push_of_some _ e, rfl, rfl, rfl, Nat.le_refl _⟩
  have st2 := W.frame 0 s2 (s2.heap.push { cls := .type "list", data := .seq #[] 0 }) s2.toks st (Nat.le_refl _) fun b _ o e => Heap.get?_push_of_some _ e
  exact wpAny_pure ⟨plainId_quiet F.plain_min_loop _, best_first W hS B hn fin (B.kept _ _ _ j mv) st2 (Heap.get?_push_size _ rfl)⟩
end
end VT

set_option Elab.async false
set_option linter.all false
set_option maxRecDepth 100000
set_option maxHeartbeats 2000000
namespace VT
open PySem PySem.Spec PyProof.Rows L2
open PySem.W (Codec)
abbrev sSize : Stmt := top 40
abbrev sFewest : Stmt := top 41
theorem scSize : FnScope ["views"] ["views"] (defScope sSize) := ⟨rfl, rfl, rfl, by decide +kernel, rfl, by decide +kernel, by decide +kernel⟩
theorem scFewest : FnScope ["thing", "given", "apart"] ["thing", "given"] (defScope sFewest) := ⟨rfl, rfl, rfl, by decide +kernel, rfl, by decide +kernel, by decide +kernel⟩
def spSize : Sp := fun vs H Q _ => ∃ (a : Addr) (ns : List Nat), vs = [.ref a] ∧ H a = some (.lst (nats ns)) ∧ ∀ p, H p = none → Q (.ref p) (upd H p (.tup [.int (ns.length : Int), .ref a]))
/-! ### the key as a datum, and its order -/
def intsD (l : List Nat) : List PyData := l.map fun (x : Nat) => PyData.int (x : Int)
def keyD (l : List Nat) : PyData := .tuple [.int (l.length : Int), .list (intsD l)]
theorem eqv_intsD : ∀ l m : List Nat, PyData.eqvAll (intsD l) (intsD m) = decide (l = m)
  | [], [] => rfl
  | [], _ :: _ => rfl
  | _ :: _, [] => rfl
  | x :: l, y :: m => by
    show (((x : Int) == (y : Int)) && PyData.eqvAll (intsD l) (intsD m)) = _
    rw [eqv_intsD l m, beq_cast]
    by_cases h1 : x = y
    · subst h1
      by_cases h2 : l = m
      · subst h2
        simp
      · rw [decide_eq_false h2, decide_eq_false (fun e => h2 (List.cons.inj e).2), Bool.and_false]
    · rw [beq_eq_false_iff_ne.mpr h1, decide_eq_false (fun e => h1 (List.cons.inj e).1), Bool.false_and]
theorem alike_intsD : ∀ l m : List Nat, PySem.W.alikeAll (intsD l) (intsD m) = true
  | [], [] => by unfold PySem.W.alikeAll; rfl
  | [], _ :: _ => by unfold PySem.W.alikeAll; rfl
  | _ :: _, [] => by unfold PySem.W.alikeAll; rfl
  | x :: l, y :: m => by
    show PySem.W.alikeAll (.int (x : Int) :: intsD l) (.int (y : Int) :: intsD m) = true
    rw [PySem.W.alikeAll, alike_intsD l m, PySem.W.alike]
    rfl
theorem depth_intsD : ∀ l : List Nat, PyData.depthAll (intsD l) = 0
  | [] => rfl
  | x :: l => by
    show max 0 (PyData.depthAll (intsD l)) = 0
    rw [depth_intsD l]
    rfl
theorem depth_keyD (l : List Nat) : (keyD l).depth = 2 := by
  show max 0 (max (PyData.depthAll (intsD l) + 1) 0) + 1 = 2
  rw [depth_intsD l]
  rfl
theorem alike_keyD (l m : List Nat) : PySem.W.alike (keyD l) (keyD m) = true := by
  unfold keyD
  rw [PySem.W.alike, PySem.W.alikeAll, PySem.W.alike, PySem.W.alikeAll, PySem.W.alike, alike_intsD, PySem.W.alikeAll]
  rfl
theorem lex_nil : PyProof.Rows.lexLt PyProof.Rows.itemOrd (PySem.W.keyToksAll []) (PySem.W.keyToksAll []) = false := by
  rw [PySem.W.keyToksAll]
  rfl
theorem lt_intsD : ∀ l m : List Nat, l.length = m.length → PyProof.Rows.lexLt PyProof.Rows.itemOrd (PySem.W.keyToksAll (intsD l)) (PySem.W.keyToksAll (intsD m)) = Kp351.ahead l m
  | [], [], _ => lex_nil
  | [], _ :: _, h => nomatch h
  | _ :: _, [], h => nomatch h
  | x :: l, y :: m, h => by
    have hal : PySem.W.alike (.int (x : Int)) (.int (y : Int)) = true := by rw [PySem.W.alike]
    have he : PyData.eqv (.int (x : Int)) (.int (y : Int)) = (x == y) := beq_cast x y
    show PyProof.Rows.lexLt PyProof.Rows.itemOrd (PySem.W.keyToksAll (.int (x : Int) :: intsD l)) (PySem.W.keyToksAll (.int (y : Int) :: intsD m)) = (decide (x < y) || (x == y && Kp351.ahead l m))
    by_cases e : x = y
    · subst e
      rw [PySem.W.dataLt_all_yes hal (he.trans (beq_self_eq_true x)), lt_intsD l m (Nat.succ.inj h), decide_eq_false (Nat.lt_irrefl x), beq_self_eq_true x]
      rfl
    · rw [PySem.W.dataLt_all_no hal (he.trans (beq_eq_false_iff_ne.mpr e)), PySem.W.dataLt_int, dec_lt, beq_eq_false_iff_ne.mpr e, Bool.false_and, Bool.or_false]
theorem lt_keyD (l m : List Nat) : PySem.W.dataLt (keyD l) (keyD m) = decide (ltS l m) := by
  unfold keyD
  rw [PySem.W.dataLt_tuple]
  have hal : PySem.W.alike (.int (l.length : Int)) (.int (m.length : Int)) = true := by rw [PySem.W.alike]
  have he : PyData.eqv (.int (l.length : Int)) (.int (m.length : Int)) = (l.length == m.length) := beq_cast _ _
  by_cases e : l.length = m.length
  · rw [PySem.W.dataLt_all_yes hal (he.trans (beq_iff_eq.mpr e))]
    have hal2 : PySem.W.alike (.list (intsD l)) (.list (intsD m)) = true := by rw [PySem.W.alike, alike_intsD]
    have he2 : PyData.eqv (.list (intsD l)) (.list (intsD m)) = decide (l = m) := eqv_intsD l m
    by_cases e2 : l = m
    · subst e2
      rw [PySem.W.dataLt_all_yes hal2 (he2.trans (decide_eq_true rfl)), lex_nil, decide_eq_false (irr l)]
    · rw [PySem.W.dataLt_all_no hal2 (he2.trans (decide_eq_false e2)), PySem.W.dataLt_list, lt_intsD l m e]
      cases ha : Kp351.ahead l m
      · refine (decide_eq_false ?_).symm
        rintro (h | ⟨_, h⟩)
        · omega
        · rw [ha] at h
          cases h
      · exact (decide_eq_true (.inr ⟨e, ha⟩)).symm
  · rw [PySem.W.dataLt_all_no hal (he.trans (beq_eq_false_iff_ne.mpr e)), PySem.W.dataLt_int, dec_lt]
    by_cases h : l.length < m.length
    · rw [decide_eq_true h, decide_eq_true (.inl h)]
    · rw [decide_eq_false h, decide_eq_false]
      rintro (z | ⟨z, _⟩)
      · exact h z
      · exact e z
theorem best_least (kf : Nat → List Nat) : ∀ n j, j ≤ n → ¬ ltS (kf j) (kf (argBest (fun i j => decide (ltS (kf i) (kf j))) n))
  | 0, j, hj => by
    obtain rfl : j = 0 := by omega
    exact irr _
  | n + 1, j, hj => by
    have ih := best_least kf n
    show ¬ ltS (kf j) (kf (if decide (ltS (kf (n + 1)) (kf (argBest (fun i j => decide (ltS (kf i) (kf j))) n))) = true then n + 1 else argBest (fun i j => decide (ltS (kf i) (kf j))) n))
    by_cases hb : ltS (kf (n + 1)) (kf (argBest (fun i j => decide (ltS (kf i) (kf j))) n))
    · rw [if_pos (decide_eq_true hb)]
      by_cases hj' : j ≤ n
      · exact fun z => ih j hj' (ltS_trans z hb)
      · obtain rfl : j = n + 1 := by omega
        exact irr _
    · rw [if_neg (by simpa using hb)]
      by_cases hj' : j ≤ n
      · exact ih j hj'
      · obtain rfl : j = n + 1 := by omega
        exact hb
theorem best_lt (bt : Nat → Nat → Bool) : ∀ n, argBest bt n ≤ n
  | 0 => Nat.le_refl _
  | n + 1 => by
    have := best_lt bt n
    show (if bt (n + 1) (argBest bt n) = true then n + 1 else argBest bt n) ≤ n + 1
    split <;> omega
theorem refs_vals : ∀ {bs : List Addr} {us : List Value}, Vals (bs.map V.ref) us → us = bs.map Value.ref
  | [], _, .nil => rfl
  | b :: bs, _, .cons r t => by
    cases r
    rw [refs_vals t]
    rfl
theorem ints_dp {K : PySem.W.Frag} {H : Hp} : ∀ l : List Nat, DpAll K H (nats l) (intsD l)
  | [] => .nil
  | x :: l => .cons (.int _) (ints_dp l)
section
variable {X : Cx} {f : Addr} {fd : FuncData}
/-- two records of ours have turned -/
theorem turned2 {pins : List (Addr × Obj)} {σ : L2.St} {H : Hp} {s t : Shared} {a b : Addr} (I : Inv X pins σ H s) (mv : Moved (b :: [a]) (fun x y => y = x) s t) (ha : H a = none) (hb : H b = none)
    (own : ∀ c, c = a ∨ c = b → X.s_0.heap.objs.size ≤ c ∧ c ≠ X.env.locals ∧ (∀ x d, X.env.cells.lookup x = some d → d ≠ c) ∧ ∀ p ∈ X.pn ++ pins, p.1 ≠ c) : Inv X pins σ H t := by
  rw [mv.eq_with]
  have mem : ∀ c, c ∈ b :: [a] → c = a ∨ c = b := fun c hc => by
    rcases List.mem_cons.mp hc with h | h
    · exact .inr h
    · exact .inl (List.mem_singleton.mp h)
  have out : ∀ c u, H c = some u → c ∉ b :: [a] := fun c u e hc => by
    rcases mem c hc with h | h
    · rw [h, ha] at e; cases e
    · rw [h, hb] at e; cases e
  refine I.step (g' := s.gens) (d' := s.drawn) (ch := b :: [a]) (fun c hc => ?_) (fun c o _ _ hc e _ => mv.heap c o hc e) (fun c o _ _ hc e _ => ⟨o.slots, mv.heap c o hc e⟩) (fun _ _ _ _ n => n)
    (fun c o hc e => ⟨o, mv.heap c o hc e⟩) (fun _ _ e => e) (fun _ _ _ e => e) (fun c ps e => ⟨#[], by rw [e]; simp⟩) (fun m hm => ?_) (fun c u e => ?_) I.bare
  · obtain ⟨h1, h2, h3, h4⟩ := own c (mem c hc)
    exact ⟨.inr h1, h2, h3, h4⟩
  · obtain ⟨o, es, ep, ho, r⟩ := hm
    exact ⟨o, es, ep, mv.heap _ o (fun z => (own _ (mem _ z)).2.1 rfl) ho, r⟩
  · refine (I.hok c u e).stay (fun d v hd q => mv.heap d v ?_ q) (fun _ q => q) fun _ _ q => q
    rcases hd with z | z
    · rw [z]; exact out c u e
    · exact out d _ z
def rMinKey (f : Addr) : List V → List V → Hp → VK → Prop := fun vs zs H Q => ∃ (a : Addr) (bs : List Addr) (L : List Nat), vs = [.ref a] ∧ zs = [.ref f] ∧ H a = some (.lst (bs.map V.ref)) ∧ Sets H bs L ∧ 0 < L.length ∧
  ∀ (H' : Hp) (b : Addr) (u : Nat), Same H H' → u ∈ L → H' b = some (.lst (nats (Kp351.setOf 6 u))) → (∀ z ∈ L, ¬ ltS (Kp351.setOf 6 z) (Kp351.setOf 6 u)) → Q (.ref b) H'
theorem cr_minKey (hc : X.calm = true) (F : FnOk X.prog X.w X.K X.mg X.base CX0 1 f fd ["views"] spSize) (hb : Binds X.K fd ["views"] []) (hr : Room 2 X.A) : CallRK X (.builtin "min") [Str.ofString "key"] (rMinKey f) := by
  intro pins s σ H vs zs us ws Q I r rz h
  obtain ⟨a, bs, L, rfl, rfl, ha, hS, hpos, q⟩ := h
  obtain rfl := Vals.ref1 r
  obtain rfl := Vals.ref1 rz
  obtain ⟨its, rv, pl, hz⟩ := I.list (SqL.of ha)
  obtain rfl := refs_vals rv
  have hlen : bs.length = L.length := hS.1
  have hsz : (bs.map Value.ref).toArray.size = bs.length := by simp
  have fr0 : ∀ c, s.heap.objs.size ≤ c → H c = none := fun c h => I.hok.fresh h
  have own : ∀ c, s.heap.objs.size ≤ c → X.s_0.heap.objs.size ≤ c ∧ c ≠ X.env.locals ∧ (∀ x d, X.env.cells.lookup x = some d → d ≠ c) ∧ ∀ p ∈ X.pn ++ pins, p.1 ≠ c := fun c h => by
    refine ⟨Nat.le_trans I.sz h, ?_, fun x d e => ?_, fun p hp => ?_⟩
    · exact Nat.ne_of_gt (Nat.lt_of_lt_of_le I.lt h)
    · obtain ⟨v, o, ho, _⟩ := I.cell x d e
      exact Nat.ne_of_lt (Nat.lt_of_lt_of_le (Heap.lt_size ho) h)
    · exact Nat.ne_of_lt (Nat.lt_of_lt_of_le (Heap.lt_size (I.pin p hp).1) h)
  have nfr : ∀ c, s.heap.objs.size ≤ c → c ∉ frs X.stack := fun c h hm => by
    rcases List.mem_cons.mp (I.stkSub c hm) with z | z
    · exact Nat.ne_of_gt (Nat.lt_of_lt_of_le I.lt h) z
    · exact I.nofs h z
  refine min_key (I.ok.hd hc) pl.isList (by rw [hsz, hlen]; exact hpos) fun s2 e2 => ?_
  have hs2 : s2.heap.objs.size = s.heap.objs.size + 1 := by
    rw [e2]
    exact Heap.size_push _ _
  let kf : Nat → List Nat := fun i => Kp351.setOf 6 (L.getD i 0)
  have kf_at : ∀ {i u : Nat}, L[i]? = some u → kf i = Kp351.setOf 6 u := fun {i u} e => by
    show Kp351.setOf 6 (L.getD i 0) = _
    rw [List.getD_eq_getElem?_getD, e]
    rfl
  refine ⟨fun o t => ∃ H' : Hp, Inv X pins σ H' t ∧ Same H H' ∧ H' s.heap.objs.size = none ∧ H' s2.heap.objs.size = none ∧ ∀ i k, o = some (i, k) → ∃ (p b : Addr) (u : Nat), k = .ref p ∧ bs[i]? = some b ∧ L[i]? = some u ∧ H' p = some (.tup [.int ((Kp351.setOf 6 u).length : Int), .ref b]),
    fun i j => decide (ltS (kf i) (kf j)), ⟨fun o t t2 j mv => ?_, fun o i v t ob Q2 E2 hi hv j st hob go => ?_⟩, ?_, fun v t k hv j => ?_⟩
  · obtain ⟨H', I', sm, n1, n2, rest⟩ := j
    refine ⟨H', turned2 I' mv n1 n2 fun c h => own c ?_, sm, n1, n2, rest⟩
    rcases h with h | h
    · exact Nat.le_of_eq h.symm
    · rw [h, hs2]
      exact Nat.le_succ _
  · obtain ⟨H', I', sm, n1, n2, rest⟩ := j
    obtain ⟨b, eb, rfl⟩ : ∃ b, bs[i]? = some b ∧ v = .ref b := by
      have hv' : (bs.map Value.ref)[i]? = some v := by simpa using hv
      rw [List.getElem?_map] at hv'
      cases e : bs[i]? with
      | none => rw [e] at hv'; cases hv'
      | some b => rw [e] at hv'; exact ⟨b, rfl, (Option.some.inj hv').symm⟩
    obtain ⟨u, hu, hbu⟩ := hS.at_ eb
    have hsp : spSize [.ref b] H' (fun v H1 => ∃ p, v = .ref p ∧ H' p = none ∧ H1 = upd H' p (.tup [.int ((Kp351.setOf 6 u).length : Int), .ref b])) E0 := ⟨b, _, rfl, sm _ _ hbu, fun p np => ⟨p, rfl, np, rfl⟩⟩
    refine wpAny_call (codeAny_mono (F.run X.A.in1 X.stack t H' ⟨[.ref b], []⟩ [.ref b] [.ref b] _ E0 hr.in1 I'.env0.in1 (hb t [.ref b] I'.kIn rfl) (.cons rfl .nil) hsp) fun r t2 hq => ?_)
    cases r with
    | error e => exact False.elim hq
    | ok fl =>
      cases fl with
      | next => exact False.elim hq
      | brk => exact False.elim hq
      | cont => exact False.elim hq
      | ret k =>
        obtain ⟨v1, H1, os, bare, un, hok, rk, p, rfl, np, rfl⟩ := hq
        obtain rfl : k = Value.ref p := rk
        have I1 : Inv X pins σ (upd H' p (.tup [.int ((Kp351.setOf 6 u).length : Int), .ref b])) t2 := I'.call' (ch := []) os un hok bare (fun c z => nomatch z)
        have s1 : Same H' (upd H' p (.tup [.int ((Kp351.setOf 6 u).length : Int), .ref b])) := same_upd np
        obtain ⟨oI, hoI, hoI2⟩ := id st.1
        have m1 := un.free _ oI hoI n1 (by simp)
        have m2 := un.free _ ob hob n2 (by simp)
        refine go (.ref p) t2 ⟨_, I1, sm.trans s1, m1, m2, fun i' k' e => ?_⟩ ⟨_, I1, sm.trans s1, m1, m2, fun i' k' e => ?_⟩ (fun i0 kb e => ?_) ⟨⟨oI, un.keep _ oI hoI n1 (nfr _ (Nat.le_refl _)) (by simp), hoI2⟩, ?_⟩ (un.keep _ ob hob n2 (nfr _ (by omega)) (by simp))
        · obtain ⟨p', b', u', e1, e3, e4, e5⟩ := rest i' k' e
          exact ⟨p', b', u', e1, e3, e4, s1 _ _ e5⟩
        · cases e
          exact ⟨p, b, u, rfl, eb, hu, upd_same⟩
        · obtain ⟨p', b', u', rfl, e3, e4, e5⟩ := rest i0 kb e
          have hb' := hS.2 i0 b' u' e3 e4
          have d1 : Dp X.K (upd H' p (.tup [.int ((Kp351.setOf 6 u).length : Int), .ref b])) (.ref p) (keyD (Kp351.setOf 6 u)) := .tup (SqT.of upd_same) (.cons (.int _) (.cons (.lst (SqL.of (s1 _ _ (sm _ _ hbu))) (ints_dp _)) .nil))
          have d2 : Dp X.K (upd H' p (.tup [.int ((Kp351.setOf 6 u).length : Int), .ref b])) (.ref p') (keyD (Kp351.setOf 6 u')) := .tup (SqT.of (s1 _ _ e5)) (.cons (.int _) (.cons (.lst (SqL.of (s1 _ _ (sm _ _ hb'))) (ints_dp _)) .nil))
          obtain ⟨as1, r1⟩ := Dp.reads I1 _ _ (.ref p) d1 rfl
          obtain ⟨as2, r2⟩ := Dp.reads I1 _ _ (.ref p') d2 rfl
          have hun := hr.units
          have := PySem.W.rcLt_alike _ _ X.A.in1 t2 _ _ _ _ r1 r2 (alike_keyD _ _) (fun z => nomatch z) (by rw [depth_keyD, depth_keyD]; show X.A.units + 1 + 2 < cLine; omega)
          rw [lt_keyD, ← kf_at hu, ← kf_at e4] at this
          exact this
        · obtain ⟨its', rv', pl', _⟩ := I1.list (SqL.of (s1 _ _ (sm _ _ ha)))
          obtain rfl := refs_vals rv'
          exact pl'.isList
  · refine ⟨H, ?_, Same.refl _, fr0 _ (Nat.le_refl _), fr0 _ (by omega), fun i k e => nomatch e⟩
    rw [e2]
    exact I.kept (t' := s.toks) fun c u e => Heap.get?_push_of_some _ e
  · obtain ⟨H', I', sm, n1, n2, rest⟩ := j
    obtain ⟨p, b, u, _, eb, hu, _⟩ := rest _ _ rfl
    have hv' : (bs.map Value.ref)[argBest (fun i j => decide (ltS (kf i) (kf j))) ((bs.map Value.ref).toArray.size - 1)]? = some v := by simpa using hv
    rw [List.getElem?_map, eb] at hv'
    obtain rfl : Value.ref b = v := Option.some.inj hv'
    refine ⟨.ref b, H', I', rfl, q H' b u sm (List.mem_of_getElem? hu) (sm _ _ (hS.2 _ b u eb hu)) fun z hzm => ?_⟩
    obtain ⟨j, hj⟩ := List.mem_iff_getElem?.mp hzm
    have hjl : j < L.length := (List.getElem?_eq_some_iff.mp hj).1
    have := best_least kf ((bs.map Value.ref).toArray.size - 1) j (by rw [hsz, hlen]; omega)
    rw [kf_at hj, kf_at hu] at this
    exact this
end
section
variable {P : Program} {w : World} {K : PySem.W.Frag} {mg : Str → Option Value} {base : Heap} {C CV : Addr}
theorem ok_size {f : Addr} {fd : FuncData} (F : Fun K "size_then_members" "size_then_members" sSize f fd) (O : Own mg) : FnOk P w K mg base CX0 1 f fd ["views"] spSize := by
  refine F.ok scSize (fun vs H Q E h => ?_) (fun cdv A outer s0 H vs Q E hr h => ?_)
  · obtain ⟨a, ns, rfl, _⟩ := h
    rfl
  obtain ⟨a, ns, rfl, ha, q⟩ := h
  refine ⟨_, pss_one (ps_ret (pe_tup (pa_cons (pe_callB call_len_seq (by rfl) O.len PySem.boot_len (pa_cons (pv 0) pa_nil)) (pa_cons (pv 0) pa_nil)))), ?_⟩
  refine ⟨_, rfl, a, _, rfl, .inl (SqL.of ha), _, rfl, (by show 2 ≤ sizeLine; decide), fun p np => ?_⟩
  rw [nats_len]
  exact q p np
theorem ok_fewest {f f1 : Addr} {fd fd1 : FuncData} (F : Fun K "answer_fewest" "answer_fewest" sFewest f fd) (T : TxtT K mg C) (O : Own mg) (c : Cons mg) (D1 : Callee P w K mg base 1 "counted" ["found"] spCounted) (M1 : MCallee P w K mg base C 5 "apart" ["self"] (spApart C CV))
    (g1 : mg "size_then_members" = some (.ref f1)) (b1 : Binds K fd1 ["views"] []) (G1 : FnOk P w K mg base CX0 1 f1 fd1 ["views"] spSize) : FnOk P w K mg base CX0 6 f fd ["thing", "given"] (spStep K C CV 14) := by
  refine F.ok scFewest (fun vs H Q E h => sp_len h) (fun cdv A outer s0 H vs Q E hr h => ?_)
  obtain ⟨t, g, l, as, ts, n, ws, gs, rfl, TH, ok, hg, hgf, hgs, post⟩ := h
  obtain ⟨dx, ht⟩ := TH.at_
  have d : DOk n ws := ok
  have est := stOf_ok d
  have h6 := d.len
  have hr1 : Room 1 _ := hr.mono (by decide)
  have hr2 : Room 2 _ := hr.mono (by decide)
  have post : Post C CV H (foot t l as ts) t (Kp351.step (stOf n ws) .fewest).1 (ansOf (Kp351.step (stOf n ws) .fewest).2) Q := post
  rw [est] at post
  refine ⟨_, pss_cons (ps_set (i := 2) scFewest.nd rfl (Or.inl rfl) (pe_methD0 M1 T.cl hr (pv 0)))
    (pss_cons (ps_if (pt_cmpR op_eq (pe_callB call_len_seq (by rfl) O.len PySem.boot_len (pa_cons (pv 2) pa_nil)) pe_int (nomark _)) (pss_one (ps_ret (pe_lst (pa_cons (pe_con1 c.noneFound rfl) pa_nil)))) pss_nil)
    (pss_one (ps_ret (pe_callD D1 hr1 rfl (pa_cons (pe_callBK (cr_minKey rfl G1 b1 hr2) (by rfl) O.min (by decide +kernel) (pa_cons (pv 2) pa_nil) (pk_cons (pe_glob (v := .ref f1) rfl g1 rfl) pk_nil)) pa_nil))))), ?_⟩
  refine ⟨_, rfl, t, dx, _, rfl, ht, tF_no _ _ (by decide +kernel) (by decide +kernel), t, l, as, ts, n, ws, rfl, TH, d, fun H1 p bs np s1 hp hS => ?_⟩
  refine ⟨_, rfl, p, _, rfl, .inl (SqL.of hp), rfl, _, rfl, ?_⟩
  refine ite_b (c' := decide ((apartM n ws).length = 0)) (by rw [List.length_map, hS.1]; exact decI _ 0) (fun h0 => ?_) (fun h0 => ?_)
  · refine ⟨(by show 1 ≤ sizeLine; decide), fun r nr => ?_⟩
    rw [st_fewest_6 d (apart_nil h6 (List.length_eq_zero_iff.mp (of_decide_eq_true h0)))] at post
    exact post.read TH est (.inr d) (s1.trans (same_upd nr)) (s1.free nr) upd_same
  have hpos : 0 < (apartM n ws).length := Nat.pos_of_ne_zero (of_decide_eq_false h0)
  refine ⟨_, rfl, p, bs, apartM n ws, rfl, rfl, hp, hS, hpos, fun H2 b u s2 hu hbu hmin => ?_⟩
  rw [st_fewest_at d hu hmin] at post
  have hl := setOf_len6 u
  exact ⟨b, _, rfl, hbu, by omega, fun H3 r nr s3 hr3 => post.read TH est (.inr d) ((s1.trans s2).trans s3) ((s1.trans s2).free nr) hr3⟩
end
end VT

set_option Elab.async false
set_option linter.all false
set_option maxRecDepth 100000
set_option maxHeartbeats 2000000
namespace VT
open PySem PySem.Spec PyProof.Rows L2
open PySem.W (Codec)
abbrev sAnswerCall : Stmt := top 48
abbrev sCallEnd : Stmt := top 49
abbrev sAnswers : Stmt := top 50
theorem scCallEnd : FnScope ["calls", "start", "end"] ["calls", "start"] (defScope sCallEnd) := ⟨rfl, rfl, rfl, by decide +kernel, rfl, by decide +kernel, by decide +kernel⟩
theorem scAnswers : FnScope ["calls", "thing", "told", "start", "end", "answer"] ["calls"] (defScope sAnswers) := ⟨rfl, rfl, rfl, by decide +kernel, rfl, by decide +kernel, by decide +kernel⟩
/-- a call stands at start: its number, what is handed in with it, and what comes behind -/
structure CallAt (ns : List Nat) (start p : Nat) (gs t : List Nat) : Prop where
  at_ : ns.drop start = p :: (gs ++ t)
  lt : p < 20
  ok : GsOk p gs
  tb : p = 3 → ∃ i row, gs = i :: row.length :: row
theorem drop_get {ns : List Nat} {start : Nat} {l : List Nat} (h : ns.drop start = l) (j : Nat) : ns[start + j]? = l[j]? := by rw [← h, List.getElem?_drop]
theorem CallAt.head {ns : List Nat} {start p : Nat} {gs t : List Nat} (h : CallAt ns start p gs t) : ns[start]? = some p := drop_get h.at_ 0
theorem CallAt.len {ns : List Nat} {start p : Nat} {gs t : List Nat} (h : CallAt ns start p gs t) : ns.length = start + 1 + gs.length + t.length := by
  have e := congrArg List.length h.at_
  rw [List.length_drop, List.length_cons, List.length_append] at e
  have := (List.getElem?_eq_some_iff.mp h.head).1
  omega
theorem CallAt.rest {ns : List Nat} {start p : Nat} {gs t : List Nat} (h : CallAt ns start p gs t) : ns.drop (start + 1 + gs.length) = t := by
  rw [← List.drop_drop, ← List.drop_drop, h.at_]
  show (gs ++ t).drop gs.length = t
  rw [List.drop_left]
theorem CallAt.cut {ns : List Nat} {start p : Nat} {gs t : List Nat} (h : CallAt ns start p gs t) : cutV (nats ns) (some ((start : Int) + 1)) (some ((start + 1 + gs.length : Nat) : Int)) = nats gs := by
  have hl := h.len
  unfold cutV
  rw [show ((start : Int) + 1) = ((start + 1 : Nat) : Int) by omega, show HT.sIx (nats ns).length 0 (some ((start + 1 : Nat) : Int)) = min (start + 1) (nats ns).length from HT.sIx_nat _ _ _,
    show HT.sIx (nats ns).length (nats ns).length (some ((start + 1 + gs.length : Nat) : Int)) = min (start + 1 + gs.length) (nats ns).length from HT.sIx_nat _ _ _, nats_len, Nat.min_eq_left (by omega), Nat.min_eq_left (by omega)]
  unfold nats
  rw [← List.map_drop, ← List.drop_drop, h.at_, ← List.map_take]
  show ((gs ++ t).take (start + 1 + gs.length - (start + 1))).map _ = _
  rw [show start + 1 + gs.length - (start + 1) = gs.length by omega, List.take_left]
def spCallEnd (K : PySem.W.Frag) : Sp := fun vs H Q _ => ∃ (a : Addr) (ns : List Nat) (start p : Nat) (gs t : List Nat), vs = [.ref a, .int (start : Int)] ∧ SqL K H a (nats ns) ∧ CallAt ns start p gs t ∧ Q (.int ((start + 1 + gs.length : Nat) : Int)) H
def spAnsCall (K : PySem.W.Frag) (C CV : Addr) (N : Nat) : Sp := fun vs H Q _ => ∃ (t g l : Addr) (as ts : List Addr) (n : Nat) (ws : List (Nat × List Nat)) (p : Nat) (gs : List Nat), vs = [.ref t, .int (p : Int), .ref g] ∧ ThingAt C CV H t l as ts n ws ∧ WOk n ws ∧ p < N ∧
  SqL K H g (nats gs) ∧ g ∉ foot t l as ts ∧ GsOk p gs ∧ Post C CV H (foot t l as ts) t (Kp351.step (stOf n ws) (callG p gs)).1 (ansOf (Kp351.step (stOf n ws) (callG p gs)).2) Q
/-- the answers to a list of calls, all of them below N -/
def spAnswers (K : PySem.W.Frag) (N : Nat) : Sp := fun vs H Q _ => ∃ (a : Addr) (ns : List Nat) (f : Nat) (cs : List (List (List Int))), vs = [.ref a] ∧ SqL K H a (nats ns) ∧ ns.length ≤ 1000 ∧ PyFlat.calls PyKp351.shape f (ofN ns) = some cs ∧ PyInside.calls PyKp351.bound cs = true ∧
  (∀ start p gs t, CallAt ns start p gs t → p < N) ∧ (PyFlat.told (PyFlat.played Kp351Neutral.step Kp351Neutral.start (cs.map PyKp351.whole))).length ≤ 10000000 ∧
  ∀ (H' : Hp) (p : Addr), Same H H' → H' p = some (.lst ((PyFlat.told (PyFlat.played Kp351Neutral.step Kp351Neutral.start (cs.map PyKp351.whole))).map V.int)) → Q (.ref p) H'
section
variable {P : Program} {w : World} {K : PySem.W.Frag} {mg : Str → Option Value} {base : Heap} {C CV : Addr}
theorem argL_get {p : Nat} (h : p < 20) : (nats argL)[p]? = some (.int (argN p : Nat)) := by
  refine nats_at ?_
  unfold argN
  rw [List.getD_eq_getElem?_getD]
  obtain ⟨x, hx⟩ := get_of_lt (l := argL) (i := p) h
  rw [hx]
  rfl
theorem ok_call_end {f aT : Addr} {fd : FuncData} (F : Fun K "call_end" "call_end" sCallEnd f fd) (c : Cons mg) (gT : mg "ARGUMENT_COUNTS" = some (.ref aT)) (sT : ∀ H : Hp, SqT K H aT (nats argL)) : FnOk P w K mg base CX0 1 f fd ["calls", "start"] (spCallEnd K) := by
  refine F.ok scCallEnd (fun vs H Q E h => ?_) (fun cdv A outer s0 H vs Q E hr h => ?_)
  · obtain ⟨a, ns, start, p, gs, t, rfl, _⟩ := h
    rfl
  obtain ⟨a, ns, start, p, gs, t, rfl, hS, hc, q⟩ := h
  refine ⟨_, pss_cons (ps_set (i := 2) scCallEnd.nd rfl (Or.inl rfl) (pe_op op_add (pe_op op_add (pv 1) pe_int) (pe_ix ix_tup (pe_glob (v := .ref aT) rfl gT rfl) (pe_ix ix_list (pv 0) (pv 1) (fun _ _ => rfl)) (fun _ _ => rfl))))
    (pss_cons (ps_if (pt_cmpR op_eq (pe_ix ix_list (pv 0) (pv 1) (fun _ _ => rfl)) (pe_con1 c.table rfl) (nomark _)) (pss_one (ps_aug (i := 2) scCallEnd.nd rfl (Or.inl rfl) (pe_op op_add pe_int (pe_ix ix_list (pv 0) (pv 2) (fun _ _ => rfl))) ip_add)) pss_nil)
    (pss_one (ps_ret (pv 2)))), ?_⟩
  have h0 : atI (nats ns) (start : Int) = some (.int (p : Int)) := atI_nat (nats_at hc.head)
  refine ⟨_, rfl, _, _, rfl, rfl, _, rfl, _, rfl, a, _, _, _, rfl, rfl, hS, h0, aT, _, _, _, rfl, rfl, sT _, atI_nat (argL_get hc.lt), _, _, rfl, rfl, ?_⟩
  refine ⟨_, rfl, _, rfl, a, _, _, _, rfl, rfl, hS, h0, rfl, _, rfl, ?_⟩
  refine ite_b (c' := decide (p = 3)) (decI p 3) (fun h => ?_) (fun h => ?_)
  · have hp : p = 3 := of_decide_eq_true h
    subst hp
    obtain ⟨i, row, rfl⟩ := hc.tb rfl
    have e2 : ((start : Int) + 1 + (argN 3 : Nat)) = ((start + 2 : Nat) : Int) := by
      show ((start : Int) + 1 + 1) = _
      omega
    have h2 : atI (nats ns) ((start : Int) + 1 + (argN 3 : Nat)) = some (.int (row.length : Int)) := at_of e2 (nats_at (drop_get hc.at_ 2))
    refine ⟨_, rfl, _, rfl, _, rfl, a, _, _, _, rfl, rfl, hS, h2, _, _, rfl, rfl, _, _, rfl, rfl, _, rfl, ?_⟩
    have e3 : ((start : Int) + 1 + (argN 3 : Nat) + (1 + (row.length : Int))) = ((start + 1 + (i :: row.length :: row).length : Nat) : Int) := by
      rw [e2]
      show _ = ((start + 1 + (row.length + 1 + 1) : Nat) : Int)
      omega
    show Q (.int ((start : Int) + 1 + (argN 3 : Nat) + (1 + (row.length : Int)))) H
    rw [e3]
    exact q
  · have hp : p ≠ 3 := of_decide_eq_false h
    have hg : gs.length = argN p := by
      have := hc.ok
      unfold GsOk at this
      rw [if_neg hp] at this
      exact this
    refine ⟨_, rfl, ?_⟩
    show Q (.int ((start : Int) + 1 + (argN p : Nat))) H
    rw [show ((start : Int) + 1 + (argN p : Nat)) = ((start + 1 + gs.length : Nat) : Int) by rw [hg]; omega]
    exact q
theorem told_cons (a : List Int) (l : List (List Int)) : PyFlat.told (a :: l) = ((a.length : Nat) : Int) :: a ++ PyFlat.told l := rfl
theorem ok_answers {f fI : Addr} {fd fdI : FuncData} {N : Nat} (F : Fun K "answers" "answers" sAnswers f fd) (T : TxtT K mg C) (O : Own mg) (M : Mk K C fI) (bI : Binds K fdI ["self"] []) (GI : FnOk P w K mg base CX0 1 fI fdI ["self"] (spTInit C))
    (D1 : Callee P w K mg base 1 "call_end" ["calls", "start"] (spCallEnd K)) (D2 : Callee P w K mg base 8 "answer_call" ["thing", "call", "given"] (spAnsCall K C CV N)) : FnOk P w K mg base CX0 9 f fd ["calls"] (spAnswers K N) := by
  refine F.ok scAnswers (fun vs H Q E h => ?_) (fun cdv A outer s0 H vs Q E hr h => ?_)
  · obtain ⟨a, ns, k, cs, rfl, _⟩ := h
    rfl
  obtain ⟨a, ns, k0, cs0, rfl, hS, hlen, hcs0, hin0, hN, hshort, q⟩ := h
  have hr1 : Room 1 _ := hr.mono (by decide)
  have hr2 : Room 2 _ := hr.mono (by decide)
  refine ⟨_, pss_cons (ps_set (i := 1) scAnswers.nd rfl (Or.inl rfl) (pe_make0 M GI hr2 rfl T.g bI .nil pass0))
    (pss_cons (ps_set (i := 2) scAnswers.nd rfl (Or.inl rfl) (pe_lst pa_nil))
    (pss_cons (ps_set (i := 3) scAnswers.nd rfl (Or.inl rfl) pe_int)
    (pss_cons (ps_while PassesOwn.never (pt_cmpR op_lt (pv 3) (pe_callB call_len_seq (by rfl) O.len PySem.boot_len (pa_cons (pv 0) pa_nil)) (nomark _))
      (pss_cons (ps_set (i := 4) scAnswers.nd rfl (Or.inl rfl) (pe_callD D1 hr1 rfl (pa_cons (pv 0) (pa_cons (pv 3) pa_nil))))
      (pss_cons (ps_set (i := 5) scAnswers.nd rfl (Or.inl rfl) (pe_callD D2 hr rfl (pa_cons (pv 1) (pa_cons (pe_ix ix_list (pv 0) (pv 3) (fun _ _ => rfl)) (pa_cons (pe_slice sl_list (pv 0) (po_some (pe_op op_add (pv 3) pe_int)) (po_some (pv 4))) pa_nil)))))
      (pss_cons (ps_expr (pe_bm PySem.F.plainAttrs_list PySem.F.slot_list_append PySem.F.type_list_append mt_append (pv 2) (pa_cons (pe_callB call_len_seq (by rfl) O.len PySem.boot_len (pa_cons (pv 5) pa_nil)) pa_nil)))
      (pss_cons (ps_expr (pe_bm PySem.F.plainAttrs_list PySem.F.slot_list_extend PySem.F.type_list_extend mt_extend (pv 2) (pa_cons (pv 5) pa_nil)))
      (pss_one (ps_set (i := 3) scAnswers.nd rfl (Or.inl rfl) (pv 4))))))))
    (pss_one (ps_ret (pv 2)))))), ?_⟩
  intro t dx nt ndx ned
  refine ⟨t, dx, rfl, upd_same, fun H1 l nl ht hl kp => ⟨rfl, ?_⟩⟩
  have s1 : Same H H1 := fun b o e => kp b o (by rw [upd_ne (ne_of_none e nt), upd_ne (ne_of_none e ndx)]; exact e) (ne_of_none e nt)
  have nlt : l ≠ t := fun e => by rw [e, upd_same] at nl; cases nl
  have nl0 : H l = none := by
    have : l ≠ dx := fun e => by rw [e, upd_ne ned, upd_same] at nl; cases nl
    rw [upd_ne nlt, upd_ne this] at nl
    exact nl
  refine ⟨Nat.zero_le _, fun z nz => ?_⟩
  have s2 : Same H1 (upd H1 z (.lst [])) := same_upd nz
  have nz0 : H z = none := s1.free nz
  have TH0 : ThingAt C CV H1 t l [] [] 0 [] := ⟨⟨dx, ht⟩, hl, rfl, rfl, .nil, .nil, by simp, by simp⟩
  generalize hall : PyFlat.told (PyFlat.played Kp351Neutral.step Kp351Neutral.start (cs0.map PyKp351.whole)) = all at hshort q
  refine ⟨fun m σ H' => ∃ (start n : Nat) (ws : List (Nat × List Nat)) (l' : Addr) (as ts : List Addr) (tl : List Int) (k : Nat) (cs : List (List (List Int))) (v4 v5 : Option V),
      σ = [some (.ref a), some (.ref t), some (.ref z), some (.int (start : Int)), v4, v5] ∧ start ≤ ns.length ∧ m = ns.length - start ∧ Same H H' ∧ ThingAt C CV H' t l' as ts n ws ∧ WOk n ws ∧ (∀ b ∈ foot t l' as ts, H b = none) ∧ z ∉ foot t l' as ts ∧
      H' z = some (.lst (tl.map V.int)) ∧ PyFlat.calls PyKp351.shape k (ofN (ns.drop start)) = some cs ∧ PyInside.calls PyKp351.bound cs = true ∧ tl ++ PyFlat.told (PyFlat.played Kp351Neutral.step (stOf n ws) (cs.map PyKp351.whole)) = all,
    ⟨ns.length, 0, 0, [], l, [], [], [], k0, cs0, none, none, rfl, Nat.zero_le _, rfl, s1.trans s2, TH0.same s2, .inl ⟨rfl, rfl⟩, ?_, ?_, upd_same, hcs0, hin0, hall⟩, ?_⟩
  · intro b hb
    unfold foot at hb
    simp at hb
    rcases hb with rfl | rfl
    · exact nt
    · exact nl0
  · exact TH0.free nz
  rintro m σ H2 ⟨start, n, ws, l', as, ts, tl, k, cs, v4, v5, rfl, hst, rfl, s3, TH, ok, hfn, hzf, hz, hcs, hin, htl⟩
  refine ⟨_, rfl, _, rfl, a, _, rfl, .inl (s3.seq hS), _, _, rfl, rfl, _, rfl, ?_⟩
  refine ite_b (c' := decide (start < ns.length)) (by rw [nats_len]; exact dec_lt _ _) (fun h => ?yes) (fun h => ?no)
  case no =>
    have e : start = ns.length := by
      have := of_decide_eq_false h
      omega
    subst e
    rw [List.drop_length] at hcs
    rw [parse_nil hcs] at htl
    refine ⟨_, rfl, ?_⟩
    have e2 : tl = all := by
      rw [← htl]
      show tl = tl ++ []
      rw [List.append_nil]
    rw [e2] at hz
    exact q H2 z s3 hz
  have hlt : start < ns.length := of_decide_eq_true h
  obtain ⟨p, rest, hdr⟩ : ∃ p rest, ns.drop start = p :: rest := ⟨_, _, List.drop_eq_getElem_cons hlt⟩
  rw [hdr] at hcs
  obtain ⟨k', gs, t', cc, cs', hp20, hrest, hgok, hgtb, hcseq, hcs', hin', htold⟩ := parse_step hcs hin
  subst hrest
  subst hcseq
  have hc : CallAt ns start p gs t' := ⟨hdr, hp20, hgok, hgtb⟩
  have hpN := hN start p gs t' hc
  have hns := hc.len
  refine ⟨fun σ' H' => ∃ (n : Nat) (ws : List (Nat × List Nat)) (l' : Addr) (as ts : List Addr) (tl : List Int) (v4 v5 : Option V),
      σ' = [some (.ref a), some (.ref t), some (.ref z), some (.int ((start + 1 + gs.length : Nat) : Int)), v4, v5] ∧ Same H H' ∧ ThingAt C CV H' t l' as ts n ws ∧ WOk n ws ∧ (∀ b ∈ foot t l' as ts, H b = none) ∧ z ∉ foot t l' as ts ∧
      H' z = some (.lst (tl.map V.int)) ∧ tl ++ PyFlat.told (PyFlat.played Kp351Neutral.step (stOf n ws) (cs'.map PyKp351.whole)) = all, ?_, ?_⟩
  · rintro σ' H' ⟨n, ws, l', as, ts, tl, v4, v5, e1, e2, e3, e4, e5, e6, e7, e8⟩
    exact ⟨ns.length - (start + 1 + gs.length), by omega, start + 1 + gs.length, n, ws, l', as, ts, tl, k', cs', v4, v5, e1, by omega, rfl, e2, e3, e4, e5, e6, e7, by rw [hc.rest]; exact hcs', hin', e8⟩
  -- end = call_end(calls, start)
  refine ⟨_, rfl, _, rfl, a, ns, start, p, gs, t', rfl, s3.seq hS, hc, ?_⟩
  -- answer = answer_call(thing, calls[start], calls[start + 1:end])
  refine ⟨_, rfl, _, rfl, _, rfl, a, _, _, _, rfl, rfl, s3.seq hS, atI_nat (nats_at hc.head), _, rfl, _, rfl, _, _, rfl, rfl, _, rfl, _, rfl, _, rfl, a, _, rfl, s3.seq hS, fun g ng => ?_⟩
  rw [hc.cut]
  have sg : Same H2 (upd H2 g (.lst (nats gs))) := same_upd ng
  refine ⟨t, g, l', as, ts, n, ws, p, gs, rfl, TH.same sg, ok, hpN, SqL.of upd_same, TH.free ng, hgok, ?_⟩
  intro H3 r l3 as3 ts3 n3 ws3 nr hr3 TH3 est3 ok3 nrf hsub hkeep
  have hzg : z ≠ g := ne_of_none hz ng
  have hz3 : H3 z = some (.lst (tl.map V.int)) := hkeep z _ (by rw [upd_ne hzg]; exact hz) hzf
  have nz2 : ∀ b, (upd H2 g (.lst (nats gs))) b = none → b ≠ z := fun b e z' => by rw [z', upd_ne hzg, hz] at e; cases e
  have nrz : r ≠ z := nz2 r nr
  have fresh : ∀ b, (upd H2 g (.lst (nats gs))) b = none → H b = none := fun b e => (s3.trans sg).free e
  have hfn3 : ∀ b ∈ foot t l3 as3 ts3, H b = none := fun b hb => (hsub b hb).elim (fun h => hfn b h) fun h => fresh b h
  have hzf3 : z ∉ foot t l3 as3 ts3 := fun hb => (hsub z hb).elim (fun h => hzf h) fun h => nz2 z h rfl
  have s4 : Same H H3 := fun b o e => hkeep b o (sg _ _ (s3 _ _ e)) fun hb => by rw [hfn b hb] at e; cases e
  generalize hans : ansOf (Kp351.step (stOf n ws) (callG p gs)).2 = ans at hr3
  have hall2 : tl ++ (((ans.length : Nat) : Int) :: ans ++ PyFlat.told (PyFlat.played Kp351Neutral.step (stOf n3 ws3) (cs'.map PyKp351.whole))) = all := by
    rw [← htl, est3, ← hans]
    show _ = tl ++ PyFlat.told ((Kp351Neutral.step (stOf n ws) (PyKp351.whole cc)).2 :: PyFlat.played Kp351Neutral.step (Kp351Neutral.step (stOf n ws) (PyKp351.whole cc)).1 (cs'.map PyKp351.whole))
    rw [htold (stOf n ws), told_cons]
  have hsz : tl.length + 1 + ans.length ≤ 10000000 := by
    have := congrArg List.length hall2
    rw [List.length_append, List.length_append, List.length_cons] at this
    omega
  -- told.append(len(answer))
  refine ⟨_, rfl, .inl ⟨rfl, _, SqL.of hz3⟩, _, rfl, r, _, rfl, .inl (SqL.of hr3), z, _, _, rfl, rfl, hz3, ?_, ?_⟩
  · rw [List.length_map]
    exact Nat.lt_of_lt_of_le (show tl.length < 10000000 by omega) (by decide)
  -- told.extend(answer)
  refine ⟨_, rfl, .inl ⟨rfl, _, SqL.of upd_same⟩, _, rfl, z, r, _, _, rfl, rfl, upd_same, by rw [upd_ne nrz]; exact hr3, ?_, ?_⟩
  · rw [List.length_append, List.length_map, List.length_map]
    exact Nat.le_trans (show tl.length + 1 + ans.length ≤ 10000000 from hsz) (by decide)
  rw [upd_upd]
  refine ⟨_, rfl, n3, ws3, l3, as3, ts3, tl ++ ((ans.length : Nat) : Int) :: ans, _, _, rfl, ?_, ?_, ok3, hfn3, hzf3, ?_, ?_⟩
  · intro b o e
    rw [upd_ne (ne_of_none e nz0)]
    exact s4 b o e
  · refine ⟨?_, ?_, TH3.la, TH3.lt, TH3.nda, TH3.ndt, TH3.nl, fun j b c v e1 e2 e3 => ?_⟩
    · obtain ⟨dt, e⟩ := TH3.at_
      exact ⟨dt, by rw [upd_ne (fun h => hzf3 (by rw [← h]; unfold foot; exact List.mem_cons_self ..))]; exact e⟩
    · rw [upd_ne (fun h => hzf3 (by rw [← h]; unfold foot; exact List.mem_cons_of_mem _ (List.mem_cons_self ..)))]
      exact TH3.lst
    · exact (TH3.view j b c v e1 e2 e3).upd (fun h => hzf3 (by rw [← h]; unfold foot; exact List.mem_cons_of_mem _ (List.mem_cons_of_mem _ (List.mem_append_left _ (List.mem_of_getElem? e1)))))
        (fun h => hzf3 (by rw [← h]; unfold foot; exact List.mem_cons_of_mem _ (List.mem_cons_of_mem _ (List.mem_append_right _ (List.mem_of_getElem? e2)))))
  · rw [upd_same]
    congr 2
    rw [List.map_append, List.map_cons, List.append_assoc, List.length_map]
    rfl
  · rw [← hall2, List.append_assoc]
end
theorem ofN_toNat {l : List Int} (h : ∀ x ∈ l, 0 ≤ x) : ofN (l.map Int.toNat) = l := by
  unfold ofN
  rw [List.map_map]
  induction l with
  | nil => rfl
  | cons x l ih =>
    rw [List.map_cons, ih fun y hy => h y (List.mem_cons_of_mem _ hy)]
    have := h x (List.mem_cons_self ..)
    show ((x.toNat : Nat) : Int) :: l = x :: l
    rw [Int.toNat_of_nonneg this]
/-- what is asked of a request gives what the promise asks -/
theorem sp_of {K : PySem.W.Frag} {H : Hp} {a : Addr} {l : List Int} {Q : VK} {E : XK} (hs : SqL K H a (l.map V.int)) (hlen : l.length ≤ 780) (hb : ∀ x ∈ l, 0 ≤ x) (h : PyKp351.answers_asked l = true)
    (q : ∀ (H' : Hp) (p : Addr), H' p = some (.lst ((PyKp351.answers l).map V.int)) → Q (.ref p) H') : spAnswers K 20 [.ref a] H Q E := by
  have el := ofN_toNat hb
  unfold PyKp351.answers_asked at h
  cases hc : PyFlat.calls PyKp351.shape l.length l with
  | none =>
    rw [hc] at h
    cases h
  | some raw =>
    rw [hc] at h
    have h' : (!raw.isEmpty && PyFlat.atMost 60 raw && PyInside.calls PyKp351.bound raw && Kp351Neutral.asked (raw.map PyKp351.whole) && PyFlat.short 10000000 (PyKp351.answers l)) = true := h
    rw [Bool.and_eq_true, Bool.and_eq_true, Bool.and_eq_true] at h'
    have ea : PyKp351.answers l = PyFlat.told (PyFlat.played Kp351Neutral.step Kp351Neutral.start (raw.map PyKp351.whole)) := by
      unfold PyKp351.answers PyKp351.calls
      rw [hc]
    refine ⟨a, l.map Int.toNat, l.length, raw, rfl, ?_, by rw [List.length_map]; omega, by rw [el]; exact hc, h'.1.1.2, fun _ _ _ _ z => z.lt, ?_, fun H' p _ hp => q H' p (by rw [ea]; exact hp)⟩
    · rw [nats_ints]
      show SqL K H a ((ofN (l.map Int.toNat)).map V.int)
      rw [el]
      exact hs
    · rw [← ea]
      exact of_decide_eq_true h'.2
end VT

set_option Elab.async false
set_option linter.all false
set_option maxRecDepth 100000
set_option maxHeartbeats 2000000
namespace VT
open PySem PySem.Spec PyProof.Rows L2
open PySem.W (Codec)
theorem scAnswerCall : FnScope ["thing", "call", "given"] ["thing", "call", "given"] (defScope sAnswerCall) := ⟨rfl, rfl, rfl, by decide +kernel, rfl, by decide +kernel, by decide +kernel⟩
section
variable {P : Program} {w : World} {K : PySem.W.Frag} {mg : Str → Option Value} {base : Heap} {C CV : Addr}
theorem ok_answer_call {f aT : Addr} {fd : FuncData} {N : Nat} {fs : List Addr} (F : Fun K "answer_call" "answer_call" sAnswerCall f fd) (T : TxtT K mg C) (O : Own mg) (c : Cons mg) (gT : mg "ANSWERS_BY_CALL" = some (.ref aT)) (sT : ∀ H : Hp, SqT K H aT (fs.map V.ref)) (hl : fs.length = N)
    (hA : ∀ (p : Nat) (f : Addr), fs[p]? = some f → Held P w K mg base 7 f (spStep K C CV p)) : FnOk P w K mg base CX0 8 f fd ["thing", "call", "given"] (spAnsCall K C CV N) := by
  refine F.ok scAnswerCall (fun vs H Q E h => ?_) (fun cdv A outer s0 H vs Q E hr h => ?_)
  · obtain ⟨t, g, l, as, ts, n, ws, p, gs, rfl, _⟩ := h
    rfl
  obtain ⟨t, g, l, as, ts, n, ws, p, gs, rfl, TH, ok, hp, hg, hgf, hgs, post⟩ := h
  obtain ⟨dx, ht⟩ := TH.at_
  have hA' : ∀ (f : Addr) (sp : Sp), (∃ p, fs[p]? = some f ∧ sp = spStep K C CV p) → Held P w K mg base 7 f sp := fun f sp ⟨p, h1, h2⟩ => h2 ▸ hA p f h1
  refine ⟨_, pss_cons (ps_if (PW.pt (pw_and (pt_cmpR op_ne (pv 1) (pe_con1 c.begin_ rfl) (nomark _)) (pw_and1 (pt_cmpR op_eq (pe_fld (pv 0) rfl) pe_int (nomark _))))) (pss_one (ps_ret (pe_lst (pa_cons (pe_con1 c.notBegun rfl) pa_nil)))) pss_nil)
    (pss_one (ps_ret (pe_callE (R := fun f sp => ∃ p, fs[p]? = some f ∧ sp = spStep K C CV p) hA' hr (pe_ix ix_tup (pe_glob (v := .ref aT) rfl gT rfl) (pv 1) (fun _ _ => rfl)) (pa_cons (pv 0) (pa_cons (pv 2) pa_nil))))), ?_⟩
  obtain ⟨f1, hf1⟩ := get_of_lt (l := fs) (i := p) (by rw [hl]; exact hp)
  have go : ∀ (h : p = 0 ∨ n ≠ 0), _ := fun h => (show (if p = 0 then WOk n ws else DOk n ws) from by
    by_cases h0 : p = 0
    · rw [if_pos h0]; exact ok
    · rw [if_neg h0]
      rcases ok with ok | ok
      · exact absurd ok.1 (h.resolve_left h0)
      · exact ok)
  refine ⟨_, rfl, rfl, _, rfl, ?_⟩
  have main : (p = 0 ∨ n ≠ 0) → _ := fun h => (show spStep K C CV p [.ref t, .ref g] H Q E0 from ⟨t, g, l, as, ts, n, ws, gs, rfl, TH, go h, hg, hgf, hgs, post⟩)
  refine ite_b (c' := !decide (p = 0)) (by show (!decide (V.int (p : Int) = V.int ((0 : Nat) : Int))) = _; rw [decI]) (fun h => ?_) (fun h => ?_)
  · have hp0 : p ≠ 0 := by simpa using h
    refine ⟨_, rfl, t, C, dx, _, _, rfl, ht, T.cl, T.nN, tF_n n l, rfl, _, rfl, ?_⟩
    refine ite_b (c' := decide (n = 0)) (decI n 0) (fun h2 => ?_) (fun h2 => ?_)
    · have hn0 : n = 0 := of_decide_eq_true h2
      refine ⟨(by show 1 ≤ sizeLine; decide), fun r nr => ?_⟩
      have est : stOf n ws = none := if_pos hn0
      rw [est, st_none hp0] at post
      exact post.read TH est ok (same_upd nr) nr upd_same
    · have hn0 : n ≠ 0 := of_decide_eq_false h2
      exact ⟨_, rfl, aT, _, _, _, rfl, rfl, sT _, atI_nat (map_ref_get hf1), f1, _, rfl, ⟨p, hf1, rfl⟩, _, rfl, _, rfl, main (.inr hn0)⟩
  · have hp0 : p = 0 := by simpa using h
    refine iteF ?_
    exact ⟨_, rfl, aT, _, _, _, rfl, rfl, sT _, atI_nat (map_ref_get hf1), f1, _, rfl, ⟨p, hf1, rfl⟩, _, rfl, _, rfl, main (.inl hp0)⟩
end
end VT

set_option Elab.async false
set_option linter.all false
set_option maxRecDepth 100000
set_option maxHeartbeats 4000000
namespace VT
open PySem PySem.Spec PyProof.Rows L2
open PySem.W (Codec)
theorem all_mk {P : Program} {w : World} {K : PySem.W.Frag} {h : Heap} {mg : Str → Option Value} {fa : Addr} (X : K.In h) (G : h.Ns mainGlobals mg) (hfa : mg "answers" = some (.ref fa))
    {f1 : Addr} {od1 an1 : Option Addr} {sl1 : Array (Option Value)} {oc1 kV1 dc1 pm1 cd1 ct1 : Value}
    {f2 : Addr} {od2 an2 : Option Addr} {sl2 : Array (Option Value)} {oc2 kV2 dc2 pm2 cd2 ct2 : Value}
    {f3 : Addr} {od3 an3 : Option Addr} {sl3 : Array (Option Value)} {oc3 kV3 dc3 pm3 cd3 ct3 : Value}
    {f4 : Addr} {od4 an4 : Option Addr} {sl4 : Array (Option Value)} {oc4 kV4 dc4 pm4 cd4 ct4 : Value}
    {f5 : Addr} {od5 an5 : Option Addr} {sl5 : Array (Option Value)} {oc5 kV5 dc5 pm5 cd5 ct5 : Value}
    {f6 : Addr} {od6 an6 : Option Addr} {sl6 : Array (Option Value)} {oc6 kV6 dc6 pm6 cd6 ct6 : Value}
    {f7 : Addr} {od7 an7 : Option Addr} {sl7 : Array (Option Value)} {oc7 kV7 dc7 pm7 cd7 ct7 : Value}
    {f8 : Addr} {od8 an8 : Option Addr} {sl8 : Array (Option Value)} {oc8 kV8 dc8 pm8 cd8 ct8 : Value}
    {f9 : Addr} {od9 an9 : Option Addr} {sl9 : Array (Option Value)} {oc9 kV9 dc9 pm9 cd9 ct9 : Value}
    {f10 : Addr} {od10 an10 : Option Addr} {sl10 : Array (Option Value)} {oc10 kV10 dc10 pm10 cd10 ct10 : Value}
    {f11 : Addr} {od11 an11 : Option Addr} {sl11 : Array (Option Value)} {oc11 kV11 dc11 pm11 cd11 ct11 : Value}
    {f12 : Addr} {od12 an12 : Option Addr} {sl12 : Array (Option Value)} {oc12 kV12 dc12 pm12 cd12 ct12 : Value}
    {f13 : Addr} {od13 an13 : Option Addr} {sl13 : Array (Option Value)} {oc13 kV13 dc13 pm13 cd13 ct13 : Value}
    {f14 : Addr} {od14 an14 : Option Addr} {sl14 : Array (Option Value)} {oc14 kV14 dc14 pm14 cd14 ct14 : Value}
    {f15 : Addr} {od15 an15 : Option Addr} {sl15 : Array (Option Value)} {oc15 kV15 dc15 pm15 cd15 ct15 : Value}
    {f16 : Addr} {od16 an16 : Option Addr} {sl16 : Array (Option Value)} {oc16 kV16 dc16 pm16 cd16 ct16 : Value}
    {f17 : Addr} {od17 an17 : Option Addr} {sl17 : Array (Option Value)} {oc17 kV17 dc17 pm17 cd17 ct17 : Value}
    {f18 : Addr} {od18 an18 : Option Addr} {sl18 : Array (Option Value)} {oc18 kV18 dc18 pm18 cd18 ct18 : Value}
    {f19 : Addr} {od19 an19 : Option Addr} {sl19 : Array (Option Value)} {oc19 kV19 dc19 pm19 cd19 ct19 : Value}
    {f20 : Addr} {od20 an20 : Option Addr} {sl20 : Array (Option Value)} {oc20 kV20 dc20 pm20 cd20 ct20 : Value}
    {f21 : Addr} {od21 an21 : Option Addr} {sl21 : Array (Option Value)} {oc21 kV21 dc21 pm21 cd21 ct21 : Value}
    {f22 : Addr} {od22 an22 : Option Addr} {sl22 : Array (Option Value)} {oc22 kV22 dc22 pm22 cd22 ct22 : Value}
    {f23 : Addr} {od23 an23 : Option Addr} {sl23 : Array (Option Value)} {oc23 kV23 dc23 pm23 cd23 ct23 : Value}
    {f24 : Addr} {od24 an24 : Option Addr} {sl24 : Array (Option Value)} {oc24 kV24 dc24 pm24 cd24 ct24 : Value}
    {f25 : Addr} {od25 an25 : Option Addr} {sl25 : Array (Option Value)} {oc25 kV25 dc25 pm25 cd25 ct25 : Value}
    {f26 : Addr} {od26 an26 : Option Addr} {sl26 : Array (Option Value)} {oc26 kV26 dc26 pm26 cd26 ct26 : Value}
    {f27 : Addr} {od27 an27 : Option Addr} {sl27 : Array (Option Value)} {oc27 kV27 dc27 pm27 cd27 ct27 : Value}
    {f28 : Addr} {od28 an28 : Option Addr} {sl28 : Array (Option Value)} {oc28 kV28 dc28 pm28 cd28 ct28 : Value}
    {f29 : Addr} {od29 an29 : Option Addr} {sl29 : Array (Option Value)} {oc29 kV29 dc29 pm29 cd29 ct29 : Value}
    {f30 : Addr} {od30 an30 : Option Addr} {sl30 : Array (Option Value)} {oc30 kV30 dc30 pm30 cd30 ct30 : Value}
    {f31 : Addr} {od31 an31 : Option Addr} {sl31 : Array (Option Value)} {oc31 kV31 dc31 pm31 cd31 ct31 : Value}
    {CV : Addr}
    {CT : Addr}
    {f32 : Addr} {od32 an32 : Option Addr} {sl32 : Array (Option Value)} {oc32 kV32 dc32 pm32 cd32 ct32 : Value}
    {f33 : Addr} {od33 an33 : Option Addr} {sl33 : Array (Option Value)} {oc33 kV33 dc33 pm33 cd33 ct33 : Value}
    {f34 : Addr} {od34 an34 : Option Addr} {sl34 : Array (Option Value)} {oc34 kV34 dc34 pm34 cd34 ct34 : Value}
    {f35 : Addr} {od35 an35 : Option Addr} {sl35 : Array (Option Value)} {oc35 kV35 dc35 pm35 cd35 ct35 : Value}
    {f36 : Addr} {od36 an36 : Option Addr} {sl36 : Array (Option Value)} {oc36 kV36 dc36 pm36 cd36 ct36 : Value}
    {f37 : Addr} {od37 an37 : Option Addr} {sl37 : Array (Option Value)} {oc37 kV37 dc37 pm37 cd37 ct37 : Value}
    {f38 : Addr} {od38 an38 : Option Addr} {sl38 : Array (Option Value)} {oc38 kV38 dc38 pm38 cd38 ct38 : Value}
    {f39 : Addr} {od39 an39 : Option Addr} {sl39 : Array (Option Value)} {oc39 kV39 dc39 pm39 cd39 ct39 : Value}
    {f40 : Addr} {od40 an40 : Option Addr} {sl40 : Array (Option Value)} {oc40 kV40 dc40 pm40 cd40 ct40 : Value}
    {f41 : Addr} {od41 an41 : Option Addr} {sl41 : Array (Option Value)} {oc41 kV41 dc41 pm41 cd41 ct41 : Value}
    {f42 : Addr} {od42 an42 : Option Addr} {sl42 : Array (Option Value)} {oc42 kV42 dc42 pm42 cd42 ct42 : Value}
    {f43 : Addr} {od43 an43 : Option Addr} {sl43 : Array (Option Value)} {oc43 kV43 dc43 pm43 cd43 ct43 : Value}
    {f44 : Addr} {od44 an44 : Option Addr} {sl44 : Array (Option Value)} {oc44 kV44 dc44 pm44 cd44 ct44 : Value}
    {f45 : Addr} {od45 an45 : Option Addr} {sl45 : Array (Option Value)} {oc45 kV45 dc45 pm45 cd45 ct45 : Value}
    {f46 : Addr} {od46 an46 : Option Addr} {sl46 : Array (Option Value)} {oc46 kV46 dc46 pm46 cd46 ct46 : Value}
    {f47 : Addr} {od47 an47 : Option Addr} {sl47 : Array (Option Value)} {oc47 kV47 dc47 pm47 cd47 ct47 : Value}
    {f48 : Addr} {od48 an48 : Option Addr} {sl48 : Array (Option Value)} {oc48 kV48 dc48 pm48 cd48 ct48 : Value}
    {f49 : Addr} {od49 an49 : Option Addr} {sl49 : Array (Option Value)} {oc49 kV49 dc49 pm49 cd49 ct49 : Value}
    {tk0 : Tok}
    {tk1 : Tok}
    {tk2 : Tok}
    {tk3 : Tok}
    {tk4 : Tok}
    {tk5 : Tok}
    {tk6 : Tok}
    {tk7 : Tok}
    {tk8 : Tok}
    {tk9 : Tok}
    {tk10 : Tok}
    {tk11 : Tok}
    {tk12 : Tok}
    {tk13 : Tok}
    {tk14 : Tok}
    {aC aF : Addr} {dC dF : Option Addr} {uC uF : Nat} {sC sF : Array (Option Value)} {y0 y1 y2 y3 y4 y5 y6 y7 y8 y9 y10 y11 y12 y13 y14 y15 y16 y17 y18 y19 : Tok}
    (a1 : PySem.W.nsIn K mainGlobals "members" = some (some (.ref f1)))
    (l1 : K.lookup f1 = some ⟨oc1, od1, .func (PySem.W.fnOf "members" "members" (defArgs sMembers) (defBody sMembers) (defScope sMembers) .none kV1 dc1 pm1 an1 cd1 ct1), sl1⟩)
    (c1 : PySem.W.codeIn K cd1 "members" = true)
    (k1 : PySem.W.keepIn K (.ref f1) = true)
    (a2 : PySem.W.nsIn K mainGlobals "row_count" = some (some (.ref f2)))
    (l2 : K.lookup f2 = some ⟨oc2, od2, .func (PySem.W.fnOf "row_count" "row_count" (defArgs sRowCount) (defBody sRowCount) (defScope sRowCount) .none kV2 dc2 pm2 an2 cd2 ct2), sl2⟩)
    (c2 : PySem.W.codeIn K cd2 "row_count" = true)
    (k2 : PySem.W.keepIn K (.ref f2) = true)
    (a3 : PySem.W.nsIn K mainGlobals "row_of" = some (some (.ref f3)))
    (l3 : K.lookup f3 = some ⟨oc3, od3, .func (PySem.W.fnOf "row_of" "row_of" (defArgs sRowOf) (defBody sRowOf) (defScope sRowOf) .none kV3 dc3 pm3 an3 cd3 ct3), sl3⟩)
    (c3 : PySem.W.codeIn K cd3 "row_of" = true)
    (k3 : PySem.W.keepIn K (.ref f3) = true)
    (a4 : PySem.W.nsIn K mainGlobals "world_of" = some (some (.ref f4)))
    (l4 : K.lookup f4 = some ⟨oc4, od4, .func (PySem.W.fnOf "world_of" "world_of" (defArgs sWorldOf) (defBody sWorldOf) (defScope sWorldOf) .none kV4 dc4 pm4 an4 cd4 ct4), sl4⟩)
    (c4 : PySem.W.codeIn K cd4 "world_of" = true)
    (k4 : PySem.W.keepIn K (.ref f4) = true)
    (a5 : PySem.W.nsIn K mainGlobals "common_part" = some (some (.ref f5)))
    (l5 : K.lookup f5 = some ⟨oc5, od5, .func (PySem.W.fnOf "common_part" "common_part" (defArgs sCommon) (defBody sCommon) (defScope sCommon) .none kV5 dc5 pm5 an5 cd5 ct5), sl5⟩)
    (c5 : PySem.W.codeIn K cd5 "common_part" = true)
    (k5 : PySem.W.keepIn K (.ref f5) = true)
    (a6 : PySem.W.nsIn K mainGlobals "fraction" = some (some (.ref f6)))
    (l6 : K.lookup f6 = some ⟨oc6, od6, .func (PySem.W.fnOf "fraction" "fraction" (defArgs sFraction) (defBody sFraction) (defScope sFraction) .none kV6 dc6 pm6 an6 cd6 ct6), sl6⟩)
    (c6 : PySem.W.codeIn K cd6 "fraction" = true)
    (k6 : PySem.W.keepIn K (.ref f6) = true)
    (a7 : PySem.W.nsIn K mainGlobals "answer_begin" = some (some (.ref f7)))
    (l7 : K.lookup f7 = some ⟨oc7, od7, .func (PySem.W.fnOf "answer_begin" "answer_begin" (defArgs sBegin) (defBody sBegin) (defScope sBegin) .none kV7 dc7 pm7 an7 cd7 ct7), sl7⟩)
    (c7 : PySem.W.codeIn K cd7 "answer_begin" = true)
    (k7 : PySem.W.keepIn K (.ref f7) = true)
    (a8 : PySem.W.nsIn K mainGlobals "answer_view" = some (some (.ref f8)))
    (l8 : K.lookup f8 = some ⟨oc8, od8, .func (PySem.W.fnOf "answer_view" "answer_view" (defArgs sViewC) (defBody sViewC) (defScope sViewC) .none kV8 dc8 pm8 an8 cd8 ct8), sl8⟩)
    (c8 : PySem.W.codeIn K cd8 "answer_view" = true)
    (k8 : PySem.W.keepIn K (.ref f8) = true)
    (a9 : PySem.W.nsIn K mainGlobals "answer_unview" = some (some (.ref f9)))
    (l9 : K.lookup f9 = some ⟨oc9, od9, .func (PySem.W.fnOf "answer_unview" "answer_unview" (defArgs sUnview) (defBody sUnview) (defScope sUnview) .none kV9 dc9 pm9 an9 cd9 ct9), sl9⟩)
    (c9 : PySem.W.codeIn K cd9 "answer_unview" = true)
    (k9 : PySem.W.keepIn K (.ref f9) = true)
    (a10 : PySem.W.nsIn K mainGlobals "answer_table" = some (some (.ref f10)))
    (l10 : K.lookup f10 = some ⟨oc10, od10, .func (PySem.W.fnOf "answer_table" "answer_table" (defArgs sTable) (defBody sTable) (defScope sTable) .none kV10 dc10 pm10 an10 cd10 ct10), sl10⟩)
    (c10 : PySem.W.codeIn K cd10 "answer_table" = true)
    (k10 : PySem.W.keepIn K (.ref f10) = true)
    (a11 : PySem.W.nsIn K mainGlobals "answer_viewis" = some (some (.ref f11)))
    (l11 : K.lookup f11 = some ⟨oc11, od11, .func (PySem.W.fnOf "answer_viewis" "answer_viewis" (defArgs sViewis) (defBody sViewis) (defScope sViewis) .none kV11 dc11 pm11 an11 cd11 ct11), sl11⟩)
    (c11 : PySem.W.codeIn K cd11 "answer_viewis" = true)
    (k11 : PySem.W.keepIn K (.ref f11) = true)
    (a12 : PySem.W.nsIn K mainGlobals "answer_world" = some (some (.ref f12)))
    (l12 : K.lookup f12 = some ⟨oc12, od12, .func (PySem.W.fnOf "answer_world" "answer_world" (defArgs sWorld) (defBody sWorld) (defScope sWorld) .none kV12 dc12 pm12 an12 cd12 ct12), sl12⟩)
    (c12 : PySem.W.codeIn K cd12 "answer_world" = true)
    (k12 : PySem.W.keepIn K (.ref f12) = true)
    (a13 : PySem.W.nsIn K mainGlobals "answer_share" = some (some (.ref f13)))
    (l13 : K.lookup f13 = some ⟨oc13, od13, .func (PySem.W.fnOf "answer_share" "answer_share" (defArgs sShareC) (defBody sShareC) (defScope sShareC) .none kV13 dc13 pm13 an13 cd13 ct13), sl13⟩)
    (c13 : PySem.W.codeIn K cd13 "answer_share" = true)
    (k13 : PySem.W.keepIn K (.ref f13) = true)
    (a14 : PySem.W.nsIn K mainGlobals "answer_margin" = some (some (.ref f14)))
    (l14 : K.lookup f14 = some ⟨oc14, od14, .func (PySem.W.fnOf "answer_margin" "answer_margin" (defArgs sMarginC) (defBody sMarginC) (defScope sMarginC) .none kV14 dc14 pm14 an14 cd14 ct14), sl14⟩)
    (c14 : PySem.W.codeIn K cd14 "answer_margin" = true)
    (k14 : PySem.W.keepIn K (.ref f14) = true)
    (a15 : PySem.W.nsIn K mainGlobals "answer_agree" = some (some (.ref f15)))
    (l15 : K.lookup f15 = some ⟨oc15, od15, .func (PySem.W.fnOf "answer_agree" "answer_agree" (defArgs sAgreeC) (defBody sAgreeC) (defScope sAgreeC) .none kV15 dc15 pm15 an15 cd15 ct15), sl15⟩)
    (c15 : PySem.W.codeIn K cd15 "answer_agree" = true)
    (k15 : PySem.W.keepIn K (.ref f15) = true)
    (a16 : PySem.W.nsIn K mainGlobals "answer_off" = some (some (.ref f16)))
    (l16 : K.lookup f16 = some ⟨oc16, od16, .func (PySem.W.fnOf "answer_off" "answer_off" (defArgs sOff) (defBody sOff) (defScope sOff) .none kV16 dc16 pm16 an16 cd16 ct16), sl16⟩)
    (c16 : PySem.W.codeIn K cd16 "answer_off" = true)
    (k16 : PySem.W.keepIn K (.ref f16) = true)
    (a17 : PySem.W.nsIn K mainGlobals "counted" = some (some (.ref f17)))
    (l17 : K.lookup f17 = some ⟨oc17, od17, .func (PySem.W.fnOf "counted" "counted" (defArgs sCounted) (defBody sCounted) (defScope sCounted) .none kV17 dc17 pm17 an17 cd17 ct17), sl17⟩)
    (c17 : PySem.W.codeIn K cd17 "counted" = true)
    (k17 : PySem.W.keepIn K (.ref f17) = true)
    (a18 : PySem.W.nsIn K mainGlobals "answer_worlds" = some (some (.ref f18)))
    (l18 : K.lookup f18 = some ⟨oc18, od18, .func (PySem.W.fnOf "answer_worlds" "answer_worlds" (defArgs sWorlds) (defBody sWorlds) (defScope sWorlds) .none kV18 dc18 pm18 an18 cd18 ct18), sl18⟩)
    (c18 : PySem.W.codeIn K cd18 "answer_worlds" = true)
    (k18 : PySem.W.keepIn K (.ref f18) = true)
    (a19 : PySem.W.nsIn K mainGlobals "answer_fits" = some (some (.ref f19)))
    (l19 : K.lookup f19 = some ⟨oc19, od19, .func (PySem.W.fnOf "answer_fits" "answer_fits" (defArgs sFitsC) (defBody sFitsC) (defScope sFitsC) .none kV19 dc19 pm19 an19 cd19 ct19), sl19⟩)
    (c19 : PySem.W.codeIn K cd19 "answer_fits" = true)
    (k19 : PySem.W.keepIn K (.ref f19) = true)
    (a20 : PySem.W.nsIn K mainGlobals "answer_shown" = some (some (.ref f20)))
    (l20 : K.lookup f20 = some ⟨oc20, od20, .func (PySem.W.fnOf "answer_shown" "answer_shown" (defArgs sShown) (defBody sShown) (defScope sShown) .none kV20 dc20 pm20 an20 cd20 ct20), sl20⟩)
    (c20 : PySem.W.codeIn K cd20 "answer_shown" = true)
    (k20 : PySem.W.keepIn K (.ref f20) = true)
    (a21 : PySem.W.nsIn K mainGlobals "answer_lonely" = some (some (.ref f21)))
    (l21 : K.lookup f21 = some ⟨oc21, od21, .func (PySem.W.fnOf "answer_lonely" "answer_lonely" (defArgs sLonely) (defBody sLonely) (defScope sLonely) .none kV21 dc21 pm21 an21 cd21 ct21), sl21⟩)
    (c21 : PySem.W.codeIn K cd21 "answer_lonely" = true)
    (k21 : PySem.W.keepIn K (.ref f21) = true)
    (a22 : PySem.W.nsIn K mainGlobals "size_then_members" = some (some (.ref f22)))
    (l22 : K.lookup f22 = some ⟨oc22, od22, .func (PySem.W.fnOf "size_then_members" "size_then_members" (defArgs sSize) (defBody sSize) (defScope sSize) .none kV22 dc22 pm22 an22 cd22 ct22), sl22⟩)
    (c22 : PySem.W.codeIn K cd22 "size_then_members" = true)
    (k22 : PySem.W.keepIn K (.ref f22) = true)
    (a23 : PySem.W.nsIn K mainGlobals "answer_fewest" = some (some (.ref f23)))
    (l23 : K.lookup f23 = some ⟨oc23, od23, .func (PySem.W.fnOf "answer_fewest" "answer_fewest" (defArgs sFewest) (defBody sFewest) (defScope sFewest) .none kV23 dc23 pm23 an23 cd23 ct23), sl23⟩)
    (c23 : PySem.W.codeIn K cd23 "answer_fewest" = true)
    (k23 : PySem.W.keepIn K (.ref f23) = true)
    (a24 : PySem.W.nsIn K mainGlobals "answer_most" = some (some (.ref f24)))
    (l24 : K.lookup f24 = some ⟨oc24, od24, .func (PySem.W.fnOf "answer_most" "answer_most" (defArgs sMost) (defBody sMost) (defScope sMost) .none kV24 dc24 pm24 an24 cd24 ct24), sl24⟩)
    (c24 : PySem.W.codeIn K cd24 "answer_most" = true)
    (k24 : PySem.W.keepIn K (.ref f24) = true)
    (a25 : PySem.W.nsIn K mainGlobals "answer_together" = some (some (.ref f25)))
    (l25 : K.lookup f25 = some ⟨oc25, od25, .func (PySem.W.fnOf "answer_together" "answer_together" (defArgs sTogether) (defBody sTogether) (defScope sTogether) .none kV25 dc25 pm25 an25 cd25 ct25), sl25⟩)
    (c25 : PySem.W.codeIn K cd25 "answer_together" = true)
    (k25 : PySem.W.keepIn K (.ref f25) = true)
    (a26 : PySem.W.nsIn K mainGlobals "answer_without" = some (some (.ref f26)))
    (l26 : K.lookup f26 = some ⟨oc26, od26, .func (PySem.W.fnOf "answer_without" "answer_without" (defArgs sWithout) (defBody sWithout) (defScope sWithout) .none kV26 dc26 pm26 an26 cd26 ct26), sl26⟩)
    (c26 : PySem.W.codeIn K cd26 "answer_without" = true)
    (k26 : PySem.W.keepIn K (.ref f26) = true)
    (a27 : PySem.W.nsIn K mainGlobals "answer_sure" = some (some (.ref f27)))
    (l27 : K.lookup f27 = some ⟨oc27, od27, .func (PySem.W.fnOf "answer_sure" "answer_sure" (defArgs sSure) (defBody sSure) (defScope sSure) .none kV27 dc27 pm27 an27 cd27 ct27), sl27⟩)
    (c27 : PySem.W.codeIn K cd27 "answer_sure" = true)
    (k27 : PySem.W.keepIn K (.ref f27) = true)
    (a28 : PySem.W.nsIn K mainGlobals "answer_ask" = some (some (.ref f28)))
    (l28 : K.lookup f28 = some ⟨oc28, od28, .func (PySem.W.fnOf "answer_ask" "answer_ask" (defArgs sAsk) (defBody sAsk) (defScope sAsk) .none kV28 dc28 pm28 an28 cd28 ct28), sl28⟩)
    (c28 : PySem.W.codeIn K cd28 "answer_ask" = true)
    (k28 : PySem.W.keepIn K (.ref f28) = true)
    (a29 : PySem.W.nsIn K mainGlobals "answer_call" = some (some (.ref f29)))
    (l29 : K.lookup f29 = some ⟨oc29, od29, .func (PySem.W.fnOf "answer_call" "answer_call" (defArgs sAnswerCall) (defBody sAnswerCall) (defScope sAnswerCall) .none kV29 dc29 pm29 an29 cd29 ct29), sl29⟩)
    (c29 : PySem.W.codeIn K cd29 "answer_call" = true)
    (k29 : PySem.W.keepIn K (.ref f29) = true)
    (a30 : PySem.W.nsIn K mainGlobals "call_end" = some (some (.ref f30)))
    (l30 : K.lookup f30 = some ⟨oc30, od30, .func (PySem.W.fnOf "call_end" "call_end" (defArgs sCallEnd) (defBody sCallEnd) (defScope sCallEnd) .none kV30 dc30 pm30 an30 cd30 ct30), sl30⟩)
    (c30 : PySem.W.codeIn K cd30 "call_end" = true)
    (k30 : PySem.W.keepIn K (.ref f30) = true)
    (a31 : PySem.W.nsIn K mainGlobals "answers" = some (some (.ref f31)))
    (l31 : K.lookup f31 = some ⟨oc31, od31, .func (PySem.W.fnOf "answers" "answers" (defArgs sAnswers) (defBody sAnswers) (defScope sAnswers) .none kV31 dc31 pm31 an31 cd31 ct31), sl31⟩)
    (c31 : PySem.W.codeIn K cd31 "answers" = true)
    (k31 : PySem.W.keepIn K (.ref f31) = true)
    (aV : PySem.W.nsIn K mainGlobals "View" = some (some (.ref CV)))
    (pgV : PySem.W.plainGet K CV Str.empty = true)
    (hdV : PySem.W.hasDictIn K CV = true)
    (poV : PySem.W.plainOver K CV = true)
    (saV : PySem.W.findIn K (.ref CV) "__setattr__" = some (some (.builtin "object.__setattr__")))
    (mkV : PySem.W.makesIn K CV = true)
    (kcV : PySem.W.keepIn K (.ref CV) = true)
    (aT : PySem.W.nsIn K mainGlobals "Thing" = some (some (.ref CT)))
    (pgT : PySem.W.plainGet K CT Str.empty = true)
    (hdT : PySem.W.hasDictIn K CT = true)
    (poT : PySem.W.plainOver K CT = true)
    (saT : PySem.W.findIn K (.ref CT) "__setattr__" = some (some (.builtin "object.__setattr__")))
    (mkT : PySem.W.makesIn K CT = true)
    (kcT : PySem.W.keepIn K (.ref CT) = true)
    (nQ : PySem.W.findIn K (.ref CV) "questions" = some none)
    (nT : PySem.W.findIn K (.ref CV) "table" = some none)
    (nN : PySem.W.findIn K (.ref CT) "question_count" = some none)
    (nV : PySem.W.findIn K (.ref CT) "views" = some none)
    (a32 : PySem.W.findIn K (.ref CV) "__init__" = some (some (.ref f32)))
    (i32 : PySem.W.isFn K (.ref f32) = true)
    (l32 : K.lookup f32 = some ⟨oc32, od32, .func (PySem.W.fnOf "__init__" "View.__init__" (defArgs sVInit) (defBody sVInit) (defScope sVInit) .none kV32 dc32 pm32 an32 cd32 ct32), sl32⟩)
    (c32 : PySem.W.codeIn K cd32 "View.__init__" = true)
    (k32 : PySem.W.keepIn K (.ref f32) = true)
    (a33 : PySem.W.findIn K (.ref CV) "see" = some (some (.ref f33)))
    (i33 : PySem.W.isFn K (.ref f33) = true)
    (l33 : K.lookup f33 = some ⟨oc33, od33, .func (PySem.W.fnOf "see" "View.see" (defArgs sSee) (defBody sSee) (defScope sSee) .none kV33 dc33 pm33 an33 cd33 ct33), sl33⟩)
    (c33 : PySem.W.codeIn K cd33 "View.see" = true)
    (k33 : PySem.W.keepIn K (.ref f33) = true)
    (a34 : PySem.W.findIn K (.ref CV) "has_seen" = some (some (.ref f34)))
    (i34 : PySem.W.isFn K (.ref f34) = true)
    (l34 : K.lookup f34 = some ⟨oc34, od34, .func (PySem.W.fnOf "has_seen" "View.has_seen" (defArgs sHasSeen) (defBody sHasSeen) (defScope sHasSeen) .none kV34 dc34 pm34 an34 cd34 ct34), sl34⟩)
    (c34 : PySem.W.codeIn K cd34 "View.has_seen" = true)
    (k34 : PySem.W.keepIn K (.ref f34) = true)
    (a35 : PySem.W.findIn K (.ref CV) "fits" = some (some (.ref f35)))
    (i35 : PySem.W.isFn K (.ref f35) = true)
    (l35 : K.lookup f35 = some ⟨oc35, od35, .func (PySem.W.fnOf "fits" "View.fits" (defArgs sFits) (defBody sFits) (defScope sFits) .none kV35 dc35 pm35 an35 cd35 ct35), sl35⟩)
    (c35 : PySem.W.codeIn K cd35 "View.fits" = true)
    (k35 : PySem.W.keepIn K (.ref f35) = true)
    (a36 : PySem.W.findIn K (.ref CV) "share" = some (some (.ref f36)))
    (i36 : PySem.W.isFn K (.ref f36) = true)
    (l36 : K.lookup f36 = some ⟨oc36, od36, .func (PySem.W.fnOf "share" "View.share" (defArgs sShare) (defBody sShare) (defScope sShare) .none kV36 dc36 pm36 an36 cd36 ct36), sl36⟩)
    (c36 : PySem.W.codeIn K cd36 "View.share" = true)
    (k36 : PySem.W.keepIn K (.ref f36) = true)
    (a37 : PySem.W.findIn K (.ref CV) "margin" = some (some (.ref f37)))
    (i37 : PySem.W.isFn K (.ref f37) = true)
    (l37 : K.lookup f37 = some ⟨oc37, od37, .func (PySem.W.fnOf "margin" "View.margin" (defArgs sMargin) (defBody sMargin) (defScope sMargin) .none kV37 dc37 pm37 an37 cd37 ct37), sl37⟩)
    (c37 : PySem.W.codeIn K cd37 "View.margin" = true)
    (k37 : PySem.W.keepIn K (.ref f37) = true)
    (a38 : PySem.W.findIn K (.ref CV) "agrees" = some (some (.ref f38)))
    (i38 : PySem.W.isFn K (.ref f38) = true)
    (l38 : K.lookup f38 = some ⟨oc38, od38, .func (PySem.W.fnOf "agrees" "View.agrees" (defArgs sAgrees) (defBody sAgrees) (defScope sAgrees) .none kV38 dc38 pm38 an38 cd38 ct38), sl38⟩)
    (c38 : PySem.W.codeIn K cd38 "View.agrees" = true)
    (k38 : PySem.W.keepIn K (.ref f38) = true)
    (a39 : PySem.W.findIn K (.ref CT) "__init__" = some (some (.ref f39)))
    (i39 : PySem.W.isFn K (.ref f39) = true)
    (l39 : K.lookup f39 = some ⟨oc39, od39, .func (PySem.W.fnOf "__init__" "Thing.__init__" (defArgs sTInit) (defBody sTInit) (defScope sTInit) .none kV39 dc39 pm39 an39 cd39 ct39), sl39⟩)
    (c39 : PySem.W.codeIn K cd39 "Thing.__init__" = true)
    (k39 : PySem.W.keepIn K (.ref f39) = true)
    (a40 : PySem.W.findIn K (.ref CT) "has_view" = some (some (.ref f40)))
    (i40 : PySem.W.isFn K (.ref f40) = true)
    (l40 : K.lookup f40 = some ⟨oc40, od40, .func (PySem.W.fnOf "has_view" "Thing.has_view" (defArgs sHasView) (defBody sHasView) (defScope sHasView) .none kV40 dc40 pm40 an40 cd40 ct40), sl40⟩)
    (c40 : PySem.W.codeIn K cd40 "Thing.has_view" = true)
    (k40 : PySem.W.keepIn K (.ref f40) = true)
    (a41 : PySem.W.findIn K (.ref CT) "has_row" = some (some (.ref f41)))
    (i41 : PySem.W.isFn K (.ref f41) = true)
    (l41 : K.lookup f41 = some ⟨oc41, od41, .func (PySem.W.fnOf "has_row" "Thing.has_row" (defArgs sHasRow) (defBody sHasRow) (defScope sHasRow) .none kV41 dc41 pm41 an41 cd41 ct41), sl41⟩)
    (c41 : PySem.W.codeIn K cd41 "Thing.has_row" = true)
    (k41 : PySem.W.keepIn K (.ref f41) = true)
    (a42 : PySem.W.findIn K (.ref CT) "has_world" = some (some (.ref f42)))
    (i42 : PySem.W.isFn K (.ref f42) = true)
    (l42 : K.lookup f42 = some ⟨oc42, od42, .func (PySem.W.fnOf "has_world" "Thing.has_world" (defArgs sHasWorld) (defBody sHasWorld) (defScope sHasWorld) .none kV42 dc42 pm42 an42 cd42 ct42), sl42⟩)
    (c42 : PySem.W.codeIn K cd42 "Thing.has_world" = true)
    (k42 : PySem.W.keepIn K (.ref f42) = true)
    (a43 : PySem.W.findIn K (.ref CT) "world_count" = some (some (.ref f43)))
    (i43 : PySem.W.isFn K (.ref f43) = true)
    (l43 : K.lookup f43 = some ⟨oc43, od43, .func (PySem.W.fnOf "world_count" "Thing.world_count" (defArgs sWorldCount) (defBody sWorldCount) (defScope sWorldCount) .none kV43 dc43 pm43 an43 cd43 ct43), sl43⟩)
    (c43 : PySem.W.codeIn K cd43 "Thing.world_count" = true)
    (k43 : PySem.W.keepIn K (.ref f43) = true)
    (a44 : PySem.W.findIn K (.ref CT) "all_views" = some (some (.ref f44)))
    (i44 : PySem.W.isFn K (.ref f44) = true)
    (l44 : K.lookup f44 = some ⟨oc44, od44, .func (PySem.W.fnOf "all_views" "Thing.all_views" (defArgs sAllViews) (defBody sAllViews) (defScope sAllViews) .none kV44 dc44 pm44 an44 cd44 ct44), sl44⟩)
    (c44 : PySem.W.codeIn K cd44 "Thing.all_views" = true)
    (k44 : PySem.W.keepIn K (.ref f44) = true)
    (a45 : PySem.W.findIn K (.ref CT) "may_view" = some (some (.ref f45)))
    (i45 : PySem.W.isFn K (.ref f45) = true)
    (l45 : K.lookup f45 = some ⟨oc45, od45, .func (PySem.W.fnOf "may_view" "Thing.may_view" (defArgs sMayView) (defBody sMayView) (defScope sMayView) .none kV45 dc45 pm45 an45 cd45 ct45), sl45⟩)
    (c45 : PySem.W.codeIn K cd45 "Thing.may_view" = true)
    (k45 : PySem.W.keepIn K (.ref f45) = true)
    (a46 : PySem.W.findIn K (.ref CT) "views_fitted" = some (some (.ref f46)))
    (i46 : PySem.W.isFn K (.ref f46) = true)
    (l46 : K.lookup f46 = some ⟨oc46, od46, .func (PySem.W.fnOf "views_fitted" "Thing.views_fitted" (defArgs sViewsFitted) (defBody sViewsFitted) (defScope sViewsFitted) .none kV46 dc46 pm46 an46 cd46 ct46), sl46⟩)
    (c46 : PySem.W.codeIn K cd46 "Thing.views_fitted" = true)
    (k46 : PySem.W.keepIn K (.ref f46) = true)
    (a47 : PySem.W.findIn K (.ref CT) "worlds_fitting" = some (some (.ref f47)))
    (i47 : PySem.W.isFn K (.ref f47) = true)
    (l47 : K.lookup f47 = some ⟨oc47, od47, .func (PySem.W.fnOf "worlds_fitting" "Thing.worlds_fitting" (defArgs sWorldsFitting) (defBody sWorldsFitting) (defScope sWorldsFitting) .none kV47 dc47 pm47 an47 cd47 ct47), sl47⟩)
    (c47 : PySem.W.codeIn K cd47 "Thing.worlds_fitting" = true)
    (k47 : PySem.W.keepIn K (.ref f47) = true)
    (a48 : PySem.W.findIn K (.ref CT) "worlds_showing" = some (some (.ref f48)))
    (i48 : PySem.W.isFn K (.ref f48) = true)
    (l48 : K.lookup f48 = some ⟨oc48, od48, .func (PySem.W.fnOf "worlds_showing" "Thing.worlds_showing" (defArgs sWorldsShowing) (defBody sWorldsShowing) (defScope sWorldsShowing) .none kV48 dc48 pm48 an48 cd48 ct48), sl48⟩)
    (c48 : PySem.W.codeIn K cd48 "Thing.worlds_showing" = true)
    (k48 : PySem.W.keepIn K (.ref f48) = true)
    (a49 : PySem.W.findIn K (.ref CT) "apart" = some (some (.ref f49)))
    (i49 : PySem.W.isFn K (.ref f49) = true)
    (l49 : K.lookup f49 = some ⟨oc49, od49, .func (PySem.W.fnOf "apart" "Thing.apart" (defArgs sApart) (defBody sApart) (defScope sApart) .none kV49 dc49 pm49 an49 cd49 ct49), sl49⟩)
    (c49 : PySem.W.codeIn K cd49 "Thing.apart" = true)
    (k49 : PySem.W.keepIn K (.ref f49) = true)
    (q0 : PySem.W.nsIn K mainGlobals "NO_SUCH" = some (some (.int (-2) tk0)))
    (q1 : PySem.W.nsIn K mainGlobals "NONE_FOUND" = some (some (.int (-6) tk1)))
    (q2 : PySem.W.nsIn K mainGlobals "NOT_BEGUN" = some (some (.int (-11) tk2)))
    (q3 : PySem.W.nsIn K mainGlobals "SAME_VIEW" = some (some (.int (-17) tk3)))
    (q4 : PySem.W.nsIn K mainGlobals "NOT_ALLOWED" = some (some (.int (-22) tk4)))
    (q5 : PySem.W.nsIn K mainGlobals "TOO_MANY" = some (some (.int (-28) tk5)))
    (q6 : PySem.W.nsIn K mainGlobals "NOTHING_TO_TELL" = some (some (.int (-33) tk6)))
    (q7 : PySem.W.nsIn K mainGlobals "FEWEST_QUESTIONS" = some (some (.int 2 tk7)))
    (q8 : PySem.W.nsIn K mainGlobals "MOST_QUESTIONS" = some (some (.int 5 tk8)))
    (q9 : PySem.W.nsIn K mainGlobals "MOST_IN_VIEW" = some (some (.int 3 tk9)))
    (q10 : PySem.W.nsIn K mainGlobals "MOST_VIEWS" = some (some (.int 6 tk10)))
    (q11 : PySem.W.nsIn K mainGlobals "MOST_SEEN" = some (some (.int 100 tk11)))
    (q12 : PySem.W.nsIn K mainGlobals "UNSURE" = some (some (.int 2 tk12)))
    (q13 : PySem.W.nsIn K mainGlobals "BEGIN" = some (some (.int 0 tk13)))
    (q14 : PySem.W.nsIn K mainGlobals "TABLE" = some (some (.int 3 tk14)))
    (o_range : PySem.W.nsIn K mainGlobals "range" = some none)
    (o_len : PySem.W.nsIn K mainGlobals "len" = some none)
    (o_enumerate : PySem.W.nsIn K mainGlobals "enumerate" = some none)
    (o_sum : PySem.W.nsIn K mainGlobals "sum" = some none)
    (o_min : PySem.W.nsIn K mainGlobals "min" = some none)
    (o_max : PySem.W.nsIn K mainGlobals "max" = some none)
    (o_any : PySem.W.nsIn K mainGlobals "any" = some none)
    (gC : PySem.W.nsIn K mainGlobals "ARGUMENT_COUNTS" = some (some (.ref aC)))
    (lC : K.lookup aC = some ⟨.type "tuple", dC, .seq #[.int 1 y0, .int 1 y1, .int 1 y2, .int 1 y3, .int 1 y4, .int 1 y5, .int 2 y6, .int 2 y7, .int 2 y8, .int 0 y9, .int 0 y10, .int 1 y11, .int 2 y12, .int 0 y13, .int 0 y14, .int 0 y15, .int 1 y16, .int 1 y17, .int 1 y18, .int 2 y19] uC, sC⟩)
    (gF : PySem.W.nsIn K mainGlobals "ANSWERS_BY_CALL" = some (some (.ref aF)))
    (lF : K.lookup aF = some ⟨.type "tuple", dF, .seq #[.ref f7, .ref f8, .ref f9, .ref f10, .ref f11, .ref f12, .ref f13, .ref f14, .ref f15, .ref f16, .ref f18, .ref f19, .ref f20, .ref f21, .ref f23, .ref f24, .ref f25, .ref f26, .ref f27, .ref f28] uF, sF⟩)
    : ∃ fd : FuncData, (∀ (s : Shared) (us : List Value), us.length = (["calls"] : List Str).length → BindsTo s fd ⟨us, []⟩ ((["calls"] : List Str).zip us)) ∧ ∀ base : Heap, K.In base → base.Ns mainGlobals mg → FnOk P w K mg base CX0 9 fa fd ["calls"] (spAnswers K 20) := by
  have e := hfa.symm.trans (PySem.W.mg_of X G a31)
  cases e
  have F1 := fun_mk (st := sMembers) l1 c1 k1
  have b1 := F1.binds (ps := ["chosen"]) fun _ _ _ _ _ _ us hl => match us, hl with | [_], _ => rfl
  have g1 := PySem.W.mg_of X G a1
  have F2 := fun_mk (st := sRowCount) l2 c2 k2
  have b2 := F2.binds (ps := ["questions"]) fun _ _ _ _ _ _ us hl => match us, hl with | [_], _ => rfl
  have g2 := PySem.W.mg_of X G a2
  have F3 := fun_mk (st := sRowOf) l3 c3 k3
  have b3 := F3.binds (ps := ["world", "questions"]) fun _ _ _ _ _ _ us hl => match us, hl with | [_, _], _ => rfl
  have g3 := PySem.W.mg_of X G a3
  have F4 := fun_mk (st := sWorldOf) l4 c4 k4
  have b4 := F4.binds (ps := ["row", "questions"]) fun _ _ _ _ _ _ us hl => match us, hl with | [_, _], _ => rfl
  have g4 := PySem.W.mg_of X G a4
  have F5 := fun_mk (st := sCommon) l5 c5 k5
  have b5 := F5.binds (ps := ["first", "second"]) fun _ _ _ _ _ _ us hl => match us, hl with | [_, _], _ => rfl
  have g5 := PySem.W.mg_of X G a5
  have F6 := fun_mk (st := sFraction) l6 c6 k6
  have b6 := F6.binds (ps := ["part", "whole"]) fun _ _ _ _ _ _ us hl => match us, hl with | [_, _], _ => rfl
  have g6 := PySem.W.mg_of X G a6
  have F7 := fun_mk (st := sBegin) l7 c7 k7
  have b7 := F7.binds (ps := ["thing", "given"]) fun _ _ _ _ _ _ us hl => match us, hl with | [_, _], _ => rfl
  have g7 := PySem.W.mg_of X G a7
  have F8 := fun_mk (st := sViewC) l8 c8 k8
  have b8 := F8.binds (ps := ["thing", "given"]) fun _ _ _ _ _ _ us hl => match us, hl with | [_, _], _ => rfl
  have g8 := PySem.W.mg_of X G a8
  have F9 := fun_mk (st := sUnview) l9 c9 k9
  have b9 := F9.binds (ps := ["thing", "given"]) fun _ _ _ _ _ _ us hl => match us, hl with | [_, _], _ => rfl
  have g9 := PySem.W.mg_of X G a9
  have F10 := fun_mk (st := sTable) l10 c10 k10
  have b10 := F10.binds (ps := ["thing", "given"]) fun _ _ _ _ _ _ us hl => match us, hl with | [_, _], _ => rfl
  have g10 := PySem.W.mg_of X G a10
  have F11 := fun_mk (st := sViewis) l11 c11 k11
  have b11 := F11.binds (ps := ["thing", "given"]) fun _ _ _ _ _ _ us hl => match us, hl with | [_, _], _ => rfl
  have g11 := PySem.W.mg_of X G a11
  have F12 := fun_mk (st := sWorld) l12 c12 k12
  have b12 := F12.binds (ps := ["thing", "given"]) fun _ _ _ _ _ _ us hl => match us, hl with | [_, _], _ => rfl
  have g12 := PySem.W.mg_of X G a12
  have F13 := fun_mk (st := sShareC) l13 c13 k13
  have b13 := F13.binds (ps := ["thing", "given"]) fun _ _ _ _ _ _ us hl => match us, hl with | [_, _], _ => rfl
  have g13 := PySem.W.mg_of X G a13
  have F14 := fun_mk (st := sMarginC) l14 c14 k14
  have b14 := F14.binds (ps := ["thing", "given"]) fun _ _ _ _ _ _ us hl => match us, hl with | [_, _], _ => rfl
  have g14 := PySem.W.mg_of X G a14
  have F15 := fun_mk (st := sAgreeC) l15 c15 k15
  have b15 := F15.binds (ps := ["thing", "given"]) fun _ _ _ _ _ _ us hl => match us, hl with | [_, _], _ => rfl
  have g15 := PySem.W.mg_of X G a15
  have F16 := fun_mk (st := sOff) l16 c16 k16
  have b16 := F16.binds (ps := ["thing", "given"]) fun _ _ _ _ _ _ us hl => match us, hl with | [_, _], _ => rfl
  have g16 := PySem.W.mg_of X G a16
  have F17 := fun_mk (st := sCounted) l17 c17 k17
  have b17 := F17.binds (ps := ["found"]) fun _ _ _ _ _ _ us hl => match us, hl with | [_], _ => rfl
  have g17 := PySem.W.mg_of X G a17
  have F18 := fun_mk (st := sWorlds) l18 c18 k18
  have b18 := F18.binds (ps := ["thing", "given"]) fun _ _ _ _ _ _ us hl => match us, hl with | [_, _], _ => rfl
  have g18 := PySem.W.mg_of X G a18
  have F19 := fun_mk (st := sFitsC) l19 c19 k19
  have b19 := F19.binds (ps := ["thing", "given"]) fun _ _ _ _ _ _ us hl => match us, hl with | [_, _], _ => rfl
  have g19 := PySem.W.mg_of X G a19
  have F20 := fun_mk (st := sShown) l20 c20 k20
  have b20 := F20.binds (ps := ["thing", "given"]) fun _ _ _ _ _ _ us hl => match us, hl with | [_, _], _ => rfl
  have g20 := PySem.W.mg_of X G a20
  have F21 := fun_mk (st := sLonely) l21 c21 k21
  have b21 := F21.binds (ps := ["thing", "given"]) fun _ _ _ _ _ _ us hl => match us, hl with | [_, _], _ => rfl
  have g21 := PySem.W.mg_of X G a21
  have F22 := fun_mk (st := sSize) l22 c22 k22
  have b22 := F22.binds (ps := ["views"]) fun _ _ _ _ _ _ us hl => match us, hl with | [_], _ => rfl
  have g22 := PySem.W.mg_of X G a22
  have F23 := fun_mk (st := sFewest) l23 c23 k23
  have b23 := F23.binds (ps := ["thing", "given"]) fun _ _ _ _ _ _ us hl => match us, hl with | [_, _], _ => rfl
  have g23 := PySem.W.mg_of X G a23
  have F24 := fun_mk (st := sMost) l24 c24 k24
  have b24 := F24.binds (ps := ["thing", "given"]) fun _ _ _ _ _ _ us hl => match us, hl with | [_, _], _ => rfl
  have g24 := PySem.W.mg_of X G a24
  have F25 := fun_mk (st := sTogether) l25 c25 k25
  have b25 := F25.binds (ps := ["thing", "given"]) fun _ _ _ _ _ _ us hl => match us, hl with | [_, _], _ => rfl
  have g25 := PySem.W.mg_of X G a25
  have F26 := fun_mk (st := sWithout) l26 c26 k26
  have b26 := F26.binds (ps := ["thing", "given"]) fun _ _ _ _ _ _ us hl => match us, hl with | [_, _], _ => rfl
  have g26 := PySem.W.mg_of X G a26
  have F27 := fun_mk (st := sSure) l27 c27 k27
  have b27 := F27.binds (ps := ["thing", "given"]) fun _ _ _ _ _ _ us hl => match us, hl with | [_, _], _ => rfl
  have g27 := PySem.W.mg_of X G a27
  have F28 := fun_mk (st := sAsk) l28 c28 k28
  have b28 := F28.binds (ps := ["thing", "given"]) fun _ _ _ _ _ _ us hl => match us, hl with | [_, _], _ => rfl
  have g28 := PySem.W.mg_of X G a28
  have F29 := fun_mk (st := sAnswerCall) l29 c29 k29
  have b29 := F29.binds (ps := ["thing", "call", "given"]) fun _ _ _ _ _ _ us hl => match us, hl with | [_, _, _], _ => rfl
  have g29 := PySem.W.mg_of X G a29
  have F30 := fun_mk (st := sCallEnd) l30 c30 k30
  have b30 := F30.binds (ps := ["calls", "start"]) fun _ _ _ _ _ _ us hl => match us, hl with | [_, _], _ => rfl
  have g30 := PySem.W.mg_of X G a30
  have F31 := fun_mk (st := sAnswers) l31 c31 k31
  have b31 := F31.binds (ps := ["calls"]) fun _ _ _ _ _ _ us hl => match us, hl with | [_], _ => rfl
  have g31 := PySem.W.mg_of X G a31
  have F32 := fun_mk (st := sVInit) l32 c32 k32
  have b32 := F32.binds (ps := ["self", "questions"]) fun _ _ _ _ _ _ us hl => match us, hl with | [_, _], _ => rfl
  have F33 := fun_mk (st := sSee) l33 c33 k33
  have b33 := F33.binds (ps := ["self", "world"]) fun _ _ _ _ _ _ us hl => match us, hl with | [_, _], _ => rfl
  have F34 := fun_mk (st := sHasSeen) l34 c34 k34
  have b34 := F34.binds (ps := ["self", "row"]) fun _ _ _ _ _ _ us hl => match us, hl with | [_, _], _ => rfl
  have F35 := fun_mk (st := sFits) l35 c35 k35
  have b35 := F35.binds (ps := ["self", "world"]) fun _ _ _ _ _ _ us hl => match us, hl with | [_, _], _ => rfl
  have F36 := fun_mk (st := sShare) l36 c36 k36
  have b36 := F36.binds (ps := ["self", "row"]) fun _ _ _ _ _ _ us hl => match us, hl with | [_, _], _ => rfl
  have F37 := fun_mk (st := sMargin) l37 c37 k37
  have b37 := F37.binds (ps := ["self", "questions"]) fun _ _ _ _ _ _ us hl => match us, hl with | [_, _], _ => rfl
  have F38 := fun_mk (st := sAgrees) l38 c38 k38
  have b38 := F38.binds (ps := ["self", "other"]) fun _ _ _ _ _ _ us hl => match us, hl with | [_, _], _ => rfl
  have F39 := fun_mk (st := sTInit) l39 c39 k39
  have b39 := F39.binds (ps := ["self"]) fun _ _ _ _ _ _ us hl => match us, hl with | [_], _ => rfl
  have F40 := fun_mk (st := sHasView) l40 c40 k40
  have b40 := F40.binds (ps := ["self", "number"]) fun _ _ _ _ _ _ us hl => match us, hl with | [_, _], _ => rfl
  have F41 := fun_mk (st := sHasRow) l41 c41 k41
  have b41 := F41.binds (ps := ["self", "number", "row"]) fun _ _ _ _ _ _ us hl => match us, hl with | [_, _, _], _ => rfl
  have F42 := fun_mk (st := sHasWorld) l42 c42 k42
  have b42 := F42.binds (ps := ["self", "world"]) fun _ _ _ _ _ _ us hl => match us, hl with | [_, _], _ => rfl
  have F43 := fun_mk (st := sWorldCount) l43 c43 k43
  have b43 := F43.binds (ps := ["self"]) fun _ _ _ _ _ _ us hl => match us, hl with | [_], _ => rfl
  have F44 := fun_mk (st := sAllViews) l44 c44 k44
  have b44 := F44.binds (ps := ["self"]) fun _ _ _ _ _ _ us hl => match us, hl with | [_], _ => rfl
  have F45 := fun_mk (st := sMayView) l45 c45 k45
  have b45 := F45.binds (ps := ["self", "questions"]) fun _ _ _ _ _ _ us hl => match us, hl with | [_, _], _ => rfl
  have F46 := fun_mk (st := sViewsFitted) l46 c46 k46
  have b46 := F46.binds (ps := ["self", "world"]) fun _ _ _ _ _ _ us hl => match us, hl with | [_, _], _ => rfl
  have F47 := fun_mk (st := sWorldsFitting) l47 c47 k47
  have b47 := F47.binds (ps := ["self", "chosen"]) fun _ _ _ _ _ _ us hl => match us, hl with | [_, _], _ => rfl
  have F48 := fun_mk (st := sWorldsShowing) l48 c48 k48
  have b48 := F48.binds (ps := ["self", "number", "row"]) fun _ _ _ _ _ _ us hl => match us, hl with | [_, _, _], _ => rfl
  have F49 := fun_mk (st := sApart) l49 c49 k49
  have b49 := F49.binds (ps := ["self"]) fun _ _ _ _ _ _ us hl => match us, hl with | [_], _ => rfl
  have V' : TxtV K mg CV := ⟨⟨pgV, hdV, poV, saV⟩, nQ, nT, PySem.W.mg_of X G aV⟩
  have T : TxtT K mg CT := ⟨⟨pgT, hdT, poT, saT⟩, nN, nV, PySem.W.mg_of X G aT⟩
  have O : Own mg := ⟨PySem.W.mg_none_of X G o_range, PySem.W.mg_none_of X G o_len, PySem.W.mg_none_of X G o_enumerate, PySem.W.mg_none_of X G o_sum, PySem.W.mg_none_of X G o_min, PySem.W.mg_none_of X G o_max, PySem.W.mg_none_of X G o_any⟩
  have c : Cons mg := ⟨⟨_, PySem.W.mg_of X G q0⟩, ⟨_, PySem.W.mg_of X G q1⟩, ⟨_, PySem.W.mg_of X G q2⟩, ⟨_, PySem.W.mg_of X G q3⟩, ⟨_, PySem.W.mg_of X G q4⟩, ⟨_, PySem.W.mg_of X G q5⟩, ⟨_, PySem.W.mg_of X G q6⟩, ⟨_, PySem.W.mg_of X G q7⟩, ⟨_, PySem.W.mg_of X G q8⟩, ⟨_, PySem.W.mg_of X G q9⟩, ⟨_, PySem.W.mg_of X G q10⟩, ⟨_, PySem.W.mg_of X G q11⟩, ⟨_, PySem.W.mg_of X G q12⟩, ⟨_, PySem.W.mg_of X G q13⟩, ⟨_, PySem.W.mg_of X G q14⟩⟩
  have sC : ∀ H : Hp, SqT K H aC (nats argL) := fun H => .inr ⟨_, _, _, lC, rfl, rfl, (by show 20 ≤ sizeLine; decide), .cons ⟨_, rfl⟩ (.cons ⟨_, rfl⟩ (.cons ⟨_, rfl⟩ (.cons ⟨_, rfl⟩ (.cons ⟨_, rfl⟩ (.cons ⟨_, rfl⟩ (.cons ⟨_, rfl⟩ (.cons ⟨_, rfl⟩ (.cons ⟨_, rfl⟩ (.cons ⟨_, rfl⟩ (.cons ⟨_, rfl⟩ (.cons ⟨_, rfl⟩ (.cons ⟨_, rfl⟩ (.cons ⟨_, rfl⟩ (.cons ⟨_, rfl⟩ (.cons ⟨_, rfl⟩ (.cons ⟨_, rfl⟩ (.cons ⟨_, rfl⟩ (.cons ⟨_, rfl⟩ (.cons ⟨_, rfl⟩ (.nil))))))))))))))))))))⟩
  have sF : ∀ H : Hp, SqT K H aF (([f7, f8, f9, f10, f11, f12, f13, f14, f15, f16, f18, f19, f20, f21, f23, f24, f25, f26, f27, f28] : List Addr).map V.ref) := fun H => .inr ⟨_, _, _, lF, rfl, rfl, (by show 20 ≤ sizeLine; decide), .cons rfl (.cons rfl (.cons rfl (.cons rfl (.cons rfl (.cons rfl (.cons rfl (.cons rfl (.cons rfl (.cons rfl (.cons rfl (.cons rfl (.cons rfl (.cons rfl (.cons rfl (.cons rfl (.cons rfl (.cons rfl (.cons rfl (.cons rfl (.nil))))))))))))))))))))⟩
  refine ⟨PySem.W.fnOf "answers" "answers" (defArgs sAnswers) (defBody sAnswers) (defScope sAnswers) .none kV31 dc31 pm31 an31 cd31 ct31, fun s us hu => match us, hu with | [_], _ => .of_eq rfl, fun base _ _ => ?_⟩
  have D1 : Def K mg "members" "members" sMembers ["chosen"] f1 _ := ⟨F1, g1, b1⟩
  have G1 : FnOk P w K mg base CX0 1 f1 _ ["chosen"] spMembers := ok_members F1 O
  have D2 : Def K mg "row_count" "row_count" sRowCount ["questions"] f2 _ := ⟨F2, g2, b2⟩
  have G2 : FnOk P w K mg base CX0 2 f2 _ ["questions"] spRowCount := ok_row_count F2 O D1
  have D3 : Def K mg "row_of" "row_of" sRowOf ["world", "questions"] f3 _ := ⟨F3, g3, b3⟩
  have G3 : FnOk P w K mg base CX0 2 f3 _ ["world", "questions"] spRowOf := ok_row_of F3 O D1
  have D4 : Def K mg "world_of" "world_of" sWorldOf ["row", "questions"] f4 _ := ⟨F4, g4, b4⟩
  have G4 : FnOk P w K mg base CX0 2 f4 _ ["row", "questions"] spWorldOf := ok_world_of F4 O D1
  have D5 : Def K mg "common_part" "common_part" sCommon ["first", "second"] f5 _ := ⟨F5, g5, b5⟩
  have D6 : Def K mg "fraction" "fraction" sFraction ["part", "whole"] f6 _ := ⟨F6, g6, b6⟩
  have G6 : FnOk P w K mg base CX0 2 f6 _ ["part", "whole"] spFraction := ok_fraction F6 D5
  have K1 : Maker P w K mg base CV 3 "View" ["self", "questions"] (spVInit CV) := ⟨f32, _, ⟨mkV, a32, i32, kcV⟩, PySem.W.mg_of X G aV, b32, ok_vinit F32 V' D2 G2⟩
  have M1 : MCallee P w K mg base CV 3 "see" ["self", "world"] (spSee CV) := ⟨f33, _, ⟨a33, i33, k33⟩, b33, ok_see F33 V' O c.mostSeen D3 G3⟩
  have M2 : MCallee P w K mg base CV 3 "share" ["self", "row"] (spShare CV) := ⟨f36, _, ⟨a36, i36, k36⟩, b36, ok_share F36 V' O D6 G6⟩
  have M3 : MCallee P w K mg base CV 3 "margin" ["self", "questions"] (spMargin CV) := ⟨f37, _, ⟨a37, i37, k37⟩, b37, ok_margin F37 V' O D2 G2 D3 G3 D4 G4 D6 G6⟩
  have M4 : MCallee P w K mg base CV 4 "agrees" ["self", "other"] (spAgrees CV) := ⟨f38, _, ⟨a38, i38, k38⟩, b38, ok_agrees F38 V' ⟨F37, ⟨a37, i37, k37⟩, b37⟩ (ok_margin F37 V' O D2 G2 D3 G3 D4 G4 D6 G6)⟩
  have M5 : MCallee P w K mg base CT 1 "has_view" ["self", "number"] (spHasView CT) := ⟨f40, _, ⟨a40, i40, k40⟩, b40, ok_has_view F40 T O⟩
  have Mc : MCallee P w K mg base CT 1 "world_count" ["self"] (spWorldCount CT) := ⟨f43, _, ⟨a43, i43, k43⟩, b43, ok_world_count F43 T⟩
  have M6 : MCallee P w K mg base CT 2 "has_world" ["self", "world"] (spHasWorld CT) := ⟨f42, _, ⟨a42, i42, k42⟩, b42, ok_has_world F42 T Mc⟩
  have M8 : MCallee P w K mg base CV 1 "has_seen" ["self", "row"] (spHasSeen CV) := ⟨f34, _, ⟨a34, i34, k34⟩, b34, ok_has_seen F34 V'⟩
  have M9 : MCallee P w K mg base CV 3 "fits" ["self", "world"] (spFits CV) := ⟨f35, _, ⟨a35, i35, k35⟩, b35, ok_fits F35 V' M8 D3 G3⟩
  have M10 : MCallee P w K mg base CT 2 "has_row" ["self", "number", "row"] (spHasRow CT CV) := ⟨f41, _, ⟨a41, i41, k41⟩, b41, ok_has_row F41 T V' O M5⟩
  have M11 : MCallee P w K mg base CT 1 "all_views" ["self"] (spAllViews CT) := ⟨f44, _, ⟨a44, i44, k44⟩, b44, ok_all_views F44 T O⟩
  have M12 : MCallee P w K mg base CT 4 "views_fitted" ["self", "world"] (spViewsFitted CT CV) := ⟨f46, _, ⟨a46, i46, k46⟩, b46, ok_views_fitted F46 T V' O M9⟩
  have M13 : MCallee P w K mg base CT 5 "worlds_fitting" ["self", "chosen"] (spWorldsFitting CT CV) := ⟨f47, _, ⟨a47, i47, k47⟩, b47, ok_worlds_fitting F47 T O Mc M12⟩
  have M14 : MCallee P w K mg base CT 6 "worlds_showing" ["self", "number", "row"] (spWorldsShowing CT CV) := ⟨f48, _, ⟨a48, i48, k48⟩, b48, ok_worlds_showing F48 T V' M11 M13 D3 G3⟩
  have E1 : Callee P w K mg base 1 "members" ["chosen"] spMembers6 := ⟨f1, _, g1, k1, b1, ok_members6 F1 O⟩
  have E5 : Callee P w K mg base 1 "counted" ["found"] spCounted := ⟨f17, _, g17, k17, b17, ok_counted F17 O⟩
  have M15 : MCallee P w K mg base CT 5 "apart" ["self"] (spApart CT CV) := ⟨f49, _, ⟨a49, i49, k49⟩, b49, ok_apart F49 T O Mc M12 M11 E1⟩
  have M7 : MCallee P w K mg base CT 2 "may_view" ["self", "questions"] (spMayView CT) := ⟨f45, _, ⟨a45, i45, k45⟩, b45, ok_may_view F45 T O c.mostIn D1 G1⟩
  have E2 : Callee P w K mg base 2 "row_count" ["questions"] spRowCount := ⟨f2, _, g2, k2, b2, G2⟩
  have hA : ∀ (p : Nat) (f : Addr), ([f7, f8, f9, f10, f11, f12, f13, f14, f15, f16, f18, f19, f20, f21, f23, f24, f25, f26, f27, f28] : List Addr)[p]? = some f → Held P w K mg base 7 f (spStep K CT CV p) := fun p f hp => match p, hp with
    | 0, hp => by cases hp; exact ⟨_, _, FnOk.mono (ok_begin (CV := CV) F7 T c) (by decide), k7, b7⟩
    | 1, hp => by cases hp; exact ⟨_, _, FnOk.mono (ok_viewC F8 T V' O c M7 K1) (by decide), k8, b8⟩
    | 2, hp => by cases hp; exact ⟨_, _, FnOk.mono (ok_unview (CV := CV) F9 T O c M5) (by decide), k9, b9⟩
    | 3, hp => by cases hp; exact ⟨_, _, FnOk.mono (ok_table F10 T V' O c M5) (by decide), k10, b10⟩
    | 4, hp => by cases hp; exact ⟨_, _, FnOk.mono (ok_viewis F11 T V' c M5) (by decide), k11, b11⟩
    | 5, hp => by cases hp; exact ⟨_, _, FnOk.mono (ok_world F12 T V' O c M6 M1) (by decide), k12, b12⟩
    | 6, hp => by cases hp; exact ⟨_, _, FnOk.mono (ok_shareC F13 T V' O c M10 M2) (by decide), k13, b13⟩
    | 7, hp => by cases hp; exact ⟨_, _, FnOk.mono (ok_marginC F14 T V' O c M5 M3 E2) (by decide), k14, b14⟩
    | 8, hp => by cases hp; exact ⟨_, _, FnOk.mono (ok_agreeC F15 T V' c M5 M4) (by decide), k15, b15⟩
    | 9, hp => by cases hp; exact ⟨_, _, FnOk.mono (ok_off F16 T V' O c M4) (by decide), k16, b16⟩
    | 10, hp => by cases hp; exact ⟨_, _, FnOk.mono (ok_worlds F18 T E5 M11 M13) (by decide), k18, b18⟩
    | 11, hp => by cases hp; exact ⟨_, _, FnOk.mono (ok_fitsC F19 T c E5 E1 M6 M12) (by decide), k19, b19⟩
    | 12, hp => by cases hp; exact ⟨_, _, FnOk.mono (ok_shown F20 T V' O c M10 M8 M14) (by decide), k20, b20⟩
    | 13, hp => by cases hp; exact ⟨_, _, FnOk.mono (ok_lonely F21 T V' O M11 M13 M8 D3 G3) (by decide), k21, b21⟩
    | 14, hp => by cases hp; exact ⟨_, _, FnOk.mono (ok_fewest F23 T O c E5 M15 g22 b22 (ok_size F22 O)) (by decide), k23, b23⟩
    | 15, hp => by cases hp; exact ⟨_, _, FnOk.mono (ok_most F24 T O E1 Mc M12) (by decide), k24, b24⟩
    | 16, hp => by cases hp; exact ⟨_, _, FnOk.mono (ok_together F25 T O c M11 M13) (by decide), k25, b25⟩
    | 17, hp => by cases hp; exact ⟨_, _, FnOk.mono (ok_without F26 T c E5 M5 M11 M13) (by decide), k26, b26⟩
    | 18, hp => by cases hp; exact ⟨_, _, FnOk.mono (ok_sure F27 T O c M11 M13) (by decide), k27, b27⟩
    | 19, hp => by cases hp; exact ⟨_, _, FnOk.mono (ok_ask F28 T c E5 M10 M14) (by decide), k28, b28⟩
    | p + 20, hp => by simp at hp
  have E3 : Callee P w K mg base 8 "answer_call" ["thing", "call", "given"] (spAnsCall K CT CV 20) := ⟨f29, _, g29, k29, b29, ok_answer_call F29 T O c (PySem.W.mg_of X G gF) sF rfl hA⟩
  have E4 : Callee P w K mg base 1 "call_end" ["calls", "start"] (spCallEnd K) := ⟨f30, _, g30, k30, b30, ok_call_end F30 c (PySem.W.mg_of X G gC) sC⟩
  exact ok_answers F31 T O ⟨mkT, a39, i39, kcT⟩ b39 (ok_tinit F39 T) E4 E3
end VT

set_option Elab.async false
open PySem PySem.W PyProof.Rows
set_option maxRecDepth 100000 in
set_option maxHeartbeats 0 in
theorem PySem.Challenge.cw_viewtables_s01_answers_holds : PySem.Challenge.rw_viewtables_s01_answers.Holds := by
  w_on; k_headS; (case hw => exact ⟨[.list [.int 9]], by decide +kernel, by decide +kernel⟩)
  k_fillS
  refine L2.walk_specK (r := PySem.Challenge.rw_viewtables_s01_answers) (k := 9) (CX := L2.CX0) (ps := ["calls"]) (sp := fun K => VT.spAnswers K 20) (by decide +kernel) rfl rfl ⟨rfl, by decide, by decide⟩ (fun w h Y => PySem.W.kIn_of Y) ?F ?S (fun _ _ _ _ z => z)
  case F =>
    intro w mg fa h Y KX G hmg
    refine' VT.all_mk KX G hmg ?a1 ?l1 ?c1 ?k1 ?a2 ?l2 ?c2 ?k2 ?a3 ?l3 ?c3 ?k3 ?a4 ?l4 ?c4 ?k4 ?a5 ?l5 ?c5 ?k5 ?a6 ?l6 ?c6 ?k6 ?a7 ?l7 ?c7 ?k7 ?a8 ?l8 ?c8 ?k8 ?a9 ?l9 ?c9 ?k9 ?a10 ?l10 ?c10 ?k10 ?a11 ?l11 ?c11 ?k11 ?a12 ?l12 ?c12 ?k12 ?a13 ?l13 ?c13 ?k13 ?a14 ?l14 ?c14 ?k14 ?a15 ?l15 ?c15 ?k15 ?a16 ?l16 ?c16 ?k16 ?a17 ?l17 ?c17 ?k17 ?a18 ?l18 ?c18 ?k18 ?a19 ?l19 ?c19 ?k19 ?a20 ?l20 ?c20 ?k20 ?a21 ?l21 ?c21 ?k21 ?a22 ?l22 ?c22 ?k22 ?a23 ?l23 ?c23 ?k23 ?a24 ?l24 ?c24 ?k24 ?a25 ?l25 ?c25 ?k25 ?a26 ?l26 ?c26 ?k26 ?a27 ?l27 ?c27 ?k27 ?a28 ?l28 ?c28 ?k28 ?a29 ?l29 ?c29 ?k29 ?a30 ?l30 ?c30 ?k30 ?a31 ?l31 ?c31 ?k31 ?aV ?pgV ?hdV ?poV ?saV ?mkV ?kcV ?aT ?pgT ?hdT ?poT ?saT ?mkT ?kcT ?nQ ?nT ?nN ?nV ?a32 ?i32 ?l32 ?c32 ?k32 ?a33 ?i33 ?l33 ?c33 ?k33 ?a34 ?i34 ?l34 ?c34 ?k34 ?a35 ?i35 ?l35 ?c35 ?k35 ?a36 ?i36 ?l36 ?c36 ?k36 ?a37 ?i37 ?l37 ?c37 ?k37 ?a38 ?i38 ?l38 ?c38 ?k38 ?a39 ?i39 ?l39 ?c39 ?k39 ?a40 ?i40 ?l40 ?c40 ?k40 ?a41 ?i41 ?l41 ?c41 ?k41 ?a42 ?i42 ?l42 ?c42 ?k42 ?a43 ?i43 ?l43 ?c43 ?k43 ?a44 ?i44 ?l44 ?c44 ?k44 ?a45 ?i45 ?l45 ?c45 ?k45 ?a46 ?i46 ?l46 ?c46 ?k46 ?a47 ?i47 ?l47 ?c47 ?k47 ?a48 ?i48 ?l48 ?c48 ?k48 ?a49 ?i49 ?l49 ?c49 ?k49 ?q0 ?q1 ?q2 ?q3 ?q4 ?q5 ?q6 ?q7 ?q8 ?q9 ?q10 ?q11 ?q12 ?q13 ?q14 ?o_range ?o_len ?o_enumerate ?o_sum ?o_min ?o_max ?o_any ?gC ?lC ?gF ?lF
    (case a1 => k_is)
    (case l1 => k_is)
    (case c1 => k_is)
    (case k1 => k_is)
    (case a2 => k_is)
    (case l2 => k_is)
    (case c2 => k_is)
    (case k2 => k_is)
    (case a3 => k_is)
    (case l3 => k_is)
    (case c3 => k_is)
    (case k3 => k_is)
    (case a4 => k_is)
    (case l4 => k_is)
    (case c4 => k_is)
    (case k4 => k_is)
    (case a5 => k_is)
    (case l5 => k_is)
    (case c5 => k_is)
    (case k5 => k_is)
    (case a6 => k_is)
    (case l6 => k_is)
    (case c6 => k_is)
    (case k6 => k_is)
    (case a7 => k_is)
    (case l7 => k_is)
    (case c7 => k_is)
    (case k7 => k_is)
    (case a8 => k_is)
    (case l8 => k_is)
    (case c8 => k_is)
    (case k8 => k_is)
    (case a9 => k_is)
    (case l9 => k_is)
    (case c9 => k_is)
    (case k9 => k_is)
    (case a10 => k_is)
    (case l10 => k_is)
    (case c10 => k_is)
    (case k10 => k_is)
    (case a11 => k_is)
    (case l11 => k_is)
    (case c11 => k_is)
    (case k11 => k_is)
    (case a12 => k_is)
    (case l12 => k_is)
    (case c12 => k_is)
    (case k12 => k_is)
    (case a13 => k_is)
    (case l13 => k_is)
    (case c13 => k_is)
    (case k13 => k_is)
    (case a14 => k_is)
    (case l14 => k_is)
    (case c14 => k_is)
    (case k14 => k_is)
    (case a15 => k_is)
    (case l15 => k_is)
    (case c15 => k_is)
    (case k15 => k_is)
    (case a16 => k_is)
    (case l16 => k_is)
    (case c16 => k_is)
    (case k16 => k_is)
    (case a17 => k_is)
    (case l17 => k_is)
    (case c17 => k_is)
    (case k17 => k_is)
    (case a18 => k_is)
    (case l18 => k_is)
    (case c18 => k_is)
    (case k18 => k_is)
    (case a19 => k_is)
    (case l19 => k_is)
    (case c19 => k_is)
    (case k19 => k_is)
    (case a20 => k_is)
    (case l20 => k_is)
    (case c20 => k_is)
    (case k20 => k_is)
    (case a21 => k_is)
    (case l21 => k_is)
    (case c21 => k_is)
    (case k21 => k_is)
    (case a22 => k_is)
    (case l22 => k_is)
    (case c22 => k_is)
    (case k22 => k_is)
    (case a23 => k_is)
    (case l23 => k_is)
    (case c23 => k_is)
    (case k23 => k_is)
    (case a24 => k_is)
    (case l24 => k_is)
    (case c24 => k_is)
    (case k24 => k_is)
    (case a25 => k_is)
    (case l25 => k_is)
    (case c25 => k_is)
    (case k25 => k_is)
    (case a26 => k_is)
    (case l26 => k_is)
    (case c26 => k_is)
    (case k26 => k_is)
    (case a27 => k_is)
    (case l27 => k_is)
    (case c27 => k_is)
    (case k27 => k_is)
    (case a28 => k_is)
    (case l28 => k_is)
    (case c28 => k_is)
    (case k28 => k_is)
    (case a29 => k_is)
    (case l29 => k_is)
    (case c29 => k_is)
    (case k29 => k_is)
    (case a30 => k_is)
    (case l30 => k_is)
    (case c30 => k_is)
    (case k30 => k_is)
    (case a31 => k_is)
    (case l31 => k_is)
    (case c31 => k_is)
    (case k31 => k_is)
    (case aV => k_is)
    (case pgV => k_is)
    (case hdV => k_is)
    (case poV => k_is)
    (case saV => k_is)
    (case mkV => k_is)
    (case kcV => k_is)
    (case aT => k_is)
    (case pgT => k_is)
    (case hdT => k_is)
    (case poT => k_is)
    (case saT => k_is)
    (case mkT => k_is)
    (case kcT => k_is)
    (case nQ => k_is)
    (case nT => k_is)
    (case nN => k_is)
    (case nV => k_is)
    (case a32 => k_is)
    (case i32 => k_is)
    (case l32 => k_is)
    (case c32 => k_is)
    (case k32 => k_is)
    (case a33 => k_is)
    (case i33 => k_is)
    (case l33 => k_is)
    (case c33 => k_is)
    (case k33 => k_is)
    (case a34 => k_is)
    (case i34 => k_is)
    (case l34 => k_is)
    (case c34 => k_is)
    (case k34 => k_is)
    (case a35 => k_is)
    (case i35 => k_is)
    (case l35 => k_is)
    (case c35 => k_is)
    (case k35 => k_is)
    (case a36 => k_is)
    (case i36 => k_is)
    (case l36 => k_is)
    (case c36 => k_is)
    (case k36 => k_is)
    (case a37 => k_is)
    (case i37 => k_is)
    (case l37 => k_is)
    (case c37 => k_is)
    (case k37 => k_is)
    (case a38 => k_is)
    (case i38 => k_is)
    (case l38 => k_is)
    (case c38 => k_is)
    (case k38 => k_is)
    (case a39 => k_is)
    (case i39 => k_is)
    (case l39 => k_is)
    (case c39 => k_is)
    (case k39 => k_is)
    (case a40 => k_is)
    (case i40 => k_is)
    (case l40 => k_is)
    (case c40 => k_is)
    (case k40 => k_is)
    (case a41 => k_is)
    (case i41 => k_is)
    (case l41 => k_is)
    (case c41 => k_is)
    (case k41 => k_is)
    (case a42 => k_is)
    (case i42 => k_is)
    (case l42 => k_is)
    (case c42 => k_is)
    (case k42 => k_is)
    (case a43 => k_is)
    (case i43 => k_is)
    (case l43 => k_is)
    (case c43 => k_is)
    (case k43 => k_is)
    (case a44 => k_is)
    (case i44 => k_is)
    (case l44 => k_is)
    (case c44 => k_is)
    (case k44 => k_is)
    (case a45 => k_is)
    (case i45 => k_is)
    (case l45 => k_is)
    (case c45 => k_is)
    (case k45 => k_is)
    (case a46 => k_is)
    (case i46 => k_is)
    (case l46 => k_is)
    (case c46 => k_is)
    (case k46 => k_is)
    (case a47 => k_is)
    (case i47 => k_is)
    (case l47 => k_is)
    (case c47 => k_is)
    (case k47 => k_is)
    (case a48 => k_is)
    (case i48 => k_is)
    (case l48 => k_is)
    (case c48 => k_is)
    (case k48 => k_is)
    (case a49 => k_is)
    (case i49 => k_is)
    (case l49 => k_is)
    (case c49 => k_is)
    (case k49 => k_is)
    (case q0 => k_is)
    (case q1 => k_is)
    (case q2 => k_is)
    (case q3 => k_is)
    (case q4 => k_is)
    (case q5 => k_is)
    (case q6 => k_is)
    (case q7 => k_is)
    (case q8 => k_is)
    (case q9 => k_is)
    (case q10 => k_is)
    (case q11 => k_is)
    (case q12 => k_is)
    (case q13 => k_is)
    (case q14 => k_is)
    (case o_range => k_is)
    (case o_len => k_is)
    (case o_enumerate => k_is)
    (case o_sum => k_is)
    (case o_min => k_is)
    (case o_max => k_is)
    (case o_any => k_is)
    (case gC => k_is)
    (case lC => k_is)
    (case gF => k_is)
    (case lF => k_is)
  case S =>
    intro K H xs a hO hwi hask hx
    cases hx with
    | cons h1 h2 =>
      cases h2
      cases h1 with
      | lst hs ha =>
        have e := L2.ints_dw a.1 _ ha
        subst e
        have q : ((Codec.inLen 0 780 a.1 && a.1.all (Codec.inInt 0 4294967295)) && true) = true := hwi
        rw [Bool.and_eq_true, Bool.and_eq_true] at q
        have hask' : PyKp351.answers_asked a.1 = true := hask
        refine VT.sp_of hs (Codec.inNat_iff.mp q.1.1).2 (fun x hx => ?_) hask' fun H' p hp => .lst (L2.SqL.of hp) (L2.dw_ints _)
        exact (Codec.inInt_iff.mp (List.all_eq_true.mp q.1.2 x hx)).1
#print axioms PySem.Challenge.cw_viewtables_s01_answers_holds
