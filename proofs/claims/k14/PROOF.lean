import PyProof.Rows.All
import Wide.All
import OpenK.AllK
import Wide.FinOn
import HandS.ForMost
import HandS.More
import HandS.Wide
import HandS.Style
import HandS.IsInst
import HandS.Defaults
import HandS.MakeKwOnly
import HandS.Zip
import HandS.Walk
import HandS.Flow
import HandS.Codes
import HandS.WordsDict
import HandS.SortRule
import HandS.SortInts
import PySem.Challenge.RW_touchtrees_k14_whole_touches_and_restric
set_option Elab.async false
set_option linter.all false
set_option maxRecDepth 100000
set_option maxHeartbeats 4000000
/-! plain mathematics of search trees: insertion, preorder, children, paths, spines, mirrors -/
namespace TT
inductive T where
  | leaf
  | node (l : T) (k : Int) (r : T)

namespace T
def rt : T → Option Int
  | leaf => none
  | node _ k _ => some k
def pre : T → List Int
  | leaf => []
  | node l k r => k :: (l.pre ++ r.pre)
def bst : T → Prop
  | leaf => True
  | node l k r => (∀ x ∈ l.pre, x < k) ∧ (∀ x ∈ r.pre, k < x) ∧ l.bst ∧ r.bst
def ins (key : Int) : T → T
  | leaf => node leaf key leaf
  | node l k r => if key < k then node (l.ins key) k r else node l k (r.ins key)
def lc : T → Int → Option Int
  | leaf, _ => none
  | node l k r, x => if x = k then l.rt else if x < k then l.lc x else r.lc x
def rc : T → Int → Option Int
  | leaf, _ => none
  | node l k r, x => if x = k then r.rt else if x < k then l.rc x else r.rc x
def up : T → Int → Option Int
  | leaf, _ => none
  | node l k r, x => if x < k then (if l.rt = some x then some k else l.up x) else if k < x then (if r.rt = some x then some k else r.up x) else none
/-- where a leaf is put: the parent, and whether to its left -/
def spot (key : Int) : T → Option (Int × Bool)
  | leaf => none
  | node l k r => if key < k then (match l with | leaf => some (k, true) | node _ _ _ => l.spot key) else (match r with | leaf => some (k, false) | node _ _ _ => r.spot key)
def dIns (key : Int) : T → Nat
  | leaf => 0
  | node l k r => (if key < k then l.dIns key else r.dIns key) + 1
def insAll (ks : List Int) (t : T) : T := ks.foldl (fun t k => t.ins k) t
def path (key : Int) : T → List Int
  | leaf => []
  | node l k r => if key = k then [k] else if key < k then k :: l.path key else k :: r.path key
def lsp : T → Nat
  | leaf => 0
  | node l _ _ => l.lsp + 1
def rsp : T → Nat
  | leaf => 0
  | node _ _ r => r.rsp + 1
def mir : T → T
  | leaf => leaf
  | node l k r => node r.mir (-k) l.mir
end T
open T

theorem rt_mem {t : T} {x : Int} (h : t.rt = some x) : x ∈ t.pre := by
  cases t with
  | leaf => cases h
  | node l k r => cases h; exact List.mem_cons_self
theorem mem_node {l r : T} {k x : Int} : x ∈ (node l k r).pre ↔ x = k ∨ x ∈ l.pre ∨ x ∈ r.pre := by
  simp only [pre, List.mem_cons, List.mem_append]
theorem mem_ins {key x : Int} : ∀ {t : T}, x ∈ (t.ins key).pre ↔ x = key ∨ x ∈ t.pre
  | leaf => by simp [ins, pre]
  | node l k r => by
    unfold ins
    split
    · rw [mem_node, mem_node, mem_ins (t := l)]
      constructor
      · rintro (h | (h | h) | h)
        · exact .inr (.inl h)
        · exact .inl h
        · exact .inr (.inr (.inl h))
        · exact .inr (.inr (.inr h))
      · rintro (h | h | h | h)
        · exact .inr (.inl (.inl h))
        · exact .inl h
        · exact .inr (.inl (.inr h))
        · exact .inr (.inr h)
    · rw [mem_node, mem_node, mem_ins (t := r)]
      constructor
      · rintro (h | h | h | h)
        · exact .inr (.inl h)
        · exact .inr (.inr (.inl h))
        · exact .inl h
        · exact .inr (.inr (.inr h))
      · rintro (h | h | h | h)
        · exact .inr (.inr (.inl h))
        · exact .inl h
        · exact .inr (.inl h)
        · exact .inr (.inr (.inr h))
theorem len_ins {key : Int} : ∀ {t : T}, (t.ins key).pre.length = t.pre.length + 1
  | leaf => rfl
  | node l k r => by
    unfold ins
    split
    · simp only [pre, List.length_cons, List.length_append, len_ins]; omega
    · simp only [pre, List.length_cons, List.length_append, len_ins]; omega
theorem bst_ins {key : Int} : ∀ {t : T}, t.bst → key ∉ t.pre → (t.ins key).bst
  | leaf, _, _ => ⟨fun _ h => (by cases h), fun _ h => (by cases h), trivial, trivial⟩
  | node l k r, ⟨h1, h2, h3, h4⟩, hn => by
    rw [mem_node] at hn
    have n1 : key ≠ k := fun e => hn (.inl e)
    have n2 : key ∉ l.pre := fun e => hn (.inr (.inl e))
    have n3 : key ∉ r.pre := fun e => hn (.inr (.inr e))
    unfold ins
    split
    · next h =>
      refine ⟨fun x hx => ?_, h2, bst_ins h3 n2, h4⟩
      rcases mem_ins.mp hx with e | e
      · omega
      · exact h1 x e
    · next h =>
      refine ⟨h1, fun x hx => ?_, h3, bst_ins h4 n3⟩
      rcases mem_ins.mp hx with e | e
      · omega
      · exact h2 x e
theorem rt_ins {key : Int} {t : T} (h : t ≠ leaf) : (t.ins key).rt = t.rt := by
  cases t with
  | leaf => exact absurd rfl h
  | node l k r => unfold ins; split <;> rfl
theorem spot_node {key k : Int} {l r : T} : (node l k r).spot key = if key < k then (if l.rt = none then some (k, true) else l.spot key) else (if r.rt = none then some (k, false) else r.spot key) := by
  unfold spot
  split
  · cases l <;> simp [rt, spot]
  · cases r <;> simp [rt, spot]
theorem rt_none {t : T} (h : t.rt = none) : t = leaf := by
  cases t with
  | leaf => rfl
  | node l k r => cases h
theorem spot_mem {key : Int} : ∀ {t : T} {p : Int} {b : Bool}, t.spot key = some (p, b) → p ∈ t.pre
  | leaf, _, _, h => by cases h
  | node l k r, p, b, h => by
    rw [spot_node] at h
    rw [mem_node]
    split at h
    · split at h
      · cases h; exact .inl rfl
      · exact .inr (.inl (spot_mem h))
    · split at h
      · cases h; exact .inl rfl
      · exact .inr (.inr (spot_mem h))
theorem lc_out : ∀ {t : T} {x : Int}, x ∉ t.pre → t.lc x = none
  | leaf, _, _ => rfl
  | node l k r, x, h => by
    rw [mem_node] at h
    unfold lc
    rw [if_neg (fun e => h (.inl e))]
    split
    · exact lc_out fun e => h (.inr (.inl e))
    · exact lc_out fun e => h (.inr (.inr e))
theorem rc_out : ∀ {t : T} {x : Int}, x ∉ t.pre → t.rc x = none
  | leaf, _, _ => rfl
  | node l k r, x, h => by
    rw [mem_node] at h
    unfold rc
    rw [if_neg (fun e => h (.inl e))]
    split
    · exact rc_out fun e => h (.inr (.inl e))
    · exact rc_out fun e => h (.inr (.inr e))
theorem lc_one {key x : Int} : (node leaf key leaf).lc x = none := by unfold lc; split; rfl; split <;> rfl
theorem rc_one {key x : Int} : (node leaf key leaf).rc x = none := by unfold rc; split; rfl; split <;> rfl
theorem up_one {key x : Int} : (node leaf key leaf).up x = none := by
  unfold up; split
  · rw [if_neg (by intro h; cases h)]; rfl
  · split
    · rw [if_neg (by intro h; cases h)]; rfl
    · rfl
theorem lc_ins {key : Int} : ∀ {t : T}, t.bst → key ∉ t.pre → ∀ x, (t.ins key).lc x = if t.spot key = some (x, true) then some key else t.lc x
  | leaf, _, _, x => by rw [if_neg (by intro h; cases h)]; exact lc_one
  | node l k r, ⟨h1, h2, h3, h4⟩, hn, x => by
    rw [mem_node] at hn
    have n1 : key ≠ k := fun e => hn (.inl e)
    have n2 : key ∉ l.pre := fun e => hn (.inr (.inl e))
    have n3 : key ∉ r.pre := fun e => hn (.inr (.inr e))
    have i1 := lc_ins h3 n2
    have i2 := lc_ins h4 n3
    rw [spot_node]
    unfold ins
    by_cases h : key < k
    · rw [if_pos h, if_pos h]
      by_cases e : l.rt = none
      · cases rt_none e
        rw [if_pos e]
        show (if x = k then some key else if x < k then (node leaf key leaf).lc x else r.lc x) = _
        by_cases ex : x = k
        · subst ex; simp
        · rw [if_neg (show ¬ some (k, true) = some (x, true) from fun z => ex (Prod.mk.inj (Option.some.inj z)).1.symm), lc_one]
          show _ = (if x = k then leaf.rt else if x < k then leaf.lc x else r.lc x)
          rw [if_neg ex, if_neg ex]; rfl
      · rw [if_neg e]
        show (if x = k then (l.ins key).rt else if x < k then (l.ins key).lc x else r.lc x) = _
        rw [rt_ins (fun z => e (by rw [z]; rfl)), i1 x]
        show _ = (if l.spot key = some (x, true) then some key else if x = k then l.rt else if x < k then l.lc x else r.lc x)
        by_cases es : l.spot key = some (x, true)
        · have := h1 _ (spot_mem es)
          rw [if_pos es, if_neg (by omega), if_pos (by omega)]
          simp [es]
        · rw [if_neg es, if_neg es]
    · rw [if_neg h, if_neg h]
      by_cases e : r.rt = none
      · cases rt_none e
        rw [if_pos e]
        show (if x = k then l.rt else if x < k then l.lc x else (node leaf key leaf).lc x) = _
        rw [if_neg (show ¬ some (k, false) = some (x, true) from fun z => Bool.noConfusion (Prod.mk.inj (Option.some.inj z)).2), lc_one]; rfl
      · rw [if_neg e]
        show (if x = k then l.rt else if x < k then l.lc x else (r.ins key).lc x) = _
        rw [i2 x]
        show _ = (if r.spot key = some (x, true) then some key else if x = k then l.rt else if x < k then l.lc x else r.lc x)
        by_cases es : r.spot key = some (x, true)
        · have := h2 _ (spot_mem es)
          rw [if_pos es, if_neg (by omega), if_neg (by omega)]
          simp [es]
        · rw [if_neg es, if_neg es]
theorem rc_ins {key : Int} : ∀ {t : T}, t.bst → key ∉ t.pre → ∀ x, (t.ins key).rc x = if t.spot key = some (x, false) then some key else t.rc x
  | leaf, _, _, x => by rw [if_neg (by intro h; cases h)]; exact rc_one
  | node l k r, ⟨h1, h2, h3, h4⟩, hn, x => by
    rw [mem_node] at hn
    have n1 : key ≠ k := fun e => hn (.inl e)
    have n2 : key ∉ l.pre := fun e => hn (.inr (.inl e))
    have n3 : key ∉ r.pre := fun e => hn (.inr (.inr e))
    have i1 := rc_ins h3 n2
    have i2 := rc_ins h4 n3
    rw [spot_node]
    unfold ins
    by_cases h : key < k
    · rw [if_pos h, if_pos h]
      by_cases e : l.rt = none
      · cases rt_none e
        rw [if_pos e]
        show (if x = k then r.rt else if x < k then (node leaf key leaf).rc x else r.rc x) = _
        rw [if_neg (show ¬ some (k, true) = some (x, false) from fun z => Bool.noConfusion (Prod.mk.inj (Option.some.inj z)).2), rc_one]; rfl
      · rw [if_neg e]
        show (if x = k then r.rt else if x < k then (l.ins key).rc x else r.rc x) = _
        rw [i1 x]
        show _ = (if l.spot key = some (x, false) then some key else if x = k then r.rt else if x < k then l.rc x else r.rc x)
        by_cases es : l.spot key = some (x, false)
        · have := h1 _ (spot_mem es)
          rw [if_pos es, if_neg (by omega), if_pos (by omega)]
          simp [es]
        · rw [if_neg es, if_neg es]
    · rw [if_neg h, if_neg h]
      by_cases e : r.rt = none
      · cases rt_none e
        rw [if_pos e]
        show (if x = k then some key else if x < k then l.rc x else (node leaf key leaf).rc x) = _
        by_cases ex : x = k
        · subst ex; simp
        · rw [if_neg (show ¬ some (k, false) = some (x, false) from fun z => ex (Prod.mk.inj (Option.some.inj z)).1.symm), rc_one]
          show _ = (if x = k then leaf.rt else if x < k then l.rc x else leaf.rc x)
          rw [if_neg ex, if_neg ex]; rfl
      · rw [if_neg e]
        show (if x = k then (r.ins key).rt else if x < k then l.rc x else (r.ins key).rc x) = _
        rw [rt_ins (fun z => e (by rw [z]; rfl)), i2 x]
        show _ = (if r.spot key = some (x, false) then some key else if x = k then r.rt else if x < k then l.rc x else r.rc x)
        by_cases es : r.spot key = some (x, false)
        · have := h2 _ (spot_mem es)
          rw [if_pos es, if_neg (by omega), if_neg (by omega)]
          simp [es]
        · rw [if_neg es, if_neg es]
theorem up_ins {key : Int} : ∀ {t : T}, t.bst → key ∉ t.pre → ∀ x, (t.ins key).up x = if x = key then (t.spot key).map (·.1) else t.up x
  | leaf, _, _, x => by
    show (node leaf key leaf).up x = _
    rw [up_one]; split <;> rfl
  | node l k r, ⟨h1, h2, h3, h4⟩, hn, x => by
    rw [mem_node] at hn
    have n1 : key ≠ k := fun e => hn (.inl e)
    have n2 : key ∉ l.pre := fun e => hn (.inr (.inl e))
    have n3 : key ∉ r.pre := fun e => hn (.inr (.inr e))
    have i1 := up_ins h3 n2
    have i2 := up_ins h4 n3
    rw [spot_node]
    unfold ins
    by_cases h : key < k
    · rw [if_pos h, if_pos h]
      show (if x < k then (if (l.ins key).rt = some x then some k else (l.ins key).up x) else if k < x then (if r.rt = some x then some k else r.up x) else none) = (if x = key then _ else (if x < k then (if l.rt = some x then some k else l.up x) else if k < x then (if r.rt = some x then some k else r.up x) else none))
      by_cases xk : x < k
      · rw [if_pos xk, if_pos xk]
        by_cases e : l.rt = none
        · cases rt_none e
          rw [if_pos e]
          show (if some key = some x then some k else (node leaf key leaf).up x) = _
          rw [up_one]
          by_cases ex : x = key
          · subst ex; simp
          · rw [if_neg (show ¬ some key = some x from fun z => ex (Option.some.inj z).symm), if_neg ex]; rfl
        · rw [if_neg e, rt_ins (fun z => e (by rw [z]; rfl)), i1 x]
          by_cases ex : x = key
          · subst ex
            rw [if_neg (fun z => n2 (rt_mem z)), if_pos rfl, if_pos rfl]
          · rw [if_neg ex, if_neg ex]
      · rw [if_neg xk, if_neg xk, if_neg (show ¬ x = key by omega)]
    · rw [if_neg h, if_neg h]
      show (if x < k then (if l.rt = some x then some k else l.up x) else if k < x then (if (r.ins key).rt = some x then some k else (r.ins key).up x) else none) = (if x = key then _ else (if x < k then (if l.rt = some x then some k else l.up x) else if k < x then (if r.rt = some x then some k else r.up x) else none))
      by_cases xk : x < k
      · rw [if_pos xk, if_pos xk, if_neg (show ¬ x = key by omega)]
      · rw [if_neg xk, if_neg xk]
        by_cases kx : k < x
        · rw [if_pos kx, if_pos kx]
          by_cases e : r.rt = none
          · cases rt_none e
            rw [if_pos e]
            show (if some key = some x then some k else (node leaf key leaf).up x) = _
            rw [up_one]
            by_cases ex : x = key
            · subst ex; simp
            · rw [if_neg (show ¬ some key = some x from fun z => ex (Option.some.inj z).symm), if_neg ex]; rfl
          · rw [if_neg e, rt_ins (fun z => e (by rw [z]; rfl)), i2 x]
            by_cases ex : x = key
            · subst ex
              rw [if_neg (fun z => n3 (rt_mem z)), if_pos rfl, if_pos rfl]
            · rw [if_neg ex, if_neg ex]
        · rw [if_neg kx, if_neg kx, if_neg (show ¬ x = key by omega)]
theorem dIns_le {key : Int} : ∀ {t : T}, t.dIns key ≤ t.pre.length
  | leaf => Nat.le_refl _
  | node l k r => by
    have i1 := dIns_le (key := key) (t := l)
    have i2 := dIns_le (key := key) (t := r)
    unfold dIns
    simp only [pre, List.length_cons, List.length_append]
    split <;> omega
/-- s is a subtree of t, as far as children go -/
def Sub (s t : T) : Prop := ∀ x ∈ s.pre, t.lc x = s.lc x ∧ t.rc x = s.rc x
theorem Sub.refl (t : T) : Sub t t := fun _ _ => ⟨rfl, rfl⟩
theorem Sub.l {l r t : T} {k : Int} (h : Sub (node l k r) t) (b : (node l k r).bst) : Sub l t := fun x hx => by
  have := b.1 x hx
  obtain ⟨a, c⟩ := h x (mem_node.mpr (.inr (.inl hx)))
  rw [a, c]
  show (if x = k then l.rt else if x < k then l.lc x else r.lc x) = _ ∧ (if x = k then r.rt else if x < k then l.rc x else r.rc x) = _
  rw [if_neg (show ¬ x = k by omega), if_neg (show ¬ x = k by omega), if_pos this, if_pos this]
  exact ⟨rfl, rfl⟩
theorem Sub.r {l r t : T} {k : Int} (h : Sub (node l k r) t) (b : (node l k r).bst) : Sub r t := fun x hx => by
  have := b.2.1 x hx
  obtain ⟨a, c⟩ := h x (mem_node.mpr (.inr (.inr hx)))
  rw [a, c]
  show (if x = k then l.rt else if x < k then l.lc x else r.lc x) = _ ∧ (if x = k then r.rt else if x < k then l.rc x else r.rc x) = _
  rw [if_neg (show ¬ x = k by omega), if_neg (show ¬ x = k by omega), if_neg (show ¬ x < k by omega), if_neg (show ¬ x < k by omega)]
  exact ⟨rfl, rfl⟩
theorem Sub.top {l r t : T} {k : Int} (h : Sub (node l k r) t) : t.lc k = l.rt ∧ t.rc k = r.rt := by
  obtain ⟨a, c⟩ := h k (mem_node.mpr (.inl rfl))
  rw [a, c]
  unfold lc rc
  rw [if_pos rfl, if_pos rfl]
  exact ⟨rfl, rfl⟩
/-! ### all keys of a list -/
theorem mem_insAll {x : Int} : ∀ {ks : List Int} {t : T}, x ∈ (insAll ks t).pre ↔ x ∈ ks ∨ x ∈ t.pre
  | [], t => by simp [insAll]
  | k :: ks, t => by
    show x ∈ (insAll ks (t.ins k)).pre ↔ _
    rw [mem_insAll, mem_ins, List.mem_cons]
    constructor
    · rintro (h | h | h)
      · exact .inl (.inr h)
      · exact .inl (.inl h)
      · exact .inr h
    · rintro ((h | h) | h)
      · exact .inr (.inl h)
      · exact .inl h
      · exact .inr (.inr h)
theorem len_insAll : ∀ {ks : List Int} {t : T}, (insAll ks t).pre.length = t.pre.length + ks.length
  | [], t => rfl
  | k :: ks, t => by
    show (insAll ks (t.ins k)).pre.length = _
    rw [len_insAll, len_ins, List.length_cons]; omega
theorem bst_insAll : ∀ {ks : List Int} {t : T}, t.bst → ks.Nodup → (∀ k ∈ ks, k ∉ t.pre) → (insAll ks t).bst
  | [], _, h, _, _ => h
  | k :: ks, t, h, nd, hn => by
    rw [List.nodup_cons] at nd
    refine bst_insAll (ks := ks) (t := t.ins k) (bst_ins h (hn k List.mem_cons_self)) nd.2 fun j hj hm => ?_
    rcases mem_ins.mp hm with e | e
    · subst e; exact nd.1 hj
    · exact hn j (List.mem_cons_of_mem _ hj) e
theorem insAll_take_succ {ks : List Int} {i : Nat} {k : Int} (h : ks[i]? = some k) {t : T} : insAll (ks.take (i + 1)) t = (insAll (ks.take i) t).ins k := by
  rw [List.take_add_one, h]
  unfold insAll
  rw [List.foldl_append]; rfl
theorem insAll_split : ∀ (ks : List Int) (l r : T) (k : Int), insAll ks (node l k r) = node (insAll (ks.filter fun x => decide (x < k)) l) k (insAll (ks.filter fun x => !decide (x < k)) r)
  | [], _, _, _ => rfl
  | x :: ks, l, r, k => by
    show insAll ks ((node l k r).ins x) = _
    unfold ins
    by_cases h : x < k
    · rw [if_pos h, insAll_split ks, List.filter_cons_of_pos (by simpa using h), List.filter_cons_of_neg (by simpa using h)]; rfl
    · rw [if_neg h, insAll_split ks, List.filter_cons_of_neg (by simpa using h), List.filter_cons_of_pos (by simpa using h)]; rfl
theorem filter_all {p : Int → Bool} {l : List Int} (h : ∀ x ∈ l, p x = true) : l.filter p = l := List.filter_eq_self.mpr h
theorem filter_none {p : Int → Bool} {l : List Int} (h : ∀ x ∈ l, p x = false) : l.filter p = [] := List.filter_eq_nil_iff.mpr fun x hx => by rw [h x hx]; exact Bool.false_ne_true
theorem pre_lt {l r : T} {k : Int} (b : (node l k r).bst) : (node l k r).pre.filter (fun x => decide (x < k)) = l.pre := by
  show (k :: (l.pre ++ r.pre)).filter _ = _
  rw [List.filter_cons_of_neg (by simp), List.filter_append, filter_all fun x hx => decide_eq_true (b.1 x hx), filter_none fun x hx => decide_eq_false (by have := b.2.1 x hx; omega), List.append_nil]
theorem pre_gt {l r : T} {k : Int} (b : (node l k r).bst) : (node l k r).pre.filter (fun x => decide (k < x)) = r.pre := by
  show (k :: (l.pre ++ r.pre)).filter _ = _
  rw [List.filter_cons_of_neg (by simp), List.filter_append, filter_none fun x hx => decide_eq_false (by have := b.1 x hx; omega), filter_all fun x hx => decide_eq_true (b.2.1 x hx), List.nil_append]
theorem insAll_pre : ∀ {t : T}, t.bst → insAll t.pre leaf = t
  | leaf, _ => rfl
  | node l k r, b => by
    show insAll (l.pre ++ r.pre) (node leaf k leaf) = _
    rw [insAll_split, List.filter_append, List.filter_append]
    rw [filter_all (p := fun x => decide (x < k)) fun x hx => decide_eq_true (b.1 x hx), filter_none (p := fun x => decide (x < k)) (l := r.pre) fun x hx => decide_eq_false (by have := b.2.1 x hx; omega)]
    rw [filter_none (p := fun x => !decide (x < k)) (l := l.pre) fun x hx => by simp [b.1 x hx], filter_all (p := fun x => !decide (x < k)) (l := r.pre) fun x hx => by have := b.2.1 x hx; simp; omega]
    rw [List.append_nil, List.nil_append, insAll_pre b.2.2.1, insAll_pre b.2.2.2]
theorem nodup_pre : ∀ {t : T}, t.bst → t.pre.Nodup
  | leaf, _ => List.nodup_nil
  | node l k r, b => by
    show (k :: (l.pre ++ r.pre)).Nodup
    rw [List.nodup_cons, List.nodup_append]
    refine ⟨fun h => ?_, nodup_pre b.2.2.1, nodup_pre b.2.2.2, fun x hx y hy => ?_⟩
    · rcases List.mem_append.mp h with e | e
      · have := b.1 _ e; omega
      · have := b.2.1 _ e; omega
    · have := b.1 _ hx; have := b.2.1 _ hy; omega
/-! ### paths, spines -/
theorem path_min : ∀ {t : T} {m : Int}, t.bst → m ∈ t.pre → (∀ y ∈ t.pre, m ≤ y) → (t.path m).length = t.lsp
  | leaf, _, _, h, _ => by cases h
  | node l k r, m, b, hm, hmin => by
    have mk := hmin k (mem_node.mpr (.inl rfl))
    cases l with
    | leaf =>
      have e : m = k := by
        rcases mem_node.mp hm with e | e | e
        · exact e
        · cases e
        · have := b.2.1 _ e; omega
      unfold path lsp
      rw [if_pos e]; rfl
    | node a x c =>
      have hx : x < k := b.1 x (mem_node.mpr (.inl rfl))
      have mx := hmin x (mem_node.mpr (.inr (.inl (mem_node.mpr (.inl rfl)))))
      unfold path
      rw [if_neg (by omega), if_pos (by omega)]
      show ((node a x c).path m).length + 1 = (node a x c).lsp + 1
      rw [path_min b.2.2.1 ?_ fun y hy => hmin y (mem_node.mpr (.inr (.inl hy)))]
      rcases mem_node.mp hm with e | e | e
      · omega
      · exact e
      · have := b.2.1 _ e; omega
theorem path_max : ∀ {t : T} {m : Int}, t.bst → m ∈ t.pre → (∀ y ∈ t.pre, y ≤ m) → (t.path m).length = t.rsp
  | leaf, _, _, h, _ => by cases h
  | node l k r, m, b, hm, hmax => by
    have mk := hmax k (mem_node.mpr (.inl rfl))
    cases r with
    | leaf =>
      have e : m = k := by
        rcases mem_node.mp hm with e | e | e
        · exact e
        · have := b.1 _ e; omega
        · cases e
      unfold path rsp
      rw [if_pos e]; rfl
    | node a x c =>
      have hx : k < x := b.2.1 x (mem_node.mpr (.inl rfl))
      have mx := hmax x (mem_node.mpr (.inr (.inr (mem_node.mpr (.inl rfl)))))
      unfold path
      rw [if_neg (by omega), if_neg (by omega)]
      show ((node a x c).path m).length + 1 = (node a x c).rsp + 1
      rw [path_max b.2.2.2 ?_ fun y hy => hmax y (mem_node.mpr (.inr (.inr hy)))]
      rcases mem_node.mp hm with e | e | e
      · omega
      · have := b.1 _ e; omega
      · exact e
theorem lsp_le : ∀ {t : T}, t.lsp ≤ t.pre.length
  | leaf => Nat.le_refl _
  | node l k r => by
    have := lsp_le (t := l)
    simp only [lsp, pre, List.length_cons, List.length_append]; omega
theorem rsp_le : ∀ {t : T}, t.rsp ≤ t.pre.length
  | leaf => Nat.le_refl _
  | node l k r => by
    have := rsp_le (t := r)
    simp only [rsp, pre, List.length_cons, List.length_append]; omega
/-! ### mirrors -/
theorem mir_mir : ∀ {t : T}, t.mir.mir = t
  | leaf => rfl
  | node l k r => by simp only [mir, mir_mir, Int.neg_neg]
theorem mem_mir {x : Int} : ∀ {t : T}, x ∈ t.mir.pre ↔ -x ∈ t.pre
  | leaf => by simp [mir, pre]
  | node l k r => by
    show x ∈ (node r.mir (-k) l.mir).pre ↔ _
    rw [mem_node, mem_node, mem_mir, mem_mir]
    constructor
    · rintro (h | h | h)
      · exact .inl (by omega)
      · exact .inr (.inr h)
      · exact .inr (.inl h)
    · rintro (h | h | h)
      · exact .inl (by omega)
      · exact .inr (.inr h)
      · exact .inr (.inl h)
theorem len_mir : ∀ {t : T}, t.mir.pre.length = t.pre.length
  | leaf => rfl
  | node l k r => by simp only [mir, pre, List.length_cons, List.length_append, len_mir]; omega
theorem bst_mir : ∀ {t : T}, t.bst → t.mir.bst
  | leaf, _ => trivial
  | node l k r, b => ⟨fun x hx => by have := b.2.1 _ (mem_mir.mp hx); omega, fun x hx => by have := b.1 _ (mem_mir.mp hx); omega, bst_mir b.2.2.2, bst_mir b.2.2.1⟩
theorem rt_mir : ∀ {t : T}, t.mir.rt = t.rt.map (fun x => -x)
  | leaf => rfl
  | node _ _ _ => rfl
theorem lc_mir {x : Int} : ∀ {t : T}, t.mir.lc x = (t.rc (-x)).map (fun y => -y)
  | leaf => rfl
  | node l k r => by
    show (if x = -k then r.mir.rt else if x < -k then r.mir.lc x else l.mir.lc x) = ((if -x = k then r.rt else if -x < k then l.rc (-x) else r.rc (-x))).map _
    by_cases h : x = -k
    · rw [if_pos h, if_pos (show -x = k by omega), rt_mir]
    · rw [if_neg h, if_neg (show ¬ -x = k by omega)]
      by_cases g : x < -k
      · rw [if_pos g, if_neg (show ¬ -x < k by omega), lc_mir]
      · rw [if_neg g, if_pos (show -x < k by omega), lc_mir]
theorem rc_mir {x : Int} : ∀ {t : T}, t.mir.rc x = (t.lc (-x)).map (fun y => -y)
  | leaf => rfl
  | node l k r => by
    show (if x = -k then l.mir.rt else if x < -k then r.mir.rc x else l.mir.rc x) = ((if -x = k then l.rt else if -x < k then l.lc (-x) else r.lc (-x))).map _
    by_cases h : x = -k
    · rw [if_pos h, if_pos (show -x = k by omega), rt_mir]
    · rw [if_neg h, if_neg (show ¬ -x = k by omega)]
      by_cases g : x < -k
      · rw [if_pos g, if_neg (show ¬ -x < k by omega), rc_mir]
      · rw [if_neg g, if_pos (show -x < k by omega), rc_mir]
end TT
namespace TT
open PySem PySem.Spec PyProof.Rows L2
/-! ### defs that are called by name -/
/-- the def x: it is called by its parameters ps, keeps sp, at level k -/
structure Cal (P : Program) (w : World) (K : PySem.W.Frag) (mg : Str → Option Value) (base : Heap) (CX : CXT) (x : Str) (ps : List Str) (k : Nat) (sp : Sp) : Prop where
  ex : ∃ f fd, FnOk P w K mg base CX k f fd ps sp ∧ mg x = some (.ref f) ∧ PySem.W.keepIn K (.ref f) = true ∧ Binds K fd ps []
theorem Cal.mono {P : Program} {w : World} {K : PySem.W.Frag} {mg : Str → Option Value} {base : Heap} {CX : CXT} {x : Str} {ps : List Str} {j k : Nat} {sp : Sp} (c : Cal P w K mg base CX x ps j sp) (h : j ≤ k) : Cal P w K mg base CX x ps k sp := by
  obtain ⟨f, fd, o, a, b, d⟩ := c.ex
  exact ⟨f, fd, o.mono h, a, b, d⟩
/-- the same with keywords ks behind n values -/
structure CalN (P : Program) (w : World) (K : PySem.W.Frag) (mg : Str → Option Value) (base : Heap) (CX : CXT) (x : Str) (n : Nat) (ks : List Str) (k : Nat) (sp : Sp) (gV : List V → List V → List V) : Prop where
  ex : ∃ f fd ps g, FnOk P w K mg base CX k f fd ps sp ∧ mg x = some (.ref f) ∧ PySem.W.keepIn K (.ref f) = true ∧ KBn K fd ps n ks g gV
section
variable {X : Cx} {ps ks : List Str} {k n : Nat} {sp : Sp} {x : Str} {e : Expr} {es : List Expr} {kws : List Keyword} {t tk : TA} {p pos : Pos} {gV : List V → List V → List V}
theorem pe_cal (c : Cal X.prog X.w X.K X.mg X.base CX0 x ps k sp) (hr : Room k X.A) (hg : Gl X x) (ha : PA X (e :: es) t) (hdb : (x == ("__debug__" : Str)) = false := by decide) (he : starEach (e :: es) X.env = (false, eval e X.env) :: starEach es X.env := by rfl)
    (hpl : (backTo pos (starEach es X.env)).any (·.1) = false := by rfl) : PE X (.Call (.Name x p) (e :: es) [] pos) (tCall sp [] E0 t) := by
  obtain ⟨f, fd, o, a, b, d⟩ := c.ex
  exact pe_call o hr hg a b d .nil pass0 ha hdb he hpl
theorem pe_cal0 (c : Cal X.prog X.w X.K X.mg X.base CX0 x ps k sp) (hr : Room k X.A) (hg : Gl X x) (hdb : (x == ("__debug__" : Str)) = false := by decide) : PE X (.Call (.Name x p) [] [] pos) (tCall sp [] E0 tNil) := by
  obtain ⟨f, fd, o, a, b, d⟩ := c.ex
  exact pe_call0 o hr hg a b d .nil pass0 hdb
theorem pe_calN (c : CalN X.prog X.w X.K X.mg X.base CX0 x n ks k sp gV) (hr : Room k X.A) (hg : Gl X x) (ha : PA X (e :: es) t) (hkw : PK X kws tk) (hall : (backToKw pos (keywordEach kws X.env)).all (·.1.isSome) = true := by rfl)
    (hks : (backToKw pos (keywordEach kws X.env)).filterMap (·.1) = ks := by rfl) (hdb : (x == ("__debug__" : Str)) = false := by decide) (he : starEach (e :: es) X.env = (false, eval e X.env) :: starEach es X.env := by rfl)
    (hpl : ((backTo pos (starEach (e :: es) X.env)).any (·.1) || (backToKw pos (keywordEach kws X.env)).any (·.1.isNone)) = false := by rfl) : PE X (.Call (.Name x p) (e :: es) kws pos) (tCallN n ks.length sp gV E0 t tk) := by
  obtain ⟨f, fd, ps, g, o, a, b, d⟩ := c.ex
  exact pe_callN o hr hg a b d pass0 ha hkw hall hks hdb he hpl
end
section
variable {X : Cx} {ps ks : List Str} {k n : Nat} {sp : Sp} {x : Str} {e : Expr} {es : List Expr} {kws : List Keyword} {t tk : TA} {p pos : Pos} {gV : List V → List V → List V} {dvs : List V}
/-- f(k = v, ..): keywords alone -/
theorem pe_calN0 (c : CalN X.prog X.w X.K X.mg X.base CX0 x 0 ks k sp gV) (hr : Room k X.A) (hg : Gl X x) (hkw : PK X kws tk) (hall : (backToKw pos (keywordEach kws X.env)).all (·.1.isSome) = true := by rfl)
    (hks : (backToKw pos (keywordEach kws X.env)).filterMap (·.1) = ks := by rfl) (hdb : (x == ("__debug__" : Str)) = false := by decide)
    (hpl : ((backTo pos (starEach [] X.env)).any (·.1) || (backToKw pos (keywordEach kws X.env)).any (·.1.isNone)) = false := by rfl) : PE X (.Call (.Name x p) [] kws pos) (tCallN 0 ks.length sp gV E0 tNil tk) := by
  obtain ⟨f, fd, ps, g, o, a, b, d⟩ := c.ex
  refine ⟨fun pins s0 σ H Q I0 hq => wpAny_Call_Name_kw (ld_glob I0 hg a (PySem.W.callWith_KW0 (h₀ := X.base) I0.ok.mod.kin b hall (thn (hkw.run pos pins s0 σ H _ I0 hq) fun ws1 s1 ⟨zs1, H1, I1, r1, _, z2, q1⟩ => ⟨I1.kIn, ?_⟩) hpl) hdb)⟩
  rw [hks]
  exact run_fnN (us := []) (vs := []) o hr d pass0 I1 .nil r1 rfl z2 q1
/-- the def x with the defaults dvs behind what is written -/
structure CalD (P : Program) (w : World) (K : PySem.W.Frag) (mg : Str → Option Value) (base : Heap) (CX : CXT) (x : Str) (dvs : List V) (k : Nat) (sp : Sp) : Prop where
  ex : ∃ f fd ps ds, FnOk P w K mg base CX k f fd ps sp ∧ mg x = some (.ref f) ∧ PySem.W.keepIn K (.ref f) = true ∧ Binds K fd ps ds ∧ Vals dvs ds
theorem pe_calD (c : CalD X.prog X.w X.K X.mg X.base CX0 x dvs k sp) (hr : Room k X.A) (hg : Gl X x) (ha : PA X (e :: es) t) (hdb : (x == ("__debug__" : Str)) = false := by decide) (he : starEach (e :: es) X.env = (false, eval e X.env) :: starEach es X.env := by rfl)
    (hpl : (backTo pos (starEach es X.env)).any (·.1) = false := by rfl) : PE X (.Call (.Name x p) (e :: es) [] pos) (tCall sp dvs E0 t) := by
  obtain ⟨f, fd, ps, ds, o, a, b, d, v⟩ := c.ex
  exact pe_call o hr hg a b d v pass0 ha hdb he hpl
end
theorem CalN.mono {P : Program} {w : World} {K : PySem.W.Frag} {mg : Str → Option Value} {base : Heap} {CX : CXT} {x : Str} {n : Nat} {ks : List Str} {j k : Nat} {sp : Sp} {gV : List V → List V → List V} (c : CalN P w K mg base CX x n ks j sp gV) (h : j ≤ k) : CalN P w K mg base CX x n ks k sp gV := by
  obtain ⟨f, fd, ps, g, o, r⟩ := c.ex
  exact ⟨f, fd, ps, g, o.mono h, r⟩
theorem CalD.mono {P : Program} {w : World} {K : PySem.W.Frag} {mg : Str → Option Value} {base : Heap} {CX : CXT} {x : Str} {dvs : List V} {j k : Nat} {sp : Sp} (c : CalD P w K mg base CX x dvs j sp) (h : j ≤ k) : CalD P w K mg base CX x dvs k sp := by
  obtain ⟨f, fd, ps, ds, o, r⟩ := c.ex
  exact ⟨f, fd, ps, ds, o.mono h, r⟩
theorem vals_take {n : Nat} : ∀ {zs : List V} {ws : List Value}, Vals zs ws → Vals (zs.take n) (ws.take n) := by
  induction n with
  | zero => intro zs ws _; exact .nil
  | succ n ih =>
    intro zs ws h
    cases h with
    | nil => exact .nil
    | cons r t => exact .cons r (ih t)
/-! ### min, max of a tuple of ints -/
section
variable {prog : Program} {w : World} {A : Around} {E : Value → Shared → Prop} {s : Shared} {l : Addr} {xs : Array (Int × Tok)} {its : List Value} {ns : List Int} {Q : Value → Shared → Prop}
theorem iter_intTup {Q : Value → Shared → Prop} (hl : s.heap.IsTuple l (intItems xs))
    (h : ∀ s₂ : Shared, s₂ = { s with heap := s.heap.push { cls := .type "tuple_iterator", data := .fields #[.ref l, .int 0 0] } } →
      (s₂.heap.IsTupleIter s.heap.objs.size l 0 ∧ s₂.heap.IsTuple l (intItems xs)) → (∀ b ∈ [s.heap.objs.size, l], b < s₂.heap.objs.size) → l ≠ s.heap.objs.size → Q (.ref s.heap.objs.size) s₂) :
    wpAny (model prog w) A (pyIter (.ref l)) Q E s := by
  have hlt : l < s.heap.objs.size := by obtain ⟨_, e, _⟩ := hl; exact Heap.lt_size e
  refine wpAny_pyIter_tuple hl (h _ rfl ⟨⟨_, Heap.get?_push_size _ rfl, rfl, rfl⟩, ?_⟩ (fun b hb => ?_) (Nat.ne_of_lt hlt))
  · obtain ⟨o, e, r⟩ := hl
    exact ⟨o, Heap.get?_push_of_some _ e, r⟩
  · show b < (s.heap.push _).objs.size
    rw [Heap.size_push]
    rcases List.mem_cons.mp hb with rfl | hb
    · exact Nat.lt_succ_self _
    · rcases List.mem_cons.mp hb with rfl | hb
      · exact Nat.lt_succ_of_lt hlt
      · cases hb
theorem old_keptT {h' : Heap} (hk : ∀ b o, b ∉ [s.heap.objs.size] → (s.heap.push { cls := .type "tuple_iterator", data := .fields #[.ref l, .int 0 0] }).get? b = some o → h'.get? b = some o) :
    ∀ b o, s.heap.get? b = some o → h'.get? b = some o := fun b o e => by
  refine hk b o (fun hm => ?_) (Heap.get?_push_of_some _ e)
  rcases List.mem_cons.mp hm with e1 | hm
  · exact absurd (e1 ▸ Heap.lt_size e) (Nat.lt_irrefl _)
  · cases hm
theorem max_rawT (hh : A.handled = none) (hl : s.heap.IsTuple l its.toArray) (hi : IntsAre its ns) (hne : 0 < ns.length)
    (h : ∀ h' tk M t', (∀ b o, s.heap.get? b = some o → h'.get? b = some o) → M ∈ ns → (∀ a, a ∈ ns → a ≤ M) → Q (.int M t') { s with heap := h', toks := tk }) : wpAny (model prog w) A (call (.builtin "max") [.ref l]) Q E s := by
  obtain ⟨xs, e⟩ := hi.allInts.items
  have hn : numsOf (intItems xs).toList = ns := by rw [← e]; exact hi.numsOf
  rw [nums_intItems] at hn
  subst hn
  rw [e] at hl
  have hsz : 0 < xs.size := by simpa using hne
  refine call_max_walk (iter_intTup hl fun s₂ e2 st hfp hlI => ?_)
  subst e2
  refine ⟨_, _, _, _, _, _, _, rfl, Walks.tuple (A := A.in1) hh _ l hlI (intItems xs), st, hfp, by simpa [intItems] using hsz, CmpOf.ints_gt (numAt xs) (fun _ _ => intItems_at), fun v h' tk hP hk => ?_⟩
  have hv : (intItems xs)[argBest (fun i j => decide (numAt xs i > numAt xs j)) (xs.size - 1)]? = some v := by simpa [intItems] using hP
  obtain ⟨t, rfl⟩ := intItems_at hv
  obtain ⟨h1, h2⟩ := argBest_gt (numAt xs) (xs.size - 1)
  refine h h' tk _ t (old_keptT hk) ?_ fun a ha => ?_
  · rw [numAt_eq]; exact PySem.getD_mem (by rw [List.length_map, Array.length_toList]; omega)
  · obtain ⟨j, hj, rfl⟩ := mem_getD ha
    rw [List.length_map, Array.length_toList] at hj
    rw [← numAt_eq]; exact h2 j (by omega)
theorem min_rawT (hh : A.handled = none) (hl : s.heap.IsTuple l its.toArray) (hi : IntsAre its ns) (hne : 0 < ns.length)
    (h : ∀ h' tk M t', (∀ b o, s.heap.get? b = some o → h'.get? b = some o) → M ∈ ns → (∀ a, a ∈ ns → M ≤ a) → Q (.int M t') { s with heap := h', toks := tk }) : wpAny (model prog w) A (call (.builtin "min") [.ref l]) Q E s := by
  obtain ⟨xs, e⟩ := hi.allInts.items
  have hn : numsOf (intItems xs).toList = ns := by rw [← e]; exact hi.numsOf
  rw [nums_intItems] at hn
  subst hn
  rw [e] at hl
  have hsz : 0 < xs.size := by simpa using hne
  refine call_min_walk (iter_intTup hl fun s₂ e2 st hfp hlI => ?_)
  subst e2
  refine ⟨_, _, _, _, _, _, _, rfl, Walks.tuple (A := A.in1) hh _ l hlI (intItems xs), st, hfp, by simpa [intItems] using hsz, CmpOf.ints_lt (numAt xs) (fun _ _ => intItems_at), fun v h' tk hP hk => ?_⟩
  have hv : (intItems xs)[argBest (fun i j => decide (numAt xs i < numAt xs j)) (xs.size - 1)]? = some v := by simpa [intItems] using hP
  obtain ⟨t, rfl⟩ := intItems_at hv
  obtain ⟨h1, h2⟩ := argBest_lt (numAt xs) (xs.size - 1)
  refine h h' tk _ t (old_keptT hk) ?_ fun a ha => ?_
  · rw [numAt_eq]; exact PySem.getD_mem (by rw [List.length_map, Array.length_toList]; omega)
  · obtain ⟨j, hj, rfl⟩ := mem_getD ha
    rw [List.length_map, Array.length_toList] at hj
    rw [← numAt_eq]; exact h2 j (by omega)
end
section
variable {X : Cx}
def rMaxT (K : PySem.W.Frag) : List V → Hp → VK → Prop := fun vs H Q => ∃ (a : Addr) (ns : List Int), vs = [V.ref a] ∧ SqT K H a (ns.map V.int) ∧ 0 < ns.length ∧ ∀ m, m ∈ ns → (∀ y, y ∈ ns → y ≤ m) → Q (.int m) H
def rMinT (K : PySem.W.Frag) : List V → Hp → VK → Prop := fun vs H Q => ∃ (a : Addr) (ns : List Int), vs = [V.ref a] ∧ SqT K H a (ns.map V.int) ∧ 0 < ns.length ∧ ∀ m, m ∈ ns → (∀ y, y ∈ ns → m ≤ y) → Q (.int m) H
theorem cr_maxT (hc : X.calm = true) : CallR X (.builtin "max") (rMaxT X.K) := by
  intro pins s σ H vs us Q I r h
  obtain ⟨a, ns, rfl, hs, hne, q⟩ := h
  obtain ⟨its, rv, hl, _⟩ := I.tuple hs
  rw [Vals.ref1 r]
  exact max_rawT (I.ok.hd hc) hl rv.ints hne fun h' tk m t' hk h1 h2 => ⟨.int _, H, I.kept hk, ⟨_, rfl⟩, q m h1 h2⟩
theorem cr_minT (hc : X.calm = true) : CallR X (.builtin "min") (rMinT X.K) := by
  intro pins s σ H vs us Q I r h
  obtain ⟨a, ns, rfl, hs, hne, q⟩ := h
  obtain ⟨its, rv, hl, _⟩ := I.tuple hs
  rw [Vals.ref1 r]
  exact min_rawT (I.ok.hd hc) hl rv.ints hne fun h' tk m t' hk h1 h2 => ⟨.int _, H, I.kept hk, ⟨_, rfl⟩, q m h1 h2⟩
end
/-! ### rules with the written part named (within a comprehension) -/
section
variable {X : Cx} {K : PySem.W.Frag}
theorem ix_listK (h : X.K = K) : IxR X (rIxL K) := h ▸ ix_list
theorem ix_tupK (h : X.K = K) : IxR X (rIxT K) := h ▸ ix_tup
theorem ix_seqK (h : X.K = K) : IxR X (rIx K) := h ▸ ix_seq
theorem sl_listK (h : X.K = K) : SlR X (rSlL K) := h ▸ sl_list
theorem sl_tupK (h : X.K = K) : SlR X (rSlT K) := h ▸ sl_tup
theorem call_len_seqK (h : X.K = K) : CallR X (.builtin "len") (fun xs H Q => ∃ p ys, xs = [V.ref p] ∧ (SqL K H p ys ∨ SqT K H p ys) ∧ Q (.int ys.length) H) := h ▸ call_len_seq
theorem call_list_ofK (h : X.K = K) : CallR X (.type "list") (fun xs H Q => ∃ p ys, xs = [V.ref p] ∧ (SqL K H p ys ∨ SqT K H p ys) ∧ ∀ l, H l = none → Q (.ref l) (upd H l (.lst ys))) := h ▸ call_list_of
theorem call_tuple_ofK (h : X.K = K) : CallR X (.type "tuple") (fun xs H Q => ∃ p ys, xs = [V.ref p] ∧ ((SqL K H p ys ∧ ∀ l, H l = none → Q (.ref l) (upd H l (.tup ys))) ∨ (SqT K H p ys ∧ Q (.ref p) H))) := h ▸ call_tuple_of
theorem op_in_seqK (h : X.K = K) : OpR X (compareOp .In) (rIn K false) := h ▸ op_in_seq
theorem op_notIn_seqK (h : X.K = K) : OpR X (compareOp .NotIn) (rIn K true) := h ▸ op_notIn_seq
theorem op_eqDK (h : X.K = K) (hu : X.A.units + 64 < cLine) : OpR X (compareOp .Eq) (rEqD K) := h ▸ op_eqD hu
theorem op_neDK (h : X.K = K) (hu : X.A.units + 64 < cLine) : OpR X (compareOp .NotEq) (rNeD K) := h ▸ op_neD hu
theorem op_catTK (h : X.K = K) : OpR X (binaryOp .Add) (rCatT K) := h ▸ op_catT
theorem cr_allK (h : X.K = K) (hc : X.calm = true) : CallR X (.builtin "all") (rAll K) := h ▸ cr_all hc
theorem cr_anyK (h : X.K = K) (hc : X.calm = true) : CallR X (.builtin "any") (rAny K) := h ▸ cr_any hc
end
/-! ### heaps -/
theorem same_new {H : Hp} {p : Addr} {o : HO} (h : H p = none) : Same H (upd H p o) := fun b x e => by
  rw [upd_ne (ne_of_none e h)]
  exact e
theorem Same.tup {K : PySem.W.Frag} {H H' : Hp} {a : Addr} {xs : List V} (e : Same H H') (h : SqT K H a xs) : SqT K H' a xs := by
  rcases h with (h | ⟨o, h⟩) | h
  · exact .inl (.inl (e _ _ h))
  · exact .inl (.inr ⟨o, e _ _ h⟩)
  · exact .inr h
/-- all that was tracked is as it was, but at d -/
def Ext (d : Addr) (H H' : Hp) : Prop := ∀ b o, b ≠ d → H b = some o → H' b = some o
theorem Ext.refl (d : Addr) (H : Hp) : Ext d H H := fun _ _ _ h => h
theorem Ext.trans {d : Addr} {H H1 H2 : Hp} (a : Ext d H H1) (b : Ext d H1 H2) : Ext d H H2 := fun c o n h => b c o n (a c o n h)
theorem Ext.of {d : Addr} {H H' : Hp} (a : Same H H') : Ext d H H' := fun c o _ h => a c o h
theorem Ext.free {d : Addr} {H H' : Hp} {o : HO} (e : Ext d H H') (hd : H d = some o) {o' : HO} (hd' : H' d = some o') {l : Addr} (h : H' l = Option.none) : H l = Option.none := by
  cases q : H l with
  | none => rfl
  | some o2 =>
    by_cases n : l = d
    · subst n
      rw [hd'] at h
      cases h
    · rw [e l o2 n q] at h
      cases h
theorem Ext.seq {d : Addr} {K : PySem.W.Frag} {H H' : Hp} {a : Addr} {xs : List V} (e : Ext d H H') (n : a ≠ d) (h : SqL K H a xs) : SqL K H' a xs := by
  rcases h with (h | ⟨o, h⟩) | h
  · exact .inl (.inl (e _ _ n h))
  · exact .inl (.inr ⟨o, e _ _ n h⟩)
  · exact .inr h
end TT
namespace TT
open PySem PySem.Spec PyProof.Rows L2
/-! ### readings of small pieces -/
section
variable {K : PySem.W.Frag} {σ : L2.St} {H : Hp} {Q : VK}
theorem rd_ixL {i : Nat} {d : Addr} {xs : List V} (j : Nat) {v : V} (hσ : σ[i]? = some (some (.ref d))) (hL : SqL K H d xs) (hx : xs[j]? = some v) (q : Q v H) : tOp (rIxL K) (tVar i) (tC (.int (j : Int))) σ H Q := ⟨_, hσ, d, xs, j, v, rfl, rfl, hL, atI_nat hx, q⟩
theorem rd_ixT {i : Nat} {d : Addr} {xs : List V} (j : Nat) {v : V} (hσ : σ[i]? = some (some (.ref d))) (hL : SqT K H d xs) (hx : xs[j]? = some v) (q : Q v H) : tOp (rIxT K) (tVar i) (tC (.int (j : Int))) σ H Q := ⟨_, hσ, d, xs, j, v, rfl, rfl, hL, atI_nat hx, q⟩
/-- d['x'] of a tracked dict -/
theorem rd_dS {i : Nat} {d : Addr} {kvs : List (Key × V)} {v : V} (x : Str) (hσ : σ[i]? = some (some (.ref d))) (hd : H d = some (.dK kvs)) (hx : valV kvs (Sum.inr x) = some v) (q : Q v H) : tDGet (tVar i) (tC (.str x)) σ H Q :=
  ⟨_, hσ, d, v, rfl, by have := DGet.k (k := Sum.inr x) hd; rwa [hx] at this, q⟩
end
theorem iteFd {c : Bool} {A B : Prop} (e : c = false) (h : B) : if c = true then A else B := by
  rw [e, if_neg Bool.false_ne_true]
  exact h
theorem iteTd {c : Bool} {A B : Prop} (e : c = true) (h : A) : if c = true then A else B := by
  rw [e, if_pos rfl]
  exact h
theorem atI_int {α : Type} {xs : List α} {i : Int} {v : α} (h0 : 0 ≤ i) (h : xs[i.toNat]? = some v) : atI xs i = some v := by
  have := atI_nat h
  rwa [Int.toNat_of_nonneg h0] at this
theorem sz {n : Nat} (h : n ≤ 100000) : n ≤ sizeLine := Nat.le_trans h (by decide)
theorem szl {n : Nat} (h : n < 100000) : n < sizeLine := Nat.lt_of_lt_of_le h (by decide)
theorem cutV_map (ns : List Int) (lo hi : Option Int) : ∃ ms : List Int, cutV (ns.map V.int) lo hi = ms.map V.int ∧ ms.length ≤ ns.length := by
  refine ⟨(ns.drop (HT.sIx (ns.map V.int).length 0 lo)).take (HT.sIx (ns.map V.int).length (ns.map V.int).length hi - HT.sIx (ns.map V.int).length 0 lo), ?_, ?_⟩
  · unfold cutV
    rw [List.map_take, List.map_drop]
  · rw [List.length_take, List.length_drop]
    omega
/-! ### lists of ints as data -/
theorem dp_ints {K : PySem.W.Frag} {H : Hp} : ∀ ns : List Int, DpAll K H (ns.map V.int) (ns.map PyData.int)
  | [] => .nil
  | n :: ns => .cons (.int n) (dp_ints ns)
theorem lay_ints : ∀ ns : List Int, PyData.canLayAll0 (ns.map PyData.int) = true
  | [] => rfl
  | n :: ns => by
    show (PyData.canLay0 (.int n) && PyData.canLayAll0 (ns.map PyData.int)) = true
    rw [lay_ints ns]; rfl
theorem depth_ints : ∀ ns : List Int, PyData.depthAll (ns.map PyData.int) = 0
  | [] => rfl
  | n :: ns => by
    show max (PyData.depth (.int n)) (PyData.depthAll (ns.map PyData.int)) = 0
    rw [depth_ints ns]; rfl
theorem shaped_ints (ns : List Int) : SeqAt.shaped (.list (ns.map PyData.int)) = true := by
  show (PyData.canLayAll0 (ns.map PyData.int) && decide (PyData.depthAll (ns.map PyData.int) + 1 ≤ 64)) = true
  rw [lay_ints, depth_ints]; rfl
theorem shaped_intsT (ns : List Int) : SeqAt.shaped (.tuple (ns.map PyData.int)) = true := by
  show (PyData.canLayAll0 (ns.map PyData.int) && decide (PyData.depthAll (ns.map PyData.int) + 1 ≤ 64)) = true
  rw [lay_ints, depth_ints]; rfl
theorem eqv_ints : ∀ ns ms : List Int, PyData.eqvAll (ns.map PyData.int) (ms.map PyData.int) = decide (ns = ms)
  | [], [] => rfl
  | [], _ :: _ => rfl
  | _ :: _, [] => rfl
  | n :: ns, m :: ms => by
    show ((n == m) && PyData.eqvAll (ns.map PyData.int) (ms.map PyData.int)) = _
    rw [eqv_ints ns ms]
    by_cases h : n = m
    · subst h
      rw [beq_self_eq_true, Bool.true_and]
      by_cases g : ns = ms
      · rw [decide_eq_true g, decide_eq_true (by rw [g])]
      · rw [decide_eq_false g, decide_eq_false (fun z => g (List.cons.inj z).2)]
    · rw [beq_eq_false_iff_ne.mpr h, Bool.false_and, decide_eq_false (fun z => h (List.cons.inj z).1)]
/-- xs == ys, xs != ys of int lists -/
theorem rd_neL {K : PySem.W.Frag} {H : Hp} {a b : Addr} {ns ms : List Int} {Q : VK} (ha : SqL K H a (ns.map V.int)) (hb : SqL K H b (ms.map V.int)) (q : Q (.bl (!decide (ns = ms))) H) : rNeD K (.ref a) (.ref b) H Q :=
  ⟨_, _, .lst ha (dp_ints ns), .lst hb (dp_ints ms), shaped_ints ns, shaped_ints ms, by show Q (.bl (!PyData.eqvAll _ _)) H; rw [eqv_ints]; exact q⟩
theorem rd_eqL {K : PySem.W.Frag} {H : Hp} {a b : Addr} {ns ms : List Int} {Q : VK} (ha : SqL K H a (ns.map V.int)) (hb : SqL K H b (ms.map V.int)) (q : Q (.bl (decide (ns = ms))) H) : rEqD K (.ref a) (.ref b) H Q :=
  ⟨_, _, .lst ha (dp_ints ns), .lst hb (dp_ints ms), shaped_ints ns, shaped_ints ms, by show Q (.bl (PyData.eqvAll _ _)) H; rw [eqv_ints]; exact q⟩
theorem rd_neT {K : PySem.W.Frag} {H : Hp} {a b : Addr} {ns ms : List Int} {Q : VK} (ha : SqT K H a (ns.map V.int)) (hb : SqT K H b (ms.map V.int)) (q : Q (.bl (!decide (ns = ms))) H) : rNeD K (.ref a) (.ref b) H Q :=
  ⟨_, _, .tup ha (dp_ints ns), .tup hb (dp_ints ms), shaped_intsT ns, shaped_intsT ms, by show Q (.bl (!PyData.eqvAll _ _)) H; rw [eqv_ints]; exact q⟩
/-! ### the law's draws -/
abbrev MM : Int := 2305843009213693951
def Drw (c : Addr) (ns : List Int) (H : Hp) (d : Addr) : Prop := ∃ (i b z : Int), H d = some (.lst [.ref c, .int i, .int b, .int z]) ∧ H c = some (.lst (ns.map V.int)) ∧ c ≠ d ∧ 0 ≤ i ∧ 0 ≤ b ∧ 0 ≤ z ∧ z < MM
theorem Drw.at {c : Addr} {ns : List Int} {H : Hp} {d : Addr} (h : Drw c ns H d) : ∃ o, H d = some o := by
  obtain ⟨i, b, z, e, _⟩ := h
  exact ⟨_, e⟩
theorem Drw.same {c : Addr} {ns : List Int} {H H' : Hp} {d : Addr} (h : Drw c ns H d) (e : Same H H') : Drw c ns H' d := by
  obtain ⟨i, b, z, e1, e2, r⟩ := h
  exact ⟨i, b, z, e _ _ e1, e _ _ e2, r⟩
theorem Drw.new {c : Addr} {ns : List Int} {H : Hp} {d p : Addr} {o : HO} (h : Drw c ns H d) (np : H p = none) : Drw c ns (upd H p o) d := h.same (same_new np)
theorem Drw.ne {c : Addr} {ns : List Int} {H : Hp} {d p : Addr} (h : Drw c ns H d) (np : H p = none) : p ≠ d := fun e => by
  obtain ⟨o, ho⟩ := h.at
  rw [e, ho] at np
  cases np
theorem Drw.nec {c : Addr} {ns : List Int} {H : Hp} {d p : Addr} (h : Drw c ns H d) (np : H p = none) : p ≠ c := fun e => by
  obtain ⟨i, b, z, e1, e2, r⟩ := h
  rw [e, e2] at np
  cases np
/-- an object that an earlier heap did not know may change -/
theorem Drw.put {c : Addr} {ns : List Int} {H0 H : Hp} {d p : Addr} {o : HO} (h : Drw c ns H d) (h0 : Drw c ns H0 d) (np : H0 p = none) : Drw c ns (upd H p o) d := by
  obtain ⟨i, b, z, e1, e2, r⟩ := h
  exact ⟨i, b, z, by rw [upd_ne (h0.ne np).symm]; exact e1, by rw [upd_ne (h0.nec np).symm]; exact e2, r⟩
/-- an object that the earlier heap H0 did not know may change -/
theorem Ext.put {d p : Addr} {H0 H : Hp} {o : HO} (e : Ext d H0 H) (np : H0 p = none) : Ext d H0 (upd H p o) := fun b u n h => by
  rw [upd_ne (ne_of_none h np)]
  exact e b u n h
theorem Same.put {p : Addr} {H0 H : Hp} {o : HO} (e : Same H0 H) (np : H0 p = none) : Same H0 (upd H p o) := fun b u h => by
  rw [upd_ne (ne_of_none h np)]
  exact e b u h
theorem Ext.but {d : Addr} {H H' : Hp} (h : ∀ b, b ≠ d → H' b = H b) : Ext d H H' := fun b o n e => by rw [h b n]; exact e
/-- a list stays where it is: it is not d, for d holds something else -/
def spTake : Sp := fun vs H Q _ => ∃ (d : Addr) (m : Int) (c : Addr) (ns : List Int), vs = [.ref d, .int m] ∧ 1 ≤ m ∧ m < 2 ^ 200 ∧ Drw c ns H d ∧ ∀ r H', 0 ≤ r → r < m → Drw c ns H' d → (∀ b, b ≠ d → H' b = H b) → Q (.int r) H'
def spOf (K : PySem.W.Frag) : Sp := fun vs H Q _ => ∃ (d a : Addr) (xs : List V) (c : Addr) (ns : List Int), vs = [.ref d, .ref a] ∧ SqL K H a xs ∧ 0 < xs.length ∧ xs.length ≤ 100000 ∧ a ≠ d ∧ Drw c ns H d ∧ ∀ x H', x ∈ xs → Drw c ns H' d → (∀ b, b ≠ d → H' b = H b) → Q x H'
def spStart (K : PySem.W.Frag) : Sp := fun vs H Q _ => ∃ (a : Addr) (ns : List Int), vs = [.ref a] ∧ SqL K H a (ns.map V.int) ∧ ns.length ≤ 63 ∧ ∀ d c ms H', Same H H' → H d = none → Drw c ms H' d → Q (.ref d) H'
def spShuf (K : PySem.W.Frag) : Sp := fun vs H Q _ => ∃ (d a : Addr) (xs : List V) (c : Addr) (ns : List Int), vs = [.ref d, .ref a] ∧ SqL K H a xs ∧ xs.length ≤ 1000 ∧ a ≠ d ∧ Drw c ns H d ∧
  ∀ ys p H', ys.Perm xs → Ext d H H' → Drw c ns H' d → H p = none → H' p = some (.lst ys) → Q (.ref p) H'
/-- ascending keys within the bounds -/
structure Asc (ks : List Int) : Prop where
  lt : ks.Pairwise (· < ·)
  bd : ∀ k ∈ ks, -1000000000 ≤ k ∧ k ≤ 1000000000
def spKeys : Sp := fun vs H Q _ => ∃ (d : Addr) (m : Int) (c : Addr) (ns : List Int), vs = [.ref d, .int m] ∧ 0 ≤ m ∧ m ≤ 49 ∧ Drw c ns H d ∧
  ∀ ks p H', (ks.length : Int) = m → Asc ks → Ext d H H' → Drw c ns H' d → H p = none → H' p = some (.lst (ks.map V.int)) → Q (.ref p) H'
def spSize : Sp := fun vs H Q _ => ∃ (d : Addr) (m : Int) (c : Addr) (ns : List Int), vs = [.ref d, .int m] ∧ 0 ≤ m ∧ m ≤ 1000 ∧ Drw c ns H d ∧ ∀ r H', 0 ≤ r → r ≤ m → Ext d H H' → Drw c ns H' d → Q (.int r) H'
end TT
namespace TT
open PySem PySem.Spec PyProof.Rows L2
/-! ### a tree of nodes in dicts -/
/-- a dict from ints to ints, as a function -/
structure Mp (kvs : List (Key × V)) (f : Int → Option Int) (n : Nat) : Prop where
  all : ∀ p ∈ kvs, ∃ a b, p = (Sum.inl a, V.int b)
  val : ∀ x, valV kvs (Sum.inl x) = (f x).map V.int
  len : kvs.length ≤ n
  nd : (kvs.map (·.1)).Nodup
theorem putK_len (c : List (Key × V)) (k : Key) (x : V) : (putK c k x).length ≤ c.length + 1 := by
  unfold putK
  split
  · rw [List.length_map]; omega
  · rw [List.length_append]; exact Nat.le_refl _
theorem mem_putK {c : List (Key × V)} {k : Key} {x : V} {p : Key × V} (h : p ∈ putK c k x) : p ∈ c ∨ p = (k, x) := by
  unfold putK at h
  split at h
  · obtain ⟨q, hq, e⟩ := List.mem_map.mp h
    split at e
    · next e2 => rw [e2] at e; exact .inr e.symm
    · exact .inl (e ▸ hq)
  · rcases List.mem_append.mp h with h | h
    · exact .inl h
    · exact .inr (List.mem_singleton.mp h)
theorem Mp.nil {n : Nat} : Mp [] (fun _ => none) n := ⟨fun _ h => (by cases h), fun _ => rfl, Nat.zero_le _, List.nodup_nil⟩
theorem nd_put {kvs : List (Key × V)} {k : Key} (v : V) (hn : (kvs.map (·.1)).Nodup) : ((putK kvs k v).map (·.1)).Nodup := by
  cases h : valV kvs k with
  | none => exact nd_putK v hn h
  | some y =>
    have ha : (kvs.any fun kv => decide (kv.1 = k)) = true := by rw [valV_any, h]; rfl
    unfold putK
    rw [if_pos ha, List.map_map]
    have : ((fun p : Key × V => p.1) ∘ fun kv => if kv.1 = k then (kv.1, v) else kv) = fun p => p.1 := funext fun p => by
      show (if p.1 = k then (p.1, v) else p).1 = p.1
      split <;> rfl
    rw [this]
    exact hn
theorem Mp.put {kvs : List (Key × V)} {f : Int → Option Int} {n : Nat} (h : Mp kvs f n) (x y : Int) : Mp (putK kvs (Sum.inl x) (.int y)) (fun z => if z = x then some y else f z) (n + 1) := by
  refine ⟨fun p hp => ?_, fun z => ?_, ?_, nd_put _ h.nd⟩
  · rcases mem_putK hp with h' | rfl
    · exact h.all p h'
    · exact ⟨_, _, rfl⟩
  · rw [valV_put]
    by_cases e : z = x
    · rw [if_pos (by rw [e]), if_pos e]; rfl
    · rw [if_neg (fun z => e (Sum.inl.inj z)), if_neg e]; exact h.val z
  · have := putK_len kvs (Sum.inl x) (.int y)
    have := h.len
    omega
theorem Mp.eq {kvs : List (Key × V)} {f g : Int → Option Int} {n m : Nat} (h : Mp kvs f n) (e : ∀ x, f x = g x) (l : n ≤ m) : Mp kvs g m := ⟨h.all, fun x => by rw [h.val x, e x], Nat.le_trans h.len l, h.nd⟩
theorem valV_drop {y k : Key} : ∀ (kvs : List (Key × V)), valV (dropK kvs k) y = if y = k then none else valV kvs y
  | [] => by
    show none = _
    split <;> rfl
  | p :: r => by
    by_cases e : p.1 = k
    · rw [dropK_pos e, valV_drop r]
      by_cases g : y = k
      · rw [if_pos g, if_pos g]
      · rw [if_neg g, if_neg g, valV_neg (fun z => g (z.symm.trans e))]
    · rw [dropK_neg e]
      by_cases g : p.1 = y
      · rw [valV_pos g, valV_pos g, if_neg (fun z => e (g.trans z))]
      · rw [valV_neg g, valV_drop r, valV_neg g]
theorem Mp.pop {kvs : List (Key × V)} {f : Int → Option Int} {n : Nat} (h : Mp kvs f n) (x : Int) : Mp (dropK kvs (Sum.inl x)) (fun z => if z = x then none else f z) n := by
  refine ⟨fun p hp => h.all p (dropK_mem hp), fun z => ?_, Nat.le_trans (dropK_le ..) h.len, nd_dropK h.nd⟩
  rw [valV_drop]
  by_cases e : z = x
  · rw [if_pos (by rw [e]), if_pos e]; rfl
  · rw [if_neg (fun q => e (Sum.inl.inj q)), if_neg e]; exact h.val z
theorem nodup_len : ∀ {l m : List Key}, l.Nodup → l ⊆ m → l.length ≤ m.length
  | [], _, _, _ => Nat.zero_le _
  | x :: l, m, nd, h => by
    obtain ⟨h1, h2⟩ := List.nodup_cons.mp nd
    have hx := h List.mem_cons_self
    have h3 := nodup_len (m := m.filter fun y => !decide (y = x)) h2 fun y hy => List.mem_filter.mpr ⟨h (List.mem_cons_of_mem _ hy), by
      have ne : y ≠ x := fun z => h1 (z ▸ hy)
      simp [ne]⟩
    have h4 : (m.filter fun y => !decide (y = x)).length < m.length := List.length_filter_lt_length_iff_exists.mpr ⟨x, hx, by simp⟩
    rw [List.length_cons]
    omega
theorem Mp.small {kvs : List (Key × V)} {f : Int → Option Int} {n : Nat} {l : List Int} (h : Mp kvs f n) (hl : ∀ x, f x ≠ none → x ∈ l) : Mp kvs f l.length := by
  refine ⟨h.all, h.val, ?_, h.nd⟩
  have sub : (kvs.map (·.1)) ⊆ l.map Sum.inl := fun k hk => by
    obtain ⟨p, hp, rfl⟩ := List.mem_map.mp hk
    obtain ⟨a, b, rfl⟩ := h.all p hp
    refine List.mem_map.mpr ⟨a, hl a fun z => ?_, rfl⟩
    have hv := h.val a
    rw [z] at hv
    exact valV_not hv hk
  have := nodup_len h.nd sub
  rwa [List.length_map, List.length_map] at this
def oV : Option Int → V
  | none => .non
  | some k => .int k
abbrev nodK (rt : Option Int) (L R U : Addr) : List (Key × V) := [(Sum.inr "root", oV rt), (Sum.inr "left", .ref L), (Sum.inr "right", .ref R), (Sum.inr "up", .ref U)]
structure Nod (H : Hp) (m L R U : Addr) (rt : Option Int) (lf rf uf : Int → Option Int) (n : Nat) : Prop where
  hm : H m = some (.dK (nodK rt L R U))
  l : ∃ lk, H L = some (.dK lk) ∧ Mp lk lf n
  r : ∃ rk, H R = some (.dK rk) ∧ Mp rk rf n
  u : ∃ uk, H U = some (.dK uk) ∧ Mp uk uf n
  mL : m ≠ L
  mR : m ≠ R
  mU : m ≠ U
  LR : L ≠ R
  LU : L ≠ U
  RU : R ≠ U
abbrev TrAt (H : Hp) (m L R U : Addr) (t : T) (n : Nat) : Prop := Nod H m L R U t.rt t.lc t.rc t.up n
theorem Nod.same {H H' : Hp} {m L R U : Addr} {rt : Option Int} {lf rf uf : Int → Option Int} {n : Nat} (h : Nod H m L R U rt lf rf uf n) (e : Same H H') : Nod H' m L R U rt lf rf uf n := by
  obtain ⟨lk, h1, h2⟩ := h.l
  obtain ⟨rk, h3, h4⟩ := h.r
  obtain ⟨uk, h5, h6⟩ := h.u
  exact ⟨e _ _ h.hm, ⟨lk, e _ _ h1, h2⟩, ⟨rk, e _ _ h3, h4⟩, ⟨uk, e _ _ h5, h6⟩, h.mL, h.mR, h.mU, h.LR, h.LU, h.RU⟩
theorem nod_root {rt : Option Int} {L R U : Addr} : valV (nodK rt L R U) (Sum.inr "root") = some (oV rt) := by rfl
theorem nod_left {rt : Option Int} {L R U : Addr} : valV (nodK rt L R U) (Sum.inr "left") = some (.ref L) := by rfl
theorem nod_right {rt : Option Int} {L R U : Addr} : valV (nodK rt L R U) (Sum.inr "right") = some (.ref R) := by rfl
theorem nod_up {rt : Option Int} {L R U : Addr} : valV (nodK rt L R U) (Sum.inr "up") = some (.ref U) := by rfl
theorem nod_put {rt : Option Int} {L R U : Addr} {y : Option Int} : putK (nodK rt L R U) (Sum.inr "root") (oV y) = nodK y L R U := by rfl
def spEmpty : Sp := fun vs H Q _ => vs = [] ∧ ∀ m L R U H', Same H H' → H m = none → H L = none → H R = none → H U = none → Nod H' m L R U none (fun _ => none) (fun _ => none) (fun _ => none) 0 → Q (.ref m) H'
def spPlace : Sp := fun vs H Q _ => ∃ (m : Addr) (key : Int) (L R U : Addr) (t : T) (n : Nat), vs = [.ref m, .int key] ∧ TrAt H m L R U t n ∧ t.bst ∧ key ∉ t.pre ∧ t.pre.length ≤ 58 ∧ n ≤ 1000 ∧
  ∀ H', TrAt H' m L R U (t.ins key) (n + 1) → (∀ b, b ≠ m → b ≠ L → b ≠ R → b ≠ U → H' b = H b) → Q (.int (t.dIns key)) H'
/-- the tree of the keys of a list or tuple -/
def spTree (K : PySem.W.Frag) : Sp := fun vs H Q _ => ∃ (a : Addr) (ks : List Int), vs = [.ref a] ∧ (SqL K H a (ks.map V.int) ∨ SqT K H a (ks.map V.int)) ∧ ks.Nodup ∧ ks.length ≤ 58 ∧
  ∀ m L R U H', Same H H' → H m = none → H L = none → H R = none → H U = none → TrAt H' m L R U (T.insAll ks T.leaf) ks.length → Q (.ref m) H'
def spShape : Sp := fun vs H Q _ => ∃ (m L R U : Addr) (t : T) (uf : Int → Option Int) (n : Nat), vs = [.ref m] ∧ Nod H m L R U t.rt t.lc t.rc uf n ∧ t.bst ∧ t.pre.length ≤ 1000 ∧
  ∀ p H', Same H H' → H p = none → H' p = some (.tup (t.pre.map V.int)) → Q (.ref p) H'
def spSome (K : PySem.W.Frag) : Sp := fun vs H Q _ => ∃ (d a : Addr) (ks : List Int) (c : Addr) (ns : List Int), vs = [.ref d, .ref a] ∧ SqL K H a (ks.map V.int) ∧ Asc ks ∧ ks.length ≤ 49 ∧ a ≠ d ∧ Drw c ns H d ∧
  ∀ (t : T) p H', t.bst → t.pre.Perm ks → Ext d H H' → Drw c ns H' d → H p = none → H' p = some (.tup (t.pre.map V.int)) → Q (.ref p) H'
theorem Nod.insL {H : Hp} {m L R U : Addr} {t : T} {n : Nat} {key x : Int} {lk uk : List (Key × V)} (hT : TrAt H m L R U t n) (hb : t.bst) (hk : key ∉ t.pre) (e : t.spot key = some (x, true)) (hl : Mp lk t.lc n) (hu : Mp uk t.up n) :
    TrAt (upd (upd H L (.dK (putK lk (Sum.inl x) (.int key)))) U (.dK (putK uk (Sum.inl key) (.int x)))) m L R U (t.ins key) (n + 1) := by
  have nl : t ≠ T.leaf := fun z => by rw [z] at e; cases e
  obtain ⟨rk, h3, h4⟩ := hT.r
  refine ⟨?_, ⟨_, by rw [upd_ne hT.LU, upd_same], (hl.put x key).eq (fun z => ?_) (Nat.le_refl _)⟩, ⟨rk, by rw [upd_ne hT.RU, upd_ne hT.LR.symm]; exact h3, h4.eq (fun z => ?_) (Nat.le_succ _)⟩, ⟨_, upd_same, (hu.put key x).eq (fun z => ?_) (Nat.le_refl _)⟩, hT.mL, hT.mR, hT.mU, hT.LR, hT.LU, hT.RU⟩
  · rw [upd_ne hT.mU, upd_ne hT.mL, rt_ins nl]; exact hT.hm
  · rw [lc_ins hb hk, e]
    by_cases ez : z = x
    · subst ez; rw [if_pos rfl, if_pos rfl]
    · rw [if_neg ez, if_neg (fun q => ez (Prod.mk.inj (Option.some.inj q)).1.symm)]
  · rw [rc_ins hb hk, e, if_neg (fun q => Bool.noConfusion (Prod.mk.inj (Option.some.inj q)).2)]
  · rw [up_ins hb hk, e]; rfl
theorem Nod.insR {H : Hp} {m L R U : Addr} {t : T} {n : Nat} {key x : Int} {rk uk : List (Key × V)} (hT : TrAt H m L R U t n) (hb : t.bst) (hk : key ∉ t.pre) (e : t.spot key = some (x, false)) (hr : Mp rk t.rc n) (hu : Mp uk t.up n) :
    TrAt (upd (upd H R (.dK (putK rk (Sum.inl x) (.int key)))) U (.dK (putK uk (Sum.inl key) (.int x)))) m L R U (t.ins key) (n + 1) := by
  have nl : t ≠ T.leaf := fun z => by rw [z] at e; cases e
  obtain ⟨lk, h3, h4⟩ := hT.l
  refine ⟨?_, ⟨lk, by rw [upd_ne hT.LU, upd_ne hT.LR]; exact h3, h4.eq (fun z => ?_) (Nat.le_succ _)⟩, ⟨_, by rw [upd_ne hT.RU, upd_same], (hr.put x key).eq (fun z => ?_) (Nat.le_refl _)⟩, ⟨_, upd_same, (hu.put key x).eq (fun z => ?_) (Nat.le_refl _)⟩, hT.mL, hT.mR, hT.mU, hT.LR, hT.LU, hT.RU⟩
  · rw [upd_ne hT.mU, upd_ne hT.mR, rt_ins nl]; exact hT.hm
  · rw [lc_ins hb hk, e, if_neg (fun q => Bool.noConfusion (Prod.mk.inj (Option.some.inj q)).2)]
  · rw [rc_ins hb hk, e]
    by_cases ez : z = x
    · subst ez; rw [if_pos rfl, if_pos rfl]
    · rw [if_neg ez, if_neg (fun q => ez (Prod.mk.inj (Option.some.inj q)).1.symm)]
  · rw [up_ins hb hk, e]; rfl
/-! ### readings -/
section
variable {K : PySem.W.Frag} {σ : L2.St} {H : Hp} {Q : VK}
theorem dg_s {kvs : List (Key × V)} {v : V} {d : Addr} (x : Str) (hd : H d = some (.dK kvs)) (hx : valV kvs (Sum.inr x) = some v) : DGet H d (.str x) (some v) := by
  have := DGet.k (k := Sum.inr x) hd
  rwa [hx] at this
theorem dg_in {kvs : List (Key × V)} {f : Int → Option Int} {n : Nat} {d : Addr} {x : Int} (hd : H d = some (.dK kvs)) (h : Mp kvs f n) : DGet H d (.int x) ((f x).map V.int) := by
  have := DGet.k (k := Sum.inl x) hd
  rwa [h.val x] at this
theorem dp_in {kvs : List (Key × V)} {f : Int → Option Int} {n : Nat} {d : Addr} {x y : Int} (hd : H d = some (.dK kvs)) (h : Mp kvs f n) (hn : n ≤ 99999) : DPut H d (.int x) (.int y) (upd H d (.dK (putK kvs (Sum.inl x) (.int y)))) :=
  DPut.k (k := Sum.inl x) hd (szl (by have := h.len; omega))
end
end TT
namespace TT
open PySem PySem.Spec PyProof.Rows L2
/-! from K06e -/
/-! ### the preorder by a stack -/
abbrev Nd := T × Int × T
def ndT (n : Nd) : T := T.node n.1 n.2.1 n.2.2
def pres : List Nd → List Int
  | [] => []
  | n :: ns => pres ns ++ (ndT n).pre
theorem pres_append (ts us : List Nd) : pres (ts ++ us) = pres us ++ pres ts := by
  induction ts with
  | nil => simp [pres]
  | cons t ts ih => simp [pres, ih]
theorem len_pres : ∀ ts : List Nd, ts.length ≤ (pres ts).length
  | [] => Nat.le_refl _
  | n :: ts => by
    have := len_pres ts
    show ts.length + 1 ≤ (pres ts ++ (ndT n).pre).length
    rw [List.length_append]
    show _ ≤ _ + (n.2.1 :: (n.1.pre ++ n.2.2.pre)).length
    rw [List.length_cons]
    omega
def kid : T → List Nd
  | T.leaf => []
  | T.node l x r => [(l, x, r)]
def roots (ts : List Nd) : List Int := ts.map (·.2.1)
theorem pres_kid (t : T) : pres (kid t) = t.pre := by cases t <;> simp [kid, pres, T.pre, ndT]
/-! from K06f -/
def zigI (n k : Nat) : Nat := if k % 2 = 0 then k / 2 else n - 1 - k / 2
def zig (ks : List Int) (m : Nat) : List Int := (List.range m).map fun k => ks.getD (zigI ks.length k) 0
theorem asc_nodup {ks : List Int} (h : Asc ks) : ks.Nodup := h.lt.imp fun a => by omega
theorem getD_inj {ks : List Int} (h : ks.Nodup) {i j : Nat} (hi : i < ks.length) (hj : j < ks.length) (e : ks.getD i 0 = ks.getD j 0) : i = j := by
  rw [List.getD_eq_getElem?_getD, List.getD_eq_getElem?_getD, List.getElem?_eq_getElem hi, List.getElem?_eq_getElem hj] at e
  exact (List.getElem?_inj hi h).mp (by rw [List.getElem?_eq_getElem hi, List.getElem?_eq_getElem hj]; exact congrArg some e)
theorem zig_nodup {ks : List Int} (h : ks.Nodup) : (zig ks ks.length).Nodup := by
  unfold zig List.Nodup
  rw [List.pairwise_map]
  refine List.Pairwise.imp_of_mem ?_ List.pairwise_lt_range
  intro a b ha hb hab e
  rw [List.mem_range] at ha hb
  have := getD_inj h (i := zigI ks.length a) (j := zigI ks.length b) (by unfold zigI; split <;> omega) (by unfold zigI; split <;> omega) e
  unfold zigI at this
  split at this <;> split at this <;> omega
theorem getD_mem' {ks : List Int} {i : Nat} (hi : i < ks.length) : ks.getD i 0 ∈ ks := by
  rw [List.getD_eq_getElem?_getD, List.getElem?_eq_getElem hi]; exact List.getElem_mem hi
theorem zig_mem {ks : List Int} {x : Int} : x ∈ zig ks ks.length ↔ x ∈ ks := by
  unfold zig
  rw [List.mem_map]
  constructor
  · rintro ⟨k, hk, rfl⟩
    rw [List.mem_range] at hk
    exact getD_mem' (by unfold zigI; split <;> omega)
  · intro hx
    obtain ⟨j, hj, rfl⟩ := List.getElem_of_mem hx
    by_cases h : 2 * j < ks.length
    · refine ⟨2 * j, List.mem_range.mpr h, ?_⟩
      have : zigI ks.length (2 * j) = j := by unfold zigI; rw [if_pos (by omega)]; omega
      rw [this, List.getD_eq_getElem?_getD, List.getElem?_eq_getElem hj]; rfl
    · refine ⟨2 * (ks.length - 1 - j) + 1, List.mem_range.mpr (by omega), ?_⟩
      have : zigI ks.length (2 * (ks.length - 1 - j) + 1) = j := by unfold zigI; rw [if_neg (by omega)]; omega
      rw [this, List.getD_eq_getElem?_getD, List.getElem?_eq_getElem hj]; rfl
theorem zig_perm {ks : List Int} (h : ks.Nodup) : (zig ks ks.length).Perm ks := (List.perm_ext_iff_of_nodup (zig_nodup h) h).mpr fun _ => zig_mem
theorem insAll_perm {ks : List Int} (h : ks.Nodup) : (T.insAll ks T.leaf).pre.Perm ks := by
  refine (List.perm_ext_iff_of_nodup (nodup_pre (bst_insAll (t := T.leaf) trivial h fun _ _ z => (by cases z))) h).mpr fun x => ?_
  rw [mem_insAll]
  exact ⟨fun z => z.elim id fun z => (by cases z), fun z => .inl z⟩
/-! from K06g -/
/-- the same data on both sides, at most n deep -/
def Eqv (H : Hp) : Nat → V → V → Prop
  | 0, x, y => flatV x = true ∧ x = y
  | n + 1, x, y => (flatV x = true ∧ x = y) ∨ ∃ a b xs ys, x = .ref a ∧ y = .ref b ∧ ((H a = some (.lst xs) ∧ H b = some (.lst ys)) ∨ (H a = some (.tup xs) ∧ H b = some (.tup ys))) ∧ xs.length = ys.length ∧ xs.length ≤ 1000 ∧ ∀ (i : Nat) u v, xs[i]? = some u → ys[i]? = some v → Eqv H n u v
theorem Eqv.same {H H' : Hp} (e : Same H H') : ∀ {n : Nat} {x y : V}, Eqv H n x y → Eqv H' n x y
  | 0, _, _, h => (show flatV _ = true ∧ _ from h)
  | n + 1, _, _, h => by
    rcases h with h | ⟨a, b, xs, ys, e1, e2, h1, h2, h3, h4⟩
    · exact .inl h
    · refine .inr ⟨a, b, xs, ys, e1, e2, ?_, h2, h3, fun i u v a1 a2 => (h4 i u v a1 a2).same e⟩
      rcases h1 with ⟨p, q⟩ | ⟨p, q⟩
      · exact .inl ⟨e _ _ p, e _ _ q⟩
      · exact .inr ⟨e _ _ p, e _ _ q⟩
def spSame (n : Nat) : Sp := fun vs H Q _ => ∃ x y, vs = [x, y] ∧ Eqv H n x y ∧ ∀ H', Same H H' → Q (.bl true) H'
theorem Eqv.cases {H : Hp} : ∀ {n : Nat} {x y : V}, Eqv H n x y → (flatV x = true ∧ x = y) ∨ ∃ m a b xs ys, n = m + 1 ∧ x = .ref a ∧ y = .ref b ∧ ((H a = some (.lst xs) ∧ H b = some (.lst ys)) ∨ (H a = some (.tup xs) ∧ H b = some (.tup ys))) ∧ xs.length = ys.length ∧ xs.length ≤ 1000 ∧ ∀ (i : Nat) u v, xs[i]? = some u → ys[i]? = some v → Eqv H m u v
  | 0, _, _, h => .inl h
  | n + 1, _, _, h => by
    rcases h with h | ⟨a, b, xs, ys, h⟩
    · exact .inl h
    · exact .inr ⟨n, a, b, xs, ys, rfl, h⟩
/-- what the calls within may lean on -/
def spPrev : Nat → Sp
  | 0 => fun _ _ _ _ => False
  | n + 1 => spSame n
/-! ### isinstance -/
section
variable {K : PySem.W.Frag} {H : Hp} {Q : VK}
theorem kLT {t : String} {r1 r2 : Bool} (h1 : kitB t "list" = some r1) (h2 : kitB t "tuple" = some r2) : PySem.W.kitAny K (.type t) [.type "list", .type "tuple"] = some (r1 || r2) := by
  refine kitAny_cons (kit_ty h1) (fun e => ?_) (fun e => by rw [e]; rfl)
  subst e
  refine kitAny_cons (r := false || r2) (kit_ty h2) (fun e => ?_) (fun e => by rw [e]; rfl)
  subst e
  exact kitAny_nil
end
theorem walk_zipT {K : PySem.W.Frag} {a b : Addr} {xs ys : List V} {n : Nat} (hn : n = min xs.length ys.length) : Walk (RZ.ItzT K a b) n (fun H => SqT K H a xs ∧ SqT K H b ys) (YPair (fun i => xs[i]?) (fun i => ys[i]?)) := by
  subst hn
  refine ⟨fun i H hi g => ?_, fun H g => ⟨xs, ys, g.1, g.2, by omega⟩, fun i H v H' hi g y => ?_⟩
  · exact ⟨xs, ys, xs[i]'(by omega), ys[i]'(by omega), g.1, g.2, List.getElem?_eq_getElem _, List.getElem?_eq_getElem _⟩
  · obtain ⟨T, x, z, a1, a2, a3, a4, a5⟩ := y
    exact ⟨T, x, z, a1, a2, a3, a4 _ g.1, a5 _ g.2⟩
/-! from K06h -/
def okLo : Option Int → Int → Bool
  | none, _ => true
  | some l, x => decide (l < x)
def okHi : Option Int → Int → Bool
  | none, _ => true
  | some h, x => decide (x < h)
def T.lt : T → T
  | T.leaf => T.leaf
  | T.node l _ _ => l
def T.rtr : T → T
  | T.leaf => T.leaf
  | T.node _ _ r => r
def spRestrict (K : PySem.W.Frag) : Sp := fun vs H Q _ => ∃ (a : Addr) (ks : List Int) (lo hi : Option Int), vs = [.ref a, oV lo, oV hi] ∧ SqT K H a (ks.map V.int) ∧ ks.length ≤ 1000 ∧
  ∀ p H', Same H H' → H p = none → H' p = some (.tup ((ks.filter fun x => okLo lo x && okHi hi x).map V.int)) → Q (.ref p) H'
def spParts (K : PySem.W.Frag) : Sp := fun vs H Q _ => ∃ (a : Addr) (t : T), vs = [.ref a] ∧ SqT K H a (t.pre.map V.int) ∧ t.bst ∧ t.pre.length ≤ 1000 ∧
  ∀ p l r H', Same H H' → H p = none → H' p = some (.tup [.ref l, .ref r]) → H' l = some (.tup (t.lt.pre.map V.int)) → H' r = some (.tup (t.rtr.pre.map V.int)) → Q (.ref p) H'
def spSearch (K : PySem.W.Frag) : Sp := fun vs H Q _ => ∃ (a : Addr) (key : Int) (t : T), vs = [.ref a, .int key] ∧ SqT K H a (t.pre.map V.int) ∧ t.bst ∧ t.pre.length ≤ 1000 ∧
  ∀ p H', Same H H' → H p = none → H' p = some (.lst ((t.path key).map V.int)) → Q (.ref p) H'
def spSpL (K : PySem.W.Frag) : Sp := fun vs H Q _ => ∃ (a : Addr) (t : T), vs = [.ref a] ∧ SqT K H a (t.pre.map V.int) ∧ t.bst ∧ t.pre.length ≤ 1000 ∧
  ∀ p H', Same H H' → H p = none → H' p = some (.tup [.int (t.lsp : Int), .int (t.rsp : Int)]) → Q (.ref p) H'
def spMir (K : PySem.W.Frag) (n : Nat) : Sp := fun vs H Q _ => ∃ (a : Addr) (t : T), vs = [.ref a] ∧ SqT K H a (t.pre.map V.int) ∧ t.bst ∧ t.pre.length < n ∧ t.pre.length ≤ 1000 ∧
  ∀ p H', Same H H' → H' p = some (.tup (t.mir.pre.map V.int)) → Q (.ref p) H'
section
variable {K : PySem.W.Frag} {σ : L2.St} {H : Hp}
theorem rd_lo {i j : Nat} {lo : Option Int} {x : Int} {Q : Bool → Hp → Prop} (h1 : σ[i]? = some (some (oV lo))) (h3 : σ[j]? = some (some (.int x))) (q : Q (okLo lo x) H) : tOr (tB (tIsN (tVar i))) (tTest (tOp (rI0 fun i j => .bl (decide (i < j))) (tVar i) (tVar j))) σ H Q := by
  cases lo with
  | none => exact ⟨_, h1, _, rfl, iteTd rfl q⟩
  | some l => exact ⟨_, h1, _, rfl, iteFd rfl ⟨_, h1, _, h3, l, x, rfl, rfl, _, rfl, q⟩⟩
theorem rd_hi {i j : Nat} {hi : Option Int} {x : Int} {Q : Bool → Hp → Prop} (h1 : σ[i]? = some (some (oV hi))) (h3 : σ[j]? = some (some (.int x))) (q : Q (okHi hi x) H) : tOr (tB (tIsN (tVar i))) (tTest (tOp (rI0 fun i j => .bl (decide (i < j))) (tVar j) (tVar i))) σ H Q := by
  cases hi with
  | none => exact ⟨_, h1, _, rfl, iteTd rfl q⟩
  | some l => exact ⟨_, h1, _, rfl, iteFd rfl ⟨_, h3, _, h1, x, l, rfl, rfl, _, rfl, q⟩⟩
theorem rd_catT {a b : Addr} {xs ys : List V} {Q : VK} (ha : H a = some (.tup xs)) (hb : SqT K H b ys) (h0 : xs ≠ []) (hl : xs.length + ys.length ≤ 100000) (q : ∀ p H', Same H H' → H' p = some (.tup (xs ++ ys)) → Q (.ref p) H') : rCatT K (.ref a) (.ref b) H Q := by
  refine ⟨a, b, xs, ys, rfl, rfl, SqT.of ha, hb, h0, sz hl, fun e => ?_, fun _ p np => q p _ (same_new np) upd_same⟩
  subst e
  exact q a H (.refl H) (by rw [List.append_nil]; exact ha)
end
/-! from K06k -/
def sideS (b : Bool) : Str := if b then "left" else "right"
def T.sp (b : Bool) (t : T) : Nat := if b then t.lsp else t.rsp
def spSpine : Sp := fun vs H Q _ => ∃ (m L R U : Addr) (t : T) (uf : Int → Option Int) (n : Nat) (b : Bool), vs = [.ref m, .str (sideS b)] ∧ Nod H m L R U t.rt t.lc t.rc uf n ∧ t.bst ∧ t.pre.length ≤ 41 ∧ Q (.int (t.sp b : Int)) H
theorem sp_node {b : Bool} {l r : T} {x : Int} : (T.node l x r).sp b = (if b then l.sp b else r.sp b) + 1 := by cases b <;> rfl
theorem sp_le {b : Bool} {t : T} : t.sp b ≤ t.pre.length := by cases b; exact rsp_le; exact lsp_le
/-! from K06l -/
/-! ### the mirror's dicts -/
def keysI (kvs : List (Key × V)) : List Int := kvs.filterMap fun p => match p.1 with | Sum.inl a => some a | Sum.inr _ => none
theorem valV_out {y : Int} : ∀ {kvs : List (Key × V)}, y ∉ keysI kvs → valV kvs (Sum.inl y) = none
  | [], _ => rfl
  | (Sum.inl a, v) :: kvs, h => by
    have h' : y ∉ a :: keysI kvs := h
    rw [List.mem_cons, not_or] at h'
    rw [valV_neg (fun e => h'.1 (Sum.inl.inj e).symm)]
    exact valV_out h'.2
  | (Sum.inr a, v) :: kvs, h => by
    rw [valV_neg (fun e => by cases e)]
    exact valV_out h
/-- what the loop over a dict has put so far -/
def mirF (lf : Int → Option Int) (done : List Int) (x : Int) : Option Int := if -x ∈ done then (lf (-x)).map (fun y => -y) else none
theorem mirF_all {kvs : List (Key × V)} {lf : Int → Option Int} {n : Nat} (h : Mp kvs lf n) (x : Int) : mirF lf (keysI kvs) x = (lf (-x)).map (fun y => -y) := by
  unfold mirF
  by_cases e : -x ∈ keysI kvs
  · rw [if_pos e]
  · rw [if_neg e]
    have := h.val (-x)
    rw [valV_out e] at this
    cases hz : lf (-x) with
    | none => rfl
    | some y => rw [hz] at this; cases this
theorem mp_turn {kvs : List (Key × V)} {lf : Int → Option Int} {n i : Nat} {a b : Int} {v : V} {rk : List (Key × V)} (h : Mp kvs lf n) (hi : kvs[i]? = some (Sum.inl a, v)) (hv : lf a = some b) (hr : Mp rk (mirF lf (keysI (kvs.take i))) i) :
    Mp (putK rk (Sum.inl (0 - a)) (.int (0 - b))) (mirF lf (keysI (kvs.take (i + 1)))) (i + 1) := by
  refine (hr.put (0 - a) (0 - b)).eq (fun z => ?_) (Nat.le_refl _)
  have hk : keysI (kvs.take (i + 1)) = keysI (kvs.take i) ++ [a] := by
    rw [List.take_add_one, hi]
    unfold keysI
    rw [List.filterMap_append]; rfl
  unfold mirF
  rw [hk]
  by_cases e : z = 0 - a
  · have ea : -z = a := by omega
    rw [if_pos e, ea, if_pos (by simp), hv]
    show some (0 - b) = some (-b)
    rw [Int.zero_sub]
  · rw [if_neg e]
    have ne : -z ≠ a := by omega
    by_cases m : -z ∈ keysI (kvs.take i)
    · rw [if_pos m, if_pos (by simp [m])]
    · rw [if_neg m, if_neg (by simp [m, ne])]
theorem mp_none {lf : Int → Option Int} : Mp [] (mirF lf []) 0 := by
  refine ⟨fun _ h => (by cases h), fun x => ?_, Nat.le_refl _, List.nodup_nil⟩
  show none = _
  unfold mirF
  rw [if_neg (by simp)]
  rfl
theorem mp_has {kvs : List (Key × V)} {lf : Int → Option Int} {n i : Nat} {a : Int} {v : V} (h : Mp kvs lf n) (hi : kvs[i]? = some (Sum.inl a, v)) : ∃ b, lf a = some b := by
  have h1 : (kvs.any fun kv => decide (kv.1 = Sum.inl a)) = true := List.any_eq_true.mpr ⟨_, List.mem_of_getElem? hi, decide_eq_true rfl⟩
  rw [valV_any, h.val a] at h1
  cases hz : lf a with
  | none => rw [hz] at h1; cases h1
  | some b => exact ⟨b, rfl⟩
/-- for key in m[sd]: turned[td][0 - key] = 0 - m[sd][key] -/
theorem rd_mloop {H : Hp} {D : Ends} {v0 v1 v2 v3 v6 : Option V} {m m2 S Z : Addr} {mk mk2 sk : List (Key × V)} {sf : Int → Option Int} {n : Nat} (sd td : Str)
    (hm : H m = some (.dK mk)) (hsd : valV mk (Sum.inr sd) = some (.ref S)) (hS : H S = some (.dK sk)) (hf : Mp sk sf n) (hn : n ≤ 1000) (hm2 : H m2 = some (.dK mk2)) (htd : valV mk2 (Sum.inr td) = some (.ref Z)) (hZ : H Z = some (.dK []))
    (mS : m ≠ S) (m2S : m2 ≠ S) (ZS : Z ≠ S) (Zm : Z ≠ m) (Zm2 : Z ≠ m2)
    (q : ∀ y H' zk, (∀ b, b ≠ Z → H' b = H b) → H' Z = some (.dK zk) → Mp zk (fun x => (sf (-x)).map fun y => -y) n → D.nx [v0, v1, v2, v3, some (.ref m), some (.ref m2), y] H') :
    tLock (tFor (iKeys (tDGet (tVar 4) (tC (.str sd)))) (gName 6) (sDPut (tDGet (tVar 5) (tC (.str td))) (tOp (rI0 fun i j => .int (i - j)) (tC (.int 0)) (tVar 6)) (tOp (rI0 fun i j => .int (i - j)) (tC (.int 0)) (tDGet (tDGet (tVar 4) (tC (.str sd))) (tVar 6))))) D [v0, v1, v2, v3, some (.ref m), some (.ref m2), v6] H := by
  refine ⟨S, .dK sk, hS, trivial, fun od => ?_⟩
  refine rd_dS sd rfl (by rw [upd_ne mS]; exact hm) hsd ⟨S, od, rfl, .inl ⟨sk, upd_same, ?_⟩⟩
  refine for_it walk_keys (fun i σ' H3 => ∃ y zk, σ' = [v0, v1, v2, v3, some (.ref m), some (.ref m2), y] ∧ (∀ b, b ≠ Z → H3 b = upd H S (.frz od (.dK sk)) b) ∧ H3 Z = some (.dK zk) ∧ Mp zk (mirF sf (keysI (sk.take i))) i)
    ⟨v6, [], rfl, fun _ _ => rfl, by rw [upd_ne ZS]; exact hZ, mp_none⟩ ?_ ?_ ?_
  · rintro i σ' H3 _ ⟨y, zk, rfl, hb, _, _⟩
    rw [hb S ZS.symm, upd_same]
  · rintro i x σ' H3 H4 hi ⟨y, zk, rfl, hb, hz, hM⟩ ⟨rfl, ke, v, hk, rfl⟩
    obtain ⟨a, b0, hab⟩ := hf.all _ (List.mem_of_getElem? hk)
    cases hab
    obtain ⟨b, hv⟩ := mp_has hf hk
    have hm3 : H4 m = some (.dK mk) := by rw [hb m Zm.symm, upd_ne mS]; exact hm
    have hS3 : H4 S = some (.frz od (.dK sk)) := by rw [hb S ZS.symm, upd_same]
    have hm23 : H4 m2 = some (.dK mk2) := by rw [hb m2 Zm2.symm, upd_ne m2S]; exact hm2
    refine rd_dS sd rfl hm3 hsd ⟨.int a, rfl, S, .int b, rfl, .inl ⟨sk, Sum.inl a, .inr ⟨od, hS3⟩, rfl, by rw [hf.val a, hv]; rfl⟩, 0, b, rfl, rfl, ?_⟩
    refine rd_dS td rfl hm23 htd ⟨.int a, rfl, 0, a, rfl, rfl, Z, _, rfl, dp_in hz hM (by have := hf.len; omega), ?_⟩
    refine ⟨_, _, rfl, fun c hc => by rw [upd_ne hc]; exact hb c hc, upd_same, mp_turn hf hk hv hM⟩
  · rintro σ' H3 ⟨y, zk, rfl, hb, hz, hM⟩
    rw [List.take_length] at hM
    refine ⟨by rw [hb S ZS.symm, upd_same], q y _ zk (fun c hc => ?_) (by rw [upd_ne ZS]; exact hz) (hM.eq (mirF_all hf) hf.len)⟩
    by_cases e : c = S
    · rw [e, upd_same]; exact hS.symm
    · rw [upd_ne e, hb c hc, upd_ne e]
def spLaw (K : PySem.W.Frag) : Sp := fun vs H Q _ => ∃ (a : Addr) (ns : List Int), vs = [.ref a] ∧ SqL K H a (ns.map V.int) ∧ ns.length ≤ 63 ∧ ∀ H', Q (.bl true) H'
theorem eqv_ints1 {H : Hp} {a b : Addr} {ns : List Int} (ha : H a = some (.tup (ns.map V.int))) (hb : H b = some (.tup (ns.map V.int))) (hl : ns.length ≤ 1000) : Eqv H 1 (.ref a) (.ref b) := by
  refine .inr ⟨a, b, _, _, rfl, rfl, .inr ⟨ha, hb⟩, rfl, by rw [List.length_map]; exact hl, fun i u v h1 h2 => ?_⟩
  rw [h1] at h2
  cases h2
  rw [List.getElem?_map] at h1
  obtain ⟨n, _, rfl⟩ := Option.map_eq_some_iff.mp h1
  exact ⟨rfl, rfl⟩
theorem eqv_pair {H : Hp} {a b : Addr} {n : Nat} {x y u v : V} (ha : H a = some (.lst [x, y])) (hb : H b = some (.lst [u, v])) (h1 : Eqv H n x u) (h2 : Eqv H n y v) : Eqv H (n + 1) (.ref a) (.ref b) := by
  refine .inr ⟨a, b, _, _, rfl, rfl, .inl ⟨ha, hb⟩, rfl, by show 2 ≤ 1000; decide, fun i p q g1 g2 => ?_⟩
  match i, g1, g2 with
  | 0, g1, g2 => cases g1; cases g2; exact h1
  | 1, g1, g2 => cases g1; cases g2; exact h2
  | i + 2, g1, _ => simp at g1
theorem cpow {i j : Int} (h1 : 0 ≤ j) (h2 : j ≤ 1000) (h3 : i.natAbs < 2 ^ 64) : CPow i j := ⟨h1, by omega, h3⟩
end TT
namespace TT
open PySem PySem.Spec PyProof.Rows L2
open T
/-! ### chains of parents -/
theorem up_out : ∀ {t : T} {x : Int}, x ∉ t.pre → t.up x = none
  | leaf, _, _ => rfl
  | node l k r, x, h => by
    rw [mem_node] at h
    have h1 : x ∉ l.pre := fun e => h (.inr (.inl e))
    have h2 : x ∉ r.pre := fun e => h (.inr (.inr e))
    unfold up
    rw [if_neg (fun e => h1 (rt_mem e)), if_neg (fun e => h2 (rt_mem e)), up_out h1, up_out h2]
    split
    · rfl
    · split <;> rfl
theorem path_mem {x : Int} : ∀ {t : T}, t.bst → x ∈ t.pre → t.path x ≠ [] ∧ ∀ y ∈ t.path x, y ∈ t.pre
  | leaf, _, h => by cases h
  | node l k r, b, h => by
    unfold path
    by_cases e : x = k
    · rw [if_pos e]
      exact ⟨by simp, fun y hy => by rw [List.mem_singleton.mp hy]; exact mem_node.mpr (.inl rfl)⟩
    · rw [if_neg e]
      by_cases g : x < k
      · rw [if_pos g]
        have hx : x ∈ l.pre := by
          rcases mem_node.mp h with h | h | h
          · exact absurd h e
          · exact h
          · have := b.2.1 _ h; omega
        refine ⟨by simp, fun y hy => ?_⟩
        rcases List.mem_cons.mp hy with rfl | hy
        · exact mem_node.mpr (.inl rfl)
        · exact mem_node.mpr (.inr (.inl ((path_mem b.2.2.1 hx).2 y hy)))
      · rw [if_neg g]
        have hx : x ∈ r.pre := by
          rcases mem_node.mp h with h | h | h
          · exact absurd h e
          · have := b.1 _ h; omega
          · exact h
        refine ⟨by simp, fun y hy => ?_⟩
        rcases List.mem_cons.mp hy with rfl | hy
        · exact mem_node.mpr (.inl rfl)
        · exact mem_node.mpr (.inr (.inr ((path_mem b.2.2.2 hx).2 y hy)))
theorem path_l {l r : T} {k x : Int} (b : (node l k r).bst) (h : x ∈ l.pre) : (node l k r).path x = k :: l.path x := by
  have := b.1 x h
  show (if x = k then [k] else if x < k then k :: l.path x else k :: r.path x) = _
  rw [if_neg (by omega), if_pos this]
theorem path_r {l r : T} {k x : Int} (b : (node l k r).bst) (h : x ∈ r.pre) : (node l k r).path x = k :: r.path x := by
  have := b.2.1 x h
  show (if x = k then [k] else if x < k then k :: l.path x else k :: r.path x) = _
  rw [if_neg (by omega), if_neg (by omega)]
theorem path_k {l r : T} {k : Int} : (node l k r).path k = [k] := by
  show (if k = k then [k] else _) = _
  rw [if_pos rfl]
theorem path_rt {t : T} {x : Int} (h : t.rt = some x) : t.path x = [x] := by
  cases t with
  | leaf => cases h
  | node l k r => cases h; exact path_k
/-- the parent, and the path to it -/
theorem up_path {x : Int} : ∀ {t : T}, t.bst → x ∈ t.pre → (t.up x = none ∧ t.path x = [x]) ∨ ∃ p, t.up x = some p ∧ p ∈ t.pre ∧ t.path x = t.path p ++ [x]
  | leaf, _, h => by cases h
  | node l k r, b, h => by
    rcases mem_node.mp h with e | hx | hx
    · subst e
      left
      refine ⟨?_, path_k⟩
      unfold up
      rw [if_neg (by omega), if_neg (by omega)]
    · have lt := b.1 x hx
      right
      rw [path_l b hx]
      show ∃ p, (if x < k then (if l.rt = some x then some k else l.up x) else _) = some p ∧ _
      rw [if_pos lt]
      by_cases er : l.rt = some x
      · rw [if_pos er]
        exact ⟨k, rfl, mem_node.mpr (.inl rfl), by rw [path_k, path_rt er]; rfl⟩
      · rw [if_neg er]
        rcases up_path b.2.2.1 hx with ⟨h1, h2⟩ | ⟨p, h1, h2, h3⟩
        · exfalso
          cases l with
          | leaf => cases hx
          | node l1 k1 r1 =>
            apply er
            have : (node l1 k1 r1).path x = if x = k1 then [k1] else if x < k1 then k1 :: l1.path x else k1 :: r1.path x := rfl
            rw [h2] at this
            split at this
            · next e => rw [e]; rfl
            · split at this
              · have := (List.cons.inj this).1; rw [this]; rfl
              · have := (List.cons.inj this).1; rw [this]; rfl
        · exact ⟨p, h1, mem_node.mpr (.inr (.inl h2)), by rw [path_l b h2, h3]; rfl⟩
    · have lt := b.2.1 x hx
      right
      rw [path_r b hx]
      show ∃ p, (if x < k then _ else if k < x then (if r.rt = some x then some k else r.up x) else none) = some p ∧ _
      rw [if_neg (by omega), if_pos lt]
      by_cases er : r.rt = some x
      · rw [if_pos er]
        exact ⟨k, rfl, mem_node.mpr (.inl rfl), by rw [path_k, path_rt er]; rfl⟩
      · rw [if_neg er]
        rcases up_path b.2.2.2 hx with ⟨h1, h2⟩ | ⟨p, h1, h2, h3⟩
        · exfalso
          cases r with
          | leaf => cases hx
          | node l1 k1 r1 =>
            apply er
            have : (node l1 k1 r1).path x = if x = k1 then [k1] else if x < k1 then k1 :: l1.path x else k1 :: r1.path x := rfl
            rw [h2] at this
            split at this
            · next e => rw [e]; rfl
            · split at this
              · have := (List.cons.inj this).1; rw [this]; rfl
              · have := (List.cons.inj this).1; rw [this]; rfl
        · exact ⟨p, h1, mem_node.mpr (.inr (.inr h2)), by rw [path_r b h2, h3]; rfl⟩
/-- the keys above, the parent first -/
def T.anc (t : T) (x : Int) : List Int := (t.path x).dropLast.reverse
theorem path_len {x : Int} : ∀ {t : T}, (t.path x).length ≤ t.pre.length
  | leaf => Nat.le_refl _
  | node l k r => by
    have i1 := path_len (x := x) (t := l)
    have i2 := path_len (x := x) (t := r)
    unfold path
    show _ ≤ (k :: (l.pre ++ r.pre)).length
    rw [List.length_cons, List.length_append]
    split
    · simp
    · split <;> (rw [List.length_cons]; omega)
/-! ### orders in which a tree grows -/
def T.Rank (ρ : Int → Nat) : T → Prop
  | leaf => True
  | node l k r => (∀ y ∈ l.pre, ρ k < ρ y) ∧ (∀ y ∈ r.pre, ρ k < ρ y) ∧ l.Rank ρ ∧ r.Rank ρ
theorem Rank.up {ρ ρ' : Int → Nat} : ∀ {t : T}, t.Rank ρ → (∀ x ∈ t.pre, ρ' x = ρ x + 1) → t.Rank ρ'
  | leaf, _, _ => trivial
  | node l k r, h, e => by
    have ek := e k (mem_node.mpr (.inl rfl))
    have el : ∀ x ∈ l.pre, ρ' x = ρ x + 1 := fun x hx => e x (mem_node.mpr (.inr (.inl hx)))
    have er : ∀ x ∈ r.pre, ρ' x = ρ x + 1 := fun x hx => e x (mem_node.mpr (.inr (.inr hx)))
    exact ⟨fun y hy => by have := h.1 y hy; rw [ek, el y hy]; omega, fun y hy => by have := h.2.1 y hy; rw [ek, er y hy]; omega, Rank.up h.2.2.1 el, Rank.up h.2.2.2 er⟩
theorem grown {ρ : Int → Nat} : ∀ {t : T} {os : List Int}, t.bst → t.Rank ρ → os.Perm t.pre → os.Pairwise (fun a b => ρ a ≤ ρ b) → insAll os leaf = t
  | leaf, os, _, _, pm, _ => by
    have : os = [] := pm.eq_nil
    subst this; rfl
  | node l k r, os, b, hr, pm, pw => by
    cases os with
    | nil => exact absurd pm.length_eq (by simp [pre])
    | cons o os =>
      have hk : k ∈ o :: os := pm.mem_iff.mpr (mem_node.mpr (.inl rfl))
      have ho : o ∈ (node l k r).pre := pm.mem_iff.mp List.mem_cons_self
      have eo : o = k := by
        rcases List.mem_cons.mp hk with e | hk
        · exact e.symm
        · have le := List.rel_of_pairwise_cons pw hk
          rcases mem_node.mp ho with e | h | h
          · exact e
          · have := hr.1 o h; omega
          · have := hr.2.1 o h; omega
      subst eo
      have pm2 : os.Perm (l.pre ++ r.pre) := (List.perm_cons _).mp pm
      have pw2 := (List.pairwise_cons.mp pw).2
      show insAll os (node leaf o leaf) = _
      rw [insAll_split]
      have f1 : (l.pre ++ r.pre).filter (fun x => decide (x < o)) = l.pre := by
        rw [List.filter_append, filter_all fun x hx => decide_eq_true (b.1 x hx), filter_none fun x hx => decide_eq_false (by have := b.2.1 x hx; omega), List.append_nil]
      have f2 : (l.pre ++ r.pre).filter (fun x => !decide (x < o)) = r.pre := by
        rw [List.filter_append, filter_none (l := l.pre) fun x hx => by simp [b.1 x hx], filter_all (l := r.pre) fun x hx => by have := b.2.1 x hx; simp; omega, List.nil_append]
      rw [grown b.2.2.1 hr.2.2.1 (by have := pm2.filter (fun x => decide (x < o)); rwa [f1] at this) (pw2.filter _),
        grown b.2.2.2 hr.2.2.2 (by have := pm2.filter (fun x => !decide (x < o)); rwa [f2] at this) (pw2.filter _)]
/-! ### the restriction as a tree -/
def T.restr (lo hi : Option Int) : T → T
  | leaf => leaf
  | node l k r => if okLo lo k = false then r.restr lo hi else if okHi hi k = false then l.restr lo hi else node (l.restr lo hi) k (r.restr lo hi)
theorem okLo_mono {lo : Option Int} {x y : Int} (h : okLo lo x = false) (le : y ≤ x) : okLo lo y = false := by
  cases lo with
  | none => cases h
  | some l => exact decide_eq_false (by have := of_decide_eq_false h; omega)
theorem okHi_mono {hi : Option Int} {x y : Int} (h : okHi hi x = false) (le : x ≤ y) : okHi hi y = false := by
  cases hi with
  | none => cases h
  | some l => exact decide_eq_false (by have := of_decide_eq_false h; omega)
theorem restr_pre {lo hi : Option Int} : ∀ {t : T}, t.bst → (t.restr lo hi).pre = t.pre.filter fun x => okLo lo x && okHi hi x
  | leaf, _ => rfl
  | node l k r, b => by
    show (if okLo lo k = false then r.restr lo hi else if okHi hi k = false then l.restr lo hi else node (l.restr lo hi) k (r.restr lo hi)).pre = (k :: (l.pre ++ r.pre)).filter _
    by_cases h1 : okLo lo k = false
    · rw [if_pos h1, List.filter_cons_of_neg (by simp [h1]), List.filter_append, filter_none (l := l.pre) fun x hx => by rw [okLo_mono h1 (Int.le_of_lt (b.1 x hx))]; rfl, List.nil_append]
      exact restr_pre b.2.2.2
    · rw [if_neg h1]
      by_cases h2 : okHi hi k = false
      · rw [if_pos h2, List.filter_cons_of_neg (by simp [h2]), List.filter_append, filter_none (l := r.pre) fun x hx => by rw [okHi_mono h2 (Int.le_of_lt (b.2.1 x hx)), Bool.and_false], List.append_nil]
        exact restr_pre b.2.2.1
      · rw [if_neg h2, List.filter_cons_of_pos (by simp [h1, h2]), List.filter_append]
        show k :: ((l.restr lo hi).pre ++ (r.restr lo hi).pre) = _
        rw [restr_pre b.2.2.1, restr_pre b.2.2.2]
theorem restr_sub {lo hi : Option Int} {t : T} (b : t.bst) {x : Int} (h : x ∈ (t.restr lo hi).pre) : x ∈ t.pre := by
  rw [restr_pre b] at h
  exact (List.mem_filter.mp h).1
theorem restr_bst {lo hi : Option Int} : ∀ {t : T}, t.bst → (t.restr lo hi).bst
  | leaf, _ => trivial
  | node l k r, b => by
    show (if okLo lo k = false then r.restr lo hi else if okHi hi k = false then l.restr lo hi else node (l.restr lo hi) k (r.restr lo hi)).bst
    split
    · exact restr_bst b.2.2.2
    · split
      · exact restr_bst b.2.2.1
      · exact ⟨fun x hx => b.1 x (restr_sub b.2.2.1 hx), fun x hx => b.2.1 x (restr_sub b.2.2.2 hx), restr_bst b.2.2.1, restr_bst b.2.2.2⟩
theorem restr_rank {lo hi : Option Int} : ∀ {t : T}, t.bst → (t.restr lo hi).Rank fun x => (t.path x).length
  | leaf, _ => trivial
  | node l k r, b => by
    have hl : (l.restr lo hi).Rank fun x => ((node l k r).path x).length := Rank.up (restr_rank b.2.2.1) fun x hx => by
      rw [path_l b (restr_sub b.2.2.1 hx), List.length_cons]
    have hr : (r.restr lo hi).Rank fun x => ((node l k r).path x).length := Rank.up (restr_rank b.2.2.2) fun x hx => by
      rw [path_r b (restr_sub b.2.2.2 hx), List.length_cons]
    show (if okLo lo k = false then r.restr lo hi else if okHi hi k = false then l.restr lo hi else node (l.restr lo hi) k (r.restr lo hi)).Rank _
    split
    · exact hr
    · split
      · exact hl
      · refine ⟨fun y hy => ?_, fun y hy => ?_, hl, hr⟩
        · have h := restr_sub b.2.2.1 hy
          have := List.length_pos_iff.mpr (path_mem b.2.2.1 h).1
          show ((node l k r).path k).length < ((node l k r).path y).length
          rw [path_k, path_l b h]
          simp only [List.length_cons, List.length_nil]
          omega
        · have h := restr_sub b.2.2.2 hy
          have := List.length_pos_iff.mpr (path_mem b.2.2.2 h).1
          show ((node l k r).path k).length < ((node l k r).path y).length
          rw [path_k, path_r b h]
          simp only [List.length_cons, List.length_nil]
          omega
/-! ### promises -/
theorem path_last {t : T} {x : Int} (b : t.bst) (h : x ∈ t.pre) : t.path x = (t.path x).dropLast ++ [x] := by
  rcases up_path b h with ⟨_, e⟩ | ⟨p, _, _, e⟩ <;> rw [e]
  · rfl
  · rw [List.dropLast_concat]
theorem anc_top {t : T} {x : Int} (e : t.path x = [x]) : t.anc x = [] := by unfold T.anc; rw [e]; rfl
theorem anc_up {t : T} {x p : Int} (b : t.bst) (hp : p ∈ t.pre) (e : t.path x = t.path p ++ [x]) : t.anc x = p :: t.anc p := by
  unfold T.anc
  rw [e, List.dropLast_concat]
  conv => lhs; rw [path_last b hp]
  rw [List.reverse_append]; rfl
theorem anc_len {t : T} {x : Int} (b : t.bst) (h : x ∈ t.pre) : (t.anc x).length + 1 = (t.path x).length := by
  have := List.length_pos_iff.mpr (path_mem b h).1
  unfold T.anc
  rw [List.length_reverse, List.length_dropLast]; omega
def spRoot (K : PySem.W.Frag) : Sp := fun vs H Q _ => ∃ (a : Addr) (ks : List Int), vs = [.ref a] ∧ SqT K H a (ks.map V.int) ∧ Q (oV ks.head?) H
def spAbove : Sp := fun vs H Q _ => ∃ (m : Addr) (key : Int) (L R U : Addr) (t : T) (n : Nat), vs = [.ref m, .int key] ∧ TrAt H m L R U t n ∧ t.bst ∧ key ∈ t.pre ∧ t.pre.length ≤ 1000 ∧
  ∀ p H', Same H H' → H p = none → H' p = some (.lst ((t.anc key).map V.int)) → Q (.ref p) H'
def spBound (K : PySem.W.Frag) : Sp := fun vs H Q _ => ∃ (d a : Addr) (ks : List Int) (c : Addr) (ns : List Int), vs = [.ref d, .ref a] ∧ SqL K H a (ks.map V.int) ∧ ks.length ≤ 1000 ∧ a ≠ d ∧ Drw c ns H d ∧
  ∀ b H', Ext d H H' → Drw c ns H' d → Q (oV b) H'
def spRestd (K : PySem.W.Frag) : Sp := fun vs H Q _ => ∃ (a : Addr) (t : T) (lo hi : Option Int), vs = [.ref a, oV lo, oV hi] ∧ SqT K H a (t.pre.map V.int) ∧ t.bst ∧ t.pre.length ≤ 58 ∧
  ∀ p H', Same H H' → H' p = some (.tup ((t.pre.filter fun x => okLo lo x && okHi hi x).map V.int)) → Q (.ref p) H'
theorem rd_gt {σ : L2.St} {H : Hp} {i j : Nat} {lo : Option Int} {x : Int} {Q : Bool → Hp → Prop} (h1 : σ[i]? = some (some (oV lo))) (h3 : σ[j]? = some (some (.int x))) (q : Q (okLo lo x) H) : tOr (tB (tIsN (tVar i))) (tTest (tOp (rI0 fun i j => .bl (decide (j < i))) (tVar j) (tVar i))) σ H Q := by
  cases lo with
  | none => exact ⟨_, h1, _, rfl, iteTd rfl q⟩
  | some l => exact ⟨_, h1, _, rfl, iteFd rfl ⟨_, h3, _, h1, x, l, rfl, rfl, _, rfl, q⟩⟩
theorem Eqv.up {H : Hp} : ∀ {n : Nat} {x y : V}, Eqv H n x y → Eqv H (n + 1) x y
  | 0, _, _, h => .inl h
  | n + 1, _, _, h => by
    rcases h with h | ⟨a, b, xs, ys, e1, e2, h1, h2, h3, h4⟩
    · exact .inl h
    · exact .inr ⟨a, b, xs, ys, e1, e2, h1, h2, h3, fun i u v g1 g2 => (h4 i u v g1 g2).up⟩
end TT
namespace TT
open PySem PySem.Spec PyProof.Rows L2
open T
/-! ### sorted of a tuple of ints -/
section
variable {prog : Program} {w : World} {A : Around} {E : Value → Shared → Prop} {s : Shared}
theorem gather_tup {t : Addr} {us : List Value} {R : List Value → Shared → Prop} (ht : s.heap.IsTuple t us.toArray) (fit : us.length ≤ sizeLine)
    (q : R us { s with heap := (s.heap.push (seqObj "list" #[] 0)).update s.heap.objs.size (Obj.mapSeq (· ++ us.toArray)) }) : wpAny (model prog w) A (collect (.ref t)) R E s := by
  obtain ⟨ob, g0, c0, m0, d0⟩ := ht
  have g1 : (s.heap.push (seqObj "list" #[] 0)).get? t = some ob := Heap.get?_push_of_some _ g0
  unfold collect
  refine wpAny_bind (wpAny_runValue (codeAny_builtin entry_proto_collect' ?_)); show wpAny _ _ (do again (.builtin "list.__iadd__" ⟨[← newList [], .ref t], []⟩)) _ _ s
  refine wpAny_bind (wpAny_newList (wpAny_pure ⟨Code.quiet_builtin _ (by decide +kernel), codeAny_builtin entry_list_iadd' ?_⟩)); show wpAny _ _ (Builtin.List.listExtendWith (.ref s.heap.objs.size) (.ref t) (.ref s.heap.objs.size)) _ _ { s with heap := s.heap.push (seqObj "list" #[] 0) }
  unfold Builtin.List.listExtendWith
  refine wpAny_bind (wpAny_typeOf (T := "tuple") ⟨ob, g1, c0⟩ ?_)
  rw [if_pos (by rw [show (Value.type "tuple" == Value.type "tuple") = true by rfl]; simp)]
  refine wpAny_bind (listItems_at g1 d0 (wpAny_bind (listItems_at (xs := #[]) (n := 0) (Heap.get?_push_size _ rfl) rfl ?_)))
  rw [if_neg (by simp)]
  refine wpAny_bind (listUpdate_at (xs := #[]) (n := 0) (Heap.get?_push_size _ rfl) rfl (wpAny_pure ?_) (Nat.zero_le _) (by show (#[] ++ us.toArray).size ≤ sizeLine + 1; simp only [Array.size_append, List.size_toArray, List.length_nil]; omega))
  show wpAny (model prog w) A (load s.heap.objs.size >>= fun o => match o.data with
      | .seq xs _ => pure xs.toList
      | _ => unsupported "internal:collect") R E { s with heap := (s.heap.push (seqObj "list" #[] 0)).update s.heap.objs.size (Obj.mapSeq (· ++ us.toArray)) }
  refine wpAny_bind (wpAny_load (get?_update_seq (Heap.get?_push_size _ rfl) _) ?_); show wpAny _ _ (pure ((#[] : Array Value) ++ us.toArray).toList) R E _
  rw [show ((#[] : Array Value) ++ us.toArray).toList = us by simp]; exact wpAny_pure q
theorem sorted_tupI {t : Addr} {us : List Value} {ns : List Int} {R : Value → Shared → Prop} (ht : s.heap.IsTuple t us.toArray) (hI : IntsAre us ns) (h64 : us.length < 64)
    (q : ∀ (out : Array Value) (ms : List Int), IntsAre out.toList ms → ms.Perm ns → ms.Pairwise (· ≤ ·) → R (.ref (s.heap.objs.size + 1)) { s with heap := sortedAll s.heap us out }) :
    wpAny (model prog w) A (call (.builtin "sorted") [.ref t]) R E s := by
  refine Calls.call_function_entry kind_sorted plain_sorted entry_sorted (args_sorted1 _) ?_; unfold Builtin.«sorted»
  refine wpAny_bind (m := checkCount "sorted" 1 1 _) (wpAny_pure (wpAny_bind (gather_tup ht (small64 h64) (wpAny_bind (wpAny_newList ?_ (small64 h64))))))
  have z : ((s.heap.push (seqObj "list" #[] 0)).update s.heap.objs.size (Obj.mapSeq (· ++ us.toArray))).objs.size = s.heap.objs.size + 1 := (Heap.size_update ..).trans (size_push' ..)
  have at1 : (((s.heap.push (seqObj "list" #[] 0)).update s.heap.objs.size (Obj.mapSeq (· ++ us.toArray))).push (seqObj "list" us.toArray 0)).get? (s.heap.objs.size + 1) = some (seqObj "list" us.toArray 0) := z ▸ Heap.get?_push_size _ rfl
  show wpAny _ _ _ _ _ { s with heap := ((s.heap.push (seqObj "list" #[] 0)).update s.heap.objs.size (Obj.mapSeq (· ++ us.toArray))).push (seqObj "list" us.toArray 0) }; rw [z]
  exact wpAny_bind (wpAny_holding (wpAny_call_entry slot_list_sort ⟨_, at1, rfl⟩ entry_list_sort (list_sort_tree at1 hI h64 fun out ms a1 a2 a3 => ⟨_, rfl, wpAny_pure ⟨_, rfl, q out ms a1 a2 a3⟩⟩) (args_list_sort _)))
end
section
variable {X : Cx}
def rSortedTI (K : PySem.W.Frag) : List V → Hp → VK → Prop := fun vs H Q => ∃ (a : Addr) (ns : List Int), vs = [V.ref a] ∧ SqT K H a (ns.map V.int) ∧ ns.length < 64 ∧
  ∀ (ms : List Int) (p : Addr), ms.Perm ns → ms.Pairwise (· ≤ ·) → H p = none → Q (.ref p) (upd H p (.lst (ms.map V.int)))
theorem cr_sortedTI : CallR X (.builtin "sorted") (rSortedTI X.K) := by
  intro pins s σ H vs us Q I r h
  obtain ⟨a, ns, rfl, hs, hl, q⟩ := h
  obtain ⟨its, rv, ht, _⟩ := I.tuple hs
  have hi := rv.ints
  rw [Vals.ref1 r]
  refine sorted_tupI ht hi (by rw [hi.length]; exact hl) fun out ms h1 h2 h3 => ?_
  obtain ⟨ep, he⟩ := PyProof.Rows.sortedAll_at s.heap its out
  have fits : (ms.map V.int).length ≤ sizeLine := by rw [List.length_map, h2.length_eq]; exact small64 hl
  exact ⟨.ref _, upd H (s.heap.objs.size + 1) (.lst (ms.map V.int)), I.laid (t' := s.toks) (fun _ _ => PyProof.Rows.sortedAll_old) (Nat.le_succ _) ⟨fits, out.toList, ep, vals_of_ints h1, he⟩, rfl, q ms _ h2 h3 (I.hok.fresh (Nat.le_succ _))⟩
end
end TT
namespace TT
open PySem PySem.Spec PyProof.Rows L2
open T
/-! ### touches, as lists and as trees -/
def topL (x : Int) (ks : List Int) : List Int := x :: (ks.filter (fun y => okLo none y && okHi (some x) y) ++ ks.filter (fun y => okLo (some x) y && okHi none y))
def T.tch (t : T) (x : Int) : T := node (t.restr none (some x)) x (t.restr (some x) none)
def T.dep (t : T) (x : Int) : Nat := (t.path x).length - 1
theorem tch_pre {t : T} {x : Int} (b : t.bst) : (t.tch x).pre = topL x t.pre := by
  show x :: ((t.restr none (some x)).pre ++ (t.restr (some x) none).pre) = _
  rw [restr_pre b, restr_pre b]; rfl
theorem mem_topL {x y : Int} {ks : List Int} : y ∈ topL x ks ↔ y = x ∨ y ∈ ks := by
  unfold topL
  rw [List.mem_cons, List.mem_append, List.mem_filter, List.mem_filter]
  show y = x ∨ (y ∈ ks ∧ (true && decide (y < x)) = true) ∨ (y ∈ ks ∧ (decide (x < y) && true) = true) ↔ _
  rw [Bool.true_and, Bool.and_true, decide_eq_true_eq, decide_eq_true_eq]
  constructor
  · rintro (h | h | h)
    · exact .inl h
    · exact .inr h.1
    · exact .inr h.1
  · rintro (h | h)
    · exact .inl h
    · rcases Int.lt_trichotomy y x with g | g | g
      · exact .inr (.inl ⟨h, g⟩)
      · exact .inl g
      · exact .inr (.inr ⟨h, g⟩)
theorem tch_bst {t : T} {x : Int} (b : t.bst) : (t.tch x).bst := by
  refine ⟨fun y hy => ?_, fun y hy => ?_, restr_bst b, restr_bst b⟩
  · rw [restr_pre b] at hy
    have := (List.mem_filter.mp hy).2
    exact of_decide_eq_true (by simpa [okLo, okHi] using this)
  · rw [restr_pre b] at hy
    have := (List.mem_filter.mp hy).2
    exact of_decide_eq_true (by simpa [okLo, okHi] using this)
theorem tch_mem {t : T} {x y : Int} (b : t.bst) : y ∈ (t.tch x).pre ↔ y = x ∨ y ∈ t.pre := by rw [tch_pre b, mem_topL]
theorem tch_mem' {t : T} {x y : Int} (b : t.bst) (h : x ∈ t.pre) : y ∈ (t.tch x).pre ↔ y ∈ t.pre := by
  rw [tch_mem b]
  exact ⟨fun z => z.elim (fun e => e ▸ h) id, .inr⟩
theorem tch_perm {t : T} {x : Int} (b : t.bst) (h : x ∈ t.pre) : (t.tch x).pre.Perm t.pre :=
  (List.perm_ext_iff_of_nodup (nodup_pre (tch_bst b)) (nodup_pre b)).mpr fun _ => tch_mem' b h
theorem tch_len {t : T} {x : Int} (b : t.bst) (h : x ∈ t.pre) : (t.tch x).pre.length = t.pre.length := (tch_perm b h).length_eq
theorem topL_len {x : Int} {ks : List Int} : (topL x ks).length ≤ ks.length + 1 := by
  unfold topL
  rw [List.length_cons, List.length_append]
  have key : ∀ l : List Int, (l.filter (fun y => okLo none y && okHi (some x) y)).length + (l.filter (fun y => okLo (some x) y && okHi none y)).length ≤ l.length := by
    intro l
    induction l with
    | nil => exact Nat.le_refl _
    | cons a l ih =>
      rw [List.filter_cons, List.filter_cons]
      show (if (true && decide (a < x)) = true then _ else _ : List Int).length + (if (decide (x < a) && true) = true then _ else _ : List Int).length ≤ _
      rw [Bool.true_and, Bool.and_true, List.length_cons]
      by_cases h1 : a < x
      · rw [if_pos (decide_eq_true h1), if_neg (by simp; omega), List.length_cons]; omega
      · rw [if_neg (by simp; omega)]
        split
        · rw [List.length_cons]; omega
        · omega
  have := key ks
  omega
theorem restr_mirL {x : Int} : ∀ {t : T}, (t.restr none (some x)).mir = t.mir.restr (some (-x)) none
  | leaf => rfl
  | node l k r => by
    show (if decide (k < x) = false then l.restr none (some x) else node (l.restr none (some x)) k (r.restr none (some x))).mir = if decide (-x < -k) = false then l.mir.restr (some (-x)) none else node (r.mir.restr (some (-x)) none) (-k) (l.mir.restr (some (-x)) none)
    by_cases h : k < x
    · rw [if_neg (by simp [h]), if_neg (by simp; omega), ← restr_mirL, ← restr_mirL]; rfl
    · rw [if_pos (decide_eq_false h), if_pos (decide_eq_false (by omega)), ← restr_mirL]
theorem restr_mirR {x : Int} : ∀ {t : T}, (t.restr (some x) none).mir = t.mir.restr none (some (-x))
  | leaf => rfl
  | node l k r => by
    show (if decide (x < k) = false then r.restr (some x) none else node (l.restr (some x) none) k (r.restr (some x) none)).mir = if decide (-k < -x) = false then r.mir.restr none (some (-x)) else node (r.mir.restr none (some (-x))) (-k) (l.mir.restr none (some (-x)))
    by_cases h : x < k
    · rw [if_neg (by simp [h]), if_neg (by simp; omega), ← restr_mirR, ← restr_mirR]; rfl
    · rw [if_pos (decide_eq_false h), if_pos (decide_eq_false (by omega)), ← restr_mirR]
theorem tch_mir {t : T} {x : Int} : (t.tch x).mir = t.mir.tch (-x) := by
  show node (t.restr (some x) none).mir (-x) (t.restr none (some x)).mir = _
  rw [restr_mirL, restr_mirR]; rfl
theorem filter_swap {p q : Int → Bool} (ks : List Int) : (ks.filter p).filter q = (ks.filter q).filter p := by
  rw [List.filter_filter, List.filter_filter]
  exact List.filter_congr fun x _ => Bool.and_comm _ _
/-- a restriction behind a touch of one of its keys -/
theorem topL_in {x : Int} {ks : List Int} {p : Int → Bool} (h : p x = true) : (topL x ks).filter p = topL x (ks.filter p) := by
  unfold topL
  rw [List.filter_cons_of_pos h, List.filter_append, filter_swap, filter_swap ks (p := fun y => okLo (some x) y && okHi none y)]
/-- a restriction behind a touch of another key -/
theorem topL_out {x : Int} {ks : List Int} {lo hi : Option Int} (h : (okLo lo x && okHi hi x) = false) : (topL x ks).filter (fun y => okLo lo y && okHi hi y) = ks.filter fun y => okLo lo y && okHi hi y := by
  unfold topL
  rw [List.filter_cons_of_neg (by rw [h]; exact Bool.false_ne_true), List.filter_append]
  cases hl : okLo lo x with
  | false =>
    rw [List.filter_filter, List.filter_filter, filter_none (p := fun a => (okLo lo a && okHi hi a) && (okLo none a && okHi (some x) a)) fun y _ => ?_, List.nil_append]
    · refine List.filter_congr fun y _ => ?_
      by_cases g : x < y
      · show ((okLo lo y && okHi hi y) && (decide (x < y) && true)) = _
        rw [decide_eq_true g]; simp
      · rw [okLo_mono hl (Int.not_lt.mp g)]; rfl
    · by_cases g : x < y
      · show ((okLo lo y && okHi hi y) && (true && decide (y < x))) = false
        rw [decide_eq_false (show ¬ y < x by omega)]; simp
      · rw [okLo_mono hl (Int.not_lt.mp g)]; rfl
  | true =>
    have hh : okHi hi x = false := by rw [hl] at h; exact h
    rw [List.filter_filter, List.filter_filter, filter_none (p := fun a => (okLo lo a && okHi hi a) && (okLo (some x) a && okHi none a)) fun y _ => ?_, List.append_nil]
    · refine List.filter_congr fun y _ => ?_
      by_cases g : y < x
      · show ((okLo lo y && okHi hi y) && (true && decide (y < x))) = _
        rw [decide_eq_true g]; simp
      · rw [okHi_mono hh (Int.not_lt.mp g)]; simp
    · by_cases g : y < x
      · show ((okLo lo y && okHi hi y) && (decide (x < y) && true)) = false
        rw [decide_eq_false (show ¬ x < y by omega)]; simp
      · rw [okHi_mono hh (Int.not_lt.mp g)]; simp
/-! ### slices, members -/
theorem atI_last (xs : List V) (v : V) : atI (xs ++ [v]) (-1) = some v := by
  simp [atI, ixN]
  rw [if_pos (by omega)]
  have e : (-1 + ((xs.length : Int) + 1)).toNat = xs.length := by omega
  simp [e]
theorem take_min (xs : List V) (k : Nat) : xs.take (min k xs.length) = xs.take k := by
  rcases Nat.le_total k xs.length with h | h
  · rw [Nat.min_eq_left h]
  · rw [Nat.min_eq_right h, List.take_of_length_le (Nat.le_refl _), List.take_of_length_le h]
theorem drop_min (xs : List V) (k : Nat) : xs.drop (min k xs.length) = xs.drop k := by
  rcases Nat.le_total k xs.length with h | h
  · rw [Nat.min_eq_left h]
  · rw [Nat.min_eq_right h, List.drop_of_length_le (Nat.le_refl _), List.drop_of_length_le h]
theorem cut_hi (xs : List V) (k : Nat) : cutV xs none (some (k : Int)) = xs.take k := by
  unfold cutV
  rw [HT.sIx_none, HT.sIx_nat, Nat.sub_zero, List.drop_zero, take_min]
theorem cut_lo (xs : List V) (k : Nat) : cutV xs (some (k : Int)) none = xs.drop k := by
  unfold cutV
  rw [HT.sIx_none, HT.sIx_nat, drop_min]
  exact List.take_of_length_le (by rw [List.length_drop]; omega)
theorem cut_one (xs : List V) (k : Nat) : cutV xs (some (k : Int)) (some ((k + 1 : Nat) : Int)) = (xs.drop k).take 1 := by
  unfold cutV
  rw [HT.sIx_nat, HT.sIx_nat, drop_min]
  rcases Nat.lt_or_ge k xs.length with h | h
  · rw [show min (k + 1) xs.length - min k xs.length = 1 by omega]
  · rw [List.drop_of_length_le h]; simp
theorem cut_hiI (ks : List Int) (k : Nat) : cutV (ks.map V.int) none (some (k : Int)) = (ks.take k).map V.int := by rw [cut_hi, List.map_take]
theorem cut_loI (ks : List Int) (k : Nat) : cutV (ks.map V.int) (some (k : Int)) none = (ks.drop k).map V.int := by rw [cut_lo, List.map_drop]
theorem cut_oneI (ks : List Int) (k : Nat) : cutV (ks.map V.int) (some (k : Int)) (some ((k + 1 : Nat) : Int)) = ((ks.drop k).take 1).map V.int := by rw [cut_one, List.map_take, List.map_drop]
theorem flat_ints (l : List Int) : (l.map V.int).all flatV = true := by
  rw [List.all_eq_true]
  intro x hx
  obtain ⟨i, _, rfl⟩ := List.mem_map.mp hx
  rfl
theorem inV_int (x : Int) (l : List Int) : inV (.int x) (l.map V.int) = true ↔ x ∈ l := by
  unfold inV
  rw [List.any_eq_true]
  constructor
  · rintro ⟨y, hy, h⟩
    obtain ⟨i, hi, rfl⟩ := List.mem_map.mp hy
    simp [eqV] at h
    rw [← h]
    exact hi
  · intro h
    exact ⟨.int x, List.mem_map.mpr ⟨x, h, rfl⟩, by simp [eqV]⟩
/-! ### promises -/
def spReq (K : PySem.W.Frag) : Sp := fun vs H Q _ => ∃ (a : Addr) (ks : List Int) (key : Int), vs = [.ref a, .int key] ∧ (SqL K H a (ks.map V.int) ∨ SqT K H a (ks.map V.int)) ∧ key ∈ ks ∧ Q .non H
def spPathTo (K : PySem.W.Frag) : Sp := fun vs H Q _ => ∃ (a : Addr) (key : Int) (t : T), vs = [.ref a, .int key] ∧ SqT K H a (t.pre.map V.int) ∧ t.bst ∧ t.pre.length ≤ 1000 ∧ key ∈ t.pre ∧
  ∀ p H', Same H H' → H p = none → H' p = some (.lst ((t.path key).map V.int)) → Q (.ref p) H'
def spDepth (K : PySem.W.Frag) : Sp := fun vs H Q _ => ∃ (a : Addr) (key : Int) (t : T), vs = [.ref a, .int key] ∧ SqT K H a (t.pre.map V.int) ∧ t.bst ∧ t.pre.length ≤ 1000 ∧ key ∈ t.pre ∧
  ∀ H', Same H H' → Q (.int (t.dep key : Int)) H'
def spPut (K : PySem.W.Frag) : Sp := fun vs H Q _ => ∃ (a : Addr) (key : Int) (ks : List Int), vs = [.ref a, .int key] ∧ SqT K H a (ks.map V.int) ∧ ks.length ≤ 1000 ∧
  ∀ p H', Same H H' → H' p = some (.tup ((topL key ks).map V.int)) → Q (.ref p) H'
def spTouch (K : PySem.W.Frag) : Sp := fun vs H Q _ => ∃ (a : Addr) (key : Int) (t : T), vs = [.ref a, .int key] ∧ SqT K H a (t.pre.map V.int) ∧ t.bst ∧ t.pre.length ≤ 1000 ∧ key ∈ t.pre ∧
  ∀ p q H', Same H H' → H' p = some (.tup [.ref q, .int (t.dep key : Int)]) → H' q = some (.tup ((t.tch key).pre.map V.int)) → Q (.ref p) H'

/-! ### comprehensions over ints -/
section
variable {K : PySem.W.Frag} {a : Addr} {ks : List Int} {g : TG} {tt : L2.TT} {te : TE} {vs : List Nat} {σ : L2.St} {H1 : Hp} {D : Addr} {Qd : Hp → Prop}
theorem lc_fT (p : Int → Bool) (f : Int → V) (hS : SqT K H1 a (ks.map V.int)) (nD : H1 D = none) (hl : ks.length ≤ 1000)
    (hs : ∀ x H2 (Y : VK) (N : Hp → Prop), x ∈ ks → Same H1 H2 → (p x = true → ∀ H3, Same H2 H3 → Y (f x) H3) → (p x = false → ∀ H3, Same H2 H3 → N H3) →
      g (.int x) (wipe σ vs) H2 fun σ2 H3 => wipe σ2 vs = wipe σ vs ∧ tt σ2 H3 fun b H4 => if b = true then te σ2 H4 Y else N H4)
    (hd : ∀ H2, Same H1 H2 → H2 D = some (.lst ((ks.filter p).map f)) → Qd H2) :
    ∃ W : Nat → Nat → Hp → Prop, (∃ m, W 0 m (upd H1 D (.lst []))) ∧ ∀ i m H, W i m H →
      ((Itt K a).stop i H ∧ Qd H) ∨ ((Itt K a).go i H ∧ ∃ Nx : Hp → Prop, (∀ H', Nx H' → ∃ m', m' < m ∧ W (i + 1) m' H') ∧ ∀ x H', (Itt K a).yld i H x H' → g x (wipe σ vs) H' fun σ2 H2 => wipe σ2 vs = wipe σ vs ∧ tt σ2 H2 fun b H3 =>
        if b = true then te σ2 H3 fun y H4 => ∃ acc, H4 D = some (.lst acc) ∧ acc.length < sizeLine ∧ Nx (upd H4 D (.lst (acc ++ [y]))) else Nx H3) := by
  refine lc_tup (xs := ks.map V.int) (fun i H2 => Same H1 H2 ∧ H2 D = some (.lst (((ks.take i).filter p).map f))) ⟨same_new nD, upd_same⟩ (fun i H2 _ h => Same.tup h.1 hS) ?_ ?_
  · rintro i v H2 hv ⟨e2, hD⟩
    rw [List.getElem?_map] at hv
    obtain ⟨x, hx, rfl⟩ := Option.map_eq_some_iff.mp hv
    have ht : ks.take (i + 1) = ks.take i ++ [x] := by rw [List.take_add_one, hx]; rfl
    refine hs x H2 _ _ (List.mem_of_getElem? hx) e2 (fun hp H3 e3 => ?_) (fun hp H3 e3 => ?_)
    · refine ⟨_, e3 _ _ hD, szl ?_, Same.put (e2.trans e3) nD, ?_⟩
      · rw [List.length_map]
        have := List.length_filter_le p (ks.take i)
        have := List.length_take_le' i ks
        omega
      · rw [upd_same, ht, List.filter_append, List.map_append, List.filter_cons_of_pos hp]; rfl
    · refine ⟨e2.trans e3, ?_⟩
      rw [e3 _ _ hD, ht, List.filter_append, List.filter_cons_of_neg (by rw [hp]; exact Bool.false_ne_true), List.filter_nil, List.append_nil]
  · rintro H2 ⟨e2, hD⟩
    rw [List.length_map, List.take_length] at hD
    exact hd H2 e2 hD
theorem lc_fL (p : Int → Bool) (f : Int → V) (hS : SqL K H1 a (ks.map V.int)) (nD : H1 D = none) (hl : ks.length ≤ 1000)
    (hs : ∀ x H2 (Y : VK) (N : Hp → Prop), x ∈ ks → Same H1 H2 → (p x = true → ∀ H3, Same H2 H3 → Y (f x) H3) → (p x = false → ∀ H3, Same H2 H3 → N H3) →
      g (.int x) (wipe σ vs) H2 fun σ2 H3 => wipe σ2 vs = wipe σ vs ∧ tt σ2 H3 fun b H4 => if b = true then te σ2 H4 Y else N H4)
    (hd : ∀ H2, Same H1 H2 → H2 D = some (.lst ((ks.filter p).map f)) → Qd H2) :
    ∃ W : Nat → Nat → Hp → Prop, (∃ m, W 0 m (upd H1 D (.lst []))) ∧ ∀ i m H, W i m H →
      ((Itl K a).stop i H ∧ Qd H) ∨ ((Itl K a).go i H ∧ ∃ Nx : Hp → Prop, (∀ H', Nx H' → ∃ m', m' < m ∧ W (i + 1) m' H') ∧ ∀ x H', (Itl K a).yld i H x H' → g x (wipe σ vs) H' fun σ2 H2 => wipe σ2 vs = wipe σ vs ∧ tt σ2 H2 fun b H3 =>
        if b = true then te σ2 H3 fun y H4 => ∃ acc, H4 D = some (.lst acc) ∧ acc.length < sizeLine ∧ Nx (upd H4 D (.lst (acc ++ [y]))) else Nx H3) := by
  refine lc_list (xs := ks.map V.int) (fun i H2 => Same H1 H2 ∧ H2 D = some (.lst (((ks.take i).filter p).map f))) ⟨same_new nD, upd_same⟩ (fun i H2 _ h => Same.seq h.1 hS) ?_ ?_
  · rintro i v H2 hv ⟨e2, hD⟩
    rw [List.getElem?_map] at hv
    obtain ⟨x, hx, rfl⟩ := Option.map_eq_some_iff.mp hv
    have ht : ks.take (i + 1) = ks.take i ++ [x] := by rw [List.take_add_one, hx]; rfl
    refine hs x H2 _ _ (List.mem_of_getElem? hx) e2 (fun hp H3 e3 => ?_) (fun hp H3 e3 => ?_)
    · refine ⟨_, e3 _ _ hD, szl ?_, Same.put (e2.trans e3) nD, ?_⟩
      · rw [List.length_map]
        have := List.length_filter_le p (ks.take i)
        have := List.length_take_le' i ks
        omega
      · rw [upd_same, ht, List.filter_append, List.map_append, List.filter_cons_of_pos hp]; rfl
    · refine ⟨e2.trans e3, ?_⟩
      rw [e3 _ _ hD, ht, List.filter_append, List.filter_cons_of_neg (by rw [hp]; exact Bool.false_ne_true), List.filter_nil, List.append_nil]
  · rintro H2 ⟨e2, hD⟩
    rw [List.length_map, List.take_length] at hD
    exact hd H2 e2 hD
end
def RemOf (t : T) (key : Int) (gs : List Int) (tot : Int) : Prop :=
  ((∀ y ∈ t.pre, ¬ y < key) ∧ gs = (t.tch key).pre.filter (fun y => !decide (V.int y = V.int key)) ∧ tot = (t.dep key : Int)) ∨
  ∃ m, m ∈ t.pre ∧ m < key ∧ (∀ y ∈ t.pre, y < key → y ≤ m) ∧ gs = ((t.tch key).tch m).pre.filter (fun y => !decide (V.int y = V.int key)) ∧ tot = (t.dep key : Int) + ((t.tch key).dep m : Int)
def spRemove (K : PySem.W.Frag) : Sp := fun vs H Q _ => ∃ (a : Addr) (key : Int) (t : T), vs = [.ref a, .int key] ∧ SqT K H a (t.pre.map V.int) ∧ t.bst ∧ t.pre.length ≤ 1000 ∧ key ∈ t.pre ∧
  ∀ p q gs tot H', Same H H' → RemOf t key gs tot → H' p = some (.tup [.ref q, .int tot]) → H' q = some (.tup (gs.map V.int)) → Q (.ref p) H'

section
variable {σ : L2.St} {H : Hp} {Q : VK}
theorem rd_loV {i j : Nat} {lo : Option Int} {x : Int} (h1 : σ[i]? = some (some (oV lo))) (h3 : σ[j]? = some (some (.int x))) (q : Q (.bl (okLo lo x)) H) : tOrV (tIsN (tVar i)) (tOp (rI0 fun i j => .bl (decide (i < j))) (tVar i) (tVar j)) σ H Q := by
  cases lo with
  | none => exact ⟨_, h1, _, rfl, iteTd rfl q⟩
  | some l => exact ⟨_, h1, _, rfl, iteFd rfl ⟨_, h1, _, h3, l, x, rfl, rfl, q⟩⟩
theorem rd_hiV {i j : Nat} {hi : Option Int} {x : Int} (h1 : σ[i]? = some (some (oV hi))) (h3 : σ[j]? = some (some (.int x))) (q : Q (.bl (okHi hi x)) H) : tOrV (tIsN (tVar i)) (tOp (rI0 fun i j => .bl (decide (i < j))) (tVar j) (tVar i)) σ H Q := by
  cases hi with
  | none => exact ⟨_, h1, _, rfl, iteTd rfl q⟩
  | some l => exact ⟨_, h1, _, rfl, iteFd rfl ⟨_, h3, _, h1, x, l, rfl, rfl, q⟩⟩
end

theorem rd_inV {σ : L2.St} {H : Hp} {Q : VK} {i i2 j : Nat} {lo hi : Option Int} {x : Int} (h1 : σ[i]? = some (some (oV lo))) (h2 : σ[i2]? = some (some (oV hi))) (h3 : σ[j]? = some (some (.int x))) (q : Q (.bl (okLo lo x && okHi hi x)) H) :
    tAndV (tOrV (tIsN (tVar i)) (tOp (rI0 fun i j => .bl (decide (i < j))) (tVar i) (tVar j))) (tOrV (tIsN (tVar i2)) (tOp (rI0 fun i j => .bl (decide (i < j))) (tVar j) (tVar i2))) σ H Q := by
  refine rd_loV h1 h3 ⟨_, rfl, ?_⟩
  cases e : okLo lo x with
  | false => rw [e] at q; exact iteFd rfl q
  | true => rw [e] at q; exact iteTd rfl (rd_hiV h2 h3 q)
/-! ### what is left behind a removal -/
theorem int_ne {x y : Int} : (!decide (V.int x = V.int y)) = true ↔ x ≠ y := by
  rw [Bool.not_eq_true', decide_eq_false_iff_not]
  exact ⟨fun h e => h (by rw [e]), fun h e => h (V.int.inj e)⟩
theorem rem_high {t : T} {key tot : Int} {gs : List Int} (b : t.bst) (h : RemOf t key gs tot) : (gs.filter fun y => okLo (some key) y && okHi none y) = t.pre.filter fun y => okLo (some key) y && okHi none y := by
  have drop : ∀ l : List Int, (l.filter fun y => !decide (V.int y = V.int key)).filter (fun y => okLo (some key) y && okHi none y) = l.filter fun y => okLo (some key) y && okHi none y := fun l => by
    rw [List.filter_filter]
    refine List.filter_congr fun y _ => ?_
    by_cases g : key < y
    · rw [int_ne.mpr (by omega), Bool.and_true]
    · show (decide (key < y) && true && _) = (decide (key < y) && true)
      rw [decide_eq_false g]; rfl
  rcases h with ⟨_, rfl, _⟩ | ⟨m, hm, lt, _, rfl, _⟩
  · rw [drop, tch_pre b, topL_out (by show (decide (key < key) && true) = false; simp)]
  · rw [drop, tch_pre (tch_bst b), topL_out (by show (decide (key < m) && true) = false; simp; omega), tch_pre b, topL_out (by show (decide (key < key) && true) = false; simp)]
theorem rem_perm {t : T} {key tot : Int} {gs : List Int} (b : t.bst) (hk : key ∈ t.pre) (h : RemOf t key gs tot) : gs.Perm (t.pre.filter fun y => !decide (V.int y = V.int key)) := by
  have nd : gs.Nodup := by
    rcases h with ⟨_, rfl, _⟩ | ⟨m, _, _, _, rfl, _⟩
    · exact (nodup_pre (tch_bst b)).filter _
    · exact (nodup_pre (tch_bst (tch_bst b))).filter _
  refine (List.perm_ext_iff_of_nodup nd ((nodup_pre b).filter _)).mpr fun y => ?_
  rcases h with ⟨_, rfl, _⟩ | ⟨m, hm, _, _, rfl, _⟩
  · rw [List.mem_filter, List.mem_filter, tch_mem' b hk]
  · rw [List.mem_filter, List.mem_filter, tch_mem' (tch_bst b) ((tch_mem' b hk).mpr hm), tch_mem' b hk]
theorem rem_none {t : T} {key tot : Int} {gs : List Int} (b : t.bst) (h : RemOf t key gs tot) (n : ∀ y ∈ t.pre, ¬ y < key) : gs = t.pre.filter fun y => okLo (some key) y && okHi none y := by
  rcases h with ⟨_, rfl, _⟩ | ⟨m, hm, lt, _⟩
  · rw [tch_pre b]
    unfold topL
    rw [List.filter_cons_of_neg (by simp), List.filter_append, filter_none (l := t.pre.filter _) fun y hy => ?_, List.nil_append, filter_all fun y hy => ?_]
    · have := of_decide_eq_true (p := key < y) (by simpa [okLo, okHi] using (List.mem_filter.mp hy).2)
      exact int_ne.mpr (by omega)
    · have := of_decide_eq_true (p := y < key) (by simpa [okLo, okHi] using (List.mem_filter.mp hy).2)
      exact absurd this (n y (List.mem_filter.mp hy).1)
  · exact absurd lt (n m hm)
theorem rem_head {t : T} {key tot : Int} {gs : List Int} (h : RemOf t key gs tot) {y0 : Int} (h0 : y0 ∈ t.pre) (l0 : y0 < key) : ∃ m r, gs = m :: r ∧ m ∈ t.pre ∧ m < key ∧ ∀ y ∈ t.pre, y < key → y ≤ m := by
  rcases h with ⟨n, _, _⟩ | ⟨m, hm, lt, g, rfl, _⟩
  · exact absurd l0 (n y0 h0)
  · exact ⟨m, (((t.tch key).restr none (some m)).pre ++ ((t.tch key).restr (some m) none).pre).filter _, List.filter_cons_of_pos (int_ne.mpr (by omega)), hm, lt, g⟩
theorem perm_sorted {l m : List Int} (h : l.Perm m) (hl : l.Pairwise (· ≤ ·)) (hm : m.Pairwise (· ≤ ·)) : l = m := h.eq_of_pairwise (fun a b _ _ h1 h2 => Int.le_antisymm h1 h2) hl hm
end TT
namespace TT
open PySem PySem.Spec PyProof.Rows L2
def topS (i : Nat) : Stmt := PySem.Challenge.pw_touchtrees_k14_whole_touches_and_restric.main.body.getD i (.Pass ⟨0, 0, 0, 0⟩)
def clsB : Stmt → List Stmt
  | .ClassDef (body := b) .. => b
  | _ => []
def clsS (i j : Nat) : Stmt := (clsB (topS i)).getD j (.Pass ⟨0, 0, 0, 0⟩)
abbrev s_restrict : Stmt := topS 4
theorem sc_restrict : FnScope ["shape", "low", "high", "key"] ["shape", "low", "high"] (defScope s_restrict) := ⟨rfl, rfl, rfl, by decide +kernel, rfl, by decide +kernel, by decide +kernel⟩
abbrev s_parts_of : Stmt := topS 5
theorem sc_parts_of : FnScope ["shape", "root"] ["shape"] (defScope s_parts_of) := ⟨rfl, rfl, rfl, by decide +kernel, rfl, by decide +kernel, by decide +kernel⟩
abbrev s_search_path : Stmt := topS 6
theorem sc_search_path : FnScope ["shape", "key", "path", "rest", "root", "left", "right"] ["shape", "key"] (defScope s_search_path) := ⟨rfl, rfl, rfl, by decide +kernel, rfl, by decide +kernel, by decide +kernel⟩
abbrev s_require_key : Stmt := topS 7
theorem sc_require_key : FnScope ["shape", "key"] ["shape", "key"] (defScope s_require_key) := ⟨rfl, rfl, rfl, by decide +kernel, rfl, by decide +kernel, by decide +kernel⟩
abbrev s_path_to : Stmt := topS 8
theorem sc_path_to : FnScope ["shape", "key"] ["shape", "key"] (defScope s_path_to) := ⟨rfl, rfl, rfl, by decide +kernel, rfl, by decide +kernel, by decide +kernel⟩
abbrev s_depth_of : Stmt := topS 9
theorem sc_depth_of : FnScope ["shape", "key"] ["shape", "key"] (defScope s_depth_of) := ⟨rfl, rfl, rfl, by decide +kernel, rfl, by decide +kernel, by decide +kernel⟩
abbrev s_mirror : Stmt := topS 10
theorem sc_mirror : FnScope ["shape", "left", "right"] ["shape"] (defScope s_mirror) := ⟨rfl, rfl, rfl, by decide +kernel, rfl, by decide +kernel, by decide +kernel⟩
abbrev s_put_on_top : Stmt := topS 12
theorem sc_put_on_top : FnScope ["shape", "key"] ["shape", "key"] (defScope s_put_on_top) := ⟨rfl, rfl, rfl, by decide +kernel, rfl, by decide +kernel, by decide +kernel⟩
abbrev s_touch : Stmt := topS 14
theorem sc_touch : FnScope ["shape", "key", "cost"] ["shape", "key"] (defScope s_touch) := ⟨rfl, rfl, rfl, by decide +kernel, rfl, by decide +kernel, by decide +kernel⟩
abbrev s_remove_key : Stmt := topS 15
theorem sc_remove_key : FnScope ["shape", "key", "last", "total", "smaller", "cost", "other"] ["shape", "key"] (defScope s_remove_key) := ⟨rfl, rfl, rfl, by decide +kernel, rfl, by decide +kernel, by decide +kernel⟩
abbrev s__law_start : Stmt := topS 17
theorem sc__law_start : FnScope ["_law_script"] ["_law_script"] (defScope s__law_start) := ⟨rfl, rfl, rfl, by decide +kernel, rfl, by decide +kernel, by decide +kernel⟩
abbrev s__law_take : Stmt := topS 18
theorem sc__law_take : FnScope ["_law_draw", "_law_many", "_law_cell", "_law_digit", "_law_square"] ["_law_draw", "_law_many"] (defScope s__law_take) := ⟨rfl, rfl, rfl, by decide +kernel, rfl, by decide +kernel, by decide +kernel⟩
abbrev s__law_of : Stmt := topS 19
theorem sc__law_of : FnScope ["_law_draw", "_law_some"] ["_law_draw", "_law_some"] (defScope s__law_of) := ⟨rfl, rfl, rfl, by decide +kernel, rfl, by decide +kernel, by decide +kernel⟩
abbrev s__law_shuffled : Stmt := topS 20
theorem sc__law_shuffled : FnScope ["_law_draw", "_law_some", "_law_found", "_law_one"] ["_law_draw", "_law_some"] (defScope s__law_shuffled) := ⟨rfl, rfl, rfl, by decide +kernel, rfl, by decide +kernel, by decide +kernel⟩
abbrev s__law_keys : Stmt := topS 21
theorem sc__law_keys : FnScope ["_law_draw", "_law_many", "_law_key", "_law_wide", "_law_found", "_law_k"] ["_law_draw", "_law_many"] (defScope s__law_keys) := ⟨rfl, rfl, rfl, by decide +kernel, rfl, by decide +kernel, by decide +kernel⟩
abbrev s__law_size : Stmt := topS 22
theorem sc__law_size : FnScope ["_law_draw", "_law_most"] ["_law_draw", "_law_most"] (defScope s__law_size) := ⟨rfl, rfl, rfl, by decide +kernel, rfl, by decide +kernel, by decide +kernel⟩
abbrev s__law_empty : Stmt := topS 23
theorem sc__law_empty : FnScope [] [] (defScope s__law_empty) := ⟨rfl, rfl, rfl, by decide +kernel, rfl, by decide +kernel, by decide +kernel⟩
abbrev s__law_place : Stmt := topS 24
theorem sc__law_place : FnScope ["_law_m", "_law_key", "_law_here", "_law_above", "_law_step", "_law_side"] ["_law_m", "_law_key"] (defScope s__law_place) := ⟨rfl, rfl, rfl, by decide +kernel, rfl, by decide +kernel, by decide +kernel⟩
abbrev s__law_tree : Stmt := topS 25
theorem sc__law_tree : FnScope ["_law_order", "_law_m", "_law_key"] ["_law_order"] (defScope s__law_tree) := ⟨rfl, rfl, rfl, by decide +kernel, rfl, by decide +kernel, by decide +kernel⟩
abbrev s__law_shape : Stmt := topS 26
theorem sc__law_shape : FnScope ["_law_m", "_law_found", "_law_line", "_law_key", "_law_side"] ["_law_m"] (defScope s__law_shape) := ⟨rfl, rfl, rfl, by decide +kernel, rfl, by decide +kernel, by decide +kernel⟩
abbrev s__law_some_shape : Stmt := topS 27
theorem sc__law_some_shape : FnScope ["_law_draw", "_law_keys_here", "_law_pick", "_law_order", "_law_k"] ["_law_draw", "_law_keys_here"] (defScope s__law_some_shape) := ⟨rfl, rfl, rfl, by decide +kernel, rfl, by decide +kernel, by decide +kernel⟩
abbrev s_law : Stmt := topS 28
theorem sc_law : FnScope ["_law_script", "_law_draw", "_law_turn", "_law_keys_here", "_law_shape_here", "_law_key", "_law_low_z", "_law_high_z", "_law_behind", "_law_piece", "_law_within", "_law_due", "_law_gone", "_law_less", "_law_other"] ["_law_script"] (defScope s_law) := ⟨rfl, rfl, rfl, by decide +kernel, rfl, by decide +kernel, by decide +kernel⟩
abbrev s_Missing_init : Stmt := clsS 1 0
theorem sc_Missing_init : FnScope ["self", "tag", "told"] ["self", "tag", "told"] (defScope s_Missing_init) := ⟨rfl, rfl, rfl, by decide +kernel, rfl, by decide +kernel, by decide +kernel⟩
abbrev s_NoKey_init : Stmt := clsS 2 0
theorem sc_NoKey_init : FnScope ["self", "key"] ["self", "key"] (defScope s_NoKey_init) := ⟨rfl, rfl, rfl, by decide +kernel, rfl, by decide +kernel, by decide +kernel⟩
/-- the built-ins that no name of the module hides -/
structure Blt (mg : Str → Option Value) : Prop where
  xlen : mg "len" = none
  xlist : mg "list" = none
  xmax : mg "max" = none
  xmin : mg "min" = none
  xrange : mg "range" = none
  xsorted : mg "sorted" = none
  xtuple : mg "tuple" = none
end TT
namespace TT
open PySem PySem.Spec PyProof.Rows L2
section
variable {P : Program} {w : World} {K : PySem.W.Frag} {mg : Str → Option Value} {base : Heap}
theorem ok_restrict {f : Addr} {fd : FuncData} {k : Nat} {kws : List (Str × V)} (F : FunD K "restrict" "restrict" (defArgs s_restrict) (defBody s_restrict) (defScope s_restrict) [] kws f fd) (B : Blt mg) : FnOk P w K mg base CX0 (k + 1) f fd ["shape", "low", "high"] (spRestrict K) := by
  refine F.ok sc_restrict (fun vs H Q E h => ?_) (fun cdv A outer s H vs Q E hr h => ?_)
  · obtain ⟨a, ks, lo, hi, rfl, _⟩ := h
    rfl
  · obtain ⟨a, ks, lo, hi, rfl, hS, hl, q⟩ := h
    refine ⟨_, (pss_one (ps_ret (pe_callTy call_tuple_of (by rfl) B.xtuple (by decide +kernel) (pa_cons (pe_lc (own := [("key", 3)]) (g := gName 3) (by rfl) sc_restrict.nd (pi_tup (pv 0)) (blkOk_by (own := [("key", 3)]) (N := ["shape", "low", "high", "key"]) (sc := defScope s_restrict) (by decide +kernel)) (fun _ _ _ _ _ => (pg_name (i := 3) sc_restrict.nd rfl (Or.inl rfl))) (fun _ _ _ _ _ => (pts_one (PW.pt (pw_and (PW.pt (pw_or (pt_cmp (pc_isN (pv 1))) (pw_or1 (pt_cmpR op_lt (pv 1) (pv 3) (nomark _))))) (pw_and1 (PW.pt (pw_or (pt_cmp (pc_isN (pv 2))) (pw_or1 (pt_cmpR op_lt (pv 3) (pv 2) (nomark _)))))))))) (fun _ _ _ _ _ => (pv 3))) pa_nil)))), ?_⟩
    refine ⟨.ref a, rfl, a, rfl, ⟨_, hS⟩, fun D nD => ?_⟩
    refine lc_tup (xs := ks.map V.int) (fun i H2 => Same H H2 ∧ H2 D = some (.lst (((ks.take i).filter fun x => okLo lo x && okHi hi x).map V.int))) ⟨same_new nD, upd_same⟩ (fun i H2 _ h => Same.tup h.1 hS) ?_ ?_
    · rintro i v H2 hv ⟨e2, hD2⟩
      rw [List.getElem?_map] at hv
      obtain ⟨x, hx, rfl⟩ := Option.map_eq_some_iff.mp hv
      have hi2 := (List.getElem?_eq_some_iff.mp hx).1
      have ht : ks.take (i + 1) = ks.take i ++ [x] := by rw [List.take_add_one, hx]; rfl
      have hlen : ((ks.take i).filter fun x => okLo lo x && okHi hi x).length ≤ ks.length := Nat.le_trans (List.length_filter_le ..) (List.length_take_le' ..)
      refine ⟨rfl, rd_lo (lo := lo) (x := x) rfl rfl ?_⟩
      have fin : okLo lo x = true → okHi hi x = true → ∃ acc, H2 D = some (.lst acc) ∧ acc.length < sizeLine ∧ (Same H (upd H2 D (.lst (acc ++ [V.int x]))) ∧ (upd H2 D (.lst (acc ++ [V.int x]))) D = some (.lst (((ks.take (i + 1)).filter fun x => okLo lo x && okHi hi x).map V.int))) := by
        intro h1 h2
        refine ⟨_, hD2, szl (by rw [List.length_map]; omega), Same.put e2 nD, ?_⟩
        rw [upd_same, ht, List.filter_append, List.map_append]
        simp [List.filter_cons, h1, h2]
      have skip : (okLo lo x && okHi hi x) = false → (Same H H2 ∧ H2 D = some (.lst (((ks.take (i + 1)).filter fun x => okLo lo x && okHi hi x).map V.int))) := by
        intro h1
        refine ⟨e2, ?_⟩
        rw [hD2, ht, List.filter_append]
        simp [List.filter_cons, h1]
      cases hlo : okLo lo x with
      | false => exact iteFd rfl (iteFd rfl (skip (by rw [hlo]; rfl)))
      | true =>
        refine iteTd rfl (rd_hi (hi := hi) (x := x) rfl rfl ?_)
        cases hhi : okHi hi x with
        | false => exact iteFd rfl (skip (by rw [hlo, hhi]; rfl))
        | true => exact iteTd rfl ⟨_, rfl, fin hlo hhi⟩
    · rintro H2 ⟨e2, hD2⟩
      rw [List.length_map, List.take_length] at hD2
      exact ⟨D, _, rfl, .inl ⟨SqL.of hD2, fun p np => q p _ (e2.trans (same_new np)) (e2.free np) upd_same⟩⟩
end
end TT
namespace TT
open PySem PySem.Spec PyProof.Rows L2
section
variable {P : Program} {w : World} {K : PySem.W.Frag} {mg : Str → Option Value} {base : Heap}
theorem ok_parts {f : Addr} {fd : FuncData} {k : Nat} (F : Fun K "parts_of" "parts_of" s_parts_of f fd) (k_restrict_high : CalN P w K mg base CX0 "restrict" 1 ["high"] k (spRestrict K) (fun vs zs => vs ++ [.non] ++ zs))
    (k_restrict_low : CalN P w K mg base CX0 "restrict" 1 ["low"] k (spRestrict K) (fun vs zs => vs ++ zs ++ [.non])) : FnOk P w K mg base CX0 (k + 1) f fd ["shape"] (spParts K) := by
  refine F.ok sc_parts_of (fun vs H Q E h => ?_) (fun cdv A outer s H vs Q E hr h => ?_)
  · obtain ⟨a, t, rfl, _⟩ := h
    rfl
  · obtain ⟨a, t, rfl, hS, hb, hl, q⟩ := h
    refine ⟨_, (pss_cons (ps_if (pt_not (pt_truth (pv 0) (fun _ => rfl)))
    (pss_one (ps_ret (pe_tup (pa_cons (pe_tup pa_nil) (pa_cons (pe_tup pa_nil) pa_nil)))))
    pss_nil)
  (pss_cons (ps_set (i := 1) sc_parts_of.nd rfl (Or.inl rfl) (pe_ix ix_tup (pv 0) pe_int (fun _ _ => rfl)))
  (pss_one (ps_ret (pe_tup (pa_cons (pe_calN k_restrict_high (hr.mono (by omega)) (by rfl) (pa_cons (pv 0) pa_nil) (pk_cons (pv 1) pk_nil)) (pa_cons (pe_calN k_restrict_low (hr.mono (by omega)) (by rfl) (pa_cons (pv 0) pa_nil) (pk_cons (pv 1) pk_nil)) pa_nil))))))), ?_⟩
    refine ⟨.ref a, rfl, _, .inr (.inl ⟨_, hS, rfl⟩), ?_⟩
    cases t with
    | leaf =>
      refine iteTd rfl ⟨Nat.zero_le _, fun l nl => ⟨Nat.zero_le _, fun r nr => ⟨sz (by show 2 ≤ 100000; decide), fun p np => ?_⟩⟩⟩
      have e1 := same_new (o := .tup []) nl
      have e2 := same_new (o := .tup []) nr
      have e3 := same_new (o := .tup [.ref l, .ref r]) np
      exact q p l r _ (e1.trans (e2.trans e3)) ((e1.trans e2).free np) upd_same (e3 _ _ (e2 _ _ upd_same)) (e3 _ _ upd_same)
    | node tl x tr =>
      refine iteFd rfl (rd_ixT 0 rfl hS rfl ?_)
      refine ⟨.ref a, rfl, .int x, rfl, rfl, rfl, a, _, none, some x, rfl, hS, hl, fun p1 H1 e1 np1 hp1 => ?_⟩
      refine ⟨.ref a, rfl, .int x, rfl, rfl, rfl, a, _, some x, none, rfl, Same.tup e1 hS, hl, fun p2 H2 e2 np2 hp2 => ⟨sz (by show 2 ≤ 100000; decide), fun p np => ?_⟩⟩
      have e3 := same_new (o := .tup [.ref p1, .ref p2]) np
      refine q p p1 p2 _ (e1.trans (e2.trans e3)) ((e1.trans e2).free np) upd_same (e3 _ _ (e2 _ _ ?_)) (e3 _ _ ?_)
      · rw [hp1]
        exact congrArg (fun l : List Int => some (HO.tup (l.map V.int))) (pre_lt hb)
      · rw [hp2, show (fun y => okLo (some x) y && okHi none y) = (fun y => decide (x < y)) from funext fun y => Bool.and_true _]
        exact congrArg (fun l : List Int => some (HO.tup (l.map V.int))) (pre_gt hb)
end
end TT
namespace TT
open PySem PySem.Spec PyProof.Rows L2
section
variable {P : Program} {w : World} {K : PySem.W.Frag} {mg : Str → Option Value} {base : Heap}
theorem ok_search {f : Addr} {fd : FuncData} {k : Nat} (F : Fun K "search_path" "search_path" s_search_path f fd) (c_parts_of : Cal P w K mg base CX0 "parts_of" ["shape"] k (spParts K)) : FnOk P w K mg base CX0 (k + 1) f fd ["shape", "key"] (spSearch K) := by
  refine F.ok sc_search_path (fun vs H Q E h => ?_) (fun cdv A outer s H vs Q E hr h => ?_)
  · obtain ⟨a, key, t, rfl, _⟩ := h
    rfl
  · obtain ⟨a, key, t, rfl, hS, hb, hl, q⟩ := h
    refine ⟨_, (pss_cons (ps_set (i := 2) sc_search_path.nd rfl (Or.inl rfl) (pe_lst pa_nil))
  (pss_cons (ps_set (i := 3) sc_search_path.nd rfl (Or.inl rfl) (pv 0))
  (pss_cons (ps_while PassesOwn.never (pt_truth (pv 3) (fun _ => rfl))
    (pss_cons (ps_set (i := 4) sc_search_path.nd rfl (Or.inl rfl) (pe_ix ix_tup (pv 3) pe_int (fun _ _ => rfl)))
  (pss_cons (ps_expr (pe_bm PySem.F.plainAttrs_list PySem.F.slot_list_append PySem.F.type_list_append mt_append (pv 2) (pa_cons (pv 4) pa_nil)))
  (pss_cons (ps_if (pt_cmpR op_eq (pv 1) (pv 4) (nomark _))
    (pss_one ps_break)
    pss_nil)
  (pss_cons (ps_asg (pe_cal c_parts_of (hr.mono (by omega)) (by rfl) (pa_cons (pv 3) pa_nil)) (pg_tup rfl (pgs_cons (pg_name (i := 5) sc_search_path.nd rfl (Or.inl rfl)) (pgs_cons (pg_name (i := 6) sc_search_path.nd rfl (Or.inl rfl)) pgs_nil))))
  (pss_one (ps_set (i := 3) sc_search_path.nd rfl (Or.inl rfl) (pe_ifExp (pt_cmpR op_lt (pv 1) (pv 4) (nomark _)) (pv 5) (pv 6)))))))))
  (pss_one (ps_ret (pv 2)))))), ?_⟩
    refine ⟨Nat.zero_le _, fun o no => ⟨.ref a, rfl, ?_⟩⟩
    let W : Nat → L2.St → Hp → Prop := fun m σ H3 => ∃ (u : T) (acc : List Int) (b : Addr) (y4 y5 y6 : Option V), σ = [some (.ref a), some (.int key), some (.ref o), some (.ref b), y4, y5, y6] ∧ Same H H3 ∧ H3 o = some (.lst (acc.map V.int)) ∧ SqT K H3 b (u.pre.map V.int) ∧ u.bst ∧ u.pre.length ≤ 1000 ∧ acc.length + u.pre.length ≤ 1000 ∧ acc ++ u.path key = t.path key ∧ m = u.pre.length
    refine ⟨W, ⟨_, t, [], a, none, none, none, rfl, same_new no, upd_same, Same.tup (same_new no) hS, hb, hl, by simpa using hl, rfl, rfl⟩, ?_⟩
    rintro m σ H3 ⟨u, acc, b, y4, y5, y6, rfl, e3, ho, hB, hub, hul, hal, hp, rfl⟩
    refine ⟨.ref b, rfl, _, .inr (.inl ⟨_, hB, rfl⟩), ?_⟩
    cases u with
    | leaf =>
      refine iteFd rfl ⟨.ref o, rfl, q o H3 e3 no ?_⟩
      rw [ho, ← hp]
      simp [T.path]
    | node ul x ur =>
      have hlen : (T.node ul x ur).pre.length = ul.pre.length + ur.pre.length + 1 := by
        show (x :: (ul.pre ++ ur.pre)).length = _
        rw [List.length_cons, List.length_append]
      refine iteTd rfl ⟨fun σ' H' => ∃ m', m' < (T.node ul x ur).pre.length ∧ W m' σ' H', fun _ _ h => h, ?_⟩
      -- root = rest[0]; path.append(root)
      refine rd_ixT 0 rfl hB rfl ⟨.ref o, rfl, .inl ⟨rfl, _, SqL.of ho⟩, .int x, rfl, o, _, _, rfl, rfl, ho, szl (by rw [List.length_map]; omega), ?_⟩
      have e4 : Same H (upd H3 o (.lst (acc.map V.int ++ [.int x]))) := Same.put e3 no
      have ho4 : (upd H3 o (.lst (acc.map V.int ++ [.int x]))) o = some (.lst ((acc ++ [x]).map V.int)) := by rw [upd_same, List.map_append]; rfl
      have hB4 : SqT K (upd H3 o (.lst (acc.map V.int ++ [.int x]))) b ((T.node ul x ur).pre.map V.int) := by
        rcases hB with (h | ⟨z, h⟩) | h
        · refine .inl (.inl ?_)
          rw [upd_ne (fun e => by rw [e, ho] at h; cases h)]
          exact h
        · refine .inl (.inr ⟨z, ?_⟩)
          rw [upd_ne (fun e => by rw [e, ho] at h; cases h)]
          exact h
        · exact .inr h
      generalize (upd H3 o (.lst (acc.map V.int ++ [.int x]))) = H4 at e4 ho4 hB4
      have hpath : (T.node ul x ur).path key = if key = x then [x] else if key < x then x :: ul.path key else x :: ur.path key := rfl
      -- if key == root: break
      refine ⟨.int key, rfl, .int x, rfl, rfl, _, rfl, ite2 (fun e => ?_) (fun e => ?_)⟩
      · have ek : key = x := V.int.inj (of_decide_eq_true e)
        refine ⟨.ref o, rfl, q o H4 e4 no ?_⟩
        rw [ho4, ← hp, hpath, if_pos ek]
      · have nk : ¬ key = x := fun z => e (decide_eq_true (congrArg V.int z))
        rw [hpath, if_neg nk] at hp
        -- left, right = parts_of(rest)
        refine ⟨.ref b, rfl, b, _, rfl, hB4, hub, hul, fun p l r H5 e5 np hp5 hl5 hr5 => ?_⟩
        refine ⟨p, _, rfl, SqT.of hp5, rfl, .ref l, [.ref r], rfl, .ref r, [], rfl, rfl, ?_⟩
        -- rest = left if key < root else right
        refine ⟨.int key, rfl, .int x, rfl, key, x, rfl, rfl, _, rfl, ite2 (fun e6 => ?_) (fun e6 => ?_)⟩
        · have lt : key < x := of_decide_eq_true e6
          rw [if_pos lt] at hp
          refine ⟨.ref l, rfl, _, ?_, ul, acc ++ [x], l, _, _, _, rfl, e4.trans e5, e5 _ _ ho4, SqT.of hl5, hub.2.2.1, by omega, by rw [List.length_append]; show acc.length + 1 + _ ≤ _; omega, ?_, rfl⟩
          · omega
          · rw [← hp, List.append_assoc]; rfl
        · have ge : ¬ key < x := fun z => e6 (decide_eq_true z)
          rw [if_neg ge] at hp
          refine ⟨.ref r, rfl, _, ?_, ur, acc ++ [x], r, _, _, _, rfl, e4.trans e5, e5 _ _ ho4, SqT.of hr5, hub.2.2.2, by omega, by rw [List.length_append]; show acc.length + 1 + _ ≤ _; omega, ?_, rfl⟩
          · omega
          · rw [← hp, List.append_assoc]; rfl
end
end TT
namespace TT
open PySem PySem.Spec PyProof.Rows L2
section
variable {P : Program} {w : World} {K : PySem.W.Frag} {mg : Str → Option Value} {base : Heap}
theorem ok_req {f : Addr} {fd : FuncData} {k : Nat} (F : Fun K "require_key" "require_key" s_require_key f fd) : FnOk P w K mg base CX0 (k + 1) f fd ["shape", "key"] (spReq K) := by
  refine F.ok sc_require_key (fun vs H Q E h => ?_) (fun cdv A outer s H vs Q E hr h => ?_)
  · obtain ⟨a, ks, key, rfl, _⟩ := h
    rfl
  · obtain ⟨a, ks, key, rfl, hS, hk, q⟩ := h
    refine ⟨_, (pss_one (ps_if (pt_cmpR op_notIn_seq (pv 1) (pv 0) rfl)
    (pss_one ps_never)
    pss_nil)), ?_⟩
    exact ⟨.int key, rfl, .ref a, rfl, a, _, rfl, hS, rfl, flat_ints ks, _, rfl, iteFd (by show (!inV _ _) = false; rw [(inV_int key ks).mpr hk]; rfl) q⟩
end
end TT
namespace TT
open PySem PySem.Spec PyProof.Rows L2
section
variable {P : Program} {w : World} {K : PySem.W.Frag} {mg : Str → Option Value} {base : Heap}
theorem ok_path_to {f : Addr} {fd : FuncData} {k : Nat} (F : Fun K "path_to" "path_to" s_path_to f fd) (c_require_key : Cal P w K mg base CX0 "require_key" ["shape", "key"] k (spReq K)) (c_search_path : Cal P w K mg base CX0 "search_path" ["shape", "key"] k (spSearch K)) : FnOk P w K mg base CX0 (k + 1) f fd ["shape", "key"] (spPathTo K) := by
  refine F.ok sc_path_to (fun vs H Q E h => ?_) (fun cdv A outer s H vs Q E hr h => ?_)
  · obtain ⟨a, key, t, rfl, _⟩ := h
    rfl
  · obtain ⟨a, key, t, rfl, hS, hb, hl, hk, q⟩ := h
    refine ⟨_, (pss_cons (ps_expr (pe_cal c_require_key (hr.mono (by omega)) (by rfl) (pa_cons (pv 0) (pa_cons (pv 1) pa_nil))))
  (pss_one (ps_ret (pe_cal c_search_path (hr.mono (by omega)) (by rfl) (pa_cons (pv 0) (pa_cons (pv 1) pa_nil)))))), ?_⟩
    exact ⟨.ref a, rfl, .int key, rfl, a, t.pre, key, rfl, .inr hS, hk, .ref a, rfl, .int key, rfl, a, key, t, rfl, hS, hb, hl, q⟩
end
end TT
namespace TT
open PySem PySem.Spec PyProof.Rows L2
section
variable {P : Program} {w : World} {K : PySem.W.Frag} {mg : Str → Option Value} {base : Heap}
theorem ok_depth {f : Addr} {fd : FuncData} {k : Nat} (F : Fun K "depth_of" "depth_of" s_depth_of f fd) (B : Blt mg) (c_path_to : Cal P w K mg base CX0 "path_to" ["shape", "key"] k (spPathTo K)) : FnOk P w K mg base CX0 (k + 1) f fd ["shape", "key"] (spDepth K) := by
  refine F.ok sc_depth_of (fun vs H Q E h => ?_) (fun cdv A outer s H vs Q E hr h => ?_)
  · obtain ⟨a, key, t, rfl, _⟩ := h
    rfl
  · obtain ⟨a, key, t, rfl, hS, hb, hl, hk, q⟩ := h
    refine ⟨_, (pss_one (ps_ret (pe_op op_sub (pe_callB call_len_seq (by rfl) B.xlen PySem.boot_len (pa_cons (pe_cal c_path_to (hr.mono (by omega)) (by rfl) (pa_cons (pv 0) (pa_cons (pv 1) pa_nil))) pa_nil)) pe_int))), ?_⟩
    refine ⟨.ref a, rfl, .int key, rfl, a, key, t, rfl, hS, hb, hl, hk, fun p H1 e1 np hp => ⟨p, _, rfl, .inl (SqL.of hp), _, 1, rfl, rfl, ?_⟩⟩
    have l0 := List.length_pos_iff.mpr (path_mem hb hk).1
    have e : ((((t.path key).map V.int).length : Nat) : Int) - 1 = ((t.dep key : Nat) : Int) := by
      rw [List.length_map]
      unfold T.dep
      omega
    show Q (V.int (((((t.path key).map V.int).length : Nat) : Int) - 1)) H1
    rw [e]
    exact q H1 e1
end
end TT
namespace TT
open PySem PySem.Spec PyProof.Rows L2
section
variable {P : Program} {w : World} {K : PySem.W.Frag} {mg : Str → Option Value} {base : Heap}
theorem ok_mir1 {f : Addr} {fd : FuncData} {n k : Nat} (F : Fun K "mirror" "mirror" s_mirror f fd) (c_parts_of : Cal P w K mg base CX0 "parts_of" ["shape"] k (spParts K)) (c_mirror : Cal P w K mg base CX0 "mirror" ["shape"] (n + k) (spMir K n)) : FnOk P w K mg base CX0 (n + k + 1) f fd ["shape"] (spMir K (n + 1)) := by
  refine F.ok sc_mirror (fun vs H Q E h => ?_) (fun cdv A outer s H vs Q E hr h => ?_)
  · obtain ⟨a, t, rfl, _⟩ := h
    rfl
  · obtain ⟨a, t, rfl, hS, hb, hn, hl, q⟩ := h
    refine ⟨_, (pss_cons (ps_if (pt_not (pt_truth (pv 0) (fun _ => rfl)))
    (pss_one (ps_ret (pe_tup pa_nil)))
    pss_nil)
  (pss_cons (ps_asg (pe_cal c_parts_of (hr.mono (by omega)) (by rfl) (pa_cons (pv 0) pa_nil)) (pg_tup rfl (pgs_cons (pg_name (i := 1) sc_mirror.nd rfl (Or.inl rfl)) (pgs_cons (pg_name (i := 2) sc_mirror.nd rfl (Or.inl rfl)) pgs_nil))))
  (pss_one (ps_ret (pe_op op_catT (pe_op op_catT (pe_tup (pa_cons (pe_un un_neg (pe_ix ix_tup (pv 0) pe_int (fun _ _ => rfl))) pa_nil)) (pe_cal c_mirror (hr.mono (by omega)) (by rfl) (pa_cons (pv 2) pa_nil))) (pe_cal c_mirror (hr.mono (by omega)) (by rfl) (pa_cons (pv 1) pa_nil))))))), ?_⟩
    refine ⟨.ref a, rfl, _, .inr (.inl ⟨_, hS, rfl⟩), ?_⟩
    cases t with
    | leaf => exact iteTd rfl ⟨Nat.zero_le _, fun p np => q p _ (same_new np) upd_same⟩
    | node tl x tr =>
      have hlen : (T.node tl x tr).pre.length = tl.pre.length + tr.pre.length + 1 := by
        show (x :: (tl.pre ++ tr.pre)).length = _
        rw [List.length_cons, List.length_append]
      refine iteFd rfl ⟨.ref a, rfl, a, _, rfl, hS, hb, hl, fun p l r H1 e1 np hp hl1 hr1 => ?_⟩
      refine ⟨p, _, rfl, SqT.of hp, rfl, .ref l, [.ref r], rfl, .ref r, [], rfl, rfl, ?_⟩
      -- (-shape[0],) + mirror(right) + mirror(left)
      refine rd_ixT 0 rfl (Same.tup e1 hS) rfl ⟨x, rfl, sz (by show 1 ≤ 100000; decide), fun z nz => ?_⟩
      have e2 := same_new (o := .tup [.int (-x)]) nz
      refine ⟨.ref r, rfl, r, tr, rfl, SqT.of (e2 _ _ hr1), hb.2.2.2, by omega, by omega, fun pr H3 e3 hpr => ?_⟩
      refine rd_catT (xs := [.int (-x)]) (e3 _ _ upd_same) (SqT.of hpr) (by simp) (by rw [List.length_map, len_mir]; show 1 + _ ≤ _; omega) fun pc H4 e4 hpc => ?_
      have e14 := e2.trans (e3.trans e4)
      refine ⟨.ref l, rfl, l, tl, rfl, SqT.of (e14 _ _ hl1), hb.2.2.1, by omega, by omega, fun pl H5 e5 hpl => ?_⟩
      refine rd_catT (e5 _ _ hpc) (SqT.of hpl) (by simp) (by rw [List.length_append, List.length_map, List.length_map, len_mir, len_mir]; show 1 + _ + _ ≤ _; omega) fun pf H6 e6 hpf => ?_
      refine q pf H6 (e1.trans (e14.trans (e5.trans e6))) ?_
      rw [hpf]
      show some (HO.tup ([V.int (-x)] ++ tr.mir.pre.map V.int ++ tl.mir.pre.map V.int)) = some (HO.tup (((-x) :: (tr.mir.pre ++ tl.mir.pre)).map V.int))
      simp
theorem ok_mir {f : Addr} {fd : FuncData} {k : Nat} (F : Fun K "mirror" "mirror" s_mirror f fd) (c_parts_of : Cal P w K mg base CX0 "parts_of" ["shape"] k (spParts K)) (gf : mg "mirror" = some (.ref f)) (bf : Binds K fd ["shape"] []) : ∀ n, FnOk P w K mg base CX0 (n + k) f fd ["shape"] (spMir K n)
  | 0 => ⟨fun _ _ _ _ h => by obtain ⟨_, _, _, _, _, h, _⟩ := h; omega, fun _ _ _ _ _ _ _ _ _ _ _ _ _ h => by obtain ⟨_, _, _, _, _, h, _⟩ := h; omega⟩
  | n + 1 => by
    have h := ok_mir1 F c_parts_of ⟨f, fd, ok_mir F c_parts_of gf bf n, gf, F.kp, bf⟩
    rw [show n + 1 + k = n + k + 1 by omega]
    exact h
end
end TT
namespace TT
open PySem PySem.Spec PyProof.Rows L2
section
variable {P : Program} {w : World} {K : PySem.W.Frag} {mg : Str → Option Value} {base : Heap}
theorem ok_put {f : Addr} {fd : FuncData} {k : Nat} (F : Fun K "put_on_top" "put_on_top" s_put_on_top f fd) (k_restrict_high : CalN P w K mg base CX0 "restrict" 1 ["high"] k (spRestrict K) (fun vs zs => vs ++ [.non] ++ zs))
    (k_restrict_low : CalN P w K mg base CX0 "restrict" 1 ["low"] k (spRestrict K) (fun vs zs => vs ++ zs ++ [.non])) : FnOk P w K mg base CX0 (k + 1) f fd ["shape", "key"] (spPut K) := by
  refine F.ok sc_put_on_top (fun vs H Q E h => ?_) (fun cdv A outer s H vs Q E hr h => ?_)
  · obtain ⟨a, key, ks, rfl, _⟩ := h
    rfl
  · obtain ⟨a, key, ks, rfl, hS, hl, q⟩ := h
    refine ⟨_, (pss_one (ps_ret (pe_op op_catT (pe_op op_catT (pe_tup (pa_cons (pv 1) pa_nil)) (pe_calN k_restrict_high (hr.mono (by omega)) (by rfl) (pa_cons (pv 0) pa_nil) (pk_cons (pv 1) pk_nil))) (pe_calN k_restrict_low (hr.mono (by omega)) (by rfl) (pa_cons (pv 0) pa_nil) (pk_cons (pv 1) pk_nil))))), ?_⟩
    refine ⟨.int key, rfl, sz (by show 1 ≤ 100000; decide), fun z nz => ?_⟩
    have e0 := same_new (o := .tup [.int key]) nz
    have fl : ∀ pp : Int → Bool, ((ks.filter pp).map V.int).length ≤ 1000 := fun pp => by rw [List.length_map]; exact Nat.le_trans (List.length_filter_le ..) hl
    refine ⟨.ref a, rfl, .int key, rfl, rfl, rfl, a, ks, none, some key, rfl, Same.tup e0 hS, hl, fun p1 H1 e1 np1 hp1 => ?_⟩
    have fl1 := fl fun y => okLo none y && okHi (some key) y
    have fl2 := fl fun y => okLo (some key) y && okHi none y
    refine rd_catT (xs := [.int key]) (e1 _ _ upd_same) (SqT.of hp1) (by simp) (by show 1 + _ ≤ _; omega) fun p2 H2 e2 hp2 => ?_
    have e02 := e0.trans (e1.trans e2)
    refine ⟨.ref a, rfl, .int key, rfl, rfl, rfl, a, ks, some key, none, rfl, Same.tup e02 hS, hl, fun p3 H3 e3 np3 hp3 => ?_⟩
    refine rd_catT (e3 _ _ hp2) (SqT.of hp3) (by simp) (by rw [List.length_append]; show 1 + _ + _ ≤ _; omega) fun p4 H4 e4 hp4 => ?_
    refine q p4 H4 (e02.trans (e3.trans e4)) ?_
    rw [hp4]
    unfold topL
    rw [List.map_cons, List.map_append]
    rfl
end
end TT
namespace TT
open PySem PySem.Spec PyProof.Rows L2
section
variable {P : Program} {w : World} {K : PySem.W.Frag} {mg : Str → Option Value} {base : Heap}
theorem ok_touch {f : Addr} {fd : FuncData} {k : Nat} (F : Fun K "touch" "touch" s_touch f fd) (c_depth_of : Cal P w K mg base CX0 "depth_of" ["shape", "key"] k (spDepth K)) (c_put_on_top : Cal P w K mg base CX0 "put_on_top" ["shape", "key"] k (spPut K)) : FnOk P w K mg base CX0 (k + 1) f fd ["shape", "key"] (spTouch K) := by
  refine F.ok sc_touch (fun vs H Q E h => ?_) (fun cdv A outer s H vs Q E hr h => ?_)
  · obtain ⟨a, key, t, rfl, _⟩ := h
    rfl
  · obtain ⟨a, key, t, rfl, hS, hb, hl, hk, q⟩ := h
    refine ⟨_, (pss_cons (ps_set (i := 2) sc_touch.nd rfl (Or.inl rfl) (pe_cal c_depth_of (hr.mono (by omega)) (by rfl) (pa_cons (pv 0) (pa_cons (pv 1) pa_nil))))
  (pss_one (ps_ret (pe_tup (pa_cons (pe_cal c_put_on_top (hr.mono (by omega)) (by rfl) (pa_cons (pv 0) (pa_cons (pv 1) pa_nil))) (pa_cons (pv 2) pa_nil)))))), ?_⟩
    refine ⟨.ref a, rfl, .int key, rfl, a, key, t, rfl, hS, hb, hl, hk, fun H1 e1 => ?_⟩
    refine ⟨.ref a, rfl, .int key, rfl, a, key, t.pre, rfl, Same.tup e1 hS, hl, fun p2 H2 e2 hp2 => ⟨_, rfl, sz (by show 2 ≤ 100000; decide), fun p np => ?_⟩⟩
    have e3 := same_new (o := .tup [.ref p2, .int (t.dep key : Int)]) np
    exact q p p2 _ (e1.trans (e2.trans e3)) upd_same (by rw [tch_pre hb]; exact e3 _ _ hp2)
end
end TT
namespace TT
open PySem PySem.Spec PyProof.Rows L2
section
variable {P : Program} {w : World} {K : PySem.W.Frag} {mg : Str → Option Value} {base : Heap}
theorem ok_remove {f : Addr} {fd : FuncData} {k : Nat} (F : Fun K "remove_key" "remove_key" s_remove_key f fd) (B : Blt mg) (c_touch : Cal P w K mg base CX0 "touch" ["shape", "key"] k (spTouch K)) (k_restrict_high : CalN P w K mg base CX0 "restrict" 1 ["high"] k (spRestrict K) (fun vs zs => vs ++ [.non] ++ zs)) : FnOk P w K mg base CX0 (k + 1) f fd ["shape", "key"] (spRemove K) := by
  refine F.ok sc_remove_key (fun vs H Q E h => ?_) (fun cdv A outer s H vs Q E hr h => ?_)
  · obtain ⟨a, key, t, rfl, _⟩ := h
    rfl
  · obtain ⟨a, key, t, rfl, hS, hb, hl, hk, q⟩ := h
    refine ⟨_, (pss_cons (ps_asg (pe_cal c_touch (hr.mono (by omega)) (by rfl) (pa_cons (pv 0) (pa_cons (pv 1) pa_nil))) (pg_tup rfl (pgs_cons (pg_name (i := 2) sc_remove_key.nd rfl (Or.inl rfl)) (pgs_cons (pg_name (i := 3) sc_remove_key.nd rfl (Or.inl rfl)) pgs_nil))))
  (pss_cons (ps_set (i := 4) sc_remove_key.nd rfl (Or.inl rfl) (pe_calN k_restrict_high (hr.mono (by omega)) (by rfl) (pa_cons (pv 0) pa_nil) (pk_cons (pv 1) pk_nil)))
  (C8.pss_cut (ps_if (pt_truth (pv 4) (fun _ => rfl))
    (pss_cons (ps_asg (pe_cal c_touch (hr.mono (by omega)) (by rfl) (pa_cons (pv 2) (pa_cons (pe_callB (cr_maxT rfl) (by rfl) B.xmax (by decide +kernel) (pa_cons (pv 4) pa_nil)) pa_nil))) (pg_tup rfl (pgs_cons (pg_name (i := 2) sc_remove_key.nd rfl (Or.inl rfl)) (pgs_cons (pg_name (i := 5) sc_remove_key.nd rfl (Or.inl rfl)) pgs_nil))))
  (pss_one (ps_aug (i := 3) sc_remove_key.nd rfl (Or.inl rfl) (pv 5) ip_add)))
    pss_nil)
  (pss_one (ps_ret (pe_tup (pa_cons (pe_callTy call_tuple_of (by rfl) B.xtuple (by decide +kernel) (pa_cons (pe_lc (own := [("other", 6)]) (g := gName 6) (by rfl) sc_remove_key.nd (pi_tup (pv 2)) (blkOk_by (own := [("other", 6)]) (N := ["shape", "key", "last", "total", "smaller", "cost", "other"]) (sc := defScope s_remove_key) (by decide +kernel)) (fun _ _ _ _ _ => (pg_name (i := 6) sc_remove_key.nd rfl (Or.inl rfl))) (fun _ _ _ _ _ => (pts_one (pt_cmpR op_ne (pv 6) (pv 1) (nomark _)))) (fun _ _ _ _ _ => (pv 6))) pa_nil)) (pa_cons (pv 3) pa_nil)))))))), ?_⟩
    refine ⟨.ref a, rfl, .int key, rfl, a, key, t, rfl, hS, hb, hl, hk, fun p1 q1 H1 e1 hp1 hq1 => ?_⟩
    refine ⟨p1, _, rfl, SqT.of hp1, rfl, .ref q1, _, rfl, _, _, rfl, rfl, ?_⟩
    refine ⟨.ref a, rfl, .int key, rfl, rfl, rfl, a, _, none, some key, rfl, Same.tup e1 hS, hl, fun p2 H2 e2 np2 hp2 => ?_⟩
    refine ⟨fun σ H3 => ∃ (u : T) (qa : Addr) (tot : Int) (y4 : Option V), σ = [some (.ref a), some (.int key), some (.ref qa), some (.int tot), some (.ref p2), y4, none] ∧ Same H H3 ∧ H3 qa = some (.tup (u.pre.map V.int)) ∧ u.pre.length ≤ 1000 ∧ RemOf t key (u.pre.filter (fun y => !decide (V.int y = V.int key))) tot, ?_, ?_⟩
    · refine ⟨.ref p2, rfl, _, .inr (.inl ⟨_, SqT.of hp2, rfl⟩), ?_⟩
      cases hf : t.pre.filter (fun y => okLo none y && okHi (some key) y) with
      | nil =>
        refine iteFd rfl ⟨t.tch key, q1, _, none, rfl, e1.trans e2, e2 _ _ hq1, by rw [tch_len hb hk]; exact hl, .inl ⟨fun y hy lt => ?_, rfl, rfl⟩⟩
        have : y ∈ t.pre.filter (fun y => okLo none y && okHi (some key) y) := List.mem_filter.mpr ⟨hy, decide_eq_true lt⟩
        rw [hf] at this
        cases this
      | cons m0 ms =>
        have hmem : ∀ y, y ∈ m0 :: ms ↔ y ∈ t.pre ∧ y < key := fun y => by
          rw [← hf, List.mem_filter]
          exact and_congr_right fun _ => decide_eq_true_iff
        rw [hf] at hp2
        have l1 : (t.tch key).pre.length ≤ 1000 := by rw [tch_len hb hk]; exact hl
        refine iteTd rfl ⟨.ref q1, rfl, .ref p2, rfl, p2, m0 :: ms, rfl, SqT.of hp2, Nat.succ_pos _, fun mx h1 h2 => ⟨q1, mx, t.tch key, rfl, SqT.of (e2 _ _ hq1), tch_bst hb, l1, (tch_mem' hb hk).mpr ((hmem mx).mp h1).1, fun p3 q3 H3 e3 hp3 hq3 => ?_⟩⟩
        refine ⟨p3, _, rfl, SqT.of hp3, rfl, .ref q3, _, rfl, _, _, rfl, rfl, ?_⟩
        refine ⟨_, rfl, _, rfl, _, _, rfl, rfl, (t.tch key).tch mx, q3, _, _, rfl, e1.trans (e2.trans e3), hq3, ?_, .inr ⟨mx, ((hmem mx).mp h1).1, ((hmem mx).mp h1).2, fun y hy lt => h2 y ((hmem y).mpr ⟨hy, lt⟩), rfl, rfl⟩⟩
        rw [tch_len (tch_bst hb) ((tch_mem' hb hk).mpr ((hmem mx).mp h1).1)]; exact l1
    · rintro σ H3 ⟨u, qa, tot, y4, rfl, e3, hq3, hul, hR⟩
      refine ⟨.ref qa, rfl, qa, rfl, ⟨_, SqT.of hq3⟩, fun D nD => lc_fT (fun y => !decide (V.int y = V.int key)) V.int (SqT.of hq3) nD hul (fun x H5 Y N hx e5 h1 h2 => ⟨rfl, .int x, rfl, .int key, rfl, rfl, _, rfl, ite2 (fun e => ⟨.int x, rfl, h1 e H5 (.refl _)⟩) (fun e => h2 (by simpa using e) H5 (.refl _))⟩) fun H4 e4 hD4 => ?_⟩
      refine ⟨D, _, rfl, .inl ⟨SqL.of hD4, fun p np => ⟨.int tot, rfl, sz (by show 2 ≤ 100000; decide), fun pp npp => ?_⟩⟩⟩
      have e5 := same_new (o := .tup ((u.pre.filter (fun y => !decide (V.int y = V.int key))).map V.int)) np
      have e6 := same_new (o := .tup [.ref p, .int tot]) npp
      exact q pp p _ tot _ (e3.trans (e4.trans (e5.trans e6))) hR upd_same (e6 _ _ upd_same)
end
end TT
namespace TT
open PySem PySem.Spec PyProof.Rows L2
section
variable {P : Program} {w : World} {K : PySem.W.Frag} {mg : Str → Option Value} {base : Heap}
theorem ok_start {f : Addr} {fd : FuncData} {k : Nat} (F : Fun K "_law_start" "_law_start" s__law_start f fd) (B : Blt mg) : FnOk P w K mg base CX0 (k + 1) f fd ["_law_script"] (spStart K) := by
  refine F.ok sc__law_start (fun vs H Q E h => ?_) (fun cdv A outer s H vs Q E hr h => ?_)
  · obtain ⟨a, ns, rfl, _⟩ := h
    rfl
  · obtain ⟨a, ns, rfl, hS, hl, q⟩ := h
    refine ⟨_, (pss_one (ps_ret (pe_lst (pa_cons (pe_callTy call_list_of (by rfl) B.xlist (by decide +kernel) (pa_cons (pe_slice sl_list (pv 0) po_none (po_some pe_int)) pa_nil)) (pa_cons pe_int (pa_cons pe_int (pa_cons (pe_op op_add pe_int (pe_op op_mul pe_int (pe_callB call_len_seq (by rfl) B.xlen PySem.boot_len (pa_cons (pe_slice sl_list (pv 0) po_none (po_some pe_int)) pa_nil)))) pa_nil))))))), ?_⟩
    obtain ⟨ms, em, lm⟩ := cutV_map ns none (some 63)
    refine ⟨.ref a, rfl, 63, rfl, a, _, rfl, hS, fun p np => ?_⟩
    rw [em]
    refine ⟨p, _, rfl, .inl (.inl (.inl upd_same)), fun c nc => ?_⟩
    have s1 : Same H (upd H p (.lst (ms.map V.int))) := same_new np
    have s2 := s1.trans (same_new (o := .lst (ms.map V.int)) nc)
    refine ⟨.ref a, rfl, 63, rfl, a, _, rfl, s2.seq hS, fun p2 np2 => ?_⟩
    rw [em]
    have s3 := s2.trans (same_new (o := .lst (ms.map V.int)) np2)
    refine ⟨p2, _, rfl, .inl (.inl (.inl upd_same)), 31, _, rfl, rfl, .inl ⟨by decide, by decide⟩, 9484, _, rfl, rfl, sz (by show 4 ≤ 100000; decide), fun d nd => ?_⟩
    have hc : (upd (upd (upd H p (.lst (ms.map V.int))) c (.lst (ms.map V.int))) p2 (.lst (ms.map V.int))) c = some (.lst (ms.map V.int)) := same_new np2 _ _ upd_same
    have ncd : c ≠ d := ne_of_none hc nd
    refine q d c ms _ (s3.trans (same_new nd)) (s3.free nd) ⟨0, 0, 9484 + 31 * (ms.length : Int), ?_, ?_, ncd, by omega, by omega, by omega, ?_⟩
    · rw [upd_same]
      simp only [List.length_map]
    · rw [upd_ne ncd]
      exact same_new np2 _ _ upd_same
    · show 9484 + 31 * (ms.length : Int) < 2305843009213693951
      omega
end
end TT
namespace TT
open PySem PySem.Spec PyProof.Rows L2
section
variable {P : Program} {w : World} {K : PySem.W.Frag} {mg : Str → Option Value} {base : Heap}
theorem ok_take {f : Addr} {fd : FuncData} {k : Nat} (F : Fun K "_law_take" "_law_take" s__law_take f fd) (B : Blt mg) : FnOk P w K mg base CX0 (k + 1) f fd ["_law_draw", "_law_many"] spTake := by
  refine F.ok sc__law_take (fun vs H Q E h => ?_) (fun cdv A outer s H vs Q E hr h => ?_)
  · obtain ⟨d, m, c, ns, rfl, _⟩ := h
    rfl
  · obtain ⟨d, m, c, ns, rfl, m1, m2, ⟨i, b, z, hd, hc, ncd, i0, b0, z0, z1⟩, q⟩ := h
    refine ⟨_, (C8.pss_cut (ps_if (PW.pt (pw_and (pt_cmpR op_lt (pe_ix ix_list (pv 0) pe_int (fun _ _ => rfl)) (pv 1) (nomark _)) (pw_and1 (pt_cmpR op_lt (pe_ix ix_list (pv 0) pe_int (fun _ _ => rfl)) (pe_callB call_len_seq (by rfl) B.xlen PySem.boot_len (pa_cons (pe_ix ix_list (pv 0) pe_int (fun _ _ => rfl)) pa_nil)) (nomark _)))))
    (pss_cons (ps_set (i := 2) sc__law_take.nd rfl (Or.inl rfl) (pe_ix ix_list (pe_ix ix_list (pv 0) pe_int (fun _ _ => rfl)) (pe_ix ix_list (pv 0) pe_int (fun _ _ => rfl)) (fun _ _ => rfl)))
  (pss_cons (ps_asg (pe_op op_add (pe_ix ix_list (pv 0) pe_int (fun _ _ => rfl)) pe_int) (pg_sub (pv 0) pe_int set_list))
  (pss_cons (ps_asg pe_int (pg_sub (pv 0) pe_int set_list))
  (C8.pss_cut (ps_if (pt_cmpR op_ge (pv 2) (pe_op op_pow pe_int pe_int) (nomark _))
    (pss_one (ps_asg (pv 2) (pg_sub (pv 0) pe_int set_list)))
    pss_nil)
  (pss_one (ps_asg (pe_op op_mod (pe_op op_add (pe_op op_add (pe_op op_mul (pe_ix ix_list (pv 0) pe_int (fun _ _ => rfl)) pe_int) (pe_op op_mul (pe_op op_mod (pv 2) pe_int) pe_int)) (pe_ix ix_list (pv 0) pe_int (fun _ _ => rfl))) pe_int) (pg_sub (pv 0) pe_int set_list)))))))
    pss_nil)
  (pss_cons (ps_if (pt_cmpR op_ge (pe_ix ix_list (pv 0) pe_int (fun _ _ => rfl)) (pv 1) (nomark _))
    (pss_cons (ps_set (i := 3) sc__law_take.nd rfl (Or.inl rfl) (pe_op op_mod (pe_ix ix_list (pv 0) pe_int (fun _ _ => rfl)) (pv 1)))
  (pss_cons (ps_asg (pe_op op_fdivW (pe_ix ix_list (pv 0) pe_int (fun _ _ => rfl)) (pv 1)) (pg_sub (pv 0) pe_int set_list))
  (pss_one (ps_ret (pv 3)))))
    pss_nil)
  (pss_cons (ps_set (i := 4) sc__law_take.nd rfl (Or.inl rfl) (pe_op op_mod (pe_op op_mul (pe_ix ix_list (pv 0) pe_int (fun _ _ => rfl)) (pe_ix ix_list (pv 0) pe_int (fun _ _ => rfl))) pe_int))
  (pss_cons (ps_asg (pe_op op_mod (pe_op op_add (pe_op op_add (pe_op op_mul (pv 4) pe_int) (pe_op op_mul (pe_ix ix_list (pv 0) pe_int (fun _ _ => rfl)) pe_int)) pe_int) pe_int) (pg_sub (pv 0) pe_int set_list))
  (pss_one (ps_ret (pe_op op_mod (pe_op op_fdivW (pe_ix ix_list (pv 0) pe_int (fun _ _ => rfl)) pe_int) (pv 1)))))))), ?_⟩
    have hL : SqL K H d [.ref c, .int i, .int b, .int z] := .inl (.inl hd)
    have hC : SqL K H c (ns.map V.int) := .inl (.inl hc)
    -- behind the first if
    refine ⟨fun σ H1 => (∃ y, σ = [some (.ref d), some (.int m), y, none, none]) ∧ Drw c ns H1 d ∧ ∀ b, b ≠ d → H1 b = H b, ?_, ?_⟩
    · refine rd_ixL 2 rfl hL rfl ⟨_, rfl, b, m, rfl, rfl, _, rfl, ite2 (fun e1 => ?_) (fun e1 => ?_)⟩
      · refine rd_ixL 1 rfl hL rfl (rd_ixL 0 rfl hL rfl ⟨c, _, rfl, .inl hC, i, _, rfl, rfl, _, rfl, ite2 (fun e2 => ?_) (fun e2 => ?_)⟩)
        · have hi : i < (ns.map V.int).length := of_decide_eq_true e2
          rw [List.length_map] at hi
          obtain ⟨n, hn⟩ : ∃ n, ns[i.toNat]? = some n := ⟨ns[i.toNat]'(by omega), List.getElem?_eq_getElem _⟩
          have hx : (ns.map V.int)[i.toNat]? = some (.int n) := by rw [List.getElem?_map, hn]; rfl
          have hx2 : atI (ns.map V.int) i = some (.int n) := by
            have := atI_nat hx
            rwa [Int.toNat_of_nonneg i0] at this
          -- cell = draw[0][draw[1]]
          refine rd_ixL 0 rfl hL rfl (rd_ixL 1 rfl hL rfl ⟨c, _, i, .int n, rfl, rfl, hC, hx2, ?_⟩)
          -- draw[1] = draw[1] + 1
          refine rd_ixL 1 rfl hL rfl ⟨i, 1, rfl, rfl, .ref d, rfl, d, _, 1, 1, rfl, rfl, hd, rfl, ?_⟩
          -- draw[2] = 0
          refine ⟨.ref d, rfl, d, _, 2, 2, rfl, rfl, upd_same, rfl, ?_⟩
          rw [upd_upd]
          -- if cell >= 10 ** 18
          refine ⟨fun σ H3 => σ = [some (.ref d), some (.int m), some (.int n), none, none] ∧ (∃ b', 0 ≤ b' ∧ H3 d = some (.lst [.ref c, .int (i + 1), .int b', .int z])) ∧ ∀ x, x ≠ d → H3 x = H x, ?_, ?_⟩
          · refine ⟨.int n, rfl, 10, 18, rfl, rfl, ⟨by decide, by decide, by decide⟩, n, _, rfl, rfl, _, rfl, ite2 (fun e3 => ?_) (fun e3 => ?_)⟩
            · have e4 : (10 : Int) ^ (18 : Int).toNat ≤ n := of_decide_eq_true e3
              have e5 : (0 : Int) ≤ n := Int.le_trans (by decide) e4
              refine ⟨.int n, rfl, .ref d, rfl, d, _, 2, 2, rfl, rfl, upd_same, rfl, rfl, ⟨n, e5, ?_⟩, fun x hx => ?_⟩
              · rw [upd_same]; rfl
              · rw [upd_ne hx, upd_ne hx]
            · exact ⟨rfl, ⟨0, Int.le_refl _, upd_same⟩, fun x hx => upd_ne hx⟩
          · rintro σ H3 ⟨rfl, ⟨b', hb', hd3⟩, hk⟩
            have hL3 : SqL K H3 d [.ref c, .int (i + 1), .int b', .int z] := .inl (.inl hd3)
            -- draw[3] = ..
            refine rd_ixL 3 rfl hL3 rfl ⟨z, 52711, rfl, rfl, .inr ⟨by decide, by decide⟩, .int n, rfl, n, MM, rfl, rfl, (by decide : (0 : Int) < MM), n % MM, 7, rfl, rfl, .inr ⟨by decide, by decide⟩, z * 52711, n % MM * 7, rfl, rfl, ?_⟩
            refine rd_ixL 1 rfl hL3 rfl ⟨z * 52711 + n % MM * 7, i + 1, rfl, rfl, z * 52711 + n % MM * 7 + (i + 1), MM, rfl, rfl, (by decide : (0 : Int) < MM), ?_⟩
            refine ⟨.ref d, rfl, d, _, 3, 3, rfl, rfl, hd3, rfl, ⟨_, rfl⟩, ⟨i + 1, b', (z * 52711 + n % MM * 7 + (i + 1)) % MM, upd_same, ?_, ncd, by omega, hb', Int.emod_nonneg _ (by decide), Int.emod_lt_of_pos _ (by decide)⟩, fun x hx => ?_⟩
            · rw [upd_ne ncd, hk c ncd]
              exact hc
            · rw [upd_ne hx]
              exact hk x hx
        · exact ⟨⟨none, rfl⟩, ⟨i, b, z, hd, hc, ncd, i0, b0, z0, z1⟩, fun _ _ => rfl⟩
      · exact ⟨⟨none, rfl⟩, ⟨i, b, z, hd, hc, ncd, i0, b0, z0, z1⟩, fun _ _ => rfl⟩
    · rintro σ H1 ⟨⟨y, rfl⟩, ⟨i, b, z, hd, hc, ncd, i0, b0, z0, z1⟩, hb⟩
      have hL : SqL K H1 d [.ref c, .int i, .int b, .int z] := .inl (.inl hd)
      have m62 : m.natAbs < 2 ^ 200 := by omega
      -- if draw[2] >= many
      refine rd_ixL 2 rfl hL rfl ⟨_, rfl, b, m, rfl, rfl, _, rfl, ite2 (fun e1 => ?_) (fun e1 => ?_)⟩
      · refine rd_ixL 2 rfl hL rfl ⟨.int m, rfl, b, m, rfl, rfl, (by omega : (0 : Int) < m), ?_⟩
        refine rd_ixL 2 rfl hL rfl ⟨.int m, rfl, b, m, rfl, rfl, wide_div (by omega) m62 (by decide) (by decide), .ref d, rfl, d, _, 2, 2, rfl, rfl, hd, rfl, .int (b % m), rfl, ?_⟩
        refine q _ _ (Int.emod_nonneg _ (by omega)) (Int.emod_lt_of_pos _ (by omega)) ⟨i, b / m, z, upd_same, ?_, ncd, i0, Int.ediv_nonneg b0 (by omega), z0, z1⟩ fun x hx => ?_
        · rw [upd_ne ncd]
          exact hc
        · rw [upd_ne hx]
          exact hb x hx
      · have z64 : -(2 ^ 64) < z ∧ z < 2 ^ 64 := ⟨by omega, Int.lt_trans z1 (by decide)⟩
        have pm : (0 : Int) < MM := by decide
        -- square
        refine rd_ixL 3 rfl hL rfl (rd_ixL 3 rfl hL rfl ⟨z, z, rfl, rfl, .inl z64, z * z, MM, rfl, rfl, pm, ?_⟩)
        -- draw[3] = ..
        refine ⟨.int (z * z % MM), rfl, z * z % MM, 48271, rfl, rfl, .inr ⟨by decide, by decide⟩, ?_⟩
        refine rd_ixL 3 rfl hL rfl ⟨z, 16807, rfl, rfl, .inr ⟨by decide, by decide⟩, _, _, rfl, rfl, _, 12345, rfl, rfl, _, MM, rfl, rfl, pm, .ref d, rfl, d, _, 3, 3, rfl, rfl, hd, rfl, ?_⟩
        have z' := Int.emod_nonneg (z * z % MM * 48271 + z * 16807 + 12345) (show MM ≠ 0 by decide)
        have z'' := Int.emod_lt_of_pos (z * z % MM * 48271 + z * 16807 + 12345) pm
        have hL2 : SqL K (upd H1 d (.lst [.ref c, .int i, .int b, .int ((z * z % MM * 48271 + z * 16807 + 12345) % MM)])) d [.ref c, .int i, .int b, .int ((z * z % MM * 48271 + z * 16807 + 12345) % MM)] := .inl (.inl upd_same)
        refine rd_ixL 3 rfl hL2 rfl ⟨((z * z % MM * 48271 + z * 16807 + 12345) % MM), 1021, rfl, rfl, wide_div (b := 62) (by decide) (by decide) (by decide) (by decide), .int m, rfl, _, m, rfl, rfl, (by omega : (0 : Int) < m), ?_⟩
        refine q _ _ (Int.emod_nonneg _ (by omega)) (Int.emod_lt_of_pos _ (by omega)) ⟨i, b, ((z * z % MM * 48271 + z * 16807 + 12345) % MM), upd_same, ?_, ncd, i0, b0, z', z''⟩ fun x hx => ?_
        · rw [upd_ne ncd]
          exact hc
        · rw [upd_ne hx]
          exact hb x hx
end
end TT
namespace TT
open PySem PySem.Spec PyProof.Rows L2
section
variable {P : Program} {w : World} {K : PySem.W.Frag} {mg : Str → Option Value} {base : Heap}
theorem ok_of {f : Addr} {fd : FuncData} {k : Nat} (F : Fun K "_law_of" "_law_of" s__law_of f fd) (B : Blt mg) (c__law_take : Cal P w K mg base CX0 "_law_take" ["_law_draw", "_law_many"] k spTake) : FnOk P w K mg base CX0 (k + 1) f fd ["_law_draw", "_law_some"] (spOf K) := by
  refine F.ok sc__law_of (fun vs H Q E h => ?_) (fun cdv A outer s H vs Q E hr h => ?_)
  · obtain ⟨d, a, xs, c, ns, rfl, _⟩ := h
    rfl
  · obtain ⟨d, a, xs, c, ns, rfl, hS, l0, l1, nad, hD, q⟩ := h
    refine ⟨_, (pss_one (ps_ret (pe_ix ix_list (pv 1) (pe_cal c__law_take (hr.mono (by omega)) (by rfl) (pa_cons (pv 0) (pa_cons (pe_callB call_len_seq (by rfl) B.xlen PySem.boot_len (pa_cons (pv 1) pa_nil)) pa_nil))) (fun _ _ => rfl)))), ?_⟩
    refine ⟨.ref a, rfl, .ref d, rfl, .ref a, rfl, a, xs, rfl, .inl hS, d, _, c, ns, rfl, by omega, by omega, hD, fun r H' r0 r1 hD' hk => ?_⟩
    have hx := List.getElem?_eq_getElem (l := xs) (i := r.toNat) (by omega)
    exact ⟨a, xs, r, _, rfl, rfl, (Ext.but hk).seq nad hS, atI_int r0 hx, q _ _ (List.mem_of_getElem? hx) hD' hk⟩
end
end TT
namespace TT
open PySem PySem.Spec PyProof.Rows L2
section
variable {P : Program} {w : World} {K : PySem.W.Frag} {mg : Str → Option Value} {base : Heap}
theorem ok_shuf {f : Addr} {fd : FuncData} {k : Nat} (F : Fun K "_law_shuffled" "_law_shuffled" s__law_shuffled f fd) (B : Blt mg) (c__law_take : Cal P w K mg base CX0 "_law_take" ["_law_draw", "_law_many"] k spTake) : FnOk P w K mg base CX0 (k + 1) f fd ["_law_draw", "_law_some"] (spShuf K) := by
  refine F.ok sc__law_shuffled (fun vs H Q E h => ?_) (fun cdv A outer s H vs Q E hr h => ?_)
  · obtain ⟨d, a, xs, c, ns, rfl, _⟩ := h
    rfl
  · obtain ⟨d, a, xs, c, ns, rfl, hS, l1, nad, hD, q⟩ := h
    refine ⟨_, (pss_cons (ps_set (i := 2) sc__law_shuffled.nd rfl (Or.inl rfl) (pe_lst pa_nil))
  (pss_cons (ps_for PassesOwn.never rfl (pi_list (pv 1)) (pg_name (i := 3) sc__law_shuffled.nd rfl (Or.inl rfl))
    (pss_one (ps_expr (pe_bm PySem.F.plainAttrs_list PySem.F.slot_list_insert PySem.F.type_list_insert mt_insert (pv 2) (pa_cons (pe_cal c__law_take (hr.mono (by omega)) (by rfl) (pa_cons (pv 0) (pa_cons (pe_op op_add (pe_callB call_len_seq (by rfl) B.xlen PySem.boot_len (pa_cons (pv 2) pa_nil)) pe_int) pa_nil))) (pa_cons (pv 3) pa_nil))))))
  (pss_one (ps_ret (pv 2))))), ?_⟩
    refine ⟨Nat.zero_le _, fun o no => ?_⟩
    have s1 : Same H (upd H o (.lst [])) := same_new no
    have nod := hD.ne no
    refine ⟨.ref a, rfl, a, rfl, ⟨_, s1.seq hS⟩, for_list (xs := xs) (fun i σ H3 => ∃ y ys, σ = [some (.ref d), some (.ref a), some (.ref o), y] ∧ Ext d H H3 ∧ Drw c ns H3 d ∧ H3 o = some (.lst ys) ∧ ys.Perm (xs.take i)) ⟨none, [], rfl, .of s1, hD.same s1, upd_same, by simp⟩ ?_ ?_ ?_⟩
    · rintro i σ H3 _ ⟨y, ys, rfl, e, _, _, _⟩
      exact e.seq nad hS
    · rintro i x σ H3 hx ⟨y, ys, rfl, e, hD3, ho, pm⟩
      have hi := (List.getElem?_eq_some_iff.mp hx).1
      have ly : ys.length = i := by rw [pm.length_eq, List.length_take]; omega
      refine ⟨.ref o, rfl, .inl ⟨rfl, _, SqL.of ho⟩, .ref d, rfl, .ref o, rfl, o, ys, rfl, .inl (SqL.of ho), _, 1, rfl, rfl, d, _, c, ns, rfl, by omega, by omega, hD3, fun r H4 r0 r1 hD4 hk => ?_⟩
      have ho4 : H4 o = some (.lst ys) := by rw [hk o nod]; exact ho
      refine ⟨x, rfl, o, ys, r, x, rfl, rfl, ho4, szl (by omega), r0, by omega, ⟨some x, _, rfl, Ext.put (e.trans (.but hk)) no, hD4.put hD no, upd_same, ?_⟩⟩
      · rw [List.take_add_one, hx]
        refine List.Perm.trans ?_ (List.Perm.append_right _ pm)
        have e1 : ys.Perm (ys.take r.toNat ++ ys.drop r.toNat) := by rw [List.take_append_drop]
        have e2 : (ys.take r.toNat ++ [x] ++ ys.drop r.toNat).Perm (ys.take r.toNat ++ ys.drop r.toNat ++ [x]) := by
          rw [List.append_assoc, List.append_assoc]
          exact List.Perm.append_left _ List.perm_append_comm
        exact e2.trans (List.Perm.append_right _ e1.symm)
    · rintro σ H3 ⟨y, ys, rfl, e, hD3, ho, pm⟩
      rw [List.take_length] at pm
      exact ⟨.ref o, rfl, q ys o H3 pm e hD3 no ho⟩
end
end TT
namespace TT
open PySem PySem.Spec PyProof.Rows L2
section
variable {P : Program} {w : World} {K : PySem.W.Frag} {mg : Str → Option Value} {base : Heap}
theorem ok_keys {f : Addr} {fd : FuncData} {k : Nat} (F : Fun K "_law_keys" "_law_keys" s__law_keys f fd) (B : Blt mg) (c__law_take : Cal P w K mg base CX0 "_law_take" ["_law_draw", "_law_many"] k spTake)
    (c__law_of : Cal P w K mg base CX0 "_law_of" ["_law_draw", "_law_some"] k (spOf K)) : FnOk P w K mg base CX0 (k + 1) f fd ["_law_draw", "_law_many"] spKeys := by
  refine F.ok sc__law_keys (fun vs H Q E h => ?_) (fun cdv A outer s H vs Q E hr h => ?_)
  · obtain ⟨d, m, c, ns, rfl, _⟩ := h
    rfl
  · obtain ⟨d, m, c, ns, rfl, m0, m1, hD, q⟩ := h
    refine ⟨_, (pss_cons (ps_set (i := 2) sc__law_keys.nd rfl (Or.inl rfl) (pe_cal c__law_of (hr.mono (by omega)) (by rfl) (pa_cons (pv 0) (pa_cons (pe_lst (pa_cons (pe_op op_sub pe_int pe_int) (pa_cons pe_int (pa_cons (pe_op op_sub pe_int (pe_op op_pow pe_int pe_int)) (pa_cons (pe_op op_sub (pe_op op_pow pe_int pe_int) pe_int) (pa_cons (pe_cal c__law_take (hr.mono (by omega)) (by rfl) (pa_cons (pv 0) (pa_cons (pe_op op_pow pe_int pe_int) pa_nil))) pa_nil)))))) pa_nil))))
  (pss_cons (ps_par (i := 3) (j := 4) rfl sc__law_keys.nd rfl rfl (by decide) rfl rfl (pa_cons (pe_cal c__law_of (hr.mono (by omega)) (by rfl) (pa_cons (pv 0) (pa_cons (pe_lst (pa_cons pe_int (pa_cons pe_int (pa_cons pe_int (pa_cons pe_int pa_nil))))) pa_nil))) (pa_cons (pe_lst pa_nil) pa_nil)) rfl)
  (pss_cons (ps_for PassesOwn.never rfl (pi_range1 (by rfl) B.xrange (pa_cons (pv 1) pa_nil)) (pg_name (i := 5) sc__law_keys.nd rfl (Or.inl rfl))
    (pss_cons (ps_expr (pe_bm PySem.F.plainAttrs_list PySem.F.slot_list_append PySem.F.type_list_append mt_append (pv 4) (pa_cons (pv 2) pa_nil)))
  (pss_one (ps_set (i := 2) sc__law_keys.nd rfl (Or.inl rfl) (pe_op op_add (pe_op op_add (pv 2) pe_int) (pe_cal c__law_take (hr.mono (by omega)) (by rfl) (pa_cons (pv 0) (pa_cons (pv 3) pa_nil))))))))
  (pss_one (ps_ret (pv 4)))))), ?_⟩
    refine ⟨.ref d, rfl, 0, 5, rfl, rfl, 10, 9, rfl, rfl, cpow (by decide) (by decide) (by decide), 0, _, rfl, rfl, 10, 9, rfl, rfl, cpow (by decide) (by decide) (by decide), _, 50000, rfl, rfl, .ref d, rfl, 10, 6, rfl, rfl, cpow (by decide) (by decide) (by decide), d, _, c, ns, rfl, by decide, by decide, hD, fun r H1 r0 r1 hD1 hk1 => ?_⟩
    refine ⟨sz (by show 5 ≤ 100000; decide), fun p np => ⟨d, p, _, c, ns, rfl, SqL.of upd_same, by show 0 < 5; decide, by show 5 ≤ 100000; decide, hD1.ne np, hD1.new np, fun x H2 hx hD2 hk2 => ?_⟩⟩
    have e2 : Ext d H H2 := (Ext.but hk1).trans ((Ext.of (same_new np)).trans (Ext.but hk2))
    obtain ⟨k0, rfl, b0, b1⟩ : ∃ k0, x = .int k0 ∧ -1000000000 ≤ k0 ∧ k0 ≤ 999950000 := by
      simp only [List.mem_cons, List.not_mem_nil, or_false] at hx
      have r2 : r < 1000000 := r1
      rcases hx with rfl | rfl | rfl | rfl | rfl
      · exact ⟨_, rfl, by decide, by decide⟩
      · exact ⟨_, rfl, by decide, by decide⟩
      · exact ⟨_, rfl, by decide, by decide⟩
      · exact ⟨_, rfl, by decide, by decide⟩
      · exact ⟨_, rfl, by omega, by omega⟩
    refine ⟨.ref d, rfl, sz (by show 4 ≤ 100000; decide), fun p2 np2 => ⟨d, p2, _, c, ns, rfl, SqL.of upd_same, by show 0 < 4; decide, by show 4 ≤ 100000; decide, hD2.ne np2, hD2.new np2, fun x H3 hx hD3 hk3 => ?_⟩⟩
    have e3 : Ext d H H3 := e2.trans ((Ext.of (same_new np2)).trans (Ext.but hk3))
    obtain ⟨wd, rfl, w0, w1⟩ : ∃ wd, x = .int wd ∧ 1 ≤ wd ∧ wd ≤ 1000 := by
      simp only [List.mem_cons, List.not_mem_nil, or_false] at hx
      rcases hx with rfl | rfl | rfl | rfl <;> exact ⟨_, rfl, by decide, by decide⟩
    refine ⟨Nat.zero_le _, fun o no => ⟨.int wd, .ref o, rfl, ?_⟩⟩
    have nod := hD3.ne no
    obtain ⟨ob, hob⟩ := hD.at
    obtain ⟨ob3, hob3⟩ := hD3.at
    have noH : H o = none := e3.free hob hob3 no
    refine ⟨.int m, rfl, m, rfl, by omega, by omega, for_range (n := m.toNat) (fun i σ H4 => ∃ key ks y, σ = [some (.ref d), some (.int m), some (.int key), some (.int wd), some (.ref o), y] ∧ ks.length = i ∧ ks.Pairwise (· < ·) ∧ (∀ j ∈ ks, -1000000000 ≤ j ∧ j < key) ∧ -1000000000 ≤ key ∧ key ≤ k0 + 1000 * i ∧ Ext d H H4 ∧ Drw c ns H4 d ∧ H4 o = some (.lst (ks.map V.int)))
      ⟨k0, [], none, rfl, rfl, List.Pairwise.nil, fun _ h => (by cases h), b0, by omega, e3.put noH, hD3.new no, upd_same⟩ ?_ ?_⟩
    · rintro i σ H4 hi ⟨key, ks, y, rfl, lk, pw, bd, kb0, kb1, e4, hD4, ho4⟩
      -- found.append(key)
      refine ⟨.ref o, rfl, .inl ⟨rfl, _, SqL.of ho4⟩, .int key, rfl, o, _, _, rfl, rfl, ho4, szl (by rw [List.length_map]; omega), ?_⟩
      -- key = key + 1 + take(draw, wide)
      refine ⟨.int key, rfl, key, 1, rfl, rfl, .ref d, rfl, .int wd, rfl, d, wd, c, ns, rfl, w0, by omega, hD4.put hD noH, fun r H5 r0 r1 hD5 hk5 => ⟨_, r, rfl, rfl, ?_⟩⟩
      refine ⟨key + 1 + r, ks ++ [key], _, rfl, by rw [List.length_append, lk]; rfl, ?_, ?_, by omega, by omega, (e4.put noH).trans (.but hk5), hD5, ?_⟩
      · rw [List.pairwise_append]
        refine ⟨pw, List.pairwise_singleton _ _, fun a ha b hb => ?_⟩
        rw [List.mem_singleton.mp hb]
        exact (bd a ha).2
      · intro j hj
        rcases List.mem_append.mp hj with h | h
        · have := bd j h; omega
        · rw [List.mem_singleton.mp h]; omega
      · rw [hk5 o nod, upd_same, List.map_append]; rfl
    · rintro σ H4 ⟨key, ks, y, rfl, lk, pw, bd, kb0, kb1, e4, hD4, ho4⟩
      exact ⟨.ref o, rfl, q ks o H4 (by omega) ⟨pw, fun j hj => by have := bd j hj; omega⟩ e4 hD4 noH ho4⟩
end
end TT
namespace TT
open PySem PySem.Spec PyProof.Rows L2
section
variable {P : Program} {w : World} {K : PySem.W.Frag} {mg : Str → Option Value} {base : Heap}
theorem ok_size {f : Addr} {fd : FuncData} {k : Nat} (F : Fun K "_law_size" "_law_size" s__law_size f fd) (B : Blt mg) (c__law_take : Cal P w K mg base CX0 "_law_take" ["_law_draw", "_law_many"] k spTake)
    (c__law_of : Cal P w K mg base CX0 "_law_of" ["_law_draw", "_law_some"] k (spOf K)) : FnOk P w K mg base CX0 (k + 1) f fd ["_law_draw", "_law_most"] spSize := by
  refine F.ok sc__law_size (fun vs H Q E h => ?_) (fun cdv A outer s H vs Q E hr h => ?_)
  · obtain ⟨d, m, c, ns, rfl, _⟩ := h
    rfl
  · obtain ⟨d, m, c, ns, rfl, m0, m1, hD, q⟩ := h
    refine ⟨_, (pss_one (ps_ret (pe_cal c__law_of (hr.mono (by omega)) (by rfl) (pa_cons (pv 0) (pa_cons (pe_lst (pa_cons (pe_cal c__law_take (hr.mono (by omega)) (by rfl) (pa_cons (pv 0) (pa_cons (pe_op op_add (pv 1) pe_int) pa_nil))) (pa_cons (pe_callB (call_min2 rfl) (by rfl) B.xmin (by decide +kernel) (pa_cons (pv 1) (pa_cons (pe_cal c__law_take (hr.mono (by omega)) (by rfl) (pa_cons (pv 0) (pa_cons pe_int pa_nil))) pa_nil))) (pa_cons (pe_callB (call_min2 rfl) (by rfl) B.xmin (by decide +kernel) (pa_cons (pv 1) (pa_cons pe_int pa_nil))) pa_nil)))) pa_nil))))), ?_⟩
    refine ⟨.ref d, rfl, .ref d, rfl, .int m, rfl, m, 1, rfl, rfl, d, _, c, ns, rfl, by omega, by omega, hD, fun r H1 r0 r1 hD1 hk1 => ?_⟩
    refine ⟨.int m, rfl, .ref d, rfl, d, _, c, ns, rfl, by omega, by omega, hD1, fun u H2 u0 u1 hD2 hk2 => ⟨m, u, rfl, .int m, rfl, m, 3, rfl, sz (by show 3 ≤ 100000; decide), fun p np => ?_⟩⟩
    refine ⟨d, p, _, c, ns, rfl, SqL.of upd_same, by show 0 < 3; decide, by show 3 ≤ 100000; decide, hD2.ne np, hD2.new np, fun x H3 hx hD3 hk3 => ?_⟩
    have e3 : Ext d H H3 := (Ext.but hk1).trans ((Ext.but hk2).trans ((Ext.of (same_new np)).trans (Ext.but hk3)))
    simp only [List.mem_cons, List.not_mem_nil, or_false] at hx
    rcases hx with rfl | rfl | rfl
    · exact q _ _ r0 (by omega) e3 hD3
    · refine q _ _ ?_ ?_ e3 hD3 <;> split <;> omega
    · refine q _ _ ?_ ?_ e3 hD3 <;> split <;> omega
end
end TT
namespace TT
open PySem PySem.Spec PyProof.Rows L2
section
variable {P : Program} {w : World} {K : PySem.W.Frag} {mg : Str → Option Value} {base : Heap}
theorem ok_empty {f : Addr} {fd : FuncData} {k : Nat} (F : Fun K "_law_empty" "_law_empty" s__law_empty f fd) : FnOk P w K mg base CX0 (k + 1) f fd [] spEmpty := by
  refine F.ok sc__law_empty (fun vs H Q E h => ?_) (fun cdv A outer s H vs Q E hr h => ?_)
  · obtain ⟨rfl, _⟩ := h
    rfl
  · obtain ⟨rfl, q⟩ := h
    refine ⟨_, (pss_one (ps_ret (pe_disp (pps_cons pe_str pe_non (pps_cons pe_str pe_dnewK (pps_cons pe_str pe_dnewK (pps_cons pe_str pe_dnewK pps_nil)))) (by rfl) (by rfl) (fun z => by cases z) (by decide)))), ?_⟩
    intro m nm L nL R nR U nU
    have s1 := same_new (o := .dK []) nm
    have s2 := same_new (o := .dK []) nL
    have s3 := same_new (o := .dK []) nR
    have s4 := same_new (o := .dK []) nU
    have hm := s4 _ _ (s3 _ _ (s2 _ _ (upd_same (H := H) (a := m) (o := .dK []))))
    have hL := s4 _ _ (s3 _ _ (upd_same (H := upd H m (.dK [])) (a := L) (o := .dK [])))
    have hR := s4 _ _ (upd_same (H := upd (upd H m (.dK [])) L (.dK [])) (a := R) (o := .dK []))
    have hU := upd_same (H := upd (upd (upd H m (.dK [])) L (.dK [])) R (.dK [])) (a := U) (o := .dK [])
    have mL : m ≠ L := ne_of_none upd_same nL
    have mR : m ≠ R := ne_of_none (s2 _ _ upd_same) nR
    have mU : m ≠ U := ne_of_none (s3 _ _ (s2 _ _ upd_same)) nU
    have LR : L ≠ R := ne_of_none upd_same nR
    have LU : L ≠ U := ne_of_none (s3 _ _ upd_same) nU
    have RU : R ≠ U := ne_of_none upd_same nU
    refine ⟨hm, nodK none L R U, rfl, by show 4 ≤ 15; decide, ?_⟩
    refine q m L R U _ ?_ nm (s1.free nL) (s1.free (s2.free nR)) (s1.free (s2.free (s3.free nU))) ⟨upd_same, ⟨[], ?_, .nil⟩, ⟨[], ?_, .nil⟩, ⟨[], ?_, .nil⟩, mL, mR, mU, LR, LU, RU⟩
    · exact Same.put (s1.trans (s2.trans (s3.trans s4))) nm
    · rw [upd_ne mL.symm]; exact hL
    · rw [upd_ne mR.symm]; exact hR
    · rw [upd_ne mU.symm]; exact hU
end
end TT
namespace TT
open PySem PySem.Spec PyProof.Rows L2
section
variable {P : Program} {w : World} {K : PySem.W.Frag} {mg : Str → Option Value} {base : Heap}
theorem ok_place {f : Addr} {fd : FuncData} {k : Nat} (F : Fun K "_law_place" "_law_place" s__law_place f fd) (B : Blt mg) : FnOk P w K mg base CX0 (k + 1) f fd ["_law_m", "_law_key"] spPlace := by
  refine F.ok sc__law_place (fun vs H Q E h => ?_) (fun cdv A outer s H vs Q E hr h => ?_)
  · obtain ⟨m, key, L, R, U, t, n, rfl, _⟩ := h
    rfl
  · obtain ⟨m, key, L, R, U, t, n, rfl, hT, hb, hk, hl, hn, q⟩ := h
    have hu := hu_of hr
    refine ⟨_, (pss_cons (ps_par (i := 2) (j := 3) rfl sc__law_place.nd rfl rfl (by decide) rfl rfl (pa_cons (pe_dget hu (pv 0) pe_str (fun _ _ => rfl)) (pa_cons pe_int pa_nil)) rfl)
  (C8.pss_cut (ps_if (pt_cmp (pc_isN (pv 2)))
    (pss_one (ps_dput hu (pv 0) pe_str (pv 1) rfl))
    pss_nil)
  (pss_cons (ps_for PassesOwn.never rfl (pi_range1 (by rfl) B.xrange (pa_cons pe_int pa_nil)) (pg_name (i := 4) sc__law_place.nd rfl (Or.inl rfl))
    (pss_one (ps_if (pt_cmp (pc_notN (pv 2)))
    (pss_cons (ps_par (i := 5) (j := 3) rfl sc__law_place.nd rfl rfl (by decide) rfl rfl (pa_cons (pe_dget hu (pv 0) (pe_ifExp (pt_cmpR op_lt (pv 1) (pv 2) (nomark _)) pe_str pe_str) (fun _ _ => rfl)) (pa_cons (pe_op op_add (pv 3) pe_int) pa_nil)) rfl)
  (pss_one (ps_if (pt_cmp (pc_dnotin hu (pv 2) (pv 5)))
    (pss_cons (ps_dput hu (pv 5) (pv 2) (pv 1) rfl)
  (pss_cons (ps_dput hu (pe_dget hu (pv 0) pe_str (fun _ _ => rfl)) (pv 1) (pv 2) rfl)
  (pss_one (ps_set (i := 2) sc__law_place.nd rfl (Or.inl rfl) pe_non))))
    (pss_one (ps_set (i := 2) sc__law_place.nd rfl (Or.inl rfl) (pe_dget hu (pv 5) (pv 2) (fun _ _ => rfl)))))))
    pss_nil)))
  (pss_one (ps_ret (pv 3)))))), ?_⟩
    refine rd_dS "root" rfl hT.hm nod_root ⟨oV t.rt, .int 0, rfl, ?_⟩
    -- the word of the loop
    let Pv : Nat → L2.St → Hp → Prop := fun i σ H3 =>
      (∃ l x r y4 y5, σ = [some (.ref m), some (.int key), some (.int x), some (.int i), y4, y5] ∧ H3 = H ∧ Sub (T.node l x r) t ∧ (T.node l x r).bst ∧ t.spot key = (T.node l x r).spot key ∧ t.dIns key = i + (T.node l x r).dIns key) ∨
      (∃ y4 y5, σ = [some (.ref m), some (.int key), some .non, some (.int (t.dIns key)), y4, y5] ∧ TrAt H3 m L R U (t.ins key) (n + 1) ∧ ∀ b, b ≠ m → b ≠ L → b ≠ R → b ≠ U → H3 b = H b)
    refine ⟨Pv 0, ?_, ?_⟩
    · cases t with
      | leaf =>
        refine ⟨.non, rfl, _, rfl, iteTd rfl ?_⟩
        refine ⟨.int key, rfl, .ref m, rfl, m, _, rfl, DPut.k (k := Sum.inr "root") hT.hm (szl (by show 4 < 100000; decide)), .inr ⟨none, none, rfl, ?_, fun b h1 _ _ _ => upd_ne h1⟩⟩
        obtain ⟨lk, h1, h2⟩ := hT.l
        obtain ⟨rk, h3, h4⟩ := hT.r
        obtain ⟨uk, h5, h6⟩ := hT.u
        refine ⟨upd_same, ⟨lk, by rw [upd_ne hT.mL.symm]; exact h1, h2.eq (fun z => lc_one.symm) (Nat.le_succ _)⟩, ⟨rk, by rw [upd_ne hT.mR.symm]; exact h3, h4.eq (fun z => rc_one.symm) (Nat.le_succ _)⟩, ⟨uk, by rw [upd_ne hT.mU.symm]; exact h5, h6.eq (fun z => up_one.symm) (Nat.le_succ _)⟩, hT.mL, hT.mR, hT.mU, hT.LR, hT.LU, hT.RU⟩
      | node l x r =>
        refine ⟨.int x, rfl, _, rfl, iteFd rfl ?_⟩
        exact .inl ⟨l, x, r, none, none, rfl, rfl, Sub.refl _, hb, rfl, by omega⟩
    · intro σ H1 h0
      refine ⟨60, rfl, by decide, by decide, for_range (n := 60) Pv h0 ?_ ?_⟩
      · intro i σ H3 hi hP
        rcases hP with ⟨l, x, r, y4, y5, rfl, rfl, hS, hbs, hsp, hdi⟩ | ⟨y4, y5, rfl, hT3, hf⟩
        · obtain ⟨lk, h1, h2⟩ := hT.l
          obtain ⟨rk, h3, h4⟩ := hT.r
          obtain ⟨uk, h5, h6⟩ := hT.u
          obtain ⟨t1, t2⟩ := hS.top
          rw [spot_node] at hsp
          have hdi2 : t.dIns key = i + ((if key < x then l.dIns key else r.dIns key) + 1) := hdi
          refine ⟨.int x, rfl, _, rfl, iteTd rfl ?_⟩
          refine ⟨.ref m, rfl, .int key, rfl, .int x, rfl, key, x, rfl, rfl, _, rfl, ite2 (fun e => ?_) (fun e => ?_)⟩
          · have lt : key < x := of_decide_eq_true e
            rw [if_pos lt] at hsp hdi2
            refine ⟨m, .ref L, rfl, dg_s "left" hT.hm nod_left, .int i, rfl, i, 1, rfl, rfl, .ref L, .int (i + 1), rfl, ?_⟩
            refine ⟨.int x, rfl, .ref L, rfl, L, _, rfl, dg_in h1 h2, _, rfl, ?_⟩
            rw [t1]
            cases l with
            | leaf =>
              rw [if_pos (show T.leaf.rt = none from rfl)] at hsp
              refine iteTd rfl ?_
              refine ⟨.int key, rfl, .ref L, rfl, .int x, rfl, L, _, rfl, dp_in h1 h2 (by omega), ?_⟩
              refine ⟨.int x, rfl, rd_dS "up" rfl (by rw [upd_ne hT.mL]; exact hT.hm) nod_up ⟨.int key, rfl, U, _, rfl, dp_in (by rw [upd_ne hT.LU.symm]; exact h5) h6 (by omega), ?_⟩⟩
              refine .inr ⟨some (.int (0 + i)), some (.ref L), ?_, hT.insL hb hk hsp h2 h6, fun b b1 b2 b3 b4 => by rw [upd_ne b4, upd_ne b2]⟩
              rw [hdi2]; rfl
            | node l1 x1 r1 =>
              rw [if_neg (show ¬ (T.node l1 x1 r1).rt = none from fun z => by cases z)] at hsp
              refine iteFd rfl ?_
              refine ⟨.ref L, rfl, .int x, rfl, L, .int x1, rfl, ?_, .inl ⟨l1, x1, r1, _, _, rfl, rfl, hS.l hbs, hbs.2.2.1, hsp, by omega⟩⟩
              have := dg_in (x := x) h1 h2
              rwa [t1] at this
          · have ge : ¬ key < x := fun z => e (decide_eq_true z)
            rw [if_neg ge] at hsp hdi2
            refine ⟨m, .ref R, rfl, dg_s "right" hT.hm nod_right, .int i, rfl, i, 1, rfl, rfl, .ref R, .int (i + 1), rfl, ?_⟩
            refine ⟨.int x, rfl, .ref R, rfl, R, _, rfl, dg_in h3 h4, _, rfl, ?_⟩
            rw [t2]
            cases r with
            | leaf =>
              rw [if_pos (show T.leaf.rt = none from rfl)] at hsp
              refine iteTd rfl ?_
              refine ⟨.int key, rfl, .ref R, rfl, .int x, rfl, R, _, rfl, dp_in h3 h4 (by omega), ?_⟩
              refine ⟨.int x, rfl, rd_dS "up" rfl (by rw [upd_ne hT.mR]; exact hT.hm) nod_up ⟨.int key, rfl, U, _, rfl, dp_in (by rw [upd_ne hT.RU.symm]; exact h5) h6 (by omega), ?_⟩⟩
              refine .inr ⟨some (.int (0 + i)), some (.ref R), ?_, hT.insR hb hk hsp h4 h6, fun b b1 b2 b3 b4 => by rw [upd_ne b4, upd_ne b3]⟩
              rw [hdi2]; rfl
            | node l1 x1 r1 =>
              rw [if_neg (show ¬ (T.node l1 x1 r1).rt = none from fun z => by cases z)] at hsp
              refine iteFd rfl ?_
              refine ⟨.ref R, rfl, .int x, rfl, R, .int x1, rfl, ?_, .inl ⟨l1, x1, r1, _, _, rfl, rfl, hS.r hbs, hbs.2.2.2, hsp, by omega⟩⟩
              have := dg_in (x := x) h3 h4
              rwa [t2] at this
        · refine ⟨.non, rfl, _, rfl, iteFd rfl (.inr ⟨_, _, rfl, hT3, hf⟩)⟩
      · intro σ H3 hP
        rcases hP with ⟨l, x, r, y4, y5, rfl, rfl, hS, hbs, hsp, hdi⟩ | ⟨y4, y5, rfl, hT3, hf⟩
        · have := dIns_le (key := key) (t := t)
          omega
        · exact ⟨_, rfl, q H3 hT3 hf⟩
end
end TT
namespace TT
open PySem PySem.Spec PyProof.Rows L2
section
variable {P : Program} {w : World} {K : PySem.W.Frag} {mg : Str → Option Value} {base : Heap}
theorem ok_tree {f : Addr} {fd : FuncData} {k : Nat} (F : Fun K "_law_tree" "_law_tree" s__law_tree f fd) (c__law_empty : Cal P w K mg base CX0 "_law_empty" [] k spEmpty) (c__law_place : Cal P w K mg base CX0 "_law_place" ["_law_m", "_law_key"] k spPlace) : FnOk P w K mg base CX0 (k + 1) f fd ["_law_order"] (spTree K) := by
  refine F.ok sc__law_tree (fun vs H Q E h => ?_) (fun cdv A outer s H vs Q E hr h => ?_)
  · obtain ⟨a, ks, rfl, _⟩ := h
    rfl
  · obtain ⟨a, ks, rfl, hS, nd, hl, q⟩ := h
    have turn : ∀ (m L R U : Addr) (H1 : Hp), Same H H1 → H m = none → H L = none → H R = none → H U = none → ∀ i x H3, (ks.map V.int)[i]? = some x → Same H H3 → TrAt H3 m L R U (T.insAll (ks.take i) T.leaf) i →
        spPlace [.ref m, x] H3 (fun _ H4 => Same H H4 ∧ TrAt H4 m L R U (T.insAll (ks.take (i + 1)) T.leaf) (i + 1)) E0 := by
      intro m L R U H1 e1 nm nL nR nU i x H3 hx e3 hT
      rw [List.getElem?_map] at hx
      obtain ⟨key, hk, rfl⟩ := Option.map_eq_some_iff.mp hx
      have hi := (List.getElem?_eq_some_iff.mp hk).1
      have lt : (T.insAll (ks.take i) T.leaf).pre.length = i := by
        rw [len_insAll, List.length_take]
        show 0 + _ = _
        omega
      refine ⟨m, key, L, R, U, T.insAll (ks.take i) T.leaf, i, rfl, hT, bst_insAll trivial (nd.sublist (List.take_sublist _ _)) (fun _ _ h => by cases h), ?_, by omega, by omega, fun H' hT' hf => ⟨fun b o hb => ?_, ?_⟩⟩
      · intro hm
        rcases mem_insAll.mp hm with h | h
        · obtain ⟨j, hj, e⟩ := List.mem_take_iff_getElem.mp h
          have hj2 : j < ks.length := by omega
          have h1 : ks[j]? = some key := by rw [List.getElem?_eq_getElem hj2]; exact congrArg some e
          have := (List.getElem?_inj hj2 nd).mp (h1.trans hk.symm)
          omega
        · cases h
      · rw [hf b (ne_of_none hb nm) (ne_of_none hb nL) (ne_of_none hb nR) (ne_of_none hb nU)]
        exact e3 b o hb
      · rw [insAll_take_succ hk]
        exact hT'
    rcases hS with hS | hS
    · refine ⟨_, (pss_cons (ps_set (i := 1) sc__law_tree.nd rfl (Or.inl rfl) (pe_cal0 c__law_empty (hr.mono (by omega)) (by rfl)))
  (pss_cons (ps_for PassesOwn.never rfl (pi_list (pv 0)) (pg_name (i := 2) sc__law_tree.nd rfl (Or.inl rfl))
    (pss_one (ps_expr (pe_cal c__law_place (hr.mono (by omega)) (by rfl) (pa_cons (pv 1) (pa_cons (pv 2) pa_nil))))))
  (pss_one (ps_ret (pv 1))))), ?_⟩
      refine ⟨rfl, fun m L R U H1 e1 nm nL nR nU hN => ?_⟩
      refine ⟨.ref a, rfl, a, rfl, ⟨_, e1.seq hS⟩, for_list (xs := ks.map V.int) (fun i σ H3 => ∃ y, σ = [some (.ref a), some (.ref m), y] ∧ Same H H3 ∧ TrAt H3 m L R U (T.insAll (ks.take i) T.leaf) i) ⟨none, rfl, e1, hN⟩ ?_ ?_ ?_⟩
      · rintro i σ H3 _ ⟨y, rfl, e3, _⟩
        exact e3.seq hS
      · rintro i x σ H3 hx ⟨y, rfl, e3, hT⟩
        refine ⟨.ref m, rfl, x, rfl, ?_⟩
        obtain ⟨m', key, L', R', U', t, n, e, h1, h2, h3, h4, h5, h6⟩ := turn m L R U H1 e1 nm nL nR nU i x H3 hx e3 hT
        exact ⟨m', key, L', R', U', t, n, e, h1, h2, h3, h4, h5, fun H' a1 a2 => ⟨some x, rfl, (h6 H' a1 a2)⟩⟩
      · rintro σ H3 ⟨y, rfl, e3, hT⟩
        rw [List.length_map, List.take_length] at hT
        exact ⟨.ref m, rfl, q m L R U H3 e3 nm nL nR nU hT⟩
    · refine ⟨_, (pss_cons (ps_set (i := 1) sc__law_tree.nd rfl (Or.inl rfl) (pe_cal0 c__law_empty (hr.mono (by omega)) (by rfl)))
  (pss_cons (ps_for PassesOwn.never rfl (pi_tup (pv 0)) (pg_name (i := 2) sc__law_tree.nd rfl (Or.inl rfl))
    (pss_one (ps_expr (pe_cal c__law_place (hr.mono (by omega)) (by rfl) (pa_cons (pv 1) (pa_cons (pv 2) pa_nil))))))
  (pss_one (ps_ret (pv 1))))), ?_⟩
      refine ⟨rfl, fun m L R U H1 e1 nm nL nR nU hN => ?_⟩
      refine ⟨.ref a, rfl, a, rfl, ⟨_, Same.tup e1 hS⟩, for_tup (xs := ks.map V.int) (fun i σ H3 => ∃ y, σ = [some (.ref a), some (.ref m), y] ∧ Same H H3 ∧ TrAt H3 m L R U (T.insAll (ks.take i) T.leaf) i) ⟨none, rfl, e1, hN⟩ ?_ ?_ ?_⟩
      · rintro i σ H3 _ ⟨y, rfl, e3, _⟩
        exact Same.tup e3 hS
      · rintro i x σ H3 hx ⟨y, rfl, e3, hT⟩
        refine ⟨.ref m, rfl, x, rfl, ?_⟩
        obtain ⟨m', key, L', R', U', t, n, e, h1, h2, h3, h4, h5, h6⟩ := turn m L R U H1 e1 nm nL nR nU i x H3 hx e3 hT
        exact ⟨m', key, L', R', U', t, n, e, h1, h2, h3, h4, h5, fun H' a1 a2 => ⟨some x, rfl, (h6 H' a1 a2)⟩⟩
      · rintro σ H3 ⟨y, rfl, e3, hT⟩
        rw [List.length_map, List.take_length] at hT
        exact ⟨.ref m, rfl, q m L R U H3 e3 nm nL nR nU hT⟩
end
end TT
namespace TT
open PySem PySem.Spec PyProof.Rows L2
section
variable {P : Program} {w : World} {K : PySem.W.Frag} {mg : Str → Option Value} {base : Heap}
theorem ok_shape {f : Addr} {fd : FuncData} {k : Nat} (F : Fun K "_law_shape" "_law_shape" s__law_shape f fd) (B : Blt mg) : FnOk P w K mg base CX0 (k + 1) f fd ["_law_m"] spShape := by
  refine F.ok sc__law_shape (fun vs H Q E h => ?_) (fun cdv A outer s H vs Q E hr h => ?_)
  · obtain ⟨m, L, R, U, t, uf, n, rfl, _⟩ := h
    rfl
  · obtain ⟨m, L, R, U, t, uf, n, rfl, hN, hb, hl, q⟩ := h
    have hu := hu_of hr
    refine ⟨_, (C8.pss_cut (ps_par (i := 1) (j := 2) rfl sc__law_shape.nd rfl rfl (by decide) rfl rfl (pa_cons (pe_lst pa_nil) (pa_cons (pe_ifExp (pt_cmp (pc_notN (pe_dget hu (pv 0) pe_str (fun _ _ => rfl)))) (pe_lst (pa_cons (pe_dget hu (pv 0) pe_str (fun _ _ => rfl)) pa_nil)) (pe_lst pa_nil)) pa_nil)) rfl)
  (pss_cons (ps_while PassesOwn.never (pt_cmpR (op_neD hr.units) (pv 2) (pe_lst pa_nil) (nomark _))
    (pss_cons (ps_set (i := 3) sc__law_shape.nd rfl (Or.inr rfl) (pe_bm0 PySem.F.plainAttrs_list PySem.F.slot_list_pop PySem.F.type_list_pop mt_pop (pv 2)))
  (pss_cons (ps_expr (pe_bm PySem.F.plainAttrs_list PySem.F.slot_list_append PySem.F.type_list_append mt_append (pv 1) (pa_cons (pv 3) pa_nil)))
  (pss_one (ps_set (i := 2) sc__law_shape.nd rfl (Or.inl rfl) (pe_op op_cat (pv 2) (pe_lc (own := [("_law_side", 4)]) (g := gName 4) (by rfl) sc__law_shape.nd (pi_tup (pe_tup (pa_cons (pe_dget hu (pv 0) pe_str (fun _ _ => rfl)) (pa_cons (pe_dget hu (pv 0) pe_str (fun _ _ => rfl)) pa_nil)))) (blkOk_by (own := [("_law_side", 4)]) (N := ["_law_m", "_law_found", "_law_line", "_law_key", "_law_side"]) (sc := defScope s__law_shape) (by decide +kernel)) (fun _ _ _ _ _ => (pg_name (i := 4) sc__law_shape.nd rfl (Or.inl rfl))) (fun _ _ _ _ _ => (pts_one (pt_cmp (pc_din hu (pv 3) (pv 4))))) (fun _ _ _ _ _ => (pe_dget hu (pv 4) (pv 3) (fun _ _ => rfl))))))))))
  (pss_one (ps_ret (pe_callTy call_tuple_of (by rfl) B.xtuple (by decide +kernel) (pa_cons (pv 1) pa_nil)))))), ?_⟩
    -- found, line = [], [root] or []
    refine ⟨fun σ H3 => ∃ fo l, σ = [some (.ref m), some (.ref fo), some (.ref l), none, none] ∧ Same H H3 ∧ H fo = none ∧ H l = none ∧ fo ≠ l ∧ H3 fo = some (.lst []) ∧ H3 l = some (.lst ((roots (kid t)).map V.int)), ?_, ?_⟩
    · refine ⟨Nat.zero_le _, fun fo nfo => ?_⟩
      have s1 : Same H (upd H fo (.lst [])) := same_new nfo
      refine rd_dS "root" rfl (s1 _ _ hN.hm) nod_root ⟨_, rfl, ?_⟩
      cases t with
      | leaf =>
        refine iteFd rfl ⟨Nat.zero_le _, fun l nl => ⟨_, _, rfl, fo, l, rfl, s1.trans (same_new nl), nfo, s1.free nl, ne_of_none upd_same nl, same_new nl _ _ upd_same, upd_same⟩⟩
      | node tl x tr =>
        refine iteTd rfl (rd_dS "root" rfl (s1 _ _ hN.hm) nod_root ⟨sz (by show 1 ≤ 100000; decide), fun l nl => ⟨_, _, rfl, fo, l, rfl, s1.trans (same_new nl), nfo, s1.free nl, ne_of_none upd_same nl, same_new nl _ _ upd_same, upd_same⟩⟩)
    · rintro σ H1 ⟨fo, l0, rfl, e1, nfo, nl0, nfl, hfo, hl0⟩
      obtain ⟨lk, g1, g2⟩ := hN.l
      obtain ⟨rk, g3, g4⟩ := hN.r
      let W : Nat → L2.St → Hp → Prop := fun m' σ H3 => ∃ ts ks l y3 y4, σ = [some (.ref m), some (.ref fo), some (.ref l), y3, y4] ∧ Same H H3 ∧ H l = none ∧ fo ≠ l ∧ H3 fo = some (.lst (ks.map V.int)) ∧ H3 l = some (.lst ((roots ts).map V.int)) ∧ ks ++ pres ts = t.pre ∧ (∀ n ∈ ts, Sub (ndT n) t ∧ (ndT n).bst) ∧ m' = (pres ts).length
      refine ⟨W, ⟨_, kid t, [], l0, none, none, rfl, e1, nl0, nfl, hfo, hl0, pres_kid t, ?_, rfl⟩, ?_⟩
      · intro n hn
        cases t with
        | leaf => cases hn
        | node tl x tr => rw [List.mem_singleton.mp hn]; exact ⟨Sub.refl _, hb⟩
      · rintro m' σ H3 ⟨ts, ks, l, y3, y4, rfl, e3, nl, nfl, hfo3, hl3, hp, hs, rfl⟩
        -- line != []
        refine ⟨.ref l, rfl, Nat.zero_le _, fun em nem => ?_⟩
        have e4 := same_new (o := .lst []) nem
        refine rd_neL (ns := roots ts) (ms := []) (SqL.of (e4 _ _ hl3)) (SqL.of upd_same) ⟨_, rfl, ?_⟩
        cases hts : ts.getLast? with
        | none =>
          have et : ts = [] := List.getLast?_eq_none_iff.mp hts
          subst et
          refine iteFd rfl ?_
          -- return tuple(found)
          refine ⟨.ref fo, rfl, fo, _, rfl, .inl ⟨SqL.of (e4 _ _ hfo3), fun p np => ?_⟩⟩
          have e5 := e3.trans e4
          refine q p _ (e5.trans (same_new np)) (e5.free np) ?_
          rw [upd_same, ← hp]
          simp [pres]
        | some nd =>
          obtain ⟨us, rfl⟩ : ∃ us, ts = us ++ [nd] := List.getLast?_eq_some_iff.mp hts
          obtain ⟨tl, x, tr⟩ := nd
          obtain ⟨hsub, hbs⟩ := hs (tl, x, tr) (by simp)
          have hr2 : (roots (us ++ [(tl, x, tr)])).map V.int = (roots us).map V.int ++ [.int x] := by simp [roots]
          rw [hr2] at hl3
          refine iteTd (by rw [decide_eq_false (by simp [roots])]; rfl) ?_
          have hpl : (pres (us ++ [(tl, x, tr)])).length ≤ 1000 := by
            have := congrArg List.length hp
            rw [List.length_append] at this
            omega
          have hkl : ks.length ≤ 1000 := by
            have := congrArg List.length hp
            rw [List.length_append] at this
            omega
          have hul : us.length ≤ 1000 := by
            have h1 := len_pres (us ++ [(tl, x, tr)])
            rw [List.length_append] at h1
            omega
          have nfl4 : (upd H3 em (.lst [])) l = some (.lst ((roots us).map V.int ++ [.int x])) := e4 _ _ hl3
          refine ⟨fun σ' H' => ∃ m'', m'' < (pres (us ++ [(tl, x, tr)])).length ∧ W m'' σ' H', fun _ _ h => h, ?_⟩
          -- key = line.pop()
          refine ⟨.ref l, rfl, .inl ⟨rfl, _, SqL.of nfl4⟩, l, _, .int x, rfl, rfl, nfl4, by simp, ?_⟩
          rw [List.dropLast_concat]
          have e5 : Same H (upd (upd H3 em (.lst [])) l (.lst ((roots us).map V.int))) := Same.put (e3.trans e4) nl
          have hfo5 : (upd (upd H3 em (.lst [])) l (.lst ((roots us).map V.int))) fo = some (.lst (ks.map V.int)) := by rw [upd_ne nfl]; exact e4 _ _ hfo3
          have hl5 : (upd (upd H3 em (.lst [])) l (.lst ((roots us).map V.int))) l = some (.lst ((roots us).map V.int)) := upd_same
          generalize (upd (upd H3 em (.lst [])) l (.lst ((roots us).map V.int))) = H5 at e5 hfo5 hl5
          -- found.append(key)
          refine ⟨.ref fo, rfl, .inl ⟨rfl, _, SqL.of hfo5⟩, .int x, rfl, fo, _, _, rfl, rfl, hfo5, szl (by rw [List.length_map]; omega), ?_⟩
          have e6 : Same H (upd H5 fo (.lst (ks.map V.int ++ [.int x]))) := Same.put e5 nfo
          have hfo6 : (upd H5 fo (.lst (ks.map V.int ++ [.int x]))) fo = some (.lst ((ks ++ [x]).map V.int)) := by rw [upd_same, List.map_append]; rfl
          have hl6 : (upd H5 fo (.lst (ks.map V.int ++ [.int x]))) l = some (.lst ((roots us).map V.int)) := by rw [upd_ne nfl.symm]; exact hl5
          generalize (upd H5 fo (.lst (ks.map V.int ++ [.int x]))) = H6 at e6 hfo6 hl6
          obtain ⟨t1, t2⟩ := hsub.top
          -- line = line + [..]
          refine ⟨.ref l, rfl, rd_dS "right" rfl (e6 _ _ hN.hm) nod_right (rd_dS "left" rfl (e6 _ _ hN.hm) nod_left ⟨sz (by show 2 ≤ 100000; decide), fun tp ntp => ⟨tp, rfl, ⟨_, SqT.of upd_same⟩, fun D nD => ?_⟩⟩)⟩
          have e7 := same_new (o := .tup [.ref R, .ref L]) ntp
          have htp : (upd H6 tp (.tup [.ref R, .ref L])) tp = some (.tup [.ref R, .ref L]) := upd_same
          generalize (upd H6 tp (.tup [.ref R, .ref L])) = H7 at nD e7 htp
          refine lc_tup (xs := [.ref R, .ref L]) (fun i H8 => Same H7 H8 ∧ H8 D = some (.lst ((roots (if i = 0 then [] else if i = 1 then kid tr else kid tr ++ kid tl)).map V.int))) ⟨same_new nD, upd_same⟩ (fun i H8 _ h => SqT.of (h.1 _ _ htp)) ?_ ?_
          · rintro i v H8 hv ⟨e8, hD8⟩
            have e8' : Same H H8 := e6.trans (e7.trans e8)
            match i, hv with
            | 0, hv =>
              cases hv
              refine ⟨rfl, .int x, rfl, .ref R, rfl, R, _, rfl, dg_in (e8' _ _ g3) g4, _, rfl, ?_⟩
              rw [t2]
              cases tr with
              | leaf => exact iteFd rfl ⟨e8, hD8⟩
              | node a1 x1 b1 =>
                refine iteTd rfl ⟨.ref R, rfl, .int x, rfl, R, .int x1, rfl, ?_, _, hD8, szl (by show 0 < 100000; decide), Same.put e8 nD, upd_same⟩
                have := dg_in (x := x) (e8' _ _ g3) g4
                rwa [t2] at this
            | 1, hv =>
              cases hv
              refine ⟨rfl, .int x, rfl, .ref L, rfl, L, _, rfl, dg_in (e8' _ _ g1) g2, _, rfl, ?_⟩
              rw [t1]
              cases tl with
              | leaf =>
                refine iteFd rfl ⟨e8, ?_⟩
                rw [hD8]
                show some (HO.lst ((roots (kid tr)).map V.int)) = some (HO.lst ((roots (kid tr ++ [])).map V.int))
                rw [List.append_nil]
              | node a1 x1 b1 =>
                refine iteTd rfl ⟨.ref L, rfl, .int x, rfl, L, .int x1, rfl, ?_, _, hD8, szl (by cases tr <;> simp [roots, kid]), Same.put e8 nD, ?_⟩
                · have := dg_in (x := x) (e8' _ _ g1) g2
                  rwa [t1] at this
                · rw [upd_same]
                  show some (HO.lst ((roots (kid tr)).map V.int ++ [V.int x1])) = some (HO.lst ((roots (kid tr ++ [(a1, x1, b1)])).map V.int))
                  simp [roots]
            | i + 2, hv => simp at hv
          · rintro H8 ⟨e8, hD8⟩
            have e9 : Same H6 H8 := e7.trans e8
            have hD8' : H8 D = some (.lst ((roots (kid tr ++ kid tl)).map V.int)) := hD8
            have lk2 : (kid tr ++ kid tl).length ≤ 2 := by cases tr <;> cases tl <;> simp [kid]
            refine ⟨l, D, _, _, rfl, rfl, e9 _ _ hl6, hD8', sz (by simp only [List.length_map, roots]; omega), fun p np => ?_⟩
            have e10 : Same H (upd H8 p (.lst ((roots us).map V.int ++ (roots (kid tr ++ kid tl)).map V.int))) := (e6.trans e9).trans (same_new np)
            have hx : (ndT (tl, x, tr)).pre = x :: (tl.pre ++ tr.pre) := rfl
            have hpk : pres (us ++ (kid tr ++ kid tl)) = tl.pre ++ tr.pre ++ pres us := by rw [pres_append, pres_append, pres_kid, pres_kid]
            have hpo : pres (us ++ [(tl, x, tr)]) = x :: (tl.pre ++ tr.pre) ++ pres us := by
              rw [pres_append]
              show ([] ++ (ndT (tl, x, tr)).pre) ++ pres us = _
              rw [hx]; rfl
            refine ⟨_, ?_, us ++ (kid tr ++ kid tl), ks ++ [x], p, _, _, rfl, e10, (e6.trans e9).free np, ne_of_none (e9 _ _ hfo6) np, same_new np _ _ (e9 _ _ hfo6), ?_, ?_, ?_, rfl⟩
            · rw [hpk, hpo]; simp
            · rw [upd_same]; simp [roots]
            · rw [← hp, hpk, hpo]; simp
            · intro n hn
              rcases List.mem_append.mp hn with h | h
              · exact hs n (List.mem_append.mpr (.inl h))
              · rcases List.mem_append.mp h with h | h
                · cases tr with
                  | leaf => cases h
                  | node a1 x1 b1 => rw [List.mem_singleton.mp h]; exact ⟨hsub.r hbs, hbs.2.2.2⟩
                · cases tl with
                  | leaf => cases h
                  | node a1 x1 b1 => rw [List.mem_singleton.mp h]; exact ⟨hsub.l hbs, hbs.2.2.1⟩
end
end TT
namespace TT
open PySem PySem.Spec PyProof.Rows L2
section
variable {P : Program} {w : World} {K : PySem.W.Frag} {mg : Str → Option Value} {base : Heap}
theorem ok_some {f : Addr} {fd : FuncData} {k : Nat} (F : Fun K "_law_some_shape" "_law_some_shape" s__law_some_shape f fd) (B : Blt mg) (c__law_take : Cal P w K mg base CX0 "_law_take" ["_law_draw", "_law_many"] k spTake)
    (c__law_shuffled : Cal P w K mg base CX0 "_law_shuffled" ["_law_draw", "_law_some"] k (spShuf K)) (c__law_tree : Cal P w K mg base CX0 "_law_tree" ["_law_order"] k (spTree K)) (c__law_shape : Cal P w K mg base CX0 "_law_shape" ["_law_m"] k spShape) :
    FnOk P w K mg base CX0 (k + 1) f fd ["_law_draw", "_law_keys_here"] (spSome K) := by
  refine F.ok sc__law_some_shape (fun vs H Q E h => ?_) (fun cdv A outer s H vs Q E hr h => ?_)
  · obtain ⟨d, a, ks, c, ns, rfl, _⟩ := h
    rfl
  · obtain ⟨d, a, ks, c, ns, rfl, hS, hasc, hl, nad, hD, q⟩ := h
    have nd := asc_nodup hasc
    refine ⟨_, (pss_cons (ps_set (i := 2) sc__law_some_shape.nd rfl (Or.inl rfl) (pe_cal c__law_take (hr.mono (by omega)) (by rfl) (pa_cons (pv 0) (pa_cons pe_int pa_nil))))
  (pss_cons (ps_set (i := 3) sc__law_some_shape.nd rfl (Or.inl rfl) (pe_cal c__law_shuffled (hr.mono (by omega)) (by rfl) (pa_cons (pv 0) (pa_cons (pv 1) pa_nil))))
  (C8.pss_cut (ps_if (pt_cmpR op_eq (pv 2) pe_int (nomark _))
    (pss_one (ps_set (i := 3) sc__law_some_shape.nd rfl (Or.inl rfl) (pe_callTy call_list_of (by rfl) B.xlist (by decide +kernel) (pa_cons (pv 1) pa_nil))))
    pss_nil)
  (C8.pss_cut (ps_if (pt_cmpR op_eq (pv 2) pe_int (nomark _))
    (pss_one (ps_set (i := 3) sc__law_some_shape.nd rfl (Or.inl rfl) (pe_revL (pv 1))))
    pss_nil)
  (C8.pss_cut (ps_if (pt_cmpR op_eq (pv 2) pe_int (nomark _))
    (pss_one (ps_setLc (i := 3) (own := [("_law_k", 4)]) (g := gName 4) (by rfl) sc__law_some_shape.nd rfl rfl (sw_true rfl rfl rfl (by decide +kernel)) (pi_range1 (by rfl) B.xrange (pa_cons (pe_callB call_len_seq (by rfl) B.xlen PySem.boot_len (pa_cons (pv 1) pa_nil)) pa_nil)) (blkOk_by (own := [("_law_k", 4)]) (N := ["_law_draw", "_law_keys_here", "_law_pick", "_law_order", "_law_k"]) (sc := defScope s__law_some_shape) (by decide +kernel)) (fun _ _ _ _ _ => (pg_name (i := 4) sc__law_some_shape.nd rfl (Or.inl rfl))) (fun _ _ _ _ _ => pts_nil) (fun _ _ _ _ _ => (pe_ifExp (pt_cmpR op_eq (pe_op op_mod (pv 4) pe_int) pe_int (nomark _)) (pe_ix (ix_listK (K := K) rfl) (pv 1) (pe_op op_fdivW (pv 4) pe_int) (fun _ _ => rfl)) (pe_ix (ix_listK (K := K) rfl) (pv 1) (pe_op op_sub (pe_op op_sub (pe_callB (call_len_seqK (K := K) rfl) (by rfl) B.xlen PySem.boot_len (pa_cons (pv 1) pa_nil)) pe_int) (pe_op op_fdivW (pv 4) pe_int)) (fun _ _ => rfl))))))
    pss_nil)
  (pss_one (ps_ret (pe_cal c__law_shape (hr.mono (by omega)) (by rfl) (pa_cons (pe_cal c__law_tree (hr.mono (by omega)) (by rfl) (pa_cons (pv 3) pa_nil)) pa_nil))))))))), ?_⟩
    -- pick, order
    refine ⟨.ref d, rfl, d, 7, c, ns, rfl, by decide, by decide, hD, fun pick H1 p0 p1 hD1 hk1 => ?_⟩
    have e1 : Ext d H H1 := .but hk1
    refine ⟨.ref d, rfl, .ref a, rfl, d, a, _, c, ns, rfl, e1.seq nad hS, by rw [List.length_map]; omega, nad, hD1, fun ys o H2 pm e2 hD2 no ho => ?_⟩
    let Mid : L2.St → Hp → Prop := fun σ H3 => ∃ (o : Addr) (os : List Int) (y : Option V), σ = [some (.ref d), some (.ref a), some (.int pick), some (.ref o), y] ∧ Ext d H H3 ∧ Drw c ns H3 d ∧ os.Perm ks ∧ H3 o = some (.lst (os.map V.int))
    have h0 : Mid [some (.ref d), some (.ref a), some (.int pick), some (.ref o), none] H2 := by
      obtain ⟨os, rfl⟩ : ∃ os : List Int, ys = os.map V.int := by
        refine ⟨ys.map (fun v => match v with | .int i => i | _ => 0), ?_⟩
        rw [List.map_map]
        refine (List.map_id' ys).symm.trans (List.map_congr_left fun v hv => ?_)
        obtain ⟨i, _, rfl⟩ := List.mem_map.mp (pm.mem_iff.mp hv)
        rfl
      refine ⟨o, os, none, rfl, e1.trans e2, hD2, ?_, ho⟩
      have := pm.map (fun v => match v with | V.int i => i | _ => 0)
      rw [List.map_map, List.map_map] at this
      have ei : ∀ l : List Int, List.map ((fun v => match v with | V.int i => i | _ => 0) ∘ V.int) l = l := fun l => by rw [show ((fun v => match v with | V.int i => i | _ => 0) ∘ V.int) = id from rfl]; exact List.map_id l
      rw [ei, ei] at this
      exact this
    refine ⟨Mid, ?_, ?_⟩
    · refine ⟨.int pick, rfl, rfl, _, rfl, ite2 (fun _ => ?_) (fun _ => h0)⟩
      refine ⟨.ref a, rfl, a, _, rfl, .inl ((e1.trans e2).seq nad hS), fun p np => ?_⟩
      obtain ⟨ob, hob⟩ := hD.at
      obtain ⟨ob2, hob2⟩ := hD2.at
      exact ⟨p, ks, none, rfl, (e1.trans e2).trans (.of (same_new np)), hD2.new np, .refl _, upd_same⟩
    · rintro σ H3 ⟨o, os, y, rfl, e3, hD3, pm3, ho3⟩
      refine ⟨Mid, ?_, ?_⟩
      · refine ⟨.int pick, rfl, rfl, _, rfl, ite2 (fun _ => ?_) (fun _ => ⟨o, os, y, rfl, e3, hD3, pm3, ho3⟩)⟩
        refine ⟨.ref a, rfl, a, _, rfl, e3.seq nad hS, fun p np => ?_⟩
        refine ⟨p, ks.reverse, y, rfl, e3.trans (.of (same_new np)), hD3.new np, List.reverse_perm _, ?_⟩
        rw [upd_same, List.map_reverse]
      · rintro σ H4 ⟨o, os, y, rfl, e4, hD4, pm4, ho4⟩
        refine ⟨Mid, ?_, ?_⟩
        · refine ⟨.int pick, rfl, rfl, _, rfl, ite2 (fun _ => ?_) (fun _ => ⟨o, os, y, rfl, e4, hD4, pm4, ho4⟩)⟩
          refine ⟨.ref a, rfl, a, _, rfl, .inl (e4.seq nad hS), _, rfl, by omega, by rw [List.length_map]; omega, fun D nD => ?_⟩
          refine lc_range (lo := 0) (n := (((ks.map V.int).length : Nat) : Int).toNat) (fun i H5 => Same H4 H5 ∧ H5 D = some (.lst ((zig ks i).map V.int))) ⟨same_new nD, upd_same⟩ ?_ ?_
          · rintro i H5 hi ⟨e5, hD5⟩
            rw [Int.toNat_natCast, List.length_map] at hi
            have hS5 : SqL K H5 a (ks.map V.int) := (e4.trans (.of e5)).seq nad hS
            have hz : zigI ks.length i < ks.length := by unfold zigI; split <;> omega
            have hg : (ks.map V.int)[zigI ks.length i]? = some (.int (ks.getD (zigI ks.length i) 0)) := by
              rw [List.getElem?_map, List.getD_eq_getElem?_getD, List.getElem?_eq_getElem hz]; rfl
            have fin : ∀ v, v = V.int (ks.getD (zigI ks.length i) 0) → ∃ acc, H5 D = some (.lst acc) ∧ acc.length < sizeLine ∧ (Same H4 (upd H5 D (.lst (acc ++ [v]))) ∧ (upd H5 D (.lst (acc ++ [v]))) D = some (.lst ((zig ks (i + 1)).map V.int))) := by
              rintro v rfl
              refine ⟨_, hD5, szl (by rw [List.length_map]; unfold zig; rw [List.length_map, List.length_range]; omega), Same.put e5 nD, ?_⟩
              rw [upd_same]
              unfold zig
              rw [List.range_succ, List.map_append, List.map_append]; rfl
            refine ⟨rfl, .int (0 + i), rfl, 0 + i, 2, rfl, rfl, (by decide : (0 : Int) < 2), rfl, _, rfl, ite2 (fun ev => ?_) (fun ev => ?_)⟩
            · have ev2 : (0 + (i : Int)) % 2 = 0 := V.int.inj (of_decide_eq_true ev)
              have ez : zigI ks.length i = i / 2 := by unfold zigI; rw [if_pos (by omega)]
              refine ⟨.ref a, rfl, .int (0 + i), rfl, 0 + i, 2, rfl, rfl, wide_div (b := 2) (by decide) (by decide) (by decide) (by decide), a, _, _, _, rfl, rfl, hS5, atI_int (by omega) ?_, fin _ rfl⟩
              rw [show ((0 + (i : Int)) / 2).toNat = zigI ks.length i by rw [ez]; omega]
              exact hg
            · have ev2 : ¬ (0 + (i : Int)) % 2 = 0 := fun z => ev (decide_eq_true (congrArg V.int z))
              have ez : zigI ks.length i = ks.length - 1 - i / 2 := by unfold zigI; rw [if_neg (by omega)]
              refine ⟨.ref a, rfl, .ref a, rfl, a, _, rfl, .inl hS5, _, 1, rfl, rfl, .int (0 + i), rfl, 0 + i, 2, rfl, rfl, wide_div (b := 2) (by decide) (by decide) (by decide) (by decide), _, _, rfl, rfl, a, _, _, _, rfl, rfl, hS5, atI_int (by rw [List.length_map]; omega) ?_, fin _ rfl⟩
              rw [List.length_map, show ((ks.length : Int) - 1 - (0 + (i : Int)) / 2).toNat = zigI ks.length i by rw [ez]; omega]
              exact hg
          · rintro H5 ⟨e5, hD5⟩
            rw [Int.toNat_natCast, List.length_map] at hD5
            exact ⟨D, zig ks ks.length, y, rfl, e4.trans (.of e5), hD4.same e5, zig_perm nd, hD5⟩
        · rintro σ H5 ⟨o, os, y, rfl, e5, hD5, pm5, ho5⟩
          have ndo : os.Nodup := pm5.nodup_iff.mpr nd
          have lo : os.length = ks.length := pm5.length_eq
          refine ⟨.ref o, rfl, o, os, rfl, .inl (SqL.of ho5), ndo, by omega, fun m L R U H6 e6 nm nL nR nU hT => ?_⟩
          have hb : (T.insAll os T.leaf).bst := bst_insAll (t := T.leaf) trivial ndo fun _ _ z => (by cases z)
          have pt := insAll_perm ndo
          refine ⟨m, L, R, U, T.insAll os T.leaf, _, _, rfl, hT, hb, by rw [pt.length_eq]; omega, fun p H7 e7 np hp => ?_⟩
          obtain ⟨ob, hob⟩ := hD.at
          obtain ⟨ob5, hob5⟩ := hD5.at
          exact q _ p H7 hb (pt.trans pm5) (e5.trans (.of (e6.trans e7))) (hD5.same (e6.trans e7)) (e5.free hob hob5 (e6.free np)) hp
end
end TT
namespace TT
open PySem PySem.Spec PyProof.Rows L2
section
variable {P : Program} {w : World} {K : PySem.W.Frag} {mg : Str → Option Value} {base : Heap}
theorem ok_law {f : Addr} {fd : FuncData} {k : Nat} (F : Fun K "law" "law" s_law f fd) (B : Blt mg)
    (c__law_start : Cal P w K mg base CX0 "_law_start" ["_law_script"] k (spStart K))
    (c__law_size : Cal P w K mg base CX0 "_law_size" ["_law_draw", "_law_most"] k spSize)
    (c__law_keys : Cal P w K mg base CX0 "_law_keys" ["_law_draw", "_law_many"] k spKeys)
    (c__law_some_shape : Cal P w K mg base CX0 "_law_some_shape" ["_law_draw", "_law_keys_here"] k (spSome K))
    (c__law_of : Cal P w K mg base CX0 "_law_of" ["_law_draw", "_law_some"] k (spOf K))
    (c_touch : Cal P w K mg base CX0 "touch" ["shape", "key"] k (spTouch K))
    (c_mirror : Cal P w K mg base CX0 "mirror" ["shape"] k (spMir K 42))
    (c_remove_key : Cal P w K mg base CX0 "remove_key" ["shape", "key"] k (spRemove K))
    (k_restrict_low_high : CalN P w K mg base CX0 "restrict" 1 ["low", "high"] k (spRestrict K) (fun vs zs => vs ++ zs))
    (k_restrict_low : CalN P w K mg base CX0 "restrict" 1 ["low"] k (spRestrict K) (fun vs zs => vs ++ zs ++ [.non])) : FnOk P w K mg base CX0 (k + 1) f fd ["_law_script"] (spLaw K) := by
  refine F.ok sc_law (fun vs H Q E h => ?_) (fun cdv A outer s H vs Q E hr h => ?_)
  · obtain ⟨a, ns, rfl, _⟩ := h
    rfl
  · obtain ⟨a, ns, rfl, hS, hl, q⟩ := h
    have hu := hu_of hr
    refine ⟨_, (pss_cons (ps_set (i := 1) sc_law.nd rfl (Or.inl rfl) (pe_cal c__law_start (hr.mono (by omega)) (by rfl) (pa_cons (pv 0) pa_nil)))
  (pss_cons (ps_for PassesOwn.never rfl (pi_range1 (by rfl) B.xrange (pa_cons pe_int pa_nil)) (pg_name (i := 2) sc_law.nd rfl (Or.inl rfl))
    (pss_cons (ps_set (i := 3) sc_law.nd rfl (Or.inl rfl) (pe_cal c__law_keys (hr.mono (by omega)) (by rfl) (pa_cons (pv 1) (pa_cons (pe_op op_add pe_int (pe_cal c__law_size (hr.mono (by omega)) (by rfl) (pa_cons (pv 1) (pa_cons pe_int pa_nil)))) pa_nil))))
  (pss_cons (ps_asg (pe_tup (pa_cons (pe_cal c__law_some_shape (hr.mono (by omega)) (by rfl) (pa_cons (pv 1) (pa_cons (pv 3) pa_nil))) (pa_cons (pe_cal c__law_of (hr.mono (by omega)) (by rfl) (pa_cons (pv 1) (pa_cons (pv 3) pa_nil))) pa_nil))) (pg_tup rfl (pgs_cons (pg_name (i := 4) sc_law.nd rfl (Or.inl rfl)) (pgs_cons (pg_name (i := 5) sc_law.nd rfl (Or.inr rfl)) pgs_nil))))
  (pss_cons (ps_par (i := 6) (j := 7) rfl sc_law.nd rfl rfl (by decide) rfl rfl (pa_cons (pe_cal c__law_of (hr.mono (by omega)) (by rfl) (pa_cons (pv 1) (pa_cons (pe_lst (pa_cons pe_non (pa_cons (pe_cal c__law_of (hr.mono (by omega)) (by rfl) (pa_cons (pv 1) (pa_cons (pv 3) pa_nil))) pa_nil))) pa_nil))) (pa_cons (pe_cal c__law_of (hr.mono (by omega)) (by rfl) (pa_cons (pv 1) (pa_cons (pe_lst (pa_cons pe_non (pa_cons (pe_cal c__law_of (hr.mono (by omega)) (by rfl) (pa_cons (pv 1) (pa_cons (pv 3) pa_nil))) pa_nil))) pa_nil))) pa_nil)) rfl)
  (pss_cons (ps_par (i := 8) (j := 9) rfl sc_law.nd rfl rfl (by decide) rfl rfl (pa_cons (pe_ix ix_tup (pe_cal c_touch (hr.mono (by omega)) (by rfl) (pa_cons (pv 4) (pa_cons (pv 5) pa_nil))) pe_int (fun _ _ => rfl)) (pa_cons (pe_calN k_restrict_low_high (hr.mono (by omega)) (by rfl) (pa_cons (pv 4) pa_nil) (pk_cons (pv 6) (pk_cons (pv 7) pk_nil))) pa_nil)) rfl)
  (pss_cons (ps_set (i := 10) sc_law.nd rfl (Or.inl rfl) (pe_and (pe_or (pe_cmp (pc_isN (pv 6))) (pe_one (pe_cmpR op_lt (pv 6) (pv 5) (nomark _)))) (pe_one (pe_or (pe_cmp (pc_isN (pv 7))) (pe_one (pe_cmpR op_lt (pv 5) (pv 7) (nomark _)))))))
  (C8.pss_cut (ps_set (i := 11) sc_law.nd rfl (Or.inl rfl) (pe_ifExp (pt_val (pv 10)) (pe_ix ix_tup (pe_cal c_touch (hr.mono (by omega)) (by rfl) (pa_cons (pv 9) (pa_cons (pv 5) pa_nil))) pe_int (fun _ _ => rfl)) (pv 9)))
  (pss_cons (ps_if (pt_cmpR (op_neD hr.units) (pe_calN k_restrict_low_high (hr.mono (by omega)) (by rfl) (pa_cons (pv 8) pa_nil) (pk_cons (pv 6) (pk_cons (pv 7) pk_nil))) (pv 11) (nomark _))
    (pss_one (ps_ret pe_bl))
    pss_nil)
  (pss_cons (ps_if (pt_cmpR (op_neD hr.units) (pe_cal c_mirror (hr.mono (by omega)) (by rfl) (pa_cons (pv 8) pa_nil)) (pe_ix ix_tup (pe_cal c_touch (hr.mono (by omega)) (by rfl) (pa_cons (pe_cal c_mirror (hr.mono (by omega)) (by rfl) (pa_cons (pv 4) pa_nil)) (pa_cons (pe_op op_sub pe_int (pv 5)) pa_nil))) pe_int (fun _ _ => rfl)) (nomark _))
    (pss_one (ps_ret pe_bl))
    pss_nil)
  (pss_cons (ps_par (i := 12) (j := 13) rfl sc_law.nd rfl rfl (by decide) rfl rfl (pa_cons (pe_ix ix_tup (pe_cal c_remove_key (hr.mono (by omega)) (by rfl) (pa_cons (pv 4) (pa_cons (pv 5) pa_nil))) pe_int (fun _ _ => rfl)) (pa_cons (pe_lc (own := [("_law_other", 14)]) (g := gName 14) (by rfl) sc_law.nd (pi_list (pv 3)) (blkOk_by (own := [("_law_other", 14)]) (N := ["_law_script", "_law_draw", "_law_turn", "_law_keys_here", "_law_shape_here", "_law_key", "_law_low_z", "_law_high_z", "_law_behind", "_law_piece", "_law_within", "_law_due", "_law_gone", "_law_less", "_law_other"]) (sc := defScope s_law) (by decide +kernel)) (fun _ _ _ _ _ => (pg_name (i := 14) sc_law.nd rfl (Or.inl rfl))) (fun _ _ _ _ _ => (pts_one (pt_cmpR op_lt (pv 14) (pv 5) (nomark _)))) (fun _ _ _ _ _ => (pv 14))) pa_nil)) rfl)
  (C8.pss_cut (ps_if (PW.pt (pw_and (pt_cmpR (op_neD hr.units) (pv 13) (pe_lst pa_nil) (nomark _)) (pw_and1 (pt_cmpR op_ne (pe_ix ix_tup (pv 12) pe_int (fun _ _ => rfl)) (pe_callB (cr_max rfl) (by rfl) B.xmax (by decide +kernel) (pa_cons (pv 13) pa_nil)) (nomark _)))))
    (pss_one (ps_ret pe_bl))
    pss_nil)
  (C8.pss_cut (ps_if (PW.pt (pw_and (pt_cmpR (op_eqD hr.units) (pv 13) (pe_lst pa_nil) (nomark _)) (pw_and1 (pt_cmpR (op_neD hr.units) (pv 12) (pe_calN k_restrict_low (hr.mono (by omega)) (by rfl) (pa_cons (pv 4) pa_nil) (pk_cons (pv 5) pk_nil)) (nomark _)))))
    (pss_one (ps_ret pe_bl))
    pss_nil)
  (pss_one (ps_if (PW.pt (pw_or (pt_cmpR (op_neD hr.units) (pe_callB cr_sortedTI (by rfl) B.xsorted (by decide +kernel) (pa_cons (pv 12) pa_nil)) (pe_lc (own := [("_law_other", 14)]) (g := gName 14) (by rfl) sc_law.nd (pi_list (pv 3)) (blkOk_by (own := [("_law_other", 14)]) (N := ["_law_script", "_law_draw", "_law_turn", "_law_keys_here", "_law_shape_here", "_law_key", "_law_low_z", "_law_high_z", "_law_behind", "_law_piece", "_law_within", "_law_due", "_law_gone", "_law_less", "_law_other"]) (sc := defScope s_law) (by decide +kernel)) (fun _ _ _ _ _ => (pg_name (i := 14) sc_law.nd rfl (Or.inl rfl))) (fun _ _ _ _ _ => (pts_one (pt_cmpR op_ne (pv 14) (pv 5) (nomark _)))) (fun _ _ _ _ _ => (pv 14))) (nomark _)) (pw_or1 (pt_cmpR (op_neD hr.units) (pe_calN k_restrict_low (hr.mono (by omega)) (by rfl) (pa_cons (pv 12) pa_nil) (pk_cons (pv 5) pk_nil)) (pe_calN k_restrict_low (hr.mono (by omega)) (by rfl) (pa_cons (pv 4) pa_nil) (pk_cons (pv 5) pk_nil)) (nomark _)))))
    (pss_one (ps_ret pe_bl))
    pss_nil))))))))))))))
  (pss_one (ps_ret pe_bl)))), ?_⟩
    refine ⟨.ref a, rfl, a, ns, rfl, hS, hl, fun d c ms H1 e1 nd hD1 => ?_⟩
    refine ⟨4, rfl, by decide, by decide, for_range (n := 4) (fun i σ H3 => ∃ y2 y3 y4 y5 y6 y7 y8 y9 y10 y11 y12 y13 y14, σ = [some (.ref a), some (.ref d), y2, y3, y4, y5, y6, y7, y8, y9, y10, y11, y12, y13, y14] ∧ Drw c ms H3 d) ⟨none, none, none, none, none, none, none, none, none, none, none, none, none, rfl, hD1⟩ ?_ ?_⟩
    · rintro i σ H0 hi ⟨y2, y3, y4, y5, y6, y7, y8, y9, y10, y11, y12, y13, y14, rfl, hD⟩
      refine ⟨.ref d, rfl, .ref d, rfl, d, 39, c, ms, rfl, by decide, by decide, hD, fun r H2 r0 r1 e2 hD2 => ⟨1, r, rfl, rfl, d, 1 + r, c, ms, rfl, by omega, by omega, hD2, fun ks p H3 lk hasc e3 hD3 np hp => ?_⟩⟩
      have npd := hD2.ne np
      have l0 : 0 < (ks.map V.int).length := by rw [List.length_map]; omega
      have l1 : (ks.map V.int).length ≤ 100000 := by rw [List.length_map]; omega
      have isI : ∀ x ∈ ks.map V.int, ∃ i, x = V.int i ∧ i ∈ ks := fun x hx => by
        obtain ⟨i, hi, rfl⟩ := List.mem_map.mp hx
        exact ⟨i, rfl, hi⟩
      refine ⟨.ref d, rfl, .ref p, rfl, d, p, ks, c, ms, rfl, SqL.of hp, hasc, by omega, npd, hD3, fun t s4 H4 hb pm e4 hD4 ns4 hs4 => ?_⟩
      have lt : t.pre.length ≤ 40 := by rw [pm.length_eq]; omega
      have ns4d : s4 ≠ d := hD3.ne ns4
      have hp4 := e4 _ _ npd hp
      refine ⟨.ref d, rfl, .ref p, rfl, d, p, _, c, ms, rfl, SqL.of hp4, l0, l1, npd, hD4, fun xk H5 hx5 hD5 hk5 => ⟨sz (by show 2 ≤ 100000; decide), fun z5 nz5 => ?_⟩⟩
      obtain ⟨key, rfl, hkey⟩ := isI xk hx5
      refine ⟨z5, _, rfl, SqT.of upd_same, rfl, .ref s4, _, rfl, .int key, _, rfl, rfl, ?_⟩
      have e5 : Ext d H4 (upd H5 z5 (.tup [.ref s4, .int key])) := (Ext.but hk5).trans (.of (same_new nz5))
      have hD5' := hD5.new (o := .tup [.ref s4, .int key]) nz5
      have hk : key ∈ t.pre := pm.mem_iff.mpr hkey
      generalize (upd H5 z5 (.tup [.ref s4, .int key])) = G5 at e5 hD5'
      have hp5 := e5 _ _ npd hp4
      refine ⟨.ref d, rfl, .ref d, rfl, .ref p, rfl, d, p, _, c, ms, rfl, SqL.of hp5, l0, l1, npd, hD5', fun x6 H6 hx6 hD6 hk6 => ⟨sz (by show 2 ≤ 100000; decide), fun l6 nl6 => ?_⟩⟩
      obtain ⟨i6, rfl, _⟩ := isI x6 hx6
      refine ⟨d, l6, _, c, ms, rfl, SqL.of upd_same, by show 0 < 2; decide, by show 2 ≤ 100000; decide, hD6.ne nl6, hD6.new nl6, fun x7 H7 hx7 hD7 hk7 => ?_⟩
      have oI : ∀ {i : Int} {x : V}, x ∈ [V.non, .int i] → ∃ b, x = oV b := fun hx => by
        simp only [List.mem_cons, List.not_mem_nil, or_false] at hx
        rcases hx with rfl | rfl
        · exact ⟨none, rfl⟩
        · exact ⟨some _, rfl⟩
      obtain ⟨lo, rfl⟩ := oI hx7
      have e7 : Ext d H4 H7 := e5.trans ((Ext.but hk6).trans ((Ext.of (same_new nl6)).trans (.but hk7)))
      have hp7 := e7 _ _ npd hp4
      refine ⟨.ref d, rfl, .ref d, rfl, .ref p, rfl, d, p, _, c, ms, rfl, SqL.of hp7, l0, l1, npd, hD7, fun x8 H8 hx8 hD8 hk8 => ⟨sz (by show 2 ≤ 100000; decide), fun l8 nl8 => ?_⟩⟩
      obtain ⟨i8, rfl, _⟩ := isI x8 hx8
      refine ⟨d, l8, _, c, ms, rfl, SqL.of upd_same, by show 0 < 2; decide, by show 2 ≤ 100000; decide, hD8.ne nl8, hD8.new nl8, fun x9 H9 hx9 hD9 hk9 => ⟨_, _, rfl, ?_⟩⟩
      obtain ⟨hi, rfl⟩ := oI hx9
      have e9 : Ext d H4 H9 := e7.trans ((Ext.but hk8).trans ((Ext.of (same_new nl8)).trans (.but hk9)))
      have hp9 := e9 _ _ npd hp4
      have hs9 := e9 _ _ ns4d hs4
      clear e9 e7 e5 hp7 hp5 hp4 hs4
      -- behind, piece
      refine ⟨.ref s4, rfl, .int key, rfl, s4, key, t, rfl, SqT.of hs9, hb, by omega, hk, fun p1 q1 H10 e10 hp1 hq1 => ⟨p1, _, 0, .ref q1, rfl, rfl, SqT.of hp1, rfl, ?_⟩⟩
      refine ⟨.ref s4, rfl, oV lo, rfl, oV hi, rfl, rfl, rfl, s4, t.pre, lo, hi, rfl, SqT.of (e10 _ _ hs9), by omega, fun p2 H11 e11 _ hp2 => ⟨_, _, rfl, ?_⟩⟩
      have hs11 := e11 _ _ (e10 _ _ hs9)
      have hp11 := e11 _ _ (e10 _ _ hp9)
      have hq11 := e11 _ _ hq1
      have hD11 := hD9.same (e10.trans e11)
      rw [tch_pre hb] at hq11
      clear hp1 hq1 e10 e11 hD9 hs9 hp9
      -- within
      refine rd_inV (lo := lo) (hi := hi) (x := key) rfl rfl rfl ?_
      -- due
      refine ⟨fun σ H12 => ∃ dq, σ = [some (.ref a), some (.ref d), some (.int (0 + i)), some (.ref p), some (.ref s4), some (.int key), some (oV lo), some (oV hi), some (.ref q1), some (.ref p2), some (.bl (okLo lo key && okHi hi key)), some (.ref dq), y12, y13, y14] ∧ Same H11 H12 ∧ H12 dq = some (.tup (((topL key t.pre).filter fun y => okLo lo y && okHi hi y).map V.int)), ?_, ?_⟩
      · refine ⟨_, rfl, _, rfl, ?_⟩
        cases hw : okLo lo key && okHi hi key with
        | false => exact iteFd rfl ⟨.ref p2, rfl, p2, rfl, .refl _, by rw [topL_out hw]; exact hp2⟩
        | true =>
          refine iteTd rfl ⟨.ref p2, rfl, .int key, rfl, p2, key, t.restr lo hi, rfl, SqT.of (by rw [restr_pre hb]; exact hp2), restr_bst hb, ?_, ?_, fun p3 q3 H12 e12 hp3 hq3 => ⟨p3, _, 0, .ref q3, rfl, rfl, SqT.of hp3, rfl, q3, rfl, e12, ?_⟩⟩
          · rw [restr_pre hb]; exact Nat.le_trans (List.length_filter_le ..) (by omega)
          · rw [restr_pre hb]; exact List.mem_filter.mpr ⟨hk, hw⟩
          · rw [hq3, tch_pre (restr_bst hb), restr_pre hb, topL_in (p := fun y => okLo lo y && okHi hi y) hw]
      · rintro σ H12 ⟨dq, rfl, e12, hdq⟩
        have lT : (topL key t.pre).length ≤ 41 := by have := topL_len (x := key) (ks := t.pre); omega
        have hs12 := e12 _ _ hs11
        have hp12 := e12 _ _ hp11
        have hq12 := e12 _ _ hq11
        refine ⟨.ref q1, rfl, oV lo, rfl, oV hi, rfl, rfl, rfl, q1, topL key t.pre, lo, hi, rfl, SqT.of hq12, by omega, fun p4 H13 e13 _ hp4 => ⟨_, rfl, ?_⟩⟩
        refine rd_neT (SqT.of hp4) (SqT.of (e13 _ _ hdq)) ⟨_, rfl, iteFd (by simp) ?_⟩
        -- the mirror
        refine ⟨.ref q1, rfl, q1, t.tch key, rfl, SqT.of (by rw [tch_pre hb]; exact e13 _ _ hq12), tch_bst hb, by rw [tch_len hb hk]; omega, by rw [tch_len hb hk]; omega, fun p5 H14 e14 hp5 => ?_⟩
        have hs14 := e14 _ _ (e13 _ _ hs12)
        refine ⟨.ref s4, rfl, s4, t, rfl, SqT.of hs14, hb, by omega, by omega, fun p6 H15 e15 hp6 => ⟨.int key, rfl, 0, key, rfl, rfl, p6, 0 - key, t.mir, rfl, SqT.of hp6, bst_mir hb, by rw [len_mir]; omega, mem_mir.mpr (by rw [Int.zero_sub, Int.neg_neg]; exact hk), fun p7 q7 H16 e16 hp7 hq7 => ⟨p7, _, 0, .ref q7, rfl, rfl, SqT.of hp7, rfl, ?_⟩⟩⟩
        rw [Int.zero_sub, ← tch_mir] at hq7
        refine rd_neT (SqT.of (e16 _ _ (e15 _ _ hp5))) (SqT.of hq7) ⟨_, rfl, iteFd (by simp) ?_⟩
        have e16' := e13.trans (e14.trans (e15.trans e16))
        have hs16 := e16' _ _ hs12
        have hp16 := e16' _ _ hp12
        have hD16 := (hD11.same e12).same e16'
        clear hp7 hq7 hp6 hp5 hp4 hs14 hdq hs12 hp12 hq12 hs11 hp11 hq11 hp2 e16 e15 e14 e13 e12 hD11 e16'
        -- gone, less
        refine ⟨.ref s4, rfl, .int key, rfl, s4, key, t, rfl, SqT.of hs16, hb, by omega, hk, fun p8 q8 gs tot H17 e17 hR hp8 hq8 => ⟨p8, _, 0, .ref q8, rfl, rfl, SqT.of hp8, rfl, ?_⟩⟩
        refine ⟨.ref p, rfl, p, rfl, ⟨_, SqL.of (e17 _ _ hp16)⟩, fun D nD => lc_fL (fun y => decide (y < key)) V.int (SqL.of (e17 _ _ hp16)) nD (by omega) (fun x H18 Y N hx e18 h1 h2 => ⟨rfl, .int x, rfl, .int key, rfl, _, _, rfl, rfl, _, rfl, ite2 (fun e => ⟨.int x, rfl, h1 e H18 (.refl _)⟩) (fun e => h2 (by simpa using e) H18 (.refl _))⟩) fun H18 e18 hD18 => ⟨_, _, rfl, ?_⟩⟩
        have hs18 := e18 _ _ (e17 _ _ hs16)
        have hp18 := e18 _ _ (e17 _ _ hp16)
        have hq18 := e18 _ _ hq8
        have hDw := hD16.same (e17.trans e18)
        have lg : gs.length ≤ 40 := by rw [(rem_perm hb hk hR).length_eq]; exact Nat.le_trans (List.length_filter_le ..) lt
        have less : ∀ y, y ∈ ks.filter (fun y => decide (y < key)) ↔ y ∈ t.pre ∧ y < key := fun y => by
          rw [List.mem_filter, decide_eq_true_iff, pm.mem_iff]
        let st : L2.St := [some (.ref a), some (.ref d), some (.int (0 + i)), some (.ref p), some (.ref s4), some (.int key), some (oV lo), some (oV hi), some (.ref q1), some (.ref p2), some (.bl (okLo lo key && okHi hi key)), some (.ref dq), some (.ref q8), some (.ref D), y14]
        refine ⟨fun σ H19 => σ = st ∧ Same H18 H19, ?_, ?_⟩
        · refine ⟨.ref D, rfl, Nat.zero_le _, fun em nem => ?_⟩
          have e19 := same_new (o := .lst []) nem
          refine rd_neL (ns := ks.filter (fun y => decide (y < key))) (ms := []) (SqL.of (e19 _ _ hD18)) (SqL.of upd_same) ⟨_, rfl, ?_⟩
          cases hf : ks.filter (fun y => decide (y < key)) with
          | nil => exact iteFd rfl ⟨rfl, e19⟩
          | cons y0 ys =>
            have m0 := (less y0).mp (by rw [hf]; exact List.mem_cons_self)
            obtain ⟨m, r, rfl, hm, lm, gm⟩ := rem_head hR m0.1 m0.2
            refine iteTd rfl (rd_ixT 0 rfl (SqT.of (e19 _ _ hq18)) rfl ?_)
            refine ⟨.ref D, rfl, D, y0 :: ys, rfl, SqL.of (by rw [← hf]; exact e19 _ _ hD18), Nat.succ_pos _, fun mx h1 h2 => ?_⟩
            have hmx := (less mx).mp (by rw [hf]; exact h1)
            have e1 := gm mx hmx.1 hmx.2
            have e2 := h2 m (by rw [← hf]; exact (less m).mpr ⟨hm, lm⟩)
            have e3 : m = mx := by omega
            exact ⟨rfl, _, rfl, iteFd (by subst e3; simp) ⟨rfl, e19⟩⟩
        · rintro σ H19 ⟨rfl, e19⟩
          refine ⟨fun σ H20 => σ = st ∧ Same H18 H20, ?_, ?_⟩
          · refine ⟨.ref D, rfl, Nat.zero_le _, fun em nem => ?_⟩
            have e20 := e19.trans (same_new (o := .lst []) nem)
            refine rd_eqL (ns := ks.filter (fun y => decide (y < key))) (ms := []) (SqL.of (e20 _ _ hD18)) (SqL.of upd_same) ⟨_, rfl, ?_⟩
            cases hf : ks.filter (fun y => decide (y < key)) with
            | cons y0 ys => exact iteFd rfl ⟨rfl, e20⟩
            | nil =>
              refine iteTd rfl ⟨.ref q8, rfl, .ref s4, rfl, .int key, rfl, rfl, rfl, s4, t.pre, some key, none, rfl, SqT.of (e20 _ _ hs18), by omega, fun p9 H21 e21 _ hp9 => ?_⟩
              have eg := rem_none hb hR fun y hy ly => by
                have := (less y).mpr ⟨hy, ly⟩
                rw [hf] at this
                cases this
              exact rd_neT (SqT.of (e21 _ _ (e20 _ _ hq18))) (SqT.of hp9) ⟨_, rfl, iteFd (by rw [← eg]; simp) ⟨rfl, e20.trans e21⟩⟩
          · rintro σ H20 ⟨rfl, e20⟩
            refine ⟨.ref q8, rfl, q8, gs, rfl, SqT.of (e20 _ _ hq18), by omega, fun ss ps hpm hpw nps => ?_⟩
            have e21 := e20.trans (same_new (o := .lst (ss.map V.int)) nps)
            refine ⟨.ref p, rfl, p, rfl, ⟨_, SqL.of (e21 _ _ hp18)⟩, fun D2 nD2 => lc_fL (fun y => !decide (V.int y = V.int key)) V.int (SqL.of (e21 _ _ hp18)) nD2 (by omega) (fun x H22 Y N hx e22 h1 h2 => ⟨rfl, .int x, rfl, .int key, rfl, rfl, _, rfl, ite2 (fun e => ⟨.int x, rfl, h1 e H22 (.refl _)⟩) (fun e => h2 (by simpa using e) H22 (.refl _))⟩) fun H22 e22 hD22 => ?_⟩
            have es : ss = ks.filter fun y => !decide (V.int y = V.int key) := by
              refine perm_sorted (hpm.trans ((rem_perm hb hk hR).trans (pm.filter _))) hpw ((hasc.lt.imp fun h => Int.le_of_lt h).filter _)
            refine rd_neL (SqL.of (e22 _ _ upd_same)) (SqL.of hD22) ⟨_, rfl, iteFd (by rw [← es]; simp) ?_⟩
            have e23 := e21.trans e22
            refine ⟨.ref q8, rfl, .int key, rfl, rfl, rfl, q8, gs, some key, none, rfl, SqT.of (e23 _ _ hq18), by omega, fun p9 H24 e24 _ hp9 => ?_⟩
            refine ⟨.ref s4, rfl, .int key, rfl, rfl, rfl, s4, t.pre, some key, none, rfl, SqT.of (e24 _ _ (e23 _ _ hs18)), by omega, fun p10 H25 e25 _ hp10 => ?_⟩
            refine rd_neT (SqT.of (e25 _ _ hp9)) (SqT.of hp10) ⟨_, rfl, iteFd (by rw [rem_high hb hR]; simp) ?_⟩
            exact ⟨_, _, _, _, _, _, _, _, _, _, _, _, _, rfl, hDw.same (e23.trans (e24.trans e25))⟩
    · rintro σ H0 ⟨y2, y3, y4, y5, y6, y7, y8, y9, y10, y11, y12, y13, y14, rfl, hD⟩
      exact q H0
end
end TT
namespace TT
open PySem PySem.Spec PyProof.Rows L2
theorem all_mk {l : PySem.W.OpenLaw} {w : World} {K : PySem.W.Frag} {h : Heap} {mg : Str → Option Value} {fa : Addr} (X : K.In h) (G : h.Ns mainGlobals mg) (hfa : mg "law" = some (.ref fa))
    {f0 : Addr} {od0 an0 : Option Addr} {sl0 : Array (Option Value)} {oc0 dc0 pm0 cd0 ct0 : Value} {D0 : Addr}
    {f1 : Addr} {od1 an1 : Option Addr} {sl1 : Array (Option Value)} {oc1 kV1 dc1 pm1 cd1 ct1 : Value}
    {f2 : Addr} {od2 an2 : Option Addr} {sl2 : Array (Option Value)} {oc2 kV2 dc2 pm2 cd2 ct2 : Value}
    {f3 : Addr} {od3 an3 : Option Addr} {sl3 : Array (Option Value)} {oc3 kV3 dc3 pm3 cd3 ct3 : Value}
    {f4 : Addr} {od4 an4 : Option Addr} {sl4 : Array (Option Value)} {oc4 kV4 dc4 pm4 cd4 ct4 : Value}
    {f5 : Addr} {od5 an5 : Option Addr} {sl5 : Array (Option Value)} {oc5 kV5 dc5 pm5 cd5 ct5 : Value}
    {f6 : Addr} {od6 an6 : Option Addr} {sl6 : Array (Option Value)} {oc6 kV6 dc6 pm6 cd6 ct6 : Value}
    {f7 : Addr} {od7 an7 : Option Addr} {sl7 : Array (Option Value)} {oc7 kV7 dc7 pm7 cd7 ct7 : Value}
    {f8 : Addr} {od8 an8 : Option Addr} {sl8 : Array (Option Value)} {oc8 kV8 dc8 pm8 cd8 ct8 : Value}
    {f9 : Addr} {od9 an9 : Option Addr} {sl9 : Array (Option Value)} {oc9 kV9 dc9 pm9 cd9 ct9 : Value}
    {f10 : Addr} {od10 an10 : Option Addr} {sl10 : Array (Option Value)} {oc10 kV10 dc10 pm10 cd10 ct10 : Value}
    {f11 : Addr} {od11 an11 : Option Addr} {sl11 : Array (Option Value)} {oc11 kV11 dc11 pm11 cd11 ct11 : Value}
    {f12 : Addr} {od12 an12 : Option Addr} {sl12 : Array (Option Value)} {oc12 kV12 dc12 pm12 cd12 ct12 : Value}
    {f13 : Addr} {od13 an13 : Option Addr} {sl13 : Array (Option Value)} {oc13 kV13 dc13 pm13 cd13 ct13 : Value}
    {f14 : Addr} {od14 an14 : Option Addr} {sl14 : Array (Option Value)} {oc14 kV14 dc14 pm14 cd14 ct14 : Value}
    {f15 : Addr} {od15 an15 : Option Addr} {sl15 : Array (Option Value)} {oc15 kV15 dc15 pm15 cd15 ct15 : Value}
    {f16 : Addr} {od16 an16 : Option Addr} {sl16 : Array (Option Value)} {oc16 kV16 dc16 pm16 cd16 ct16 : Value}
    {f17 : Addr} {od17 an17 : Option Addr} {sl17 : Array (Option Value)} {oc17 kV17 dc17 pm17 cd17 ct17 : Value}
    {f18 : Addr} {od18 an18 : Option Addr} {sl18 : Array (Option Value)} {oc18 kV18 dc18 pm18 cd18 ct18 : Value}
    {f19 : Addr} {od19 an19 : Option Addr} {sl19 : Array (Option Value)} {oc19 kV19 dc19 pm19 cd19 ct19 : Value}
    {f20 : Addr} {od20 an20 : Option Addr} {sl20 : Array (Option Value)} {oc20 kV20 dc20 pm20 cd20 ct20 : Value}
    {f21 : Addr} {od21 an21 : Option Addr} {sl21 : Array (Option Value)} {oc21 kV21 dc21 pm21 cd21 ct21 : Value}
    (a0 : PySem.W.nsIn K mainGlobals "restrict" = some (some (.ref f0)))
    (l0 : K.lookup f0 = some ⟨oc0, od0, .func (PySem.W.fnOf "restrict" "restrict" (defArgs s_restrict) (defBody s_restrict) (defScope s_restrict) .none (.ref D0) dc0 pm0 an0 cd0 ct0), sl0⟩)
    (c0 : PySem.W.codeIn K cd0 "restrict" = true) (k0 : PySem.W.keepIn K (.ref f0) = true)
    (w0_0 : PySem.W.nsIn K D0 "low" = some (some .none))
    (w0_1 : PySem.W.nsIn K D0 "high" = some (some .none))
    (a1 : PySem.W.nsIn K mainGlobals "parts_of" = some (some (.ref f1)))
    (l1 : K.lookup f1 = some ⟨oc1, od1, .func (PySem.W.fnOf "parts_of" "parts_of" (defArgs s_parts_of) (defBody s_parts_of) (defScope s_parts_of) .none kV1 dc1 pm1 an1 cd1 ct1), sl1⟩)
    (c1 : PySem.W.codeIn K cd1 "parts_of" = true) (k1 : PySem.W.keepIn K (.ref f1) = true)
    (a2 : PySem.W.nsIn K mainGlobals "search_path" = some (some (.ref f2)))
    (l2 : K.lookup f2 = some ⟨oc2, od2, .func (PySem.W.fnOf "search_path" "search_path" (defArgs s_search_path) (defBody s_search_path) (defScope s_search_path) .none kV2 dc2 pm2 an2 cd2 ct2), sl2⟩)
    (c2 : PySem.W.codeIn K cd2 "search_path" = true) (k2 : PySem.W.keepIn K (.ref f2) = true)
    (a3 : PySem.W.nsIn K mainGlobals "require_key" = some (some (.ref f3)))
    (l3 : K.lookup f3 = some ⟨oc3, od3, .func (PySem.W.fnOf "require_key" "require_key" (defArgs s_require_key) (defBody s_require_key) (defScope s_require_key) .none kV3 dc3 pm3 an3 cd3 ct3), sl3⟩)
    (c3 : PySem.W.codeIn K cd3 "require_key" = true) (k3 : PySem.W.keepIn K (.ref f3) = true)
    (a4 : PySem.W.nsIn K mainGlobals "path_to" = some (some (.ref f4)))
    (l4 : K.lookup f4 = some ⟨oc4, od4, .func (PySem.W.fnOf "path_to" "path_to" (defArgs s_path_to) (defBody s_path_to) (defScope s_path_to) .none kV4 dc4 pm4 an4 cd4 ct4), sl4⟩)
    (c4 : PySem.W.codeIn K cd4 "path_to" = true) (k4 : PySem.W.keepIn K (.ref f4) = true)
    (a5 : PySem.W.nsIn K mainGlobals "depth_of" = some (some (.ref f5)))
    (l5 : K.lookup f5 = some ⟨oc5, od5, .func (PySem.W.fnOf "depth_of" "depth_of" (defArgs s_depth_of) (defBody s_depth_of) (defScope s_depth_of) .none kV5 dc5 pm5 an5 cd5 ct5), sl5⟩)
    (c5 : PySem.W.codeIn K cd5 "depth_of" = true) (k5 : PySem.W.keepIn K (.ref f5) = true)
    (a6 : PySem.W.nsIn K mainGlobals "mirror" = some (some (.ref f6)))
    (l6 : K.lookup f6 = some ⟨oc6, od6, .func (PySem.W.fnOf "mirror" "mirror" (defArgs s_mirror) (defBody s_mirror) (defScope s_mirror) .none kV6 dc6 pm6 an6 cd6 ct6), sl6⟩)
    (c6 : PySem.W.codeIn K cd6 "mirror" = true) (k6 : PySem.W.keepIn K (.ref f6) = true)
    (a7 : PySem.W.nsIn K mainGlobals "put_on_top" = some (some (.ref f7)))
    (l7 : K.lookup f7 = some ⟨oc7, od7, .func (PySem.W.fnOf "put_on_top" "put_on_top" (defArgs s_put_on_top) (defBody s_put_on_top) (defScope s_put_on_top) .none kV7 dc7 pm7 an7 cd7 ct7), sl7⟩)
    (c7 : PySem.W.codeIn K cd7 "put_on_top" = true) (k7 : PySem.W.keepIn K (.ref f7) = true)
    (a8 : PySem.W.nsIn K mainGlobals "touch" = some (some (.ref f8)))
    (l8 : K.lookup f8 = some ⟨oc8, od8, .func (PySem.W.fnOf "touch" "touch" (defArgs s_touch) (defBody s_touch) (defScope s_touch) .none kV8 dc8 pm8 an8 cd8 ct8), sl8⟩)
    (c8 : PySem.W.codeIn K cd8 "touch" = true) (k8 : PySem.W.keepIn K (.ref f8) = true)
    (a9 : PySem.W.nsIn K mainGlobals "remove_key" = some (some (.ref f9)))
    (l9 : K.lookup f9 = some ⟨oc9, od9, .func (PySem.W.fnOf "remove_key" "remove_key" (defArgs s_remove_key) (defBody s_remove_key) (defScope s_remove_key) .none kV9 dc9 pm9 an9 cd9 ct9), sl9⟩)
    (c9 : PySem.W.codeIn K cd9 "remove_key" = true) (k9 : PySem.W.keepIn K (.ref f9) = true)
    (a10 : PySem.W.nsIn K mainGlobals "_law_start" = some (some (.ref f10)))
    (l10 : K.lookup f10 = some ⟨oc10, od10, .func (PySem.W.fnOf "_law_start" "_law_start" (defArgs s__law_start) (defBody s__law_start) (defScope s__law_start) .none kV10 dc10 pm10 an10 cd10 ct10), sl10⟩)
    (c10 : PySem.W.codeIn K cd10 "_law_start" = true) (k10 : PySem.W.keepIn K (.ref f10) = true)
    (a11 : PySem.W.nsIn K mainGlobals "_law_take" = some (some (.ref f11)))
    (l11 : K.lookup f11 = some ⟨oc11, od11, .func (PySem.W.fnOf "_law_take" "_law_take" (defArgs s__law_take) (defBody s__law_take) (defScope s__law_take) .none kV11 dc11 pm11 an11 cd11 ct11), sl11⟩)
    (c11 : PySem.W.codeIn K cd11 "_law_take" = true) (k11 : PySem.W.keepIn K (.ref f11) = true)
    (a12 : PySem.W.nsIn K mainGlobals "_law_of" = some (some (.ref f12)))
    (l12 : K.lookup f12 = some ⟨oc12, od12, .func (PySem.W.fnOf "_law_of" "_law_of" (defArgs s__law_of) (defBody s__law_of) (defScope s__law_of) .none kV12 dc12 pm12 an12 cd12 ct12), sl12⟩)
    (c12 : PySem.W.codeIn K cd12 "_law_of" = true) (k12 : PySem.W.keepIn K (.ref f12) = true)
    (a13 : PySem.W.nsIn K mainGlobals "_law_shuffled" = some (some (.ref f13)))
    (l13 : K.lookup f13 = some ⟨oc13, od13, .func (PySem.W.fnOf "_law_shuffled" "_law_shuffled" (defArgs s__law_shuffled) (defBody s__law_shuffled) (defScope s__law_shuffled) .none kV13 dc13 pm13 an13 cd13 ct13), sl13⟩)
    (c13 : PySem.W.codeIn K cd13 "_law_shuffled" = true) (k13 : PySem.W.keepIn K (.ref f13) = true)
    (a14 : PySem.W.nsIn K mainGlobals "_law_keys" = some (some (.ref f14)))
    (l14 : K.lookup f14 = some ⟨oc14, od14, .func (PySem.W.fnOf "_law_keys" "_law_keys" (defArgs s__law_keys) (defBody s__law_keys) (defScope s__law_keys) .none kV14 dc14 pm14 an14 cd14 ct14), sl14⟩)
    (c14 : PySem.W.codeIn K cd14 "_law_keys" = true) (k14 : PySem.W.keepIn K (.ref f14) = true)
    (a15 : PySem.W.nsIn K mainGlobals "_law_size" = some (some (.ref f15)))
    (l15 : K.lookup f15 = some ⟨oc15, od15, .func (PySem.W.fnOf "_law_size" "_law_size" (defArgs s__law_size) (defBody s__law_size) (defScope s__law_size) .none kV15 dc15 pm15 an15 cd15 ct15), sl15⟩)
    (c15 : PySem.W.codeIn K cd15 "_law_size" = true) (k15 : PySem.W.keepIn K (.ref f15) = true)
    (a16 : PySem.W.nsIn K mainGlobals "_law_empty" = some (some (.ref f16)))
    (l16 : K.lookup f16 = some ⟨oc16, od16, .func (PySem.W.fnOf "_law_empty" "_law_empty" (defArgs s__law_empty) (defBody s__law_empty) (defScope s__law_empty) .none kV16 dc16 pm16 an16 cd16 ct16), sl16⟩)
    (c16 : PySem.W.codeIn K cd16 "_law_empty" = true) (k16 : PySem.W.keepIn K (.ref f16) = true)
    (a17 : PySem.W.nsIn K mainGlobals "_law_place" = some (some (.ref f17)))
    (l17 : K.lookup f17 = some ⟨oc17, od17, .func (PySem.W.fnOf "_law_place" "_law_place" (defArgs s__law_place) (defBody s__law_place) (defScope s__law_place) .none kV17 dc17 pm17 an17 cd17 ct17), sl17⟩)
    (c17 : PySem.W.codeIn K cd17 "_law_place" = true) (k17 : PySem.W.keepIn K (.ref f17) = true)
    (a18 : PySem.W.nsIn K mainGlobals "_law_tree" = some (some (.ref f18)))
    (l18 : K.lookup f18 = some ⟨oc18, od18, .func (PySem.W.fnOf "_law_tree" "_law_tree" (defArgs s__law_tree) (defBody s__law_tree) (defScope s__law_tree) .none kV18 dc18 pm18 an18 cd18 ct18), sl18⟩)
    (c18 : PySem.W.codeIn K cd18 "_law_tree" = true) (k18 : PySem.W.keepIn K (.ref f18) = true)
    (a19 : PySem.W.nsIn K mainGlobals "_law_shape" = some (some (.ref f19)))
    (l19 : K.lookup f19 = some ⟨oc19, od19, .func (PySem.W.fnOf "_law_shape" "_law_shape" (defArgs s__law_shape) (defBody s__law_shape) (defScope s__law_shape) .none kV19 dc19 pm19 an19 cd19 ct19), sl19⟩)
    (c19 : PySem.W.codeIn K cd19 "_law_shape" = true) (k19 : PySem.W.keepIn K (.ref f19) = true)
    (a20 : PySem.W.nsIn K mainGlobals "_law_some_shape" = some (some (.ref f20)))
    (l20 : K.lookup f20 = some ⟨oc20, od20, .func (PySem.W.fnOf "_law_some_shape" "_law_some_shape" (defArgs s__law_some_shape) (defBody s__law_some_shape) (defScope s__law_some_shape) .none kV20 dc20 pm20 an20 cd20 ct20), sl20⟩)
    (c20 : PySem.W.codeIn K cd20 "_law_some_shape" = true) (k20 : PySem.W.keepIn K (.ref f20) = true)
    (a21 : PySem.W.nsIn K mainGlobals "law" = some (some (.ref f21)))
    (l21 : K.lookup f21 = some ⟨oc21, od21, .func (PySem.W.fnOf "law" "law" (defArgs s_law) (defBody s_law) (defScope s_law) .none kV21 dc21 pm21 an21 cd21 ct21), sl21⟩)
    (c21 : PySem.W.codeIn K cd21 "law" = true) (k21 : PySem.W.keepIn K (.ref f21) = true)
    (b_len : PySem.W.nsIn K mainGlobals "len" = some none)
    (b_list : PySem.W.nsIn K mainGlobals "list" = some none)
    (b_max : PySem.W.nsIn K mainGlobals "max" = some none)
    (b_min : PySem.W.nsIn K mainGlobals "min" = some none)
    (b_range : PySem.W.nsIn K mainGlobals "range" = some none)
    (b_sorted : PySem.W.nsIn K mainGlobals "sorted" = some none)
    (b_tuple : PySem.W.nsIn K mainGlobals "tuple" = some none) :
    ∃ fd : FuncData, (∀ (s : Shared) (v : Value), BindsTo s fd ⟨[v], []⟩ [("_law_script", v)]) ∧ ∀ base : Heap, K.In base → base.Ns mainGlobals mg → FnOk l.prog w K mg base CX0 45 fa fd ["_law_script"] (spLaw K) := by
  have e := hfa.symm.trans (PySem.W.mg_of X G a21)
  cases e
  have B : Blt mg := ⟨PySem.W.mg_none_of X G b_len, PySem.W.mg_none_of X G b_list, PySem.W.mg_none_of X G b_max, PySem.W.mg_none_of X G b_min, PySem.W.mg_none_of X G b_range, PySem.W.mg_none_of X G b_sorted, PySem.W.mg_none_of X G b_tuple⟩
  refine ⟨PySem.W.fnOf "law" "law" (defArgs s_law) (defBody s_law) (defScope s_law) .none kV21 dc21 pm21 an21 cd21 ct21, fun s v => .of_eq rfl, fun base _ _ => ?_⟩
  have F_restrict : FunD K "restrict" "restrict" (defArgs s_restrict) (defBody s_restrict) (defScope s_restrict) [] [("low", .non), ("high", .non)] f0 _ := ⟨⟨_, _, _, _, _, _, _, _, _, _, rfl, l0, c0, .inl ⟨rfl, rfl⟩, .inr ⟨D0, rfl, fun q hq => by
    rcases List.mem_cons.mp hq with rfl | hq
    · exact ⟨_, w0_0, rfl⟩
    · rw [List.mem_singleton.mp hq]
      exact ⟨_, w0_1, rfl⟩⟩⟩, k0⟩
  have O_restrict : FnOk l.prog w K mg base CX0 1 f0 _ ["shape", "low", "high"] (spRestrict K) := ok_restrict F_restrict B
  have g_restrict := PySem.W.mg_of X G a0
  obtain ⟨mv_restrict_high, kb_restrict_high⟩ := FunD.kbinds0 (ps := ["shape", "low", "high"]) F_restrict 1 ["high"] [("low", .non)] (fun vs mz zs => vs ++ mz ++ zs) (by simp) (by simp) (fun a b c => (a.append b).append c) (by
    intro D doc pm an cdv ct us mv ws h1 h2 h3
    match us, mv, ws, h1, h2, h3 with
    | [_], [_], [_], _, _, _ => exact ⟨_, _, _, _, _, _, rfl, rfl, rfl⟩)
  have n_restrict_high : CalN l.prog w K mg base CX0 "restrict" 1 ["high"] 1 (spRestrict K) (fun vs zs => vs ++ [.non] ++ zs) := ⟨_, _, _, _, O_restrict, g_restrict, k0, kb_restrict_high⟩
  obtain ⟨mv_restrict_low, kb_restrict_low⟩ := FunD.kbinds0 (ps := ["shape", "low", "high"]) F_restrict 1 ["low"] [("high", .non)] (fun vs mz zs => vs ++ zs ++ mz) (by simp) (by simp) (fun a b c => (a.append c).append b) (by
    intro D doc pm an cdv ct us mv ws h1 h2 h3
    match us, mv, ws, h1, h2, h3 with
    | [_], [_], [_], _, _, _ => exact ⟨_, _, _, _, _, _, rfl, rfl, rfl⟩)
  have n_restrict_low : CalN l.prog w K mg base CX0 "restrict" 1 ["low"] 1 (spRestrict K) (fun vs zs => vs ++ zs ++ [.non]) := ⟨_, _, _, _, O_restrict, g_restrict, k0, kb_restrict_low⟩
  obtain ⟨mv_restrict_low_high, kb_restrict_low_high⟩ := FunD.kbinds0 (ps := ["shape", "low", "high"]) F_restrict 1 ["low", "high"] [] (fun vs mz zs => vs ++ zs ++ mz) (by simp) (by simp) (fun a b c => (a.append c).append b) (by
    intro D doc pm an cdv ct us mv ws h1 h2 h3
    match us, mv, ws, h1, h2, h3 with
    | [_], [], [_, _], _, _, _ => exact rfl)
  have n_restrict_low_high : CalN l.prog w K mg base CX0 "restrict" 1 ["low", "high"] 1 (spRestrict K) (fun vs zs => vs ++ zs) := ⟨_, _, _, _, O_restrict, g_restrict, k0, by simpa using kb_restrict_low_high⟩
  obtain ⟨mv_restrict_high_shape, kb_restrict_high_shape⟩ := FunD.kbinds0 (ps := ["shape", "low", "high"]) F_restrict 0 ["high", "shape"] [("low", .non)] (fun vs mz zs => zs.drop 1 ++ mz ++ zs.take 1) (by simp) (by simp) (fun a b c => ((c.drop 1).append b).append (vals_take c)) (by
    intro D doc pm an cdv ct us mv ws h1 h2 h3
    match us, mv, ws, h1, h2, h3 with
    | [], [_], [_, _], _, _, _ => exact ⟨_, _, _, _, _, _, rfl, rfl, rfl⟩)
  have n_restrict_high_shape : CalN l.prog w K mg base CX0 "restrict" 0 ["high", "shape"] 1 (spRestrict K) (fun vs zs => zs.drop 1 ++ [.non] ++ zs.take 1) := ⟨_, _, _, _, O_restrict, g_restrict, k0, kb_restrict_high_shape⟩
  have n_restrict : CalD l.prog w K mg base CX0 "restrict" [.non, .non] 1 (spRestrict K) := by
    obtain ⟨ds, h1, h2⟩ := FunD.binds0 (ps := ["shape", "low", "high"]) F_restrict 1 (by simp) rfl (by
      intro D doc pm an cdv ct us kz h1 h2
      match us, kz, h1, h2 with
      | [_], [_, _], _, _ => exact ⟨_, _, _, _, _, _, rfl, rfl, ⟨_, _, _, _, _, _, rfl, rfl, rfl⟩⟩)
    exact ⟨_, _, _, ds, O_restrict, g_restrict, k0, h2, h1⟩
  have F_parts_of := fun_mk (st := s_parts_of) l1 c1 k1
  have b_parts_of := F_parts_of.binds (ps := ["shape"]) fun _ _ _ _ _ _ us hl => match us, hl with | [_], _ => rfl
  have g_parts_of := PySem.W.mg_of X G a1
  have c_parts_of : Cal l.prog w K mg base CX0 "parts_of" ["shape"] 2 (spParts K) := ⟨_, _, ok_parts F_parts_of (n_restrict_high.mono (by decide)) (n_restrict_low.mono (by decide)), g_parts_of, F_parts_of.kp, b_parts_of⟩
  have F_search_path := fun_mk (st := s_search_path) l2 c2 k2
  have b_search_path := F_search_path.binds (ps := ["shape", "key"]) fun _ _ _ _ _ _ us hl => match us, hl with | [_, _], _ => rfl
  have g_search_path := PySem.W.mg_of X G a2
  have c_search_path : Cal l.prog w K mg base CX0 "search_path" ["shape", "key"] 3 (spSearch K) := ⟨_, _, ok_search F_search_path (c_parts_of.mono (by decide)), g_search_path, F_search_path.kp, b_search_path⟩
  have F_require_key := fun_mk (st := s_require_key) l3 c3 k3
  have b_require_key := F_require_key.binds (ps := ["shape", "key"]) fun _ _ _ _ _ _ us hl => match us, hl with | [_, _], _ => rfl
  have g_require_key := PySem.W.mg_of X G a3
  have c_require_key : Cal l.prog w K mg base CX0 "require_key" ["shape", "key"] 1 (spReq K) := ⟨_, _, ok_req F_require_key , g_require_key, F_require_key.kp, b_require_key⟩
  have F_path_to := fun_mk (st := s_path_to) l4 c4 k4
  have b_path_to := F_path_to.binds (ps := ["shape", "key"]) fun _ _ _ _ _ _ us hl => match us, hl with | [_, _], _ => rfl
  have g_path_to := PySem.W.mg_of X G a4
  have c_path_to : Cal l.prog w K mg base CX0 "path_to" ["shape", "key"] 4 (spPathTo K) := ⟨_, _, ok_path_to F_path_to (c_require_key.mono (by decide)) (c_search_path.mono (by decide)), g_path_to, F_path_to.kp, b_path_to⟩
  have F_depth_of := fun_mk (st := s_depth_of) l5 c5 k5
  have b_depth_of := F_depth_of.binds (ps := ["shape", "key"]) fun _ _ _ _ _ _ us hl => match us, hl with | [_, _], _ => rfl
  have g_depth_of := PySem.W.mg_of X G a5
  have c_depth_of : Cal l.prog w K mg base CX0 "depth_of" ["shape", "key"] 5 (spDepth K) := ⟨_, _, ok_depth F_depth_of B (c_path_to.mono (by decide)), g_depth_of, F_depth_of.kp, b_depth_of⟩
  have F_mirror := fun_mk (st := s_mirror) l6 c6 k6
  have b_mirror := F_mirror.binds (ps := ["shape"]) fun _ _ _ _ _ _ us hl => match us, hl with | [_], _ => rfl
  have g_mirror := PySem.W.mg_of X G a6
  have c_mirror : Cal l.prog w K mg base CX0 "mirror" ["shape"] 44 (spMir K 42) := ⟨_, _, ok_mir F_mirror c_parts_of g_mirror b_mirror 42, g_mirror, F_mirror.kp, b_mirror⟩
  have F_put_on_top := fun_mk (st := s_put_on_top) l7 c7 k7
  have b_put_on_top := F_put_on_top.binds (ps := ["shape", "key"]) fun _ _ _ _ _ _ us hl => match us, hl with | [_, _], _ => rfl
  have g_put_on_top := PySem.W.mg_of X G a7
  have c_put_on_top : Cal l.prog w K mg base CX0 "put_on_top" ["shape", "key"] 2 (spPut K) := ⟨_, _, ok_put F_put_on_top (n_restrict_high.mono (by decide)) (n_restrict_low.mono (by decide)), g_put_on_top, F_put_on_top.kp, b_put_on_top⟩
  have F_touch := fun_mk (st := s_touch) l8 c8 k8
  have b_touch := F_touch.binds (ps := ["shape", "key"]) fun _ _ _ _ _ _ us hl => match us, hl with | [_, _], _ => rfl
  have g_touch := PySem.W.mg_of X G a8
  have c_touch : Cal l.prog w K mg base CX0 "touch" ["shape", "key"] 6 (spTouch K) := ⟨_, _, ok_touch F_touch (c_depth_of.mono (by decide)) (c_put_on_top.mono (by decide)), g_touch, F_touch.kp, b_touch⟩
  have F_remove_key := fun_mk (st := s_remove_key) l9 c9 k9
  have b_remove_key := F_remove_key.binds (ps := ["shape", "key"]) fun _ _ _ _ _ _ us hl => match us, hl with | [_, _], _ => rfl
  have g_remove_key := PySem.W.mg_of X G a9
  have c_remove_key : Cal l.prog w K mg base CX0 "remove_key" ["shape", "key"] 7 (spRemove K) := ⟨_, _, ok_remove F_remove_key B (c_touch.mono (by decide)) (n_restrict_high.mono (by decide)), g_remove_key, F_remove_key.kp, b_remove_key⟩
  have F__law_start := fun_mk (st := s__law_start) l10 c10 k10
  have b__law_start := F__law_start.binds (ps := ["_law_script"]) fun _ _ _ _ _ _ us hl => match us, hl with | [_], _ => rfl
  have g__law_start := PySem.W.mg_of X G a10
  have c__law_start : Cal l.prog w K mg base CX0 "_law_start" ["_law_script"] 1 (spStart K) := ⟨_, _, ok_start F__law_start B , g__law_start, F__law_start.kp, b__law_start⟩
  have F__law_take := fun_mk (st := s__law_take) l11 c11 k11
  have b__law_take := F__law_take.binds (ps := ["_law_draw", "_law_many"]) fun _ _ _ _ _ _ us hl => match us, hl with | [_, _], _ => rfl
  have g__law_take := PySem.W.mg_of X G a11
  have c__law_take : Cal l.prog w K mg base CX0 "_law_take" ["_law_draw", "_law_many"] 1 spTake := ⟨_, _, ok_take F__law_take B , g__law_take, F__law_take.kp, b__law_take⟩
  have F__law_of := fun_mk (st := s__law_of) l12 c12 k12
  have b__law_of := F__law_of.binds (ps := ["_law_draw", "_law_some"]) fun _ _ _ _ _ _ us hl => match us, hl with | [_, _], _ => rfl
  have g__law_of := PySem.W.mg_of X G a12
  have c__law_of : Cal l.prog w K mg base CX0 "_law_of" ["_law_draw", "_law_some"] 2 (spOf K) := ⟨_, _, ok_of F__law_of B (c__law_take.mono (by decide)), g__law_of, F__law_of.kp, b__law_of⟩
  have F__law_shuffled := fun_mk (st := s__law_shuffled) l13 c13 k13
  have b__law_shuffled := F__law_shuffled.binds (ps := ["_law_draw", "_law_some"]) fun _ _ _ _ _ _ us hl => match us, hl with | [_, _], _ => rfl
  have g__law_shuffled := PySem.W.mg_of X G a13
  have c__law_shuffled : Cal l.prog w K mg base CX0 "_law_shuffled" ["_law_draw", "_law_some"] 2 (spShuf K) := ⟨_, _, ok_shuf F__law_shuffled B (c__law_take.mono (by decide)), g__law_shuffled, F__law_shuffled.kp, b__law_shuffled⟩
  have F__law_keys := fun_mk (st := s__law_keys) l14 c14 k14
  have b__law_keys := F__law_keys.binds (ps := ["_law_draw", "_law_many"]) fun _ _ _ _ _ _ us hl => match us, hl with | [_, _], _ => rfl
  have g__law_keys := PySem.W.mg_of X G a14
  have c__law_keys : Cal l.prog w K mg base CX0 "_law_keys" ["_law_draw", "_law_many"] 3 spKeys := ⟨_, _, ok_keys F__law_keys B (c__law_take.mono (by decide)) (c__law_of.mono (by decide)), g__law_keys, F__law_keys.kp, b__law_keys⟩
  have F__law_size := fun_mk (st := s__law_size) l15 c15 k15
  have b__law_size := F__law_size.binds (ps := ["_law_draw", "_law_most"]) fun _ _ _ _ _ _ us hl => match us, hl with | [_, _], _ => rfl
  have g__law_size := PySem.W.mg_of X G a15
  have c__law_size : Cal l.prog w K mg base CX0 "_law_size" ["_law_draw", "_law_most"] 3 spSize := ⟨_, _, ok_size F__law_size B (c__law_take.mono (by decide)) (c__law_of.mono (by decide)), g__law_size, F__law_size.kp, b__law_size⟩
  have F__law_empty := fun_mk (st := s__law_empty) l16 c16 k16
  have b__law_empty := F__law_empty.binds (ps := []) fun _ _ _ _ _ _ us hl => match us, hl with | [], _ => rfl
  have g__law_empty := PySem.W.mg_of X G a16
  have c__law_empty : Cal l.prog w K mg base CX0 "_law_empty" [] 1 spEmpty := ⟨_, _, ok_empty F__law_empty , g__law_empty, F__law_empty.kp, b__law_empty⟩
  have F__law_place := fun_mk (st := s__law_place) l17 c17 k17
  have b__law_place := F__law_place.binds (ps := ["_law_m", "_law_key"]) fun _ _ _ _ _ _ us hl => match us, hl with | [_, _], _ => rfl
  have g__law_place := PySem.W.mg_of X G a17
  have c__law_place : Cal l.prog w K mg base CX0 "_law_place" ["_law_m", "_law_key"] 1 spPlace := ⟨_, _, ok_place F__law_place B , g__law_place, F__law_place.kp, b__law_place⟩
  have F__law_tree := fun_mk (st := s__law_tree) l18 c18 k18
  have b__law_tree := F__law_tree.binds (ps := ["_law_order"]) fun _ _ _ _ _ _ us hl => match us, hl with | [_], _ => rfl
  have g__law_tree := PySem.W.mg_of X G a18
  have c__law_tree : Cal l.prog w K mg base CX0 "_law_tree" ["_law_order"] 2 (spTree K) := ⟨_, _, ok_tree F__law_tree (c__law_empty.mono (by decide)) (c__law_place.mono (by decide)), g__law_tree, F__law_tree.kp, b__law_tree⟩
  have F__law_shape := fun_mk (st := s__law_shape) l19 c19 k19
  have b__law_shape := F__law_shape.binds (ps := ["_law_m"]) fun _ _ _ _ _ _ us hl => match us, hl with | [_], _ => rfl
  have g__law_shape := PySem.W.mg_of X G a19
  have c__law_shape : Cal l.prog w K mg base CX0 "_law_shape" ["_law_m"] 1 spShape := ⟨_, _, ok_shape F__law_shape B , g__law_shape, F__law_shape.kp, b__law_shape⟩
  have F__law_some_shape := fun_mk (st := s__law_some_shape) l20 c20 k20
  have b__law_some_shape := F__law_some_shape.binds (ps := ["_law_draw", "_law_keys_here"]) fun _ _ _ _ _ _ us hl => match us, hl with | [_, _], _ => rfl
  have g__law_some_shape := PySem.W.mg_of X G a20
  have c__law_some_shape : Cal l.prog w K mg base CX0 "_law_some_shape" ["_law_draw", "_law_keys_here"] 3 (spSome K) := ⟨_, _, ok_some F__law_some_shape B (c__law_take.mono (by decide)) (c__law_shuffled.mono (by decide)) (c__law_tree.mono (by decide)) (c__law_shape.mono (by decide)), g__law_some_shape, F__law_some_shape.kp, b__law_some_shape⟩
  have F_law := fun_mk (st := s_law) l21 c21 k21
  exact ok_law (k := 44) F_law B (c__law_start.mono (by decide)) (c__law_size.mono (by decide)) (c__law_keys.mono (by decide)) (c__law_some_shape.mono (by decide)) (c__law_of.mono (by decide)) (c_touch.mono (by decide)) (c_mirror.mono (by decide)) (c_remove_key.mono (by decide)) (n_restrict_low_high.mono (by decide)) (n_restrict_low.mono (by decide))
end TT
open PySem PySem.W PyProof.Rows
set_option maxHeartbeats 0 in
theorem PySem.Challenge.cw_touchtrees_k14_whole_touches_and_restric_holds : PySem.Challenge.rw_touchtrees_k14_whole_touches_and_restric.Holds := by
  w_on; o_law; k_head; (case hw => w_witness2)
  k_fill
  refine L2.walk_of (l := PySem.Challenge.rw_touchtrees_k14_whole_touches_and_restric) (n := 63) (k := 45) (x := "_law_script") (CX := fun _ => L2.CX0) (sp := fun w => TT.spLaw _) rfl (by decide) rfl ⟨rfl, by decide, by decide⟩ (fun w h Y => PySem.W.kIn_of Y) ?F (fun _ _ a ns hl _ hS => ⟨a, ns, rfl, hS, hl, fun _ => rfl⟩) (fun _ _ _ _ _ h => h)
  case F =>
    intro w mg fa h KX G hmg
    refine' TT.all_mk KX G hmg ?a0 ?l0 ?c0 ?k0 ?w0_0 ?w0_1 ?a1 ?l1 ?c1 ?k1 ?a2 ?l2 ?c2 ?k2 ?a3 ?l3 ?c3 ?k3 ?a4 ?l4 ?c4 ?k4 ?a5 ?l5 ?c5 ?k5 ?a6 ?l6 ?c6 ?k6 ?a7 ?l7 ?c7 ?k7 ?a8 ?l8 ?c8 ?k8 ?a9 ?l9 ?c9 ?k9 ?a10 ?l10 ?c10 ?k10 ?a11 ?l11 ?c11 ?k11 ?a12 ?l12 ?c12 ?k12 ?a13 ?l13 ?c13 ?k13 ?a14 ?l14 ?c14 ?k14 ?a15 ?l15 ?c15 ?k15 ?a16 ?l16 ?c16 ?k16 ?a17 ?l17 ?c17 ?k17 ?a18 ?l18 ?c18 ?k18 ?a19 ?l19 ?c19 ?k19 ?a20 ?l20 ?c20 ?k20 ?a21 ?l21 ?c21 ?k21 ?b_len ?b_list ?b_max ?b_min ?b_range ?b_sorted ?b_tuple
    (case a0 => k_is)
    (case l0 => k_is)
    (case c0 => k_is)
    (case k0 => k_is)
    (case w0_0 => k_is)
    (case w0_1 => k_is)
    (case a1 => k_is)
    (case l1 => k_is)
    (case c1 => k_is)
    (case k1 => k_is)
    (case a2 => k_is)
    (case l2 => k_is)
    (case c2 => k_is)
    (case k2 => k_is)
    (case a3 => k_is)
    (case l3 => k_is)
    (case c3 => k_is)
    (case k3 => k_is)
    (case a4 => k_is)
    (case l4 => k_is)
    (case c4 => k_is)
    (case k4 => k_is)
    (case a5 => k_is)
    (case l5 => k_is)
    (case c5 => k_is)
    (case k5 => k_is)
    (case a6 => k_is)
    (case l6 => k_is)
    (case c6 => k_is)
    (case k6 => k_is)
    (case a7 => k_is)
    (case l7 => k_is)
    (case c7 => k_is)
    (case k7 => k_is)
    (case a8 => k_is)
    (case l8 => k_is)
    (case c8 => k_is)
    (case k8 => k_is)
    (case a9 => k_is)
    (case l9 => k_is)
    (case c9 => k_is)
    (case k9 => k_is)
    (case a10 => k_is)
    (case l10 => k_is)
    (case c10 => k_is)
    (case k10 => k_is)
    (case a11 => k_is)
    (case l11 => k_is)
    (case c11 => k_is)
    (case k11 => k_is)
    (case a12 => k_is)
    (case l12 => k_is)
    (case c12 => k_is)
    (case k12 => k_is)
    (case a13 => k_is)
    (case l13 => k_is)
    (case c13 => k_is)
    (case k13 => k_is)
    (case a14 => k_is)
    (case l14 => k_is)
    (case c14 => k_is)
    (case k14 => k_is)
    (case a15 => k_is)
    (case l15 => k_is)
    (case c15 => k_is)
    (case k15 => k_is)
    (case a16 => k_is)
    (case l16 => k_is)
    (case c16 => k_is)
    (case k16 => k_is)
    (case a17 => k_is)
    (case l17 => k_is)
    (case c17 => k_is)
    (case k17 => k_is)
    (case a18 => k_is)
    (case l18 => k_is)
    (case c18 => k_is)
    (case k18 => k_is)
    (case a19 => k_is)
    (case l19 => k_is)
    (case c19 => k_is)
    (case k19 => k_is)
    (case a20 => k_is)
    (case l20 => k_is)
    (case c20 => k_is)
    (case k20 => k_is)
    (case a21 => k_is)
    (case l21 => k_is)
    (case c21 => k_is)
    (case k21 => k_is)
    (case b_len => k_is)
    (case b_list => k_is)
    (case b_max => k_is)
    (case b_min => k_is)
    (case b_range => k_is)
    (case b_sorted => k_is)
    (case b_tuple => k_is)
