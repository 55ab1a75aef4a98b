import PyProof.Rows.All
import Wide.All
import OpenK.AllK
import Wide.FinOn
import HandS.ForMost
import HandS.More
import HandS.Wide
import HandS.Style
import HandS.IsInst
import HandS.Defaults
import HandS.MakeKwOnly
import HandS.Zip
import HandS.Walk
import HandS.Flow
import HandS.Codes
import HandS.WordsDict
import HandS.SortRule
import HandS.SortInts
import HandS.Exc
import HandS.ExcInit
import HandS.ExcField
import HandS.HotCalls
import HandS.Lambda
import HandS.WordsExc
import KE.KTryMore
import HandS.FStr
import HandS.ExcCtx
import HandS.Hot
import KE.GoesEnum
import HandS.EndOwn
import KE.KNestM
import KE.KExcInit
import HandS.TupAny
import HandS.SortKw
import KE.KIndexOf
import HandS.TupSets
import HandS.SetFor
import HandS.Strs
import PyProof.ReprRoads
import HandS.StrMore
import HandS.Steps
import KE.IntTextText
import KE.KIntText
import PySem.Challenge.RW_touchtrees_k56_texts_of_histories
set_option Elab.async false
set_option linter.all false
set_option maxRecDepth 100000
set_option maxHeartbeats 4000000
/-! plain mathematics of search trees: insertion, preorder, children, paths, spines, mirrors -/
namespace TT
inductive T where
  | leaf
  | node (l : T) (k : Int) (r : T)

namespace T
def rt : T → Option Int
  | leaf => none
  | node _ k _ => some k
def pre : T → List Int
  | leaf => []
  | node l k r => k :: (l.pre ++ r.pre)
def bst : T → Prop
  | leaf => True
  | node l k r => (∀ x ∈ l.pre, x < k) ∧ (∀ x ∈ r.pre, k < x) ∧ l.bst ∧ r.bst
def ins (key : Int) : T → T
  | leaf => node leaf key leaf
  | node l k r => if key < k then node (l.ins key) k r else node l k (r.ins key)
def lc : T → Int → Option Int
  | leaf, _ => none
  | node l k r, x => if x = k then l.rt else if x < k then l.lc x else r.lc x
def rc : T → Int → Option Int
  | leaf, _ => none
  | node l k r, x => if x = k then r.rt else if x < k then l.rc x else r.rc x
def up : T → Int → Option Int
  | leaf, _ => none
  | node l k r, x => if x < k then (if l.rt = some x then some k else l.up x) else if k < x then (if r.rt = some x then some k else r.up x) else none
/-- where a leaf is put: the parent, and whether to its left -/
def spot (key : Int) : T → Option (Int × Bool)
  | leaf => none
  | node l k r => if key < k then (match l with | leaf => some (k, true) | node _ _ _ => l.spot key) else (match r with | leaf => some (k, false) | node _ _ _ => r.spot key)
def dIns (key : Int) : T → Nat
  | leaf => 0
  | node l k r => (if key < k then l.dIns key else r.dIns key) + 1
def insAll (ks : List Int) (t : T) : T := ks.foldl (fun t k => t.ins k) t
def path (key : Int) : T → List Int
  | leaf => []
  | node l k r => if key = k then [k] else if key < k then k :: l.path key else k :: r.path key
def lsp : T → Nat
  | leaf => 0
  | node l _ _ => l.lsp + 1
def rsp : T → Nat
  | leaf => 0
  | node _ _ r => r.rsp + 1
def mir : T → T
  | leaf => leaf
  | node l k r => node r.mir (-k) l.mir
end T
open T

theorem rt_mem {t : T} {x : Int} (h : t.rt = some x) : x ∈ t.pre := by
  cases t with
  | leaf => cases h
  | node l k r => cases h; exact List.mem_cons_self
theorem mem_node {l r : T} {k x : Int} : x ∈ (node l k r).pre ↔ x = k ∨ x ∈ l.pre ∨ x ∈ r.pre := by
  simp only [pre, List.mem_cons, List.mem_append]
theorem mem_ins {key x : Int} : ∀ {t : T}, x ∈ (t.ins key).pre ↔ x = key ∨ x ∈ t.pre
  | leaf => by simp [ins, pre]
  | node l k r => by
    unfold ins
    split
    · rw [mem_node, mem_node, mem_ins (t := l)]
      constructor
      · rintro (h | (h | h) | h)
        · exact .inr (.inl h)
        · exact .inl h
        · exact .inr (.inr (.inl h))
        · exact .inr (.inr (.inr h))
      · rintro (h | h | h | h)
        · exact .inr (.inl (.inl h))
        · exact .inl h
        · exact .inr (.inl (.inr h))
        · exact .inr (.inr h)
    · rw [mem_node, mem_node, mem_ins (t := r)]
      constructor
      · rintro (h | h | h | h)
        · exact .inr (.inl h)
        · exact .inr (.inr (.inl h))
        · exact .inl h
        · exact .inr (.inr (.inr h))
      · rintro (h | h | h | h)
        · exact .inr (.inr (.inl h))
        · exact .inl h
        · exact .inr (.inl h)
        · exact .inr (.inr (.inr h))
theorem len_ins {key : Int} : ∀ {t : T}, (t.ins key).pre.length = t.pre.length + 1
  | leaf => rfl
  | node l k r => by
    unfold ins
    split
    · simp only [pre, List.length_cons, List.length_append, len_ins]; omega
    · simp only [pre, List.length_cons, List.length_append, len_ins]; omega
theorem bst_ins {key : Int} : ∀ {t : T}, t.bst → key ∉ t.pre → (t.ins key).bst
  | leaf, _, _ => ⟨fun _ h => (by cases h), fun _ h => (by cases h), trivial, trivial⟩
  | node l k r, ⟨h1, h2, h3, h4⟩, hn => by
    rw [mem_node] at hn
    have n1 : key ≠ k := fun e => hn (.inl e)
    have n2 : key ∉ l.pre := fun e => hn (.inr (.inl e))
    have n3 : key ∉ r.pre := fun e => hn (.inr (.inr e))
    unfold ins
    split
    · next h =>
      refine ⟨fun x hx => ?_, h2, bst_ins h3 n2, h4⟩
      rcases mem_ins.mp hx with e | e
      · omega
      · exact h1 x e
    · next h =>
      refine ⟨h1, fun x hx => ?_, h3, bst_ins h4 n3⟩
      rcases mem_ins.mp hx with e | e
      · omega
      · exact h2 x e
theorem rt_ins {key : Int} {t : T} (h : t ≠ leaf) : (t.ins key).rt = t.rt := by
  cases t with
  | leaf => exact absurd rfl h
  | node l k r => unfold ins; split <;> rfl
theorem spot_node {key k : Int} {l r : T} : (node l k r).spot key = if key < k then (if l.rt = none then some (k, true) else l.spot key) else (if r.rt = none then some (k, false) else r.spot key) := by
  unfold spot
  split
  · cases l <;> simp [rt, spot]
  · cases r <;> simp [rt, spot]
theorem rt_none {t : T} (h : t.rt = none) : t = leaf := by
  cases t with
  | leaf => rfl
  | node l k r => cases h
theorem spot_mem {key : Int} : ∀ {t : T} {p : Int} {b : Bool}, t.spot key = some (p, b) → p ∈ t.pre
  | leaf, _, _, h => by cases h
  | node l k r, p, b, h => by
    rw [spot_node] at h
    rw [mem_node]
    split at h
    · split at h
      · cases h; exact .inl rfl
      · exact .inr (.inl (spot_mem h))
    · split at h
      · cases h; exact .inl rfl
      · exact .inr (.inr (spot_mem h))
theorem lc_out : ∀ {t : T} {x : Int}, x ∉ t.pre → t.lc x = none
  | leaf, _, _ => rfl
  | node l k r, x, h => by
    rw [mem_node] at h
    unfold lc
    rw [if_neg (fun e => h (.inl e))]
    split
    · exact lc_out fun e => h (.inr (.inl e))
    · exact lc_out fun e => h (.inr (.inr e))
theorem rc_out : ∀ {t : T} {x : Int}, x ∉ t.pre → t.rc x = none
  | leaf, _, _ => rfl
  | node l k r, x, h => by
    rw [mem_node] at h
    unfold rc
    rw [if_neg (fun e => h (.inl e))]
    split
    · exact rc_out fun e => h (.inr (.inl e))
    · exact rc_out fun e => h (.inr (.inr e))
theorem lc_one {key x : Int} : (node leaf key leaf).lc x = none := by unfold lc; split; rfl; split <;> rfl
theorem rc_one {key x : Int} : (node leaf key leaf).rc x = none := by unfold rc; split; rfl; split <;> rfl
theorem up_one {key x : Int} : (node leaf key leaf).up x = none := by
  unfold up; split
  · rw [if_neg (by intro h; cases h)]; rfl
  · split
    · rw [if_neg (by intro h; cases h)]; rfl
    · rfl
theorem lc_ins {key : Int} : ∀ {t : T}, t.bst → key ∉ t.pre → ∀ x, (t.ins key).lc x = if t.spot key = some (x, true) then some key else t.lc x
  | leaf, _, _, x => by rw [if_neg (by intro h; cases h)]; exact lc_one
  | node l k r, ⟨h1, h2, h3, h4⟩, hn, x => by
    rw [mem_node] at hn
    have n1 : key ≠ k := fun e => hn (.inl e)
    have n2 : key ∉ l.pre := fun e => hn (.inr (.inl e))
    have n3 : key ∉ r.pre := fun e => hn (.inr (.inr e))
    have i1 := lc_ins h3 n2
    have i2 := lc_ins h4 n3
    rw [spot_node]
    unfold ins
    by_cases h : key < k
    · rw [if_pos h, if_pos h]
      by_cases e : l.rt = none
      · cases rt_none e
        rw [if_pos e]
        show (if x = k then some key else if x < k then (node leaf key leaf).lc x else r.lc x) = _
        by_cases ex : x = k
        · subst ex; simp
        · rw [if_neg (show ¬ some (k, true) = some (x, true) from fun z => ex (Prod.mk.inj (Option.some.inj z)).1.symm), lc_one]
          show _ = (if x = k then leaf.rt else if x < k then leaf.lc x else r.lc x)
          rw [if_neg ex, if_neg ex]; rfl
      · rw [if_neg e]
        show (if x = k then (l.ins key).rt else if x < k then (l.ins key).lc x else r.lc x) = _
        rw [rt_ins (fun z => e (by rw [z]; rfl)), i1 x]
        show _ = (if l.spot key = some (x, true) then some key else if x = k then l.rt else if x < k then l.lc x else r.lc x)
        by_cases es : l.spot key = some (x, true)
        · have := h1 _ (spot_mem es)
          rw [if_pos es, if_neg (by omega), if_pos (by omega)]
          simp [es]
        · rw [if_neg es, if_neg es]
    · rw [if_neg h, if_neg h]
      by_cases e : r.rt = none
      · cases rt_none e
        rw [if_pos e]
        show (if x = k then l.rt else if x < k then l.lc x else (node leaf key leaf).lc x) = _
        rw [if_neg (show ¬ some (k, false) = some (x, true) from fun z => Bool.noConfusion (Prod.mk.inj (Option.some.inj z)).2), lc_one]; rfl
      · rw [if_neg e]
        show (if x = k then l.rt else if x < k then l.lc x else (r.ins key).lc x) = _
        rw [i2 x]
        show _ = (if r.spot key = some (x, true) then some key else if x = k then l.rt else if x < k then l.lc x else r.lc x)
        by_cases es : r.spot key = some (x, true)
        · have := h2 _ (spot_mem es)
          rw [if_pos es, if_neg (by omega), if_neg (by omega)]
          simp [es]
        · rw [if_neg es, if_neg es]
theorem rc_ins {key : Int} : ∀ {t : T}, t.bst → key ∉ t.pre → ∀ x, (t.ins key).rc x = if t.spot key = some (x, false) then some key else t.rc x
  | leaf, _, _, x => by rw [if_neg (by intro h; cases h)]; exact rc_one
  | node l k r, ⟨h1, h2, h3, h4⟩, hn, x => by
    rw [mem_node] at hn
    have n1 : key ≠ k := fun e => hn (.inl e)
    have n2 : key ∉ l.pre := fun e => hn (.inr (.inl e))
    have n3 : key ∉ r.pre := fun e => hn (.inr (.inr e))
    have i1 := rc_ins h3 n2
    have i2 := rc_ins h4 n3
    rw [spot_node]
    unfold ins
    by_cases h : key < k
    · rw [if_pos h, if_pos h]
      by_cases e : l.rt = none
      · cases rt_none e
        rw [if_pos e]
        show (if x = k then r.rt else if x < k then (node leaf key leaf).rc x else r.rc x) = _
        rw [if_neg (show ¬ some (k, true) = some (x, false) from fun z => Bool.noConfusion (Prod.mk.inj (Option.some.inj z)).2), rc_one]; rfl
      · rw [if_neg e]
        show (if x = k then r.rt else if x < k then (l.ins key).rc x else r.rc x) = _
        rw [i1 x]
        show _ = (if l.spot key = some (x, false) then some key else if x = k then r.rt else if x < k then l.rc x else r.rc x)
        by_cases es : l.spot key = some (x, false)
        · have := h1 _ (spot_mem es)
          rw [if_pos es, if_neg (by omega), if_pos (by omega)]
          simp [es]
        · rw [if_neg es, if_neg es]
    · rw [if_neg h, if_neg h]
      by_cases e : r.rt = none
      · cases rt_none e
        rw [if_pos e]
        show (if x = k then some key else if x < k then l.rc x else (node leaf key leaf).rc x) = _
        by_cases ex : x = k
        · subst ex; simp
        · rw [if_neg (show ¬ some (k, false) = some (x, false) from fun z => ex (Prod.mk.inj (Option.some.inj z)).1.symm), rc_one]
          show _ = (if x = k then leaf.rt else if x < k then l.rc x else leaf.rc x)
          rw [if_neg ex, if_neg ex]; rfl
      · rw [if_neg e]
        show (if x = k then (r.ins key).rt else if x < k then l.rc x else (r.ins key).rc x) = _
        rw [rt_ins (fun z => e (by rw [z]; rfl)), i2 x]
        show _ = (if r.spot key = some (x, false) then some key else if x = k then r.rt else if x < k then l.rc x else r.rc x)
        by_cases es : r.spot key = some (x, false)
        · have := h2 _ (spot_mem es)
          rw [if_pos es, if_neg (by omega), if_neg (by omega)]
          simp [es]
        · rw [if_neg es, if_neg es]
theorem up_ins {key : Int} : ∀ {t : T}, t.bst → key ∉ t.pre → ∀ x, (t.ins key).up x = if x = key then (t.spot key).map (·.1) else t.up x
  | leaf, _, _, x => by
    show (node leaf key leaf).up x = _
    rw [up_one]; split <;> rfl
  | node l k r, ⟨h1, h2, h3, h4⟩, hn, x => by
    rw [mem_node] at hn
    have n1 : key ≠ k := fun e => hn (.inl e)
    have n2 : key ∉ l.pre := fun e => hn (.inr (.inl e))
    have n3 : key ∉ r.pre := fun e => hn (.inr (.inr e))
    have i1 := up_ins h3 n2
    have i2 := up_ins h4 n3
    rw [spot_node]
    unfold ins
    by_cases h : key < k
    · rw [if_pos h, if_pos h]
      show (if x < k then (if (l.ins key).rt = some x then some k else (l.ins key).up x) else if k < x then (if r.rt = some x then some k else r.up x) else none) = (if x = key then _ else (if x < k then (if l.rt = some x then some k else l.up x) else if k < x then (if r.rt = some x then some k else r.up x) else none))
      by_cases xk : x < k
      · rw [if_pos xk, if_pos xk]
        by_cases e : l.rt = none
        · cases rt_none e
          rw [if_pos e]
          show (if some key = some x then some k else (node leaf key leaf).up x) = _
          rw [up_one]
          by_cases ex : x = key
          · subst ex; simp
          · rw [if_neg (show ¬ some key = some x from fun z => ex (Option.some.inj z).symm), if_neg ex]; rfl
        · rw [if_neg e, rt_ins (fun z => e (by rw [z]; rfl)), i1 x]
          by_cases ex : x = key
          · subst ex
            rw [if_neg (fun z => n2 (rt_mem z)), if_pos rfl, if_pos rfl]
          · rw [if_neg ex, if_neg ex]
      · rw [if_neg xk, if_neg xk, if_neg (show ¬ x = key by omega)]
    · rw [if_neg h, if_neg h]
      show (if x < k then (if l.rt = some x then some k else l.up x) else if k < x then (if (r.ins key).rt = some x then some k else (r.ins key).up x) else none) = (if x = key then _ else (if x < k then (if l.rt = some x then some k else l.up x) else if k < x then (if r.rt = some x then some k else r.up x) else none))
      by_cases xk : x < k
      · rw [if_pos xk, if_pos xk, if_neg (show ¬ x = key by omega)]
      · rw [if_neg xk, if_neg xk]
        by_cases kx : k < x
        · rw [if_pos kx, if_pos kx]
          by_cases e : r.rt = none
          · cases rt_none e
            rw [if_pos e]
            show (if some key = some x then some k else (node leaf key leaf).up x) = _
            rw [up_one]
            by_cases ex : x = key
            · subst ex; simp
            · rw [if_neg (show ¬ some key = some x from fun z => ex (Option.some.inj z).symm), if_neg ex]; rfl
          · rw [if_neg e, rt_ins (fun z => e (by rw [z]; rfl)), i2 x]
            by_cases ex : x = key
            · subst ex
              rw [if_neg (fun z => n3 (rt_mem z)), if_pos rfl, if_pos rfl]
            · rw [if_neg ex, if_neg ex]
        · rw [if_neg kx, if_neg kx, if_neg (show ¬ x = key by omega)]
theorem dIns_le {key : Int} : ∀ {t : T}, t.dIns key ≤ t.pre.length
  | leaf => Nat.le_refl _
  | node l k r => by
    have i1 := dIns_le (key := key) (t := l)
    have i2 := dIns_le (key := key) (t := r)
    unfold dIns
    simp only [pre, List.length_cons, List.length_append]
    split <;> omega
/-- s is a subtree of t, as far as children go -/
def Sub (s t : T) : Prop := ∀ x ∈ s.pre, t.lc x = s.lc x ∧ t.rc x = s.rc x
theorem Sub.refl (t : T) : Sub t t := fun _ _ => ⟨rfl, rfl⟩
theorem Sub.l {l r t : T} {k : Int} (h : Sub (node l k r) t) (b : (node l k r).bst) : Sub l t := fun x hx => by
  have := b.1 x hx
  obtain ⟨a, c⟩ := h x (mem_node.mpr (.inr (.inl hx)))
  rw [a, c]
  show (if x = k then l.rt else if x < k then l.lc x else r.lc x) = _ ∧ (if x = k then r.rt else if x < k then l.rc x else r.rc x) = _
  rw [if_neg (show ¬ x = k by omega), if_neg (show ¬ x = k by omega), if_pos this, if_pos this]
  exact ⟨rfl, rfl⟩
theorem Sub.r {l r t : T} {k : Int} (h : Sub (node l k r) t) (b : (node l k r).bst) : Sub r t := fun x hx => by
  have := b.2.1 x hx
  obtain ⟨a, c⟩ := h x (mem_node.mpr (.inr (.inr hx)))
  rw [a, c]
  show (if x = k then l.rt else if x < k then l.lc x else r.lc x) = _ ∧ (if x = k then r.rt else if x < k then l.rc x else r.rc x) = _
  rw [if_neg (show ¬ x = k by omega), if_neg (show ¬ x = k by omega), if_neg (show ¬ x < k by omega), if_neg (show ¬ x < k by omega)]
  exact ⟨rfl, rfl⟩
theorem Sub.top {l r t : T} {k : Int} (h : Sub (node l k r) t) : t.lc k = l.rt ∧ t.rc k = r.rt := by
  obtain ⟨a, c⟩ := h k (mem_node.mpr (.inl rfl))
  rw [a, c]
  unfold lc rc
  rw [if_pos rfl, if_pos rfl]
  exact ⟨rfl, rfl⟩
/-! ### all keys of a list -/
theorem mem_insAll {x : Int} : ∀ {ks : List Int} {t : T}, x ∈ (insAll ks t).pre ↔ x ∈ ks ∨ x ∈ t.pre
  | [], t => by simp [insAll]
  | k :: ks, t => by
    show x ∈ (insAll ks (t.ins k)).pre ↔ _
    rw [mem_insAll, mem_ins, List.mem_cons]
    constructor
    · rintro (h | h | h)
      · exact .inl (.inr h)
      · exact .inl (.inl h)
      · exact .inr h
    · rintro ((h | h) | h)
      · exact .inr (.inl h)
      · exact .inl h
      · exact .inr (.inr h)
theorem len_insAll : ∀ {ks : List Int} {t : T}, (insAll ks t).pre.length = t.pre.length + ks.length
  | [], t => rfl
  | k :: ks, t => by
    show (insAll ks (t.ins k)).pre.length = _
    rw [len_insAll, len_ins, List.length_cons]; omega
theorem bst_insAll : ∀ {ks : List Int} {t : T}, t.bst → ks.Nodup → (∀ k ∈ ks, k ∉ t.pre) → (insAll ks t).bst
  | [], _, h, _, _ => h
  | k :: ks, t, h, nd, hn => by
    rw [List.nodup_cons] at nd
    refine bst_insAll (ks := ks) (t := t.ins k) (bst_ins h (hn k List.mem_cons_self)) nd.2 fun j hj hm => ?_
    rcases mem_ins.mp hm with e | e
    · subst e; exact nd.1 hj
    · exact hn j (List.mem_cons_of_mem _ hj) e
theorem insAll_take_succ {ks : List Int} {i : Nat} {k : Int} (h : ks[i]? = some k) {t : T} : insAll (ks.take (i + 1)) t = (insAll (ks.take i) t).ins k := by
  rw [List.take_add_one, h]
  unfold insAll
  rw [List.foldl_append]; rfl
theorem insAll_split : ∀ (ks : List Int) (l r : T) (k : Int), insAll ks (node l k r) = node (insAll (ks.filter fun x => decide (x < k)) l) k (insAll (ks.filter fun x => !decide (x < k)) r)
  | [], _, _, _ => rfl
  | x :: ks, l, r, k => by
    show insAll ks ((node l k r).ins x) = _
    unfold ins
    by_cases h : x < k
    · rw [if_pos h, insAll_split ks, List.filter_cons_of_pos (by simpa using h), List.filter_cons_of_neg (by simpa using h)]; rfl
    · rw [if_neg h, insAll_split ks, List.filter_cons_of_neg (by simpa using h), List.filter_cons_of_pos (by simpa using h)]; rfl
theorem filter_all {p : Int → Bool} {l : List Int} (h : ∀ x ∈ l, p x = true) : l.filter p = l := List.filter_eq_self.mpr h
theorem filter_none {p : Int → Bool} {l : List Int} (h : ∀ x ∈ l, p x = false) : l.filter p = [] := List.filter_eq_nil_iff.mpr fun x hx => by rw [h x hx]; exact Bool.false_ne_true
theorem pre_lt {l r : T} {k : Int} (b : (node l k r).bst) : (node l k r).pre.filter (fun x => decide (x < k)) = l.pre := by
  show (k :: (l.pre ++ r.pre)).filter _ = _
  rw [List.filter_cons_of_neg (by simp), List.filter_append, filter_all fun x hx => decide_eq_true (b.1 x hx), filter_none fun x hx => decide_eq_false (by have := b.2.1 x hx; omega), List.append_nil]
theorem pre_gt {l r : T} {k : Int} (b : (node l k r).bst) : (node l k r).pre.filter (fun x => decide (k < x)) = r.pre := by
  show (k :: (l.pre ++ r.pre)).filter _ = _
  rw [List.filter_cons_of_neg (by simp), List.filter_append, filter_none fun x hx => decide_eq_false (by have := b.1 x hx; omega), filter_all fun x hx => decide_eq_true (b.2.1 x hx), List.nil_append]
theorem insAll_pre : ∀ {t : T}, t.bst → insAll t.pre leaf = t
  | leaf, _ => rfl
  | node l k r, b => by
    show insAll (l.pre ++ r.pre) (node leaf k leaf) = _
    rw [insAll_split, List.filter_append, List.filter_append]
    rw [filter_all (p := fun x => decide (x < k)) fun x hx => decide_eq_true (b.1 x hx), filter_none (p := fun x => decide (x < k)) (l := r.pre) fun x hx => decide_eq_false (by have := b.2.1 x hx; omega)]
    rw [filter_none (p := fun x => !decide (x < k)) (l := l.pre) fun x hx => by simp [b.1 x hx], filter_all (p := fun x => !decide (x < k)) (l := r.pre) fun x hx => by have := b.2.1 x hx; simp; omega]
    rw [List.append_nil, List.nil_append, insAll_pre b.2.2.1, insAll_pre b.2.2.2]
theorem nodup_pre : ∀ {t : T}, t.bst → t.pre.Nodup
  | leaf, _ => List.nodup_nil
  | node l k r, b => by
    show (k :: (l.pre ++ r.pre)).Nodup
    rw [List.nodup_cons, List.nodup_append]
    refine ⟨fun h => ?_, nodup_pre b.2.2.1, nodup_pre b.2.2.2, fun x hx y hy => ?_⟩
    · rcases List.mem_append.mp h with e | e
      · have := b.1 _ e; omega
      · have := b.2.1 _ e; omega
    · have := b.1 _ hx; have := b.2.1 _ hy; omega
/-! ### paths, spines -/
theorem path_min : ∀ {t : T} {m : Int}, t.bst → m ∈ t.pre → (∀ y ∈ t.pre, m ≤ y) → (t.path m).length = t.lsp
  | leaf, _, _, h, _ => by cases h
  | node l k r, m, b, hm, hmin => by
    have mk := hmin k (mem_node.mpr (.inl rfl))
    cases l with
    | leaf =>
      have e : m = k := by
        rcases mem_node.mp hm with e | e | e
        · exact e
        · cases e
        · have := b.2.1 _ e; omega
      unfold path lsp
      rw [if_pos e]; rfl
    | node a x c =>
      have hx : x < k := b.1 x (mem_node.mpr (.inl rfl))
      have mx := hmin x (mem_node.mpr (.inr (.inl (mem_node.mpr (.inl rfl)))))
      unfold path
      rw [if_neg (by omega), if_pos (by omega)]
      show ((node a x c).path m).length + 1 = (node a x c).lsp + 1
      rw [path_min b.2.2.1 ?_ fun y hy => hmin y (mem_node.mpr (.inr (.inl hy)))]
      rcases mem_node.mp hm with e | e | e
      · omega
      · exact e
      · have := b.2.1 _ e; omega
theorem path_max : ∀ {t : T} {m : Int}, t.bst → m ∈ t.pre → (∀ y ∈ t.pre, y ≤ m) → (t.path m).length = t.rsp
  | leaf, _, _, h, _ => by cases h
  | node l k r, m, b, hm, hmax => by
    have mk := hmax k (mem_node.mpr (.inl rfl))
    cases r with
    | leaf =>
      have e : m = k := by
        rcases mem_node.mp hm with e | e | e
        · exact e
        · have := b.1 _ e; omega
        · cases e
      unfold path rsp
      rw [if_pos e]; rfl
    | node a x c =>
      have hx : k < x := b.2.1 x (mem_node.mpr (.inl rfl))
      have mx := hmax x (mem_node.mpr (.inr (.inr (mem_node.mpr (.inl rfl)))))
      unfold path
      rw [if_neg (by omega), if_neg (by omega)]
      show ((node a x c).path m).length + 1 = (node a x c).rsp + 1
      rw [path_max b.2.2.2 ?_ fun y hy => hmax y (mem_node.mpr (.inr (.inr hy)))]
      rcases mem_node.mp hm with e | e | e
      · omega
      · have := b.1 _ e; omega
      · exact e
theorem lsp_le : ∀ {t : T}, t.lsp ≤ t.pre.length
  | leaf => Nat.le_refl _
  | node l k r => by
    have := lsp_le (t := l)
    simp only [lsp, pre, List.length_cons, List.length_append]; omega
theorem rsp_le : ∀ {t : T}, t.rsp ≤ t.pre.length
  | leaf => Nat.le_refl _
  | node l k r => by
    have := rsp_le (t := r)
    simp only [rsp, pre, List.length_cons, List.length_append]; omega
/-! ### mirrors -/
theorem mir_mir : ∀ {t : T}, t.mir.mir = t
  | leaf => rfl
  | node l k r => by simp only [mir, mir_mir, Int.neg_neg]
theorem mem_mir {x : Int} : ∀ {t : T}, x ∈ t.mir.pre ↔ -x ∈ t.pre
  | leaf => by simp [mir, pre]
  | node l k r => by
    show x ∈ (node r.mir (-k) l.mir).pre ↔ _
    rw [mem_node, mem_node, mem_mir, mem_mir]
    constructor
    · rintro (h | h | h)
      · exact .inl (by omega)
      · exact .inr (.inr h)
      · exact .inr (.inl h)
    · rintro (h | h | h)
      · exact .inl (by omega)
      · exact .inr (.inr h)
      · exact .inr (.inl h)
theorem len_mir : ∀ {t : T}, t.mir.pre.length = t.pre.length
  | leaf => rfl
  | node l k r => by simp only [mir, pre, List.length_cons, List.length_append, len_mir]; omega
theorem bst_mir : ∀ {t : T}, t.bst → t.mir.bst
  | leaf, _ => trivial
  | node l k r, b => ⟨fun x hx => by have := b.2.1 _ (mem_mir.mp hx); omega, fun x hx => by have := b.1 _ (mem_mir.mp hx); omega, bst_mir b.2.2.2, bst_mir b.2.2.1⟩
theorem rt_mir : ∀ {t : T}, t.mir.rt = t.rt.map (fun x => -x)
  | leaf => rfl
  | node _ _ _ => rfl
theorem lc_mir {x : Int} : ∀ {t : T}, t.mir.lc x = (t.rc (-x)).map (fun y => -y)
  | leaf => rfl
  | node l k r => by
    show (if x = -k then r.mir.rt else if x < -k then r.mir.lc x else l.mir.lc x) = ((if -x = k then r.rt else if -x < k then l.rc (-x) else r.rc (-x))).map _
    by_cases h : x = -k
    · rw [if_pos h, if_pos (show -x = k by omega), rt_mir]
    · rw [if_neg h, if_neg (show ¬ -x = k by omega)]
      by_cases g : x < -k
      · rw [if_pos g, if_neg (show ¬ -x < k by omega), lc_mir]
      · rw [if_neg g, if_pos (show -x < k by omega), lc_mir]
theorem rc_mir {x : Int} : ∀ {t : T}, t.mir.rc x = (t.lc (-x)).map (fun y => -y)
  | leaf => rfl
  | node l k r => by
    show (if x = -k then l.mir.rt else if x < -k then r.mir.rc x else l.mir.rc x) = ((if -x = k then l.rt else if -x < k then l.lc (-x) else r.lc (-x))).map _
    by_cases h : x = -k
    · rw [if_pos h, if_pos (show -x = k by omega), rt_mir]
    · rw [if_neg h, if_neg (show ¬ -x = k by omega)]
      by_cases g : x < -k
      · rw [if_pos g, if_neg (show ¬ -x < k by omega), rc_mir]
      · rw [if_neg g, if_pos (show -x < k by omega), rc_mir]
end TT
namespace TT
open PySem PySem.Spec PyProof.Rows L2
/-! ### defs that are called by name -/
/-- the def x: it is called by its parameters ps, keeps sp, at level k -/
structure Cal (P : Program) (w : World) (K : PySem.W.Frag) (mg : Str → Option Value) (base : Heap) (CX : CXT) (x : Str) (ps : List Str) (k : Nat) (sp : Sp) : Prop where
  ex : ∃ f fd, FnOk P w K mg base CX k f fd ps sp ∧ mg x = some (.ref f) ∧ PySem.W.keepIn K (.ref f) = true ∧ Binds K fd ps []
theorem Cal.mono {P : Program} {w : World} {K : PySem.W.Frag} {mg : Str → Option Value} {base : Heap} {CX : CXT} {x : Str} {ps : List Str} {j k : Nat} {sp : Sp} (c : Cal P w K mg base CX x ps j sp) (h : j ≤ k) : Cal P w K mg base CX x ps k sp := by
  obtain ⟨f, fd, o, a, b, d⟩ := c.ex
  exact ⟨f, fd, o.mono h, a, b, d⟩
/-- the same with keywords ks behind n values -/
structure CalN (P : Program) (w : World) (K : PySem.W.Frag) (mg : Str → Option Value) (base : Heap) (CX : CXT) (x : Str) (n : Nat) (ks : List Str) (k : Nat) (sp : Sp) (gV : List V → List V → List V) : Prop where
  ex : ∃ f fd ps g, FnOk P w K mg base CX k f fd ps sp ∧ mg x = some (.ref f) ∧ PySem.W.keepIn K (.ref f) = true ∧ KBn K fd ps n ks g gV
section
variable {X : Cx} {ps ks : List Str} {k n : Nat} {sp : Sp} {x : Str} {e : Expr} {es : List Expr} {kws : List Keyword} {t tk : TA} {p pos : Pos} {gV : List V → List V → List V}
theorem pe_cal (c : Cal X.prog X.w X.K X.mg X.base CX0 x ps k sp) (hr : Room k X.A) (hg : Gl X x) (ha : PA X (e :: es) t) (hdb : (x == ("__debug__" : Str)) = false := by decide) (he : starEach (e :: es) X.env = (false, eval e X.env) :: starEach es X.env := by rfl)
    (hpl : (backTo pos (starEach es X.env)).any (·.1) = false := by rfl) : PE X (.Call (.Name x p) (e :: es) [] pos) (tCall sp [] E0 t) := by
  obtain ⟨f, fd, o, a, b, d⟩ := c.ex
  exact pe_call o hr hg a b d .nil pass0 ha hdb he hpl
theorem pe_cal0 (c : Cal X.prog X.w X.K X.mg X.base CX0 x ps k sp) (hr : Room k X.A) (hg : Gl X x) (hdb : (x == ("__debug__" : Str)) = false := by decide) : PE X (.Call (.Name x p) [] [] pos) (tCall sp [] E0 tNil) := by
  obtain ⟨f, fd, o, a, b, d⟩ := c.ex
  exact pe_call0 o hr hg a b d .nil pass0 hdb
theorem pe_calN (c : CalN X.prog X.w X.K X.mg X.base CX0 x n ks k sp gV) (hr : Room k X.A) (hg : Gl X x) (ha : PA X (e :: es) t) (hkw : PK X kws tk) (hall : (backToKw pos (keywordEach kws X.env)).all (·.1.isSome) = true := by rfl)
    (hks : (backToKw pos (keywordEach kws X.env)).filterMap (·.1) = ks := by rfl) (hdb : (x == ("__debug__" : Str)) = false := by decide) (he : starEach (e :: es) X.env = (false, eval e X.env) :: starEach es X.env := by rfl)
    (hpl : ((backTo pos (starEach (e :: es) X.env)).any (·.1) || (backToKw pos (keywordEach kws X.env)).any (·.1.isNone)) = false := by rfl) : PE X (.Call (.Name x p) (e :: es) kws pos) (tCallN n ks.length sp gV E0 t tk) := by
  obtain ⟨f, fd, ps, g, o, a, b, d⟩ := c.ex
  exact pe_callN o hr hg a b d pass0 ha hkw hall hks hdb he hpl
end
section
variable {X : Cx} {ps ks : List Str} {k n : Nat} {sp : Sp} {x : Str} {e : Expr} {es : List Expr} {kws : List Keyword} {t tk : TA} {p pos : Pos} {gV : List V → List V → List V} {dvs : List V}
/-- f(k = v, ..): keywords alone -/
theorem pe_calN0 (c : CalN X.prog X.w X.K X.mg X.base CX0 x 0 ks k sp gV) (hr : Room k X.A) (hg : Gl X x) (hkw : PK X kws tk) (hall : (backToKw pos (keywordEach kws X.env)).all (·.1.isSome) = true := by rfl)
    (hks : (backToKw pos (keywordEach kws X.env)).filterMap (·.1) = ks := by rfl) (hdb : (x == ("__debug__" : Str)) = false := by decide)
    (hpl : ((backTo pos (starEach [] X.env)).any (·.1) || (backToKw pos (keywordEach kws X.env)).any (·.1.isNone)) = false := by rfl) : PE X (.Call (.Name x p) [] kws pos) (tCallN 0 ks.length sp gV E0 tNil tk) := by
  obtain ⟨f, fd, ps, g, o, a, b, d⟩ := c.ex
  refine ⟨fun pins s0 σ H Q I0 hq => wpAny_Call_Name_kw (ld_glob I0 hg a (PySem.W.callWith_KW0 (h₀ := X.base) I0.ok.mod.kin b hall (thn (hkw.run pos pins s0 σ H _ I0 hq) fun ws1 s1 ⟨zs1, H1, I1, r1, _, z2, q1⟩ => ⟨I1.kIn, ?_⟩) hpl) hdb)⟩
  rw [hks]
  exact run_fnN (us := []) (vs := []) o hr d pass0 I1 .nil r1 rfl z2 q1
/-- the def x with the defaults dvs behind what is written -/
structure CalD (P : Program) (w : World) (K : PySem.W.Frag) (mg : Str → Option Value) (base : Heap) (CX : CXT) (x : Str) (dvs : List V) (k : Nat) (sp : Sp) : Prop where
  ex : ∃ f fd ps ds, FnOk P w K mg base CX k f fd ps sp ∧ mg x = some (.ref f) ∧ PySem.W.keepIn K (.ref f) = true ∧ Binds K fd ps ds ∧ Vals dvs ds
theorem pe_calD (c : CalD X.prog X.w X.K X.mg X.base CX0 x dvs k sp) (hr : Room k X.A) (hg : Gl X x) (ha : PA X (e :: es) t) (hdb : (x == ("__debug__" : Str)) = false := by decide) (he : starEach (e :: es) X.env = (false, eval e X.env) :: starEach es X.env := by rfl)
    (hpl : (backTo pos (starEach es X.env)).any (·.1) = false := by rfl) : PE X (.Call (.Name x p) (e :: es) [] pos) (tCall sp dvs E0 t) := by
  obtain ⟨f, fd, ps, ds, o, a, b, d, v⟩ := c.ex
  exact pe_call o hr hg a b d v pass0 ha hdb he hpl
end
theorem CalN.mono {P : Program} {w : World} {K : PySem.W.Frag} {mg : Str → Option Value} {base : Heap} {CX : CXT} {x : Str} {n : Nat} {ks : List Str} {j k : Nat} {sp : Sp} {gV : List V → List V → List V} (c : CalN P w K mg base CX x n ks j sp gV) (h : j ≤ k) : CalN P w K mg base CX x n ks k sp gV := by
  obtain ⟨f, fd, ps, g, o, r⟩ := c.ex
  exact ⟨f, fd, ps, g, o.mono h, r⟩
theorem CalD.mono {P : Program} {w : World} {K : PySem.W.Frag} {mg : Str → Option Value} {base : Heap} {CX : CXT} {x : Str} {dvs : List V} {j k : Nat} {sp : Sp} (c : CalD P w K mg base CX x dvs j sp) (h : j ≤ k) : CalD P w K mg base CX x dvs k sp := by
  obtain ⟨f, fd, ps, ds, o, r⟩ := c.ex
  exact ⟨f, fd, ps, ds, o.mono h, r⟩
theorem vals_take {n : Nat} : ∀ {zs : List V} {ws : List Value}, Vals zs ws → Vals (zs.take n) (ws.take n) := by
  induction n with
  | zero => intro zs ws _; exact .nil
  | succ n ih =>
    intro zs ws h
    cases h with
    | nil => exact .nil
    | cons r t => exact .cons r (ih t)
/-! ### min, max of a tuple of ints -/
section
variable {prog : Program} {w : World} {A : Around} {E : Value → Shared → Prop} {s : Shared} {l : Addr} {xs : Array (Int × Tok)} {its : List Value} {ns : List Int} {Q : Value → Shared → Prop}
theorem iter_intTup {Q : Value → Shared → Prop} (hl : s.heap.IsTuple l (intItems xs))
    (h : ∀ s₂ : Shared, s₂ = { s with heap := s.heap.push { cls := .type "tuple_iterator", data := .fields #[.ref l, .int 0 0] } } →
      (s₂.heap.IsTupleIter s.heap.objs.size l 0 ∧ s₂.heap.IsTuple l (intItems xs)) → (∀ b ∈ [s.heap.objs.size, l], b < s₂.heap.objs.size) → l ≠ s.heap.objs.size → Q (.ref s.heap.objs.size) s₂) :
    wpAny (model prog w) A (pyIter (.ref l)) Q E s := by
  have hlt : l < s.heap.objs.size := by obtain ⟨_, e, _⟩ := hl; exact Heap.lt_size e
  refine wpAny_pyIter_tuple hl (h _ rfl ⟨⟨_, Heap.get?_push_size _ rfl, rfl, rfl⟩, ?_⟩ (fun b hb => ?_) (Nat.ne_of_lt hlt))
  · obtain ⟨o, e, r⟩ := hl
    exact ⟨o, Heap.get?_push_of_some _ e, r⟩
  · show b < (s.heap.push _).objs.size
    rw [Heap.size_push]
    rcases List.mem_cons.mp hb with rfl | hb
    · exact Nat.lt_succ_self _
    · rcases List.mem_cons.mp hb with rfl | hb
      · exact Nat.lt_succ_of_lt hlt
      · cases hb
theorem old_keptT {h' : Heap} (hk : ∀ b o, b ∉ [s.heap.objs.size] → (s.heap.push { cls := .type "tuple_iterator", data := .fields #[.ref l, .int 0 0] }).get? b = some o → h'.get? b = some o) :
    ∀ b o, s.heap.get? b = some o → h'.get? b = some o := fun b o e => by
  refine hk b o (fun hm => ?_) (Heap.get?_push_of_some _ e)
  rcases List.mem_cons.mp hm with e1 | hm
  · exact absurd (e1 ▸ Heap.lt_size e) (Nat.lt_irrefl _)
  · cases hm
theorem max_rawT (hh : A.handled = none) (hl : s.heap.IsTuple l its.toArray) (hi : IntsAre its ns) (hne : 0 < ns.length)
    (h : ∀ h' tk M t', (∀ b o, s.heap.get? b = some o → h'.get? b = some o) → M ∈ ns → (∀ a, a ∈ ns → a ≤ M) → Q (.int M t') { s with heap := h', toks := tk }) : wpAny (model prog w) A (call (.builtin "max") [.ref l]) Q E s := by
  obtain ⟨xs, e⟩ := hi.allInts.items
  have hn : numsOf (intItems xs).toList = ns := by rw [← e]; exact hi.numsOf
  rw [nums_intItems] at hn
  subst hn
  rw [e] at hl
  have hsz : 0 < xs.size := by simpa using hne
  refine call_max_walk (iter_intTup hl fun s₂ e2 st hfp hlI => ?_)
  subst e2
  refine ⟨_, _, _, _, _, _, _, rfl, Walks.tuple (A := A.in1) hh _ l hlI (intItems xs), st, hfp, by simpa [intItems] using hsz, CmpOf.ints_gt (numAt xs) (fun _ _ => intItems_at), fun v h' tk hP hk => ?_⟩
  have hv : (intItems xs)[argBest (fun i j => decide (numAt xs i > numAt xs j)) (xs.size - 1)]? = some v := by simpa [intItems] using hP
  obtain ⟨t, rfl⟩ := intItems_at hv
  obtain ⟨h1, h2⟩ := argBest_gt (numAt xs) (xs.size - 1)
  refine h h' tk _ t (old_keptT hk) ?_ fun a ha => ?_
  · rw [numAt_eq]; exact PySem.getD_mem (by rw [List.length_map, Array.length_toList]; omega)
  · obtain ⟨j, hj, rfl⟩ := mem_getD ha
    rw [List.length_map, Array.length_toList] at hj
    rw [← numAt_eq]; exact h2 j (by omega)
theorem min_rawT (hh : A.handled = none) (hl : s.heap.IsTuple l its.toArray) (hi : IntsAre its ns) (hne : 0 < ns.length)
    (h : ∀ h' tk M t', (∀ b o, s.heap.get? b = some o → h'.get? b = some o) → M ∈ ns → (∀ a, a ∈ ns → M ≤ a) → Q (.int M t') { s with heap := h', toks := tk }) : wpAny (model prog w) A (call (.builtin "min") [.ref l]) Q E s := by
  obtain ⟨xs, e⟩ := hi.allInts.items
  have hn : numsOf (intItems xs).toList = ns := by rw [← e]; exact hi.numsOf
  rw [nums_intItems] at hn
  subst hn
  rw [e] at hl
  have hsz : 0 < xs.size := by simpa using hne
  refine call_min_walk (iter_intTup hl fun s₂ e2 st hfp hlI => ?_)
  subst e2
  refine ⟨_, _, _, _, _, _, _, rfl, Walks.tuple (A := A.in1) hh _ l hlI (intItems xs), st, hfp, by simpa [intItems] using hsz, CmpOf.ints_lt (numAt xs) (fun _ _ => intItems_at), fun v h' tk hP hk => ?_⟩
  have hv : (intItems xs)[argBest (fun i j => decide (numAt xs i < numAt xs j)) (xs.size - 1)]? = some v := by simpa [intItems] using hP
  obtain ⟨t, rfl⟩ := intItems_at hv
  obtain ⟨h1, h2⟩ := argBest_lt (numAt xs) (xs.size - 1)
  refine h h' tk _ t (old_keptT hk) ?_ fun a ha => ?_
  · rw [numAt_eq]; exact PySem.getD_mem (by rw [List.length_map, Array.length_toList]; omega)
  · obtain ⟨j, hj, rfl⟩ := mem_getD ha
    rw [List.length_map, Array.length_toList] at hj
    rw [← numAt_eq]; exact h2 j (by omega)
end
section
variable {X : Cx}
def rMaxT (K : PySem.W.Frag) : List V → Hp → VK → Prop := fun vs H Q => ∃ (a : Addr) (ns : List Int), vs = [V.ref a] ∧ SqT K H a (ns.map V.int) ∧ 0 < ns.length ∧ ∀ m, m ∈ ns → (∀ y, y ∈ ns → y ≤ m) → Q (.int m) H
def rMinT (K : PySem.W.Frag) : List V → Hp → VK → Prop := fun vs H Q => ∃ (a : Addr) (ns : List Int), vs = [V.ref a] ∧ SqT K H a (ns.map V.int) ∧ 0 < ns.length ∧ ∀ m, m ∈ ns → (∀ y, y ∈ ns → m ≤ y) → Q (.int m) H
theorem cr_maxT (hc : X.calm = true) : CallR X (.builtin "max") (rMaxT X.K) := by
  intro pins s σ H vs us Q I r h
  obtain ⟨a, ns, rfl, hs, hne, q⟩ := h
  obtain ⟨its, rv, hl, _⟩ := I.tuple hs
  rw [Vals.ref1 r]
  exact max_rawT (I.ok.hd hc) hl rv.ints hne fun h' tk m t' hk h1 h2 => ⟨.int _, H, I.kept hk, ⟨_, rfl⟩, q m h1 h2⟩
theorem cr_minT (hc : X.calm = true) : CallR X (.builtin "min") (rMinT X.K) := by
  intro pins s σ H vs us Q I r h
  obtain ⟨a, ns, rfl, hs, hne, q⟩ := h
  obtain ⟨its, rv, hl, _⟩ := I.tuple hs
  rw [Vals.ref1 r]
  exact min_rawT (I.ok.hd hc) hl rv.ints hne fun h' tk m t' hk h1 h2 => ⟨.int _, H, I.kept hk, ⟨_, rfl⟩, q m h1 h2⟩
end
/-! ### rules with the written part named (within a comprehension) -/
section
variable {X : Cx} {K : PySem.W.Frag}
theorem ix_listK (h : X.K = K) : IxR X (rIxL K) := h ▸ ix_list
theorem ix_tupK (h : X.K = K) : IxR X (rIxT K) := h ▸ ix_tup
theorem ix_seqK (h : X.K = K) : IxR X (rIx K) := h ▸ ix_seq
theorem sl_listK (h : X.K = K) : SlR X (rSlL K) := h ▸ sl_list
theorem sl_tupK (h : X.K = K) : SlR X (rSlT K) := h ▸ sl_tup
theorem call_len_seqK (h : X.K = K) : CallR X (.builtin "len") (fun xs H Q => ∃ p ys, xs = [V.ref p] ∧ (SqL K H p ys ∨ SqT K H p ys) ∧ Q (.int ys.length) H) := h ▸ call_len_seq
theorem call_list_ofK (h : X.K = K) : CallR X (.type "list") (fun xs H Q => ∃ p ys, xs = [V.ref p] ∧ (SqL K H p ys ∨ SqT K H p ys) ∧ ∀ l, H l = none → Q (.ref l) (upd H l (.lst ys))) := h ▸ call_list_of
theorem call_tuple_ofK (h : X.K = K) : CallR X (.type "tuple") (fun xs H Q => ∃ p ys, xs = [V.ref p] ∧ ((SqL K H p ys ∧ ∀ l, H l = none → Q (.ref l) (upd H l (.tup ys))) ∨ (SqT K H p ys ∧ Q (.ref p) H))) := h ▸ call_tuple_of
theorem op_in_seqK (h : X.K = K) : OpR X (compareOp .In) (rIn K false) := h ▸ op_in_seq
theorem op_notIn_seqK (h : X.K = K) : OpR X (compareOp .NotIn) (rIn K true) := h ▸ op_notIn_seq
theorem op_eqDK (h : X.K = K) (hu : X.A.units + 64 < cLine) : OpR X (compareOp .Eq) (rEqD K) := h ▸ op_eqD hu
theorem op_neDK (h : X.K = K) (hu : X.A.units + 64 < cLine) : OpR X (compareOp .NotEq) (rNeD K) := h ▸ op_neD hu
theorem op_catTK (h : X.K = K) : OpR X (binaryOp .Add) (rCatT K) := h ▸ op_catT
theorem cr_allK (h : X.K = K) (hc : X.calm = true) : CallR X (.builtin "all") (rAll K) := h ▸ cr_all hc
theorem cr_anyK (h : X.K = K) (hc : X.calm = true) : CallR X (.builtin "any") (rAny K) := h ▸ cr_any hc
end
/-! ### heaps -/
theorem same_new {H : Hp} {p : Addr} {o : HO} (h : H p = none) : Same H (upd H p o) := fun b x e => by
  rw [upd_ne (ne_of_none e h)]
  exact e
theorem Same.tup {K : PySem.W.Frag} {H H' : Hp} {a : Addr} {xs : List V} (e : Same H H') (h : SqT K H a xs) : SqT K H' a xs := by
  rcases h with (h | ⟨o, h⟩) | h
  · exact .inl (.inl (e _ _ h))
  · exact .inl (.inr ⟨o, e _ _ h⟩)
  · exact .inr h
/-- all that was tracked is as it was, but at d -/
def Ext (d : Addr) (H H' : Hp) : Prop := ∀ b o, b ≠ d → H b = some o → H' b = some o
theorem Ext.refl (d : Addr) (H : Hp) : Ext d H H := fun _ _ _ h => h
theorem Ext.trans {d : Addr} {H H1 H2 : Hp} (a : Ext d H H1) (b : Ext d H1 H2) : Ext d H H2 := fun c o n h => b c o n (a c o n h)
theorem Ext.of {d : Addr} {H H' : Hp} (a : Same H H') : Ext d H H' := fun c o _ h => a c o h
theorem Ext.free {d : Addr} {H H' : Hp} {o : HO} (e : Ext d H H') (hd : H d = some o) {o' : HO} (hd' : H' d = some o') {l : Addr} (h : H' l = Option.none) : H l = Option.none := by
  cases q : H l with
  | none => rfl
  | some o2 =>
    by_cases n : l = d
    · subst n
      rw [hd'] at h
      cases h
    · rw [e l o2 n q] at h
      cases h
theorem Ext.seq {d : Addr} {K : PySem.W.Frag} {H H' : Hp} {a : Addr} {xs : List V} (e : Ext d H H') (n : a ≠ d) (h : SqL K H a xs) : SqL K H' a xs := by
  rcases h with (h | ⟨o, h⟩) | h
  · exact .inl (.inl (e _ _ n h))
  · exact .inl (.inr ⟨o, e _ _ n h⟩)
  · exact .inr h
end TT
namespace TT
open PySem PySem.Spec PyProof.Rows L2
/-! ### readings of small pieces -/
section
variable {K : PySem.W.Frag} {σ : L2.St} {H : Hp} {Q : VK}
theorem rd_ixL {i : Nat} {d : Addr} {xs : List V} (j : Nat) {v : V} (hσ : σ[i]? = some (some (.ref d))) (hL : SqL K H d xs) (hx : xs[j]? = some v) (q : Q v H) : tOp (rIxL K) (tVar i) (tC (.int (j : Int))) σ H Q := ⟨_, hσ, d, xs, j, v, rfl, rfl, hL, atI_nat hx, q⟩
theorem rd_ixT {i : Nat} {d : Addr} {xs : List V} (j : Nat) {v : V} (hσ : σ[i]? = some (some (.ref d))) (hL : SqT K H d xs) (hx : xs[j]? = some v) (q : Q v H) : tOp (rIxT K) (tVar i) (tC (.int (j : Int))) σ H Q := ⟨_, hσ, d, xs, j, v, rfl, rfl, hL, atI_nat hx, q⟩
/-- d['x'] of a tracked dict -/
theorem rd_dS {i : Nat} {d : Addr} {kvs : List (Key × V)} {v : V} (x : Str) (hσ : σ[i]? = some (some (.ref d))) (hd : H d = some (.dK kvs)) (hx : valV kvs (Sum.inr x) = some v) (q : Q v H) : tDGet (tVar i) (tC (.str x)) σ H Q :=
  ⟨_, hσ, d, v, rfl, by have := DGet.k (k := Sum.inr x) hd; rwa [hx] at this, q⟩
end
theorem iteFd {c : Bool} {A B : Prop} (e : c = false) (h : B) : if c = true then A else B := by
  rw [e, if_neg Bool.false_ne_true]
  exact h
theorem iteTd {c : Bool} {A B : Prop} (e : c = true) (h : A) : if c = true then A else B := by
  rw [e, if_pos rfl]
  exact h
theorem atI_int {α : Type} {xs : List α} {i : Int} {v : α} (h0 : 0 ≤ i) (h : xs[i.toNat]? = some v) : atI xs i = some v := by
  have := atI_nat h
  rwa [Int.toNat_of_nonneg h0] at this
theorem sz {n : Nat} (h : n ≤ 100000) : n ≤ sizeLine := Nat.le_trans h (by decide)
theorem szl {n : Nat} (h : n < 100000) : n < sizeLine := Nat.lt_of_lt_of_le h (by decide)
theorem cutV_map (ns : List Int) (lo hi : Option Int) : ∃ ms : List Int, cutV (ns.map V.int) lo hi = ms.map V.int ∧ ms.length ≤ ns.length := by
  refine ⟨(ns.drop (HT.sIx (ns.map V.int).length 0 lo)).take (HT.sIx (ns.map V.int).length (ns.map V.int).length hi - HT.sIx (ns.map V.int).length 0 lo), ?_, ?_⟩
  · unfold cutV
    rw [List.map_take, List.map_drop]
  · rw [List.length_take, List.length_drop]
    omega
/-! ### lists of ints as data -/
theorem dp_ints {K : PySem.W.Frag} {H : Hp} : ∀ ns : List Int, DpAll K H (ns.map V.int) (ns.map PyData.int)
  | [] => .nil
  | n :: ns => .cons (.int n) (dp_ints ns)
theorem lay_ints : ∀ ns : List Int, PyData.canLayAll0 (ns.map PyData.int) = true
  | [] => rfl
  | n :: ns => by
    show (PyData.canLay0 (.int n) && PyData.canLayAll0 (ns.map PyData.int)) = true
    rw [lay_ints ns]; rfl
theorem depth_ints : ∀ ns : List Int, PyData.depthAll (ns.map PyData.int) = 0
  | [] => rfl
  | n :: ns => by
    show max (PyData.depth (.int n)) (PyData.depthAll (ns.map PyData.int)) = 0
    rw [depth_ints ns]; rfl
theorem shaped_ints (ns : List Int) : SeqAt.shaped (.list (ns.map PyData.int)) = true := by
  show (PyData.canLayAll0 (ns.map PyData.int) && decide (PyData.depthAll (ns.map PyData.int) + 1 ≤ 64)) = true
  rw [lay_ints, depth_ints]; rfl
theorem shaped_intsT (ns : List Int) : SeqAt.shaped (.tuple (ns.map PyData.int)) = true := by
  show (PyData.canLayAll0 (ns.map PyData.int) && decide (PyData.depthAll (ns.map PyData.int) + 1 ≤ 64)) = true
  rw [lay_ints, depth_ints]; rfl
theorem eqv_ints : ∀ ns ms : List Int, PyData.eqvAll (ns.map PyData.int) (ms.map PyData.int) = decide (ns = ms)
  | [], [] => rfl
  | [], _ :: _ => rfl
  | _ :: _, [] => rfl
  | n :: ns, m :: ms => by
    show ((n == m) && PyData.eqvAll (ns.map PyData.int) (ms.map PyData.int)) = _
    rw [eqv_ints ns ms]
    by_cases h : n = m
    · subst h
      rw [beq_self_eq_true, Bool.true_and]
      by_cases g : ns = ms
      · rw [decide_eq_true g, decide_eq_true (by rw [g])]
      · rw [decide_eq_false g, decide_eq_false (fun z => g (List.cons.inj z).2)]
    · rw [beq_eq_false_iff_ne.mpr h, Bool.false_and, decide_eq_false (fun z => h (List.cons.inj z).1)]
/-- xs == ys, xs != ys of int lists -/
theorem rd_neL {K : PySem.W.Frag} {H : Hp} {a b : Addr} {ns ms : List Int} {Q : VK} (ha : SqL K H a (ns.map V.int)) (hb : SqL K H b (ms.map V.int)) (q : Q (.bl (!decide (ns = ms))) H) : rNeD K (.ref a) (.ref b) H Q :=
  ⟨_, _, .lst ha (dp_ints ns), .lst hb (dp_ints ms), shaped_ints ns, shaped_ints ms, by show Q (.bl (!PyData.eqvAll _ _)) H; rw [eqv_ints]; exact q⟩
theorem rd_eqL {K : PySem.W.Frag} {H : Hp} {a b : Addr} {ns ms : List Int} {Q : VK} (ha : SqL K H a (ns.map V.int)) (hb : SqL K H b (ms.map V.int)) (q : Q (.bl (decide (ns = ms))) H) : rEqD K (.ref a) (.ref b) H Q :=
  ⟨_, _, .lst ha (dp_ints ns), .lst hb (dp_ints ms), shaped_ints ns, shaped_ints ms, by show Q (.bl (PyData.eqvAll _ _)) H; rw [eqv_ints]; exact q⟩
theorem rd_neT {K : PySem.W.Frag} {H : Hp} {a b : Addr} {ns ms : List Int} {Q : VK} (ha : SqT K H a (ns.map V.int)) (hb : SqT K H b (ms.map V.int)) (q : Q (.bl (!decide (ns = ms))) H) : rNeD K (.ref a) (.ref b) H Q :=
  ⟨_, _, .tup ha (dp_ints ns), .tup hb (dp_ints ms), shaped_intsT ns, shaped_intsT ms, by show Q (.bl (!PyData.eqvAll _ _)) H; rw [eqv_ints]; exact q⟩
/-! ### the law's draws -/
abbrev MM : Int := 2305843009213693951
def Drw (c : Addr) (ns : List Int) (H : Hp) (d : Addr) : Prop := ∃ (i b z : Int), H d = some (.lst [.ref c, .int i, .int b, .int z]) ∧ H c = some (.lst (ns.map V.int)) ∧ c ≠ d ∧ 0 ≤ i ∧ 0 ≤ b ∧ 0 ≤ z ∧ z < MM
theorem Drw.at {c : Addr} {ns : List Int} {H : Hp} {d : Addr} (h : Drw c ns H d) : ∃ o, H d = some o := by
  obtain ⟨i, b, z, e, _⟩ := h
  exact ⟨_, e⟩
theorem Drw.same {c : Addr} {ns : List Int} {H H' : Hp} {d : Addr} (h : Drw c ns H d) (e : Same H H') : Drw c ns H' d := by
  obtain ⟨i, b, z, e1, e2, r⟩ := h
  exact ⟨i, b, z, e _ _ e1, e _ _ e2, r⟩
theorem Drw.new {c : Addr} {ns : List Int} {H : Hp} {d p : Addr} {o : HO} (h : Drw c ns H d) (np : H p = none) : Drw c ns (upd H p o) d := h.same (same_new np)
theorem Drw.ne {c : Addr} {ns : List Int} {H : Hp} {d p : Addr} (h : Drw c ns H d) (np : H p = none) : p ≠ d := fun e => by
  obtain ⟨o, ho⟩ := h.at
  rw [e, ho] at np
  cases np
theorem Drw.nec {c : Addr} {ns : List Int} {H : Hp} {d p : Addr} (h : Drw c ns H d) (np : H p = none) : p ≠ c := fun e => by
  obtain ⟨i, b, z, e1, e2, r⟩ := h
  rw [e, e2] at np
  cases np
/-- an object that an earlier heap did not know may change -/
theorem Drw.put {c : Addr} {ns : List Int} {H0 H : Hp} {d p : Addr} {o : HO} (h : Drw c ns H d) (h0 : Drw c ns H0 d) (np : H0 p = none) : Drw c ns (upd H p o) d := by
  obtain ⟨i, b, z, e1, e2, r⟩ := h
  exact ⟨i, b, z, by rw [upd_ne (h0.ne np).symm]; exact e1, by rw [upd_ne (h0.nec np).symm]; exact e2, r⟩
/-- an object that the earlier heap H0 did not know may change -/
theorem Ext.put {d p : Addr} {H0 H : Hp} {o : HO} (e : Ext d H0 H) (np : H0 p = none) : Ext d H0 (upd H p o) := fun b u n h => by
  rw [upd_ne (ne_of_none h np)]
  exact e b u n h
theorem Same.put {p : Addr} {H0 H : Hp} {o : HO} (e : Same H0 H) (np : H0 p = none) : Same H0 (upd H p o) := fun b u h => by
  rw [upd_ne (ne_of_none h np)]
  exact e b u h
theorem Ext.but {d : Addr} {H H' : Hp} (h : ∀ b, b ≠ d → H' b = H b) : Ext d H H' := fun b o n e => by rw [h b n]; exact e
/-- a list stays where it is: it is not d, for d holds something else -/
def spTake : Sp := fun vs H Q _ => ∃ (d : Addr) (m : Int) (c : Addr) (ns : List Int), vs = [.ref d, .int m] ∧ 1 ≤ m ∧ m < 2 ^ 200 ∧ Drw c ns H d ∧ ∀ r H', 0 ≤ r → r < m → Drw c ns H' d → (∀ b, b ≠ d → H' b = H b) → Q (.int r) H'
def spOf (K : PySem.W.Frag) : Sp := fun vs H Q _ => ∃ (d a : Addr) (xs : List V) (c : Addr) (ns : List Int), vs = [.ref d, .ref a] ∧ SqL K H a xs ∧ 0 < xs.length ∧ xs.length ≤ 100000 ∧ a ≠ d ∧ Drw c ns H d ∧ ∀ x H', x ∈ xs → Drw c ns H' d → (∀ b, b ≠ d → H' b = H b) → Q x H'
def spStart (K : PySem.W.Frag) : Sp := fun vs H Q _ => ∃ (a : Addr) (ns : List Int), vs = [.ref a] ∧ SqL K H a (ns.map V.int) ∧ ns.length ≤ 63 ∧ ∀ d c ms H', Same H H' → H d = none → Drw c ms H' d → Q (.ref d) H'
def spShuf (K : PySem.W.Frag) : Sp := fun vs H Q _ => ∃ (d a : Addr) (xs : List V) (c : Addr) (ns : List Int), vs = [.ref d, .ref a] ∧ SqL K H a xs ∧ xs.length ≤ 1000 ∧ a ≠ d ∧ Drw c ns H d ∧
  ∀ ys p H', ys.Perm xs → Ext d H H' → Drw c ns H' d → H p = none → H' p = some (.lst ys) → Q (.ref p) H'
/-- ascending keys within the bounds -/
structure Asc (ks : List Int) : Prop where
  lt : ks.Pairwise (· < ·)
  bd : ∀ k ∈ ks, -1000000000 ≤ k ∧ k ≤ 1000000000
def spKeys : Sp := fun vs H Q _ => ∃ (d : Addr) (m : Int) (c : Addr) (ns : List Int), vs = [.ref d, .int m] ∧ 0 ≤ m ∧ m ≤ 49 ∧ Drw c ns H d ∧
  ∀ ks p H', (ks.length : Int) = m → Asc ks → Ext d H H' → Drw c ns H' d → H p = none → H' p = some (.lst (ks.map V.int)) → Q (.ref p) H'
def spSize : Sp := fun vs H Q _ => ∃ (d : Addr) (m : Int) (c : Addr) (ns : List Int), vs = [.ref d, .int m] ∧ 0 ≤ m ∧ m ≤ 1000 ∧ Drw c ns H d ∧ ∀ r H', 0 ≤ r → r ≤ m → Ext d H H' → Drw c ns H' d → Q (.int r) H'
end TT
namespace TT
open PySem PySem.Spec PyProof.Rows L2
/-! ### a tree of nodes in dicts -/
/-- a dict from ints to ints, as a function -/
structure Mp (kvs : List (Key × V)) (f : Int → Option Int) (n : Nat) : Prop where
  all : ∀ p ∈ kvs, ∃ a b, p = (Sum.inl a, V.int b)
  val : ∀ x, valV kvs (Sum.inl x) = (f x).map V.int
  len : kvs.length ≤ n
  nd : (kvs.map (·.1)).Nodup
theorem putK_len (c : List (Key × V)) (k : Key) (x : V) : (putK c k x).length ≤ c.length + 1 := by
  unfold putK
  split
  · rw [List.length_map]; omega
  · rw [List.length_append]; exact Nat.le_refl _
theorem mem_putK {c : List (Key × V)} {k : Key} {x : V} {p : Key × V} (h : p ∈ putK c k x) : p ∈ c ∨ p = (k, x) := by
  unfold putK at h
  split at h
  · obtain ⟨q, hq, e⟩ := List.mem_map.mp h
    split at e
    · next e2 => rw [e2] at e; exact .inr e.symm
    · exact .inl (e ▸ hq)
  · rcases List.mem_append.mp h with h | h
    · exact .inl h
    · exact .inr (List.mem_singleton.mp h)
theorem Mp.nil {n : Nat} : Mp [] (fun _ => none) n := ⟨fun _ h => (by cases h), fun _ => rfl, Nat.zero_le _, List.nodup_nil⟩
theorem nd_put {kvs : List (Key × V)} {k : Key} (v : V) (hn : (kvs.map (·.1)).Nodup) : ((putK kvs k v).map (·.1)).Nodup := by
  cases h : valV kvs k with
  | none => exact nd_putK v hn h
  | some y =>
    have ha : (kvs.any fun kv => decide (kv.1 = k)) = true := by rw [valV_any, h]; rfl
    unfold putK
    rw [if_pos ha, List.map_map]
    have : ((fun p : Key × V => p.1) ∘ fun kv => if kv.1 = k then (kv.1, v) else kv) = fun p => p.1 := funext fun p => by
      show (if p.1 = k then (p.1, v) else p).1 = p.1
      split <;> rfl
    rw [this]
    exact hn
theorem Mp.put {kvs : List (Key × V)} {f : Int → Option Int} {n : Nat} (h : Mp kvs f n) (x y : Int) : Mp (putK kvs (Sum.inl x) (.int y)) (fun z => if z = x then some y else f z) (n + 1) := by
  refine ⟨fun p hp => ?_, fun z => ?_, ?_, nd_put _ h.nd⟩
  · rcases mem_putK hp with h' | rfl
    · exact h.all p h'
    · exact ⟨_, _, rfl⟩
  · rw [valV_put]
    by_cases e : z = x
    · rw [if_pos (by rw [e]), if_pos e]; rfl
    · rw [if_neg (fun z => e (Sum.inl.inj z)), if_neg e]; exact h.val z
  · have := putK_len kvs (Sum.inl x) (.int y)
    have := h.len
    omega
theorem Mp.eq {kvs : List (Key × V)} {f g : Int → Option Int} {n m : Nat} (h : Mp kvs f n) (e : ∀ x, f x = g x) (l : n ≤ m) : Mp kvs g m := ⟨h.all, fun x => by rw [h.val x, e x], Nat.le_trans h.len l, h.nd⟩
theorem valV_drop {y k : Key} : ∀ (kvs : List (Key × V)), valV (dropK kvs k) y = if y = k then none else valV kvs y
  | [] => by
    show none = _
    split <;> rfl
  | p :: r => by
    by_cases e : p.1 = k
    · rw [dropK_pos e, valV_drop r]
      by_cases g : y = k
      · rw [if_pos g, if_pos g]
      · rw [if_neg g, if_neg g, valV_neg (fun z => g (z.symm.trans e))]
    · rw [dropK_neg e]
      by_cases g : p.1 = y
      · rw [valV_pos g, valV_pos g, if_neg (fun z => e (g.trans z))]
      · rw [valV_neg g, valV_drop r, valV_neg g]
theorem Mp.pop {kvs : List (Key × V)} {f : Int → Option Int} {n : Nat} (h : Mp kvs f n) (x : Int) : Mp (dropK kvs (Sum.inl x)) (fun z => if z = x then none else f z) n := by
  refine ⟨fun p hp => h.all p (dropK_mem hp), fun z => ?_, Nat.le_trans (dropK_le ..) h.len, nd_dropK h.nd⟩
  rw [valV_drop]
  by_cases e : z = x
  · rw [if_pos (by rw [e]), if_pos e]; rfl
  · rw [if_neg (fun q => e (Sum.inl.inj q)), if_neg e]; exact h.val z
theorem nodup_len : ∀ {l m : List Key}, l.Nodup → l ⊆ m → l.length ≤ m.length
  | [], _, _, _ => Nat.zero_le _
  | x :: l, m, nd, h => by
    obtain ⟨h1, h2⟩ := List.nodup_cons.mp nd
    have hx := h List.mem_cons_self
    have h3 := nodup_len (m := m.filter fun y => !decide (y = x)) h2 fun y hy => List.mem_filter.mpr ⟨h (List.mem_cons_of_mem _ hy), by
      have ne : y ≠ x := fun z => h1 (z ▸ hy)
      simp [ne]⟩
    have h4 : (m.filter fun y => !decide (y = x)).length < m.length := List.length_filter_lt_length_iff_exists.mpr ⟨x, hx, by simp⟩
    rw [List.length_cons]
    omega
theorem Mp.small {kvs : List (Key × V)} {f : Int → Option Int} {n : Nat} {l : List Int} (h : Mp kvs f n) (hl : ∀ x, f x ≠ none → x ∈ l) : Mp kvs f l.length := by
  refine ⟨h.all, h.val, ?_, h.nd⟩
  have sub : (kvs.map (·.1)) ⊆ l.map Sum.inl := fun k hk => by
    obtain ⟨p, hp, rfl⟩ := List.mem_map.mp hk
    obtain ⟨a, b, rfl⟩ := h.all p hp
    refine List.mem_map.mpr ⟨a, hl a fun z => ?_, rfl⟩
    have hv := h.val a
    rw [z] at hv
    exact valV_not hv hk
  have := nodup_len h.nd sub
  rwa [List.length_map, List.length_map] at this
def oV : Option Int → V
  | none => .non
  | some k => .int k
abbrev nodK (rt : Option Int) (L R U : Addr) : List (Key × V) := [(Sum.inr "root", oV rt), (Sum.inr "left", .ref L), (Sum.inr "right", .ref R), (Sum.inr "up", .ref U)]
structure Nod (H : Hp) (m L R U : Addr) (rt : Option Int) (lf rf uf : Int → Option Int) (n : Nat) : Prop where
  hm : H m = some (.dK (nodK rt L R U))
  l : ∃ lk, H L = some (.dK lk) ∧ Mp lk lf n
  r : ∃ rk, H R = some (.dK rk) ∧ Mp rk rf n
  u : ∃ uk, H U = some (.dK uk) ∧ Mp uk uf n
  mL : m ≠ L
  mR : m ≠ R
  mU : m ≠ U
  LR : L ≠ R
  LU : L ≠ U
  RU : R ≠ U
abbrev TrAt (H : Hp) (m L R U : Addr) (t : T) (n : Nat) : Prop := Nod H m L R U t.rt t.lc t.rc t.up n
theorem Nod.same {H H' : Hp} {m L R U : Addr} {rt : Option Int} {lf rf uf : Int → Option Int} {n : Nat} (h : Nod H m L R U rt lf rf uf n) (e : Same H H') : Nod H' m L R U rt lf rf uf n := by
  obtain ⟨lk, h1, h2⟩ := h.l
  obtain ⟨rk, h3, h4⟩ := h.r
  obtain ⟨uk, h5, h6⟩ := h.u
  exact ⟨e _ _ h.hm, ⟨lk, e _ _ h1, h2⟩, ⟨rk, e _ _ h3, h4⟩, ⟨uk, e _ _ h5, h6⟩, h.mL, h.mR, h.mU, h.LR, h.LU, h.RU⟩
theorem nod_root {rt : Option Int} {L R U : Addr} : valV (nodK rt L R U) (Sum.inr "root") = some (oV rt) := by rfl
theorem nod_left {rt : Option Int} {L R U : Addr} : valV (nodK rt L R U) (Sum.inr "left") = some (.ref L) := by rfl
theorem nod_right {rt : Option Int} {L R U : Addr} : valV (nodK rt L R U) (Sum.inr "right") = some (.ref R) := by rfl
theorem nod_up {rt : Option Int} {L R U : Addr} : valV (nodK rt L R U) (Sum.inr "up") = some (.ref U) := by rfl
theorem nod_put {rt : Option Int} {L R U : Addr} {y : Option Int} : putK (nodK rt L R U) (Sum.inr "root") (oV y) = nodK y L R U := by rfl
def spEmpty : Sp := fun vs H Q _ => vs = [] ∧ ∀ m L R U H', Same H H' → H m = none → H L = none → H R = none → H U = none → Nod H' m L R U none (fun _ => none) (fun _ => none) (fun _ => none) 0 → Q (.ref m) H'
def spPlace : Sp := fun vs H Q _ => ∃ (m : Addr) (key : Int) (L R U : Addr) (t : T) (n : Nat), vs = [.ref m, .int key] ∧ TrAt H m L R U t n ∧ t.bst ∧ key ∉ t.pre ∧ t.pre.length ≤ 58 ∧ n ≤ 1000 ∧
  ∀ H', TrAt H' m L R U (t.ins key) (n + 1) → (∀ b, b ≠ m → b ≠ L → b ≠ R → b ≠ U → H' b = H b) → Q (.int (t.dIns key)) H'
/-- the tree of the keys of a list or tuple -/
def spTree (K : PySem.W.Frag) : Sp := fun vs H Q _ => ∃ (a : Addr) (ks : List Int), vs = [.ref a] ∧ (SqL K H a (ks.map V.int) ∨ SqT K H a (ks.map V.int)) ∧ ks.Nodup ∧ ks.length ≤ 58 ∧
  ∀ m L R U H', Same H H' → H m = none → H L = none → H R = none → H U = none → TrAt H' m L R U (T.insAll ks T.leaf) ks.length → Q (.ref m) H'
def spShape : Sp := fun vs H Q _ => ∃ (m L R U : Addr) (t : T) (uf : Int → Option Int) (n : Nat), vs = [.ref m] ∧ Nod H m L R U t.rt t.lc t.rc uf n ∧ t.bst ∧ t.pre.length ≤ 1000 ∧
  ∀ p H', Same H H' → H p = none → H' p = some (.tup (t.pre.map V.int)) → Q (.ref p) H'
def spSome (K : PySem.W.Frag) : Sp := fun vs H Q _ => ∃ (d a : Addr) (ks : List Int) (c : Addr) (ns : List Int), vs = [.ref d, .ref a] ∧ SqL K H a (ks.map V.int) ∧ Asc ks ∧ ks.length ≤ 49 ∧ a ≠ d ∧ Drw c ns H d ∧
  ∀ (t : T) p H', t.bst → t.pre.Perm ks → Ext d H H' → Drw c ns H' d → H p = none → H' p = some (.tup (t.pre.map V.int)) → Q (.ref p) H'
theorem Nod.insL {H : Hp} {m L R U : Addr} {t : T} {n : Nat} {key x : Int} {lk uk : List (Key × V)} (hT : TrAt H m L R U t n) (hb : t.bst) (hk : key ∉ t.pre) (e : t.spot key = some (x, true)) (hl : Mp lk t.lc n) (hu : Mp uk t.up n) :
    TrAt (upd (upd H L (.dK (putK lk (Sum.inl x) (.int key)))) U (.dK (putK uk (Sum.inl key) (.int x)))) m L R U (t.ins key) (n + 1) := by
  have nl : t ≠ T.leaf := fun z => by rw [z] at e; cases e
  obtain ⟨rk, h3, h4⟩ := hT.r
  refine ⟨?_, ⟨_, by rw [upd_ne hT.LU, upd_same], (hl.put x key).eq (fun z => ?_) (Nat.le_refl _)⟩, ⟨rk, by rw [upd_ne hT.RU, upd_ne hT.LR.symm]; exact h3, h4.eq (fun z => ?_) (Nat.le_succ _)⟩, ⟨_, upd_same, (hu.put key x).eq (fun z => ?_) (Nat.le_refl _)⟩, hT.mL, hT.mR, hT.mU, hT.LR, hT.LU, hT.RU⟩
  · rw [upd_ne hT.mU, upd_ne hT.mL, rt_ins nl]; exact hT.hm
  · rw [lc_ins hb hk, e]
    by_cases ez : z = x
    · subst ez; rw [if_pos rfl, if_pos rfl]
    · rw [if_neg ez, if_neg (fun q => ez (Prod.mk.inj (Option.some.inj q)).1.symm)]
  · rw [rc_ins hb hk, e, if_neg (fun q => Bool.noConfusion (Prod.mk.inj (Option.some.inj q)).2)]
  · rw [up_ins hb hk, e]; rfl
theorem Nod.insR {H : Hp} {m L R U : Addr} {t : T} {n : Nat} {key x : Int} {rk uk : List (Key × V)} (hT : TrAt H m L R U t n) (hb : t.bst) (hk : key ∉ t.pre) (e : t.spot key = some (x, false)) (hr : Mp rk t.rc n) (hu : Mp uk t.up n) :
    TrAt (upd (upd H R (.dK (putK rk (Sum.inl x) (.int key)))) U (.dK (putK uk (Sum.inl key) (.int x)))) m L R U (t.ins key) (n + 1) := by
  have nl : t ≠ T.leaf := fun z => by rw [z] at e; cases e
  obtain ⟨lk, h3, h4⟩ := hT.l
  refine ⟨?_, ⟨lk, by rw [upd_ne hT.LU, upd_ne hT.LR]; exact h3, h4.eq (fun z => ?_) (Nat.le_succ _)⟩, ⟨_, by rw [upd_ne hT.RU, upd_same], (hr.put x key).eq (fun z => ?_) (Nat.le_refl _)⟩, ⟨_, upd_same, (hu.put key x).eq (fun z => ?_) (Nat.le_refl _)⟩, hT.mL, hT.mR, hT.mU, hT.LR, hT.LU, hT.RU⟩
  · rw [upd_ne hT.mU, upd_ne hT.mR, rt_ins nl]; exact hT.hm
  · rw [lc_ins hb hk, e, if_neg (fun q => Bool.noConfusion (Prod.mk.inj (Option.some.inj q)).2)]
  · rw [rc_ins hb hk, e]
    by_cases ez : z = x
    · subst ez; rw [if_pos rfl, if_pos rfl]
    · rw [if_neg ez, if_neg (fun q => ez (Prod.mk.inj (Option.some.inj q)).1.symm)]
  · rw [up_ins hb hk, e]; rfl
/-! ### readings -/
section
variable {K : PySem.W.Frag} {σ : L2.St} {H : Hp} {Q : VK}
theorem dg_s {kvs : List (Key × V)} {v : V} {d : Addr} (x : Str) (hd : H d = some (.dK kvs)) (hx : valV kvs (Sum.inr x) = some v) : DGet H d (.str x) (some v) := by
  have := DGet.k (k := Sum.inr x) hd
  rwa [hx] at this
theorem dg_in {kvs : List (Key × V)} {f : Int → Option Int} {n : Nat} {d : Addr} {x : Int} (hd : H d = some (.dK kvs)) (h : Mp kvs f n) : DGet H d (.int x) ((f x).map V.int) := by
  have := DGet.k (k := Sum.inl x) hd
  rwa [h.val x] at this
theorem dp_in {kvs : List (Key × V)} {f : Int → Option Int} {n : Nat} {d : Addr} {x y : Int} (hd : H d = some (.dK kvs)) (h : Mp kvs f n) (hn : n ≤ 99999) : DPut H d (.int x) (.int y) (upd H d (.dK (putK kvs (Sum.inl x) (.int y)))) :=
  DPut.k (k := Sum.inl x) hd (szl (by have := h.len; omega))
end
end TT
namespace TT
open PySem PySem.Spec PyProof.Rows L2
/-! from K06e -/
/-! ### the preorder by a stack -/
abbrev Nd := T × Int × T
def ndT (n : Nd) : T := T.node n.1 n.2.1 n.2.2
def pres : List Nd → List Int
  | [] => []
  | n :: ns => pres ns ++ (ndT n).pre
theorem pres_append (ts us : List Nd) : pres (ts ++ us) = pres us ++ pres ts := by
  induction ts with
  | nil => simp [pres]
  | cons t ts ih => simp [pres, ih]
theorem len_pres : ∀ ts : List Nd, ts.length ≤ (pres ts).length
  | [] => Nat.le_refl _
  | n :: ts => by
    have := len_pres ts
    show ts.length + 1 ≤ (pres ts ++ (ndT n).pre).length
    rw [List.length_append]
    show _ ≤ _ + (n.2.1 :: (n.1.pre ++ n.2.2.pre)).length
    rw [List.length_cons]
    omega
def kid : T → List Nd
  | T.leaf => []
  | T.node l x r => [(l, x, r)]
def roots (ts : List Nd) : List Int := ts.map (·.2.1)
theorem pres_kid (t : T) : pres (kid t) = t.pre := by cases t <;> simp [kid, pres, T.pre, ndT]
/-! from K06f -/
def zigI (n k : Nat) : Nat := if k % 2 = 0 then k / 2 else n - 1 - k / 2
def zig (ks : List Int) (m : Nat) : List Int := (List.range m).map fun k => ks.getD (zigI ks.length k) 0
theorem asc_nodup {ks : List Int} (h : Asc ks) : ks.Nodup := h.lt.imp fun a => by omega
theorem getD_inj {ks : List Int} (h : ks.Nodup) {i j : Nat} (hi : i < ks.length) (hj : j < ks.length) (e : ks.getD i 0 = ks.getD j 0) : i = j := by
  rw [List.getD_eq_getElem?_getD, List.getD_eq_getElem?_getD, List.getElem?_eq_getElem hi, List.getElem?_eq_getElem hj] at e
  exact (List.getElem?_inj hi h).mp (by rw [List.getElem?_eq_getElem hi, List.getElem?_eq_getElem hj]; exact congrArg some e)
theorem zig_nodup {ks : List Int} (h : ks.Nodup) : (zig ks ks.length).Nodup := by
  unfold zig List.Nodup
  rw [List.pairwise_map]
  refine List.Pairwise.imp_of_mem ?_ List.pairwise_lt_range
  intro a b ha hb hab e
  rw [List.mem_range] at ha hb
  have := getD_inj h (i := zigI ks.length a) (j := zigI ks.length b) (by unfold zigI; split <;> omega) (by unfold zigI; split <;> omega) e
  unfold zigI at this
  split at this <;> split at this <;> omega
theorem getD_mem' {ks : List Int} {i : Nat} (hi : i < ks.length) : ks.getD i 0 ∈ ks := by
  rw [List.getD_eq_getElem?_getD, List.getElem?_eq_getElem hi]; exact List.getElem_mem hi
theorem zig_mem {ks : List Int} {x : Int} : x ∈ zig ks ks.length ↔ x ∈ ks := by
  unfold zig
  rw [List.mem_map]
  constructor
  · rintro ⟨k, hk, rfl⟩
    rw [List.mem_range] at hk
    exact getD_mem' (by unfold zigI; split <;> omega)
  · intro hx
    obtain ⟨j, hj, rfl⟩ := List.getElem_of_mem hx
    by_cases h : 2 * j < ks.length
    · refine ⟨2 * j, List.mem_range.mpr h, ?_⟩
      have : zigI ks.length (2 * j) = j := by unfold zigI; rw [if_pos (by omega)]; omega
      rw [this, List.getD_eq_getElem?_getD, List.getElem?_eq_getElem hj]; rfl
    · refine ⟨2 * (ks.length - 1 - j) + 1, List.mem_range.mpr (by omega), ?_⟩
      have : zigI ks.length (2 * (ks.length - 1 - j) + 1) = j := by unfold zigI; rw [if_neg (by omega)]; omega
      rw [this, List.getD_eq_getElem?_getD, List.getElem?_eq_getElem hj]; rfl
theorem zig_perm {ks : List Int} (h : ks.Nodup) : (zig ks ks.length).Perm ks := (List.perm_ext_iff_of_nodup (zig_nodup h) h).mpr fun _ => zig_mem
theorem insAll_perm {ks : List Int} (h : ks.Nodup) : (T.insAll ks T.leaf).pre.Perm ks := by
  refine (List.perm_ext_iff_of_nodup (nodup_pre (bst_insAll (t := T.leaf) trivial h fun _ _ z => (by cases z))) h).mpr fun x => ?_
  rw [mem_insAll]
  exact ⟨fun z => z.elim id fun z => (by cases z), fun z => .inl z⟩
/-! from K06g -/
/-- the same data on both sides, at most n deep -/
def Eqv (H : Hp) : Nat → V → V → Prop
  | 0, x, y => flatV x = true ∧ x = y
  | n + 1, x, y => (flatV x = true ∧ x = y) ∨ ∃ a b xs ys, x = .ref a ∧ y = .ref b ∧ ((H a = some (.lst xs) ∧ H b = some (.lst ys)) ∨ (H a = some (.tup xs) ∧ H b = some (.tup ys))) ∧ xs.length = ys.length ∧ xs.length ≤ 1000 ∧ ∀ (i : Nat) u v, xs[i]? = some u → ys[i]? = some v → Eqv H n u v
theorem Eqv.same {H H' : Hp} (e : Same H H') : ∀ {n : Nat} {x y : V}, Eqv H n x y → Eqv H' n x y
  | 0, _, _, h => (show flatV _ = true ∧ _ from h)
  | n + 1, _, _, h => by
    rcases h with h | ⟨a, b, xs, ys, e1, e2, h1, h2, h3, h4⟩
    · exact .inl h
    · refine .inr ⟨a, b, xs, ys, e1, e2, ?_, h2, h3, fun i u v a1 a2 => (h4 i u v a1 a2).same e⟩
      rcases h1 with ⟨p, q⟩ | ⟨p, q⟩
      · exact .inl ⟨e _ _ p, e _ _ q⟩
      · exact .inr ⟨e _ _ p, e _ _ q⟩
def spSame (n : Nat) : Sp := fun vs H Q _ => ∃ x y, vs = [x, y] ∧ Eqv H n x y ∧ ∀ H', Same H H' → Q (.bl true) H'
theorem Eqv.cases {H : Hp} : ∀ {n : Nat} {x y : V}, Eqv H n x y → (flatV x = true ∧ x = y) ∨ ∃ m a b xs ys, n = m + 1 ∧ x = .ref a ∧ y = .ref b ∧ ((H a = some (.lst xs) ∧ H b = some (.lst ys)) ∨ (H a = some (.tup xs) ∧ H b = some (.tup ys))) ∧ xs.length = ys.length ∧ xs.length ≤ 1000 ∧ ∀ (i : Nat) u v, xs[i]? = some u → ys[i]? = some v → Eqv H m u v
  | 0, _, _, h => .inl h
  | n + 1, _, _, h => by
    rcases h with h | ⟨a, b, xs, ys, h⟩
    · exact .inl h
    · exact .inr ⟨n, a, b, xs, ys, rfl, h⟩
/-- what the calls within may lean on -/
def spPrev : Nat → Sp
  | 0 => fun _ _ _ _ => False
  | n + 1 => spSame n
/-! ### isinstance -/
section
variable {K : PySem.W.Frag} {H : Hp} {Q : VK}
theorem kLT {t : String} {r1 r2 : Bool} (h1 : kitB t "list" = some r1) (h2 : kitB t "tuple" = some r2) : PySem.W.kitAny K (.type t) [.type "list", .type "tuple"] = some (r1 || r2) := by
  refine kitAny_cons (kit_ty h1) (fun e => ?_) (fun e => by rw [e]; rfl)
  subst e
  refine kitAny_cons (r := false || r2) (kit_ty h2) (fun e => ?_) (fun e => by rw [e]; rfl)
  subst e
  exact kitAny_nil
end
theorem walk_zipT {K : PySem.W.Frag} {a b : Addr} {xs ys : List V} {n : Nat} (hn : n = min xs.length ys.length) : Walk (RZ.ItzT K a b) n (fun H => SqT K H a xs ∧ SqT K H b ys) (YPair (fun i => xs[i]?) (fun i => ys[i]?)) := by
  subst hn
  refine ⟨fun i H hi g => ?_, fun H g => ⟨xs, ys, g.1, g.2, by omega⟩, fun i H v H' hi g y => ?_⟩
  · exact ⟨xs, ys, xs[i]'(by omega), ys[i]'(by omega), g.1, g.2, List.getElem?_eq_getElem _, List.getElem?_eq_getElem _⟩
  · obtain ⟨T, x, z, a1, a2, a3, a4, a5⟩ := y
    exact ⟨T, x, z, a1, a2, a3, a4 _ g.1, a5 _ g.2⟩
/-! from K06h -/
def okLo : Option Int → Int → Bool
  | none, _ => true
  | some l, x => decide (l < x)
def okHi : Option Int → Int → Bool
  | none, _ => true
  | some h, x => decide (x < h)
def T.lt : T → T
  | T.leaf => T.leaf
  | T.node l _ _ => l
def T.rtr : T → T
  | T.leaf => T.leaf
  | T.node _ _ r => r
def spRestrict (K : PySem.W.Frag) : Sp := fun vs H Q _ => ∃ (a : Addr) (ks : List Int) (lo hi : Option Int), vs = [.ref a, oV lo, oV hi] ∧ SqT K H a (ks.map V.int) ∧ ks.length ≤ 1000 ∧
  ∀ p H', Same H H' → H p = none → H' p = some (.tup ((ks.filter fun x => okLo lo x && okHi hi x).map V.int)) → Q (.ref p) H'
def spParts (K : PySem.W.Frag) : Sp := fun vs H Q _ => ∃ (a : Addr) (t : T), vs = [.ref a] ∧ SqT K H a (t.pre.map V.int) ∧ t.bst ∧ t.pre.length ≤ 1000 ∧
  ∀ p l r H', Same H H' → H p = none → H' p = some (.tup [.ref l, .ref r]) → H' l = some (.tup (t.lt.pre.map V.int)) → H' r = some (.tup (t.rtr.pre.map V.int)) → Q (.ref p) H'
def spSearch (K : PySem.W.Frag) : Sp := fun vs H Q _ => ∃ (a : Addr) (key : Int) (t : T), vs = [.ref a, .int key] ∧ SqT K H a (t.pre.map V.int) ∧ t.bst ∧ t.pre.length ≤ 1000 ∧
  ∀ p H', Same H H' → H p = none → H' p = some (.lst ((t.path key).map V.int)) → Q (.ref p) H'
def spSpL (K : PySem.W.Frag) : Sp := fun vs H Q _ => ∃ (a : Addr) (t : T), vs = [.ref a] ∧ SqT K H a (t.pre.map V.int) ∧ t.bst ∧ t.pre.length ≤ 1000 ∧
  ∀ p H', Same H H' → H p = none → H' p = some (.tup [.int (t.lsp : Int), .int (t.rsp : Int)]) → Q (.ref p) H'
def spMir (K : PySem.W.Frag) (n : Nat) : Sp := fun vs H Q _ => ∃ (a : Addr) (t : T), vs = [.ref a] ∧ SqT K H a (t.pre.map V.int) ∧ t.bst ∧ t.pre.length < n ∧ t.pre.length ≤ 1000 ∧
  ∀ p H', Same H H' → H' p = some (.tup (t.mir.pre.map V.int)) → Q (.ref p) H'
section
variable {K : PySem.W.Frag} {σ : L2.St} {H : Hp}
theorem rd_lo {i j : Nat} {lo : Option Int} {x : Int} {Q : Bool → Hp → Prop} (h1 : σ[i]? = some (some (oV lo))) (h3 : σ[j]? = some (some (.int x))) (q : Q (okLo lo x) H) : tOr (tB (tIsN (tVar i))) (tTest (tOp (rI0 fun i j => .bl (decide (i < j))) (tVar i) (tVar j))) σ H Q := by
  cases lo with
  | none => exact ⟨_, h1, _, rfl, iteTd rfl q⟩
  | some l => exact ⟨_, h1, _, rfl, iteFd rfl ⟨_, h1, _, h3, l, x, rfl, rfl, _, rfl, q⟩⟩
theorem rd_hi {i j : Nat} {hi : Option Int} {x : Int} {Q : Bool → Hp → Prop} (h1 : σ[i]? = some (some (oV hi))) (h3 : σ[j]? = some (some (.int x))) (q : Q (okHi hi x) H) : tOr (tB (tIsN (tVar i))) (tTest (tOp (rI0 fun i j => .bl (decide (i < j))) (tVar j) (tVar i))) σ H Q := by
  cases hi with
  | none => exact ⟨_, h1, _, rfl, iteTd rfl q⟩
  | some l => exact ⟨_, h1, _, rfl, iteFd rfl ⟨_, h3, _, h1, x, l, rfl, rfl, _, rfl, q⟩⟩
theorem rd_catT {a b : Addr} {xs ys : List V} {Q : VK} (ha : H a = some (.tup xs)) (hb : SqT K H b ys) (h0 : xs ≠ []) (hl : xs.length + ys.length ≤ 100000) (q : ∀ p H', Same H H' → H' p = some (.tup (xs ++ ys)) → Q (.ref p) H') : rCatT K (.ref a) (.ref b) H Q := by
  refine ⟨a, b, xs, ys, rfl, rfl, SqT.of ha, hb, h0, sz hl, fun e => ?_, fun _ p np => q p _ (same_new np) upd_same⟩
  subst e
  exact q a H (.refl H) (by rw [List.append_nil]; exact ha)
end
/-! from K06k -/
def sideS (b : Bool) : Str := if b then "left" else "right"
def T.sp (b : Bool) (t : T) : Nat := if b then t.lsp else t.rsp
def spSpine : Sp := fun vs H Q _ => ∃ (m L R U : Addr) (t : T) (uf : Int → Option Int) (n : Nat) (b : Bool), vs = [.ref m, .str (sideS b)] ∧ Nod H m L R U t.rt t.lc t.rc uf n ∧ t.bst ∧ t.pre.length ≤ 41 ∧ Q (.int (t.sp b : Int)) H
theorem sp_node {b : Bool} {l r : T} {x : Int} : (T.node l x r).sp b = (if b then l.sp b else r.sp b) + 1 := by cases b <;> rfl
theorem sp_le {b : Bool} {t : T} : t.sp b ≤ t.pre.length := by cases b; exact rsp_le; exact lsp_le
/-! from K06l -/
/-! ### the mirror's dicts -/
def keysI (kvs : List (Key × V)) : List Int := kvs.filterMap fun p => match p.1 with | Sum.inl a => some a | Sum.inr _ => none
theorem valV_out {y : Int} : ∀ {kvs : List (Key × V)}, y ∉ keysI kvs → valV kvs (Sum.inl y) = none
  | [], _ => rfl
  | (Sum.inl a, v) :: kvs, h => by
    have h' : y ∉ a :: keysI kvs := h
    rw [List.mem_cons, not_or] at h'
    rw [valV_neg (fun e => h'.1 (Sum.inl.inj e).symm)]
    exact valV_out h'.2
  | (Sum.inr a, v) :: kvs, h => by
    rw [valV_neg (fun e => by cases e)]
    exact valV_out h
/-- what the loop over a dict has put so far -/
def mirF (lf : Int → Option Int) (done : List Int) (x : Int) : Option Int := if -x ∈ done then (lf (-x)).map (fun y => -y) else none
theorem mirF_all {kvs : List (Key × V)} {lf : Int → Option Int} {n : Nat} (h : Mp kvs lf n) (x : Int) : mirF lf (keysI kvs) x = (lf (-x)).map (fun y => -y) := by
  unfold mirF
  by_cases e : -x ∈ keysI kvs
  · rw [if_pos e]
  · rw [if_neg e]
    have := h.val (-x)
    rw [valV_out e] at this
    cases hz : lf (-x) with
    | none => rfl
    | some y => rw [hz] at this; cases this
theorem mp_turn {kvs : List (Key × V)} {lf : Int → Option Int} {n i : Nat} {a b : Int} {v : V} {rk : List (Key × V)} (h : Mp kvs lf n) (hi : kvs[i]? = some (Sum.inl a, v)) (hv : lf a = some b) (hr : Mp rk (mirF lf (keysI (kvs.take i))) i) :
    Mp (putK rk (Sum.inl (0 - a)) (.int (0 - b))) (mirF lf (keysI (kvs.take (i + 1)))) (i + 1) := by
  refine (hr.put (0 - a) (0 - b)).eq (fun z => ?_) (Nat.le_refl _)
  have hk : keysI (kvs.take (i + 1)) = keysI (kvs.take i) ++ [a] := by
    rw [List.take_add_one, hi]
    unfold keysI
    rw [List.filterMap_append]; rfl
  unfold mirF
  rw [hk]
  by_cases e : z = 0 - a
  · have ea : -z = a := by omega
    rw [if_pos e, ea, if_pos (by simp), hv]
    show some (0 - b) = some (-b)
    rw [Int.zero_sub]
  · rw [if_neg e]
    have ne : -z ≠ a := by omega
    by_cases m : -z ∈ keysI (kvs.take i)
    · rw [if_pos m, if_pos (by simp [m])]
    · rw [if_neg m, if_neg (by simp [m, ne])]
theorem mp_none {lf : Int → Option Int} : Mp [] (mirF lf []) 0 := by
  refine ⟨fun _ h => (by cases h), fun x => ?_, Nat.le_refl _, List.nodup_nil⟩
  show none = _
  unfold mirF
  rw [if_neg (by simp)]
  rfl
theorem mp_has {kvs : List (Key × V)} {lf : Int → Option Int} {n i : Nat} {a : Int} {v : V} (h : Mp kvs lf n) (hi : kvs[i]? = some (Sum.inl a, v)) : ∃ b, lf a = some b := by
  have h1 : (kvs.any fun kv => decide (kv.1 = Sum.inl a)) = true := List.any_eq_true.mpr ⟨_, List.mem_of_getElem? hi, decide_eq_true rfl⟩
  rw [valV_any, h.val a] at h1
  cases hz : lf a with
  | none => rw [hz] at h1; cases h1
  | some b => exact ⟨b, rfl⟩
/-- for key in m[sd]: turned[td][0 - key] = 0 - m[sd][key] -/
theorem rd_mloop {H : Hp} {D : Ends} {v0 v1 v2 v3 v6 : Option V} {m m2 S Z : Addr} {mk mk2 sk : List (Key × V)} {sf : Int → Option Int} {n : Nat} (sd td : Str)
    (hm : H m = some (.dK mk)) (hsd : valV mk (Sum.inr sd) = some (.ref S)) (hS : H S = some (.dK sk)) (hf : Mp sk sf n) (hn : n ≤ 1000) (hm2 : H m2 = some (.dK mk2)) (htd : valV mk2 (Sum.inr td) = some (.ref Z)) (hZ : H Z = some (.dK []))
    (mS : m ≠ S) (m2S : m2 ≠ S) (ZS : Z ≠ S) (Zm : Z ≠ m) (Zm2 : Z ≠ m2)
    (q : ∀ y H' zk, (∀ b, b ≠ Z → H' b = H b) → H' Z = some (.dK zk) → Mp zk (fun x => (sf (-x)).map fun y => -y) n → D.nx [v0, v1, v2, v3, some (.ref m), some (.ref m2), y] H') :
    tLock (tFor (iKeys (tDGet (tVar 4) (tC (.str sd)))) (gName 6) (sDPut (tDGet (tVar 5) (tC (.str td))) (tOp (rI0 fun i j => .int (i - j)) (tC (.int 0)) (tVar 6)) (tOp (rI0 fun i j => .int (i - j)) (tC (.int 0)) (tDGet (tDGet (tVar 4) (tC (.str sd))) (tVar 6))))) D [v0, v1, v2, v3, some (.ref m), some (.ref m2), v6] H := by
  refine ⟨S, .dK sk, hS, trivial, fun od => ?_⟩
  refine rd_dS sd rfl (by rw [upd_ne mS]; exact hm) hsd ⟨S, od, rfl, .inl ⟨sk, upd_same, ?_⟩⟩
  refine for_it walk_keys (fun i σ' H3 => ∃ y zk, σ' = [v0, v1, v2, v3, some (.ref m), some (.ref m2), y] ∧ (∀ b, b ≠ Z → H3 b = upd H S (.frz od (.dK sk)) b) ∧ H3 Z = some (.dK zk) ∧ Mp zk (mirF sf (keysI (sk.take i))) i)
    ⟨v6, [], rfl, fun _ _ => rfl, by rw [upd_ne ZS]; exact hZ, mp_none⟩ ?_ ?_ ?_
  · rintro i σ' H3 _ ⟨y, zk, rfl, hb, _, _⟩
    rw [hb S ZS.symm, upd_same]
  · rintro i x σ' H3 H4 hi ⟨y, zk, rfl, hb, hz, hM⟩ ⟨rfl, ke, v, hk, rfl⟩
    obtain ⟨a, b0, hab⟩ := hf.all _ (List.mem_of_getElem? hk)
    cases hab
    obtain ⟨b, hv⟩ := mp_has hf hk
    have hm3 : H4 m = some (.dK mk) := by rw [hb m Zm.symm, upd_ne mS]; exact hm
    have hS3 : H4 S = some (.frz od (.dK sk)) := by rw [hb S ZS.symm, upd_same]
    have hm23 : H4 m2 = some (.dK mk2) := by rw [hb m2 Zm2.symm, upd_ne m2S]; exact hm2
    refine rd_dS sd rfl hm3 hsd ⟨.int a, rfl, S, .int b, rfl, .inl ⟨sk, Sum.inl a, .inr ⟨od, hS3⟩, rfl, by rw [hf.val a, hv]; rfl⟩, 0, b, rfl, rfl, ?_⟩
    refine rd_dS td rfl hm23 htd ⟨.int a, rfl, 0, a, rfl, rfl, Z, _, rfl, dp_in hz hM (by have := hf.len; omega), ?_⟩
    refine ⟨_, _, rfl, fun c hc => by rw [upd_ne hc]; exact hb c hc, upd_same, mp_turn hf hk hv hM⟩
  · rintro σ' H3 ⟨y, zk, rfl, hb, hz, hM⟩
    rw [List.take_length] at hM
    refine ⟨by rw [hb S ZS.symm, upd_same], q y _ zk (fun c hc => ?_) (by rw [upd_ne ZS]; exact hz) (hM.eq (mirF_all hf) hf.len)⟩
    by_cases e : c = S
    · rw [e, upd_same]; exact hS.symm
    · rw [upd_ne e, hb c hc, upd_ne e]
def spLaw (K : PySem.W.Frag) : Sp := fun vs H Q _ => ∃ (a : Addr) (ns : List Int), vs = [.ref a] ∧ SqL K H a (ns.map V.int) ∧ ns.length ≤ 63 ∧ ∀ H', Q (.bl true) H'
theorem eqv_ints1 {H : Hp} {a b : Addr} {ns : List Int} (ha : H a = some (.tup (ns.map V.int))) (hb : H b = some (.tup (ns.map V.int))) (hl : ns.length ≤ 1000) : Eqv H 1 (.ref a) (.ref b) := by
  refine .inr ⟨a, b, _, _, rfl, rfl, .inr ⟨ha, hb⟩, rfl, by rw [List.length_map]; exact hl, fun i u v h1 h2 => ?_⟩
  rw [h1] at h2
  cases h2
  rw [List.getElem?_map] at h1
  obtain ⟨n, _, rfl⟩ := Option.map_eq_some_iff.mp h1
  exact ⟨rfl, rfl⟩
theorem eqv_pair {H : Hp} {a b : Addr} {n : Nat} {x y u v : V} (ha : H a = some (.lst [x, y])) (hb : H b = some (.lst [u, v])) (h1 : Eqv H n x u) (h2 : Eqv H n y v) : Eqv H (n + 1) (.ref a) (.ref b) := by
  refine .inr ⟨a, b, _, _, rfl, rfl, .inl ⟨ha, hb⟩, rfl, by show 2 ≤ 1000; decide, fun i p q g1 g2 => ?_⟩
  match i, g1, g2 with
  | 0, g1, g2 => cases g1; cases g2; exact h1
  | 1, g1, g2 => cases g1; cases g2; exact h2
  | i + 2, g1, _ => simp at g1
theorem cpow {i j : Int} (h1 : 0 ≤ j) (h2 : j ≤ 1000) (h3 : i.natAbs < 2 ^ 64) : CPow i j := ⟨h1, by omega, h3⟩
end TT
namespace TT
open PySem PySem.Spec PyProof.Rows L2
open T
/-! ### chains of parents -/
theorem up_out : ∀ {t : T} {x : Int}, x ∉ t.pre → t.up x = none
  | leaf, _, _ => rfl
  | node l k r, x, h => by
    rw [mem_node] at h
    have h1 : x ∉ l.pre := fun e => h (.inr (.inl e))
    have h2 : x ∉ r.pre := fun e => h (.inr (.inr e))
    unfold up
    rw [if_neg (fun e => h1 (rt_mem e)), if_neg (fun e => h2 (rt_mem e)), up_out h1, up_out h2]
    split
    · rfl
    · split <;> rfl
theorem path_mem {x : Int} : ∀ {t : T}, t.bst → x ∈ t.pre → t.path x ≠ [] ∧ ∀ y ∈ t.path x, y ∈ t.pre
  | leaf, _, h => by cases h
  | node l k r, b, h => by
    unfold path
    by_cases e : x = k
    · rw [if_pos e]
      exact ⟨by simp, fun y hy => by rw [List.mem_singleton.mp hy]; exact mem_node.mpr (.inl rfl)⟩
    · rw [if_neg e]
      by_cases g : x < k
      · rw [if_pos g]
        have hx : x ∈ l.pre := by
          rcases mem_node.mp h with h | h | h
          · exact absurd h e
          · exact h
          · have := b.2.1 _ h; omega
        refine ⟨by simp, fun y hy => ?_⟩
        rcases List.mem_cons.mp hy with rfl | hy
        · exact mem_node.mpr (.inl rfl)
        · exact mem_node.mpr (.inr (.inl ((path_mem b.2.2.1 hx).2 y hy)))
      · rw [if_neg g]
        have hx : x ∈ r.pre := by
          rcases mem_node.mp h with h | h | h
          · exact absurd h e
          · have := b.1 _ h; omega
          · exact h
        refine ⟨by simp, fun y hy => ?_⟩
        rcases List.mem_cons.mp hy with rfl | hy
        · exact mem_node.mpr (.inl rfl)
        · exact mem_node.mpr (.inr (.inr ((path_mem b.2.2.2 hx).2 y hy)))
theorem path_l {l r : T} {k x : Int} (b : (node l k r).bst) (h : x ∈ l.pre) : (node l k r).path x = k :: l.path x := by
  have := b.1 x h
  show (if x = k then [k] else if x < k then k :: l.path x else k :: r.path x) = _
  rw [if_neg (by omega), if_pos this]
theorem path_r {l r : T} {k x : Int} (b : (node l k r).bst) (h : x ∈ r.pre) : (node l k r).path x = k :: r.path x := by
  have := b.2.1 x h
  show (if x = k then [k] else if x < k then k :: l.path x else k :: r.path x) = _
  rw [if_neg (by omega), if_neg (by omega)]
theorem path_k {l r : T} {k : Int} : (node l k r).path k = [k] := by
  show (if k = k then [k] else _) = _
  rw [if_pos rfl]
theorem path_rt {t : T} {x : Int} (h : t.rt = some x) : t.path x = [x] := by
  cases t with
  | leaf => cases h
  | node l k r => cases h; exact path_k
/-- the parent, and the path to it -/
theorem up_path {x : Int} : ∀ {t : T}, t.bst → x ∈ t.pre → (t.up x = none ∧ t.path x = [x]) ∨ ∃ p, t.up x = some p ∧ p ∈ t.pre ∧ t.path x = t.path p ++ [x]
  | leaf, _, h => by cases h
  | node l k r, b, h => by
    rcases mem_node.mp h with e | hx | hx
    · subst e
      left
      refine ⟨?_, path_k⟩
      unfold up
      rw [if_neg (by omega), if_neg (by omega)]
    · have lt := b.1 x hx
      right
      rw [path_l b hx]
      show ∃ p, (if x < k then (if l.rt = some x then some k else l.up x) else _) = some p ∧ _
      rw [if_pos lt]
      by_cases er : l.rt = some x
      · rw [if_pos er]
        exact ⟨k, rfl, mem_node.mpr (.inl rfl), by rw [path_k, path_rt er]; rfl⟩
      · rw [if_neg er]
        rcases up_path b.2.2.1 hx with ⟨h1, h2⟩ | ⟨p, h1, h2, h3⟩
        · exfalso
          cases l with
          | leaf => cases hx
          | node l1 k1 r1 =>
            apply er
            have : (node l1 k1 r1).path x = if x = k1 then [k1] else if x < k1 then k1 :: l1.path x else k1 :: r1.path x := rfl
            rw [h2] at this
            split at this
            · next e => rw [e]; rfl
            · split at this
              · have := (List.cons.inj this).1; rw [this]; rfl
              · have := (List.cons.inj this).1; rw [this]; rfl
        · exact ⟨p, h1, mem_node.mpr (.inr (.inl h2)), by rw [path_l b h2, h3]; rfl⟩
    · have lt := b.2.1 x hx
      right
      rw [path_r b hx]
      show ∃ p, (if x < k then _ else if k < x then (if r.rt = some x then some k else r.up x) else none) = some p ∧ _
      rw [if_neg (by omega), if_pos lt]
      by_cases er : r.rt = some x
      · rw [if_pos er]
        exact ⟨k, rfl, mem_node.mpr (.inl rfl), by rw [path_k, path_rt er]; rfl⟩
      · rw [if_neg er]
        rcases up_path b.2.2.2 hx with ⟨h1, h2⟩ | ⟨p, h1, h2, h3⟩
        · exfalso
          cases r with
          | leaf => cases hx
          | node l1 k1 r1 =>
            apply er
            have : (node l1 k1 r1).path x = if x = k1 then [k1] else if x < k1 then k1 :: l1.path x else k1 :: r1.path x := rfl
            rw [h2] at this
            split at this
            · next e => rw [e]; rfl
            · split at this
              · have := (List.cons.inj this).1; rw [this]; rfl
              · have := (List.cons.inj this).1; rw [this]; rfl
        · exact ⟨p, h1, mem_node.mpr (.inr (.inr h2)), by rw [path_r b h2, h3]; rfl⟩
/-- the keys above, the parent first -/
def T.anc (t : T) (x : Int) : List Int := (t.path x).dropLast.reverse
theorem path_len {x : Int} : ∀ {t : T}, (t.path x).length ≤ t.pre.length
  | leaf => Nat.le_refl _
  | node l k r => by
    have i1 := path_len (x := x) (t := l)
    have i2 := path_len (x := x) (t := r)
    unfold path
    show _ ≤ (k :: (l.pre ++ r.pre)).length
    rw [List.length_cons, List.length_append]
    split
    · simp
    · split <;> (rw [List.length_cons]; omega)
/-! ### orders in which a tree grows -/
def T.Rank (ρ : Int → Nat) : T → Prop
  | leaf => True
  | node l k r => (∀ y ∈ l.pre, ρ k < ρ y) ∧ (∀ y ∈ r.pre, ρ k < ρ y) ∧ l.Rank ρ ∧ r.Rank ρ
theorem Rank.up {ρ ρ' : Int → Nat} : ∀ {t : T}, t.Rank ρ → (∀ x ∈ t.pre, ρ' x = ρ x + 1) → t.Rank ρ'
  | leaf, _, _ => trivial
  | node l k r, h, e => by
    have ek := e k (mem_node.mpr (.inl rfl))
    have el : ∀ x ∈ l.pre, ρ' x = ρ x + 1 := fun x hx => e x (mem_node.mpr (.inr (.inl hx)))
    have er : ∀ x ∈ r.pre, ρ' x = ρ x + 1 := fun x hx => e x (mem_node.mpr (.inr (.inr hx)))
    exact ⟨fun y hy => by have := h.1 y hy; rw [ek, el y hy]; omega, fun y hy => by have := h.2.1 y hy; rw [ek, er y hy]; omega, Rank.up h.2.2.1 el, Rank.up h.2.2.2 er⟩
theorem grown {ρ : Int → Nat} : ∀ {t : T} {os : List Int}, t.bst → t.Rank ρ → os.Perm t.pre → os.Pairwise (fun a b => ρ a ≤ ρ b) → insAll os leaf = t
  | leaf, os, _, _, pm, _ => by
    have : os = [] := pm.eq_nil
    subst this; rfl
  | node l k r, os, b, hr, pm, pw => by
    cases os with
    | nil => exact absurd pm.length_eq (by simp [pre])
    | cons o os =>
      have hk : k ∈ o :: os := pm.mem_iff.mpr (mem_node.mpr (.inl rfl))
      have ho : o ∈ (node l k r).pre := pm.mem_iff.mp List.mem_cons_self
      have eo : o = k := by
        rcases List.mem_cons.mp hk with e | hk
        · exact e.symm
        · have le := List.rel_of_pairwise_cons pw hk
          rcases mem_node.mp ho with e | h | h
          · exact e
          · have := hr.1 o h; omega
          · have := hr.2.1 o h; omega
      subst eo
      have pm2 : os.Perm (l.pre ++ r.pre) := (List.perm_cons _).mp pm
      have pw2 := (List.pairwise_cons.mp pw).2
      show insAll os (node leaf o leaf) = _
      rw [insAll_split]
      have f1 : (l.pre ++ r.pre).filter (fun x => decide (x < o)) = l.pre := by
        rw [List.filter_append, filter_all fun x hx => decide_eq_true (b.1 x hx), filter_none fun x hx => decide_eq_false (by have := b.2.1 x hx; omega), List.append_nil]
      have f2 : (l.pre ++ r.pre).filter (fun x => !decide (x < o)) = r.pre := by
        rw [List.filter_append, filter_none (l := l.pre) fun x hx => by simp [b.1 x hx], filter_all (l := r.pre) fun x hx => by have := b.2.1 x hx; simp; omega, List.nil_append]
      rw [grown b.2.2.1 hr.2.2.1 (by have := pm2.filter (fun x => decide (x < o)); rwa [f1] at this) (pw2.filter _),
        grown b.2.2.2 hr.2.2.2 (by have := pm2.filter (fun x => !decide (x < o)); rwa [f2] at this) (pw2.filter _)]
/-! ### the restriction as a tree -/
def T.restr (lo hi : Option Int) : T → T
  | leaf => leaf
  | node l k r => if okLo lo k = false then r.restr lo hi else if okHi hi k = false then l.restr lo hi else node (l.restr lo hi) k (r.restr lo hi)
theorem okLo_mono {lo : Option Int} {x y : Int} (h : okLo lo x = false) (le : y ≤ x) : okLo lo y = false := by
  cases lo with
  | none => cases h
  | some l => exact decide_eq_false (by have := of_decide_eq_false h; omega)
theorem okHi_mono {hi : Option Int} {x y : Int} (h : okHi hi x = false) (le : x ≤ y) : okHi hi y = false := by
  cases hi with
  | none => cases h
  | some l => exact decide_eq_false (by have := of_decide_eq_false h; omega)
theorem restr_pre {lo hi : Option Int} : ∀ {t : T}, t.bst → (t.restr lo hi).pre = t.pre.filter fun x => okLo lo x && okHi hi x
  | leaf, _ => rfl
  | node l k r, b => by
    show (if okLo lo k = false then r.restr lo hi else if okHi hi k = false then l.restr lo hi else node (l.restr lo hi) k (r.restr lo hi)).pre = (k :: (l.pre ++ r.pre)).filter _
    by_cases h1 : okLo lo k = false
    · rw [if_pos h1, List.filter_cons_of_neg (by simp [h1]), List.filter_append, filter_none (l := l.pre) fun x hx => by rw [okLo_mono h1 (Int.le_of_lt (b.1 x hx))]; rfl, List.nil_append]
      exact restr_pre b.2.2.2
    · rw [if_neg h1]
      by_cases h2 : okHi hi k = false
      · rw [if_pos h2, List.filter_cons_of_neg (by simp [h2]), List.filter_append, filter_none (l := r.pre) fun x hx => by rw [okHi_mono h2 (Int.le_of_lt (b.2.1 x hx)), Bool.and_false], List.append_nil]
        exact restr_pre b.2.2.1
      · rw [if_neg h2, List.filter_cons_of_pos (by simp [h1, h2]), List.filter_append]
        show k :: ((l.restr lo hi).pre ++ (r.restr lo hi).pre) = _
        rw [restr_pre b.2.2.1, restr_pre b.2.2.2]
theorem restr_sub {lo hi : Option Int} {t : T} (b : t.bst) {x : Int} (h : x ∈ (t.restr lo hi).pre) : x ∈ t.pre := by
  rw [restr_pre b] at h
  exact (List.mem_filter.mp h).1
theorem restr_bst {lo hi : Option Int} : ∀ {t : T}, t.bst → (t.restr lo hi).bst
  | leaf, _ => trivial
  | node l k r, b => by
    show (if okLo lo k = false then r.restr lo hi else if okHi hi k = false then l.restr lo hi else node (l.restr lo hi) k (r.restr lo hi)).bst
    split
    · exact restr_bst b.2.2.2
    · split
      · exact restr_bst b.2.2.1
      · exact ⟨fun x hx => b.1 x (restr_sub b.2.2.1 hx), fun x hx => b.2.1 x (restr_sub b.2.2.2 hx), restr_bst b.2.2.1, restr_bst b.2.2.2⟩
theorem restr_rank {lo hi : Option Int} : ∀ {t : T}, t.bst → (t.restr lo hi).Rank fun x => (t.path x).length
  | leaf, _ => trivial
  | node l k r, b => by
    have hl : (l.restr lo hi).Rank fun x => ((node l k r).path x).length := Rank.up (restr_rank b.2.2.1) fun x hx => by
      rw [path_l b (restr_sub b.2.2.1 hx), List.length_cons]
    have hr : (r.restr lo hi).Rank fun x => ((node l k r).path x).length := Rank.up (restr_rank b.2.2.2) fun x hx => by
      rw [path_r b (restr_sub b.2.2.2 hx), List.length_cons]
    show (if okLo lo k = false then r.restr lo hi else if okHi hi k = false then l.restr lo hi else node (l.restr lo hi) k (r.restr lo hi)).Rank _
    split
    · exact hr
    · split
      · exact hl
      · refine ⟨fun y hy => ?_, fun y hy => ?_, hl, hr⟩
        · have h := restr_sub b.2.2.1 hy
          have := List.length_pos_iff.mpr (path_mem b.2.2.1 h).1
          show ((node l k r).path k).length < ((node l k r).path y).length
          rw [path_k, path_l b h]
          simp only [List.length_cons, List.length_nil]
          omega
        · have h := restr_sub b.2.2.2 hy
          have := List.length_pos_iff.mpr (path_mem b.2.2.2 h).1
          show ((node l k r).path k).length < ((node l k r).path y).length
          rw [path_k, path_r b h]
          simp only [List.length_cons, List.length_nil]
          omega
/-! ### promises -/
theorem path_last {t : T} {x : Int} (b : t.bst) (h : x ∈ t.pre) : t.path x = (t.path x).dropLast ++ [x] := by
  rcases up_path b h with ⟨_, e⟩ | ⟨p, _, _, e⟩ <;> rw [e]
  · rfl
  · rw [List.dropLast_concat]
theorem anc_top {t : T} {x : Int} (e : t.path x = [x]) : t.anc x = [] := by unfold T.anc; rw [e]; rfl
theorem anc_up {t : T} {x p : Int} (b : t.bst) (hp : p ∈ t.pre) (e : t.path x = t.path p ++ [x]) : t.anc x = p :: t.anc p := by
  unfold T.anc
  rw [e, List.dropLast_concat]
  conv => lhs; rw [path_last b hp]
  rw [List.reverse_append]; rfl
theorem anc_len {t : T} {x : Int} (b : t.bst) (h : x ∈ t.pre) : (t.anc x).length + 1 = (t.path x).length := by
  have := List.length_pos_iff.mpr (path_mem b h).1
  unfold T.anc
  rw [List.length_reverse, List.length_dropLast]; omega
def spRoot (K : PySem.W.Frag) : Sp := fun vs H Q _ => ∃ (a : Addr) (ks : List Int), vs = [.ref a] ∧ SqT K H a (ks.map V.int) ∧ Q (oV ks.head?) H
def spAbove : Sp := fun vs H Q _ => ∃ (m : Addr) (key : Int) (L R U : Addr) (t : T) (n : Nat), vs = [.ref m, .int key] ∧ TrAt H m L R U t n ∧ t.bst ∧ key ∈ t.pre ∧ t.pre.length ≤ 1000 ∧
  ∀ p H', Same H H' → H p = none → H' p = some (.lst ((t.anc key).map V.int)) → Q (.ref p) H'
def spBound (K : PySem.W.Frag) : Sp := fun vs H Q _ => ∃ (d a : Addr) (ks : List Int) (c : Addr) (ns : List Int), vs = [.ref d, .ref a] ∧ SqL K H a (ks.map V.int) ∧ ks.length ≤ 1000 ∧ a ≠ d ∧ Drw c ns H d ∧
  ∀ b H', Ext d H H' → Drw c ns H' d → Q (oV b) H'
def spRestd (K : PySem.W.Frag) : Sp := fun vs H Q _ => ∃ (a : Addr) (t : T) (lo hi : Option Int), vs = [.ref a, oV lo, oV hi] ∧ SqT K H a (t.pre.map V.int) ∧ t.bst ∧ t.pre.length ≤ 58 ∧
  ∀ p H', Same H H' → H' p = some (.tup ((t.pre.filter fun x => okLo lo x && okHi hi x).map V.int)) → Q (.ref p) H'
theorem rd_gt {σ : L2.St} {H : Hp} {i j : Nat} {lo : Option Int} {x : Int} {Q : Bool → Hp → Prop} (h1 : σ[i]? = some (some (oV lo))) (h3 : σ[j]? = some (some (.int x))) (q : Q (okLo lo x) H) : tOr (tB (tIsN (tVar i))) (tTest (tOp (rI0 fun i j => .bl (decide (j < i))) (tVar j) (tVar i))) σ H Q := by
  cases lo with
  | none => exact ⟨_, h1, _, rfl, iteTd rfl q⟩
  | some l => exact ⟨_, h1, _, rfl, iteFd rfl ⟨_, h3, _, h1, x, l, rfl, rfl, _, rfl, q⟩⟩
theorem Eqv.up {H : Hp} : ∀ {n : Nat} {x y : V}, Eqv H n x y → Eqv H (n + 1) x y
  | 0, _, _, h => .inl h
  | n + 1, _, _, h => by
    rcases h with h | ⟨a, b, xs, ys, e1, e2, h1, h2, h3, h4⟩
    · exact .inl h
    · exact .inr ⟨a, b, xs, ys, e1, e2, h1, h2, h3, fun i u v g1 g2 => (h4 i u v g1 g2).up⟩
end TT
namespace TT
open PySem PySem.Spec PyProof.Rows L2
open T
/-! ### sorted of a tuple of ints -/
section
variable {prog : Program} {w : World} {A : Around} {E : Value → Shared → Prop} {s : Shared}
theorem gather_tup {t : Addr} {us : List Value} {R : List Value → Shared → Prop} (ht : s.heap.IsTuple t us.toArray) (fit : us.length ≤ sizeLine)
    (q : R us { s with heap := (s.heap.push (seqObj "list" #[] 0)).update s.heap.objs.size (Obj.mapSeq (· ++ us.toArray)) }) : wpAny (model prog w) A (collect (.ref t)) R E s := by
  obtain ⟨ob, g0, c0, m0, d0⟩ := ht
  have g1 : (s.heap.push (seqObj "list" #[] 0)).get? t = some ob := Heap.get?_push_of_some _ g0
  unfold collect
  refine wpAny_bind (wpAny_runValue (codeAny_builtin entry_proto_collect' ?_)); show wpAny _ _ (do again (.builtin "list.__iadd__" ⟨[← newList [], .ref t], []⟩)) _ _ s
  refine wpAny_bind (wpAny_newList (wpAny_pure ⟨Code.quiet_builtin _ (by decide +kernel), codeAny_builtin entry_list_iadd' ?_⟩)); show wpAny _ _ (Builtin.List.listExtendWith (.ref s.heap.objs.size) (.ref t) (.ref s.heap.objs.size)) _ _ { s with heap := s.heap.push (seqObj "list" #[] 0) }
  unfold Builtin.List.listExtendWith
  refine wpAny_bind (wpAny_typeOf (T := "tuple") ⟨ob, g1, c0⟩ ?_)
  rw [if_pos (by rw [show (Value.type "tuple" == Value.type "tuple") = true by rfl]; simp)]
  refine wpAny_bind (listItems_at g1 d0 (wpAny_bind (listItems_at (xs := #[]) (n := 0) (Heap.get?_push_size _ rfl) rfl ?_)))
  rw [if_neg (by simp)]
  refine wpAny_bind (listUpdate_at (xs := #[]) (n := 0) (Heap.get?_push_size _ rfl) rfl (wpAny_pure ?_) (Nat.zero_le _) (by show (#[] ++ us.toArray).size ≤ sizeLine + 1; simp only [Array.size_append, List.size_toArray, List.length_nil]; omega))
  show wpAny (model prog w) A (load s.heap.objs.size >>= fun o => match o.data with
      | .seq xs _ => pure xs.toList
      | _ => unsupported "internal:collect") R E { s with heap := (s.heap.push (seqObj "list" #[] 0)).update s.heap.objs.size (Obj.mapSeq (· ++ us.toArray)) }
  refine wpAny_bind (wpAny_load (get?_update_seq (Heap.get?_push_size _ rfl) _) ?_); show wpAny _ _ (pure ((#[] : Array Value) ++ us.toArray).toList) R E _
  rw [show ((#[] : Array Value) ++ us.toArray).toList = us by simp]; exact wpAny_pure q
theorem sorted_tupI {t : Addr} {us : List Value} {ns : List Int} {R : Value → Shared → Prop} (ht : s.heap.IsTuple t us.toArray) (hI : IntsAre us ns) (h64 : us.length < 64)
    (q : ∀ (out : Array Value) (ms : List Int), IntsAre out.toList ms → ms.Perm ns → ms.Pairwise (· ≤ ·) → R (.ref (s.heap.objs.size + 1)) { s with heap := sortedAll s.heap us out }) :
    wpAny (model prog w) A (call (.builtin "sorted") [.ref t]) R E s := by
  refine Calls.call_function_entry kind_sorted plain_sorted entry_sorted (args_sorted1 _) ?_; unfold Builtin.«sorted»
  refine wpAny_bind (m := checkCount "sorted" 1 1 _) (wpAny_pure (wpAny_bind (gather_tup ht (small64 h64) (wpAny_bind (wpAny_newList ?_ (small64 h64))))))
  have z : ((s.heap.push (seqObj "list" #[] 0)).update s.heap.objs.size (Obj.mapSeq (· ++ us.toArray))).objs.size = s.heap.objs.size + 1 := (Heap.size_update ..).trans (size_push' ..)
  have at1 : (((s.heap.push (seqObj "list" #[] 0)).update s.heap.objs.size (Obj.mapSeq (· ++ us.toArray))).push (seqObj "list" us.toArray 0)).get? (s.heap.objs.size + 1) = some (seqObj "list" us.toArray 0) := z ▸ Heap.get?_push_size _ rfl
  show wpAny _ _ _ _ _ { s with heap := ((s.heap.push (seqObj "list" #[] 0)).update s.heap.objs.size (Obj.mapSeq (· ++ us.toArray))).push (seqObj "list" us.toArray 0) }; rw [z]
  exact wpAny_bind (wpAny_holding (wpAny_call_entry slot_list_sort ⟨_, at1, rfl⟩ entry_list_sort (list_sort_tree at1 hI h64 fun out ms a1 a2 a3 => ⟨_, rfl, wpAny_pure ⟨_, rfl, q out ms a1 a2 a3⟩⟩) (args_list_sort _)))
end
section
variable {X : Cx}
def rSortedTI (K : PySem.W.Frag) : List V → Hp → VK → Prop := fun vs H Q => ∃ (a : Addr) (ns : List Int), vs = [V.ref a] ∧ SqT K H a (ns.map V.int) ∧ ns.length < 64 ∧
  ∀ (ms : List Int) (p : Addr), ms.Perm ns → ms.Pairwise (· ≤ ·) → H p = none → Q (.ref p) (upd H p (.lst (ms.map V.int)))
theorem cr_sortedTI : CallR X (.builtin "sorted") (rSortedTI X.K) := by
  intro pins s σ H vs us Q I r h
  obtain ⟨a, ns, rfl, hs, hl, q⟩ := h
  obtain ⟨its, rv, ht, _⟩ := I.tuple hs
  have hi := rv.ints
  rw [Vals.ref1 r]
  refine sorted_tupI ht hi (by rw [hi.length]; exact hl) fun out ms h1 h2 h3 => ?_
  obtain ⟨ep, he⟩ := PyProof.Rows.sortedAll_at s.heap its out
  have fits : (ms.map V.int).length ≤ sizeLine := by rw [List.length_map, h2.length_eq]; exact small64 hl
  exact ⟨.ref _, upd H (s.heap.objs.size + 1) (.lst (ms.map V.int)), I.laid (t' := s.toks) (fun _ _ => PyProof.Rows.sortedAll_old) (Nat.le_succ _) ⟨fits, out.toList, ep, vals_of_ints h1, he⟩, rfl, q ms _ h2 h3 (I.hok.fresh (Nat.le_succ _))⟩
end
end TT
namespace TT
open PySem PySem.Spec PyProof.Rows L2
open T
/-! ### touches, as lists and as trees -/
def topL (x : Int) (ks : List Int) : List Int := x :: (ks.filter (fun y => okLo none y && okHi (some x) y) ++ ks.filter (fun y => okLo (some x) y && okHi none y))
def T.tch (t : T) (x : Int) : T := node (t.restr none (some x)) x (t.restr (some x) none)
def T.dep (t : T) (x : Int) : Nat := (t.path x).length - 1
theorem tch_pre {t : T} {x : Int} (b : t.bst) : (t.tch x).pre = topL x t.pre := by
  show x :: ((t.restr none (some x)).pre ++ (t.restr (some x) none).pre) = _
  rw [restr_pre b, restr_pre b]; rfl
theorem mem_topL {x y : Int} {ks : List Int} : y ∈ topL x ks ↔ y = x ∨ y ∈ ks := by
  unfold topL
  rw [List.mem_cons, List.mem_append, List.mem_filter, List.mem_filter]
  show y = x ∨ (y ∈ ks ∧ (true && decide (y < x)) = true) ∨ (y ∈ ks ∧ (decide (x < y) && true) = true) ↔ _
  rw [Bool.true_and, Bool.and_true, decide_eq_true_eq, decide_eq_true_eq]
  constructor
  · rintro (h | h | h)
    · exact .inl h
    · exact .inr h.1
    · exact .inr h.1
  · rintro (h | h)
    · exact .inl h
    · rcases Int.lt_trichotomy y x with g | g | g
      · exact .inr (.inl ⟨h, g⟩)
      · exact .inl g
      · exact .inr (.inr ⟨h, g⟩)
theorem tch_bst {t : T} {x : Int} (b : t.bst) : (t.tch x).bst := by
  refine ⟨fun y hy => ?_, fun y hy => ?_, restr_bst b, restr_bst b⟩
  · rw [restr_pre b] at hy
    have := (List.mem_filter.mp hy).2
    exact of_decide_eq_true (by simpa [okLo, okHi] using this)
  · rw [restr_pre b] at hy
    have := (List.mem_filter.mp hy).2
    exact of_decide_eq_true (by simpa [okLo, okHi] using this)
theorem tch_mem {t : T} {x y : Int} (b : t.bst) : y ∈ (t.tch x).pre ↔ y = x ∨ y ∈ t.pre := by rw [tch_pre b, mem_topL]
theorem tch_mem' {t : T} {x y : Int} (b : t.bst) (h : x ∈ t.pre) : y ∈ (t.tch x).pre ↔ y ∈ t.pre := by
  rw [tch_mem b]
  exact ⟨fun z => z.elim (fun e => e ▸ h) id, .inr⟩
theorem tch_perm {t : T} {x : Int} (b : t.bst) (h : x ∈ t.pre) : (t.tch x).pre.Perm t.pre :=
  (List.perm_ext_iff_of_nodup (nodup_pre (tch_bst b)) (nodup_pre b)).mpr fun _ => tch_mem' b h
theorem tch_len {t : T} {x : Int} (b : t.bst) (h : x ∈ t.pre) : (t.tch x).pre.length = t.pre.length := (tch_perm b h).length_eq
theorem topL_len {x : Int} {ks : List Int} : (topL x ks).length ≤ ks.length + 1 := by
  unfold topL
  rw [List.length_cons, List.length_append]
  have key : ∀ l : List Int, (l.filter (fun y => okLo none y && okHi (some x) y)).length + (l.filter (fun y => okLo (some x) y && okHi none y)).length ≤ l.length := by
    intro l
    induction l with
    | nil => exact Nat.le_refl _
    | cons a l ih =>
      rw [List.filter_cons, List.filter_cons]
      show (if (true && decide (a < x)) = true then _ else _ : List Int).length + (if (decide (x < a) && true) = true then _ else _ : List Int).length ≤ _
      rw [Bool.true_and, Bool.and_true, List.length_cons]
      by_cases h1 : a < x
      · rw [if_pos (decide_eq_true h1), if_neg (by simp; omega), List.length_cons]; omega
      · rw [if_neg (by simp; omega)]
        split
        · rw [List.length_cons]; omega
        · omega
  have := key ks
  omega
theorem restr_mirL {x : Int} : ∀ {t : T}, (t.restr none (some x)).mir = t.mir.restr (some (-x)) none
  | leaf => rfl
  | node l k r => by
    show (if decide (k < x) = false then l.restr none (some x) else node (l.restr none (some x)) k (r.restr none (some x))).mir = if decide (-x < -k) = false then l.mir.restr (some (-x)) none else node (r.mir.restr (some (-x)) none) (-k) (l.mir.restr (some (-x)) none)
    by_cases h : k < x
    · rw [if_neg (by simp [h]), if_neg (by simp; omega), ← restr_mirL, ← restr_mirL]; rfl
    · rw [if_pos (decide_eq_false h), if_pos (decide_eq_false (by omega)), ← restr_mirL]
theorem restr_mirR {x : Int} : ∀ {t : T}, (t.restr (some x) none).mir = t.mir.restr none (some (-x))
  | leaf => rfl
  | node l k r => by
    show (if decide (x < k) = false then r.restr (some x) none else node (l.restr (some x) none) k (r.restr (some x) none)).mir = if decide (-k < -x) = false then r.mir.restr none (some (-x)) else node (r.mir.restr none (some (-x))) (-k) (l.mir.restr none (some (-x)))
    by_cases h : x < k
    · rw [if_neg (by simp [h]), if_neg (by simp; omega), ← restr_mirR, ← restr_mirR]; rfl
    · rw [if_pos (decide_eq_false h), if_pos (decide_eq_false (by omega)), ← restr_mirR]
theorem tch_mir {t : T} {x : Int} : (t.tch x).mir = t.mir.tch (-x) := by
  show node (t.restr (some x) none).mir (-x) (t.restr none (some x)).mir = _
  rw [restr_mirL, restr_mirR]; rfl
theorem filter_swap {p q : Int → Bool} (ks : List Int) : (ks.filter p).filter q = (ks.filter q).filter p := by
  rw [List.filter_filter, List.filter_filter]
  exact List.filter_congr fun x _ => Bool.and_comm _ _
/-- a restriction behind a touch of one of its keys -/
theorem topL_in {x : Int} {ks : List Int} {p : Int → Bool} (h : p x = true) : (topL x ks).filter p = topL x (ks.filter p) := by
  unfold topL
  rw [List.filter_cons_of_pos h, List.filter_append, filter_swap, filter_swap ks (p := fun y => okLo (some x) y && okHi none y)]
/-- a restriction behind a touch of another key -/
theorem topL_out {x : Int} {ks : List Int} {lo hi : Option Int} (h : (okLo lo x && okHi hi x) = false) : (topL x ks).filter (fun y => okLo lo y && okHi hi y) = ks.filter fun y => okLo lo y && okHi hi y := by
  unfold topL
  rw [List.filter_cons_of_neg (by rw [h]; exact Bool.false_ne_true), List.filter_append]
  cases hl : okLo lo x with
  | false =>
    rw [List.filter_filter, List.filter_filter, filter_none (p := fun a => (okLo lo a && okHi hi a) && (okLo none a && okHi (some x) a)) fun y _ => ?_, List.nil_append]
    · refine List.filter_congr fun y _ => ?_
      by_cases g : x < y
      · show ((okLo lo y && okHi hi y) && (decide (x < y) && true)) = _
        rw [decide_eq_true g]; simp
      · rw [okLo_mono hl (Int.not_lt.mp g)]; rfl
    · by_cases g : x < y
      · show ((okLo lo y && okHi hi y) && (true && decide (y < x))) = false
        rw [decide_eq_false (show ¬ y < x by omega)]; simp
      · rw [okLo_mono hl (Int.not_lt.mp g)]; rfl
  | true =>
    have hh : okHi hi x = false := by rw [hl] at h; exact h
    rw [List.filter_filter, List.filter_filter, filter_none (p := fun a => (okLo lo a && okHi hi a) && (okLo (some x) a && okHi none a)) fun y _ => ?_, List.append_nil]
    · refine List.filter_congr fun y _ => ?_
      by_cases g : y < x
      · show ((okLo lo y && okHi hi y) && (true && decide (y < x))) = _
        rw [decide_eq_true g]; simp
      · rw [okHi_mono hh (Int.not_lt.mp g)]; simp
    · by_cases g : y < x
      · show ((okLo lo y && okHi hi y) && (decide (x < y) && true)) = false
        rw [decide_eq_false (show ¬ x < y by omega)]; simp
      · rw [okHi_mono hh (Int.not_lt.mp g)]; simp
/-! ### slices, members -/
theorem atI_last (xs : List V) (v : V) : atI (xs ++ [v]) (-1) = some v := by
  simp [atI, ixN]
  rw [if_pos (by omega)]
  have e : (-1 + ((xs.length : Int) + 1)).toNat = xs.length := by omega
  simp [e]
theorem take_min (xs : List V) (k : Nat) : xs.take (min k xs.length) = xs.take k := by
  rcases Nat.le_total k xs.length with h | h
  · rw [Nat.min_eq_left h]
  · rw [Nat.min_eq_right h, List.take_of_length_le (Nat.le_refl _), List.take_of_length_le h]
theorem drop_min (xs : List V) (k : Nat) : xs.drop (min k xs.length) = xs.drop k := by
  rcases Nat.le_total k xs.length with h | h
  · rw [Nat.min_eq_left h]
  · rw [Nat.min_eq_right h, List.drop_of_length_le (Nat.le_refl _), List.drop_of_length_le h]
theorem cut_hi (xs : List V) (k : Nat) : cutV xs none (some (k : Int)) = xs.take k := by
  unfold cutV
  rw [HT.sIx_none, HT.sIx_nat, Nat.sub_zero, List.drop_zero, take_min]
theorem cut_lo (xs : List V) (k : Nat) : cutV xs (some (k : Int)) none = xs.drop k := by
  unfold cutV
  rw [HT.sIx_none, HT.sIx_nat, drop_min]
  exact List.take_of_length_le (by rw [List.length_drop]; omega)
theorem cut_one (xs : List V) (k : Nat) : cutV xs (some (k : Int)) (some ((k + 1 : Nat) : Int)) = (xs.drop k).take 1 := by
  unfold cutV
  rw [HT.sIx_nat, HT.sIx_nat, drop_min]
  rcases Nat.lt_or_ge k xs.length with h | h
  · rw [show min (k + 1) xs.length - min k xs.length = 1 by omega]
  · rw [List.drop_of_length_le h]; simp
theorem cut_hiI (ks : List Int) (k : Nat) : cutV (ks.map V.int) none (some (k : Int)) = (ks.take k).map V.int := by rw [cut_hi, List.map_take]
theorem cut_loI (ks : List Int) (k : Nat) : cutV (ks.map V.int) (some (k : Int)) none = (ks.drop k).map V.int := by rw [cut_lo, List.map_drop]
theorem cut_oneI (ks : List Int) (k : Nat) : cutV (ks.map V.int) (some (k : Int)) (some ((k + 1 : Nat) : Int)) = ((ks.drop k).take 1).map V.int := by rw [cut_one, List.map_take, List.map_drop]
theorem flat_ints (l : List Int) : (l.map V.int).all flatV = true := by
  rw [List.all_eq_true]
  intro x hx
  obtain ⟨i, _, rfl⟩ := List.mem_map.mp hx
  rfl
theorem inV_int (x : Int) (l : List Int) : inV (.int x) (l.map V.int) = true ↔ x ∈ l := by
  unfold inV
  rw [List.any_eq_true]
  constructor
  · rintro ⟨y, hy, h⟩
    obtain ⟨i, hi, rfl⟩ := List.mem_map.mp hy
    simp [eqV] at h
    rw [← h]
    exact hi
  · intro h
    exact ⟨.int x, List.mem_map.mpr ⟨x, h, rfl⟩, by simp [eqV]⟩
/-! ### promises -/
def spReq (K : PySem.W.Frag) : Sp := fun vs H Q _ => ∃ (a : Addr) (ks : List Int) (key : Int), vs = [.ref a, .int key] ∧ (SqL K H a (ks.map V.int) ∨ SqT K H a (ks.map V.int)) ∧ key ∈ ks ∧ Q .non H
def spPathTo (K : PySem.W.Frag) : Sp := fun vs H Q _ => ∃ (a : Addr) (key : Int) (t : T), vs = [.ref a, .int key] ∧ SqT K H a (t.pre.map V.int) ∧ t.bst ∧ t.pre.length ≤ 1000 ∧ key ∈ t.pre ∧
  ∀ p H', Same H H' → H p = none → H' p = some (.lst ((t.path key).map V.int)) → Q (.ref p) H'
def spDepth (K : PySem.W.Frag) : Sp := fun vs H Q _ => ∃ (a : Addr) (key : Int) (t : T), vs = [.ref a, .int key] ∧ SqT K H a (t.pre.map V.int) ∧ t.bst ∧ t.pre.length ≤ 1000 ∧ key ∈ t.pre ∧
  ∀ H', Same H H' → Q (.int (t.dep key : Int)) H'
def spPut (K : PySem.W.Frag) : Sp := fun vs H Q _ => ∃ (a : Addr) (key : Int) (ks : List Int), vs = [.ref a, .int key] ∧ SqT K H a (ks.map V.int) ∧ ks.length ≤ 1000 ∧
  ∀ p H', Same H H' → H' p = some (.tup ((topL key ks).map V.int)) → Q (.ref p) H'
def spTouch (K : PySem.W.Frag) : Sp := fun vs H Q _ => ∃ (a : Addr) (key : Int) (t : T), vs = [.ref a, .int key] ∧ SqT K H a (t.pre.map V.int) ∧ t.bst ∧ t.pre.length ≤ 1000 ∧ key ∈ t.pre ∧
  ∀ p q H', Same H H' → H' p = some (.tup [.ref q, .int (t.dep key : Int)]) → H' q = some (.tup ((t.tch key).pre.map V.int)) → Q (.ref p) H'

/-! ### comprehensions over ints -/
section
variable {K : PySem.W.Frag} {a : Addr} {ks : List Int} {g : TG} {tt : L2.TT} {te : TE} {vs : List Nat} {σ : L2.St} {H1 : Hp} {D : Addr} {Qd : Hp → Prop}
theorem lc_fT (p : Int → Bool) (f : Int → V) (hS : SqT K H1 a (ks.map V.int)) (nD : H1 D = none) (hl : ks.length ≤ 1000)
    (hs : ∀ x H2 (Y : VK) (N : Hp → Prop), x ∈ ks → Same H1 H2 → (p x = true → ∀ H3, Same H2 H3 → Y (f x) H3) → (p x = false → ∀ H3, Same H2 H3 → N H3) →
      g (.int x) (wipe σ vs) H2 fun σ2 H3 => wipe σ2 vs = wipe σ vs ∧ tt σ2 H3 fun b H4 => if b = true then te σ2 H4 Y else N H4)
    (hd : ∀ H2, Same H1 H2 → H2 D = some (.lst ((ks.filter p).map f)) → Qd H2) :
    ∃ W : Nat → Nat → Hp → Prop, (∃ m, W 0 m (upd H1 D (.lst []))) ∧ ∀ i m H, W i m H →
      ((Itt K a).stop i H ∧ Qd H) ∨ ((Itt K a).go i H ∧ ∃ Nx : Hp → Prop, (∀ H', Nx H' → ∃ m', m' < m ∧ W (i + 1) m' H') ∧ ∀ x H', (Itt K a).yld i H x H' → g x (wipe σ vs) H' fun σ2 H2 => wipe σ2 vs = wipe σ vs ∧ tt σ2 H2 fun b H3 =>
        if b = true then te σ2 H3 fun y H4 => ∃ acc, H4 D = some (.lst acc) ∧ acc.length < sizeLine ∧ Nx (upd H4 D (.lst (acc ++ [y]))) else Nx H3) := by
  refine lc_tup (xs := ks.map V.int) (fun i H2 => Same H1 H2 ∧ H2 D = some (.lst (((ks.take i).filter p).map f))) ⟨same_new nD, upd_same⟩ (fun i H2 _ h => Same.tup h.1 hS) ?_ ?_
  · rintro i v H2 hv ⟨e2, hD⟩
    rw [List.getElem?_map] at hv
    obtain ⟨x, hx, rfl⟩ := Option.map_eq_some_iff.mp hv
    have ht : ks.take (i + 1) = ks.take i ++ [x] := by rw [List.take_add_one, hx]; rfl
    refine hs x H2 _ _ (List.mem_of_getElem? hx) e2 (fun hp H3 e3 => ?_) (fun hp H3 e3 => ?_)
    · refine ⟨_, e3 _ _ hD, szl ?_, Same.put (e2.trans e3) nD, ?_⟩
      · rw [List.length_map]
        have := List.length_filter_le p (ks.take i)
        have := List.length_take_le' i ks
        omega
      · rw [upd_same, ht, List.filter_append, List.map_append, List.filter_cons_of_pos hp]; rfl
    · refine ⟨e2.trans e3, ?_⟩
      rw [e3 _ _ hD, ht, List.filter_append, List.filter_cons_of_neg (by rw [hp]; exact Bool.false_ne_true), List.filter_nil, List.append_nil]
  · rintro H2 ⟨e2, hD⟩
    rw [List.length_map, List.take_length] at hD
    exact hd H2 e2 hD
theorem lc_fL (p : Int → Bool) (f : Int → V) (hS : SqL K H1 a (ks.map V.int)) (nD : H1 D = none) (hl : ks.length ≤ 1000)
    (hs : ∀ x H2 (Y : VK) (N : Hp → Prop), x ∈ ks → Same H1 H2 → (p x = true → ∀ H3, Same H2 H3 → Y (f x) H3) → (p x = false → ∀ H3, Same H2 H3 → N H3) →
      g (.int x) (wipe σ vs) H2 fun σ2 H3 => wipe σ2 vs = wipe σ vs ∧ tt σ2 H3 fun b H4 => if b = true then te σ2 H4 Y else N H4)
    (hd : ∀ H2, Same H1 H2 → H2 D = some (.lst ((ks.filter p).map f)) → Qd H2) :
    ∃ W : Nat → Nat → Hp → Prop, (∃ m, W 0 m (upd H1 D (.lst []))) ∧ ∀ i m H, W i m H →
      ((Itl K a).stop i H ∧ Qd H) ∨ ((Itl K a).go i H ∧ ∃ Nx : Hp → Prop, (∀ H', Nx H' → ∃ m', m' < m ∧ W (i + 1) m' H') ∧ ∀ x H', (Itl K a).yld i H x H' → g x (wipe σ vs) H' fun σ2 H2 => wipe σ2 vs = wipe σ vs ∧ tt σ2 H2 fun b H3 =>
        if b = true then te σ2 H3 fun y H4 => ∃ acc, H4 D = some (.lst acc) ∧ acc.length < sizeLine ∧ Nx (upd H4 D (.lst (acc ++ [y]))) else Nx H3) := by
  refine lc_list (xs := ks.map V.int) (fun i H2 => Same H1 H2 ∧ H2 D = some (.lst (((ks.take i).filter p).map f))) ⟨same_new nD, upd_same⟩ (fun i H2 _ h => Same.seq h.1 hS) ?_ ?_
  · rintro i v H2 hv ⟨e2, hD⟩
    rw [List.getElem?_map] at hv
    obtain ⟨x, hx, rfl⟩ := Option.map_eq_some_iff.mp hv
    have ht : ks.take (i + 1) = ks.take i ++ [x] := by rw [List.take_add_one, hx]; rfl
    refine hs x H2 _ _ (List.mem_of_getElem? hx) e2 (fun hp H3 e3 => ?_) (fun hp H3 e3 => ?_)
    · refine ⟨_, e3 _ _ hD, szl ?_, Same.put (e2.trans e3) nD, ?_⟩
      · rw [List.length_map]
        have := List.length_filter_le p (ks.take i)
        have := List.length_take_le' i ks
        omega
      · rw [upd_same, ht, List.filter_append, List.map_append, List.filter_cons_of_pos hp]; rfl
    · refine ⟨e2.trans e3, ?_⟩
      rw [e3 _ _ hD, ht, List.filter_append, List.filter_cons_of_neg (by rw [hp]; exact Bool.false_ne_true), List.filter_nil, List.append_nil]
  · rintro H2 ⟨e2, hD⟩
    rw [List.length_map, List.take_length] at hD
    exact hd H2 e2 hD
end
def RemOf (t : T) (key : Int) (gs : List Int) (tot : Int) : Prop :=
  ((∀ y ∈ t.pre, ¬ y < key) ∧ gs = (t.tch key).pre.filter (fun y => !decide (V.int y = V.int key)) ∧ tot = (t.dep key : Int)) ∨
  ∃ m, m ∈ t.pre ∧ m < key ∧ (∀ y ∈ t.pre, y < key → y ≤ m) ∧ gs = ((t.tch key).tch m).pre.filter (fun y => !decide (V.int y = V.int key)) ∧ tot = (t.dep key : Int) + ((t.tch key).dep m : Int)
def spRemove (K : PySem.W.Frag) : Sp := fun vs H Q _ => ∃ (a : Addr) (key : Int) (t : T), vs = [.ref a, .int key] ∧ SqT K H a (t.pre.map V.int) ∧ t.bst ∧ t.pre.length ≤ 1000 ∧ key ∈ t.pre ∧
  ∀ p q gs tot H', Same H H' → RemOf t key gs tot → H' p = some (.tup [.ref q, .int tot]) → H' q = some (.tup (gs.map V.int)) → Q (.ref p) H'

section
variable {σ : L2.St} {H : Hp} {Q : VK}
theorem rd_loV {i j : Nat} {lo : Option Int} {x : Int} (h1 : σ[i]? = some (some (oV lo))) (h3 : σ[j]? = some (some (.int x))) (q : Q (.bl (okLo lo x)) H) : tOrV (tIsN (tVar i)) (tOp (rI0 fun i j => .bl (decide (i < j))) (tVar i) (tVar j)) σ H Q := by
  cases lo with
  | none => exact ⟨_, h1, _, rfl, iteTd rfl q⟩
  | some l => exact ⟨_, h1, _, rfl, iteFd rfl ⟨_, h1, _, h3, l, x, rfl, rfl, q⟩⟩
theorem rd_hiV {i j : Nat} {hi : Option Int} {x : Int} (h1 : σ[i]? = some (some (oV hi))) (h3 : σ[j]? = some (some (.int x))) (q : Q (.bl (okHi hi x)) H) : tOrV (tIsN (tVar i)) (tOp (rI0 fun i j => .bl (decide (i < j))) (tVar j) (tVar i)) σ H Q := by
  cases hi with
  | none => exact ⟨_, h1, _, rfl, iteTd rfl q⟩
  | some l => exact ⟨_, h1, _, rfl, iteFd rfl ⟨_, h3, _, h1, x, l, rfl, rfl, q⟩⟩
end

theorem rd_inV {σ : L2.St} {H : Hp} {Q : VK} {i i2 j : Nat} {lo hi : Option Int} {x : Int} (h1 : σ[i]? = some (some (oV lo))) (h2 : σ[i2]? = some (some (oV hi))) (h3 : σ[j]? = some (some (.int x))) (q : Q (.bl (okLo lo x && okHi hi x)) H) :
    tAndV (tOrV (tIsN (tVar i)) (tOp (rI0 fun i j => .bl (decide (i < j))) (tVar i) (tVar j))) (tOrV (tIsN (tVar i2)) (tOp (rI0 fun i j => .bl (decide (i < j))) (tVar j) (tVar i2))) σ H Q := by
  refine rd_loV h1 h3 ⟨_, rfl, ?_⟩
  cases e : okLo lo x with
  | false => rw [e] at q; exact iteFd rfl q
  | true => rw [e] at q; exact iteTd rfl (rd_hiV h2 h3 q)
/-! ### what is left behind a removal -/
theorem int_ne {x y : Int} : (!decide (V.int x = V.int y)) = true ↔ x ≠ y := by
  rw [Bool.not_eq_true', decide_eq_false_iff_not]
  exact ⟨fun h e => h (by rw [e]), fun h e => h (V.int.inj e)⟩
theorem rem_high {t : T} {key tot : Int} {gs : List Int} (b : t.bst) (h : RemOf t key gs tot) : (gs.filter fun y => okLo (some key) y && okHi none y) = t.pre.filter fun y => okLo (some key) y && okHi none y := by
  have drop : ∀ l : List Int, (l.filter fun y => !decide (V.int y = V.int key)).filter (fun y => okLo (some key) y && okHi none y) = l.filter fun y => okLo (some key) y && okHi none y := fun l => by
    rw [List.filter_filter]
    refine List.filter_congr fun y _ => ?_
    by_cases g : key < y
    · rw [int_ne.mpr (by omega), Bool.and_true]
    · show (decide (key < y) && true && _) = (decide (key < y) && true)
      rw [decide_eq_false g]; rfl
  rcases h with ⟨_, rfl, _⟩ | ⟨m, hm, lt, _, rfl, _⟩
  · rw [drop, tch_pre b, topL_out (by show (decide (key < key) && true) = false; simp)]
  · rw [drop, tch_pre (tch_bst b), topL_out (by show (decide (key < m) && true) = false; simp; omega), tch_pre b, topL_out (by show (decide (key < key) && true) = false; simp)]
theorem rem_perm {t : T} {key tot : Int} {gs : List Int} (b : t.bst) (hk : key ∈ t.pre) (h : RemOf t key gs tot) : gs.Perm (t.pre.filter fun y => !decide (V.int y = V.int key)) := by
  have nd : gs.Nodup := by
    rcases h with ⟨_, rfl, _⟩ | ⟨m, _, _, _, rfl, _⟩
    · exact (nodup_pre (tch_bst b)).filter _
    · exact (nodup_pre (tch_bst (tch_bst b))).filter _
  refine (List.perm_ext_iff_of_nodup nd ((nodup_pre b).filter _)).mpr fun y => ?_
  rcases h with ⟨_, rfl, _⟩ | ⟨m, hm, _, _, rfl, _⟩
  · rw [List.mem_filter, List.mem_filter, tch_mem' b hk]
  · rw [List.mem_filter, List.mem_filter, tch_mem' (tch_bst b) ((tch_mem' b hk).mpr hm), tch_mem' b hk]
theorem rem_none {t : T} {key tot : Int} {gs : List Int} (b : t.bst) (h : RemOf t key gs tot) (n : ∀ y ∈ t.pre, ¬ y < key) : gs = t.pre.filter fun y => okLo (some key) y && okHi none y := by
  rcases h with ⟨_, rfl, _⟩ | ⟨m, hm, lt, _⟩
  · rw [tch_pre b]
    unfold topL
    rw [List.filter_cons_of_neg (by simp), List.filter_append, filter_none (l := t.pre.filter _) fun y hy => ?_, List.nil_append, filter_all fun y hy => ?_]
    · have := of_decide_eq_true (p := key < y) (by simpa [okLo, okHi] using (List.mem_filter.mp hy).2)
      exact int_ne.mpr (by omega)
    · have := of_decide_eq_true (p := y < key) (by simpa [okLo, okHi] using (List.mem_filter.mp hy).2)
      exact absurd this (n y (List.mem_filter.mp hy).1)
  · exact absurd lt (n m hm)
theorem rem_head {t : T} {key tot : Int} {gs : List Int} (h : RemOf t key gs tot) {y0 : Int} (h0 : y0 ∈ t.pre) (l0 : y0 < key) : ∃ m r, gs = m :: r ∧ m ∈ t.pre ∧ m < key ∧ ∀ y ∈ t.pre, y < key → y ≤ m := by
  rcases h with ⟨n, _, _⟩ | ⟨m, hm, lt, g, rfl, _⟩
  · exact absurd l0 (n y0 h0)
  · exact ⟨m, (((t.tch key).restr none (some m)).pre ++ ((t.tch key).restr (some m) none).pre).filter _, List.filter_cons_of_pos (int_ne.mpr (by omega)), hm, lt, g⟩
theorem perm_sorted {l m : List Int} (h : l.Perm m) (hl : l.Pairwise (· ≤ ·)) (hm : m.Pairwise (· ≤ ·)) : l = m := h.eq_of_pairwise (fun a b _ _ h1 h2 => Int.le_antisymm h1 h2) hl hm
end TT
namespace TT
open PySem PySem.Spec PyProof.Rows L2
open T
/-! ### paths and trees -/
theorem path_sub {t : T} {x y : Int} : x ∈ t.path y → x ∈ t.pre := by
  induction t with
  | leaf => intro h; cases h
  | node l k r ihl ihr =>
    intro h
    unfold path at h
    rw [mem_node]
    split at h
    · exact .inl (List.mem_singleton.mp h)
    · split at h
      · rcases List.mem_cons.mp h with e | h
        · exact .inl e
        · exact .inr (.inl (ihl h))
      · rcases List.mem_cons.mp h with e | h
        · exact .inl e
        · exact .inr (.inr (ihr h))
theorem path_self {t : T} {x : Int} (b : t.bst) (h : x ∈ t.pre) : x ∈ t.path x := by
  rw [path_last b h]; simp
/-- a tree is known by its keys and by which ones are on which paths -/
theorem tree_ext : ∀ {u v : T}, u.bst → v.bst → (∀ z, z ∈ u.pre ↔ z ∈ v.pre) → (∀ x y, x ∈ u.pre → y ∈ u.pre → (x ∈ u.path y ↔ x ∈ v.path y)) → u = v
  | leaf, leaf, _, _, _, _ => rfl
  | leaf, node l k r, _, _, hm, _ => by
    have := (hm k).mpr (mem_node.mpr (.inl rfl))
    cases this
  | node l k r, leaf, _, _, hm, _ => by
    have := (hm k).mp (mem_node.mpr (.inl rfl))
    cases this
  | node l k r, node l' k' r', b, b', hm, hp => by
    have k1 : k ∈ (node l k r).pre := mem_node.mpr (.inl rfl)
    have k2 : k' ∈ (node l k r).pre := (hm k').mpr (mem_node.mpr (.inl rfl))
    have e : k = k' := by
      have h1 : k ∈ (node l k r).path k' := by
        unfold path
        split
        · exact List.mem_singleton.mpr rfl
        · split <;> exact List.mem_cons_self
      have := (hp k k' k1 k2).mp h1
      rw [path_k] at this
      exact List.mem_singleton.mp this
    subst e
    have ml : ∀ z, z ∈ l.pre ↔ z ∈ l'.pre := fun z => by
      constructor
      · intro h
        have lt := b.1 z h
        rcases mem_node.mp ((hm z).mp (mem_node.mpr (.inr (.inl h)))) with e | e | e
        · omega
        · exact e
        · have := b'.2.1 z e; omega
      · intro h
        have lt := b'.1 z h
        rcases mem_node.mp ((hm z).mpr (mem_node.mpr (.inr (.inl h)))) with e | e | e
        · omega
        · exact e
        · have := b.2.1 z e; omega
    have mr : ∀ z, z ∈ r.pre ↔ z ∈ r'.pre := fun z => by
      constructor
      · intro h
        have lt := b.2.1 z h
        rcases mem_node.mp ((hm z).mp (mem_node.mpr (.inr (.inr h)))) with e | e | e
        · omega
        · have := b'.1 z e; omega
        · exact e
      · intro h
        have lt := b'.2.1 z h
        rcases mem_node.mp ((hm z).mpr (mem_node.mpr (.inr (.inr h)))) with e | e | e
        · omega
        · have := b.1 z e; omega
        · exact e
    have el : l = l' := tree_ext b.2.2.1 b'.2.2.1 ml fun x y hx hy => by
      have h := hp x y (mem_node.mpr (.inr (.inl hx))) (mem_node.mpr (.inr (.inl hy)))
      rw [path_l b hy, path_l b' ((ml y).mp hy)] at h
      have lt := b.1 x hx
      simp only [List.mem_cons, show x ≠ k by omega, false_or] at h
      exact h
    have er : r = r' := tree_ext b.2.2.2 b'.2.2.2 mr fun x y hx hy => by
      have h := hp x y (mem_node.mpr (.inr (.inr hx))) (mem_node.mpr (.inr (.inr hy)))
      rw [path_r b hy, path_r b' ((mr y).mp hy)] at h
      have lt := b.2.1 x hx
      simp only [List.mem_cons, show x ≠ k by omega, false_or] at h
      exact h
    rw [el, er]
/-- the path in a restriction -/
theorem restr_path {lo hi : Option Int} {y : Int} (ok : (okLo lo y && okHi hi y) = true) : ∀ {t : T}, t.bst → (t.restr lo hi).path y = (t.path y).filter fun x => okLo lo x && okHi hi x
  | leaf, _ => rfl
  | node l k r, b => by
    have ok1 : okLo lo y = true := (Bool.and_eq_true_iff.mp ok).1
    have ok2 : okHi hi y = true := (Bool.and_eq_true_iff.mp ok).2
    show (if okLo lo k = false then r.restr lo hi else if okHi hi k = false then l.restr lo hi else node (l.restr lo hi) k (r.restr lo hi)).path y = ((if y = k then [k] else if y < k then k :: l.path y else k :: r.path y) : List Int).filter _
    by_cases h1 : okLo lo k = false
    · have hy : k < y := by
        rcases Int.lt_or_le k y with h | h
        · exact h
        · rw [okLo_mono h1 h] at ok1; cases ok1
      rw [if_pos h1, if_neg (show ¬ y = k by omega), if_neg (show ¬ y < k by omega), List.filter_cons_of_neg (by simp [h1])]
      exact restr_path ok b.2.2.2
    · rw [if_neg h1]
      by_cases h2 : okHi hi k = false
      · have hy : y < k := by
          rcases Int.lt_or_le y k with h | h
          · exact h
          · rw [okHi_mono h2 h] at ok2; cases ok2
        rw [if_pos h2, if_neg (show ¬ y = k by omega), if_pos hy, List.filter_cons_of_neg (by simp [h2])]
        exact restr_path ok b.2.2.1
      · rw [if_neg h2]
        have okk : (okLo lo k && okHi hi k) = true := by
          rw [Bool.not_eq_false] at h1 h2
          rw [h1, h2]; rfl
        show (if y = k then [k] else if y < k then k :: (l.restr lo hi).path y else k :: (r.restr lo hi).path y) = _
        split
        · rw [List.filter_cons_of_pos (p := fun x => okLo lo x && okHi hi x) okk]; rfl
        · split
          · rw [List.filter_cons_of_pos (p := fun x => okLo lo x && okHi hi x) okk, restr_path ok b.2.2.1]
          · rw [List.filter_cons_of_pos (p := fun x => okLo lo x && okHi hi x) okk, restr_path ok b.2.2.2]
/-- w lies between x and y -/
def btw (x y w : Int) : Bool := decide (min x y ≤ w ∧ w ≤ max x y)
theorem tch_path {t : T} {w x y : Int} (b : t.bst) : x ∈ (t.tch w).path y ↔ if btw x y w = true then w = x else x ∈ t.path y := by
  show x ∈ ((if y = w then [w] else if y < w then w :: (t.restr none (some w)).path y else w :: (t.restr (some w) none).path y) : List Int) ↔ _
  have bt : btw x y w = true ↔ (x ≤ w ∧ w ≤ y) ∨ (y ≤ w ∧ w ≤ x) := by
    unfold btw
    rw [decide_eq_true_iff]
    omega
  by_cases e : y = w
  · rw [if_pos e, if_pos (bt.mpr (by omega)), List.mem_singleton]
    exact eq_comm
  · rw [if_neg e]
    by_cases lt : y < w
    · rw [if_pos lt, List.mem_cons, restr_path (by show (true && decide (y < w)) = true; rw [decide_eq_true lt]; rfl) b, List.mem_filter]
      by_cases hb : btw x y w = true
      · rw [if_pos hb]
        have := bt.mp hb
        constructor
        · rintro (h | ⟨_, h⟩)
          · exact h.symm
          · have := of_decide_eq_true (p := x < w) (by simpa [okLo, okHi] using h)
            omega
        · exact fun h => .inl h.symm
      · rw [if_neg hb]
        have hn : x < w := by
          rcases Int.lt_or_le x w with h | h
          · exact h
          · exact absurd (bt.mpr (by omega)) hb
        constructor
        · rintro (h | ⟨h, _⟩)
          · omega
          · exact h
        · intro h
          exact .inr ⟨h, by show (true && decide (x < w)) = true; rw [decide_eq_true hn]; rfl⟩
    · rw [if_neg lt, List.mem_cons, restr_path (by show (decide (w < y) && true) = true; rw [decide_eq_true (show w < y by omega)]; rfl) b, List.mem_filter]
      by_cases hb : btw x y w = true
      · rw [if_pos hb]
        have := bt.mp hb
        constructor
        · rintro (h | ⟨_, h⟩)
          · exact h.symm
          · have := of_decide_eq_true (p := w < x) (by simpa [okLo, okHi] using h)
            omega
        · exact fun h => .inl h.symm
      · rw [if_neg hb]
        have hn : w < x := by
          rcases Int.lt_or_le w x with h | h
          · exact h
          · exact absurd (bt.mpr (by omega)) hb
        constructor
        · rintro (h | ⟨h, _⟩)
          · omega
          · exact h
        · intro h
          exact .inr ⟨h, by show (decide (w < x) && true) = true; rw [decide_eq_true hn]; rfl⟩
/-! ### lists of touches -/
def T.tchs (t : T) (xs : List Int) : T := xs.foldl T.tch t
theorem tchs_snoc {t : T} {xs : List Int} {w : Int} : t.tchs (xs ++ [w]) = (t.tchs xs).tch w := by
  unfold T.tchs; rw [List.foldl_append]; rfl
theorem tchs_app {t : T} {xs ys : List Int} : t.tchs (xs ++ ys) = (t.tchs xs).tchs ys := by
  unfold T.tchs; rw [List.foldl_append]
theorem tchs_bst : ∀ {xs : List Int} {t : T}, t.bst → (t.tchs xs).bst
  | [], _, b => b
  | x :: xs, t, b => tchs_bst (xs := xs) (t := t.tch x) (tch_bst b)
theorem tchs_mem : ∀ {xs : List Int} {t : T}, t.bst → (∀ x ∈ xs, x ∈ t.pre) → ∀ {y : Int}, y ∈ (t.tchs xs).pre ↔ y ∈ t.pre
  | [], _, _, _, _ => Iff.rfl
  | x :: xs, t, b, h, y => by
    have hx := h x List.mem_cons_self
    show y ∈ ((t.tch x).tchs xs).pre ↔ _
    rw [tchs_mem (tch_bst b) (fun z hz => (tch_mem' b hx).mpr (h z (List.mem_cons_of_mem _ hz))), tch_mem' b hx]
theorem tchs_perm {xs : List Int} {t : T} (b : t.bst) (h : ∀ x ∈ xs, x ∈ t.pre) : (t.tchs xs).pre.Perm t.pre := (List.perm_ext_iff_of_nodup (nodup_pre (tchs_bst b)) (nodup_pre b)).mpr fun _ => tchs_mem b h
theorem tchs_len {xs : List Int} {t : T} (b : t.bst) (h : ∀ x ∈ xs, x ∈ t.pre) : (t.tchs xs).pre.length = t.pre.length := (tchs_perm b h).length_eq
/-- x on the path to y, by the last touch between them; ys is read from the last touch on -/
def byL (t : T) (ys : List Int) (x y : Int) : Prop := match ys.find? (btw x y) with
  | some w => w = x
  | none => x ∈ t.path y
theorem tchs_path {t : T} (b : t.bst) (x y : Int) : ∀ ys : List Int, x ∈ (t.tchs ys.reverse).path y ↔ byL t ys x y
  | [] => Iff.rfl
  | w :: ys => by
    rw [List.reverse_cons, tchs_snoc, tch_path (tchs_bst b)]
    unfold byL
    rw [List.find?_cons]
    cases h : btw x y w with
    | true => exact Iff.rfl
    | false =>
      rw [if_neg Bool.false_ne_true, tchs_path b x y ys]; rfl
theorem byL_absorb {t : T} {w x y : Int} (b : t.bst) : ∀ {ys : List Int}, w ∈ ys → (byL (t.tch w) ys x y ↔ byL t ys x y) := fun {ys} h => by
  unfold byL
  cases e : ys.find? (btw x y) with
  | some z => exact Iff.rfl
  | none =>
    have := List.find?_eq_none.mp e w h
    show x ∈ (t.tch w).path y ↔ x ∈ t.path y
    rw [tch_path b, if_neg this]
theorem tchs_absorb {t : T} {w : Int} {ys : List Int} (b : t.bst) (h : ∀ x ∈ ys, x ∈ t.pre) (hw : w ∈ ys) : (t.tch w).tchs ys = t.tchs ys := by
  have hwt := h w hw
  refine tree_ext (tchs_bst (tch_bst b)) (tchs_bst b) (fun z => ?_) fun x y _ _ => ?_
  · rw [tchs_mem (tch_bst b) fun z hz => (tch_mem' b hwt).mpr (h z hz), tchs_mem b h, tch_mem' b hwt]
  · have e : ys = ys.reverse.reverse := (List.reverse_reverse _).symm
    rw [e, tchs_path (tch_bst b), tchs_path b, byL_absorb b (List.mem_reverse.mpr hw)]
/-- further touches of keys that are touched again do not matter -/
theorem tchs_absorbs {t : T} {zs : List Int} : ∀ {ws : List Int}, t.bst → (∀ x ∈ zs, x ∈ t.pre) → (∀ w ∈ ws, w ∈ zs) → t.tchs (ws ++ zs) = t.tchs zs := by
  intro ws
  induction ws generalizing t with
  | nil => intros; rfl
  | cons w ws ih =>
    intro b hz hw
    have hwz := hw w List.mem_cons_self
    show (t.tch w).tchs (ws ++ zs) = _
    rw [ih (tch_bst b) (fun x hx => (tch_mem' b (hz w hwz)).mpr (hz x hx)) (fun x hx => hw x (List.mem_cons_of_mem _ hx)), tchs_absorb b hz hwz]
/-! ### the order of the last touches -/
def addL (acc : List Int) (k : Int) : List Int := if k ∈ acc then acc else acc ++ [k]
def lastL (xs : List Int) : List Int := xs.reverse.foldl addL []
theorem lastL_cons {x : Int} {xs : List Int} : lastL (x :: xs) = addL (lastL xs) x := by
  unfold lastL; rw [List.reverse_cons, List.foldl_append]; rfl
theorem mem_lastL {y : Int} : ∀ {xs : List Int}, y ∈ lastL xs ↔ y ∈ xs
  | [] => Iff.rfl
  | x :: xs => by
    rw [lastL_cons]
    unfold addL
    split
    · next h =>
      rw [mem_lastL, List.mem_cons]
      exact ⟨.inr, fun z => z.elim (fun e => e ▸ mem_lastL.mp h) id⟩
    · rw [List.mem_append, List.mem_singleton, mem_lastL, List.mem_cons]
      exact Or.comm
theorem lastL_nodup : ∀ {xs : List Int}, (lastL xs).Nodup
  | [] => List.nodup_nil
  | x :: xs => by
    rw [lastL_cons]
    unfold addL
    split
    · exact lastL_nodup
    · next h => 
      rw [List.nodup_append]
      exact ⟨lastL_nodup, by simp, fun a ha b hb => by rw [List.mem_singleton.mp hb]; exact fun e => h (e ▸ ha)⟩
theorem tchs_last {t : T} : ∀ {xs : List Int}, t.bst → (∀ x ∈ xs, x ∈ t.pre) → t.tchs (lastL xs).reverse = t.tchs xs := by
  intro xs
  induction xs generalizing t with
  | nil => intros; rfl
  | cons x xs ih =>
    intro b h
    have hx := h x List.mem_cons_self
    have hxs : ∀ z ∈ xs, z ∈ t.pre := fun z hz => h z (List.mem_cons_of_mem _ hz)
    rw [lastL_cons]
    unfold addL
    split
    · next hm =>
      rw [ih b hxs]
      exact (tchs_absorb b hxs (mem_lastL.mp hm)).symm
    · rw [List.reverse_append]
      show (t.tch x).tchs (lastL xs).reverse = (t.tch x).tchs xs
      exact ih (tch_bst b) fun z hz => (tch_mem' b hx).mpr (hxs z hz)
end TT
namespace TT
open PySem PySem.Spec PyProof.Rows L2
open T
/-! ### promises -/
def costs (t : T) : List Int → List Int
  | [] => []
  | x :: xs => (t.dep x : Int) :: costs (t.tch x) xs
theorem costs_snoc {w : Int} : ∀ {xs : List Int} {t : T}, costs t (xs ++ [w]) = costs t xs ++ [((t.tchs xs).dep w : Int)]
  | [], _ => rfl
  | x :: xs, t => by
    show (t.dep x : Int) :: costs (t.tch x) (xs ++ [w]) = (t.dep x : Int) :: (costs (t.tch x) xs ++ _)
    rw [costs_snoc]; rfl
theorem costs_len : ∀ {xs : List Int} {t : T}, (costs t xs).length = xs.length
  | [], _ => rfl
  | x :: xs, t => by
    show (costs (t.tch x) xs).length + 1 = _
    rw [costs_len]; rfl
def spTouchAll (K : PySem.W.Frag) : Sp := fun vs H Q _ => ∃ (a b : Addr) (xs : List Int) (t : T), vs = [.ref a, .ref b] ∧ SqT K H a (t.pre.map V.int) ∧ SqL K H b (xs.map V.int) ∧ t.bst ∧ t.pre.length ≤ 1000 ∧ xs.length ≤ 1000 ∧ (∀ x ∈ xs, x ∈ t.pre) ∧
  ∀ p q r H', Same H H' → H r = none → H' p = some (.tup [.ref q, .ref r]) → SqT K H' q ((t.tchs xs).pre.map V.int) → H' r = some (.lst ((costs t xs).map V.int)) → Q (.ref p) H'
def T.abv (t : T) (x y : Int) : Bool := !decide (V.int x = V.int y) && inV (.int x) ((t.path y).map V.int)
theorem abv_iff {t : T} {x y : Int} : t.abv x y = true ↔ x ≠ y ∧ x ∈ t.path y := by
  unfold T.abv
  rw [Bool.and_eq_true_iff, int_ne, inV_int]
def spAboveQ (K : PySem.W.Frag) : Sp := fun vs H Q _ => ∃ (a : Addr) (x y : Int) (t : T), vs = [.ref a, .int x, .int y] ∧ SqT K H a (t.pre.map V.int) ∧ t.bst ∧ t.pre.length ≤ 1000 ∧ x ∈ t.pre ∧ y ∈ t.pre ∧ ∀ H', Same H H' → Q (.bl (t.abv x y)) H'
theorem anc_iff {t : T} {x y : Int} (b : t.bst) (hy : y ∈ t.pre) (ne : x ≠ y) : x ∈ t.anc y ↔ x ∈ t.path y := by
  unfold T.anc
  rw [List.mem_reverse]
  conv => rhs; rw [path_last b hy]
  rw [List.mem_append, List.mem_singleton]
  exact ⟨.inl, fun h => h.elim id fun e => absurd e ne⟩
theorem path_nodup : ∀ {t : T} {x : Int}, t.bst → (t.path x).Nodup
  | leaf, _, _ => List.nodup_nil
  | node l k r, x, b => by
    unfold path
    split
    · simp
    · split
      · exact List.nodup_cons.mpr ⟨fun h => by have := b.1 k (path_sub h); omega, path_nodup b.2.2.1⟩
      · exact List.nodup_cons.mpr ⟨fun h => by have := b.2.1 k (path_sub h); omega, path_nodup b.2.2.2⟩
theorem anc_self {t : T} {x : Int} (b : t.bst) (h : x ∈ t.pre) : x ∉ t.anc x := by
  unfold T.anc
  rw [List.mem_reverse]
  intro hx
  have nd := path_nodup (x := x) b
  rw [path_last b h, List.nodup_append] at nd
  exact nd.2.2 x hx x (List.mem_singleton.mpr rfl) rfl
def spTouches (K : PySem.W.Frag) : Sp := fun vs H Q _ => ∃ (d a : Addr) (ks : List Int) (most : Int) (c : Addr) (ns : List Int), vs = [.ref d, .ref a, .int most] ∧ SqL K H a (ks.map V.int) ∧ 0 < ks.length ∧ ks.length ≤ 1000 ∧ 0 ≤ most ∧ most ≤ 1000 ∧ a ≠ d ∧ Drw c ns H d ∧
  ∀ (xs : List Int) p H', (∀ x ∈ xs, x ∈ ks) → (xs.length : Int) ≤ most → Ext d H H' → Drw c ns H' d → H p = none → H' p = some (.lst (xs.map V.int)) → Q (.ref p) H'
def spLast (K : PySem.W.Frag) : Sp := fun vs H Q _ => ∃ (a : Addr) (xs : List Int), vs = [.ref a] ∧ SqL K H a (xs.map V.int) ∧ xs.length ≤ 1000 ∧
  ∀ p H', Same H H' → H p = none → H' p = some (.lst ((lastL xs).map V.int)) → Q (.ref p) H'
theorem addL_len : ∀ (l acc : List Int), (l.foldl addL acc).length ≤ acc.length + l.length
  | [], acc => Nat.le_refl _
  | x :: l, acc => by
    have := addL_len l (addL acc x)
    have h : (addL acc x).length ≤ acc.length + 1 := by
      unfold addL
      split
      · omega
      · rw [List.length_append]; exact Nat.le_refl _
    show (l.foldl addL (addL acc x)).length ≤ _
    rw [List.length_cons]
    omega
theorem foldl_snoc {l : List Int} {i : Nat} {x : Int} (h : l[i]? = some x) : (l.take (i + 1)).foldl addL [] = addL ((l.take i).foldl addL []) x := by
  rw [List.take_add_one, h, List.foldl_append]; rfl
/-- what by_last answers; ys from the last touch on -/
def byLB (t : T) (ys : List Int) (x y : Int) : Bool := match ys.find? (btw x y) with
  | some w => decide (V.int w = V.int x)
  | none => inV (.int x) ((t.anc y).map V.int)
theorem byLB_iff {t : T} {ys : List Int} {x y : Int} (b : t.bst) (hy : y ∈ t.pre) (ne : x ≠ y) : byLB t ys x y = true ↔ byL t ys x y := by
  unfold byLB byL
  split
  · rw [decide_eq_true_iff]; exact ⟨V.int.inj, fun e => by rw [e]⟩
  · rw [inV_int, anc_iff b hy ne]
def spByLast (K : PySem.W.Frag) : Sp := fun vs H Q _ => ∃ (a l : Addr) (xs : List Int) (x y : Int) (t : T), vs = [.ref a, .ref l, .int x, .int y] ∧ SqT K H a (t.pre.map V.int) ∧ SqL K H l (xs.map V.int) ∧ t.bst ∧ t.pre.length ≤ 58 ∧ xs.length ≤ 1000 ∧ (∀ w ∈ xs, w ∈ t.pre) ∧ y ∈ t.pre ∧
  ∀ H', Same H H' → Q (.bl (byLB t xs.reverse x y)) H'
theorem addL_in {acc : List Int} {x : Int} (h : x ∈ acc) : addL acc x = acc := if_pos h
theorem addL_out {acc : List Int} {x : Int} (h : x ∉ acc) : addL acc x = acc ++ [x] := if_neg h
theorem anc_abv {t : T} {x y : Int} (b : t.bst) (hy : y ∈ t.pre) : inV (.int x) ((t.anc y).map V.int) = t.abv x y := by
  rw [Bool.eq_iff_iff, inV_int, abv_iff]
  by_cases e : x = y
  · subst e
    exact ⟨fun h => absurd h (anc_self b hy), fun h => absurd rfl h.1⟩
  · rw [anc_iff b hy e]
    exact ⟨fun h => ⟨e, h⟩, fun h => h.2⟩
theorem byLB_abv {t : T} {xs : List Int} {x y : Int} (b : t.bst) (hy : y ∈ t.pre) (e : x ≠ y) : byLB t xs.reverse x y = (t.tchs xs).abv x y := by
  rw [Bool.eq_iff_iff, byLB_iff b hy e, abv_iff, ← tchs_path b, List.reverse_reverse]
  exact ⟨fun h => ⟨e, h⟩, fun h => h.2⟩
theorem Drw.tup {K : PySem.W.Frag} {c d a : Addr} {ns : List Int} {H H' : Hp} {xs : List V} (hD : Drw c ns H d) (e : Ext d H H') (h : SqT K H a xs) : SqT K H' a xs := by
  obtain ⟨i, b, z, hd, _⟩ := hD
  rcases h with (h | ⟨o, h⟩) | h
  · exact .inl (.inl (e _ _ (fun z => by rw [z, hd] at h; cases h) h))
  · exact .inl (.inr ⟨o, e _ _ (fun z => by rw [z, hd] at h; cases h) h⟩)
  · exact .inr h
theorem idx_first {L : List Int} {i : Nat} {x : Int} (nd : L.Nodup) (h : L[i]? = some x) : ∀ (m : Nat) (z : V), m < i → (L.map V.int)[m]? = some z → eqV z (.int x) = false := fun m z lt hz => by
  rw [List.getElem?_map] at hz
  obtain ⟨y, hy, rfl⟩ := Option.map_eq_some_iff.mp hz
  have hi := (List.getElem?_eq_some_iff.mp h).1
  cases e : eqV (V.int y) (.int x) with
  | false => rfl
  | true =>
    have : y = x := by simpa [eqV] using e
    subst this
    have := (List.getElem?_inj (show m < L.length by omega) nd).mp (hy.trans h.symm)
    omega
end TT
namespace TT
open PySem PySem.Spec PyProof.Rows L2
open T
/-! ### a key rotated with its parent -/
def T.rot (x : Int) : T → T
  | leaf => leaf
  | node l k r => if x < k then (if l.rt = some x then node l.lt x (node l.rtr k r) else node (l.rot x) k r) else if k < x then (if r.rt = some x then node (node l k r.lt) x r.rtr else node l k (r.rot x)) else node l k r
theorem rt_eta {l : T} {x : Int} (h : l.rt = some x) : l = node l.lt x l.rtr := by
  cases l with
  | leaf => cases h
  | node a y b => cases h; rfl
theorem mem_rot {x y : Int} : ∀ {t : T}, y ∈ (t.rot x).pre ↔ y ∈ t.pre
  | leaf => Iff.rfl
  | node l k r => by
    unfold rot
    split
    · split
      · next h =>
        conv => rhs; rw [rt_eta h]
        simp only [mem_node]
        constructor
        · rintro (h | h | h | h | h)
          · exact .inr (.inl (.inl h))
          · exact .inr (.inl (.inr (.inl h)))
          · exact .inl h
          · exact .inr (.inl (.inr (.inr h)))
          · exact .inr (.inr h)
        · rintro (h | (h | h | h) | h)
          · exact .inr (.inr (.inl h))
          · exact .inl h
          · exact .inr (.inl h)
          · exact .inr (.inr (.inr (.inl h)))
          · exact .inr (.inr (.inr (.inr h)))
      · rw [mem_node, mem_node, mem_rot]
    · split
      · split
        · next h =>
          conv => rhs; rw [rt_eta h]
          simp only [mem_node]
          constructor
          · rintro (h | (h | h | h) | h)
            · exact .inr (.inr (.inl h))
            · exact .inl h
            · exact .inr (.inl h)
            · exact .inr (.inr (.inr (.inl h)))
            · exact .inr (.inr (.inr (.inr h)))
          · rintro (h | h | h | h | h)
            · exact .inr (.inl (.inl h))
            · exact .inr (.inl (.inr (.inl h)))
            · exact .inl h
            · exact .inr (.inl (.inr (.inr h)))
            · exact .inr (.inr h)
        · rw [mem_node, mem_node, mem_rot]
      · exact Iff.rfl
theorem bst_rot {x : Int} : ∀ {t : T}, t.bst → (t.rot x).bst
  | leaf, _ => trivial
  | node l k r, b => by
    unfold rot
    split
    · next lt =>
      split
      · next h =>
        have e := rt_eta h
        rw [e] at b
        obtain ⟨h1, h2, ⟨h3, h4, h5, h6⟩, h7⟩ := b
        refine ⟨h3, fun y hy => ?_, h5, ⟨fun y hy => h1 y (mem_node.mpr (.inr (.inr hy))), h2, h6, h7⟩⟩
        rcases mem_node.mp hy with g | g | g
        · omega
        · exact h4 y g
        · have := h2 y g; omega
      · exact ⟨fun y hy => b.1 y (mem_rot.mp hy), b.2.1, bst_rot b.2.2.1, b.2.2.2⟩
    · split
      · next lt =>
        split
        · next h =>
          have e := rt_eta h
          rw [e] at b
          obtain ⟨h1, h2, h7, ⟨h3, h4, h5, h6⟩⟩ := b
          refine ⟨fun y hy => ?_, h4, ⟨h1, fun y hy => h2 y (mem_node.mpr (.inr (.inl hy))), h7, h5⟩, h6⟩
          rcases mem_node.mp hy with g | g | g
          · omega
          · have := h1 y g; omega
          · exact h3 y g
        · exact ⟨b.1, fun y hy => b.2.1 y (mem_rot.mp hy), b.2.2.1, bst_rot b.2.2.2⟩
      · exact b
theorem rot_perm {t : T} {x : Int} (b : t.bst) : (t.rot x).pre.Perm t.pre := (List.perm_ext_iff_of_nodup (nodup_pre (bst_rot b)) (nodup_pre b)).mpr fun _ => mem_rot
theorem rot_len {t : T} {x : Int} (b : t.bst) : (t.rot x).pre.length = t.pre.length := (rot_perm b).length_eq
/-! ### parents -/
theorem up_in {t : T} {x p : Int} (h : t.up x = some p) : x ∈ t.pre := Classical.byContradiction fun n => by rw [up_out n] at h; cases h
theorem up_mem {t : T} {x p : Int} (b : t.bst) (h : t.up x = some p) : p ∈ t.pre ∧ x ≠ p ∧ t.path x = t.path p ++ [x] := by
  rcases up_path b (up_in h) with ⟨h1, _⟩ | ⟨q, h1, h2, h3⟩
  · rw [h1] at h; cases h
  · rw [h1] at h; cases h
    refine ⟨h2, fun e => ?_, h3⟩
    subst e
    have := congrArg List.length h3
    rw [List.length_append] at this
    simp at this
theorem up_rt {t : T} {x : Int} (b : t.bst) (hx : x ∈ t.pre) : t.up x = none ↔ t.rt = some x := by
  cases t with
  | leaf => cases hx
  | node l k r =>
    constructor
    · intro h
      rcases up_path b hx with ⟨_, e⟩ | ⟨q, h1, _, _⟩
      · have : (node l k r).path x = if x = k then [k] else if x < k then k :: l.path x else k :: r.path x := rfl
        rw [e] at this
        split at this
        · next e => rw [e]; rfl
        · split at this
          · rw [(List.cons.inj this).1]; rfl
          · rw [(List.cons.inj this).1]; rfl
      · rw [h1] at h; cases h
    · intro h
      cases h
      unfold up
      rw [if_neg (Int.lt_irrefl _), if_neg (Int.lt_irrefl _)]
theorem up_nodeL {l r : T} {k x : Int} (h : x < k) : (node l k r).up x = if l.rt = some x then some k else l.up x := by
  show (if x < k then (if l.rt = some x then some k else l.up x) else _) = _
  rw [if_pos h]
theorem up_nodeR {l r : T} {k x : Int} (h : k < x) : (node l k r).up x = if r.rt = some x then some k else r.up x := by
  show (if x < k then _ else if k < x then (if r.rt = some x then some k else r.up x) else none) = _
  rw [if_neg (by omega), if_pos h]
theorem up_root {l r : T} {k : Int} : (node l k r).up k = none := by
  unfold up
  rw [if_neg (Int.lt_irrefl _), if_neg (Int.lt_irrefl _)]
/-- where the key's parent is: at the root, or within one side -/
theorem up_cases {l r : T} {k x p : Int} (b : (node l k r).bst) (h : (node l k r).up x = some p) :
    (x < k ∧ l.rt = some x ∧ p = k) ∨ (x < k ∧ ¬ l.rt = some x ∧ l.up x = some p ∧ p < k) ∨ (k < x ∧ r.rt = some x ∧ p = k) ∨ (k < x ∧ ¬ r.rt = some x ∧ r.up x = some p ∧ k < p) := by
  rcases Int.lt_trichotomy x k with g | g | g
  · rw [up_nodeL g] at h
    split at h
    · next e => exact .inl ⟨g, e, (Option.some.inj h).symm⟩
    · next e => exact .inr (.inl ⟨g, e, h, b.1 p (up_mem b.2.2.1 h).1⟩)
  · subst g
    rw [up_root] at h; cases h
  · rw [up_nodeR g] at h
    split at h
    · next e => exact .inr (.inr (.inl ⟨g, e, (Option.some.inj h).symm⟩))
    · next e => exact .inr (.inr (.inr ⟨g, e, h, b.2.1 p (up_mem b.2.2.2 h).1⟩))
theorem rt_rot {x p : Int} : ∀ {t : T}, t.bst → t.up x = some p → (t.rot x).rt = if t.up p = none then some x else t.rt
  | leaf, _, h => by cases h
  | node l k r, b, h => by
    rcases up_cases b h with ⟨g, e, rfl⟩ | ⟨g, e, hu, lp⟩ | ⟨g, e, rfl⟩ | ⟨g, e, hu, lp⟩
    · unfold rot
      rw [if_pos g, if_pos e, if_pos up_root]; rfl
    · have : ¬ (node l k r).up p = none := fun z => by
        have := (up_rt b (mem_node.mpr (.inr (.inl (up_mem b.2.2.1 hu).1)))).mp z
        cases this
        omega
      unfold rot
      rw [if_pos g, if_neg e, if_neg this]; rfl
    · unfold rot
      rw [if_neg (by omega), if_pos g, if_pos e, if_pos up_root]; rfl
    · have : ¬ (node l k r).up p = none := fun z => by
        have := (up_rt b (mem_node.mpr (.inr (.inr (up_mem b.2.2.2 hu).1)))).mp z
        cases this
        omega
      unfold rot
      rw [if_neg (by omega), if_pos g, if_neg e, if_neg this]; rfl
theorem lc_nodeE {l r : T} {k z : Int} : (node l k r).lc z = if z = k then l.rt else if z < k then l.lc z else r.lc z := rfl
theorem rc_nodeE {l r : T} {k z : Int} : (node l k r).rc z = if z = k then r.rt else if z < k then l.rc z else r.rc z := rfl
/-- what the dict of left children becomes -/
def lcR (t : T) (x p z : Int) : Option Int := if x < p then (if z = p then t.rc x else if t.up p = some z ∧ x < z then some x else t.lc z) else (if z = x then some p else if t.up p = some z ∧ x < z then some x else t.lc z)
def rcR (t : T) (x p z : Int) : Option Int := if x < p then (if z = x then some p else if t.up p = some z ∧ z < x then some x else t.rc z) else (if z = p then t.lc x else if t.up p = some z ∧ z < x then some x else t.rc z)
theorem lc_rot {x p : Int} : ∀ {t : T}, t.bst → t.up x = some p → ∀ z, (t.rot x).lc z = lcR t x p z
  | leaf, _, h, _ => by cases h
  | node l k r, b, h, z => by
    unfold lcR
    rcases up_cases b h with ⟨g, e, rfl⟩ | ⟨g, e, hu, lp⟩ | ⟨g, e, rfl⟩ | ⟨g, e, hu, lp⟩
    · unfold rot
      rw [if_pos g, if_pos e, if_pos g, up_root]
      have el := rt_eta e
      have h1 : l.rc x = l.rtr.rt := by rw [el, rc_nodeE, if_pos rfl]; rfl
      have h2 : ∀ z, l.lc z = if z = x then l.lt.rt else if z < x then l.lt.lc z else l.rtr.lc z := fun z => by conv => lhs; rw [el, lc_nodeE]
      simp only [lc_nodeE, rc_nodeE, h2, h1, if_neg (show ¬ x = p by omega), if_pos g]
      by_cases z1 : z = p
      · subst z1
        rw [if_neg (by omega), if_neg (by omega), if_pos rfl, if_pos rfl]
      · have n2 : ¬ ((none : Option Int) = some z ∧ x < z) := fun q => by cases q.1
        simp only [if_neg z1, if_neg n2]
        by_cases z2 : z < p
        · simp only [if_pos z2]
        · simp only [if_neg z2, if_neg (show ¬ z = x by omega), if_neg (show ¬ z < x by omega)]
    · have mp := (up_mem b.2.2.1 hu).1
      have ih := lc_rot b.2.2.1 hu
      unfold lcR at ih
      have hup : (node l k r).up p = if l.rt = some p then some k else l.up p := up_nodeL lp
      have hrc : (node l k r).rc x = l.rc x := by rw [rc_nodeE, if_neg (by omega), if_pos g]
      unfold rot
      rw [if_pos g, if_neg e, lc_nodeE, hrc, hup, lc_nodeE]
      by_cases z1 : z = k
      · subst z1
        rw [if_pos rfl, rt_rot b.2.2.1 hu, if_neg (show ¬ z = p by omega), if_neg (show ¬ z = x by omega), if_pos rfl, ite_self]
        by_cases er : l.rt = some p
        · rw [if_pos ((up_rt b.2.2.1 mp).mpr er), if_pos ⟨if_pos er, g⟩]
        · rw [if_neg (fun q => er ((up_rt b.2.2.1 mp).mp q)), if_neg (fun q => ?_)]
          have := q.1
          rw [if_neg er] at this
          have := b.1 _ (up_mem b.2.2.1 this).1
          omega
      · rw [if_neg z1, if_neg z1]
        by_cases z2 : z < k
        · rw [if_pos z2, if_pos z2, ih z]
          by_cases er : l.rt = some p
          · rw [if_pos er, (up_rt b.2.2.1 mp).mpr er]
            have n1 : ¬ (some k = some z ∧ x < z) := fun q => z1 (Option.some.inj q.1).symm
            have n2 : ¬ ((none : Option Int) = some z ∧ x < z) := fun q => by cases q.1
            rw [if_neg n1, if_neg n2]
          · rw [if_neg er]
        · have n2 : ¬ ((if l.rt = some p then some k else l.up p) = some z ∧ x < z) := fun q => by
            have := q.1
            split at this
            · exact z1 (Option.some.inj this).symm
            · have := b.1 _ (up_mem b.2.2.1 this).1
              omega
          simp only [if_neg z2, if_neg (show ¬ z = p by omega), if_neg (show ¬ z = x by omega), if_neg n2, ite_self]
    · unfold rot
      rw [if_neg (show ¬ x < p by omega), if_pos g, if_pos e, if_neg (show ¬ x < p by omega), up_root]
      have el := rt_eta e
      have h2 : ∀ z, r.lc z = if z = x then r.lt.rt else if z < x then r.lt.lc z else r.rtr.lc z := fun z => by conv => lhs; rw [el, lc_nodeE]
      simp only [lc_nodeE, h2]
      by_cases z1 : z = x
      · rw [if_pos z1, if_pos z1]; rfl
      · have n2 : ¬ ((none : Option Int) = some z ∧ x < z) := fun q => by cases q.1
        simp only [if_neg z1, if_neg n2]
        by_cases z2 : z = p
        · simp only [if_pos z2, if_pos (show z < x by omega)]
        · simp only [if_neg z2]
          by_cases z3 : z < p
          · simp only [if_pos z3, if_pos (show z < x by omega)]
          · simp only [if_neg z3]
    · have mp := (up_mem b.2.2.2 hu).1
      have ih := lc_rot b.2.2.2 hu
      unfold lcR at ih
      have hup : (node l k r).up p = if r.rt = some p then some k else r.up p := up_nodeR lp
      have hrc : (node l k r).rc x = r.rc x := by rw [rc_nodeE, if_neg (by omega), if_neg (by omega)]
      unfold rot
      rw [if_neg (show ¬ x < k by omega), if_pos g, if_neg e, lc_nodeE, hrc, hup, lc_nodeE]
      by_cases z1 : z = k
      · subst z1
        have n2 : ¬ ((if r.rt = some p then some z else r.up p) = some z ∧ x < z) := fun q => by omega
        simp only [if_true, if_neg (show ¬ z = p by omega), if_neg (show ¬ z = x by omega), if_neg n2, ite_self]
      · rw [if_neg z1, if_neg z1]
        by_cases z2 : z < k
        · have n2 : ¬ ((if r.rt = some p then some k else r.up p) = some z ∧ x < z) := fun q => by omega
          simp only [if_pos z2, if_neg (show ¬ z = p by omega), if_neg (show ¬ z = x by omega), if_neg n2, ite_self]
        · rw [if_neg z2, if_neg z2, ih z]
          by_cases er : r.rt = some p
          · rw [if_pos er, (up_rt b.2.2.2 mp).mpr er]
            have n1 : ¬ (some k = some z ∧ x < z) := fun q => z1 (Option.some.inj q.1).symm
            have n2 : ¬ ((none : Option Int) = some z ∧ x < z) := fun q => by cases q.1
            rw [if_neg n1, if_neg n2]
          · rw [if_neg er]
/-! ### children and parents -/
theorem lc_up {x z : Int} : ∀ {t : T}, t.bst → t.lc x = some z → t.up z = some x ∧ z < x
  | leaf, _, h => by cases h
  | node l k r, b, h => by
    rw [lc_nodeE] at h
    split at h
    · next e =>
      subst e
      have := b.1 z (rt_mem h)
      exact ⟨by rw [up_nodeL this, if_pos h], this⟩
    · split at h
      · obtain ⟨h1, h2⟩ := lc_up b.2.2.1 h
        have hz := up_in h1
        have := b.1 z hz
        refine ⟨?_, h2⟩
        rw [up_nodeL this, if_neg (fun e => ?_), h1]
        rw [(up_rt b.2.2.1 hz).mpr e] at h1; cases h1
      · obtain ⟨h1, h2⟩ := lc_up b.2.2.2 h
        have hz := up_in h1
        have := b.2.1 z hz
        refine ⟨?_, h2⟩
        rw [up_nodeR this, if_neg (fun e => ?_), h1]
        rw [(up_rt b.2.2.2 hz).mpr e] at h1; cases h1
theorem rc_up {x z : Int} : ∀ {t : T}, t.bst → t.rc x = some z → t.up z = some x ∧ x < z
  | leaf, _, h => by cases h
  | node l k r, b, h => by
    rw [rc_nodeE] at h
    split at h
    · next e =>
      subst e
      have := b.2.1 z (rt_mem h)
      exact ⟨by rw [up_nodeR this, if_pos h], this⟩
    · split at h
      · obtain ⟨h1, h2⟩ := rc_up b.2.2.1 h
        have hz := up_in h1
        have := b.1 z hz
        refine ⟨?_, h2⟩
        rw [up_nodeL this, if_neg (fun e => ?_), h1]
        rw [(up_rt b.2.2.1 hz).mpr e] at h1; cases h1
      · obtain ⟨h1, h2⟩ := rc_up b.2.2.2 h
        have hz := up_in h1
        have := b.2.1 z hz
        refine ⟨?_, h2⟩
        rw [up_nodeR this, if_neg (fun e => ?_), h1]
        rw [(up_rt b.2.2.2 hz).mpr e] at h1; cases h1
/-- the child that changes its parent -/
def ch (t : T) (x p : Int) : Option Int := if x < p then t.rc x else t.lc x
theorem ch_up {t : T} {x p z : Int} (b : t.bst) (h : ch t x p = some z) : t.up z = some x := by
  unfold ch at h
  split at h
  · exact (rc_up b h).1
  · exact (lc_up b h).1
def upR (t : T) (x p z : Int) : Option Int := if z = x then t.up p else if z = p then some x else if ch t x p = some z then some p else t.up z
theorem up_rot {x p : Int} : ∀ {t : T}, t.bst → t.up x = some p → ∀ z, (t.rot x).up z = upR t x p z
  | leaf, _, h, _ => by cases h
  | node l k r, b, h, z => by
    rcases up_cases b h with ⟨g, e, rfl⟩ | ⟨g, e, hu, lp⟩ | ⟨g, e, rfl⟩ | ⟨g, e, hu, lp⟩
    · have el := rt_eta e
      obtain ⟨b1, b2, b3, b4⟩ := b
      have hc : ch (node l p r) x p = l.rtr.rt := by
        unfold ch
        rw [if_pos g, rc_nodeE, if_neg (by omega), if_pos g]
        rw [el, rc_nodeE, if_pos rfl]; rfl
      have hl : ∀ {z}, l.up z = (node l.lt x l.rtr).up z := fun {z} => by rw [← el]
      rw [el] at b3
      have m1 : ∀ {z}, l.rtr.rt = some z → x < z ∧ z < p := fun {z} hz => ⟨b3.2.1 z (rt_mem hz), b1 z (by rw [el]; exact mem_node.mpr (.inr (.inr (rt_mem hz))))⟩
      unfold upR rot
      rw [if_pos g, if_pos e, hc, up_root]
      rcases Int.lt_trichotomy z x with z1 | z1 | z1
      · have n1 : ¬ l.rtr.rt = some z := fun q => by have := m1 q; omega
        have n2 : ¬ some x = some z := fun q => by have := Option.some.inj q; omega
        rw [up_nodeL z1, if_neg (show ¬ z = x by omega), if_neg (show ¬ z = p by omega), if_neg n1, up_nodeL (show z < p by omega), e, if_neg n2, hl, up_nodeL z1]
      · subst z1
        rw [if_pos rfl, up_root]
      · rw [up_nodeR z1, if_neg (show ¬ z = x by omega)]
        show (if some p = some z then some x else (node l.rtr p r).up z) = _
        rcases Int.lt_trichotomy z p with z2 | z2 | z2
        · have n2 : ¬ some x = some z := fun q => by have := Option.some.inj q; omega
          have n3 : ¬ some p = some z := fun q => by have := Option.some.inj q; omega
          rw [if_neg n3, up_nodeL z2, if_neg (show ¬ z = p by omega), up_nodeL z2, e, if_neg n2, hl, up_nodeR z1]
          by_cases hb : l.rtr.rt = some z
          · simp only [if_pos hb]
          · simp only [if_neg hb]
        · rw [if_pos (by rw [z2]), if_pos z2]
        · have n1 : ¬ l.rtr.rt = some z := fun q => by have := m1 q; omega
          have n3 : ¬ some p = some z := fun q => by have := Option.some.inj q; omega
          rw [if_neg n3, up_nodeR z2, if_neg (show ¬ z = p by omega), if_neg n1, up_nodeR z2]
    · have mp := (up_mem b.2.2.1 hu).1
      have ih := up_rot b.2.2.1 hu
      have hc : ch (node l k r) x p = ch l x p := by
        unfold ch
        rw [rc_nodeE, lc_nodeE, if_neg (show ¬ x = k by omega), if_neg (show ¬ x = k by omega), if_pos g, if_pos g]
      have hup : (node l k r).up p = if l.rt = some p then some k else l.up p := up_nodeL lp
      unfold rot
      rw [if_pos g, if_neg e]
      unfold upR
      rw [hc, hup]
      unfold upR at ih
      rcases Int.lt_trichotomy z k with z1 | z1 | z1
      · rw [up_nodeL z1, rt_rot b.2.2.1 hu, ih z, up_nodeL z1]
        by_cases er : l.rt = some p
        · have en := (up_rt b.2.2.1 mp).mpr er
          rw [if_pos en, er, if_pos rfl, en]
          by_cases z2 : z = x
          · rw [if_pos (by rw [z2]), if_pos z2]
          · rw [if_neg (fun q => z2 (Option.some.inj q).symm), if_neg z2, if_neg z2]
            by_cases z3 : z = p
            · rw [if_pos z3, if_pos z3]
            · rw [if_neg z3, if_neg z3, if_neg (fun q => z3 (Option.some.inj q).symm)]
        · have en : ¬ l.up p = none := fun q => er ((up_rt b.2.2.1 mp).mp q)
          rw [if_neg en, if_neg er]
          by_cases z2 : z = x
          · rw [if_pos z2, if_pos z2, if_neg (by rw [z2]; exact e)]
          · rw [if_neg z2, if_neg z2]
            by_cases z3 : z = p
            · rw [if_pos z3, if_pos z3, if_neg (by rw [z3]; exact er)]
            · rw [if_neg z3, if_neg z3]
              by_cases z4 : l.rt = some z
              · have : ¬ ch l x p = some z := fun q => by
                  have h1 := ch_up b.2.2.1 q
                  rw [(up_rt b.2.2.1 (rt_mem z4)).mpr z4] at h1; cases h1
                rw [if_pos z4, if_neg this, if_pos z4]
              · rw [if_neg z4, if_neg z4]
      · subst z1
        have n1 : ¬ ch l x p = some z := fun q => by
          have := b.1 z (up_in (ch_up b.2.2.1 q))
          omega
        rw [up_root, if_neg (show ¬ z = x by omega), if_neg (show ¬ z = p by omega), if_neg n1, up_root]
      · have n1 : ¬ ch l x p = some z := fun q => by
          have := b.1 z (up_in (ch_up b.2.2.1 q))
          omega
        rw [up_nodeR z1, if_neg (show ¬ z = x by omega), if_neg (show ¬ z = p by omega), if_neg n1, up_nodeR z1]
    · have el := rt_eta e
      obtain ⟨b1, b2, b4, b3⟩ := b
      have hc : ch (node l p r) x p = r.lt.rt := by
        unfold ch
        rw [if_neg (by omega), lc_nodeE, if_neg (by omega), if_neg (by omega)]
        rw [el, lc_nodeE, if_pos rfl]; rfl
      have hl : ∀ {z}, r.up z = (node r.lt x r.rtr).up z := fun {z} => by rw [← el]
      rw [el] at b3
      have m1 : ∀ {z}, r.lt.rt = some z → z < x ∧ p < z := fun {z} hz => ⟨b3.1 z (rt_mem hz), b2 z (by rw [el]; exact mem_node.mpr (.inr (.inl (rt_mem hz))))⟩
      unfold upR rot
      rw [if_neg (show ¬ x < p by omega), if_pos g, if_pos e, hc, up_root]
      rcases Int.lt_trichotomy z x with z1 | z1 | z1
      · rw [up_nodeL z1, if_neg (show ¬ z = x by omega)]
        show (if some p = some z then some x else (node l p r.lt).up z) = _
        rcases Int.lt_trichotomy z p with z2 | z2 | z2
        · have n1 : ¬ r.lt.rt = some z := fun q => by have := m1 q; omega
          have n3 : ¬ some p = some z := fun q => by have := Option.some.inj q; omega
          rw [if_neg n3, up_nodeL z2, if_neg (show ¬ z = p by omega), if_neg n1, up_nodeL z2]
        · rw [if_pos (by rw [z2]), if_pos z2]
        · have n2 : ¬ some x = some z := fun q => by have := Option.some.inj q; omega
          have n3 : ¬ some p = some z := fun q => by have := Option.some.inj q; omega
          rw [if_neg n3, up_nodeR z2, if_neg (show ¬ z = p by omega), up_nodeR z2, e, if_neg n2, hl, up_nodeL z1]
          by_cases hb : r.lt.rt = some z
          · simp only [if_pos hb]
          · simp only [if_neg hb]
      · subst z1
        rw [if_pos rfl, up_root]
      · have n1 : ¬ r.lt.rt = some z := fun q => by have := m1 q; omega
        have n2 : ¬ some x = some z := fun q => by have := Option.some.inj q; omega
        rw [up_nodeR z1, if_neg (show ¬ z = x by omega), if_neg (show ¬ z = p by omega), if_neg n1, up_nodeR (show p < z by omega), e, if_neg n2, hl, up_nodeR z1]
    · have mp := (up_mem b.2.2.2 hu).1
      have ih := up_rot b.2.2.2 hu
      have hc : ch (node l k r) x p = ch r x p := by
        unfold ch
        rw [rc_nodeE, lc_nodeE, if_neg (show ¬ x = k by omega), if_neg (show ¬ x = k by omega), if_neg (show ¬ x < k by omega), if_neg (show ¬ x < k by omega)]
      have hup : (node l k r).up p = if r.rt = some p then some k else r.up p := up_nodeR lp
      unfold rot
      rw [if_neg (show ¬ x < k by omega), if_pos g, if_neg e]
      unfold upR
      rw [hc, hup]
      unfold upR at ih
      rcases Int.lt_trichotomy z k with z1 | z1 | z1
      · have n1 : ¬ ch r x p = some z := fun q => by
          have := b.2.1 z (up_in (ch_up b.2.2.2 q))
          omega
        rw [up_nodeL z1, if_neg (show ¬ z = x by omega), if_neg (show ¬ z = p by omega), if_neg n1, up_nodeL z1]
      · subst z1
        have n1 : ¬ ch r x p = some z := fun q => by
          have := b.2.1 z (up_in (ch_up b.2.2.2 q))
          omega
        rw [up_root, if_neg (show ¬ z = x by omega), if_neg (show ¬ z = p by omega), if_neg n1, up_root]
      · rw [up_nodeR z1, rt_rot b.2.2.2 hu, ih z, up_nodeR z1]
        by_cases er : r.rt = some p
        · have en := (up_rt b.2.2.2 mp).mpr er
          rw [if_pos en, er, if_pos rfl, en]
          by_cases z2 : z = x
          · rw [if_pos (by rw [z2]), if_pos z2]
          · rw [if_neg (fun q => z2 (Option.some.inj q).symm), if_neg z2, if_neg z2]
            by_cases z3 : z = p
            · rw [if_pos z3, if_pos z3]
            · rw [if_neg z3, if_neg z3, if_neg (fun q => z3 (Option.some.inj q).symm)]
        · have en : ¬ r.up p = none := fun q => er ((up_rt b.2.2.2 mp).mp q)
          rw [if_neg en, if_neg er]
          by_cases z2 : z = x
          · rw [if_pos z2, if_pos z2, if_neg (by rw [z2]; exact e)]
          · rw [if_neg z2, if_neg z2]
            by_cases z3 : z = p
            · rw [if_pos z3, if_pos z3, if_neg (by rw [z3]; exact er)]
            · rw [if_neg z3, if_neg z3]
              by_cases z4 : r.rt = some z
              · have : ¬ ch r x p = some z := fun q => by
                  have h1 := ch_up b.2.2.2 q
                  rw [(up_rt b.2.2.2 (rt_mem z4)).mpr z4] at h1; cases h1
                rw [if_pos z4, if_neg this, if_pos z4]
              · rw [if_neg z4, if_neg z4]
/-! ### by mirror -/
theorem lt_mir {t : T} : t.mir.lt = t.rtr.mir := by cases t <;> rfl
theorem rtr_mir {t : T} : t.mir.rtr = t.lt.mir := by cases t <;> rfl
theorem rt_mir' {t : T} {x : Int} : t.mir.rt = some (-x) ↔ t.rt = some x := by
  rw [rt_mir]
  cases t.rt with
  | none => exact ⟨fun h => (by cases h), fun h => (by cases h)⟩
  | some y =>
    show some (-y) = some (-x) ↔ _
    constructor
    · intro h
      have := Option.some.inj h
      rw [show y = x by omega]
    · intro h
      rw [Option.some.inj h]
theorem mir_rot {x : Int} : ∀ {t : T}, (t.rot x).mir = t.mir.rot (-x)
  | leaf => rfl
  | node l k r => by
    show (if x < k then (if l.rt = some x then node l.lt x (node l.rtr k r) else node (l.rot x) k r) else if k < x then (if r.rt = some x then node (node l k r.lt) x r.rtr else node l k (r.rot x)) else node l k r).mir =
      if -x < -k then (if r.mir.rt = some (-x) then node r.mir.lt (-x) (node r.mir.rtr (-k) l.mir) else node (r.mir.rot (-x)) (-k) l.mir) else if -k < -x then (if l.mir.rt = some (-x) then node (node r.mir (-k) l.mir.lt) (-x) l.mir.rtr else node r.mir (-k) (l.mir.rot (-x))) else node r.mir (-k) l.mir
    rw [← mir_rot, ← mir_rot]
    simp only [rt_mir', lt_mir, rtr_mir]
    rcases Int.lt_trichotomy x k with g | g | g
    · rw [if_pos g, if_neg (show ¬ -x < -k by omega), if_pos (show -k < -x by omega)]
      split <;> rfl
    · rw [if_neg (show ¬ x < k by omega), if_neg (show ¬ k < x by omega), if_neg (show ¬ -x < -k by omega), if_neg (show ¬ -k < -x by omega)]; rfl
    · rw [if_neg (show ¬ x < k by omega), if_pos g, if_pos (show -x < -k by omega)]
      split <;> rfl
theorem up_mir {x : Int} : ∀ {t : T}, t.mir.up x = (t.up (-x)).map (fun y => -y)
  | leaf => rfl
  | node l k r => by
    have e1 : ∀ {s : T}, s.mir.rt = some x ↔ s.rt = some (-x) := fun {s} => by
      have := @rt_mir' s (-x)
      rwa [Int.neg_neg] at this
    show (if x < -k then (if r.mir.rt = some x then some (-k) else r.mir.up x) else if -k < x then (if l.mir.rt = some x then some (-k) else l.mir.up x) else none) = ((if -x < k then (if l.rt = some (-x) then some k else l.up (-x)) else if k < -x then (if r.rt = some (-x) then some k else r.up (-x)) else none) : Option Int).map _
    rw [up_mir, up_mir]
    simp only [e1]
    rcases Int.lt_trichotomy x (-k) with g | g | g
    · rw [if_pos g, if_neg (show ¬ -x < k by omega), if_pos (show k < -x by omega)]
      split <;> rfl
    · rw [if_neg (show ¬ x < -k by omega), if_neg (show ¬ -k < x by omega), if_neg (show ¬ -x < k by omega), if_neg (show ¬ k < -x by omega)]; rfl
    · rw [if_neg (show ¬ x < -k by omega), if_pos g, if_pos (show -x < k by omega)]
      split <;> rfl
theorem map_neg {o : Option Int} : (o.map fun y => -y).map (fun y => -y) = o := by
  cases o with
  | none => rfl
  | some y => show some (- -y) = _; rw [Int.neg_neg]
theorem rc_rot {x p : Int} {t : T} (b : t.bst) (h : t.up x = some p) (z : Int) : (t.rot x).rc z = rcR t x p z := by
  have ne := (up_mem b h).2.1
  have h1 : ((t.rot x).rc z) = ((t.rot x).mir.lc (-z)).map fun y => -y := by rw [lc_mir, Int.neg_neg, map_neg]
  have hu : t.mir.up (-x) = some (-p) := by rw [up_mir, Int.neg_neg, h]; rfl
  rw [h1, mir_rot, lc_rot (bst_mir b) hu]
  unfold lcR rcR
  have hup : ∀ w : Int, t.mir.up (-p) = some (-w) ↔ t.up p = some w := fun w => by
    rw [up_mir, Int.neg_neg]
    cases t.up p with
    | none => exact ⟨fun q => (by cases q), fun q => (by cases q)⟩
    | some y =>
      show some (-y) = some (-w) ↔ _
      constructor
      · intro q
        have := Option.some.inj q
        rw [show y = w by omega]
      · intro q
        rw [Option.some.inj q]
  rw [rc_mir, lc_mir, Int.neg_neg, Int.neg_neg]
  simp only [hup]
  have c1 : (-z = -p) = (z = p) := by apply propext; omega
  have c2 : (-z = -x) = (z = x) := by apply propext; omega
  have c3 : (-x < -z) = (z < x) := by apply propext; omega
  have c4 : (-x < -p) = ¬ (x < p) := by apply propext; omega
  simp only [c1, c2, c3, c4]
  by_cases g : x < p
  · rw [if_neg (not_not_intro g), if_pos g]
    split
    · show some (- -p) = _; rw [Int.neg_neg]
    · split
      · show some (- -x) = _; rw [Int.neg_neg]
      · rw [map_neg]
  · rw [if_pos g, if_neg g]
    split
    · rw [map_neg]
    · split
      · show some (- -x) = _; rw [Int.neg_neg]
      · rw [map_neg]
/-! ### rotations lead to the touch -/
theorem root_restr {x : Int} {l : T} (e : l.rt = some x) : l.restr none (some x) = l.lt.restr none (some x) ∧ l.restr (some x) none = l.rtr.restr (some x) none := by
  cases l with
  | leaf => cases e
  | node a y b =>
    cases e
    constructor
    · show (if decide (x < x) = false then a.restr none (some x) else _) = _
      rw [if_pos (decide_eq_false (Int.lt_irrefl _))]; rfl
    · show (if decide (x < x) = false then b.restr (some x) none else _) = _
      rw [if_pos (decide_eq_false (Int.lt_irrefl _))]; rfl
theorem rot_restr {x : Int} : ∀ {t : T}, t.bst → (t.rot x).restr none (some x) = t.restr none (some x) ∧ (t.rot x).restr (some x) none = t.restr (some x) none
  | leaf, _ => ⟨rfl, rfl⟩
  | node l k r, b => by
    have e1 : ∀ {l r : T} {k : Int}, (node l k r).restr none (some x) = if decide (k < x) = false then l.restr none (some x) else node (l.restr none (some x)) k (r.restr none (some x)) := rfl
    have e2 : ∀ {l r : T} {k : Int}, (node l k r).restr (some x) none = if decide (x < k) = false then r.restr (some x) none else node (l.restr (some x) none) k (r.restr (some x) none) := rfl
    rcases Int.lt_trichotomy x k with g | g | g
    · unfold rot
      rw [if_pos g]
      by_cases e : l.rt = some x
      · obtain ⟨h1, h2⟩ := root_restr e
        rw [if_pos e]
        simp only [e1, e2, h1, h2, decide_eq_false (Int.lt_irrefl x), decide_eq_false (show ¬ k < x by omega), decide_eq_true g, if_true, if_neg (show ¬ true = false from fun z => Bool.noConfusion z), and_self]
      · obtain ⟨i1, i2⟩ := rot_restr (x := x) b.2.2.1
        rw [if_neg e, e1, e1, e2, e2, i1, i2]
        exact ⟨rfl, rfl⟩
    · subst g
      unfold rot
      rw [if_neg (Int.lt_irrefl _), if_neg (Int.lt_irrefl _)]
      exact ⟨rfl, rfl⟩
    · unfold rot
      rw [if_neg (show ¬ x < k by omega), if_pos g]
      by_cases e : r.rt = some x
      · obtain ⟨h1, h2⟩ := root_restr e
        rw [if_pos e]
        simp only [e1, e2, h1, h2, decide_eq_false (Int.lt_irrefl x), decide_eq_false (show ¬ x < k by omega), decide_eq_true g, if_true, if_neg (show ¬ true = false from fun z => Bool.noConfusion z), and_self]
      · obtain ⟨i1, i2⟩ := rot_restr (x := x) b.2.2.2
        rw [if_neg e, e1, e1, e2, e2, i1, i2]
        exact ⟨rfl, rfl⟩
theorem rot_tch {t : T} {x : Int} (b : t.bst) : (t.rot x).tch x = t.tch x := by
  unfold T.tch
  rw [(rot_restr b).1, (rot_restr b).2]
theorem tch_root {t : T} {x : Int} (b : t.bst) (h : t.rt = some x) : t.tch x = t := by
  refine tree_ext (tch_bst b) b (fun z => tch_mem' b (rt_mem h)) fun y z _ hz => ?_
  rw [tch_path b]
  cases t with
  | leaf => cases h
  | node l k r =>
    cases h
    split
    · next hb =>
      have hbt : (y ≤ x ∧ x ≤ z) ∨ (z ≤ x ∧ x ≤ y) := by
        have := of_decide_eq_true hb
        omega
      constructor
      · intro e
        subst e
        unfold path
        split
        · exact List.mem_singleton.mpr rfl
        · split <;> exact List.mem_cons_self
      · intro hy
        unfold path at hy
        split at hy
        · exact (List.mem_singleton.mp hy).symm
        · split at hy
          · rcases List.mem_cons.mp hy with e | e
            · exact e.symm
            · have := b.1 y (path_sub e); omega
          · rcases List.mem_cons.mp hy with e | e
            · exact e.symm
            · have := b.2.1 y (path_sub e); omega
    · exact Iff.rfl
theorem rot_dep {x p : Int} : ∀ {t : T}, t.bst → t.up x = some p → ((t.rot x).path x).length + 1 = (t.path x).length
  | leaf, _, h => by cases h
  | node l k r, b, h => by
    rcases up_cases b h with ⟨g, e, rfl⟩ | ⟨g, e, hu, lp⟩ | ⟨g, e, rfl⟩ | ⟨g, e, hu, lp⟩
    · unfold rot
      rw [if_pos g, if_pos e, path_k, path_l b (rt_mem e), path_rt e]; rfl
    · unfold rot
      rw [if_pos g, if_neg e, path_l b (up_in hu)]
      show (if x = k then [k] else if x < k then k :: (l.rot x).path x else k :: r.path x : List Int).length + 1 = _
      rw [if_neg (by omega), if_pos g, List.length_cons, List.length_cons, rot_dep b.2.2.1 hu]
    · unfold rot
      rw [if_neg (show ¬ x < p by omega), if_pos g, if_pos e, path_k, path_r b (rt_mem e), path_rt e]; rfl
    · unfold rot
      rw [if_neg (show ¬ x < k by omega), if_pos g, if_neg e, path_r b (up_in hu)]
      show (if x = k then [k] else if x < k then k :: l.path x else k :: (r.rot x).path x : List Int).length + 1 = _
      rw [if_neg (by omega), if_neg (by omega), List.length_cons, List.length_cons, rot_dep b.2.2.2 hu]
/-! ### nodes in dicts, rotated -/
def setO (f : Int → Option Int) (a : Int) (o : Option Int) : Int → Option Int := fun z => if z = a then o else f z
def upO (uf : Int → Option Int) (a : Int) : Option Int → Int → Option Int
  | none => uf
  | some k => setO uf k (some a)
theorem Mp.set {kvs : List (Key × V)} {f : Int → Option Int} {n : Nat} (h : Mp kvs f n) (x y : Int) : Mp (putK kvs (Sum.inl x) (.int y)) (setO f x (some y)) (n + 1) := h.put x y
theorem Mp.cut {kvs : List (Key × V)} {f : Int → Option Int} {n : Nat} (h : Mp kvs f n) (x : Int) : Mp (dropK kvs (Sum.inl x)) (setO f x none) (n + 1) := (h.pop x).eq (fun _ => rfl) (Nat.le_succ _)
theorem Mp.no {kvs : List (Key × V)} {f : Int → Option Int} {n : Nat} (h : Mp kvs f n) {x : Int} (e : f x = none) : Mp kvs (setO f x none) (n + 1) := h.eq (fun z => by
  unfold setO
  split
  · next q => rw [q]; exact e
  · rfl) (Nat.le_succ _)
theorem Mp.more {kvs : List (Key × V)} {f : Int → Option Int} {n : Nat} (h : Mp kvs f n) : Mp kvs f (n + 1) := h.eq (fun _ => rfl) (Nat.le_succ _)
theorem Nod.tight {H : Hp} {m L R U : Addr} {t : T} {n : Nat} (b : t.bst) (h : TrAt H m L R U t n) : TrAt H m L R U t t.pre.length := by
  obtain ⟨lk, h1, h2⟩ := h.l
  obtain ⟨rk, h3, h4⟩ := h.r
  obtain ⟨uk, h5, h6⟩ := h.u
  have k1 : ∀ x, t.lc x ≠ none → x ∈ t.pre := fun x hx => Classical.byContradiction fun q => hx (lc_out q)
  have k2 : ∀ x, t.rc x ≠ none → x ∈ t.pre := fun x hx => Classical.byContradiction fun q => hx (rc_out q)
  have k3 : ∀ x, t.up x ≠ none → x ∈ t.pre := fun x hx => Classical.byContradiction fun q => hx (up_out q)
  exact ⟨h.hm, ⟨lk, h1, h2.small k1⟩, ⟨rk, h3, h4.small k2⟩, ⟨uk, h5, h6.small k3⟩, h.mL, h.mR, h.mU, h.LR, h.LU, h.RU⟩
def Fr (m L R U : Addr) (H H' : Hp) : Prop := ∀ b, b ≠ m → b ≠ L → b ≠ R → b ≠ U → H' b = H b
theorem Fr.trans {m L R U : Addr} {H H1 H2 : Hp} (a : Fr m L R U H H1) (b : Fr m L R U H1 H2) : Fr m L R U H H2 := fun c c1 c2 c3 c4 => by rw [b c c1 c2 c3 c4, a c c1 c2 c3 c4]
def spHang : Sp := fun vs H Q _ => ∃ (m : Addr) (bl : Bool) (ab : Int) (key : Option Int) (L R U : Addr) (rt : Option Int) (lf rf uf : Int → Option Int) (n : Nat), vs = [.ref m, .str (sideS bl), .int ab, oV key] ∧ Nod H m L R U rt lf rf uf n ∧ n ≤ 1000 ∧
  ∀ H', Nod H' m L R U rt (if bl = true then setO lf ab key else lf) (if bl = true then rf else setO rf ab key) (upO uf ab key) (n + 1) → Fr m L R U H H' → Q .non H'
def spRotate : Sp := fun vs H Q _ => ∃ (m : Addr) (x p : Int) (L R U : Addr) (t : T) (n : Nat), vs = [.ref m, .int x] ∧ TrAt H m L R U t n ∧ t.bst ∧ t.up x = some p ∧ n ≤ 900 ∧
  ∀ H', TrAt H' m L R U (t.rot x) t.pre.length → Fr m L R U H H' → Q .non H'
def spTouchN : Sp := fun vs H Q _ => ∃ (m : Addr) (x : Int) (L R U : Addr) (t : T) (n : Nat), vs = [.ref m, .int x] ∧ TrAt H m L R U t n ∧ t.bst ∧ x ∈ t.pre ∧ t.pre.length ≤ 900 ∧ n ≤ 900 ∧
  ∀ H', TrAt H' m L R U (t.tch x) t.pre.length → Fr m L R U H H' → Q (.int (t.dep x : Int)) H'
theorem getD_oV {o : Option Int} : ((o.map V.int).getD .non) = oV o := by cases o <;> rfl
theorem Nod.eq {H : Hp} {m L R U : Addr} {rt rt' : Option Int} {lf rf uf lf' rf' uf' : Int → Option Int} {n : Nat} (h : Nod H m L R U rt lf rf uf n) (e0 : rt = rt') (e1 : ∀ z, lf z = lf' z) (e2 : ∀ z, rf z = rf' z) (e3 : ∀ z, uf z = uf' z) : Nod H m L R U rt' lf' rf' uf' n := by
  rw [← e0, ← funext e1, ← funext e2, ← funext e3]
  exact h
end TT
namespace TT
open PySem PySem.Spec PyProof.Rows L2
open T
/-! ### what the dicts are behind a rotation -/
section
variable {t : T} {x p : Int}
/-- left children, right children, parents: behind the first two hangs -/
def lf2 (t : T) (x p : Int) : Int → Option Int := if (!decide (x < p)) = true then setO (if decide (x < p) = true then setO t.lc p (t.rc x) else t.lc) x (some p) else (if decide (x < p) = true then setO t.lc p (t.rc x) else t.lc)
def rf2 (t : T) (x p : Int) : Int → Option Int := if (!decide (x < p)) = true then (if decide (x < p) = true then t.rc else setO t.rc p (t.lc x)) else setO (if decide (x < p) = true then t.rc else setO t.rc p (t.lc x)) x (some p)
def uf2 (t : T) (x p : Int) : Int → Option Int := upO (upO t.up p (ch t x p)) x (some p)
theorem lf2_at (z : Int) : lf2 t x p z = if x < p then (if z = p then t.rc x else t.lc z) else (if z = x then some p else t.lc z) := by
  unfold lf2
  by_cases lt : x < p
  · rw [decide_eq_true lt, if_pos lt]; rfl
  · rw [decide_eq_false lt, if_neg lt]; rfl
theorem rf2_at (z : Int) : rf2 t x p z = if x < p then (if z = x then some p else t.rc z) else (if z = p then t.lc x else t.rc z) := by
  unfold rf2
  by_cases lt : x < p
  · rw [decide_eq_true lt, if_pos lt]; rfl
  · rw [decide_eq_false lt, if_neg lt]; rfl
theorem uf2_at (z : Int) : uf2 t x p z = if z = p then some x else if ch t x p = some z then some p else t.up z := by
  show (if z = p then some x else upO t.up p (ch t x p) z) = _
  split
  · rfl
  · cases ch t x p with
    | none => rw [if_neg (fun q => by cases q)]; rfl
    | some q =>
      show (if z = q then some p else t.up z) = _
      by_cases e : z = q
      · rw [if_pos e, if_pos (by rw [e])]
      · rw [if_neg e, if_neg (fun h => e (Option.some.inj h).symm)]
theorem up_far {g : Int} (b : t.bst) (hp : t.up x = some p) (hg : t.up p = some g) : g ≠ x ∧ g ≠ p := by
  have h1 := up_mem b hp
  have h2 := up_mem b hg
  refine ⟨fun e => ?_, fun e => h2.2.1 e.symm⟩
  subst e
  have l1 := congrArg List.length h1.2.2
  have l2 := congrArg List.length h2.2.2
  rw [List.length_append] at l1 l2
  simp only [List.length_cons, List.length_nil] at l1 l2
  omega
theorem lf_none (b : t.bst) (hp : t.up x = some p) (hg : t.up p = none) (z : Int) : lf2 t x p z = (t.rot x).lc z := by
  have n : ¬ ((none : Option Int) = some z ∧ x < z) := fun q => by cases q.1
  rw [lf2_at, lc_rot b hp]
  unfold lcR
  simp only [hg, if_neg n]
theorem rf_none (b : t.bst) (hp : t.up x = some p) (hg : t.up p = none) (z : Int) : rf2 t x p z = (t.rot x).rc z := by
  have n : ¬ ((none : Option Int) = some z ∧ z < x) := fun q => by cases q.1
  rw [rf2_at, rc_rot b hp]
  unfold rcR
  simp only [hg, if_neg n]
theorem uf_none (b : t.bst) (hp : t.up x = some p) (hg : t.up p = none) (z : Int) : (if z = x then none else uf2 t x p z) = (t.rot x).up z := by
  rw [uf2_at, up_rot b hp]
  unfold upR
  rw [hg]
theorem uf2_x (b : t.bst) (hp : t.up x = some p) : uf2 t x p x = some p := by
  rw [uf2_at, if_neg (up_mem b hp).2.1, if_neg (fun q => ?_), hp]
  have := ch_up b q
  rw [hp] at this
  exact (up_mem b hp).2.1 (Option.some.inj this).symm
theorem lf_some {g : Int} (b : t.bst) (hp : t.up x = some p) (hg : t.up p = some g) (z : Int) : (if decide (x < g) = true then setO (lf2 t x p) g (some x) else lf2 t x p) z = (t.rot x).lc z := by
  obtain ⟨n1, n2⟩ := up_far b hp hg
  rw [lc_rot b hp]
  unfold lcR
  rw [hg]
  by_cases lt : x < g
  · rw [if_pos (decide_eq_true lt)]
    show (if z = g then some x else lf2 t x p z) = _
    rw [lf2_at]
    by_cases e : z = g
    · subst e
      rw [if_pos rfl]
      simp only [if_neg n1, if_neg n2, ite_self, true_and, if_pos lt]
    · have n : ¬ (some g = some z ∧ x < z) := fun q => e (Option.some.inj q.1).symm
      simp only [if_neg e, if_neg n]
  · have n : ¬ (some g = some z ∧ x < z) := fun q => by
      have := Option.some.inj q.1
      omega
    rw [if_neg (by simp [lt]), lf2_at]
    simp only [if_neg n]
theorem rf_some {g : Int} (b : t.bst) (hp : t.up x = some p) (hg : t.up p = some g) (z : Int) : (if decide (x < g) = true then rf2 t x p else setO (rf2 t x p) g (some x)) z = (t.rot x).rc z := by
  obtain ⟨n1, n2⟩ := up_far b hp hg
  rw [rc_rot b hp]
  unfold rcR
  rw [hg]
  by_cases lt : x < g
  · have n : ¬ (some g = some z ∧ z < x) := fun q => by
      have := Option.some.inj q.1
      omega
    rw [if_pos (decide_eq_true lt), rf2_at]
    simp only [if_neg n]
  · rw [if_neg (by simp [lt])]
    show (if z = g then some x else rf2 t x p z) = _
    rw [rf2_at]
    by_cases e : z = g
    · subst e
      rw [if_pos rfl]
      simp only [if_neg n1, if_neg n2, ite_self, true_and, if_pos (show z < x by omega)]
    · have n : ¬ (some g = some z ∧ z < x) := fun q => e (Option.some.inj q.1).symm
      simp only [if_neg e, if_neg n]
theorem uf_some {g : Int} (b : t.bst) (hp : t.up x = some p) (hg : t.up p = some g) (z : Int) : upO (uf2 t x p) g (some x) z = (t.rot x).up z := by
  show (if z = x then some g else uf2 t x p z) = _
  rw [uf2_at, up_rot b hp]
  unfold upR
  rw [hg]
end
end TT
namespace TT
open PySem PySem.Spec PyProof.Rows L2
/-! ### except clauses that name a tuple of classes -/
theorem flying_push {B h h' : Heap} {l : List Env} {e : Addr} {Z : Obj → Prop} (fl : HandSPX.FlyingZ B l e Z h) (k : ∀ b o, h.get? b = some o → h'.get? b = some o) : HandSPX.FlyingZ B l e Z h' := by
  obtain ⟨a1, a2, a3, oe, vs, T, oT, ts, b1, b2, b3, b4, b5, b6, b7, b8, b9⟩ := fl
  exact ⟨fun b o x => k b o (a1 b o x), a2, a3.of_keeps fun b o x _ => ⟨o, k b o x, rfl⟩, oe, vs, T, oT, ts, k _ _ b1, b2, b3, b4, b5, b6, k _ _ b7, b8, b9⟩
/-- what the clause «except (x1, x2) as n» wishes: slot i is n's; the class is one of the two -/
def wTwo (K : PySem.W.Frag) (c1 c2 : Value) (i : Nat) (ts : Addr → Value → Option Addr → TS) (D : Ends) : WX := fun cls d σ H => PySem.W.exmAny K cls [c1, c2] = some true ∧
  ∀ a, H a = none → ts a cls d { nx := fun σ' H' => D.nx (σ'.set i none) H', rt := D.rt, bk := fun σ' H' => D.bk (σ'.set i none) H', ct := fun σ' H' => D.ct (σ'.set i none) H' } (σ.set i (some (.ref a))) H
/-- the same of «except (x1, x2, x3):» -/
def wThree (K : PySem.W.Frag) (c1 c2 c3 : Value) (ts : Addr → Value → Option Addr → TS) (D : Ends) : WX := fun cls d σ H => PySem.W.exmAny K cls [c1, c2, c3] = some true ∧ ∀ a, H a = none → ts a cls d D σ H
section
variable {X : Cx} {x1 x2 x3 n : Str} {c1 c2 c3 : Value} {i : Nat} {body suite : List Stmt} {b₀ : Stmt} {q1 q2 q3 qt pos' pos : Pos} {kk : Nat} {more : List ExceptHandler} {tb : WX → TS} {ts : Addr → Value → Option Addr → TS}
theorem ps_try_two (hs : X.stack = X.env :: X.outer) (hf : X.env.frame = some X.env.locals) (hN : X.N.Nodup) (hi : X.N[i]? = some n) (hln : X.env.kindOf n = some .local)
    (g1 : Gl X x1) (m1 : X.mg x1 = some c1) (g2 : Gl X x2) (m2 : X.mg x2 = some c2) (d1 : (x1 == ("__debug__" : Str)) = false) (d2 : (x2 == ("__debug__" : Str)) = false)
    (hb : ∀ (W : WX) (pn : List (Addr × Obj)) (xe : Value → Shared → Prop), Takes (X.tr pn xe) W → PassesOwn (model X.prog X.w) X.A X.env xe → PSs (X.tr pn xe) body (tb W))
    (hsu : ∀ (a : Addr) (oe : Obj) (cls : Value) (d : Option Addr) (pn : List (Addr × Obj)), Zc cls d oe → (∃ vs, oe.data = .fields vs) → PSs (X.suite a ((a, oe) :: pn)) (b₀ :: suite) (ts a cls d)) :
    PS X (.Try body (.ExceptHandler (some (.Tuple [.Name x1 q1, .Name x2 q2] kk qt)) (some n) (b₀ :: suite) pos' :: more) [] [] pos) (fun D σ H => tb (wTwo X.K c1 c2 i ts D) D σ H) := by
  refine ⟨fun pins s σ H D I hw => ?_⟩
  have ok := I.ok
  have frames : X.A.frames = some (X.env :: X.outer) := by rw [ok.frames, hs]
  refine wpAny_Try_except (wpAny_mono ((hb (wTwo X.K c1 c2 i ts D) (X.pn ++ pins) _ (fun u s' air => ?_) PassesOwn.looking).run [] s σ H D (I.toTry _) hw) (fun fl s1 got => ?_) (fun _ _ z => z))
  · obtain ⟨a, B, sI, pins', σ', H', cls, d, rfl, JT, nb, up, sky, na, os, ag, hx, hgo⟩ := air
    have J : Inv X pins σ' H' sI := JT.ofTry ok
    have sky2 : Sky B (X.env :: X.outer) a (Zc cls d) X.env.locals s'.heap := by rw [← hs]; exact sky
    refine Sky.land Zc.steady frames hf sky2 fun h3 fl3 up3 => ?_
    have J3 : Inv X pins σ' H' { s' with heap := h3 } := J.landed nb fl3.1 (up.trans up3) os ag
    obtain ⟨oe, vs, at3, z3, dat3⟩ := fl3.there
    have away : a ∉ frs (X.env :: X.outer) := fun mem => by
      obtain ⟨_, o', e', nf⟩ := fl3.2.2.1.mem mem
      rw [at3] at e'
      cases e'
      exact nf _ dat3
    have nL : a ≠ X.env.locals := fun z => away (List.mem_filterMap.mpr ⟨X.env, List.mem_cons_self, by rw [hf, z]⟩)
    have nF : a ∉ X.fs := fun mem => by
      obtain ⟨e, he, q⟩ := List.mem_filterMap.mp mem
      exact away (List.mem_filterMap.mpr ⟨e, List.mem_cons_of_mem _ he, q⟩)
    have S3 := J3.suite at3 dat3 na nL nF
    refine wpAny_handleBy_cons (codeAny_handlers_test ?_) (by intro q; cases q)
    refine wpAny_Tuple_spliced (Calls.spliced_cons (ld_glob (X := X.suite a ((a, oe) :: (X.pn ++ pins))) S3 g1 m1 (Calls.spliced_cons (ld_glob (X := X.suite a ((a, oe) :: (X.pn ++ pins))) S3 g2 m2 (Calls.spliced_nil ⟨by show 2 ≤ sizeLine; decide, ?_⟩) d2)) d1))
    have kp : ∀ b o, h3.get? b = some o → (h3.push { cls := .type "tuple", data := .seq [c1, c2].toArray }).get? b = some o := fun b o e => Heap.get?_push_of_some _ e
    have look : PySem.W.Looks (model X.prog X.w) (h3.push { cls := .type "tuple", data := .seq [c1, c2].toArray }) (typeOf (.ref a)) cls := fun A Q E s k q => wpAny_typeOf_ref (k _ _ (kp _ _ at3)) (by rw [z3.1]; exact q)
    have match2 := PySem.W.exm_tup2 (M := model X.prog X.w) (J3.kIn.keeps kp) look (Heap.get?_push_size _ rfl) hx
    refine match2.here (codeAny_handlers_suite_as (HandSPX.lands_againZ (flying_push fl3 kp) fun h4 fl4 up4 => ?_))
    have J4 : Inv X pins σ' H' { s' with heap := h4 } := J.landed nb fl4.1 (((up.trans up3).trans (.of_keeps kp)).trans up4) os ag
    obtain ⟨oe4, vs4, at4, z4, dat4⟩ := fl4.there
    refine store_ok (X := X.suite a ((a, oe4) :: (X.pn ++ pins))) (v := .ref a) (J4.suite at4 dat4 na nL nF) hN hi (.inl hln) rfl (fun s5 S5 => ?_) (.inr hln)
    refine wpAny_mono ((hsu a oe4 cls d (X.pn ++ pins) z4 ⟨_, dat4⟩).run [] s5 _ H' _ S5 (hgo a na)) (fun fl s6 sp => ?_) (fun _ _ z => False.elim z)
    have close : ∀ {σ6 : L2.St} {H6 : Hp} {R : Shared → Prop}, Inv (X.suite a ((a, oe4) :: (X.pn ++ pins))) [] σ6 H6 s6 → (∀ s7, Inv X pins (σ6.set i none) H6 s7 → R s7) → wpAny (model X.prog X.w) X.A (do bindName X.env n .none; unbindBehindTheSuite X.env n pos') (fun _ s7 => R s7) X.xe s6 :=
      fun S6 hq => gone_ok (S6.unsuite ok) hN hi hln hq
    cases fl with
    | next => obtain ⟨σ6, H6, S6, q6⟩ := sp; exact close S6 fun s7 J7 => ⟨_, _, J7, q6⟩
    | brk => obtain ⟨σ6, H6, S6, q6⟩ := sp; exact close S6 fun s7 J7 => ⟨_, _, J7, q6⟩
    | cont => obtain ⟨σ6, H6, S6, q6⟩ := sp; exact close S6 fun s7 J7 => ⟨_, _, J7, q6⟩
    | ret u => obtain ⟨v6, σ6, H6, S6, r6, q6⟩ := sp; exact close S6 fun s7 J7 => ⟨_, _, _, J7, r6, q6⟩
  · cases fl with
    | next => obtain ⟨σ', H', JT, q⟩ := got; exact wpAny_execs_nil ⟨σ', H', JT.ofTry ok, q⟩
    | brk => obtain ⟨σ', H', JT, q⟩ := got; exact ⟨σ', H', JT.ofTry ok, q⟩
    | cont => obtain ⟨σ', H', JT, q⟩ := got; exact ⟨σ', H', JT.ofTry ok, q⟩
    | ret u => obtain ⟨v, σ', H', JT, r, q⟩ := got; exact ⟨v, σ', H', JT.ofTry ok, r, q⟩
end
/-! ### a function read off a class, called: C.f(e, ..) -/
structure ClsFn (K : PySem.W.Frag) (C : Addr) (nm : Str) (f : Addr) : Prop where
  ga : PySem.W.specialIn K (.ref C) "__getattribute__" = some (some (.builtin "type.__getattribute__"))
  rd : PySem.W.readsIn K C (.type "type") = true
  fc : PySem.W.findCls K (.ref C) (.type "type") nm = some (.val (.ref f))
  hd : PySem.W.handedIn (.ref f) = true
section
variable {X : Cx} {CX : CXT} {k : Nat} {C f : Addr} {fd : FuncData} {ps : List Str} {sp : Sp} {E : XK} {x nm : Str} {p1 p2 pos : Pos} {e : Expr} {es : List Expr} {t : TA}
theorem pe_clsfn {pl : Sem Bool} (g : Gl X x) (m : X.mg x = some (.ref C)) (c : ClsFn X.K C nm f) (F : FnOk X.prog X.w X.K X.mg X.base CX k f fd ps sp) (hr : Room k X.A) (hk : PySem.W.keepIn X.K (.ref f) = true) (hb : Binds X.K fd ps []) (hx : Passes CX X E) (ha : PA X (e :: es) t)
    (hc : eval (.Call (.Attribute (.Name x p1) nm p2) (e :: es) [] pos) X.env = (do
      let ov ← eval (.Name x p1) X.env
      standAt p2.atName
      let (f, first) ← holding [ov] (getMethod ov nm pl)
      callWith pos f first (backTo pos (starEach (e :: es) X.env)) (backToKw pos (keywordEach [] X.env))) := by rfl)
    (hdb : (x == ("__debug__" : Str)) = false := by decide) (he : starEach (e :: es) X.env = (false, eval e X.env) :: starEach es X.env := by rfl) (hpl : (backTo pos (starEach es X.env)).any (·.1) = false := by rfl) :
    PE X (.Call (.Attribute (.Name x p1) nm p2) (e :: es) [] pos) (tCall sp [] E t) := by
  refine ⟨fun pins s σ H Q I hq => PySem.W.methodCall_KW (ld_glob I g m ?_ hdb) hc⟩
  refine PySem.W.method_cls I.kIn c.ga (PySem.W.cls_value I.kIn c.rd c.fc c.hd ?_)
  refine PySem.W.callWith_K (h₀ := X.base) I.ok.mod.kin hk (thn (ha.run pos pins _ σ H _ (I.tok _) hq) fun us s2 ⟨vs, H2, I2, r2, q2⟩ => ⟨I2.kIn, ?_⟩) he hpl
  exact run_fn F hr hb .nil hx I2 r2 q2
end
end TT
namespace TT
open PySem PySem.Spec PyProof.Rows L2 HotX
/-! ### a pair unpacked while an exception is handled -/
section
variable {prog : Program} {w : World} {A : Around} {E : Value → Shared → Prop} {s : Shared}
theorem nxtup_hot {it t x1 : Addr} {i : Nat} {vs : Array Value} {Q : Option Value → Shared → Prop} (hot : HotAt A x1 s.heap) (a1 : s.heap.IsTupleIter it t i) (a2 : s.heap.IsTuple t vs) (a3 : vs[i]? = none) (ne : x1 ≠ it)
    (q : ∀ h', Heap.ExtBut it s.heap h' → Q none { s with heap := h' }) : wpAny (model prog w) A (pyNext (.ref it)) Q E s := by
  obtain ⟨oi, gi, ci, di⟩ := id a1
  obtain ⟨ot, gt, _, nt, dt⟩ := a2
  obtain ⟨hh, ox, vx, gx, dx, cx⟩ := hot
  unfold pyNext
  refine wpAny_bind (wpAny_attempt (wpAny_callSpecial?_slot (name := Str.ofString "__next__") a1.typeIs F.slot_tuple_iterator_next (wpAny_call_entry F.slot_tuple_iterator_next a1.typeIs F.entry_tuple_iterator_next ?_ (F.args_tuple_iterator_next_1 _))))
  show wpAny (model prog w) _ (field (.ref it) 0 >>= _) _ _ s
  refine wpAny_bind (wpAny_field gi di (x := Value.ref t) rfl ?_)
  show wpAny (model prog w) _ (if (Value.ref t == Value.none) = true then _ else _) _ _ s
  rw [if_neg (fun z : (Value.ref t == Value.none) = true => Bool.false_ne_true z)]
  show wpAny (model prog w) _ (field (.ref it) 1 >>= _) _ _ s
  refine wpAny_bind (wpAny_field gi di (x := Value.int i 0) rfl ?_)
  show wpAny (model prog w) _ (seqItems? (.ref t) >>= _) _ _ s
  refine wpAny_bind (wpAny_seqItems gt dt ?_)
  simp only [Int.toNat_natCast, a3]
  refine wpAny_bind (wpAny_rule (wpAny_bind (wpAny_setField gi di (by simp) ?_)))
  have gx2 : (s.heap.update it (Obj.mapFields (·.setIfInBounds 0 Value.none))).get? x1 = some ox := (Heap.get?_update_other _ _ (Ne.symm ne)).trans gx
  show wpAny (model prog w) _ (newExc (.type "StopIteration") [] >>= _) _ _ _
  refine wpAny_bind ?_
  simp only [newExc, newTuple]
  refine wpAny_bind (wpAny_newObj_type ?_ (by size_fits))
  refine wpAny_bind (m := firstArgMember _ _) (wpAny_of_eq (a := Value.none) (by first | (simp only [firstArgMember]; rfl) | rfl) ?_)
  refine wpAny_newObj_type ?_ (by size_fits)
  refine raiseNew_hot ⟨hh, ox, vx, Heap.get?_push_of_some _ (Heap.get?_push_of_some _ gx2), dx, cx⟩ (Nat.ne_of_lt (Heap.lt_size (Heap.get?_push_of_some _ gx2))) (Heap.get?_push_size _ rfl) rfl (by first | (simp; done) | (simp; omega)) ?_
  refine wpAny_bind (wpAny_isInstance (T := "StopIteration") (b := true) ⟨_, Heap.get?_update_self _ (Heap.get?_push_size _ rfl) rfl, rfl⟩ isSubtype_stop ?_)
  refine wpAny_pure (q _ fun b o nb e => ?_)
  have e2 := (Heap.get?_update_other s.heap (Obj.mapFields (·.setIfInBounds 0 Value.none)) (Ne.symm nb)).trans e
  rw [Heap.get?_update_other _ _ (Nat.ne_of_gt (Heap.lt_size (Heap.get?_push_of_some _ e2)))]
  exact Heap.get?_push_of_some _ (Heap.get?_push_of_some _ e2)
theorem unpack_hot {t x1 : Addr} {vs : Array Value} {Q : List Value → Shared → Prop} (hot : HotAt A x1 s.heap) (a2 : s.heap.IsTuple t vs) (q : ∀ h', Heap.ExtBut s.heap.objs.size s.heap h' → Q vs.toList { s with heap := h' }) :
    wpAny (model prog w) A (unpackItems (.ref t) vs.size none) Q E s := by
  have nt : t ≠ s.heap.objs.size := by
    obtain ⟨o, ho, _⟩ := a2
    exact Nat.ne_of_lt (Heap.lt_size ho)
  obtain ⟨hh, ox, vx, gx, dx, cx⟩ := hot
  have nx : x1 ≠ s.heap.objs.size := Nat.ne_of_lt (Heap.lt_size gx)
  unfold unpackItems notIterableAtAll
  refine wpAny_bind (wpAny_bind (wpAny_specialOf a2.typeIs F.slot_tuple_iter.lookup (wpAny_pure ?_)))
  simp only [Bool.false_eq_true, if_false]
  refine wpAny_bind (wpAny_holding (wpAny_pyIter_tuple a2 (wpAny_bind (wpAny_holding (wpAny_draw_tuple nt vs.size 0 _ _ ⟨_, Heap.get?_push_size _ rfl, rfl, rfl⟩ (a2.push _) (by omega) fun h1 b1 b2 => ?_)))))
  have whole : List.take vs.size (List.drop 0 vs.toList) = vs.toList := by rw [List.drop_zero]; exact List.take_of_length_le (by simp)
  rw [whole, if_neg (by simp)]
  have ex : h1.get? x1 = some ox := b2.extBut x1 ox nx (Heap.get?_push_of_some _ gx)
  refine wpAny_bind (wpAny_holding (nxtup_hot ⟨hh, ox, vx, ex, dx, cx⟩ b1 ((a2.push _).extBut b2.extBut nt) (by simp) nx fun h2 b3 => ?_))
  simp only [Option.isSome_none, Bool.false_eq_true, if_false]
  exact wpAny_pure (q h2 fun b o nb e => b3 b o nb (b2.extBut b o nb (Heap.get?_push_of_some _ e)))
end
section
variable {X : Cx} {pos : Pos}
theorem ps_par_hot {i j : Nat} {x y : Str} {a b : Expr} {ta : TA} {px py pt : Pos} {kt k2 pt2} (hc : L2H.HotC X) (hN : X.N.Nodup) (hi : X.N[i]? = some x) (hj : X.N[j]? = some y) (hij : i ≠ j)
    (hx : X.env.scope.names.lookup x = some .local) (hy : X.env.scope.names.lookup y = some .local) (ha : PA X [a, b] ta)
    (hw : swappedStores [.Tuple [.Name x px, .Name y py] kt pt] (.Tuple [a, b] k2 pt2) X.env = pure (some [x, y]))
    (hs : swapsWithSole [.Tuple [.Name x px, .Name y py] kt pt] (.Tuple [a, b] k2 pt2) pos.line X.env = pure false := by rfl) :
    PS X (.Assign [.Tuple [.Name x px, .Name y py] kt pt] (.Tuple [a, b] k2 pt2) pos) (tPar i j ta) := ⟨fun pins s σ H D I h => by
  rw [exec_Assign_arm]
  refine wpAny_bind (wpAny_standAt ?_)
  rw [hs]
  refine wpAny_bind (wpAny_pure ?_)
  rw [if_neg (by decide)]
  refine wpAny_bind (Tuple_ (thn (ha.run _ pins s σ H _ I h) fun us s1 ⟨vs, H1, I1, r1, v, w', e1, q1⟩ => ?_))
  subst e1
  cases r1 with
  | @cons _ u1 _ _ rv r2 =>
    cases r2 with
    | @cons _ u2 _ _ rw2 r3 =>
      cases r3
      refine wpAny_newObj_type ?_ (by show 2 ≤ sizeLine; decide)
      have I2 : Inv X pins σ H1 { s1 with heap := s1.heap.push { cls := .type "tuple", data := .seq [u1, u2].toArray } } := I1.kept (t' := s1.toks) fun b o e => Heap.get?_push_of_some _ e
      obtain ⟨x1, hot⟩ := hc.at I2
      rw [hw]
      refine wpAny_bind (wpAny_pure ?_)
      show wpAny (model X.prog X.w) X.A (do rule "assign.swapped-stores"; let items ← unpackItems (.ref s1.heap.objs.size) 2 none; assignInOrder [fun v => bindName X.env y v, fun v => bindName X.env x v] items.reverse; pure Flow.next) _ _ _
      refine wpAny_bind (wpAny_rule (wpAny_bind (unpack_hot (vs := #[u1, u2]) hot ⟨_, Heap.get?_push_size _ rfl, rfl, _, rfl⟩ fun h' e' => ?_)))
      have I3 := I2.kept (h' := h') (t' := s1.toks) fun b o e => e' b o (Nat.ne_of_lt (Heap.lt_size e)) e
      show wpAny _ _ (assignInOrder [fun v => bindName X.env y v, fun v => bindName X.env x v] [u2, u1] >>= fun _ => pure Flow.next) _ _ _
      refine wpAny_bind (assignInOrder_cons (wpAny_bindName (store_ok I3 hN hj (.inl hy) rw2 (fun s2 I4 => assignInOrder_cons (wpAny_bindName (store_ok I4 hN hi (.inl hx) rv (fun s3 I5 => assignInOrder_nil (wpAny_pure ?_)) (.inr hx)))) (.inr hy))))
      rw [List.set_comm _ _ (Ne.symm hij)] at I5
      exact ⟨_, H1, I5, q1⟩⟩
end
/-! ### defs that let an exception out whose context is None -/
section
variable {P : Program} {w : World} {K : PySem.W.Frag} {mg : Str → Option Value} {base : Heap}
theorem okN {x qual : Str} {st : Stmt} {f : Addr} {fd : FuncData} {N ps : List Str} {k : Nat} {sp : Sp} (F : Fun K x qual st f fd) (S : FnScope N ps (defScope st)) (len : ∀ vs H Q E, sp vs H Q E → vs.length = ps.length)
    (hb : ∀ (cdv : Value) (A : Around) (outer : List Env) (s : Shared) (H : Hp) (vs : List V) (Q : VK) (E : XK), Room k (A.deeper (envOfC qual (defScope st) s.heap.objs.size f cdv)) → sp vs H Q E →
      ∃ t, PSs (cxOf (L2N.CX P w) P w K mg base N qual (defScope st) f cdv A outer s H E) (defBody st) t ∧ t { nx := fun _ H' => Q .non H', rt := Q } (start N vs) H) : FnOk P w K mg base (L2N.CX P w) (k + 1) f fd ps sp := by
  obtain ⟨oc, od, kV, doc, pm, an, cdv, ct, osl, rfl, lk, hcd⟩ := F.ex
  exact fn_of lk hcd S len fun A outer s H vs Q E hr h => hb cdv A outer s H vs Q E hr h
variable {N : List Str} {qual : Str} {scope : Scope} {f : Addr} {cdv : Value} {A : Around} {outer : List Env} {s : Shared} {H : Hp} {E : XK}
theorem takesN : L2N.Takes (cxOf (L2N.CX P w) P w K mg base N qual scope f cdv A outer s H E) (fun c d _ H' => E c d H') := L2N.takes_of rfl rfl rfl rfl
theorem passN : Passes (L2N.CX P w) (cxOf (L2N.CX P w) P w K mg base N qual scope f cdv A outer s H E) E := L2N.passes_call takesN fun _ _ _ _ h => h
theorem ownN : PassesOwn (model P w) (cxOf (L2N.CX P w) P w K mg base N qual scope f cdv A outer s H E).A (cxOf (L2N.CX P w) P w K mg base N qual scope f cdv A outer s H E).env (cxOf (L2N.CX P w) P w K mg base N qual scope f cdv A outer s H E).xe := L2.passes_of (X := cxOf (L2N.CX P w) P w K mg base N qual scope f cdv A outer s H E) rfl
end
section
variable {X : Cx} {CX : CXT} {k : Nat} {ps : List Str} {sp : Sp} {E : XK} {x : Str} {p pos : Pos} {e : Expr} {es : List Expr} {t : TA}
theorem pe_calX (c : Cal X.prog X.w X.K X.mg X.base CX x ps k sp) (hx : Passes CX X E) (hr : Room k X.A) (hg : Gl X x) (ha : PA X (e :: es) t) (hdb : (x == ("__debug__" : Str)) = false := by decide) (he : starEach (e :: es) X.env = (false, eval e X.env) :: starEach es X.env := by rfl)
    (hpl : (backTo pos (starEach es X.env)).any (·.1) = false := by rfl) : PE X (.Call (.Name x p) (e :: es) [] pos) (tCall sp [] E t) := by
  obtain ⟨f, fd, o, a, b, d⟩ := c
  exact pe_call o hr hg a b d .nil hx ha hdb he hpl
end
/-! ### an own exception is made; its context is None -/
section
variable {X : Cx} {e : Expr} {es : List Expr} {ta : TA} {p pos : Pos}
theorem pmk_oexN {CX : CXT} {x : Str} {C fI : Addr} {k : Nat} {fd : FuncData} {ps : List Str} {sp : Sp} (T : OexC X.K C) (iC : PySem.W.findIn X.K (.ref C) "__init__" = some (some (.ref fI))) (tI : PySem.W.typeIn X.K (.ref fI) = some (.type "function"))
    (F1 : FnOk X.prog X.w X.K X.mg X.base CX k fI fd ps sp) (hr : Room (k + 1) X.A) (hb : Binds X.K fd ps []) (hx : Passes CX X (fun _ _ _ => False)) (hg : Gl X x) (hm : X.mg x = some (.ref C)) (ha : PA X (e :: es) ta)
    (hdb : (x == ("__debug__" : Str)) = false := by decide) (he : starEach (e :: es) X.env = (false, eval e X.env) :: starEach es X.env := by rfl) (hpl : (backTo pos (starEach es X.env)).any (·.1) = false := by rfl) :
    L2N.PMk X (.Call (.Name x p) (e :: es) [] pos) (tMkO C sp [] ta) := by
  intro pins s σ H Q I h
  obtain ⟨nm, q, N, bs, bm, sn, sub, ab, col, dd, k0, k1, k2, k3, k5, hC, hbm⟩ := T.cls
  refine wpAny_Call_Name_kw (ld_glob I hg hm (PySem.W.callWith_K (h₀ := X.base) I.ok.mod.kin T.kC (thn (ha.run pos pins s σ H _ I h) fun us s1 ⟨vs, H1, I1, r1, hz, q1⟩ => ⟨I1.kIn, ?_⟩) he hpl) hdb)
  show wpAny _ _ (call (.ref C) us) _ _ _
  obtain ⟨hp, g, dr, tk, os⟩ := s1
  have up1 : hp.objs.size ≤ hp.objs.size + 1 := Nat.le_succ _
  have hq := q1 (hp.objs.size + 1) (I1.hok.fresh up1)
  rw [List.append_nil] at hq
  have kk : ∀ b o, hp.get? b = some o → ((hp.push (PySem.W.kdv_tup us)).push (PySem.HandSPX.excO C hp.objs.size)).get? b = some o := fun b o z => Heap.get?_push_of_some _ (Heap.get?_push_of_some _ z)
  have at1 : ((hp.push (PySem.W.kdv_tup us)).push (PySem.HandSPX.excO C hp.objs.size)).get? (hp.objs.size + 1) = some (PySem.HandSPX.excO C hp.objs.size) := by heap_get
  have I2 : Inv X pins σ (upd H1 (hp.objs.size + 1) (exo _ C none)) ⟨_, g, dr, tk, os⟩ := I1.laid (t' := tk) (a := hp.objs.size + 1) (o := exo (hp.objs.size + 1) C none) (h' := (hp.push (PySem.W.kdv_tup us)).push (PySem.HandSPX.excO C hp.objs.size)) kk up1 (exo_ok at1)
  have r2 : Vals (V.ref (hp.objs.size + 1) :: vs) (Value.ref (hp.objs.size + 1) :: us) := .cons rfl r1
  have bnd := hb _ (Value.ref (hp.objs.size + 1) :: us) I2.kIn (by rw [List.append_nil]; exact r2.length.symm.trans (F1.len _ _ _ _ hq))
  rw [List.append_nil] at bnd
  have few : us.length ≤ sizeLine := by
    rw [← Paired.length r1, sizeLine_eq]
    omega
  refine wpAny_call (PySem.HandSPX.call_own F.excBase_ValueError (fun Y => PySem.HandSPX.refsVE_contains Y bm hbm) (I1.kIn _ _ hC) (PySem.W.looks_findIn I1.kIn iC) (fun self => PySem.W.bind_fn I1.kIn self tI) few
    (codeAny_mono (F1.run _ X.stack _ _ ⟨Value.ref (hp.objs.size + 1) :: us, []⟩ (Value.ref (hp.objs.size + 1) :: us) _ _ (fun _ _ _ => False) (hr.make C us []) (I2.env0.make C us []) bnd r2 hq) fun r s' hq' => ?_))
  cases r with
  | error er => exact hx pins σ _ _ er s' I2 hq'
  | ok fl =>
    cases fl with
    | next => exact False.elim hq'
    | brk => exact False.elim hq'
    | cont => exact False.elim hq'
    | ret u =>
      obtain ⟨v, H2, os2, bare2, un2, hok2, rv, ev, d, fs, ea, ed, hd1, q2⟩ := hq'
      subst ev
      obtain ⟨h2, g2, d2, t2, os'⟩ := s'
      obtain ⟨t0, G, J, kG, ge, hoe, na⟩ := mk_end0 (d2 := d2) (t2 := t2) I1 up1 kk un2 hok2 os2 bare2 ea ed hd1
      exact ⟨rv, hp.objs.size + 1, _, _, ⟨G, g2, d2, t2, os'⟩, _, .ref C, some d, rfl, J, kG, ge, hoe, ⟨rfl, rfl, fun vs z => by cases z; rfl⟩, rfl, rfl, na, rfl, bare2, raises_own T.exC T.tyC, q2⟩
end
/-! ### except (x1, x2) as n, its exceptions' context None -/
section
variable {X : Cx} {x1 x2 x3 n : Str} {c1 c2 c3 : Value} {i : Nat} {body suite : List Stmt} {b₀ : Stmt} {q1 q2 q3 qt pos' pos : Pos} {kk : Nat} {more : List ExceptHandler} {tb : WX → TS} {ts : Addr → Obj → TS}
def wTwoN (K : PySem.W.Frag) (c1 c2 : Value) (i : Nat) (ts : Addr → Obj → TS) (D : Ends) : WX := fun cls d σ H => PySem.W.exmAny K cls [c1, c2] = some true ∧
  ∀ a oe, H a = none → L2N.Zn cls d oe → ts a oe { nx := fun σ' H' => D.nx (σ'.set i none) H', rt := D.rt, bk := fun σ' H' => D.bk (σ'.set i none) H', ct := fun σ' H' => D.ct (σ'.set i none) H' } (σ.set i (some (.ref a))) H
def wThreeN (K : PySem.W.Frag) (c1 c2 c3 : Value) (ts : TS) (D : Ends) : WX := fun cls d σ H => PySem.W.exmAny K cls [c1, c2, c3] = some true ∧ ts D σ H
theorem ps_try_twoN (hs : X.stack = X.env :: X.outer) (hf : X.env.frame = some X.env.locals) (hN : X.N.Nodup) (hi : X.N[i]? = some n) (hln : X.env.kindOf n = some .local)
    (g1 : Gl X x1) (m1 : X.mg x1 = some c1) (g2 : Gl X x2) (m2 : X.mg x2 = some c2) (d1 : (x1 == ("__debug__" : Str)) = false) (d2 : (x2 == ("__debug__" : Str)) = false)
    (hb : ∀ (W : WX) (pn : List (Addr × Obj)) (xe : Value → Shared → Prop), L2N.Takes (X.tr pn xe) W → PassesOwn (model X.prog X.w) X.A X.env xe → PSs (X.tr pn xe) body (tb W))
    (hsu : ∀ (a : Addr) (oe : Obj) (pn : List (Addr × Obj)), (∃ vs : Array Value, oe.data = .fields vs ∧ vs[2]? = some .none) → PSs (X.suite a ((a, oe) :: pn)) (b₀ :: suite) (ts a oe)) :
    PS X (.Try body (.ExceptHandler (some (.Tuple [.Name x1 q1, .Name x2 q2] kk qt)) (some n) (b₀ :: suite) pos' :: more) [] [] pos) (fun D σ H => tb (wTwoN X.K c1 c2 i ts D) D σ H) := by
  refine ⟨fun pins s σ H D I hw => ?_⟩
  have ok := I.ok
  have frames : X.A.frames = some (X.env :: X.outer) := by rw [ok.frames, hs]
  refine wpAny_Try_except (wpAny_mono ((hb (wTwoN X.K c1 c2 i ts D) (X.pn ++ pins) _ (fun u s' air => ?_) PassesOwn.looking).run [] s σ H D (I.toTry _) hw) (fun fl s1 got => ?_) (fun _ _ z => z))
  · obtain ⟨a, B, sI, pins', σ', H', cls, d, rfl, JT, nb, up, sky, na, os, ag, hx, hgo⟩ := air
    have J : Inv X pins σ' H' sI := JT.ofTry ok
    have sky2 : Sky B (X.env :: X.outer) a (L2N.Zn cls d) X.env.locals s'.heap := by rw [← hs]; exact sky
    refine L2N.Sky.land L2N.Zn.steady frames hf sky2 fun h3 fl3 up3 => ?_
    have J3 : Inv X pins σ' H' { s' with heap := h3 } := J.landed nb fl3.1 (up.trans up3) os ag
    obtain ⟨oe, vs, at3, z3, dat3⟩ := fl3.there
    have away : a ∉ frs (X.env :: X.outer) := fun mem => by
      obtain ⟨_, o', e', nf⟩ := fl3.2.2.1.mem mem
      rw [at3] at e'
      cases e'
      exact nf _ dat3
    have nL : a ≠ X.env.locals := fun z => away (List.mem_filterMap.mpr ⟨X.env, List.mem_cons_self, by rw [hf, z]⟩)
    have nF : a ∉ X.fs := fun mem => by
      obtain ⟨e, he, q⟩ := List.mem_filterMap.mp mem
      exact away (List.mem_filterMap.mpr ⟨e, List.mem_cons_of_mem _ he, q⟩)
    have S3 := J3.suite at3 dat3 na nL nF
    refine wpAny_handleBy_cons (codeAny_handlers_test ?_) (by intro q; cases q)
    refine wpAny_Tuple_spliced (Calls.spliced_cons (ld_glob (X := X.suite a ((a, oe) :: (X.pn ++ pins))) S3 g1 m1 (Calls.spliced_cons (ld_glob (X := X.suite a ((a, oe) :: (X.pn ++ pins))) S3 g2 m2 (Calls.spliced_nil ⟨by show 2 ≤ sizeLine; decide, ?_⟩) d2)) d1))
    have kp : ∀ b o, h3.get? b = some o → (h3.push { cls := .type "tuple", data := .seq [c1, c2].toArray }).get? b = some o := fun b o e => Heap.get?_push_of_some _ e
    have look : PySem.W.Looks (model X.prog X.w) (h3.push { cls := .type "tuple", data := .seq [c1, c2].toArray }) (typeOf (.ref a)) cls := fun A Q E s k q => wpAny_typeOf_ref (k _ _ (kp _ _ at3)) (by rw [z3.1]; exact q)
    have match2 := PySem.W.exm_tup2 (M := model X.prog X.w) (J3.kIn.keeps kp) look (Heap.get?_push_size _ rfl) hx
    refine match2.here (codeAny_handlers_suite_as (HandSPX.lands_againZ (flying_push fl3 kp) fun h4 fl4 up4 => ?_))
    have J4 : Inv X pins σ' H' { s' with heap := h4 } := J.landed nb fl4.1 (((up.trans up3).trans (.of_keeps kp)).trans up4) os ag
    obtain ⟨oe4, vs4, at4, z4, dat4⟩ := fl4.there
    refine store_ok (X := X.suite a ((a, oe4) :: (X.pn ++ pins))) (v := .ref a) (J4.suite at4 dat4 na nL nF) hN hi (.inl hln) rfl (fun s5 S5 => ?_) (.inr hln)
    refine wpAny_mono ((hsu a oe4 (X.pn ++ pins) ⟨_, dat4, z4.2.2 _ dat4⟩).run [] s5 _ H' _ S5 (hgo a oe4 na z4)) (fun fl s6 sp => ?_) (fun _ _ z => False.elim z)
    have close : ∀ {σ6 : L2.St} {H6 : Hp} {R : Shared → Prop}, Inv (X.suite a ((a, oe4) :: (X.pn ++ pins))) [] σ6 H6 s6 → (∀ s7, Inv X pins (σ6.set i none) H6 s7 → R s7) → wpAny (model X.prog X.w) X.A (do bindName X.env n .none; unbindBehindTheSuite X.env n pos') (fun _ s7 => R s7) X.xe s6 :=
      fun S6 hq => gone_ok (S6.unsuite ok) hN hi hln hq
    cases fl with
    | next => obtain ⟨σ6, H6, S6, q6⟩ := sp; exact close S6 fun s7 J7 => ⟨_, _, J7, q6⟩
    | brk => obtain ⟨σ6, H6, S6, q6⟩ := sp; exact close S6 fun s7 J7 => ⟨_, _, J7, q6⟩
    | cont => obtain ⟨σ6, H6, S6, q6⟩ := sp; exact close S6 fun s7 J7 => ⟨_, _, J7, q6⟩
    | ret u => obtain ⟨v6, σ6, H6, S6, r6, q6⟩ := sp; exact close S6 fun s7 J7 => ⟨_, _, _, J7, r6, q6⟩
  · cases fl with
    | next => obtain ⟨σ', H', JT, q⟩ := got; exact wpAny_execs_nil ⟨σ', H', JT.ofTry ok, q⟩
    | brk => obtain ⟨σ', H', JT, q⟩ := got; exact ⟨σ', H', JT.ofTry ok, q⟩
    | cont => obtain ⟨σ', H', JT, q⟩ := got; exact ⟨σ', H', JT.ofTry ok, q⟩
    | ret u => obtain ⟨v, σ', H', JT, r, q⟩ := got; exact ⟨v, σ', H', JT.ofTry ok, r, q⟩
/-- except (x1, x2, x3): no name -/
theorem ps_try_threeN {ts : TS} (hs : X.stack = X.env :: X.outer) (hf : X.env.frame = some X.env.locals)
    (g1 : Gl X x1) (m1 : X.mg x1 = some c1) (g2 : Gl X x2) (m2 : X.mg x2 = some c2) (g3 : Gl X x3) (m3 : X.mg x3 = some c3) (d1 : (x1 == ("__debug__" : Str)) = false) (d2 : (x2 == ("__debug__" : Str)) = false) (d3 : (x3 == ("__debug__" : Str)) = false)
    (hb : ∀ (W : WX) (pn : List (Addr × Obj)) (xe : Value → Shared → Prop), L2N.Takes (X.tr pn xe) W → PassesOwn (model X.prog X.w) X.A X.env xe → PSs (X.tr pn xe) body (tb W))
    (hsu : ∀ (a : Addr) (oe : Obj) (pn : List (Addr × Obj)), PSs (X.suite a ((a, oe) :: pn)) (b₀ :: suite) ts) :
    PS X (.Try body (.ExceptHandler (some (.Tuple [.Name x1 q1, .Name x2 q2, .Name x3 q3] kk qt)) none (b₀ :: suite) pos' :: more) [] [] pos) (fun D σ H => tb (wThreeN X.K c1 c2 c3 ts D) D σ H) := by
  refine ⟨fun pins s σ H D I hw => ?_⟩
  have ok := I.ok
  have frames : X.A.frames = some (X.env :: X.outer) := by rw [ok.frames, hs]
  refine wpAny_Try_except (wpAny_mono ((hb (wThreeN X.K c1 c2 c3 ts D) (X.pn ++ pins) _ (fun u s' air => ?_) PassesOwn.looking).run [] s σ H D (I.toTry _) hw) (fun fl s1 got => ?_) (fun _ _ z => z))
  · obtain ⟨a, B, sI, pins', σ', H', cls, d, rfl, JT, nb, up, sky, na, os, ag, hx, hgo⟩ := air
    have J : Inv X pins σ' H' sI := JT.ofTry ok
    have sky2 : Sky B (X.env :: X.outer) a (L2N.Zn cls d) X.env.locals s'.heap := by rw [← hs]; exact sky
    refine L2N.Sky.land L2N.Zn.steady frames hf sky2 fun h3 fl3 up3 => ?_
    have J3 : Inv X pins σ' H' { s' with heap := h3 } := J.landed nb fl3.1 (up.trans up3) os ag
    obtain ⟨oe, vs, at3, z3, dat3⟩ := fl3.there
    have away : a ∉ frs (X.env :: X.outer) := fun mem => by
      obtain ⟨_, o', e', nf⟩ := fl3.2.2.1.mem mem
      rw [at3] at e'
      cases e'
      exact nf _ dat3
    have nL : a ≠ X.env.locals := fun z => away (List.mem_filterMap.mpr ⟨X.env, List.mem_cons_self, by rw [hf, z]⟩)
    have nF : a ∉ X.fs := fun mem => by
      obtain ⟨e, he, q⟩ := List.mem_filterMap.mp mem
      exact away (List.mem_filterMap.mpr ⟨e, List.mem_cons_of_mem _ he, q⟩)
    have S3 := J3.suite at3 dat3 na nL nF
    refine wpAny_handleBy_cons (codeAny_handlers_test ?_) (by intro q; cases q)
    refine wpAny_Tuple_spliced (Calls.spliced_cons (ld_glob (X := X.suite a ((a, oe) :: (X.pn ++ pins))) S3 g1 m1 (Calls.spliced_cons (ld_glob (X := X.suite a ((a, oe) :: (X.pn ++ pins))) S3 g2 m2 (Calls.spliced_cons (ld_glob (X := X.suite a ((a, oe) :: (X.pn ++ pins))) S3 g3 m3 (Calls.spliced_nil ⟨by show 3 ≤ sizeLine; decide, ?_⟩) d3)) d2)) d1))
    have kp : ∀ b o, h3.get? b = some o → (h3.push { cls := .type "tuple", data := .seq [c1, c2, c3].toArray }).get? b = some o := fun b o e => Heap.get?_push_of_some _ e
    have look : PySem.W.Looks (model X.prog X.w) (h3.push { cls := .type "tuple", data := .seq [c1, c2, c3].toArray }) (typeOf (.ref a)) cls := fun A Q E s k q => wpAny_typeOf_ref (k _ _ (kp _ _ at3)) (by rw [z3.1]; exact q)
    have match3 := PySem.W.exm_tup3 (M := model X.prog X.w) (J3.kIn.keeps kp) look (Heap.get?_push_size _ rfl) hx
    refine match3.here (codeAny_handlers_suite (HandSPX.lands_againZ (flying_push fl3 kp) fun h4 fl4 up4 => ?_))
    have J4 : Inv X pins σ' H' { s' with heap := h4 } := J.landed nb fl4.1 (((up.trans up3).trans (.of_keeps kp)).trans up4) os ag
    obtain ⟨oe4, vs4, at4, z4, dat4⟩ := fl4.there
    refine wpAny_mono ((hsu a oe4 (X.pn ++ pins)).run [] _ _ H' _ (J4.suite at4 dat4 na nL nF) hgo) (fun fl s6 sp => ?_) (fun _ _ z => False.elim z)
    cases fl with
    | next => obtain ⟨σ6, H6, S6, q6⟩ := sp; exact ⟨_, _, S6.unsuite ok, q6⟩
    | brk => obtain ⟨σ6, H6, S6, q6⟩ := sp; exact ⟨_, _, S6.unsuite ok, q6⟩
    | cont => obtain ⟨σ6, H6, S6, q6⟩ := sp; exact ⟨_, _, S6.unsuite ok, q6⟩
    | ret u => obtain ⟨v6, σ6, H6, S6, r6, q6⟩ := sp; exact ⟨_, _, _, S6.unsuite ok, r6, q6⟩
  · cases fl with
    | next => obtain ⟨σ', H', JT, q⟩ := got; exact wpAny_execs_nil ⟨σ', H', JT.ofTry ok, q⟩
    | brk => obtain ⟨σ', H', JT, q⟩ := got; exact ⟨σ', H', JT.ofTry ok, q⟩
    | cont => obtain ⟨σ', H', JT, q⟩ := got; exact ⟨σ', H', JT.ofTry ok, q⟩
    | ret u => obtain ⟨v, σ', H', JT, r, q⟩ := got; exact ⟨v, σ', H', JT.ofTry ok, r, q⟩
end
/-! ### a lambda handed to a def, what it lets out has no context -/
open LamX
def lamN (X : Cx) (A : Around) (outer : List Env) (s : Shared) (H : Hp) (E : XK) (scope : Scope) (f c' : Addr) : Cx :=
  (lamCx X A outer s H E scope f c').tr [] fun e s' => wpAny (model X.prog X.w) (A.deeper (lamEnv X scope s.heap.objs.size f c')) (leaving (lamEnv X scope s.heap.objs.size f c') e) (fun _ s'' => L2N.CX X.prog X.w outer H s E e s'') (fun e' s'' => L2N.CX X.prog X.w outer H s E e' s'') s'
section
variable {X : Cx} {A : Around} {outer : List Env} {s : Shared} {H : Hp} {E : XK} {scope : Scope} {f c' : Addr}
theorem takesL : L2N.Takes (lamN X A outer s H E scope f c') (fun c d _ H' => E c d H') := L2N.takes_of rfl rfl rfl rfl
theorem passLN : Passes (L2N.CX X.prog X.w) (lamN X A outer s H E scope f c') E := L2N.passes_call takesL fun _ _ _ _ h => h
end
section
variable {X : Cx} {pins : List (Addr × Obj)} {σ : L2.St} {H : Hp} {s : Shared}
theorem pe_actN {CXg : CXT} {Eg : XK} {Ng : List Str} {qg : Str} {sg : Scope} {g f c' : Addr} {cdg pm ctv : Value} {params : Arguments} {body : Expr} {scope : Scope} {k i : Nat} {a : Str} {pn : List (Addr × Obj)} {xe : Value → Shared → Prop} {W : WX} {E : XK} {tb : TE} {p1 p2 : Pos}
    (I : Inv X pins σ H s) (L : LamS X.env.scope scope) (hf : s.heap.get? f = some (PySem.W.kla_obj "<lambda>" (X.env.qual ++ "<lambda>") params body scope (cloFrom X.env.cells scope.names []) pm c' ctv)) (hfn : H f = none) (hfr : f ∉ frs X.stack)
    (hbind : bindArgs (PySem.W.kla_fn "<lambda>" (X.env.qual ++ "<lambda>") params body scope (cloFrom X.env.cells scope.names []) pm (.ref c') ctv) ⟨[], []⟩ = pure [])
    (tk : L2N.Takes ((cxOf CXg X.prog X.w X.K X.mg X.base Ng qg sg g cdg X.A X.stack s H Eg).tr pn xe) W) (hr : Room (k + 1) (X.A.deeper (envOfC qg sg s.heap.objs.size g cdg)))
    (hbody : ∀ (A : Around) (outer : List Env) (s : Shared) (H : Hp), Room k (A.deeper (lamEnv X scope s.heap.objs.size f c')) → PE (lamN X A outer s H E scope f c') body tb)
    (hN : Ng[i]? = some a) (hv : Vis sg a) (hd : (a == ("__debug__" : Str)) = false := by decide) (hcd : (a == ("__classdict__" : Str)) = false := by decide) :
    PE ((cxOf CXg X.prog X.w X.K X.mg X.base Ng qg sg g cdg X.A X.stack s H Eg).tr pn xe) (.Call (.Name a p1) [] [] p2)
      (fun σZ HZ Q => (∀ cls d H', E cls d H' → W cls d σZ H') ∧ σZ[i]? = some (some (.ref f)) ∧ HZ c' = some (CodeO c' (X.env.qual ++ "<lambda>")) ∧ tb σ HZ Q) := ⟨fun pinsZ sZ σZ HZ Q IZ h => by
  obtain ⟨hW, hs, hc, ht⟩ := h
  refine wpAny_Call_Name_kw (thn ((pe_var (pos := p1) (i := i) hN hv hd hcd).run pinsZ sZ σZ HZ (fun v H1 => v = .ref f ∧ H1 = HZ) IZ ⟨.ref f, hs, rfl, rfl⟩) fun u s1 ⟨v, H1, I1, r1, ev, eH⟩ => ?_)
  subst ev
  rw [eH] at I1
  obtain rfl : u = Value.ref f := r1
  have of1 := I1.base.keep f _ hf hfn hfr (fun z => nomatch (show f ∈ ([] : List Addr) from z))
  refine PySem.W.callWith_F0 ⟨_, _, _, _, of1⟩ ?_
  have un : Un (frs X.stack) [] H HZ s.heap s1.heap := I1.base
  obtain ⟨⟨oc, vs, t, hoc, hdc, hvc⟩, _, _⟩ := I1.hok c' _ hc
  refine wpAny_call (codeAny_mono (R := CR (L2N.CX X.prog X.w) (envOfC qg sg s.heap.objs.size g cdg :: X.stack) X.prog X.w HZ s1 Q E) (PySem.W.kla_callFunE hr.depth of1 rfl L.co L.gen rfl ⟨c', oc, vs, t, rfl, hoc, hdc, hvc⟩ ?_) fun r s' hq => ?_)
  · rw [show bindArgs (PySem.W.kla_fn "<lambda>" (X.env.qual ++ "<lambda>") params body scope (cloFrom X.env.cells scope.names []) pm (.ref c') ctv) ⟨[] ++ [], []⟩ = pure [] from hbind]
    refine wpAny_pure (wpAny_newFunctionEnv (fun y hy => (L.own y hy).2) (fun y hy => absurd hy (by simp)) (fun h₁ hns hsb => ⟨I1.nolimit.fresh _ hsb, ?_⟩) L.kind)
    show codeAny _ _ (.expr body (lamEnv X scope s1.heap.objs.size f c')) _ _
    have kp : ∀ b o, s1.heap.get? b = some o → h₁.get? b = some o := fun b o z => hsb.extBut b o (Nat.ne_of_lt (Heap.lt_size z)) (Heap.get?_push_of_some _ z)
    have J0 : Inv (lamCx X (X.A.deeper (envOfC qg sg s.heap.objs.size g cdg)) (envOfC qg sg s.heap.objs.size g cdg :: X.stack) s1 HZ E scope f c') [] σ HZ { s1 with heap := h₁, toks := s1.toks + ([] : List (Str × Value)).length } := lam_start2 I L I1.env0 hr.hd un hns kp
    have J := J0.toTry (fun e s' => wpAny (model X.prog X.w) ((X.A.deeper (envOfC qg sg s.heap.objs.size g cdg)).deeper (lamEnv X scope s1.heap.objs.size f c')) (leaving (lamEnv X scope s1.heap.objs.size f c') e) (fun _ s'' => L2N.CX X.prog X.w (envOfC qg sg s.heap.objs.size g cdg :: X.stack) HZ s1 E e s'') (fun e' s'' => L2N.CX X.prog X.w (envOfC qg sg s.heap.objs.size g cdg :: X.stack) HZ s1 E e' s'') s')
    refine PySem.W.kla_codeExpr (wpAny_mono ((hbody _ _ s1 HZ (hr.deeper _)).run [] _ _ HZ Q J ht) (fun v s' hq => ?_) fun e s' hq => hq)
    obtain ⟨w', H', J', rv, q⟩ := hq
    exact ⟨w', H', J'.os, J'.bare, J'.base, J'.hok, rv, q⟩
  · cases r with
    | error e => exact tk e s' (L2N.XE.of_call I1 hW hq)
    | ok fl =>
      cases fl with
      | ret u => exact I1.after hq
      | next => exact False.elim hq
      | brk => exact False.elim hq
      | cont => exact False.elim hq⟩
end
/-- as GivesTo, of exceptions without a context -/
def GivN (X : Cx) (Ng : List Str) (x : Str) (sg : Scope) (g : Addr) (cdg : Value) (bg : List Stmt) (a : Str) (q : Str) (k : Nat) (TO : (XK → Hp → VK → Prop) → Hp → VK → Prop) : Prop :=
  ∀ (f c' : Addr) (s : Shared) (H : Hp) (Q : VK) (tl : XK → Hp → VK → Prop), Room k (X.A.deeper (envOfC x sg s.heap.objs.size g cdg)) →
    (∀ (W : WX) (pn : List (Addr × Obj)) (xe : Value → Shared → Prop) (E : XK) (p1 p2 : Pos), L2N.Takes ((cxOf C8.CX0 X.prog X.w X.K X.mg X.base Ng x sg g cdg X.A X.stack s H C8.E0).tr pn xe) W →
      PE ((cxOf C8.CX0 X.prog X.w X.K X.mg X.base Ng x sg g cdg X.A X.stack s H C8.E0).tr pn xe) (.Call (.Name a p1) [] [] p2) (fun σZ HZ Q => (∀ cls d H', E cls d H' → W cls d σZ H') ∧ σZ[0]? = some (some (.ref f)) ∧ HZ c' = some (CodeO c' q) ∧ tl E HZ Q)) →
    H c' = some (CodeO c' q) → TO tl H Q →
    ∃ t, PSs (cxOf C8.CX0 X.prog X.w X.K X.mg X.base Ng x sg g cdg X.A X.stack s H C8.E0).nox bg t ∧ t { nx := fun _ H' => Q .non H', rt := Q } (L2.start Ng [.ref f]) H
section
variable {X : Cx}
theorem pe_lamN {T : List (Addr × Str)} {TO : (XK → Hp → VK → Prop) → Hp → VK → Prop} {x a : Str} {g c P : Addr} {k : Nat} {pg : Arguments} {bg : List Stmt} {sg : Scope} {dV kV doc pm cdv ct oc : Value} {an od : Option Addr} {osl : Array (Option Value)} {Ng : List Str}
    {params : Arguments} {body : Expr} {scope : Scope} {t : XK → TE} {p lpos pos : Pos} (hg : Gl X x) (hm : X.mg x = some (.ref g)) (hk : PySem.W.keepIn X.K (.ref g) = true)
    (lk : X.K.lookup g = some ⟨oc, od, .func (PySem.W.fnOf x x pg bg sg dV kV doc pm an cdv ct), osl⟩) (hcg : PySem.W.codeIn X.K cdv x = true) (hb : L2.Binds X.K (PySem.W.fnOf x x pg bg sg dV kV doc pm an cdv ct) [a] []) (Sg : FnScope Ng [a] sg) (hNg : Ng[0]? = some a) (hva : Vis sg a)
    (hG : GivN X Ng x sg g cdv bg a (X.env.qual ++ "<lambda>") (k + 1) TO)
    (TB : TabB X.base X.mg c P) (hcode : X.env.code = .ref c) (hmT : (P, X.env.qual ++ "<lambda>") ∈ T) (hu : ∀ p ∈ T, p.1 = P → p.2 = X.env.qual ++ "<lambda>") (hr : Room (k + 2) X.A) (L : LamS X.env.scope scope) (hdef : defaultsOf params X.env = ([], []))
    (hbind : ∀ (q : Str) (cl : List (Str × Addr)) (pm cv ctv : Value), bindArgs (PySem.W.kla_fn "<lambda>" q params body scope cl pm cv ctv) ⟨[], []⟩ = pure [])
    (hbody : ∀ (A : Around) (outer : List Env) (s : Shared) (H : Hp) (E : XK) (f c' : Addr), Room k (A.deeper (lamEnv X scope s.heap.objs.size f c')) → PE (lamN X A outer s H E scope f c') body (t E))
    (hdb : (x == ("__debug__" : Str)) = false := by decide) (hd : (a == ("__debug__" : Str)) = false := by decide) (hcd : (a == ("__classdict__" : Str)) = false := by decide) :
    PE X (.Call (.Name x p) [.Lambda params body scope lpos] [] pos) (tLam T TO t) := ⟨fun pins s σ H Q I h => by
  obtain ⟨hT, h⟩ := h
  refine wpAny_Call_Name_kw (ld_glob I hg hm (PySem.W.callWith_K (h₀ := X.base) I.ok.mod.kin hk ?_ (by rfl) (by rfl)) hdb)
  show wpAny _ _ (spliced ((false, eval (.Lambda params body scope lpos) X.env) :: backTo pos (starEach [] X.env))) _ _ s
  refine Calls.spliced_cons (lam_make2 I TB hcode hmT hu hT hdef (L.has I.ok) fun f c' pm' ctv H1 s' I1 eN T1 hf hfn hfr hco => Calls.spliced_nil ⟨I1.kIn, ?_⟩)
  refine wpAny_call (codeAny_mono (R := CR C8.CX0 X.stack X.prog X.w H1 s' Q C8.E0) (run_ofS (N := Ng) (ps := [a]) (us := [.ref f]) (vs := [.ref f]) lk hcg Sg hr I1.env0 (hb s' [.ref f] I1.kIn rfl) (.cons rfl .nil) rfl fun hr' => ?_) fun r s2 hq => ?_)
  · obtain ⟨t', ht', hq'⟩ := hG f c' s' H1 Q (fun E H' Q' => t E σ H' Q') hr' (fun W pn xe E p1 p2 tk => pe_actN (i := 0) I1 L hf hfn hfr (hbind _ _ _ _ _) tk hr' (fun A outer s H hr2 => hbody A outer s H E f c' hr2) hNg hva hd hcd) hco (h H1 eN T1)
    exact ⟨t', ht'.nox, hq'⟩
  · cases r with
    | error e => exact (show False from hq).elim
    | ok fl =>
      cases fl with
      | ret u => exact I1.after hq
      | next => exact False.elim hq
      | brk => exact False.elim hq
      | cont => exact False.elim hq⟩
end
end TT
namespace TT
open PySem PySem.Spec PyProof.Rows L2 HotX L2H LamX
/-! ### a def called in an except suite, its promise told of the handled exception -/
structure FnE (P : Program) (w : World) (K : PySem.W.Frag) (mg : Str → Option Value) (base : Heap) (CX : CXT) (k : Nat) (f : Addr) (fd : FuncData) (ps : List Str) (sp : Addr × Obj → Sp) : Prop where
  len : ∀ p vs H Q E, sp p vs H Q E → vs.length = ps.length
  run : ∀ (A : Around) (outer : List Env) (s : Shared) (H : Hp) (args : Args) (us : List Value) (vs : List V) (Q : VK) (E : XK) (p : Addr × Obj), RoomH k A → Hot1 A p → PinOk outer H s p → Env0 P w K mg base A outer s H → BindsTo s fd args (ps.zip us) → Vals vs us → sp p vs H Q E →
    codeAny (model P w) A (.call (.ref f) args) (CR CX outer P w H s Q E) s
section
variable {P : Program} {w : World} {K : PySem.W.Frag} {mg : Str → Option Value} {base : Heap} {CX : CXT}
theorem fnE_of {k : Nat} {x qual : Str} {st : Stmt} {f : Addr} {fd : FuncData} {N ps : List Str} {sp : Addr × Obj → Sp} (Fn : Fun K x qual st f fd) (S : FnScope N ps (defScope st)) (len : ∀ p vs H Q E, sp p vs H Q E → vs.length = ps.length)
    (hbody : ∀ (cdv : Value) (A : Around) (outer : List Env) (s : Shared) (H : Hp) (vs : List V) (Q : VK) (E : XK) (p : Addr × Obj), Hot1 A p → RoomH k (A.deeper (envOfC qual (defScope st) s.heap.objs.size f cdv)) → sp p vs H Q E →
      ∃ t, PSs (cxH CX P w K mg base N qual (defScope st) f cdv A outer s H E p) (defBody st) t ∧ t { nx := fun _ H' => Q .non H', rt := Q } (L2.start N vs) H) : FnE P w K mg base CX (k + 1) f fd ps sp := by
  obtain ⟨oc, od, kV, doc, pm, an, cdv, ct, osl, rfl, lk, hcd⟩ := Fn.ex
  refine ⟨len, fun A outer s H args us vs Q E p hr hot hpin e0 hb r hsp => ?_⟩
  have hl := len _ _ _ _ _ hsp
  have old : ∀ b o, base.get? b = some o → s.heap.get? b = some o := fun b o e => (e0.bs b o e).1
  have KX : K.In s.heap := e0.mod.kin.keeps old
  have kinds : ∀ y ∈ ps.zip us, (defScope st).names.lookup y.1 = some .local ∨ ((defScope st).names.lookup y.1 = some .cell ∧ ((cellsFrom (s.heap.objs.size + 1) (defScope st).names []).lookup y.1).isSome = true) := by
    rintro ⟨n, v⟩ hy
    exact (S.par n (List.of_mem_zip hy).1).imp id fun q => ⟨q, PySem.W.cellsFrom_some _ _ _ (.inl q)⟩
  refine codeAny_call_function hr.depth (KX _ _ lk) rfl S.co S.gen rfl (PySem.W.codeRec_of KX hcd) (hb _ _ _ _ (wpAny_newFunctionEnv_cells S.kind kinds fun env he s1 x => ?_))
  subst he
  refine ⟨(e0.mod.nolimit.keeps old).keeps x.toInCall.keep, codeAny_func ?_⟩
  obtain ⟨t, ht, hq⟩ := hbody cdv A outer s H vs Q E p hot (hr.deeper _) hsp
  refine wpAny_mono (ht.run [] s1 (L2.start N vs) H _ (inv_startH S hpin e0 hl r x) hq) (fun fl s' hs => ?_) fun e s' hs => hs
  cases fl with
  | ret u => obtain ⟨v, σ', H', J, rv, q⟩ := hs; exact ⟨v, H', J.os, J.bare, J.base, J.hok, rv, q⟩
  | next => obtain ⟨σ', H', J, q⟩ := hs; exact ⟨.non, H', J.os, J.bare, J.base, J.hok, rfl, q⟩
  | brk => obtain ⟨_, _, _, q⟩ := hs; exact False.elim q
  | cont => obtain ⟨_, _, _, q⟩ := hs; exact False.elim q
end
/-- a def of the module that is called so -/
structure CalE (P : Program) (w : World) (K : PySem.W.Frag) (mg : Str → Option Value) (base : Heap) (x : Str) (ps : List Str) (k : Nat) (sp : Addr × Obj → Sp) : Prop where
  ex : ∃ (f : Addr) (fd : FuncData), FnE P w K mg base CX0 k f fd ps sp ∧ mg x = some (.ref f) ∧ PySem.W.keepIn K (.ref f) = true ∧ Binds K fd ps []
section
variable {X : Cx} {k : Nat} {ps : List Str} {sp : Addr × Obj → Sp} {x : Str} {q pos : Pos} {e : Expr} {es : List Expr} {t : TA} {p : Addr × Obj}
def tCallE (sp : Addr × Obj → Sp) (p : Addr × Obj) (t : TA) : TE := fun σ H Q => t σ H fun vs H1 => sp p vs H1 Q E0
theorem pe_calE (c : CalE X.prog X.w X.K X.mg X.base x ps k sp) (hot : Hot1 X.A p) (hp : p ∈ X.pn) (hr : RoomH k X.A) (hg : Gl X x) (ha : PA X (e :: es) t)
    (hdb : (x == ("__debug__" : Str)) = false := by decide) (he : starEach (e :: es) X.env = (false, eval e X.env) :: starEach es X.env := by rfl) (hpl : (backTo pos (starEach es X.env)).any (·.1) = false := by rfl) :
    PE X (.Call (.Name x q) (e :: es) [] pos) (tCallE sp p t) := ⟨fun pins s σ H Q I h => by
  obtain ⟨f, fd, Fn, hm, hk, hb⟩ := c.ex
  refine wpAny_Call_Name_kw (ld_glob I hg hm (PySem.W.callWith_K (h₀ := X.base) I.ok.mod.kin hk (thn (ha.run pos pins s σ H _ I h) fun us s1 ⟨vs, H1, I1, r, z⟩ => ⟨I1.kIn, ?_⟩) he hpl) hdb)
  have hl : us.length = ps.length := by rw [← r.length]; exact Fn.len _ _ _ _ _ z
  have b := hb s1 us I1.kIn (by rw [List.append_nil]; exact hl)
  rw [List.append_nil] at b
  have P1 := I1.pin p (List.mem_append_left _ hp)
  have hpin : PinOk X.stack H1 s1 p := ⟨P1.1, P1.2.1, fun hm => (List.mem_cons.mp (I1.stkSub p.1 hm)).elim P1.2.2.1 P1.2.2.2.1, P1.2.2.2.2⟩
  show wpAny (model X.prog X.w) X.A (call (.ref f) us) _ _ _
  refine wpAny_call (codeAny_mono (Fn.run X.A X.stack s1 H1 ⟨us, []⟩ us vs Q E0 p hr hot hpin I1.env0 b r z) fun r s' hq => ?_)
  cases r with
  | error e => exact False.elim hq
  | ok fl =>
    cases fl with
    | ret u => exact I1.after hq
    | next => exact False.elim hq
    | brk => exact False.elim hq
    | cont => exact False.elim hq⟩
/-- e.f of the handled exception -/
def tXp (K : PySem.W.Frag) (p : Addr × Obj) (f : Str) (te : TE) : TE := fun σ H Q => te σ H fun x H1 => x = .ref p.1 ∧ ∃ (C dd : Addr) (fs : List (Str × V)) (v : V), p.2.cls = .ref C ∧ XfC K C ∧ PySem.W.findIn K (.ref C) f = some none ∧ p.2.dict = some dd ∧ H1 dd = some (.xd fs) ∧ fs.lookup f = some v ∧ Q v H1
theorem pe_xp {te : TE} {n : Str} (hot : Hot1 X.A p) (hp : p ∈ X.pn) (he : PE X e te) (hb : attributeBase e n X.env (eval e X.env) = eval e X.env := by rfl) : PE X (.Attribute e n pos) (tXp X.K p n te) := ⟨fun pins s σ H Q I h => by
  refine attr_of hb (thn (he.run pins s σ H _ I h) fun u s1 ⟨x, H1, I1, rx, ex, C, dd, fs, v, ec, T, hno, ed, ea, l, q⟩ => ?_)
  subst ex
  obtain rfl : u = Value.ref p.1 := rx
  have ha := (I1.pin p (List.mem_append_left _ hp)).1
  obtain ⟨_, vs, hd, _⟩ := hot
  obtain ⟨mA, hns, hr⟩ : ObjOk X.prog X.w H1 s1.heap dd (.xd fs) := I1.hok dd _ ea
  obtain ⟨od, ho, hl⟩ := lookIn_ns hns
  obtain ⟨u, hu, ru⟩ := RelO.some_of (v := v) (o := mA n) (by rw [← l]; exact hr n)
  have J : PySem.W.InstAt s1.heap p.1 p.2 C (some od) := ⟨ha, ec, by unfold PySem.W.notCls; rw [hd] <;> rfl, by rw [ed]; exact ho⟩
  exact HandSPX.exc_get I1.kIn J T.ga T.gg T.exC (PySem.W.findObj_own T.hdC hno rfl (by rw [hl, hu])) (handed_of ru) ⟨v, H1, I1.tok _, ru, q⟩⟩
end
end TT
namespace TT
open PySem PySem.Spec PyProof.Rows L2
/-! ### enumerate of a tuple -/
theorem meets_enum1 {v : Value} {o : Obj} {H : Heap → Prop} (B : Begins v o H) : Meets (Builtin.«enumerate.__new__» ⟨[.type "enumerate", v], []⟩) (fun _ R s => H s.heap ∧
      R (.ok (.ret (.ref (s.heap.push o).objs.size))) { s with heap := (s.heap.push o).push { cls := .type "enumerate", data := .fields #[.none, .bool false, .ref s.heap.objs.size, rawInt 0, .none, .none] } }) :=
  .of_wp fun prog w A R s h => by
    obtain ⟨hp, g, d, tk, os⟩ := s
    obtain ⟨h1, h⟩ := h
    have hsub := sub_enumerate
    have q1 : ∀ {A' : Around} {E : Value → Shared → Prop} {Q : Value → Shared → Prop}, Q (.ref hp.objs.size) ⟨hp.push o, g, d, tk, os⟩ → wpAny (model prog w) A' (pyIter v) Q E ⟨hp, g, d, tk, os⟩ :=
      fun q => B.iter prog w _ _ ⟨hp, g, d, tk, os⟩ _ h1 q
    wp_walk using q1
    all_goals (try exact ⟨_, rfl, h⟩)
    all_goals (refine wpAny_stack_any fun st => wpAny_pure ?_; split)
    · rename_i c _ _ _ _ _
      cases (c == Value.type "enumerate") <;> (wp_walk using q1; exact ⟨_, rfl, h⟩)
    · wp_walk using q1
      exact ⟨_, rfl, h⟩
/-- the tuple at a, each item behind its place in a new pair -/
def ItuT (K : PySem.W.Frag) (a : Addr) : It :=
  ⟨fun i H => ∃ (xs : List V) (x : V), SqT K H a xs ∧ xs[i]? = some x, fun i H v H' => ∃ T x, v = .ref T ∧ H T = none ∧ H' = upd H T (.tup [.int (i : Nat), x]) ∧ ∀ xs, SqT K H a xs → xs[i]? = some x, fun i H => ∃ xs : List V, SqT K H a xs ∧ xs.length ≤ i⟩
theorem turn_enumT {P : Program} {w : World} {K : PySem.W.Frag} {elts : List Expr} {kk : Nat} {tpos : Pos} (a e it : Addr) :
    Turn P w K (.Tuple elts kk tpos) (ItuT K a) [e, it] e (fun i h => (∃ old, IsEnum h e it ((i : Nat) : Int) old) ∧ h.IsTupleIter it a i ∧ e ≠ it) where
  mem := by simp
  obj := fun i h st b hb => by
    obtain ⟨⟨old, he⟩, ⟨o, ho, hc, hd⟩, _⟩ := st
    rcases (show b = e ∨ b = it by simpa using hb) with rfl | rfl
    · exact ⟨_, he, fun v q => nomatch q⟩
    · exact ⟨o, ho, fun v q => by rw [hd] at q; cases q⟩
  keep := fun i h h' st k => by
    obtain ⟨⟨old, he⟩, ⟨o, ho, r⟩, hne⟩ := st
    exact ⟨⟨old, k e (by simp) _ he⟩, ⟨o, k it (by simp) o ho, r⟩, hne⟩
  item := by
    intro X hP hw hK hc i pins s σ H E I hf st hg
    subst hP hw hK
    obtain ⟨⟨old, he⟩, hit, hne⟩ := st
    obtain ⟨xs, x, hq, hx⟩ := hg
    obtain ⟨its, rv, tp, hz⟩ := I.tuple hq
    obtain ⟨u, hu, ru⟩ := rv.get hx
    obtain ⟨oi, gi, ci, di⟩ := id hit
    obtain ⟨ot, gt, ct, nt, dt⟩ := id tp
    have nai : a ≠ it := fun z => by
      rw [z, gi] at gt
      cases gt
      rw [ci] at ct
      exact absurd ct (by decide)
    have nea : e ≠ a := fun z => by
      rw [← z, he] at gt
      cases gt
      exact absurd (show Value.type "enumerate" = Value.type "tuple" from ct) (by decide)
    have hel : e < s.heap.objs.size := Heap.lt_size he
    have hil : it < s.heap.objs.size := Heap.lt_size gi
    have lt : i < its.toArray.size := by
      have := (List.getElem?_eq_some_iff.mp hu).1
      simpa using this
    refine wpAny_pyNext_enum_itemD (D := Draws.tuple (A := X.A.in1) (show X.A.in1.handled = none from I.ok.hd hc) it a nai its.toArray) he ⟨hit, tp⟩ lt hne (by simp [hne, nea]) fun y h' tk hy ho st' hT hsz hk => ?_
    obtain rfl : u = y := by
      have hy' : its.toArray[i]? = some y := hy
      have hu' : its.toArray[i]? = some u := by simpa using hu
      exact Option.some.inj (hu'.symm.trans hy')
    refine ⟨_, rfl, wpAny_letOwnedTupleGo_enum (s := { s with heap := h', toks := tk + 1 }) ho fun h'' he' sb => ?_⟩
    have hT2 : h''.get? s.heap.objs.size = some { cls := .type "tuple", data := .seq #[.int i tk, u] } := (sb.2 _ (Nat.ne_of_gt hel)).trans hT
    have new : ObjOk X.prog X.w (upd H s.heap.objs.size (.tup [.int (i : Nat), x])) h'' s.heap.objs.size (.tup [.int (i : Nat), x]) :=
      ⟨by show 2 ≤ sizeLine; decide, [.int i tk, u], .cons ⟨_, rfl⟩ (.cons ru .nil), ⟨_, hT2, rfl, _, rfl⟩⟩
    have I1 : Inv X pins σ (upd H s.heap.objs.size (.tup [.int (i : Nat), x])) { s with heap := h'', toks := tk + 1 } :=
      I.turnedNew (ch := [e, it]) (fun b ob hb q => (sb.2 b (fun z => hb (by simp [z]))).trans (hk b ob (fun z => hb (by simp [z])) (fun z => hb (by simp [z])) q)) hf (Nat.le_refl _) new
    refine ⟨.ref s.heap.objs.size, _, I1, rfl, ⟨_, x, rfl, I.hok.fresh (Nat.le_refl _), rfl, fun ys hy => by rw [I.tuple_inj hy hq]; exact hx⟩, ⟨⟨u, ?_⟩, ?_, hne⟩, fun b hb => ?_⟩
    · rw [show ((i + 1 : Nat) : Int) = (i : Int) + 1 by omega]
      exact he'
    · obtain ⟨o2, g2, r2⟩ := st'.1
      exact ⟨o2, (sb.2 it (Ne.symm hne)).trans g2, r2⟩
    · have hb' : b < s.heap.objs.size := by rcases (show b = e ∨ b = it by simpa using hb) with rfl | rfl <;> assumption
      rw [upd_ne (Nat.ne_of_lt hb')]
      exact (hf b hb).1
  done := by
    intro X hP hw hK hc i pins s σ H E I hf st hg
    subst hP hw hK
    obtain ⟨⟨old, he⟩, hit, hne⟩ := st
    obtain ⟨xs, hq, hx⟩ := hg
    obtain ⟨its, rv, tp, hz⟩ := I.tuple hq
    obtain ⟨f0, f1, f2, f3, f4, f5⟩ := hf it (by simp)
    have hl := rv.length
    obtain ⟨oi, gi, ci, di⟩ := id hit
    obtain ⟨ot, gt, ct, nt, dt⟩ := id tp
    have hT : s.TypeIs (.ref e) "enumerate" := ⟨_, he, rfl⟩
    unfold pyNext
    refine wpAny_bind (wpAny_attempt (wpAny_callSpecial?_slot (name := Str.ofString "__next__") hT F.slot_enumerate_next (wpAny_call_entry F.slot_enumerate_next hT F.entry_enumerate_next ?_ (F.args_enumerate_next_1 _))))
    show wpAny (model X.prog X.w) _ (field (.ref e) 2 >>= _) _ _ _
    refine wpAny_bind (wpAny_field he rfl (x := .ref it) rfl (wpAny_bind (wpAny_nextOf_tuple_end (I.ok.hd hc) hit tp (by simp; omega) fun h' x he' hx' => ?_)))
    obtain ⟨o, ho, hc2⟩ := hx'
    refine wpAny_bind (wpAny_isInstance (T := "StopIteration") (b := true) ⟨o, ho, hc2⟩ isSubtype_stop (wpAny_pure ⟨rfl, ?_⟩))
    exact I.turned (t' := s.toks) (fun b o hb q => he' b o hb q) f0 f1 f3 f4 f5
  self := fun A i s Q E st h => by
    obtain ⟨⟨_, he⟩, _⟩ := st
    exact wpAny_pyIter_enum he h
def iEnumT (K : PySem.W.Frag) (ta : TA) : TI := fun σ H R => ta σ H fun vs H1 => ∃ a xs, vs = [.ref a] ∧ SqT K H1 a xs ∧ R (ItuT K a) H1
theorem pi_enumT {X : Cx} {e : Expr} {ta : TA} {p pos tpos : Pos} {elts : List Expr} {kk : Nat} (hg : Gl X "enumerate") (hm : X.mg "enumerate" = none) (ha : PA X [e] ta) (hs : starEach [e] X.env = [(false, eval e X.env)] := by rfl) :
    PI X (.Tuple elts kk tpos) (.Call (.Name "enumerate" p) [e] [] pos) (iEnumT X.K ta) := ⟨fun pins s σ H R I h => by
  refine Call_ (ld_blt I hg hm boot_enumerate (PyProof.Rows.callWith_type1 (thn (ha.run pos pins s σ H _ I h) fun us s1 ⟨vs, H1, I1, r1, a, xs, ex, hq, q⟩ => ?_) hs rfl))
  subst ex
  cases r1 with
  | cons r rr =>
    cases rr
    cases r
    obtain ⟨its, rv, tp, hz⟩ := I1.tuple hq
    refine callType_new F.called_enumerate (by decide) (F.typeCall_enumerate_1 _) (F.newCall_enumerate_1 _) (fun obj => F.args_object_init_2 obj _) F.entry_enumerate_new (meets_enum1 (begins_tuple a its.toArray)) ⟨tp, ?_⟩
    have hsz : (s1.heap.push { cls := .type "tuple_iterator", data := .fields #[.ref a, .int 0 0] }).objs.size = s1.heap.objs.size + 1 := Heap.size_push ..
    show _ ∧ _
    rw [hsz]
    have he : IsEnum ((s1.heap.push { cls := .type "tuple_iterator", data := .fields #[.ref a, .int 0 0] }).push { cls := .type "enumerate", data := .fields #[.none, .bool false, .ref s1.heap.objs.size, rawInt 0, .none, .none] }) (s1.heap.objs.size + 1) s1.heap.objs.size 0 .none := by
      have z := Heap.get?_push_size (s1.heap.push { cls := .type "tuple_iterator", data := .fields #[.ref a, .int 0 0] }) (o := { cls := .type "enumerate", data := .fields #[.none, .bool false, .ref s1.heap.objs.size, rawInt 0, .none, .none] }) rfl
      rw [hsz] at z
      exact z
    refine ⟨⟨_, he, rfl⟩, wpAny_pyIter_enum he ?_⟩
    have kp : ∀ b o, s1.heap.get? b = some o → ((s1.heap.push { cls := .type "tuple_iterator", data := .fields #[.ref a, .int 0 0] }).push { cls := .type "enumerate", data := .fields #[.none, .bool false, .ref s1.heap.objs.size, rawInt 0, .none, .none] }).get? b = some o := fun b o x => Heap.get?_push_of_some _ (Heap.get?_push_of_some _ x)
    refine ⟨s1.heap.objs.size + 1, [s1.heap.objs.size + 1, s1.heap.objs.size], _, _, H1, rfl, I1.kept (t' := s1.toks) kp, turn_enumT a (s1.heap.objs.size + 1) s1.heap.objs.size, ⟨⟨.none, he⟩, ⟨_, Heap.get?_push_of_some _ (Heap.get?_push_size _ rfl), rfl, rfl⟩, Nat.succ_ne_self _⟩, fun b hb => ?_, q⟩
    have up1 : s1.heap.objs.size ≤ b := by
      rcases (show b = s1.heap.objs.size + 1 ∨ b = s1.heap.objs.size by simpa using hb) with rfl | rfl
      · exact Nat.le_add_right _ _
      · exact Nat.le_refl _
    exact I1.fpOk up1 (I1.hok.fresh up1)⟩
/-! ### an own error is made by its name -/
structure MkE (P : Program) (w : World) (K : PySem.W.Frag) (mg : Str → Option Value) (base : Heap) (x : Str) (ps : List Str) (k : Nat) (C : Addr) (sp : Sp) : Prop where
  T : OexC K C
  ex : ∃ (fI : Addr) (fd : FuncData), PySem.W.findIn K (.ref C) "__init__" = some (some (.ref fI)) ∧ PySem.W.typeIn K (.ref fI) = some (.type "function") ∧ FnOk P w K mg base CX0 k fI fd ps sp ∧ Binds K fd ps [] ∧ mg x = some (.ref C)
theorem MkE.mono {P : Program} {w : World} {K : PySem.W.Frag} {mg : Str → Option Value} {base : Heap} {x : Str} {ps : List Str} {j k : Nat} {C : Addr} {sp : Sp} (c : MkE P w K mg base x ps j C sp) (h : j ≤ k) : MkE P w K mg base x ps k C sp := by
  obtain ⟨T, fI, fd, a, b, o, r⟩ := c
  exact ⟨T, fI, fd, a, b, o.mono h, r⟩
section
variable {X : Cx} {x : Str} {ps : List Str} {k : Nat} {C : Addr} {sp : Sp} {e : Expr} {es : List Expr} {ta : TA} {p pos rp : Pos} {W : WX}
theorem ps_raiseE (hc : X.calm = true) (tk : L2N.Takes X W) (c : MkE X.prog X.w X.K X.mg X.base x ps k C sp) (hr : Room (k + 1) X.A) (hg : Gl X x) (ha : PA X (e :: es) ta)
    (hdb : (x == ("__debug__" : Str)) = false := by decide) (he : starEach (e :: es) X.env = (false, eval e X.env) :: starEach es X.env := by rfl) (hpl : (backTo pos (starEach es X.env)).any (·.1) = false := by rfl) :
    PS X (.Raise (some (.Call (.Name x p) (e :: es) [] pos)) none rp) (fun _ σ H => tMkO C sp [] ta σ H fun cls d H' => W cls d σ H') := by
  obtain ⟨T, fI, fd, a, b, o, r, m⟩ := c
  exact L2N.ps_raise hc tk (pmk_oexN T a b o hr r pass0 hg m ha hdb he hpl)
end
end TT
namespace TT
open PySem PySem.Spec PyProof.Rows L2 LamX
/-! ### rows that are no shapes: the first key that cannot stand -/
/-- u stands before a greater key -/
def Pat (l : List Int) (u : Int) : Prop := ∃ j v, l[j]? = some v ∧ u ∈ l.take j ∧ u < v
def BadAt (l : List Int) (x : Int) : Prop := x ∈ l ∨ ∃ u, Pat l u ∧ x < u
def MisAt (ks : List Int) : Option Nat → Prop
  | none => ∀ k x, ks[k]? = some x → ¬ BadAt (ks.take k) x
  | some k => (∃ x, ks[k]? = some x ∧ BadAt (ks.take k) x) ∧ ∀ j x, j < k → ks[j]? = some x → ¬ BadAt (ks.take j) x
theorem MisAt.uniq {ks : List Int} : ∀ {r r' : Option Nat}, MisAt ks r → MisAt ks r' → r = r'
  | none, none, _, _ => rfl
  | none, some k, h, ⟨⟨x, a, b⟩, _⟩ => absurd b (h k x a)
  | some k, none, ⟨⟨x, a, b⟩, _⟩, h => absurd b (h k x a)
  | some k, some k', ⟨⟨x, a, b⟩, h⟩, ⟨⟨x', a', b'⟩, h'⟩ => by
    rcases Nat.lt_trichotomy k k' with l | l | l
    · exact absurd b (h' k x l a)
    · rw [l]
    · exact absurd b' (h k' x' l a')
theorem Pat.app {l : List Int} {u x : Int} (h : Pat l u) : Pat (l ++ [x]) u := by
  obtain ⟨j, v, a, b, c⟩ := h
  have lt := (List.getElem?_eq_some_iff.mp a).1
  exact ⟨j, v, by rw [List.getElem?_append_left lt]; exact a, by rw [List.take_append_of_le_length (Nat.le_of_lt lt)]; exact b, c⟩
theorem Pat.new {l : List Int} {u x : Int} (h : u ∈ l) (c : u < x) : Pat (l ++ [x]) u := ⟨l.length, x, by simp, by simpa using h, c⟩
theorem Pat.cases {l : List Int} {u x : Int} (h : Pat (l ++ [x]) u) : Pat l u ∨ (u ∈ l ∧ u < x) := by
  obtain ⟨j, v, a, b, c⟩ := h
  rcases Nat.lt_or_ge j l.length with lt | ge
  · rw [List.getElem?_append_left lt] at a
    rw [List.take_append_of_le_length (Nat.le_of_lt lt)] at b
    exact .inl ⟨j, v, a, b, c⟩
  · have lt2 := (List.getElem?_eq_some_iff.mp a).1
    simp at lt2
    obtain rfl : j = l.length := by omega
    simp at a b
    subst a
    exact .inr ⟨b, c⟩
/-- the keys that wait, and the greatest that is left behind -/
structure Wt (l : List Int) (wt : List Int) (low : Option Int) : Prop where
  all : ∀ y ∈ l, y ∈ wt ∨ ∃ z, low = some z ∧ y ≤ z
  dec : wt.Pairwise (· > ·)
  lo : ∀ z, low = some z → ∀ y ∈ wt, z < y
  sub : ∀ y ∈ wt, y ∈ l
  pat : ∀ z, low = some z → Pat l z
  six : ∀ u, Pat l u → ∃ z, low = some z ∧ u ≤ z
  len : wt.length ≤ l.length
theorem Wt.nil : Wt [] [] none := ⟨fun _ h => (by simp at h), .nil, fun _ h => (by cases h), fun _ h => (by simp at h), fun _ h => (by cases h), fun u ⟨j, v, a, _⟩ => by simp at a, Nat.le_refl _⟩
/-- while x lets keys go -/
structure Wx (l : List Int) (x : Int) (wt : List Int) (low : Option Int) : Prop where
  all : ∀ y ∈ l, y ∈ wt ∨ ∃ z, low = some z ∧ y ≤ z
  dec : wt.Pairwise (· > ·)
  lo : ∀ z, low = some z → ∀ y ∈ wt, z < y
  sub : ∀ y ∈ wt, y ∈ l
  pat : ∀ z, low = some z → Pat l z ∨ (z ∈ l ∧ z ≤ x)
  six : ∀ u, Pat l u → ∃ z, low = some z ∧ u ≤ z
  len : wt.length ≤ l.length
theorem Wt.x {l wt : List Int} {low : Option Int} (h : Wt l wt low) (x : Int) : Wx l x wt low := ⟨h.all, h.dec, h.lo, h.sub, fun z e => .inl (h.pat z e), h.six, h.len⟩
theorem Wx.pop {l w : List Int} {x t : Int} {low : Option Int} (h : Wx l x (w ++ [t]) low) (c : t ≤ x) : Wx l x w (some t) := by
  have d := List.pairwise_append.mp h.dec
  refine ⟨fun y hy => ?_, d.1, fun z e y hy => ?_, fun y hy => h.sub y (List.mem_append_left _ hy), fun z e => ?_, fun u p => ?_, by have := h.len; rw [List.length_append] at this; omega⟩
  · rcases h.all y hy with m | ⟨z, e, le⟩
    · rcases List.mem_append.mp m with m | m
      · exact .inl m
      · rw [List.mem_singleton.mp m]; exact .inr ⟨t, rfl, Int.le_refl _⟩
    · have := h.lo z e t (by simp)
      exact .inr ⟨t, rfl, by omega⟩
  · cases e
    exact d.2.2 y hy _ (by simp)
  · cases e
    exact .inr ⟨h.sub _ (by simp), c⟩
  · obtain ⟨z, e, le⟩ := h.six u p
    have := h.lo z e t (by simp)
    exact ⟨t, rfl, by omega⟩
theorem Wx.over {l wt : List Int} {x : Int} {low : Option Int} (h : Wx l x wt low) (e : ∀ t, wt.getLast? = some t → x < t) : ∀ y ∈ wt, x < y := by
  intro y hy
  rcases List.eq_nil_or_concat wt with rfl | ⟨w, t, rfl⟩
  · simp at hy
  · rw [List.concat_eq_append] at *
    have xt := e t (by simp)
    rcases List.mem_append.mp hy with m | m
    · have := (List.pairwise_append.mp h.dec).2.2 y m t (by simp)
      omega
    · rw [List.mem_singleton.mp m]; exact xt
theorem Wx.bad {l wt : List Int} {x z : Int} {low : Option Int} (h : Wx l x wt low) (e : low = some z) (c : x ≤ z) : BadAt l x := by
  rcases h.pat z e with p | ⟨m, le⟩
  · by_cases q : x = z
    · obtain ⟨j, v, a, b, _⟩ := p
      exact .inl (by rw [q]; exact List.mem_of_mem_take b)
    · exact .inr ⟨z, p, by omega⟩
  · obtain rfl : x = z := by omega
    exact .inl m
theorem Wx.good {l wt : List Int} {x : Int} {low : Option Int} (h : Wx l x wt low) (o : ∀ y ∈ wt, x < y) (c : ∀ z, low = some z → z < x) : ¬ BadAt l x ∧ Wt (l ++ [x]) (wt ++ [x]) low := by
  refine ⟨?_, fun y hy => ?_, List.pairwise_append.mpr ⟨h.dec, .cons (by simp) .nil, fun y hy z hz => ?_⟩, fun z e y hy => ?_, fun y hy => ?_, fun z e => ?_, fun u p => ?_, by have := h.len; simp; omega⟩
  · rintro (m | ⟨u, p, lt⟩)
    · rcases h.all x m with m | ⟨z, e, le⟩
      · have := o x m; omega
      · have := c z e; omega
    · obtain ⟨z, e, le⟩ := h.six u p
      have := c z e
      omega
  · rcases List.mem_append.mp hy with m | m
    · exact (h.all y m).imp (List.mem_append_left _) id
    · exact .inl (List.mem_append_right _ m)
  · rw [List.mem_singleton.mp hz]; exact o y hy
  · rcases List.mem_append.mp hy with m | m
    · exact h.lo z e y m
    · rw [List.mem_singleton.mp m]; exact c z e
  · rcases List.mem_append.mp hy with m | m
    · exact List.mem_append_left _ (h.sub y m)
    · exact List.mem_append_right _ m
  · rcases h.pat z e with p | ⟨m, _⟩
    · exact p.app
    · exact .new m (c z e)
  · rcases p.cases with p | ⟨m, lt⟩
    · exact h.six u p
    · rcases h.all u m with m | r
      · have := o u m; omega
      · exact r
/-- the walk over enumerate of a tuple -/
theorem for_enumT {K : PySem.W.Frag} {a : Addr} {xs : List V} {g : TG} {tb : TS} {D : Ends} {σ : L2.St} {H : Hp} (Pv : Nat → L2.St → Hp → Prop) (h0 : Pv 0 σ H) (hl : ∀ i σ H, i ≤ xs.length → Pv i σ H → SqT K H a xs)
    (hs : ∀ i x T σ H, xs[i]? = some x → Pv i σ H → H T = none → g (.ref T) σ (upd H T (.tup [.int (i : Nat), x])) fun σ2 H2 => tb { D with nx := Pv (i + 1), ct := Pv (i + 1), bk := D.nx } σ2 H2) (hd : ∀ σ H, Pv xs.length σ H → D.nx σ H) :
    ∃ W : Nat → Nat → L2.St → Hp → Prop, (∃ m, W 0 m σ H) ∧ ∀ i m σ H, W i m σ H →
      ((ItuT K a).stop i H ∧ D.nx σ H) ∨ ((ItuT K a).go i H ∧ ∃ N : L2.St → Hp → Prop, (∀ σ' H', N σ' H' → ∃ m', m' < m ∧ W (i + 1) m' σ' H') ∧ ∀ x H', (ItuT K a).yld i H x H' → g x σ H' fun σ2 H2 => tb { D with nx := N, ct := N, bk := D.nx } σ2 H2) := by
  refine ⟨fun i m σ H => m = xs.length - i ∧ i ≤ xs.length ∧ Pv i σ H, ⟨xs.length, by simp, Nat.zero_le _, h0⟩, ?_⟩
  rintro i m σ H ⟨rfl, hi, p⟩
  have q := hl i σ H hi p
  rcases Nat.lt_or_ge i xs.length with lt | ge
  · refine .inr ⟨⟨xs, xs[i], q, by simp [lt]⟩, Pv (i + 1), fun σ' H' p' => ⟨xs.length - (i + 1), by omega, rfl, lt, p'⟩, ?_⟩
    rintro x H' ⟨T, y, rfl, nT, rfl, hy⟩
    exact hs i y T σ H (hy xs q) p nT
  · obtain rfl : i = xs.length := by omega
    exact .inl ⟨⟨xs, q, Nat.le_refl _⟩, hd σ H p⟩
theorem str_app (a b : Str) : (a ++ b).length = a.length + b.length := by
  show (a.cps ++ b.cps).size = a.cps.size + b.cps.size
  simp
theorem int_len {i : Int} (h : i.natAbs.log2 < 1920) : (Str.ofString (toString i)).length ≤ 2000 := by
  have e := int_text_length_le (k := 1920) (by decide) h
  rw [PySem.ofString_length]
  omega
theorem fits_app {a b : Str} {m n : Nat} (ha : a.length ≤ m) (hb : b.length ≤ n) (h : m + n ≤ 100000) : (a ++ b).length ≤ sizeLine := sz (by rw [str_app]; omega)
theorem le_app {a b : Str} {m n : Nat} (ha : a.length ≤ m) (hb : b.length ≤ n) : (a ++ b).length ≤ m + n := by rw [str_app]; omega
/-! ### keys -/
def okK (n : Int) : Bool := decide (-1000000000 ≤ n ∧ n ≤ 1000000000)
/-! ### what an own error bears -/
def fieldOf (tag : Str) : Str :=
  if inV (.str tag) [.str "BadKey", .str "DuplicateKey", .str "AtRoot", .str "Overlap", .str "KeysDiffer", .str "BadWeight", .str "NoKey"] = true then "key" else
  if inV (.str tag) [.str "BadShape", .str "BadStep", .str "BadCost", .str "Contradiction", .str "ParseError"] = true then "pos" else
  if inV (.str tag) [.str "TooManyKeys", .str "TooLong", .str "TooManyTrees", .str "TooManyWatches"] = true then "limit" else
  if inV (.str tag) [.str "BadName", .str "NameTaken", .str "SameName", .str "NoTree"] = true then "name" else
  if tag = "BadSize" then "size" else if tag = "BadCommand" then "word" else "number"
/-- an error of the class at C with this dict, its tag and its field -/
structure Bears (K : PySem.W.Frag) (H : Hp) (C dd : Addr) (tag : Str) (v : V) : Prop where
  xf : XfC K C
  ft : PySem.W.findIn K (.ref C) "tag" = some none
  ff : PySem.W.findIn K (.ref C) (fieldOf tag) = some none
  ex : ∃ fs : List (Str × V), H dd = some (.xd fs) ∧ fs.lookup ("tag" : Str) = some (V.str tag) ∧ fs.lookup (fieldOf tag) = some v
theorem Bears.same {K : PySem.W.Frag} {H H' : Hp} {C dd : Addr} {tag : Str} {v : V} (b : Bears K H C dd tag v) (e : Same H H') : Bears K H' C dd tag v := by
  obtain ⟨a, b, c, fs, d, r⟩ := b
  exact ⟨a, b, c, fs, e _ _ d, r⟩
def spField (K : PySem.W.Frag) (p : Addr × Obj) : Sp := fun vs H Q _ => ∃ (C dd : Addr) (tag : Str) (v : V), vs = [.ref p.1] ∧ p.2.cls = .ref C ∧ p.2.dict = some dd ∧ Bears K H C dd tag v ∧ ∀ H', Same H H' → Q v H'
/-- an error that _law_outcome tells -/
def Xo (K : PySem.W.Frag) (cT cM : Value) (Q : VK) : XK := fun cls d H' => PySem.W.exmAny K cls [cT, cM] = some true ∧ ∃ (C dd : Addr) (tag : Str) (v : V), cls = .ref C ∧ d = some dd ∧ Bears K H' C dd tag v ∧ ∀ p H'', Same H' H'' → H' p = none → H'' p = some (.tup [.non, .str tag, v]) → Q (.ref p) H''
/-- _law_outcome: a call's answer, or the error's tag and field -/
def tOut (K : PySem.W.Frag) (cT cM : Value) (tl : XK → Hp → VK → Prop) (H : Hp) (Q : VK) : Prop := ∀ (H1 : Hp) (E : XK) (R : VK), Same H H1 → (∀ cls d H', Xo K cT cM Q cls d H' → E cls d H') →
  (∀ v H', (∀ p H'', Same H' H'' → H' p = none → H'' p = some (.tup [v, .str "", .non]) → Q (.ref p) H'') → R v H') → tl E H1 R
/-- an __init__ that calls its base's and stores one field -/
def spTreeI (K : PySem.W.Frag) : Sp := fun vs H Q _ => ∃ (a C : Addr) (tag told : Str), vs = [.ref a, .str tag, .str told] ∧ OexC K C ∧ H a = some (exo a C none) ∧ PySem.W.findIn K (.ref C) "tag" = some none ∧
  ∀ dx, H dx = none → dx ≠ a → Q .non (upd (upd H dx (exd dx [("tag", .str tag)])) a (exo a C (some dx)))
def spOwnI (K : PySem.W.Frag) (tag fn : Str) : Sp := fun vs H Q _ => ∃ (a C : Addr) (n : Int), vs = [.ref a, .int n] ∧ n.natAbs.log2 < 1920 ∧ OexC K C ∧ H a = some (exo a C none) ∧ PySem.W.findIn K (.ref C) "tag" = some none ∧ PySem.W.findIn K (.ref C) fn = some none ∧
  ∀ dx, H dx = none → dx ≠ a → Q .non (upd (upd (upd H dx (exd dx [("tag", .str tag)])) a (exo a C (some dx))) dx (exd dx [(fn, .int n), ("tag", .str tag)]))
/-- raise of such an error, read -/
theorem rd_raise {K : PySem.W.Frag} {tag fn : Str} {C : Addr} {n : Int} {H : Hp} {Q : XK} {σ : L2.St} {te : TE} (T : OexC K C) (hn : n.natAbs.log2 < 1920) (ft : PySem.W.findIn K (.ref C) "tag" = some none) (ff : PySem.W.findIn K (.ref C) fn = some none)
    (ht : ∀ R : VK, R (.int n) H → te σ H R) (q : ∀ d Hf, Same H Hf → Hf d = some (.xd [(fn, .int n), ("tag", .str tag)]) → Q (.ref C) (some d) Hf) : tMkO C (spOwnI K tag fn) [] (tCons te tNil) σ H Q := by
  refine ht _ ⟨by show 1 ≤ 1000; decide, fun a na => ⟨a, C, n, rfl, hn, T, upd_same, ft, ff, fun dx ndx nda => ⟨rfl, dx, _, ?_, upd_same, ?_, ?_⟩⟩⟩
  · rw [upd_ne (Ne.symm nda), upd_same]
  · rwa [upd_ne nda] at ndx
  · refine q dx _ (fun b o e => ?_) upd_same
    have nb : b ≠ a := ne_of_none e na
    rw [upd_ne nda] at ndx
    have nd : b ≠ dx := ne_of_none e ndx
    rw [upd_ne nd, del_ne nb, upd_ne nd, upd_ne nb, upd_ne nd, upd_ne nb]
    exact e
/-! ### the program's checks -/
def spIsKey : Sp := fun vs H Q _ => ∃ n : Int, vs = [.int n] ∧ Q (.bl (okK n)) H
def spChk (K : PySem.W.Frag) (C1 C2 : Addr) : Sp := fun vs H Q E => ∃ (a : Addr) (ks : List Int), vs = [.ref a] ∧ SqT K H a (ks.map V.int) ∧ ks.length ≤ 1000 ∧ (∀ n ∈ ks, n.natAbs.log2 < 1920) ∧
  (40 < ks.length → ∀ d Hf, Same H Hf → Hf d = some (.xd [("limit", .int 40), ("tag", .str "TooManyKeys")]) → E (.ref C1) (some d) Hf) ∧
  (ks.length ≤ 40 → ∀ n, ks.find? (fun n => !okK n) = some n → ∀ d Hf, Same H Hf → Hf d = some (.xd [("key", .int n), ("tag", .str "BadKey")]) → E (.ref C2) (some d) Hf) ∧
  (ks.length ≤ 40 → ks.find? (fun n => !okK n) = none → Q .non H)
def nV : Option Nat → V
  | none => .non
  | some k => .int (k : Int)
def spFirst (K : PySem.W.Frag) : Sp := fun vs H Q _ => ∃ (a : Addr) (ks : List Int), vs = [.ref a] ∧ SqT K H a (ks.map V.int) ∧ ks.length ≤ 1000 ∧ ∀ r H', Same H H' → MisAt ks r → Q (nV r) H'
def spCS (K : PySem.W.Frag) (C1 C2 C3 : Addr) : Sp := fun vs H Q E => ∃ (a : Addr) (ks : List Int), vs = [.ref a] ∧ SqT K H a (ks.map V.int) ∧ ks.length ≤ 1000 ∧ (∀ n ∈ ks, n.natAbs.log2 < 1920) ∧
  (40 < ks.length → ∀ d Hf, Same H Hf → Hf d = some (.xd [("limit", .int 40), ("tag", .str "TooManyKeys")]) → E (.ref C1) (some d) Hf) ∧
  (ks.length ≤ 40 → ∀ n, ks.find? (fun n => !okK n) = some n → ∀ d Hf, Same H Hf → Hf d = some (.xd [("key", .int n), ("tag", .str "BadKey")]) → E (.ref C2) (some d) Hf) ∧
  (ks.length ≤ 40 → ks.find? (fun n => !okK n) = none → ∀ r, MisAt ks (some r) → ∀ d Hf, Same H Hf → Hf d = some (.xd [("pos", .int (r : Int)), ("tag", .str "BadShape")]) → E (.ref C3) (some d) Hf) ∧
  (ks.length ≤ 40 → ks.find? (fun n => !okK n) = none → MisAt ks none → ∀ H', Same H H' → Q .non H')
/-- is it a shape -/
def isSh (ks : List Int) : Prop := ks.length ≤ 40 ∧ ks.find? (fun n => !okK n) = none ∧ MisAt ks none
def spIsSh (K : PySem.W.Frag) : Sp := fun vs H Q _ => ∃ (a : Addr) (ks : List Int), vs = [.ref a] ∧ SqT K H a (ks.map V.int) ∧ ks.length ≤ 1000 ∧ (∀ n ∈ ks, n.natAbs.log2 < 1920) ∧ (isSh ks → ∀ H', Same H H' → Q (.bl true) H') ∧ (¬ isSh ks → ∀ H', Same H H' → Q (.bl false) H')
def spMis (K : PySem.W.Frag) : Sp := fun vs H Q _ => ∃ (a : Addr) (ks : List Int), vs = [.ref a] ∧ SqL K H a (ks.map V.int) ∧ ks.length ≤ 1000 ∧ ∀ r H', Same H H' → MisAt ks r → Q (nV r) H'
/-- small ints and the two great ones of the law -/
def Kn (ks : List Int) : Prop := ∀ n ∈ ks, n.natAbs.log2 < 1920
def spChg (K : PySem.W.Frag) : Sp := fun vs H Q _ => ∃ (d a : Addr) (ks : List Int) (c : Addr) (ns : List Int), vs = [.ref d, .ref a] ∧ SqL K H a (ks.map V.int) ∧ ks.length ≤ 1000 ∧ Kn ks ∧ a ≠ d ∧ Drw c ns H d ∧
  ∀ ks' p H', ks'.length ≤ ks.length + 1 → Kn ks' → Ext d H H' → Drw c ns H' d → H p = none → H' p = some (.lst (ks'.map V.int)) → Q (.ref p) H'
/-! ### the law -/
theorem log_small {n : Int} (h : n.natAbs < 2 ^ 100) : n.natAbs.log2 < 1920 := by
  by_cases z : n.natAbs = 0
  · rw [z]; decide
  · exact (Nat.log2_lt z).mpr (Nat.lt_trans h (Nat.pow_lt_pow_right (by decide) (by decide)))
/-- what stands through a turn -/
structure Row (K : PySem.W.Frag) (c d : Addr) (ms : List Int) (T : List (Addr × Str)) (H : Hp) (rp : Addr) (ks : List Int) : Prop where
  dr : Drw c ms H d
  tb : Tabs T H
  at_ : H rp = some (.lst (ks.map V.int))
  ne : rp ≠ d
  kn : Kn ks
  len : ks.length ≤ 43
theorem Row.same {K : PySem.W.Frag} {c d : Addr} {ms : List Int} {T : List (Addr × Str)} {H H' : Hp} {rp : Addr} {ks : List Int} (h : Row K c d ms T H rp ks) (e : Same H H') : Row K c d ms T H' rp ks := ⟨h.dr.same e, h.tb.ext e, e _ _ h.at_, h.ne, h.kn, h.len⟩
def d0 : Option Nat → Str × V
  | some k => ("BadShape", .int (k : Int))
  | none => ("", .non)
def d1 (ks : List Int) (r : Option Nat) : Str × V := match ks.find? (fun n => !okK n) with
  | some n => ("BadKey", .int n)
  | none => d0 r
def dueOf (ks : List Int) (r : Option Nat) : Str × V := if 40 < ks.length then ("TooManyKeys", .int 40) else d1 ks r

def spLawT (K : PySem.W.Frag) (PT : Addr) : Sp := fun vs H Q _ => ∃ (a : Addr) (ns : List Int), vs = [.ref a] ∧ SqL K H a (ns.map V.int) ∧ ns.length ≤ 63 ∧ H PT = some (.tbl #[]) ∧ ∀ H', Q (.bl true) H'
theorem tabs_ext {T : List (Addr × Str)} {H H' : Hp} {c d : Addr} {ns : List Int} (t : Tabs T H) (e : Ext d H H') (hD : Drw c ns H d) : Tabs T H' := fun p hp => by
  obtain ⟨ps, h1, h2, h3⟩ := t p hp
  obtain ⟨i, b, z, hd, _⟩ := hD
  refine ⟨ps, e _ _ (fun q => by rw [q, hd] at h1; cases h1) h1, h2, fun pos cv hc => ?_⟩
  obtain ⟨c0, e1, e2⟩ := h3 pos cv hc
  refine ⟨c0, e1, e _ _ (fun q => ?_) e2⟩
  rw [q, hd] at e2
  unfold CodeO at e2
  cases e2
theorem drw_extN {c d : Addr} {ns : List Int} {H H' : Hp} (h : Drw c ns H d) (e : ExtN H H') : Drw c ns H' d := by
  obtain ⟨i, b, z, h1, h2, r⟩ := h
  exact ⟨i, b, z, e _ _ h1 (fun ps q => by cases q), e _ _ h2 (fun ps q => by cases q), r⟩
theorem Row.extN {K : PySem.W.Frag} {c d : Addr} {ms : List Int} {T : List (Addr × Str)} {H H' : Hp} {rp : Addr} {ks : List Int} (h : Row K c d ms T H rp ks) (e : ExtN H H') (t : Tabs T H') : Row K c d ms T H' rp ks := ⟨drw_extN h.dr e, t, e _ _ h.at_ (fun ps q => by cases q), h.ne, h.kn, h.len⟩
theorem bears_mk {K : PySem.W.Frag} {H : Hp} {C dd : Addr} {tag fn : Str} {v : V} (x : XfC K C) (f1 : PySem.W.findIn K (.ref C) "tag" = some none) (f2 : PySem.W.findIn K (.ref C) fn = some none) (h : H dd = some (.xd [(fn, v), ("tag", .str tag)])) (e : fieldOf tag = fn) (n : (("tag" : Str) == fn) = false) : Bears K H C dd tag v := by
  refine ⟨x, f1, by rw [e]; exact f2, _, h, ?_, by rw [e]; simp [List.lookup]⟩
  simp [List.lookup, n]
theorem rd_out {K : PySem.W.Frag} {c d rp du C1 C2 C3 : Addr} {cT cM : Value} {ms ks : List Int} {T : List (Addr × Str)} {H : Hp} {r : Option Nat} {σ : L2.St} {i : Nat} {Q : VK} (hσ : σ[i]? = some (some (.ref rp))) (R : Row K c d ms T H rp ks) (hm : MisAt ks r) (hdu : H du = some (.tup [.str (dueOf ks r).1, (dueOf ks r).2]))
    (n1 : PySem.W.exmAny K (.ref C1) [cT, cM] = some true) (n2 : PySem.W.exmAny K (.ref C2) [cT, cM] = some true) (n3 : PySem.W.exmAny K (.ref C3) [cT, cM] = some true)
    (X1 : XfC K C1) (X2 : XfC K C2) (X3 : XfC K C3) (f1 : PySem.W.findIn K (.ref C1) "tag" = some none) (f2 : PySem.W.findIn K (.ref C1) "limit" = some none) (f3 : PySem.W.findIn K (.ref C2) "tag" = some none) (f4 : PySem.W.findIn K (.ref C2) "key" = some none) (f5 : PySem.W.findIn K (.ref C3) "tag" = some none) (f6 : PySem.W.findIn K (.ref C3) "pos" = some none)
    (fin : ∀ p Hx, Row K c d ms T Hx rp ks → Hx du = some (.tup [.str (dueOf ks r).1, (dueOf ks r).2]) → Hx p = some (.tup [.non, .str (dueOf ks r).1, (dueOf ks r).2]) → Q (.ref p) Hx) :
    tLam T (tOut K cT cM) (fun E => tCall (spCS K C1 C2 C3) [] E (tCons (tCB (fun xs H Q => ∃ p ys, xs = [V.ref p] ∧ ((SqL K H p ys ∧ ∀ (l : Addr), H l = none → Q (V.ref l) (upd H l (HO.tup ys))) ∨ SqT K H p ys ∧ Q (V.ref p) H)) (tCons (tVar i) tNil)) tNil)) σ H Q := by
  refine ⟨R.tb, fun H1 eN hT1 H2 E' R' e2 hE hR => ?_⟩
  have R2 := (R.extN eN hT1).same e2
  have hd2 : H2 du = some (.tup [.str (dueOf ks r).1, (dueOf ks r).2]) := e2 _ _ (eN _ _ hdu (fun ps q => by cases q))
  refine ⟨.ref rp, hσ, rp, _, rfl, .inl ⟨SqL.of R2.at_, fun l nl => ⟨l, ks, rfl, SqT.of upd_same, by have := R.len; omega, R.kn, ?_, ?_, ?_, ?_⟩⟩⟩
  · intro h40 dd Hf e hd
    have ed : dueOf ks r = (("TooManyKeys" : Str), (.int 40 : V)) := by unfold dueOf; rw [if_pos h40]
    refine hE _ _ _ ⟨n1, C1, dd, "TooManyKeys", .int 40, rfl, rfl, bears_mk X1 f1 f2 hd (by decide +kernel) (by decide +kernel), fun p Hx ex np hp => ?_⟩
    have es := (same_new nl).trans (e.trans ex)
    exact fin p Hx (R2.same es) (es _ _ hd2) (by rw [ed]; exact hp)
  · intro h40 n hf dd Hf e hd
    have ed : dueOf ks r = (("BadKey" : Str), (.int n : V)) := by unfold dueOf d1; rw [if_neg (by omega), hf]
    refine hE _ _ _ ⟨n2, C2, dd, "BadKey", .int n, rfl, rfl, bears_mk X2 f3 f4 hd (by decide +kernel) (by decide +kernel), fun p Hx ex np hp => ?_⟩
    have es := (same_new nl).trans (e.trans ex)
    exact fin p Hx (R2.same es) (es _ _ hd2) (by rw [ed]; exact hp)
  · intro h40 hf k hk dd Hf e hd
    cases hm.uniq hk
    have ed : dueOf ks (some k) = (("BadShape" : Str), (.int (k : Int) : V)) := by unfold dueOf d1; rw [if_neg (by omega), hf]; rfl
    refine hE _ _ _ ⟨n3, C3, dd, "BadShape", .int (k : Int), rfl, rfl, bears_mk X3 f5 f6 hd (by decide +kernel) (by decide +kernel), fun p Hx ex np hp => ?_⟩
    have es := (same_new nl).trans (e.trans ex)
    exact fin p Hx (R2.same es) (es _ _ hd2) (by rw [ed]; exact hp)
  · intro h40 hf hk H' e
    cases hm.uniq hk
    have ed : dueOf ks none = (("" : Str), (.non : V)) := by unfold dueOf d1; rw [if_neg (by omega), hf]; rfl
    refine hR _ _ fun p Hx ex np hp => ?_
    have es := (same_new nl).trans (e.trans ex)
    exact fin p Hx (R2.same es) (es _ _ hd2) (by rw [ed]; exact hp)
theorem due_sh {ks : List Int} {r : Option Nat} (hm : MisAt ks r) : (isSh ks ∧ dueOf ks r = (("" : Str), (.non : V))) ∨ (¬ isSh ks ∧ ∃ tg n, dueOf ks r = (tg, .int n) ∧ PyData.strOk tg = true) := by
  unfold dueOf isSh
  by_cases h40 : 40 < ks.length
  · exact .inr ⟨fun z => (by omega), _, _, by rw [if_pos h40], by decide +kernel⟩
  rw [if_neg h40]
  unfold d1
  cases hf : ks.find? (fun n => !okK n) with
  | some n => exact .inr ⟨fun z => (by cases z.2.1), _, _, rfl, by decide +kernel⟩
  | none =>
    cases r with
    | some k => exact .inr ⟨fun z => (by cases z.2.2.uniq hm), _, _, rfl, by decide +kernel⟩
    | none => exact .inl ⟨⟨by omega, rfl, hm⟩, rfl⟩
theorem shaped2 {tg : Str} {y : PyData} (hs : PyData.strOk tg = true) (h : y = .none ∨ ∃ n, y = .int n) : SeqAt.shaped (.tuple [.str tg, y]) = true := by
  rcases h with rfl | ⟨n, rfl⟩ <;> simp [SeqAt.shaped, PyData.canLay0, PyData.canLayAll0, PyData.depth, PyData.depthAll, hs]
theorem rd_due {K : PySem.W.Frag} {H : Hp} {du p : Addr} {ks : List Int} {r : Option Nat} {Q : VK} (hm : MisAt ks r) (h1 : H du = some (.tup [.str (dueOf ks r).1, (dueOf ks r).2])) (h2 : H p = some (.tup [.str "", .non])) (q : ∀ b : Bool, (b = true ∧ isSh ks) ∨ (b = false ∧ ¬ isSh ks) → Q (.bl b) H) : rEqD K (.ref du) (.ref p) H Q := by
  rcases due_sh hm with ⟨sh, e⟩ | ⟨sh, tg, n, e, hs⟩
  · rw [e] at h1
    exact ⟨_, _, .tup (SqT.of h1) (.cons (.str _) (.cons .non .nil)), .tup (SqT.of h2) (.cons (.str _) (.cons .non .nil)), shaped2 (by decide +kernel) (.inl rfl), shaped2 (by decide +kernel) (.inl rfl), q _ (.inl ⟨by decide +kernel, sh⟩)⟩
  · rw [e] at h1
    refine ⟨_, _, .tup (SqT.of h1) (.cons (.str _) (.cons (.int _) .nil)), .tup (SqT.of h2) (.cons (.str _) (.cons .non .nil)), shaped2 hs (.inr ⟨n, rfl⟩), shaped2 (by decide +kernel) (.inl rfl), q _ (.inr ⟨?_, sh⟩)⟩
    show (PyData.eqv (.str tg) (.str "") && (PyData.eqv (.int n) .none && PyData.eqvAll [] [])) = false
    rw [show PyData.eqv (.int n) .none = false from rfl]
    simp
theorem CalE.mono {P : Program} {w : World} {K : PySem.W.Frag} {mg : Str → Option Value} {base : Heap} {x : Str} {ps : List Str} {j k : Nat} {sp : Addr × Obj → Sp} (c : CalE P w K mg base x ps j sp) (h : j ≤ k) : CalE P w K mg base x ps k sp := by
  obtain ⟨f, fd, o, r⟩ := c.ex
  exact ⟨f, fd, ⟨o.len, fun A outer s H args us vs Q E p hr => o.run A outer s H args us vs Q E p (hr.mono h)⟩, r⟩
/-! ### what the written part says, by a test -/
def oexB (K : PySem.W.Frag) (C : Addr) : Bool := match K.lookup C with
  | some ⟨.type "type", _, .cls cd, sl⟩ => (match cd.mro, sl.toList with
    | .ref C' :: bm, [_, _, _, _, some (.builtin n), _] => C' == C && n == "ValueError.__new__" && !cd.hasDel && cd.hasDict && PySem.HandSPX.refsVE bm
    | _, _ => false)
  | _ => false
theorem oexB_cls {K : PySem.W.Frag} {C : Addr} (q : oexB K C = true) : ∃ nm q N bs bm sn sub ab col dd k0 k1 k2 k3 k5, K.lookup C = some (excClassObj nm q C N bs bm true sn sub ab col dd k0 k1 k2 k3 k5 "ValueError.__new__") ∧ PySem.HandSPX.refsVE bm = true := by
  unfold oexB at q
  split at q
  · rename_i dd cd sl ho
    split at q
    · rename_i C' bm k0 k1 k2 k3 n k5 hm hs
      simp only [Bool.and_eq_true, beq_iff_eq, Bool.not_eq_true'] at q
      obtain ⟨⟨⟨⟨rfl, rfl⟩, hdel⟩, hdct⟩, hv⟩ := q
      obtain ⟨nm, bs, mro, ns, qn, hd, sn, sub, ab, col, del⟩ := cd
      dsimp only at hm hdel hdct
      subst hm hdel hdct
      obtain ⟨l⟩ := sl
      simp only at hs
      subst hs
      exact ⟨nm, qn, ns, bs, bm, sn, sub, ab, col, dd, k0, k1, k2, k3, k5, ho, hv⟩
    · cases q
  · cases q
end TT
/-! own exceptions over LookupError, made by an __init__ of their own -/
namespace TT
open PySem PySem.Spec PyProof.Rows L2
abbrev leTail : List Value := [.type "LookupError", .type "Exception", .type "BaseException", .type "object"]
/-- own classes, then the classes above LookupError -/
inductive OverL : List Value → Prop
  | base : OverL leTail
  | own (c : Addr) (r : List Value) : OverL r → OverL (.ref c :: r)
def overB : List Value → Bool
  | .ref _ :: r => overB r
  | l => l == leTail
theorem overB_ok : ∀ l : List Value, overB l = true → OverL l := by
  intro l
  induction l with
  | nil => intro e; exact absurd e (by decide)
  | cons a r ih =>
    intro e
    unfold overB at e
    split at e
    · next h => obtain ⟨rfl, rfl⟩ := List.cons.inj h; exact .own _ _ (ih e)
    · rw [beq_iff_eq.mp e]; exact .base
theorem OverL.pass {l : List Value} (o : OverL l) (self : Value) : PySem.refuseLoop self "__setattr__" l = pure () := by
  induction o with
  | base => exact PySem.F.store_LookupError.passes self
  | own c r _ ih => rw [PySem.refuseLoop_ref]; exact ih
theorem OverL.has {l : List Value} (o : OverL l) (Y : String) : l.contains (.type Y) = leTail.contains (.type Y) := by
  induction o with
  | base => rfl
  | own c r _ ih => rw [List.contains_cons, ih]; rfl
theorem OverL.some {l : List Value} (o : OverL l) : l.isEmpty = false := by cases o <;> rfl

/-! ### self.name = v on such an exception -/
section
open Builtin Builtin.ObjectAttr
variable {prog : Program} {w : World} {A : Around} {E : Value → Shared → Prop} {R : Result → Shared → Prop} {hp : Heap} {gs : Array GenState} {dr : Drawn} {tt : Nat} {os : OsState} {K : PySem.W.Frag} {nm : Str} {tk : Tok} {v : Value} {x C : Addr} {cd : ClassData}
theorem osaL {ox : Obj} {od : Option Obj} (X : K.In hp) (I : PySem.W.InstAt hp x ox C od) (hcd : PySem.W.clsIn K C = some cd) (o : OverL cd.mro) (ha : PySem.W.findIn K (.ref C) nm = some none)
    (q : wpAny (model prog w) A.in1 (storeInOwnDict (.ref x) (.ref C) (.str nm tk) nm v false) (fun fin s' => match fin with
      | .done f => R (.ok f) s'
      | .again c' => c'.quiet = true ∧ codeAny (model prog w) A c' R s') (fun e s' => R (.error e) s') ⟨hp, gs, dr, tt, os⟩) : codeAny (model prog w) A (.call (.builtin "object.__setattr__") ⟨[.ref x, .str nm tk, v], []⟩) R ⟨hp, gs, dr, tt, os⟩ := by
  have st := PySem.F.store_object
  have inO : PySem.W.Looks (model prog w) hp (isInstance (.ref x) (.type "object")) true := I.type.andThen (PySem.W.looks_mroIn X (by unfold PySem.W.mroIn; rw [hcd, Option.bind_some, if_neg (by rw [o.some]; decide), o.has]; decide +kernel))
  refine codeAny_call_builtin st.slot.plain st.entry (@PySem.W.check_slot (model prog w) _ _ ⟨hp, gs, dr, tt, os⟩ "object.__setattr__" "object" "__setattr__" (.ref x) [.str nm tk, v] [] _ st.kind st.split inO (st.args (.ref x) (.str nm tk) v) ?_)
  have l1 : PySem.W.Looks (model prog w) hp (mroOf (.ref C)) cd.mro := (PySem.W.looks_clsIn X hcd).andThen .now
  have l2 : PySem.W.Looks (model prog w) hp (storeTaker? none) none := .now
  rw [PySem.W.osa_eq, PySem.refuse_eq]; refine wpAny_bind (wpAny_bind (I.type.at (wpAny_bind (l1.at ?_)))); rw [o.pass]
  exact wpAny_pure (wpAny_bind (I.type.at (wpAny_bind ((PySem.W.looks_findIn X ha).at (wpAny_bind (l2.at q))))))
theorem osaL_new {fv : Array Value} (X : K.In hp) (hx : hp.get? x = some { cls := .ref C, data := .fields fv }) (hcd : PySem.W.clsIn K C = some cd) (o : OverL cd.mro) (hh : cd.hasDict = true) (ha : PySem.W.findIn K (.ref C) nm = some none)
    (q : ∀ h' tk' dx, (∀ b o, b ≠ x → hp.get? b = some o → h'.get? b = some o) → hp.objs.size ≤ dx → dx ≠ x → h'.get? x = some { cls := .ref C, dict := some dx, data := .fields fv } → h'.Ns1 dx (fun y => if y = nm then some v else none) → R (.ok (.ret .none)) ⟨h', gs, dr, tk', os⟩) :
    codeAny (model prog w) A (.call (.builtin "object.__setattr__") ⟨[.ref x, .str nm tk, v], []⟩) R ⟨hp, gs, dr, tt, os⟩ := by
  have nx : x ≠ hp.objs.size := Nat.ne_of_lt (Heap.lt_size hx)
  refine osaL X (od := none) ⟨hx, rfl, rfl, trivial⟩ hcd o ha ?_
  have lc : PySem.W.Looks (model prog w) hp (classData C) cd := PySem.W.looks_clsIn X hcd
  obtain ⟨c1, c2, c3, c4, c5, c6, c7, c8, c9, c10, c11⟩ := cd; dsimp only at hh; subst hh; unfold storeInOwnDict ownDictForStores
  repeat (first | with_reducible refine PySem.HandSPX.store_in_new ?_ ?_ | with_reducible refine wpAny_loadPart_at hx ?_ | with_reducible refine lc.at ?_ | wp_step)
  · exact ⟨_, #[], _, (Heap.get?_update_ne _ _ _ _ nx.symm).trans (Heap.get?_push_at rfl rfl), rfl, fun e he => absurd he (by simp), fun _ => rfl⟩
  · intro h' tk' n1 sb
    exact q h' tk' hp.objs.size (fun b o hb ho => (sb.2 b (Nat.ne_of_lt (Heap.lt_size ho))).trans ((Heap.get?_update_ne _ _ _ _ hb).trans (Heap.get?_push_of_some _ ho))) (Nat.le_refl _) nx.symm ((sb.2 x nx).trans (Heap.get?_update_self _ (Heap.get?_push_of_some _ hx) rfl)) n1
theorem osaL_old {fv : Array Value} {dx : Addr} {m0 : Str → Option Value} {nl : List Str} (X : K.In hp) (hx : hp.get? x = some { cls := .ref C, dict := some dx, data := .fields fv }) (hns : hp.Ns1 dx m0) (hw : Within m0 nl) (hz : nl.length ≤ 1000) (hcd : PySem.W.clsIn K C = some cd) (o : OverL cd.mro) (hh : cd.hasDict = true)
    (ha : PySem.W.findIn K (.ref C) nm = some none) (q : ∀ h' tk', (∀ b o, b ≠ dx → hp.get? b = some o → h'.get? b = some o) → h'.Ns1 dx (fun y => if y = nm then some v else m0 y) → R (.ok (.ret .none)) ⟨h', gs, dr, tk', os⟩) :
    codeAny (model prog w) A (.call (.builtin "object.__setattr__") ⟨[.ref x, .str nm tk, v], []⟩) R ⟨hp, gs, dr, tt, os⟩ := by
  obtain ⟨oD, _, _, at1, _, _⟩ := hns.count hw
  refine osaL X (od := some oD) ⟨hx, rfl, rfl, at1⟩ hcd o ha ?_
  have lc : PySem.W.Looks (model prog w) hp (classData C) cd := PySem.W.looks_clsIn X hcd
  obtain ⟨c1, c2, c3, c4, c5, c6, c7, c8, c9, c10, c11⟩ := cd; dsimp only at hh; subst hh; unfold storeInOwnDict ownDictForStores
  repeat (first | with_reducible refine PySem.OEX.store_in_old hns hw hz ?_ | with_reducible refine wpAny_loadPart_at hx ?_ | with_reducible refine lc.at ?_ | wp_step)
  exact fun h' tk' n1 sb => q h' tk' (fun b o hb ho => (sb.2 b hb).trans ho) n1
end
/-- what the written part says of such a class -/
structure OexL (K : PySem.W.Frag) (C : Addr) : Prop where
  cls : ∃ nm q N bs bm sn sub ab col dd k0 k1 k2 k3 k5, K.lookup C = some (excClassObj nm q C N bs bm true sn sub ab col dd k0 k1 k2 k3 k5 "LookupError.__new__") ∧ OverL bm
  sa : PySem.W.findIn K (.ref C) "__setattr__" = some (some (.builtin "object.__setattr__"))
  exC : PySem.W.subIn K (.ref C) (.type "BaseException") = some true
  tyC : PySem.W.typeIn K (.ref C) = some (.type "type")
  kC : PySem.W.keepIn K (.ref C) = true
section
variable {X : Cx} {pins : List (Addr × Obj)} {σ : L2.St} {H : Hp} {s : Shared} {a C dx : Addr} {f : Str} {y : V} {u : Value} {fs : List (Str × V)} {Q : Unit → Shared → Prop} {E : Value → Shared → Prop} {A : Around}
theorem OexL.cd {K : PySem.W.Frag} {C : Addr} (T : OexL K C) : ∃ cd, PySem.W.clsIn K C = some cd ∧ OverL cd.mro ∧ cd.hasDict = true := by
  obtain ⟨nm, q, N, bs, bm, sn, sub, ab, col, dd, k0, k1, k2, k3, k5, hC, ob⟩ := T.cls
  exact ⟨{ name := nm, bases := bs, mro := .ref C :: bm, ns := N, qualname := q, hasDict := true, slotNames := sn, subclasses := sub, abstract := ab, collection := col, hasDel := false }, by unfold PySem.W.clsIn; rw [hC] <;> rfl, .own _ _ ob, rfl⟩
theorem ostL_new (T : OexL X.K C) (I : Inv X pins σ H s) (e : H a = some (exo a C none)) (hno : PySem.W.findIn X.K (.ref C) f = some none) (ry : RelV y u)
    (q : ∀ dx s', H dx = none → dx ≠ a → Inv X pins σ (upd (upd H dx (exd dx [(f, y)])) a (exo a C (some dx))) s' → Q () s') : wpAny (model X.prog X.w) A (setAttr (.ref a) f u) Q E s := by
  obtain ⟨cd, hcl, oc, hh⟩ := T.cd
  obtain ⟨t1, at0⟩ := exo_at I.hok e
  obtain ⟨hp, gs, dr, t, os⟩ := s
  refine PySem.W.set_plain I.kIn (ox := { cls := .ref C, dict := none, data := .fields #[.ref t1, .none, .none, .none, .bool false, .none] }) (od := none) ⟨at0, rfl, rfl, trivial⟩ T.sa (osaL_new I.kIn at0 hcl oc hh hno (fun h' tk' dx kp up nda hx hn => ?_))
  have fr : H dx = none := I.hok.fresh up
  have ndx : ∀ {b : Addr} {o : Obj}, hp.get? b = some o → b ≠ dx := fun {b o} z => Nat.ne_of_lt (Nat.lt_of_lt_of_le (Heap.lt_size z) up)
  have nda2 : ∀ {b : Addr}, H b = none → b ≠ a := fun {b} n z => by rw [z, e] at n; cases n
  have U : Un X.fs [] H (upd (upd H dx (exd dx [(f, y)])) a (exo a C (some dx))) hp h' := {
    keep := fun b o z n _ _ => kp b o (nda2 n) z
    slot := fun b o z n _ _ => ⟨o.slots, kp b o (nda2 n) z⟩
    free := fun b o z n _ => by rw [upd_ne (nda2 n), upd_ne (ndx z)]; exact n
    there := fun b o z _ => by
      by_cases hb : b = a
      · exact ⟨_, by rw [hb]; exact hx⟩
      · exact ⟨o, kp b o hb z⟩
    tups := fun b xs z => by rw [upd_ne (at_ne e z exo_tup), upd_ne (ne_of_none z fr)]; exact z
    frzs := fun b o v z => by rw [upd_ne (at_ne e z exo_frz), upd_ne (ne_of_none z fr)]; exact z
    tbls := fun b ps z => ⟨#[], by rw [upd_ne (at_ne e z exo_tbl), upd_ne (ne_of_none z fr), z]; simp⟩ }
  refine q dx _ fr nda (I.un (t' := tk') U fun b o z => ?_)
  by_cases hb : b = a
  · subst hb; rw [upd_same] at z; cases z; exact exo_ok hx
  · rw [upd_ne hb] at z
    by_cases hd : b = dx
    · subst hd; rw [upd_same] at z; cases z; exact exd_ok hn (relO_put (fs := []) ry fun _ => True.intro)
    · rw [upd_ne hd] at z
      refine (I.hok b o z).stay (fun c v hc w' => kp c v ?_ w') (fun c hc => by rw [upd_ne (at_ne e hc exo_own), upd_ne (ne_of_none hc fr)]; exact hc) (fun c xs hc => by rw [upd_ne (at_ne e hc exo_tup), upd_ne (ne_of_none hc fr)]; exact hc)
      exact hc.elim (fun hc => hc ▸ hb) fun hc => at_ne e hc exo_own
theorem ostL_old (T : OexL X.K C) (I : Inv X pins σ H s) (e : H a = some (exo a C (some dx))) (ed : H dx = some (exd dx fs)) (hl : fs.length ≤ 900) (hno : PySem.W.findIn X.K (.ref C) f = some none) (ry : RelV y u)
    (q : ∀ s', Inv X pins σ (upd H dx (exd dx ((f, y) :: fs))) s' → Q () s') : wpAny (model X.prog X.w) A (setAttr (.ref a) f u) Q E s := by
  obtain ⟨cd, hcl, oc, hh⟩ := T.cd
  obtain ⟨t1, at0⟩ := exo_at I.hok e
  obtain ⟨mA, hns, rel⟩ := exd_at I.hok ed
  have hw := within_of rel
  obtain ⟨hp, gs, dr, t, os⟩ := s
  obtain ⟨oD, _, _, at1, _, _⟩ := hns.count hw
  refine PySem.W.set_plain I.kIn (ox := { cls := .ref C, dict := some dx, data := .fields #[.ref t1, .none, .none, .none, .bool false, .none] }) (od := some oD) ⟨at0, rfl, rfl, at1⟩ T.sa (osaL_old I.kIn at0 hns hw (by rw [List.length_map]; omega) hcl oc hh hno (fun h' tk' kp hn => ?_))
  have hd : ∃ o, h'.get? dx = some o := hn.elim fun o h => h.elim fun _ h => h.elim fun _ h => ⟨o, h.1⟩
  exact q _ (I.write (t' := tk') (x := dx) (e := dx) (o := exd dx ((f, y) :: fs)) (by rw [ed]; exact True.intro) (.inl rfl) kp hd (exd_ok hn (relO_put ry rel)))
theorem oinitL {us : List Value} {R : Value → Shared → Prop} (T : OexL X.K C) (I : Inv X pins σ H s) (e : H a = some (exo a C none)) (hl : us.length ≤ sizeLine) (q : ∀ s', Inv X pins σ H s' → R .none s') : wpAny (model X.prog X.w) A (call (.builtin "LookupError.__init__") (.ref a :: us)) R E s := by
  obtain ⟨nm, qn, N, bs, bm, sn, sub, ab, col, dd, k0, k1, k2, k3, k5, hC, ob⟩ := T.cls
  obtain ⟨t1, at0⟩ := exo_at I.hok e
  obtain ⟨hp, gs, dr, t, os⟩ := s
  refine wpAny_call (PySem.HandSPX.init_base PySem.F.excBase_LookupError (fun Y => ob.has Y) (I.kIn _ _ hC) at0 hl fun h' t2 kp hx => ?_)
  have J := I.write (t' := t) (x := a) (e := a) (o := exo a C none) (by rw [e]; exact True.intro) (.inl rfl) kp ⟨_, hx⟩ (exo_ok hx)
  rw [show upd H a (exo a C none) = H from funext fun b => if hb : b = a then by rw [hb, upd_same, e] else upd_ne hb] at J
  exact q _ J
end

/-! ### readings and rules -/
def tLeI (K : PySem.W.Frag) (ta : TA) : TE := fun σ H Q => ta σ H fun vs H1 => ∃ (a C : Addr) (ws : List V), vs = .ref a :: ws ∧ ws.length ≤ 1000 ∧ OexL K C ∧ H1 a = some (exo a C none) ∧ Q .non H1
def tOstL (K : PySem.W.Frag) (f : Str) (to te : TE) : TS := fun D σ H => te σ H fun y H1 => to σ H1 fun x H2 => ∃ a C : Addr, x = .ref a ∧ OexL K C ∧ PySem.W.findIn K (.ref C) f = some none ∧
  ((H2 a = some (exo a C none) ∧ ∀ dx, H2 dx = none → dx ≠ a → D.nx σ (upd (upd H2 dx (exd dx [(f, y)])) a (exo a C (some dx)))) ∨ ∃ (dx : Addr) (fs : List (Str × V)), H2 a = some (exo a C (some dx)) ∧ H2 dx = some (exd dx fs) ∧ fs.length ≤ 900 ∧ D.nx σ (upd H2 dx (exd dx ((f, y) :: fs))))
theorem typ_LE : typeOf (.type "LookupError") = pure (.type "type") := by kernel_rfl
theorem boot_LE : bootBuiltins "LookupError" = some (.type "LookupError") := by decide +kernel
section
variable {X : Cx} {o e : Expr} {es : List Expr} {to te : TE} {ta : TA} {f : Str} {p p' p1 p2 pos : Pos}
theorem pe_leinit {pl : Sem Bool} (hg : Gl X "LookupError") (hm : X.mg "LookupError" = none) (vV : PySem.W.findCls X.K (.type "LookupError") (.type "type") "__init__" = some (.val (.builtin "LookupError.__init__"))) (ha : PA X (e :: es) ta)
    (hc : eval (.Call (.Attribute (.Name "LookupError" p1) "__init__" p2) (e :: es) [] pos) X.env = (do
      let cls ← eval (.Name "LookupError" p1) X.env
      standAt p2.atName
      let (fn, fst) ← holding [cls] (getMethod cls "__init__" pl)
      callWith pos fn fst (backTo pos (starEach (e :: es) X.env)) (backToKw pos (keywordEach [] X.env))) := by rfl)
    (he : starEach (e :: es) X.env = (false, eval e X.env) :: starEach es X.env := by rfl) (hpl : (backTo pos (starEach es X.env)).any (·.1) = false := by rfl) : PE X (.Call (.Attribute (.Name "LookupError" p1) "__init__" p2) (e :: es) [] pos) (tLeI X.K ta) := by
  refine ⟨fun pins s σ H Q I h => PySem.W.methodCall_KW (ld_blt I hg hm boot_LE ?_ (by decide) (by decide)) hc⟩
  obtain ⟨m, fr⟩ := I.fr
  refine PySem.W.method_type fr I.ok.mod.kin typ_LE (by decide +kernel) vV (by decide +kernel) ?_; show wpAny _ _ (callWith pos (Value.builtin "LookupError.__init__") [] (backTo pos (starEach (e :: es) X.env)) []) _ _ _
  refine PyProof.Rows.callWith_method1 (thn (ha.run pos pins _ σ H _ (I.tok _) h) fun us s1 ⟨vs, H1, I1, r1, a, C, ws, ev, hl, T, ea, q⟩ => ?_) he hpl
  subst ev
  cases r1 with
  | @cons _ u0 _ ur ra rr =>
    obtain rfl : u0 = Value.ref a := ra
    exact oinitL T I1 ea (by rw [← Paired.length rr, sizeLine_eq]; omega) fun s' J => ⟨.non, H1, J, rfl, q⟩
theorem ps_ostL (ho : PE X o to) (he : PE X e te) (hs : swapsWith e (some (.Attribute o f p')) pos.line X.env = pure false := by rfl) : PS X (.Assign [.Attribute o f p'] e pos) (tOstL X.K f to te) := by
  refine ⟨fun pins s σ H D I h => plainObj_wpAny_Assign_Attribute (thn (he.run pins s σ H _ I h) fun v s1 ⟨y, H1, I1, r1, q1⟩ => thn (ho.run pins s1 σ H1 _ I1 q1) fun u s2 ⟨x, H2, I2, r2, a, C, ex, T, hno, q⟩ => ?_) hs⟩
  subst ex
  obtain rfl : u = Value.ref a := r2
  rcases q with ⟨ea, q⟩ | ⟨dx, fs, ea, ed, hl, q⟩
  · exact ostL_new T I2 ea hno r1 fun dx s' n ne J => ⟨σ, _, J, q dx n ne⟩
  · exact ostL_old T I2 ea ed hl hno r1 fun s' J => ⟨σ, _, J, q⟩
theorem pmk_oexL {CX : CXT} {x : Str} {C fI : Addr} {k : Nat} {fd : FuncData} {ps : List Str} {sp : Sp} (T : OexL X.K C) (iC : PySem.W.findIn X.K (.ref C) "__init__" = some (some (.ref fI))) (tI : PySem.W.typeIn X.K (.ref fI) = some (.type "function"))
    (F1 : FnOk X.prog X.w X.K X.mg X.base CX k fI fd ps sp) (hr : Room (k + 1) X.A) (hb : Binds X.K fd ps []) (hx : Passes CX X (fun _ _ _ => False)) (hg : Gl X x) (hm : X.mg x = some (.ref C)) (ha : PA X (e :: es) ta)
    (hdb : (x == ("__debug__" : Str)) = false := by decide) (he : starEach (e :: es) X.env = (false, eval e X.env) :: starEach es X.env := by rfl) (hpl : (backTo pos (starEach es X.env)).any (·.1) = false := by rfl) :
    L2N.PMk X (.Call (.Name x p) (e :: es) [] pos) (tMkO C sp [] ta) := by
  intro pins s σ H Q I h
  obtain ⟨nm, q, N, bs, bm, sn, sub, ab, col, dd, k0, k1, k2, k3, k5, hC, ob⟩ := T.cls
  refine wpAny_Call_Name_kw (ld_glob I hg hm (PySem.W.callWith_K (h₀ := X.base) I.ok.mod.kin T.kC (thn (ha.run pos pins s σ H _ I h) fun us s1 ⟨vs, H1, I1, r1, hz, q1⟩ => ⟨I1.kIn, ?_⟩) he hpl) hdb)
  show wpAny _ _ (call (.ref C) us) _ _ _
  obtain ⟨hp, g, dr, tk, os⟩ := s1
  have up1 : hp.objs.size ≤ hp.objs.size + 1 := Nat.le_succ _
  have hq := q1 (hp.objs.size + 1) (I1.hok.fresh up1)
  rw [List.append_nil] at hq
  have kk : ∀ b o, hp.get? b = some o → ((hp.push (PySem.W.kdv_tup us)).push (PySem.HandSPX.excO C hp.objs.size)).get? b = some o := fun b o z => Heap.get?_push_of_some _ (Heap.get?_push_of_some _ z)
  have at1 : ((hp.push (PySem.W.kdv_tup us)).push (PySem.HandSPX.excO C hp.objs.size)).get? (hp.objs.size + 1) = some (PySem.HandSPX.excO C hp.objs.size) := by heap_get
  have I2 : Inv X pins σ (upd H1 (hp.objs.size + 1) (exo _ C none)) ⟨_, g, dr, tk, os⟩ := I1.laid (t' := tk) (a := hp.objs.size + 1) (o := exo (hp.objs.size + 1) C none) (h' := (hp.push (PySem.W.kdv_tup us)).push (PySem.HandSPX.excO C hp.objs.size)) kk up1 (exo_ok at1)
  have r2 : Vals (V.ref (hp.objs.size + 1) :: vs) (Value.ref (hp.objs.size + 1) :: us) := .cons rfl r1
  have bnd := hb _ (Value.ref (hp.objs.size + 1) :: us) I2.kIn (by rw [List.append_nil]; exact r2.length.symm.trans (F1.len _ _ _ _ hq))
  rw [List.append_nil] at bnd
  have few : us.length ≤ sizeLine := by
    rw [← Paired.length r1, sizeLine_eq]
    omega
  refine wpAny_call (PySem.HandSPX.call_own PySem.F.excBase_LookupError (fun Y => ob.has Y) (I1.kIn _ _ hC) (PySem.W.looks_findIn I1.kIn iC) (fun self => PySem.W.bind_fn I1.kIn self tI) few
    (codeAny_mono (F1.run _ X.stack _ _ ⟨Value.ref (hp.objs.size + 1) :: us, []⟩ (Value.ref (hp.objs.size + 1) :: us) _ _ (fun _ _ _ => False) (hr.make C us []) (I2.env0.make C us []) bnd r2 hq) fun r s' hq' => ?_))
  cases r with
  | error er => exact hx pins σ _ _ er s' I2 hq'
  | ok fl =>
    cases fl with
    | next => exact False.elim hq'
    | brk => exact False.elim hq'
    | cont => exact False.elim hq'
    | ret u =>
      obtain ⟨v, H2, os2, bare2, un2, hok2, rv, ev, d, fs, ea, ed, hd1, q2⟩ := hq'
      subst ev
      obtain ⟨h2, g2, d2, t2, os'⟩ := s'
      obtain ⟨t0, G, J, kG, ge, hoe, na⟩ := mk_end0 (d2 := d2) (t2 := t2) I1 up1 kk un2 hok2 os2 bare2 ea ed hd1
      exact ⟨rv, hp.objs.size + 1, _, _, ⟨G, g2, d2, t2, os'⟩, _, .ref C, some d, rfl, J, kG, ge, hoe, ⟨rfl, rfl, fun vs z => by cases z; rfl⟩, rfl, rfl, na, rfl, bare2, raises_own T.exC T.tyC, q2⟩
end
/-! ### made by its name, and raised -/
structure MkL (P : Program) (w : World) (K : PySem.W.Frag) (mg : Str → Option Value) (base : Heap) (x : Str) (ps : List Str) (k : Nat) (C : Addr) (sp : Sp) : Prop where
  T : OexL K C
  ex : ∃ (fI : Addr) (fd : FuncData), PySem.W.findIn K (.ref C) "__init__" = some (some (.ref fI)) ∧ PySem.W.typeIn K (.ref fI) = some (.type "function") ∧ FnOk P w K mg base CX0 k fI fd ps sp ∧ Binds K fd ps [] ∧ mg x = some (.ref C)
theorem MkL.mono {P : Program} {w : World} {K : PySem.W.Frag} {mg : Str → Option Value} {base : Heap} {x : Str} {ps : List Str} {j k : Nat} {C : Addr} {sp : Sp} (c : MkL P w K mg base x ps j C sp) (h : j ≤ k) : MkL P w K mg base x ps k C sp := by
  obtain ⟨T, fI, fd, a, b, o, r⟩ := c
  exact ⟨T, fI, fd, a, b, o.mono h, r⟩
section
variable {X : Cx} {x : Str} {ps : List Str} {k : Nat} {C : Addr} {sp : Sp} {e : Expr} {es : List Expr} {ta : TA} {p pos rp : Pos} {W : WX}
theorem ps_raiseL (hc : X.calm = true) (tk : L2N.Takes X W) (c : MkL X.prog X.w X.K X.mg X.base x ps k C sp) (hr : Room (k + 1) X.A) (hg : Gl X x) (ha : PA X (e :: es) ta)
    (hdb : (x == ("__debug__" : Str)) = false := by decide) (he : starEach (e :: es) X.env = (false, eval e X.env) :: starEach es X.env := by rfl) (hpl : (backTo pos (starEach es X.env)).any (·.1) = false := by rfl) :
    PS X (.Raise (some (.Call (.Name x p) (e :: es) [] pos)) none rp) (fun _ σ H => tMkO C sp [] ta σ H fun cls d H' => W cls d σ H') := by
  obtain ⟨T, fI, fd, a, b, o, r, m⟩ := c
  exact L2N.ps_raise hc tk (pmk_oexL T a b o hr r pass0 hg m ha hdb he hpl)
end
def spMissI (K : PySem.W.Frag) : Sp := fun vs H Q _ => ∃ (a C : Addr) (tag told : Str), vs = [.ref a, .str tag, .str told] ∧ OexL K C ∧ H a = some (exo a C none) ∧ PySem.W.findIn K (.ref C) "tag" = some none ∧
  ∀ dx, H dx = none → dx ≠ a → Q .non (upd (upd H dx (exd dx [("tag", .str tag)])) a (exo a C (some dx)))
def spOwnL (K : PySem.W.Frag) (tag fn : Str) : Sp := fun vs H Q _ => ∃ (a C : Addr) (n : Int), vs = [.ref a, .int n] ∧ n.natAbs.log2 < 1920 ∧ OexL K C ∧ H a = some (exo a C none) ∧ PySem.W.findIn K (.ref C) "tag" = some none ∧ PySem.W.findIn K (.ref C) fn = some none ∧
  ∀ dx, H dx = none → dx ≠ a → Q .non (upd (upd (upd H dx (exd dx [("tag", .str tag)])) a (exo a C (some dx))) dx (exd dx [(fn, .int n), ("tag", .str tag)]))
theorem rd_raiseL {K : PySem.W.Frag} {tag fn : Str} {C : Addr} {n : Int} {H : Hp} {Q : XK} {σ : L2.St} {te : TE} (T : OexL K C) (hn : n.natAbs.log2 < 1920) (ft : PySem.W.findIn K (.ref C) "tag" = some none) (ff : PySem.W.findIn K (.ref C) fn = some none)
    (ht : ∀ R : VK, R (.int n) H → te σ H R) (q : ∀ d Hf, Same H Hf → Hf d = some (.xd [(fn, .int n), ("tag", .str tag)]) → Q (.ref C) (some d) Hf) : tMkO C (spOwnL K tag fn) [] (tCons te tNil) σ H Q := by
  refine ht _ ⟨by show 1 ≤ 1000; decide, fun a na => ⟨a, C, n, rfl, hn, T, upd_same, ft, ff, fun dx ndx nda => ⟨rfl, dx, _, ?_, upd_same, ?_, ?_⟩⟩⟩
  · rw [upd_ne (Ne.symm nda), upd_same]
  · rwa [upd_ne nda] at ndx
  · refine q dx _ (fun b o e => ?_) upd_same
    have nb : b ≠ a := ne_of_none e na
    rw [upd_ne nda] at ndx
    have nd : b ≠ dx := ne_of_none e ndx
    rw [upd_ne nd, del_ne nb, upd_ne nd, upd_ne nb, upd_ne nd, upd_ne nb]
    exact e
def oexLB (K : PySem.W.Frag) (C : Addr) : Bool := match K.lookup C with
  | some ⟨.type "type", _, .cls cd, sl⟩ => (match cd.mro, sl.toList with
    | .ref C' :: bm, [_, _, _, _, some (.builtin n), _] => C' == C && n == "LookupError.__new__" && !cd.hasDel && cd.hasDict && overB bm
    | _, _ => false)
  | _ => false
theorem oexLB_cls {K : PySem.W.Frag} {C : Addr} (q : oexLB K C = true) : ∃ nm q N bs bm sn sub ab col dd k0 k1 k2 k3 k5, K.lookup C = some (excClassObj nm q C N bs bm true sn sub ab col dd k0 k1 k2 k3 k5 "LookupError.__new__") ∧ OverL bm := by
  unfold oexLB at q
  split at q
  · rename_i dd cd sl ho
    split at q
    · rename_i C' bm k0 k1 k2 k3 n k5 hm hs
      simp only [Bool.and_eq_true, beq_iff_eq, Bool.not_eq_true'] at q
      obtain ⟨⟨⟨⟨rfl, rfl⟩, hdel⟩, hdct⟩, hv⟩ := q
      obtain ⟨nm, bs, mro, ns, qn, hd, sn, sub, ab, col, del⟩ := cd
      dsimp only at hm hdel hdct
      subst hm hdel hdct
      obtain ⟨l⟩ := sl
      simp only at hs
      subst hs
      exact ⟨nm, qn, ns, bs, bm, sn, sub, ab, col, dd, k0, k1, k2, k3, k5, ho, overB_ok _ hv⟩
    · cases q
  · cases q
end TT
/-! a lambda that a def hands on to another def -/
namespace TT
open PySem PySem.Spec PyProof.Rows L2 HotX LamX
theorem Un.comp {fs fs' : List Addr} {H H1 H2 : Hp} {h h1 h2 : Heap} (a : Un fs [] H H1 h h1) (b : Un fs' [] H1 H2 h1 h2) (sub : ∀ x ∈ fs', x ∈ fs ∨ h.get? x = none) (sup : ∀ x ∈ fs, x ∈ fs') : Un fs [] H H2 h h2 where
  keep := fun x o e n nf nx => b.keep x o (a.keep x o e n nf nx) (a.free x o e n nx) (fun m => (sub x m).elim nf fun z => by rw [z] at e; cases e) nx
  slot := fun x o e n mf nx => by
    obtain ⟨sl, e1⟩ := a.slot x o e n mf nx
    obtain ⟨sl2, e2⟩ := b.slot x _ e1 (a.free x o e n nx) (sup x mf) nx
    exact ⟨sl2, e2⟩
  free := fun x o e n nx => by
    obtain ⟨sl, e1⟩ := a.any e n nx
    exact b.free x _ e1 (a.free x o e n nx) nx
  there := fun x o e nx => by
    obtain ⟨o1, e1⟩ := a.there x o e nx
    exact b.there x o1 e1 nx
  tups := fun x xs e => b.tups x xs (a.tups x xs e)
  frzs := fun x o u e => b.frzs x o u (a.frzs x o u e)
  tbls := fun x ps e => by
    obtain ⟨m1, e1⟩ := a.tbls x ps e
    obtain ⟨m2, e2⟩ := b.tbls x _ e1
    exact ⟨m1 ++ m2, by rw [e2, Array.append_assoc]⟩
section
variable {X : Cx} {pins : List (Addr × Obj)} {σ : L2.St} {H : Hp} {s : Shared}
/-- the lambda called in a frame however deep -/
theorem pe_actG {CXg : CXT} {Eg : XK} {Ng : List Str} {qg : Str} {sg : Scope} {g f c' : Addr} {cdg pm ctv : Value} {params : Arguments} {body : Expr} {scope : Scope} {k i : Nat} {a : Str} {pn : List (Addr × Obj)} {xe : Value → Shared → Prop} {W : WX} {E : XK} {tb : TE} {p1 p2 : Pos} {YA : Around} {Ys : List Env} {s0 : Shared} {H0 : Hp}
    (I : Inv X pins σ H s) (L : LamS X.env.scope scope) (hf : s.heap.get? f = some (PySem.W.kla_obj "<lambda>" (X.env.qual ++ "<lambda>") params body scope (cloFrom X.env.cells scope.names []) pm c' ctv)) (hfn : H f = none) (hfr : f ∉ frs X.stack)
    (hbind : bindArgs (PySem.W.kla_fn "<lambda>" (X.env.qual ++ "<lambda>") params body scope (cloFrom X.env.cells scope.names []) pm (.ref c') ctv) ⟨[], []⟩ = pure [])
    (link : Un (frs X.stack) [] H H0 s.heap s0.heap) (sub : ∀ b ∈ frs Ys, b ∈ frs X.stack ∨ s.heap.get? b = none) (sup : ∀ b ∈ frs X.stack, b ∈ frs Ys)
    (tk : L2N.Takes ((cxOf CXg X.prog X.w X.K X.mg X.base Ng qg sg g cdg YA Ys s0 H0 Eg).tr pn xe) W) (hr : Room (k + 1) (YA.deeper (envOfC qg sg s0.heap.objs.size g cdg)))
    (hbody : ∀ (A : Around) (outer : List Env) (s : Shared) (H : Hp), Room k (A.deeper (lamEnv X scope s.heap.objs.size f c')) → PE (lamN X A outer s H E scope f c') body tb)
    (hN : Ng[i]? = some a) (hv : Vis sg a) (hd : (a == ("__debug__" : Str)) = false := by decide) (hcd : (a == ("__classdict__" : Str)) = false := by decide) :
    PE ((cxOf CXg X.prog X.w X.K X.mg X.base Ng qg sg g cdg YA Ys s0 H0 Eg).tr pn xe) (.Call (.Name a p1) [] [] p2)
      (fun σZ HZ Q => (∀ cls d H', E cls d H' → W cls d σZ H') ∧ σZ[i]? = some (some (.ref f)) ∧ HZ c' = some (CodeO c' (X.env.qual ++ "<lambda>")) ∧ tb σ HZ Q) := ⟨fun pinsZ sZ σZ HZ Q IZ h => by
  obtain ⟨hW, hs, hc, ht⟩ := h
  refine wpAny_Call_Name_kw (thn ((pe_var (pos := p1) (i := i) hN hv hd hcd).run pinsZ sZ σZ HZ (fun v H1 => v = .ref f ∧ H1 = HZ) IZ ⟨.ref f, hs, rfl, rfl⟩) fun u s1 ⟨v, H1, I1, r1, ev, eH⟩ => ?_)
  subst ev
  rw [eH] at I1
  obtain rfl : u = Value.ref f := r1
  have un : Un (frs X.stack) [] H HZ s.heap s1.heap := Un.comp link I1.base sub sup
  have of1 := un.keep f _ hf hfn hfr (fun z => nomatch (show f ∈ ([] : List Addr) from z))
  refine PySem.W.callWith_F0 ⟨_, _, _, _, of1⟩ ?_
  obtain ⟨⟨oc, vs, t, hoc, hdc, hvc⟩, _, _⟩ := I1.hok c' _ hc
  refine wpAny_call (codeAny_mono (R := CR (L2N.CX X.prog X.w) (envOfC qg sg s0.heap.objs.size g cdg :: Ys) X.prog X.w HZ s1 Q E) (PySem.W.kla_callFunE hr.depth of1 rfl L.co L.gen rfl ⟨c', oc, vs, t, rfl, hoc, hdc, hvc⟩ ?_) fun r s' hq => ?_)
  · rw [show bindArgs (PySem.W.kla_fn "<lambda>" (X.env.qual ++ "<lambda>") params body scope (cloFrom X.env.cells scope.names []) pm (.ref c') ctv) ⟨[] ++ [], []⟩ = pure [] from hbind]
    refine wpAny_pure (wpAny_newFunctionEnv (fun y hy => (L.own y hy).2) (fun y hy => absurd hy (by simp)) (fun h₁ hns hsb => ⟨I1.nolimit.fresh _ hsb, ?_⟩) L.kind)
    show codeAny _ _ (.expr body (lamEnv X scope s1.heap.objs.size f c')) _ _
    have kp : ∀ b o, s1.heap.get? b = some o → h₁.get? b = some o := fun b o z => hsb.extBut b o (Nat.ne_of_lt (Heap.lt_size z)) (Heap.get?_push_of_some _ z)
    have J0 : Inv (lamCx X (YA.deeper (envOfC qg sg s0.heap.objs.size g cdg)) (envOfC qg sg s0.heap.objs.size g cdg :: Ys) s1 HZ E scope f c') [] σ HZ { s1 with heap := h₁, toks := s1.toks + ([] : List (Str × Value)).length } := lam_start2 I L I1.env0 hr.hd un hns kp
    have J := J0.toTry (fun e s' => wpAny (model X.prog X.w) ((YA.deeper (envOfC qg sg s0.heap.objs.size g cdg)).deeper (lamEnv X scope s1.heap.objs.size f c')) (leaving (lamEnv X scope s1.heap.objs.size f c') e) (fun _ s'' => L2N.CX X.prog X.w (envOfC qg sg s0.heap.objs.size g cdg :: Ys) HZ s1 E e s'') (fun e' s'' => L2N.CX X.prog X.w (envOfC qg sg s0.heap.objs.size g cdg :: Ys) HZ s1 E e' s'') s')
    refine PySem.W.kla_codeExpr (wpAny_mono ((hbody _ _ s1 HZ (hr.deeper _)).run [] _ _ HZ Q J ht) (fun v s' hq => ?_) fun e s' hq => hq)
    obtain ⟨w', H', J', rv, q⟩ := hq
    exact ⟨w', H', J'.os, J'.bare, J'.base, J'.hok, rv, q⟩
  · cases r with
    | error e => exact tk e s' (L2N.XE.of_call I1 hW hq)
    | ok fl =>
      cases fl with
      | ret u => exact I1.after hq
      | next => exact False.elim hq
      | brk => exact False.elim hq
      | cont => exact False.elim hq⟩
end

/-- the lambda f may be called in any frame above X's -/
def ActG (X : Cx) (f c' : Addr) (s : Shared) (H : Hp) (q : Str) (k : Nat) (tl : XK → Hp → VK → Prop) : Prop :=
  ∀ (Ng : List Str) (qg : Str) (sg : Scope) (g : Addr) (cdg : Value) (YA : Around) (Ys : List Env) (s0 : Shared) (H0 : Hp) (a : Str) (W : WX) (pn : List (Addr × Obj)) (xe : Value → Shared → Prop) (E : XK) (p1 p2 : Pos),
    Un (frs X.stack) [] H H0 s.heap s0.heap → (∀ b ∈ frs Ys, b ∈ frs X.stack ∨ s.heap.get? b = none) → (∀ b ∈ frs X.stack, b ∈ frs Ys) → Ng[0]? = some a → Vis sg a → (a == ("__debug__" : Str)) = false → (a == ("__classdict__" : Str)) = false → Room (k + 1) (YA.deeper (envOfC qg sg s0.heap.objs.size g cdg)) →
    L2N.Takes ((cxOf C8.CX0 X.prog X.w X.K X.mg X.base Ng qg sg g cdg YA Ys s0 H0 C8.E0).tr pn xe) W →
    PE ((cxOf C8.CX0 X.prog X.w X.K X.mg X.base Ng qg sg g cdg YA Ys s0 H0 C8.E0).tr pn xe) (.Call (.Name a p1) [] [] p2) (fun σZ HZ Q => (∀ cls d H', E cls d H' → W cls d σZ H') ∧ σZ[0]? = some (some (.ref f)) ∧ HZ c' = some (CodeO c' q) ∧ tl E HZ Q)
/-- a def that is given the lambda -/
def GivM (X : Cx) (Ng : List Str) (x : Str) (sg : Scope) (g : Addr) (cdg : Value) (bg : List Stmt) (q : Str) (j k : Nat) (TO : (XK → Hp → VK → Prop) → Hp → VK → Prop) : Prop :=
  ∀ (f c' : Addr) (s : Shared) (H : Hp) (Q : VK) (tl : XK → Hp → VK → Prop), Room k (X.A.deeper (envOfC x sg s.heap.objs.size g cdg)) → ActG X f c' s H q j tl → H c' = some (CodeO c' q) → TO tl H Q →
    ∃ t, PSs (cxOf C8.CX0 X.prog X.w X.K X.mg X.base Ng x sg g cdg X.A X.stack s H C8.E0).nox bg t ∧ t { nx := fun _ H' => Q .non H', rt := Q } (L2.start Ng [.ref f]) H
section
variable {X : Cx}
theorem pe_lamM {T : List (Addr × Str)} {TO : (XK → Hp → VK → Prop) → Hp → VK → Prop} {x a : Str} {g c P : Addr} {j k : Nat} {pg : Arguments} {bg : List Stmt} {sg : Scope} {dV kV doc pm cdv ct oc : Value} {an od : Option Addr} {osl : Array (Option Value)} {Ng : List Str}
    {params : Arguments} {body : Expr} {scope : Scope} {t : XK → TE} {p lpos pos : Pos} (hg : Gl X x) (hm : X.mg x = some (.ref g)) (hk : PySem.W.keepIn X.K (.ref g) = true)
    (lk : X.K.lookup g = some ⟨oc, od, .func (PySem.W.fnOf x x pg bg sg dV kV doc pm an cdv ct), osl⟩) (hcg : PySem.W.codeIn X.K cdv x = true) (hb : L2.Binds X.K (PySem.W.fnOf x x pg bg sg dV kV doc pm an cdv ct) [a] []) (Sg : FnScope Ng [a] sg)
    (hG : GivM X Ng x sg g cdv bg (X.env.qual ++ "<lambda>") j k TO)
    (TB : TabB X.base X.mg c P) (hcode : X.env.code = .ref c) (hmT : (P, X.env.qual ++ "<lambda>") ∈ T) (hu : ∀ p ∈ T, p.1 = P → p.2 = X.env.qual ++ "<lambda>") (hr : Room (k + 1) X.A) (L : LamS X.env.scope scope) (hdef : defaultsOf params X.env = ([], []))
    (hbind : ∀ (q : Str) (cl : List (Str × Addr)) (pm cv ctv : Value), bindArgs (PySem.W.kla_fn "<lambda>" q params body scope cl pm cv ctv) ⟨[], []⟩ = pure [])
    (hbody : ∀ (A : Around) (outer : List Env) (s : Shared) (H : Hp) (E : XK) (f c' : Addr), Room j (A.deeper (lamEnv X scope s.heap.objs.size f c')) → PE (lamN X A outer s H E scope f c') body (t E))
    (hdb : (x == ("__debug__" : Str)) = false := by decide) : PE X (.Call (.Name x p) [.Lambda params body scope lpos] [] pos) (tLam T TO t) := ⟨fun pins s σ H Q I h => by
  obtain ⟨hT, h⟩ := h
  refine wpAny_Call_Name_kw (ld_glob I hg hm (PySem.W.callWith_K (h₀ := X.base) I.ok.mod.kin hk ?_ (by rfl) (by rfl)) hdb)
  show wpAny _ _ (spliced ((false, eval (.Lambda params body scope lpos) X.env) :: backTo pos (starEach [] X.env))) _ _ s
  refine Calls.spliced_cons (lam_make2 I TB hcode hmT hu hT hdef (L.has I.ok) fun f c' pm' ctv H1 s' I1 eN T1 hf hfn hfr hco => Calls.spliced_nil ⟨I1.kIn, ?_⟩)
  refine wpAny_call (codeAny_mono (R := CR C8.CX0 X.stack X.prog X.w H1 s' Q C8.E0) (run_ofS (N := Ng) (ps := [a]) (us := [.ref f]) (vs := [.ref f]) lk hcg Sg hr I1.env0 (hb s' [.ref f] I1.kIn rfl) (.cons rfl .nil) rfl fun hr' => ?_) fun r s2 hq => ?_)
  · obtain ⟨t', ht', hq'⟩ := hG f c' s' H1 Q (fun E H' Q' => t E σ H' Q') hr' (fun Ng qg sg g cdg YA Ys s0 H0 a W pn xe E p1 p2 link sub sup hN hv d1 d2 hr2 tk => pe_actG (i := 0) I1 L hf hfn hfr (hbind _ _ _ _ _) link sub sup tk hr2 (fun A outer s H hr3 => hbody A outer s H E f c' hr3) hN hv d1 d2) hco (h H1 eN T1)
    exact ⟨t', ht'.nox, hq'⟩
  · cases r with
    | error e => exact (show False from hq).elim
    | ok fl =>
      cases fl with
      | ret u => exact I1.after hq
      | next => exact False.elim hq
      | brk => exact False.elim hq
      | cont => exact False.elim hq⟩
/-- GivN for a frame at once -/
theorem GivM.of {Ng : List Str} {x a q : Str} {sg : Scope} {g : Addr} {cdg : Value} {bg : List Stmt} {k : Nat} {TO : (XK → Hp → VK → Prop) → Hp → VK → Prop} (hG : GivN X Ng x sg g cdg bg a q (k + 1) TO) (hN : Ng[0]? = some a) (hv : Vis sg a) (d1 : (a == ("__debug__" : Str)) = false := by decide) (d2 : (a == ("__classdict__" : Str)) = false := by decide) :
    GivM X Ng x sg g cdg bg q k (k + 1) TO := fun f c' s H Q tl hr act hc h =>
  hG f c' s H Q tl hr (fun W pn xe E p1 p2 tk => act Ng x sg g cdg X.A X.stack s H a W pn xe E p1 p2 (Un.refl) (fun _ h => .inl h) (fun _ h => h) hN hv d1 d2 hr tk) hc h
/-- in the frame of the def: the lambda is handed on to y -/
theorem pe_onN {Ne : List Str} {xe ye ae ao : Str} {se so : Scope} {ge go : Addr} {cde : Value} {s : Shared} {H : Hp} {f c' : Addr} {q : Str} {j : Nat} {tl : XK → Hp → VK → Prop} {TO : (XK → Hp → VK → Prop) → Hp → VK → Prop} {No : List Str} {po : Arguments} {bo : List Stmt} {dV kV doc pm cdv ct oc : Value} {an od : Option Addr} {osl : Array (Option Value)} {p p1 pos : Pos}
    (hg : Gl (cxOf C8.CX0 X.prog X.w X.K X.mg X.base Ne xe se ge cde X.A X.stack s H C8.E0).nox ye) (hm : X.mg ye = some (.ref go)) (hk : PySem.W.keepIn X.K (.ref go) = true)
    (lk : X.K.lookup go = some ⟨oc, od, .func (PySem.W.fnOf ye ye po bo so dV kV doc pm an cdv ct), osl⟩) (hcg : PySem.W.codeIn X.K cdv ye = true) (hb : L2.Binds X.K (PySem.W.fnOf ye ye po bo so dV kV doc pm an cdv ct) [ao] []) (So : FnScope No [ao] so) (hNo : No[0]? = some ao) (hva : Vis so ao)
    (hG : GivN (cxOf C8.CX0 X.prog X.w X.K X.mg X.base Ne xe se ge cde X.A X.stack s H C8.E0).nox No ye so go cdv bo ao q (j + 1) TO) (hr : Room (j + 2) (X.A.deeper (envOfC xe se s.heap.objs.size ge cde))) (act : ActG X f c' s H q j tl)
    (hv0 : PE (cxOf C8.CX0 X.prog X.w X.K X.mg X.base Ne xe se ge cde X.A X.stack s H C8.E0).nox (.Name ae p1) (tVar 0))
    (hdb : (ye == ("__debug__" : Str)) = false := by decide) (d1 : (ao == ("__debug__" : Str)) = false := by decide) (d2 : (ao == ("__classdict__" : Str)) = false := by decide) :
    PE (cxOf C8.CX0 X.prog X.w X.K X.mg X.base Ne xe se ge cde X.A X.stack s H C8.E0).nox (.Call (.Name ye p) [.Name ae p1] [] pos) (fun σE HE Q => σE[0]? = some (some (.ref f)) ∧ HE c' = some (CodeO c' q) ∧ TO tl HE Q) := ⟨fun pins sE σE HE Q IE h => by
  obtain ⟨h0, hc, hT⟩ := h
  refine wpAny_Call_Name_kw (ld_glob IE hg hm (PySem.W.callWith_K (h₀ := X.base) IE.ok.mod.kin hk (thn ((pa_cons hv0 pa_nil).run pos pins sE σE HE (fun vs H1 => vs = [.ref f] ∧ H1 = HE) IE ⟨.ref f, h0, rfl, rfl⟩) fun us s1 ⟨vs, H1, I1, r1, ev, eH⟩ => ⟨I1.kIn, ?_⟩) (by rfl) (by rfl)) hdb)
  subst ev
  rw [eH] at I1
  obtain rfl := Vals.ref1 r1
  refine wpAny_call (codeAny_mono (R := CR C8.CX0 (envOfC xe se s.heap.objs.size ge cde :: X.stack) X.prog X.w HE s1 Q C8.E0) (run_ofS (N := No) (ps := [ao]) (us := [.ref f]) (vs := [.ref f]) lk hcg So hr I1.env0 (hb s1 [.ref f] I1.kIn rfl) (.cons rfl .nil) rfl fun hr' => ?_) fun r s2 hq => ?_)
  · have sub : ∀ b ∈ frs (envOfC xe se s.heap.objs.size ge cde :: X.stack), b ∈ frs X.stack ∨ s.heap.get? b = none := fun b hb => by
      obtain ⟨e, he, hfr⟩ := List.mem_filterMap.mp hb
      rcases List.mem_cons.mp he with rfl | he
      · right
        obtain rfl := Option.some.inj hfr
        cases e : s.heap.get? s.heap.objs.size with
        | none => rfl
        | some o => exact absurd (Heap.lt_size e) (Nat.lt_irrefl _)
      · exact .inl (List.mem_filterMap.mpr ⟨e, he, hfr⟩)
    have sup : ∀ b ∈ frs X.stack, b ∈ frs (envOfC xe se s.heap.objs.size ge cde :: X.stack) := fun b hb => by
      obtain ⟨e, he, hfr⟩ := List.mem_filterMap.mp hb
      exact List.mem_filterMap.mpr ⟨e, List.mem_cons_of_mem _ he, hfr⟩
    obtain ⟨t', ht', hq'⟩ := hG f c' s1 HE Q tl hr' (fun W pn xe' E p1 p2 tk => act No ye so go cdv _ _ s1 HE ao W pn xe' E p1 p2 I1.base sub sup hNo hva d1 d2 hr' tk) hc hT
    exact ⟨t', ht'.nox, hq'⟩
  · cases r with
    | error e => exact (show False from hq).elim
    | ok fl =>
      cases fl with
      | ret u => exact I1.after hq
      | next => exact False.elim hq
      | brk => exact False.elim hq
      | cont => exact False.elim hq⟩
end
end TT
namespace TT
open PySem PySem.Spec PyProof.Rows L2 LamX
open T
/-! ### promises of defs that may raise NoKey -/
def ENo (C : Addr) (key : Int) (H : Hp) (E : XK) : Prop := ∀ d Hf, Same H Hf → Hf d = some (.xd [("key", .int key), ("tag", .str "NoKey")]) → E (.ref C) (some d) Hf
theorem ENo.same {C : Addr} {key : Int} {H H1 : Hp} {E : XK} (h : ENo C key H E) (e : Same H H1) : ENo C key H1 E := fun d Hf e2 hd => h d Hf (e.trans e2) hd
def spReqX (K : PySem.W.Frag) (C : Addr) : Sp := fun vs H Q E => ∃ (a : Addr) (ks : List Int) (key : Int), vs = [.ref a, .int key] ∧ (SqL K H a (ks.map V.int) ∨ SqT K H a (ks.map V.int)) ∧ key.natAbs.log2 < 1920 ∧ (key ∈ ks → Q .non H) ∧ (key ∉ ks → ENo C key H E)
def spPathToX (K : PySem.W.Frag) (C : Addr) : Sp := fun vs H Q E => ∃ (a : Addr) (key : Int) (t : T), vs = [.ref a, .int key] ∧ SqT K H a (t.pre.map V.int) ∧ t.bst ∧ t.pre.length ≤ 1000 ∧ key.natAbs.log2 < 1920 ∧
  (key ∈ t.pre → ∀ p H', Same H H' → H p = none → H' p = some (.lst ((t.path key).map V.int)) → Q (.ref p) H') ∧ (key ∉ t.pre → ENo C key H E)
def spDepthX (K : PySem.W.Frag) (C : Addr) : Sp := fun vs H Q E => ∃ (a : Addr) (key : Int) (t : T), vs = [.ref a, .int key] ∧ SqT K H a (t.pre.map V.int) ∧ t.bst ∧ t.pre.length ≤ 1000 ∧ key.natAbs.log2 < 1920 ∧
  (key ∈ t.pre → ∀ H', Same H H' → Q (.int (t.dep key : Int)) H') ∧ (key ∉ t.pre → ENo C key H E)
def spTouchX (K : PySem.W.Frag) (C : Addr) : Sp := fun vs H Q E => ∃ (a : Addr) (key : Int) (t : T), vs = [.ref a, .int key] ∧ SqT K H a (t.pre.map V.int) ∧ t.bst ∧ t.pre.length ≤ 1000 ∧ key.natAbs.log2 < 1920 ∧
  (key ∈ t.pre → ∀ p q H', Same H H' → H' p = some (.tup [.ref q, .int (t.dep key : Int)]) → H' q = some (.tup ((t.tch key).pre.map V.int)) → Q (.ref p) H') ∧ (key ∉ t.pre → ENo C key H E)
def spTouchAllX (K : PySem.W.Frag) (C : Addr) : Sp := fun vs H Q E => ∃ (a b : Addr) (xs : List Int) (t : T), vs = [.ref a, .ref b] ∧ H a = some (.tup (t.pre.map V.int)) ∧ (SqL K H b (xs.map V.int) ∨ SqT K H b (xs.map V.int)) ∧ t.bst ∧ t.pre.length ≤ 1000 ∧ xs.length ≤ 1000 ∧ Kn xs ∧
  ((∀ x ∈ xs, x ∈ t.pre) → ∀ p q r H', Same H H' → H r = none → H' p = some (.tup [.ref q, .ref r]) → H' q = some (.tup ((t.tchs xs).pre.map V.int)) → H' r = some (.lst ((costs t xs).map V.int)) → Q (.ref p) H') ∧
  (∀ us key ws, xs = us ++ key :: ws → (∀ x ∈ us, x ∈ t.pre) → key ∉ t.pre → ENo C key H E)
/-- what _law_error tells: the outcome without the answer -/
def tErr (K : PySem.W.Frag) (cT cM : Value) (tl : XK → Hp → VK → Prop) (H : Hp) (Q : VK) : Prop := tOut K cT cM tl H fun v H' => ∃ (p : Addr) (x : V) (tag : Str) (y : V), v = .ref p ∧ H' p = some (.tup [x, .str tag, y]) ∧ ∀ r, H' r = none → Q (.ref r) (upd H' r (.tup [.str tag, y]))
def spStrange (K : PySem.W.Frag) : Sp := fun vs H Q _ => ∃ (d a : Addr) (ks : List Int) (c : Addr) (ns : List Int), vs = [.ref d, .ref a] ∧ H a = some (.lst (ks.map V.int)) ∧ Asc ks ∧ ks.length ≤ 1000 ∧ a ≠ d ∧ Drw c ns H d ∧
  ∀ x H', x ∉ ks → -1000000001 ≤ x → x ≤ 1000000001 → Ext d H H' → Drw c ns H' d → Q (.int x) H'
def spBehind (K : PySem.W.Frag) : Sp := fun vs H Q _ => ∃ (a b : Addr) (xs : List Int) (t : T), vs = [.ref a, .ref b] ∧ SqT K H a (t.pre.map V.int) ∧ SqL K H b (xs.map V.int) ∧ t.bst ∧ t.pre.length ≤ 58 ∧ xs.length ≤ 1000 ∧ (∀ x ∈ xs, x ∈ t.pre) ∧
  ∀ p q r H', Same H H' → H r = none → H' p = some (.tup [.ref q, .ref r]) → H' q = some (.tup ((t.tchs xs).pre.map V.int)) → H' r = some (.lst ((costs t xs).map V.int)) → Q (.ref p) H'
theorem passF {X : Cx} : Passes (L2N.CX X.prog X.w) X (fun _ _ _ => False) := fun _ _ _ _ _ _ _ h => by
  obtain ⟨_, _, _, _, _, _, _, _, _, _, _, _, z⟩ := h
  exact z.elim
section
variable {X : Cx} {CX : CXT} {ps ks : List Str} {k n : Nat} {sp : Sp} {x : Str} {e : Expr} {es : List Expr} {kws : List Keyword} {t tk : TA} {p pos : Pos} {gV : List V → List V → List V} {E : XK}
theorem pe_calN0X (c : CalN X.prog X.w X.K X.mg X.base CX x 0 ks k sp gV) (hx : Passes CX X E) (hr : Room k X.A) (hg : Gl X x) (hkw : PK X kws tk) (hall : (backToKw pos (keywordEach kws X.env)).all (·.1.isSome) = true := by rfl)
    (hks : (backToKw pos (keywordEach kws X.env)).filterMap (·.1) = ks := by rfl) (hdb : (x == ("__debug__" : Str)) = false := by decide)
    (hpl : ((backTo pos (starEach [] X.env)).any (·.1) || (backToKw pos (keywordEach kws X.env)).any (·.1.isNone)) = false := by rfl) : PE X (.Call (.Name x p) [] kws pos) (tCallN 0 ks.length sp gV E tNil tk) := by
  obtain ⟨f, fd, ps, g, o, a, b, d⟩ := c.ex
  refine ⟨fun pins s0 σ H Q I0 hq => wpAny_Call_Name_kw (ld_glob I0 hg a (PySem.W.callWith_KW0 (h₀ := X.base) I0.ok.mod.kin b hall (thn (hkw.run pos pins s0 σ H _ I0 hq) fun ws1 s1 ⟨zs1, H1, I1, r1, _, z2, q1⟩ => ⟨I1.kIn, ?_⟩) hpl) hdb)⟩
  rw [hks]
  exact run_fnN (us := []) (vs := []) o hr d hx I1 .nil r1 rfl z2 q1
end
theorem first_out {P : Int → Prop} : ∀ {us as : List Int} {key odd : Int} {ws zs : List Int}, us ++ key :: ws = as ++ odd :: zs → (∀ x ∈ us, P x) → ¬ P key → (∀ x ∈ as, P x) → ¬ P odd → key = odd
  | [], [], _, _, _, _, e, _, _, _, _ => (List.cons.inj e).1
  | [], a :: as, _, _, _, _, e, _, hk, ha, _ => by
    have := (List.cons.inj e).1
    exact absurd (ha a List.mem_cons_self) (this ▸ hk)
  | u :: us, [], _, _, _, _, e, hu, _, _, ho => by
    have := (List.cons.inj e).1
    exact absurd (hu u List.mem_cons_self) (this ▸ ho)
  | u :: us, a :: as, _, _, _, _, e, hu, hk, ha, ho => first_out (List.cons.inj e).2 (fun x h => hu x (List.mem_cons_of_mem _ h)) hk (fun x h => ha x (List.mem_cons_of_mem _ h)) ho
theorem rd_neE {K : PySem.W.Frag} {H : Hp} {a b : Addr} {tag : Str} {n : Int} {Q : VK} (ha : H a = some (.tup [.str tag, .int n])) (hb : H b = some (.tup [.str tag, .int n])) (hs : PyData.strOk tag = true) (q : Q (.bl false) H) : rNeD K (.ref a) (.ref b) H Q := by
  refine ⟨_, _, .tup (SqT.of ha) (.cons (.str _) (.cons (.int _) .nil)), .tup (SqT.of hb) (.cons (.str _) (.cons (.int _) .nil)), shaped2 hs (.inr ⟨n, rfl⟩), shaped2 hs (.inr ⟨n, rfl⟩), ?_⟩
  have e : PyData.eqv (.tuple [.str tag, .int n]) (.tuple [.str tag, .int n]) = true := by
    show ((PyData.eqv (.str tag) (.str tag)) && ((n == n) && PyData.eqvAll [] [])) = true
    rw [show PyData.eqv (.str tag) (.str tag) = (tag == tag) from rfl]
    simp [PyData.eqvAll]
  rw [e]
  exact q
/-- pairs of a tuple of ints and a list of ints -/
theorem eqv_ints1L {H : Hp} {a b : Addr} {ns : List Int} (ha : H a = some (.lst (ns.map V.int))) (hb : H b = some (.lst (ns.map V.int))) (hl : ns.length ≤ 1000) : Eqv H 1 (.ref a) (.ref b) := by
  refine .inr ⟨a, b, _, _, rfl, rfl, .inl ⟨ha, hb⟩, rfl, by rw [List.length_map]; exact hl, fun i u v h1 h2 => ?_⟩
  rw [h1] at h2
  cases h2
  rw [List.getElem?_map] at h1
  obtain ⟨n, _, rfl⟩ := Option.map_eq_some_iff.mp h1
  exact ⟨rfl, rfl⟩
theorem eqv_pairT {H : Hp} {a b : Addr} {n : Nat} {x y u v : V} (ha : H a = some (.tup [x, y])) (hb : H b = some (.tup [u, v])) (h1 : Eqv H n x u) (h2 : Eqv H n y v) : Eqv H (n + 1) (.ref a) (.ref b) := by
  refine .inr ⟨a, b, _, _, rfl, rfl, .inr ⟨ha, hb⟩, rfl, by show 2 ≤ 1000; decide, fun i p q g1 g2 => ?_⟩
  match i, g1, g2 with
  | 0, g1, g2 => cases g1; cases g2; exact h1
  | 1, g1, g2 => cases g1; cases g2; exact h2
  | i + 2, g1, _ => simp at g1
theorem kn_of {ks : List Int} (h : ∀ n ∈ ks, -2000000000 ≤ n ∧ n ≤ 2000000000) : Kn ks := fun n hn => log_small (by have := h n hn; omega)
end TT
namespace TT
open PySem PySem.Spec PyProof.Rows L2 LamX
open T
/-! ### a key inserted as a leaf, then touched -/
theorem ins_path {key : Int} : ∀ {t : T}, t.bst → key ∉ t.pre → (t.ins key).path key = t.path key ++ [key]
  | leaf, _, _ => by show (node leaf key leaf).path key = _; rw [path_k]; rfl
  | node l k r, b, h => by
    rw [mem_node] at h
    have n1 : key ≠ k := fun e => h (.inl e)
    have n2 : key ∉ l.pre := fun e => h (.inr (.inl e))
    have n3 : key ∉ r.pre := fun e => h (.inr (.inr e))
    unfold ins
    have e : (node l k r).path key = if key = k then [k] else if key < k then k :: l.path key else k :: r.path key := rfl
    rw [e, if_neg n1]
    split
    · next lt =>
      show (if key = k then [k] else if key < k then k :: (l.ins key).path key else k :: r.path key) = _
      rw [if_neg n1, if_pos lt, ins_path b.2.2.1 n2]; rfl
    · next lt =>
      show (if key = k then [k] else if key < k then k :: l.path key else k :: (r.ins key).path key) = _
      rw [if_neg n1, if_neg lt, ins_path b.2.2.2 n3]; rfl
theorem ins_filter {key : Int} {p : Int → Bool} (hp : p key = false) : ∀ {t : T}, (t.ins key).pre.filter p = t.pre.filter p
  | leaf => by
    show [key].filter p = [].filter p
    rw [List.filter_cons_of_neg (by rw [hp]; exact Bool.false_ne_true)]
  | node l k r => by
    unfold ins
    split
    · show (k :: ((l.ins key).pre ++ r.pre)).filter p = (k :: (l.pre ++ r.pre)).filter p
      rw [List.filter_cons, List.filter_cons, List.filter_append, List.filter_append, ins_filter hp]
    · show (k :: (l.pre ++ (r.ins key).pre)).filter p = (k :: (l.pre ++ r.pre)).filter p
      rw [List.filter_cons, List.filter_cons, List.filter_append, List.filter_append, ins_filter hp]
theorem ins_top {key : Int} {t : T} (b : t.bst) (h : key ∉ t.pre) : ((t.ins key).tch key).pre = topL key t.pre := by
  rw [tch_pre (bst_ins b h)]
  unfold topL
  rw [ins_filter (by show (true && decide (key < key)) = false; simp), ins_filter (by show (decide (key < key) && true) = false; simp)]
theorem ins_dep {key : Int} {t : T} (b : t.bst) (h : key ∉ t.pre) : (t.ins key).dep key = (t.path key).length := by
  unfold T.dep
  rw [ins_path b h, List.length_append]; rfl
def EOw (C : Addr) (tag fn : Str) (n : Int) (H : Hp) (E : XK) : Prop := ∀ d Hf, Same H Hf → Hf d = some (.xd [(fn, .int n), ("tag", .str tag)]) → E (.ref C) (some d) Hf
theorem EOw.same {C : Addr} {tag fn : Str} {n : Int} {H H1 : Hp} {E : XK} (h : EOw C tag fn n H E) (e : Same H H1) : EOw C tag fn n H1 E := fun d Hf e2 hd => h d Hf (e.trans e2) hd
def spInsX (K : PySem.W.Frag) (C1 C2 C3 : Addr) : Sp := fun vs H Q E => ∃ (a : Addr) (key : Int) (t : T), vs = [.ref a, .int key] ∧ SqT K H a (t.pre.map V.int) ∧ t.bst ∧ t.pre.length ≤ 1000 ∧ key.natAbs.log2 < 1920 ∧
  (okK key = false → EOw C1 "BadKey" "key" key H E) ∧ (okK key = true → key ∈ t.pre → EOw C2 "DuplicateKey" "key" key H E) ∧ (okK key = true → key ∉ t.pre → 40 ≤ t.pre.length → EOw C3 "TooManyKeys" "limit" 40 H E) ∧
  (okK key = true → key ∉ t.pre → t.pre.length < 40 → ∀ p q H', Same H H' → H' p = some (.tup [.ref q, .int ((t.path key).length : Int)]) → H' q = some (.tup ((topL key t.pre).map V.int)) → Q (.ref p) H')
theorem cutV_mem {xs : List V} {lo hi : Option Int} {v : V} (h : v ∈ cutV xs lo hi) : v ∈ xs := by
  unfold cutV at h
  exact List.mem_of_mem_drop (List.mem_of_mem_take h)
theorem cutV_len {xs : List V} {lo hi : Option Int} : (cutV xs lo hi).length ≤ xs.length := by
  unfold cutV
  rw [List.length_take, List.length_drop]
  omega
/-- what an insertion is due to tell -/
def DueI (H : Hp) (du : Addr) (key : Int) (t : T) : Prop :=
  (okK key = false ∧ H du = some (.tup [.non, .str "BadKey", .int key])) ∨ (okK key = true ∧ key ∈ t.pre ∧ H du = some (.tup [.non, .str "DuplicateKey", .int key])) ∨
  (okK key = true ∧ key ∉ t.pre ∧ t.pre.length = 40 ∧ H du = some (.tup [.non, .str "TooManyKeys", .int 40])) ∨
  (okK key = true ∧ key ∉ t.pre ∧ t.pre.length < 40 ∧ ∃ pq q, H du = some (.tup [.ref pq, .str "", .non]) ∧ H pq = some (.tup [.ref q, .int ((t.path key).length : Int)]) ∧ H q = some (.tup ((topL key t.pre).map V.int)))
theorem DueI.same {H H' : Hp} {du : Addr} {key : Int} {t : T} (h : DueI H du key t) (e : Same H H') : DueI H' du key t := by
  rcases h with ⟨a, b⟩ | ⟨a, b, c⟩ | ⟨a, b, c, d⟩ | ⟨a, b, c, pq, q, d1, d2, d3⟩
  · exact .inl ⟨a, e _ _ b⟩
  · exact .inr (.inl ⟨a, b, e _ _ c⟩)
  · exact .inr (.inr (.inl ⟨a, b, c, e _ _ d⟩))
  · exact .inr (.inr (.inr ⟨a, b, c, pq, q, e _ _ d1, e _ _ d2, e _ _ d3⟩))
theorem eqv_tri {H : Hp} {a b : Addr} {n : Nat} {x y z u v w : V} (ha : H a = some (.tup [x, y, z])) (hb : H b = some (.tup [u, v, w])) (h1 : Eqv H n x u) (h2 : Eqv H n y v) (h3 : Eqv H n z w) : Eqv H (n + 1) (.ref a) (.ref b) := by
  refine .inr ⟨a, b, _, _, rfl, rfl, .inr ⟨ha, hb⟩, rfl, by show 3 ≤ 1000; decide, fun i p q g1 g2 => ?_⟩
  match i, g1, g2 with
  | 0, g1, g2 => cases g1; cases g2; exact h1
  | 1, g1, g2 => cases g1; cases g2; exact h2
  | 2, g1, g2 => cases g1; cases g2; exact h3
  | i + 3, g1, _ => simp at g1
theorem eqv_flat {H : Hp} {x : V} (h : flatV x = true) : ∀ {n : Nat}, Eqv H n x x
  | 0 => ⟨h, rfl⟩
  | n + 1 => .inl ⟨h, rfl⟩
theorem topL_len40 {key : Int} {t : T} (h : t.pre.length < 40) : (topL key t.pre).length ≤ 1000 := by have := topL_len (x := key) (ks := t.pre); omega
/-- the outcome of an insertion, by what is due -/
theorem ins_out {K : PySem.W.Frag} {C1 C2 C3 : Addr} {cT cM : Value} {s4 du : Addr} {key : Int} {t : T} {H1 : Hp} {E : XK} {R Q : VK} (hs : H1 s4 = some (.tup (t.pre.map V.int))) (hb : t.bst) (hl : t.pre.length ≤ 40) (hn : key.natAbs.log2 < 1920) (D : DueI H1 du key t)
    (n1 : PySem.W.exmAny K (.ref C1) [cT, cM] = some true) (X1 : XfC K C1) (f1 : PySem.W.findIn K (.ref C1) "tag" = some none) (f2 : PySem.W.findIn K (.ref C1) "key" = some none)
    (n2 : PySem.W.exmAny K (.ref C2) [cT, cM] = some true) (X2 : XfC K C2) (f3 : PySem.W.findIn K (.ref C2) "tag" = some none) (f4 : PySem.W.findIn K (.ref C2) "key" = some none)
    (n3 : PySem.W.exmAny K (.ref C3) [cT, cM] = some true) (X3 : XfC K C3) (f5 : PySem.W.findIn K (.ref C3) "tag" = some none) (f6 : PySem.W.findIn K (.ref C3) "limit" = some none)
    (hE : ∀ cls d H', Xo K cT cM Q cls d H' → E cls d H') (hR : ∀ v H', (∀ p H'', Same H' H'' → H' p = none → H'' p = some (.tup [v, .str "", .non]) → Q (.ref p) H'') → R v H')
    (fin : ∀ p Hx, Same H1 Hx → Eqv Hx 3 (.ref p) (.ref du) → Q (.ref p) Hx) : spInsX K C1 C2 C3 [.ref s4, .int key] H1 R E := by
  refine ⟨s4, key, t, rfl, SqT.of hs, hb, by omega, hn, fun ok => ?_, fun ok ki => ?_, fun ok ki l40 => ?_, fun ok ki l40 p q H' e hp hq => ?_⟩
  · rcases D with ⟨_, d⟩ | ⟨a, _⟩ | ⟨a, _⟩ | ⟨a, _⟩
    · exact fun dd Hf e hd => hE _ _ _ ⟨n1, C1, dd, "BadKey", .int key, rfl, rfl, bears_mk X1 f1 f2 hd (by decide +kernel) (by decide +kernel), fun p Hx ex _ hp => fin p Hx (e.trans ex) (eqv_tri hp ((e.trans ex) _ _ d) (eqv_flat rfl) (eqv_flat rfl) (eqv_flat rfl))⟩
    all_goals (rw [ok] at a; cases a)
  · rcases D with ⟨a, _⟩ | ⟨_, _, d⟩ | ⟨_, a, _⟩ | ⟨_, a, _⟩
    · rw [ok] at a; cases a
    · exact fun dd Hf e hd => hE _ _ _ ⟨n2, C2, dd, "DuplicateKey", .int key, rfl, rfl, bears_mk X2 f3 f4 hd (by decide +kernel) (by decide +kernel), fun p Hx ex _ hp => fin p Hx (e.trans ex) (eqv_tri hp ((e.trans ex) _ _ d) (eqv_flat rfl) (eqv_flat rfl) (eqv_flat rfl))⟩
    all_goals exact absurd ki a
  · rcases D with ⟨a, _⟩ | ⟨_, a, _⟩ | ⟨_, _, _, d⟩ | ⟨_, _, a, _⟩
    · rw [ok] at a; cases a
    · exact absurd a ki
    · exact fun dd Hf e hd => hE _ _ _ ⟨n3, C3, dd, "TooManyKeys", .int 40, rfl, rfl, bears_mk X3 f5 f6 hd (by decide +kernel) (by decide +kernel), fun p Hx ex _ hp => fin p Hx (e.trans ex) (eqv_tri hp ((e.trans ex) _ _ d) (eqv_flat rfl) (eqv_flat rfl) (eqv_flat rfl))⟩
    · omega
  · rcases D with ⟨a, _⟩ | ⟨_, a, _⟩ | ⟨_, _, a, _⟩ | ⟨_, _, _, pq, q2, d1, d2, d3⟩
    · rw [ok] at a; cases a
    · exact absurd a ki
    · omega
    · refine hR _ _ fun pp Hx ex _ hpp => fin pp Hx (e.trans ex) (eqv_tri hpp ((e.trans ex) _ _ d1) ?_ (eqv_flat rfl) (eqv_flat rfl))
      exact eqv_pairT (ex _ _ hp) ((e.trans ex) _ _ d2) (eqv_ints1 (ex _ _ hq) ((e.trans ex) _ _ d3) (topL_len40 l40)) (eqv_flat rfl)
end TT
namespace TT
open PySem PySem.Spec PyProof.Rows L2 LamX
open T
/-! ### a promise that asks for less -/
theorem Cal.imp {P : Program} {w : World} {K : PySem.W.Frag} {mg : Str → Option Value} {base : Heap} {CX : CXT} {x : Str} {ps : List Str} {k : Nat} {sp sp' : Sp} (c : Cal P w K mg base CX x ps k sp') (i : ∀ vs H Q E, sp vs H Q E → sp' vs H Q E) : Cal P w K mg base CX x ps k sp := by
  obtain ⟨f, fd, o, a, b, d⟩ := c.ex
  exact ⟨f, fd, ⟨fun vs H Q E h => o.len vs H Q E (i _ _ _ _ h), fun A outer s H args us vs Q E hr he hb hv h => o.run A outer s H args us vs Q E hr he hb hv (i _ _ _ _ h)⟩, a, b, d⟩
def spOfW (K : PySem.W.Frag) : Sp := fun vs H Q _ => ∃ (d a : Addr) (xs : List V) (c : Addr) (ns : List Int), vs = [.ref d, .ref a] ∧ (SqL K H a xs ∨ SqT K H a xs) ∧ 0 < xs.length ∧ xs.length ≤ 100000 ∧ a ≠ d ∧ Drw c ns H d ∧ ∀ x H', x ∈ xs → Drw c ns H' d → (∀ b, b ≠ d → H' b = H b) → Q x H'
theorem spOf_W {K : PySem.W.Frag} : ∀ vs H Q E, spOf K vs H Q E → spOfW K vs H Q E := fun vs H Q E ⟨d, a, xs, c, ns, h1, h2, h3⟩ => ⟨d, a, xs, c, ns, h1, .inl h2, h3⟩
/-- nodes that agree with a tree on its keys; other keys may have stale entries -/
def spShapeW : Sp := fun vs H Q _ => ∃ (m L R U : Addr) (t : T) (lf rf uf : Int → Option Int) (n : Nat), vs = [.ref m] ∧ Nod H m L R U t.rt lf rf uf n ∧ (∀ x ∈ t.pre, lf x = t.lc x ∧ rf x = t.rc x) ∧ t.bst ∧ t.pre.length ≤ 1000 ∧
  ∀ p H', Same H H' → H p = none → H' p = some (.tup (t.pre.map V.int)) → Q (.ref p) H'
theorem spShape_W : ∀ vs H Q E, spShape vs H Q E → spShapeW vs H Q E := fun vs H Q E ⟨m, L, R, U, t, uf, n, h1, h2, h3⟩ => ⟨m, L, R, U, t, _, _, uf, n, h1, h2, fun _ _ => ⟨rfl, rfl⟩, h3⟩
def spRemoveX (K : PySem.W.Frag) (C : Addr) : Sp := fun vs H Q E => ∃ (a : Addr) (key : Int) (t : T), vs = [.ref a, .int key] ∧ SqT K H a (t.pre.map V.int) ∧ t.bst ∧ t.pre.length ≤ 1000 ∧ Kn t.pre ∧ key.natAbs.log2 < 1920 ∧
  (key ∈ t.pre → ∀ p q gs tot H', Same H H' → RemOf t key gs tot → H' p = some (.tup [.ref q, .int tot]) → H' q = some (.tup (gs.map V.int)) → Q (.ref p) H') ∧ (key ∉ t.pre → ENo C key H E)
def spRemoved (K : PySem.W.Frag) : Sp := fun vs H Q _ => ∃ (a : Addr) (key : Int) (t : T), vs = [.ref a, .int key] ∧ SqT K H a (t.pre.map V.int) ∧ t.bst ∧ t.pre.length ≤ 58 ∧ key ∈ t.pre ∧
  ∀ p q (u : T) tot H', Same H H' → u.bst → RemOf t key u.pre tot → H' p = some (.tup [.ref q, .int tot]) → H' q = some (.tup (u.pre.map V.int)) → Q (.ref p) H'
theorem rem_det {t : T} {key tot tot' : Int} {gs gs' : List Int} (h : RemOf t key gs tot) (h' : RemOf t key gs' tot') : gs = gs' ∧ tot = tot' := by
  rcases h with ⟨n, e1, e2⟩ | ⟨m, hm, lt, g, e1, e2⟩ <;> rcases h' with ⟨n', f1, f2⟩ | ⟨m', hm', lt', g', f1, f2⟩
  · exact ⟨e1.trans f1.symm, e2.trans f2.symm⟩
  · exact absurd lt' (n _ hm')
  · exact absurd lt (n' _ hm)
  · have : m = m' := Int.le_antisymm (g' m hm lt) (g m' hm' lt')
    subst this
    exact ⟨e1.trans f1.symm, e2.trans f2.symm⟩
theorem leaf_of {t : T} (h : t.pre = []) : t = leaf := by
  cases t with
  | leaf => rfl
  | node l k r => cases h
theorem rem_A {t : T} {key : Int} (b : t.bst) (n : ∀ y ∈ t.pre, ¬ y < key) : ∃ B, t.tch key = node leaf key B := by
  refine ⟨t.restr (some key) none, ?_⟩
  unfold T.tch
  rw [leaf_of (t := t.restr none (some key))]
  rw [restr_pre b]
  exact filter_none fun x hx => decide_eq_false (n x hx)
theorem rem_B {t : T} {key m : Int} (b : t.bst) (lt : m < key) (g : ∀ y ∈ t.pre, y < key → y ≤ m) : ∃ A B, (t.tch key).tch m = node A m (node leaf key B) := by
  refine ⟨(t.tch key).restr none (some m), (t.restr (some key) none).restr (some m) none, ?_⟩
  have e : (t.tch key).restr (some m) none = node ((t.restr none (some key)).restr (some m) none) key ((t.restr (some key) none).restr (some m) none) := by
    show (if okLo (some m) key = false then _ else if okHi none key = false then _ else _) = _
    rw [if_neg (by show ¬ decide (m < key) = false; simp [lt]), if_neg (by show ¬ true = false; decide)]
  show node _ m ((t.tch key).restr (some m) none) = _
  rw [e, leaf_of (t := (t.restr none (some key)).restr (some m) none)]
  rw [restr_pre (restr_bst b), restr_pre b]
  refine filter_none fun x hx => ?_
  obtain ⟨h1, h2⟩ := List.mem_filter.mp hx
  have h3 : x < key := of_decide_eq_true (p := x < key) (by simpa [okLo, okHi] using h2)
  have := g x h1 h3
  show (decide (m < x) && true) = false
  rw [decide_eq_false (by omega)]; rfl
theorem filt_A {B : T} {key : Int} (b : (node leaf key B).bst) : (node leaf key B).pre.filter (fun y => !decide (V.int y = V.int key)) = B.pre := by
  show (key :: ([] ++ B.pre)).filter _ = _
  rw [List.filter_cons_of_neg (by simp), List.nil_append]
  exact filter_all fun x hx => int_ne.mpr (by have := b.2.1 x hx; omega)
theorem filt_B {A B : T} {m key : Int} (b : (node A m (node leaf key B)).bst) : (node A m (node leaf key B)).pre.filter (fun y => !decide (V.int y = V.int key)) = (node A m B).pre := by
  have k1 : m < key := b.2.1 key (by show key ∈ key :: _; exact List.mem_cons_self)
  show (m :: (A.pre ++ (node leaf key B).pre)).filter _ = m :: (A.pre ++ B.pre)
  rw [List.filter_cons_of_pos (p := fun y => !decide (V.int y = V.int key)) (int_ne.mpr (by omega)), List.filter_append, filt_A b.2.2.2, filter_all fun x hx => int_ne.mpr (by have := b.1 x hx; omega)]
theorem bst_B {A B : T} {m key : Int} (b : (node A m (node leaf key B)).bst) : (node A m B).bst :=
  ⟨b.1, fun x hx => b.2.1 x (by show x ∈ key :: ([] ++ B.pre); exact List.mem_cons_of_mem _ hx), b.2.2.1, b.2.2.2.2.2.2⟩
theorem agr_A {B : T} {key x : Int} (b : (node leaf key B).bst) (hx : x ∈ B.pre) : (node leaf key B).lc x = B.lc x ∧ (node leaf key B).rc x = B.rc x := by
  have := b.2.1 x hx
  rw [lc_nodeE, rc_nodeE, if_neg (by omega), if_neg (by omega), if_neg (by omega), if_neg (by omega)]
  exact ⟨rfl, rfl⟩
theorem agr_B {A B : T} {m key x : Int} (b : (node A m (node leaf key B)).bst) (hx : x ∈ (node A m B).pre) : (node A m (node leaf key B)).lc x = (node A m B).lc x ∧ setO (node A m (node leaf key B)).rc m B.rt x = (node A m B).rc x := by
  unfold setO
  rw [lc_nodeE, rc_nodeE, lc_nodeE (l := A) (r := B), rc_nodeE (l := A) (r := B)]
  by_cases e : x = m
  · simp only [if_pos e, and_self]
  · simp only [if_neg e]
    by_cases l : x < m
    · simp only [if_pos l, and_self]
    · simp only [if_neg l]
      have hB : x ∈ B.pre := by
        rcases List.mem_cons.mp (show x ∈ m :: (A.pre ++ B.pre) from hx) with h | h
        · exact absurd h e
        · rcases List.mem_append.mp h with h | h
          · exact absurd (b.1 x h) l
          · exact h
      exact agr_A b.2.2.2 hB
theorem rcB_key {A B : T} {m key : Int} (b : (node A m (node leaf key B)).bst) : (node A m (node leaf key B)).rc key = B.rt ∧ (node A m (node leaf key B)).up key = some m := by
  have k1 : m < key := b.2.1 key (by show key ∈ key :: _; exact List.mem_cons_self)
  rw [rc_nodeE, if_neg (by omega), if_neg (by omega), rc_nodeE, if_pos rfl, up_nodeR k1]
  exact ⟨rfl, if_pos rfl⟩
theorem rem_out {t : T} {key tot : Int} {gs : List Int} (b : t.bst) (hk : key ∈ t.pre) (h : RemOf t key gs tot) : key ∉ gs ∧ (∀ y ∈ gs, y ∈ t.pre) ∧ gs.length ≤ t.pre.length := by
  have pm := rem_perm b hk h
  refine ⟨fun z => ?_, fun y hy => (List.mem_filter.mp (pm.mem_iff.mp hy)).1, by rw [pm.length_eq]; exact List.length_filter_le _ _⟩
  exact int_ne.mp (List.mem_filter.mp (pm.mem_iff.mp z)).2 rfl
theorem kn32 {n : Int} (hn : n ∈ [(3 : Int), 2]) : -2000000000 ≤ n ∧ n ≤ 2000000000 := by
  rcases List.mem_cons.mp hn with rfl | h
  · decide
  · rw [List.mem_singleton.mp h]; decide
theorem or32 {y : Int} (hy : y ∈ [(3 : Int), 2]) (lt : y < 3) : y ≤ 2 := by omega
end TT
namespace TT
open PySem PySem.Spec PyProof.Rows L2 LamX
open T
/-! ### cuts and joins -/
section
variable {X : Cx} {CX : CXT} {ps ks : List Str} {k n : Nat} {sp : Sp} {x : Str} {e : Expr} {es : List Expr} {kws : List Keyword} {t tk : TA} {p pos : Pos} {gV : List V → List V → List V} {E : XK}
theorem pe_calNX (c : CalN X.prog X.w X.K X.mg X.base CX x n ks k sp gV) (hx : Passes CX X E) (hr : Room k X.A) (hg : Gl X x) (ha : PA X (e :: es) t) (hkw : PK X kws tk) (hall : (backToKw pos (keywordEach kws X.env)).all (·.1.isSome) = true := by rfl)
    (hks : (backToKw pos (keywordEach kws X.env)).filterMap (·.1) = ks := by rfl) (hdb : (x == ("__debug__" : Str)) = false := by decide) (he : starEach (e :: es) X.env = (false, eval e X.env) :: starEach es X.env := by rfl)
    (hpl : ((backTo pos (starEach (e :: es) X.env)).any (·.1) || (backToKw pos (keywordEach kws X.env)).any (·.1.isNone)) = false := by rfl) : PE X (.Call (.Name x p) (e :: es) kws pos) (tCallN n ks.length sp gV E t tk) := by
  obtain ⟨f, fd, ps, g, o, a, b, d⟩ := c.ex
  exact pe_callN o hr hg a b d hx ha hkw hall hks hdb he hpl
end
theorem rd_catA {K : PySem.W.Frag} {H : Hp} {a b : Addr} {xs ys : List V} {Q : VK} (ha : H a = some (.tup xs)) (hb : H b = some (.tup ys)) (hl : xs.length + ys.length ≤ 100000) (q : ∀ p H', Same H H' → H' p = some (.tup (xs ++ ys)) → Q (.ref p) H') : rCatA K (.ref a) (.ref b) H Q := by
  refine ⟨a, b, xs, ys, rfl, rfl, SqT.of ha, SqT.of hb, sz hl, fun e => ?_, fun _ e => ?_, fun _ _ p np => q p _ (same_new np) upd_same⟩
  · exact q b H (.refl _) (by rw [e]; exact hb)
  · exact q a H (.refl _) (by rw [e, List.append_nil]; exact ha)
theorem rd_eqT {K : PySem.W.Frag} {H : Hp} {a b : Addr} {ns ms : List Int} {Q : VK} (ha : SqT K H a (ns.map V.int)) (hb : SqT K H b (ms.map V.int)) (q : Q (.bl (decide (ns = ms))) H) : rEqD K (.ref a) (.ref b) H Q :=
  ⟨_, _, .tup ha (dp_ints ns), .tup hb (dp_ints ms), shaped_intsT ns, shaped_intsT ms, by show Q (.bl (PyData.eqvAll _ _)) H; rw [eqv_ints]; exact q⟩
def spCutX (K : PySem.W.Frag) (C : Addr) : Sp := fun vs H Q E => ∃ (a : Addr) (key : Int) (t : T), vs = [.ref a, .int key] ∧ SqT K H a (t.pre.map V.int) ∧ t.bst ∧ t.pre.length ≤ 1000 ∧ key.natAbs.log2 < 1920 ∧
  (key ∈ t.pre → ∀ p q r H', Same H H' → H' p = some (.tup [.ref q, .ref r, .int (t.dep key : Int)]) → H' q = some (.tup ((key :: (t.restr none (some key)).pre).map V.int)) → H' r = some (.tup ((t.restr (some key) none).pre.map V.int)) → Q (.ref p) H') ∧ (key ∉ t.pre → ENo C key H E)
def MaxOf (l : List Int) (m : Int) : Prop := m ∈ l ∧ ∀ y ∈ l, y ≤ m
theorem MaxOf.uniq {l : List Int} {m n : Int} (h : MaxOf l m) (g : MaxOf l n) : m = n := by have := h.2 n g.1; have := g.2 m h.1; omega
def JnA (t u : T) (gs : List Int) (tot : Int) : Prop := ((t.pre = [] ∨ u.pre = []) ∧ gs = t.pre ++ u.pre ∧ tot = 0) ∨ (t.pre ≠ [] ∧ u.pre ≠ [] ∧ t.pre.length + u.pre.length ≤ 40 ∧ ∃ m, MaxOf t.pre m ∧ (∀ y ∈ u.pre, m < y) ∧ gs = topL m t.pre ++ u.pre ∧ tot = (t.dep m : Int))
def JnO (t u : T) (m : Int) : Prop := MaxOf t.pre m ∧ ∃ y ∈ u.pre, y ≤ m
def JnT (t u : T) : Prop := t.pre ≠ [] ∧ u.pre ≠ [] ∧ 40 < t.pre.length + u.pre.length ∧ ∃ m, MaxOf t.pre m ∧ ∀ y ∈ u.pre, m < y
theorem JnA.det {t u : T} {gs gs' : List Int} {tot tot' : Int} (h : JnA t u gs tot) (g : JnA t u gs' tot') : gs = gs' ∧ tot = tot' := by
  rcases h with ⟨a, rfl, rfl⟩ | ⟨a, b, _, m, hm, _, rfl, rfl⟩ <;> rcases g with ⟨a', rfl, rfl⟩ | ⟨a', b', _, m', hm', _, rfl, rfl⟩
  · exact ⟨rfl, rfl⟩
  · rcases a with a | a
    · exact absurd a a'
    · exact absurd a b'
  · rcases a' with a' | a'
    · exact absurd a' a
    · exact absurd a' b
  · cases hm.uniq hm'; exact ⟨rfl, rfl⟩
theorem JnA.notO {t u : T} {gs : List Int} {tot m : Int} (h : JnA t u gs tot) (g : JnO t u m) : False := by
  obtain ⟨hm, y, hy, le⟩ := g
  rcases h with ⟨a, _⟩ | ⟨_, _, _, m', hm', lt, _⟩
  · rcases a with a | a
    · rw [a] at hm; cases hm.1
    · rw [a] at hy; cases hy
  · cases hm.uniq hm'
    have := lt y hy
    omega
theorem JnA.notT {t u : T} {gs : List Int} {tot : Int} (h : JnA t u gs tot) (g : JnT t u) : False := by
  obtain ⟨h1, h2, h3, _⟩ := g
  rcases h with ⟨a, _⟩ | ⟨_, _, l, _⟩
  · rcases a with a | a
    · exact h1 a
    · exact h2 a
  · omega
theorem JnO.notT {t u : T} {m : Int} (h : JnO t u m) (g : JnT t u) : False := by
  obtain ⟨_, _, _, m', hm', lt⟩ := g
  obtain ⟨hm, y, hy, le⟩ := h
  cases hm.uniq hm'
  have := lt y hy
  omega
def spJoinX (K : PySem.W.Frag) (C1 C2 : Addr) : Sp := fun vs H Q E => ∃ (a b : Addr) (t u : T), vs = [.ref a, .ref b] ∧ H a = some (.tup (t.pre.map V.int)) ∧ H b = some (.tup (u.pre.map V.int)) ∧ t.bst ∧ u.bst ∧ t.pre.length ≤ 1000 ∧ u.pre.length ≤ 1000 ∧ Kn t.pre ∧
  (∀ gs tot, JnA t u gs tot → ∀ p q H', Same H H' → H' p = some (.tup [.ref q, .int tot]) → H' q = some (.tup (gs.map V.int)) → Q (.ref p) H') ∧
  (∀ m, JnO t u m → EOw C1 "Overlap" "key" m H E) ∧ (JnT t u → EOw C2 "TooManyKeys" "limit" 40 H E)
def spJoined (K : PySem.W.Frag) : Sp := fun vs H Q _ => ∃ (a b : Addr) (t u : T), vs = [.ref a, .ref b] ∧ H a = some (.tup (t.pre.map V.int)) ∧ H b = some (.tup (u.pre.map V.int)) ∧ t.bst ∧ u.bst ∧ t.pre.length ≤ 40 ∧ u.pre.length ≤ 40 ∧
  (∀ gs tot, JnA t u gs tot → ∀ p q H', Same H H' → H' p = some (.tup [.ref q, .str "", .non, .int tot]) → H' q = some (.tup (gs.map V.int)) → Q (.ref p) H') ∧
  (∀ m, JnO t u m → ∀ p H', Same H H' → H' p = some (.tup [.non, .str "Overlap", .int m, .int 0]) → Q (.ref p) H') ∧
  (JnT t u → ∀ p H', Same H H' → H' p = some (.tup [.non, .str "TooManyKeys", .int 40, .int 0]) → Q (.ref p) H')
/-- what a join is due to tell -/
def DueJ (H : Hp) (du : Addr) (t u : T) : Prop :=
  (∃ gs tot pq q, JnA t u gs tot ∧ H du = some (.tup [.ref pq, .str "", .non]) ∧ H pq = some (.tup [.ref q, .int tot]) ∧ H q = some (.tup (gs.map V.int))) ∨
  (∃ m, JnO t u m ∧ H du = some (.tup [.non, .str "Overlap", .int m])) ∨ (JnT t u ∧ H du = some (.tup [.non, .str "TooManyKeys", .int 40]))
theorem DueJ.kept {H H' : Hp} {du : Addr} {t u : T} (h : DueJ H du t u) (e : ∀ x xs, H x = some (.tup xs) → H' x = some (.tup xs)) : DueJ H' du t u := by
  rcases h with ⟨gs, tot, pq, q, a, b, c, d⟩ | ⟨m, a, b⟩ | ⟨a, b⟩
  · exact .inl ⟨gs, tot, pq, q, a, e _ _ b, e _ _ c, e _ _ d⟩
  · exact .inr (.inl ⟨m, a, e _ _ b⟩)
  · exact .inr (.inr ⟨a, e _ _ b⟩)
theorem JnA.len {t u : T} {gs : List Int} {tot : Int} (h : JnA t u gs tot) (l1 : t.pre.length ≤ 40) (l2 : u.pre.length ≤ 40) : gs.length ≤ 1000 := by
  rcases h with ⟨_, rfl, _⟩ | ⟨_, _, _, m, _, _, rfl, _⟩
  · rw [List.length_append]; omega
  · rw [List.length_append]; have := topL_len (x := m) (ks := t.pre); omega
theorem join_out {K : PySem.W.Frag} {C1 C2 : Addr} {cT cM : Value} {a b du : Addr} {t u : T} {H1 : Hp} {E : XK} {R Q : VK} (ha : H1 a = some (.tup (t.pre.map V.int))) (hb : H1 b = some (.tup (u.pre.map V.int))) (bt : t.bst) (bu : u.bst) (l1 : t.pre.length ≤ 40) (l2 : u.pre.length ≤ 40) (kn : Kn t.pre) (D : DueJ H1 du t u)
    (n1 : PySem.W.exmAny K (.ref C1) [cT, cM] = some true) (X1 : XfC K C1) (f1 : PySem.W.findIn K (.ref C1) "tag" = some none) (f2 : PySem.W.findIn K (.ref C1) "key" = some none)
    (n2 : PySem.W.exmAny K (.ref C2) [cT, cM] = some true) (X2 : XfC K C2) (f3 : PySem.W.findIn K (.ref C2) "tag" = some none) (f4 : PySem.W.findIn K (.ref C2) "limit" = some none)
    (hE : ∀ cls d H', Xo K cT cM Q cls d H' → E cls d H') (hR : ∀ v H', (∀ p H'', Same H' H'' → H' p = none → H'' p = some (.tup [v, .str "", .non]) → Q (.ref p) H'') → R v H')
    (fin : ∀ p Hx, Same H1 Hx → Eqv Hx 3 (.ref p) (.ref du) → Q (.ref p) Hx) : spJoinX K C1 C2 [.ref a, .ref b] H1 R E := by
  refine ⟨a, b, t, u, rfl, ha, hb, bt, bu, by omega, by omega, kn, fun gs tot j p q H' e hp hq => ?_, fun m j => ?_, fun j => ?_⟩
  · rcases D with ⟨gs', tot', pq, q2, j', d1, d2, d3⟩ | ⟨m, j', _⟩ | ⟨j', _⟩
    · obtain ⟨rfl, rfl⟩ := j.det j'
      refine hR _ _ fun pp Hx ex _ hpp => fin pp Hx (e.trans ex) (eqv_tri hpp ((e.trans ex) _ _ d1) ?_ (eqv_flat rfl) (eqv_flat rfl))
      exact eqv_pairT (ex _ _ hp) ((e.trans ex) _ _ d2) (eqv_ints1 (ex _ _ hq) ((e.trans ex) _ _ d3) (j.len l1 l2)) (eqv_flat rfl)
    · exact (j.notO j').elim
    · exact (j.notT j').elim
  · rcases D with ⟨gs', tot', pq, q2, j', _⟩ | ⟨m', j', d⟩ | ⟨j', _⟩
    · exact (j'.notO j).elim
    · cases j.1.uniq j'.1
      exact fun dd Hf e hd => hE _ _ _ ⟨n1, C1, dd, "Overlap", .int m, rfl, rfl, bears_mk X1 f1 f2 hd (by decide +kernel) (by decide +kernel), fun p Hx ex _ hp => fin p Hx (e.trans ex) (eqv_tri hp ((e.trans ex) _ _ d) (eqv_flat rfl) (eqv_flat rfl) (eqv_flat rfl))⟩
    · exact (j.notT j').elim
  · rcases D with ⟨gs', tot', pq, q2, j', _⟩ | ⟨m', j', _⟩ | ⟨_, d⟩
    · exact (j'.notT j).elim
    · exact (j'.notT j).elim
    · exact fun dd Hf e hd => hE _ _ _ ⟨n2, C2, dd, "TooManyKeys", .int 40, rfl, rfl, bears_mk X2 f3 f4 hd (by decide +kernel) (by decide +kernel), fun p Hx ex _ hp => fin p Hx (e.trans ex) (eqv_tri hp ((e.trans ex) _ _ d) (eqv_flat rfl) (eqv_flat rfl) (eqv_flat rfl))⟩
theorem joined_pre {t u : T} {m : Int} (bt : t.bst) (bu : u.bst) (hm : MaxOf t.pre m) (lt : ∀ y ∈ u.pre, m < y) : insAll u.pre (t.tch m) = node (t.restr none (some m)) m u ∧ (insAll u.pre (t.tch m)).pre = topL m t.pre ++ u.pre := by
  have e0 : t.restr (some m) none = leaf := leaf_of (by
    rw [restr_pre bt]
    refine filter_none fun x hx => ?_
    have := hm.2 x hx
    show (decide (m < x) && true) = false
    rw [Bool.and_true, decide_eq_false_iff_not]
    omega)
  have e1 : insAll u.pre (t.tch m) = node (t.restr none (some m)) m u := by
    unfold T.tch
    rw [e0, insAll_split, filter_none (fun x hx => by have := lt x hx; rw [decide_eq_false_iff_not]; omega), filter_all (fun x hx => by have := lt x hx; rw [Bool.not_eq_true', decide_eq_false_iff_not]; omega), insAll_pre bu]
    rfl
  refine ⟨e1, ?_⟩
  rw [e1]
  have e2 : topL m t.pre = m :: (t.restr none (some m)).pre := by
    rw [← tch_pre bt]
    unfold T.tch
    rw [e0]
    show m :: ((t.restr none (some m)).pre ++ []) = _
    rw [List.append_nil]
  rw [e2]
  rfl
theorem pre_le {l r : T} {k : Int} (b : (node l k r).bst) : (node l k r).pre.filter (fun x => decide (x ≤ k)) = k :: l.pre := by
  have hl : ∀ x ∈ l.pre, x < k := b.1
  have hr : ∀ x ∈ r.pre, k < x := b.2.1
  show (k :: (l.pre ++ r.pre)).filter _ = _
  rw [List.filter_cons_of_pos (by simp), List.filter_append, filter_all (fun x hx => by have := hl x hx; rw [decide_eq_true_iff]; omega), filter_none (fun x hx => by have := hr x hx; rw [decide_eq_false_iff_not]; omega), List.append_nil]
def ToldJ (H : Hp) (tp : Addr) (t u : T) : Prop :=
  (∃ gs tot q, JnA t u gs tot ∧ H tp = some (.tup [.ref q, .str "", .non, .int tot]) ∧ H q = some (.tup (gs.map V.int))) ∨
  (∃ m, JnO t u m ∧ H tp = some (.tup [.non, .str "Overlap", .int m, .int 0])) ∨ (JnT t u ∧ H tp = some (.tup [.non, .str "TooManyKeys", .int 40, .int 0]))
def farL (n : Nat) : List Int := (List.range n).map fun (k : Nat) => (999999991 + (k : Int))
theorem farL_succ (n : Nat) : farL (n + 1) = farL n ++ [999999991 + (n : Int)] := by unfold farL; rw [List.range_succ, List.map_append]; rfl
theorem farL_len (n : Nat) : (farL n).length = n := by unfold farL; rw [List.length_map, List.length_range]
theorem farL_asc {n : Nat} (h : n ≤ 9) : Asc (farL n) := by
  refine ⟨?_, fun k hk => ?_⟩
  · unfold farL
    rw [List.pairwise_map]
    exact List.pairwise_lt_range.imp fun h => by omega
  · obtain ⟨j, hj, rfl⟩ := List.mem_map.mp hk
    have := List.mem_range.mp hj
    omega
theorem kn_sub {l m : List Int} (h : Kn m) (s : ∀ x ∈ l, x ∈ m) : Kn l := fun x hx => h x (s x hx)
/-- a pair of shapes to be joined -/
def PairOk (H : Hp) (v : V) : Prop := ∃ (p a b : Addr) (t u : T), v = .ref p ∧ H p = some (.tup [.ref a, .ref b]) ∧ H a = some (.tup (t.pre.map V.int)) ∧ H b = some (.tup (u.pre.map V.int)) ∧ t.bst ∧ u.bst ∧ t.pre.length ≤ 40 ∧ u.pre.length ≤ 40 ∧ Kn t.pre
theorem PairOk.kept {H H' : Hp} {v : V} (h : PairOk H v) (e : ∀ x xs, H x = some (.tup xs) → H' x = some (.tup xs)) : PairOk H' v := by
  obtain ⟨p, a, b, t, u, h1, h2, h3, h4, r⟩ := h
  exact ⟨p, a, b, t, u, h1, e _ _ h2, e _ _ h3, e _ _ h4, r⟩
end TT
namespace TT
open PySem PySem.Spec PyProof.Rows L2
/-! ### min, max of a list of ints with default=None -/
section
variable {prog : Program} {w : World} {A : Around} {R : Result → Shared → Prop} {I : Addr} {fp wr : List Addr} {n : Nat} {P : Nat → Value → Prop} {St : Nat → Heap → Prop}

theorem maxD_loop (W : Walks prog w A.in1 I fp wr n P St) (bt : Nat → Nat → Bool) (cmp : CmpOf prog w A.in1 .Gt P bt) (S : Addr) (out : S ∉ fp) (dv : Value) : ∀ (m i : Nat) (s : Shared) (best : Value) (ep : Nat), n - (i + 1) = m → i + 1 ≤ n → St (i + 1) s.heap → P (argBest bt i) best →
    s.heap.get? S = some { cls := .type "list", dict := none, data := .seq #[best, best] ep, slots := #[] } → (∀ v h' tk, P (argBest bt (n - 1)) v → (∀ b o, b ∉ wr → b ≠ S → s.heap.get? b = some o → h'.get? b = some o) → R (.ok (.ret v)) { s with heap := h', toks := tk }) →
    codeAny (model prog w) A (.builtin "max.loop" ⟨[.ref I, .none, .ref S], [(Str.ofString "default", dv)]⟩) R s := by
  have outw : S ∉ wr := fun h => out (W.sub _ h)
  have nm : (toString "max" ++ toString ".loop" : String) = "max.loop" := by decide
  intro m
  induction m with
  | zero =>
    intro i s best ep em ei st pb at0 fin
    have ein : i + 1 = n := by omega
    refine codeAny_builtin F.entry_max_loop ?_; rw [Around.under_plainId F.plain_max_loop _]; show wpAny _ A.in1 (seqItems? (.ref S) >>= _) _ _ s
    refine wpAny_bind (wpAny_seqItems at0 rfl ?_); show wpAny _ A.in1 (tryCatch (pyNext (.ref I)) _ >>= _) _ _ s
    refine wpAny_bind (wpAny_tryCatch (W.done s _ _ (ein ▸ st) fun h1 tk keep => ?_)); show wpAny _ A.in1 (updateSeq S (fun _ => #[]) >>= _) _ _ _
    exact wpAny_bind (wpAny_updateSeq (keep S _ outw at0) rfl (wpAny_bind (wpAny_letGo (wpAny_pure (fin best _ tk (by rw [← ein]; exact pb) fun b o bw bS e => (Heap.get?_update_other _ _ (Ne.symm bS)).trans (keep b o bw e))))))
  | succ m ih =>
    intro i s best ep em ei st pb at0 fin
    have lt : i + 1 < n := by omega
    refine codeAny_builtin F.entry_max_loop ?_; rw [Around.under_plainId F.plain_max_loop _]; show wpAny _ A.in1 (seqItems? (.ref S) >>= _) _ _ s
    refine wpAny_bind (wpAny_seqItems at0 rfl ?_); show wpAny _ A.in1 (tryCatch (pyNext (.ref I)) _ >>= _) _ _ s
    refine wpAny_bind (wpAny_tryCatch (W.item (i + 1) s _ _ lt st fun v h1 tk pv1 st1 keep => ?_)); show wpAny _ A.in1 (tryCatch (holding [v, v] (richCompare .Gt v best >>= _)) _ >>= _) _ _ _
    have at1 := keep S _ outw at0
    refine wpAny_bind (wpAny_tryCatch (wpAny_holding (wpAny_bind (cmp (i + 1) (argBest bt i) v best _ _ _ pv1 pb (wpAny_bind (wpAny_holding (wpAny_truthy_bool (wpAny_bind (wpAny_letGo (wpAny_pure ?_))))))))))
    cases eb : bt (i + 1) (argBest bt i) with
    | true =>
      simp only [if_true]; refine wpAny_bind (wpAny_updateSeq at1 rfl (wpAny_bind (wpAny_letGo ?_))); rw [nm]
      refine wpAny_pure ⟨plainId_quiet F.plain_max_loop _, ih (i + 1) _ v _ (by omega) lt (W.frame _ _ _ st1 fun b bf o e => (Heap.get?_update_other _ _ (fun h : S = b => out (by rw [h]; exact bf))).trans e) (by simp only [argBest, eb, if_true]; exact pv1) (Heap.get?_update_self _ at1 rfl) fun v2 h2 tk2 p2 keep2 => fin v2 h2 tk2 p2 fun b o bw bS e => keep2 b o bw bS ((Heap.get?_update_other _ _ (Ne.symm bS)).trans (keep b o bw e))⟩
    | false =>
      simp only [Bool.false_eq_true, if_false]; refine wpAny_bind (wpAny_letGo ?_); rw [nm]
      exact wpAny_pure ⟨plainId_quiet F.plain_max_loop _, ih (i + 1) _ best ep (by omega) lt st1 (by simp only [argBest, eb, Bool.false_eq_true, if_false]; exact pb) at1 fun v2 h2 tk2 p2 keep2 => fin v2 h2 tk2 p2 fun b o bw bS e => keep2 b o bw bS (keep b o bw e)⟩
theorem maxD_first (W : Walks prog w A.in1 I fp wr n P St) (bt : Nat → Nat → Bool) (cmp : CmpOf prog w A.in1 .Gt P bt) (S : Addr) (out : S ∉ fp) (dv : Value) {s : Shared} {ep : Nat} (st : St 0 s.heap) (at0 : s.heap.get? S = some { cls := .type "list", dict := none, data := .seq #[] ep, slots := #[] })
    (fin : ∀ v h' tk, (n = 0 ∧ v = dv) ∨ (0 < n ∧ P (argBest bt (n - 1)) v) → (∀ b o, b ∉ wr → b ≠ S → s.heap.get? b = some o → h'.get? b = some o) → R (.ok (.ret v)) { s with heap := h', toks := tk }) :
    codeAny (model prog w) A (.builtin "max.loop" ⟨[.ref I, .none, .ref S], [(Str.ofString "default", dv)]⟩) R s := by
  have outw : S ∉ wr := fun h => out (W.sub _ h)
  have nm : (toString "max" ++ toString ".loop" : String) = "max.loop" := by decide
  refine codeAny_builtin F.entry_max_loop ?_; rw [Around.under_plainId F.plain_max_loop _]; show wpAny _ A.in1 (seqItems? (.ref S) >>= _) _ _ s
  refine wpAny_bind (wpAny_seqItems at0 rfl ?_); show wpAny _ A.in1 (tryCatch (pyNext (.ref I)) _ >>= _) _ _ s
  by_cases n0 : n = 0
  · subst n0
    refine wpAny_bind (wpAny_tryCatch (W.done s _ _ st fun h1 tk keep => ?_))
    exact wpAny_bind (wpAny_rule (wpAny_pure (fin dv h1 tk (.inl ⟨rfl, rfl⟩) fun b o bw _ e => keep b o bw e)))
  · have np : 0 < n := Nat.pos_of_ne_zero n0
    refine wpAny_bind (wpAny_tryCatch (W.item 0 s _ _ np st fun v h1 tk pv1 st1 keep => ?_)); show wpAny _ A.in1 (updateSeq S (fun _ => #[v, v]) >>= _) _ _ _
    have at1 := keep S _ outw at0
    refine wpAny_bind (wpAny_updateSeq at1 rfl ?_); rw [nm]
    exact wpAny_pure ⟨plainId_quiet F.plain_max_loop _, maxD_loop W bt cmp S out dv _ 0 _ v _ rfl np (W.frame _ _ _ st1 fun b bf o e => (Heap.get?_update_other _ _ (fun h : S = b => out (by rw [h]; exact bf))).trans e) pv1 (Heap.get?_update_self _ at1 rfl) fun v2 h2 tk2 p2 keep2 => fin v2 h2 tk2 (.inr ⟨np, p2⟩) fun b o bw bS e => keep2 b o bw bS ((Heap.get?_update_other _ _ (Ne.symm bS)).trans (keep b o bw e))⟩

theorem minD_loop (W : Walks prog w A.in1 I fp wr n P St) (bt : Nat → Nat → Bool) (cmp : CmpOf prog w A.in1 .Lt P bt) (S : Addr) (out : S ∉ fp) (dv : Value) : ∀ (m i : Nat) (s : Shared) (best : Value) (ep : Nat), n - (i + 1) = m → i + 1 ≤ n → St (i + 1) s.heap → P (argBest bt i) best →
    s.heap.get? S = some { cls := .type "list", dict := none, data := .seq #[best, best] ep, slots := #[] } → (∀ v h' tk, P (argBest bt (n - 1)) v → (∀ b o, b ∉ wr → b ≠ S → s.heap.get? b = some o → h'.get? b = some o) → R (.ok (.ret v)) { s with heap := h', toks := tk }) →
    codeAny (model prog w) A (.builtin "min.loop" ⟨[.ref I, .none, .ref S], [(Str.ofString "default", dv)]⟩) R s := by
  have outw : S ∉ wr := fun h => out (W.sub _ h)
  have nm : (toString "min" ++ toString ".loop" : String) = "min.loop" := by decide
  intro m
  induction m with
  | zero =>
    intro i s best ep em ei st pb at0 fin
    have ein : i + 1 = n := by omega
    refine codeAny_builtin F.entry_min_loop ?_; rw [Around.under_plainId F.plain_min_loop _]; show wpAny _ A.in1 (seqItems? (.ref S) >>= _) _ _ s
    refine wpAny_bind (wpAny_seqItems at0 rfl ?_); show wpAny _ A.in1 (tryCatch (pyNext (.ref I)) _ >>= _) _ _ s
    refine wpAny_bind (wpAny_tryCatch (W.done s _ _ (ein ▸ st) fun h1 tk keep => ?_)); show wpAny _ A.in1 (updateSeq S (fun _ => #[]) >>= _) _ _ _
    exact wpAny_bind (wpAny_updateSeq (keep S _ outw at0) rfl (wpAny_bind (wpAny_letGo (wpAny_pure (fin best _ tk (by rw [← ein]; exact pb) fun b o bw bS e => (Heap.get?_update_other _ _ (Ne.symm bS)).trans (keep b o bw e))))))
  | succ m ih =>
    intro i s best ep em ei st pb at0 fin
    have lt : i + 1 < n := by omega
    refine codeAny_builtin F.entry_min_loop ?_; rw [Around.under_plainId F.plain_min_loop _]; show wpAny _ A.in1 (seqItems? (.ref S) >>= _) _ _ s
    refine wpAny_bind (wpAny_seqItems at0 rfl ?_); show wpAny _ A.in1 (tryCatch (pyNext (.ref I)) _ >>= _) _ _ s
    refine wpAny_bind (wpAny_tryCatch (W.item (i + 1) s _ _ lt st fun v h1 tk pv1 st1 keep => ?_)); show wpAny _ A.in1 (tryCatch (holding [v, v] (richCompare .Lt v best >>= _)) _ >>= _) _ _ _
    have at1 := keep S _ outw at0
    refine wpAny_bind (wpAny_tryCatch (wpAny_holding (wpAny_bind (cmp (i + 1) (argBest bt i) v best _ _ _ pv1 pb (wpAny_bind (wpAny_holding (wpAny_truthy_bool (wpAny_bind (wpAny_letGo (wpAny_pure ?_))))))))))
    cases eb : bt (i + 1) (argBest bt i) with
    | true =>
      simp only [if_true]; refine wpAny_bind (wpAny_updateSeq at1 rfl (wpAny_bind (wpAny_letGo ?_))); rw [nm]
      refine wpAny_pure ⟨plainId_quiet F.plain_min_loop _, ih (i + 1) _ v _ (by omega) lt (W.frame _ _ _ st1 fun b bf o e => (Heap.get?_update_other _ _ (fun h : S = b => out (by rw [h]; exact bf))).trans e) (by simp only [argBest, eb, if_true]; exact pv1) (Heap.get?_update_self _ at1 rfl) fun v2 h2 tk2 p2 keep2 => fin v2 h2 tk2 p2 fun b o bw bS e => keep2 b o bw bS ((Heap.get?_update_other _ _ (Ne.symm bS)).trans (keep b o bw e))⟩
    | false =>
      simp only [Bool.false_eq_true, if_false]; refine wpAny_bind (wpAny_letGo ?_); rw [nm]
      exact wpAny_pure ⟨plainId_quiet F.plain_min_loop _, ih (i + 1) _ best ep (by omega) lt st1 (by simp only [argBest, eb, Bool.false_eq_true, if_false]; exact pb) at1 fun v2 h2 tk2 p2 keep2 => fin v2 h2 tk2 p2 fun b o bw bS e => keep2 b o bw bS (keep b o bw e)⟩
theorem minD_first (W : Walks prog w A.in1 I fp wr n P St) (bt : Nat → Nat → Bool) (cmp : CmpOf prog w A.in1 .Lt P bt) (S : Addr) (out : S ∉ fp) (dv : Value) {s : Shared} {ep : Nat} (st : St 0 s.heap) (at0 : s.heap.get? S = some { cls := .type "list", dict := none, data := .seq #[] ep, slots := #[] })
    (fin : ∀ v h' tk, (n = 0 ∧ v = dv) ∨ (0 < n ∧ P (argBest bt (n - 1)) v) → (∀ b o, b ∉ wr → b ≠ S → s.heap.get? b = some o → h'.get? b = some o) → R (.ok (.ret v)) { s with heap := h', toks := tk }) :
    codeAny (model prog w) A (.builtin "min.loop" ⟨[.ref I, .none, .ref S], [(Str.ofString "default", dv)]⟩) R s := by
  have outw : S ∉ wr := fun h => out (W.sub _ h)
  have nm : (toString "min" ++ toString ".loop" : String) = "min.loop" := by decide
  refine codeAny_builtin F.entry_min_loop ?_; rw [Around.under_plainId F.plain_min_loop _]; show wpAny _ A.in1 (seqItems? (.ref S) >>= _) _ _ s
  refine wpAny_bind (wpAny_seqItems at0 rfl ?_); show wpAny _ A.in1 (tryCatch (pyNext (.ref I)) _ >>= _) _ _ s
  by_cases n0 : n = 0
  · subst n0
    refine wpAny_bind (wpAny_tryCatch (W.done s _ _ st fun h1 tk keep => ?_))
    exact wpAny_bind (wpAny_rule (wpAny_pure (fin dv h1 tk (.inl ⟨rfl, rfl⟩) fun b o bw _ e => keep b o bw e)))
  · have np : 0 < n := Nat.pos_of_ne_zero n0
    refine wpAny_bind (wpAny_tryCatch (W.item 0 s _ _ np st fun v h1 tk pv1 st1 keep => ?_)); show wpAny _ A.in1 (updateSeq S (fun _ => #[v, v]) >>= _) _ _ _
    have at1 := keep S _ outw at0
    refine wpAny_bind (wpAny_updateSeq at1 rfl ?_); rw [nm]
    exact wpAny_pure ⟨plainId_quiet F.plain_min_loop _, minD_loop W bt cmp S out dv _ 0 _ v _ rfl np (W.frame _ _ _ st1 fun b bf o e => (Heap.get?_update_other _ _ (fun h : S = b => out (by rw [h]; exact bf))).trans e) pv1 (Heap.get?_update_self _ at1 rfl) fun v2 h2 tk2 p2 keep2 => fin v2 h2 tk2 (.inr ⟨np, p2⟩) fun b o bw bS e => keep2 b o bw bS ((Heap.get?_update_other _ _ (Ne.symm bS)).trans (keep b o bw e))⟩
end
section
variable {prog : Program} {w : World} {A : Around} {E : Value → Shared → Prop} {s : Shared}
theorem call_treeK {id : String} {b : Builtin} {xs : List Value} {kw : List (Str × Value)} {Q : Value → Shared → Prop} (hk : builtinKind id = none) (hp : plainId id = true) (hb : entryFor table id = some b) (ha : argsOk id ⟨xs, kw⟩)
    (hc : wpAny (model prog w) A.in1 (b ⟨xs, kw⟩) (fun fin s' => match fin with
      | .done f => (match (Except.ok f : Result) with | .ok (.ret v) => Q v s' | .ok _ => False | .error e => E e s')
      | .again c' => c'.quiet = true ∧ codeAny (model prog w) A c' (fun r s' => match r with | .ok (.ret v) => Q v s' | .ok _ => False | .error e => E e s') s') E s) : wpAny (model prog w) A (call (.builtin id) xs kw) Q E s := by
  refine wpAny_call (codeAny_call_builtin hp hb ?_); simp only [checkBuiltinCall, hk]
  cases hsig : Manifest.signature? id with
  | none => exact wpAny_pure hc
  | some sig =>
    simp only [argsOk, hsig] at ha
    show wpAny _ A.in1 (Bind.checkArgs id sig ⟨xs, kw⟩) _ _ s
    rw [show Bind.checkArgs id sig ⟨xs, kw⟩ = pure () from ha]; exact wpAny_pure hc
theorem old_keptL {l : Addr} {h' : Heap} (hk : ∀ b o, b ∉ [s.heap.objs.size] → (s.heap.push { cls := .type "list_iterator", data := .fields #[.ref l, .int 0 0] }).get? b = some o → h'.get? b = some o) : ∀ b o, s.heap.get? b = some o → h'.get? b = some o := fun b o e => by
  refine hk b o (fun hm => ?_) (Heap.get?_push_of_some _ e)
  rcases List.mem_cons.mp hm with e1 | hm
  · exact absurd (e1 ▸ Heap.lt_size e) (Nat.lt_irrefl _)
  · cases hm

theorem args_maxD (a d : Value) : argsOk "max" ⟨[a], [(Str.ofString "default", d)]⟩ := by unfold argsOk; kernel_rfl
theorem call_maxD {x dv : Value} {Q : Value → Shared → Prop} (h : wpAny (model prog w) A.in1 (pyIter x) (fun it s₂ => ∃ I fp wr n P St bt, it = .ref I ∧ Walks prog w A.in1 I fp wr n P St ∧ St 0 s₂.heap ∧ (∀ b ∈ fp, b < s₂.heap.objs.size) ∧ CmpOf prog w A.in1 .Gt P bt ∧
      ∀ v h' tk, (n = 0 ∧ v = dv) ∨ (0 < n ∧ P (argBest bt (n - 1)) v) → (∀ b o, b ∉ wr → s₂.heap.get? b = some o → h'.get? b = some o) → Q v { s₂ with heap := h', toks := tk }) E s) :
    wpAny (model prog w) A (call (.builtin "max") [x] [(Str.ofString "default", dv)]) Q E s := by
  have nm : (toString "max" ++ toString ".loop" : String) = "max.loop" := by decide
  refine call_treeK F.kind_max F.plain_max F.entry_max (args_maxD _ _) ?_
  show wpAny _ A.in1 (Builtin.Builtins.bindParams "max" ["key", "default"] 0 ⟨[], [(Str.ofString "default", dv)]⟩ >>= _) _ _ s
  refine wpAny_bind (wpAny_of_eq (show Builtin.Builtins.bindParams "max" ["key", "default"] 0 ⟨[], [(Str.ofString "default", dv)]⟩ = pure [none, some dv] from rfl) (wpAny_bind (wpAny_pure (wpAny_bind (wpAny_mono h (fun it s2 h2 => ?_) fun _ _ e => e)))))
  obtain ⟨I, fp, wr, n, P, St, bt, rfl, W, st, inH, cmp, fin⟩ := h2
  refine wpAny_bind (wpAny_newObj_type ?_); rw [nm]
  exact wpAny_pure ⟨plainId_quiet F.plain_max_loop _, maxD_first W bt cmp s2.heap.objs.size (fun hm => Nat.lt_irrefl _ (inH _ hm)) dv (W.frame _ _ _ st fun b _ o e => Heap.get?_push_of_some _ e) (Heap.get?_push_size _ rfl) fun v h' tk hP keep => fin v h' tk hP fun b o bw e => keep b o bw (Nat.ne_of_lt (Heap.lt_size e)) (Heap.get?_push_of_some _ e)⟩
theorem maxD_raw {l : Addr} {its : List Value} {ns : List Int} {dv : Value} {Q : Value → Shared → Prop} (hh : A.handled = none) (hl : s.heap.IsList l its.toArray) (hi : IntsAre its ns)
    (q : ∀ h' tk v, (∀ b o, s.heap.get? b = some o → h'.get? b = some o) → (ns = [] ∧ v = dv) ∨ (∃ M t', v = .int M t' ∧ M ∈ ns ∧ ∀ a, a ∈ ns → a ≤ M) → Q v { s with heap := h', toks := tk }) : wpAny (model prog w) A (call (.builtin "max") [.ref l] [(Str.ofString "default", dv)]) Q E s := by
  obtain ⟨xs, e⟩ := hi.allInts.items
  have hn : numsOf (intItems xs).toList = ns := by rw [← e]; exact hi.numsOf
  rw [nums_intItems] at hn; subst hn; rw [e] at hl
  refine call_maxD (iter_intList hl fun s₂ e2 st inH hlI => ?_)
  subst e2
  refine ⟨_, _, _, _, _, _, _, rfl, Walks.list (A := A.in1) hh _ l hlI (intItems xs), st, inH, CmpOf.ints_gt (numAt xs) (fun _ _ => intItems_at), fun v h' tk hP keep => q h' tk v (old_keptL keep) ?_⟩
  rcases hP with ⟨n0, hv⟩ | ⟨np, hP⟩
  · exact .inl ⟨List.eq_nil_of_length_eq_zero (by simpa [intItems] using n0), hv⟩
  · have hv : (intItems xs)[argBest (fun i j => decide (numAt xs i > numAt xs j)) (xs.size - 1)]? = some v := by simpa [intItems] using hP
    have hsz : 0 < xs.size := by simpa [intItems] using np
    obtain ⟨t, rfl⟩ := intItems_at hv
    obtain ⟨h1, h2⟩ := argBest_gt (numAt xs) (xs.size - 1)
    refine .inr ⟨_, t, rfl, by rw [numAt_eq]; exact PySem.getD_mem (by rw [List.length_map, Array.length_toList]; omega), fun a ha => ?_⟩
    obtain ⟨j, hj, rfl⟩ := mem_getD ha; rw [List.length_map, Array.length_toList] at hj
    rw [← numAt_eq]; exact h2 j (by omega)

theorem args_minD (a d : Value) : argsOk "min" ⟨[a], [(Str.ofString "default", d)]⟩ := by unfold argsOk; kernel_rfl
theorem call_minD {x dv : Value} {Q : Value → Shared → Prop} (h : wpAny (model prog w) A.in1 (pyIter x) (fun it s₂ => ∃ I fp wr n P St bt, it = .ref I ∧ Walks prog w A.in1 I fp wr n P St ∧ St 0 s₂.heap ∧ (∀ b ∈ fp, b < s₂.heap.objs.size) ∧ CmpOf prog w A.in1 .Lt P bt ∧
      ∀ v h' tk, (n = 0 ∧ v = dv) ∨ (0 < n ∧ P (argBest bt (n - 1)) v) → (∀ b o, b ∉ wr → s₂.heap.get? b = some o → h'.get? b = some o) → Q v { s₂ with heap := h', toks := tk }) E s) :
    wpAny (model prog w) A (call (.builtin "min") [x] [(Str.ofString "default", dv)]) Q E s := by
  have nm : (toString "min" ++ toString ".loop" : String) = "min.loop" := by decide
  refine call_treeK F.kind_min F.plain_min F.entry_min (args_minD _ _) ?_
  show wpAny _ A.in1 (Builtin.Builtins.bindParams "min" ["key", "default"] 0 ⟨[], [(Str.ofString "default", dv)]⟩ >>= _) _ _ s
  refine wpAny_bind (wpAny_of_eq (show Builtin.Builtins.bindParams "min" ["key", "default"] 0 ⟨[], [(Str.ofString "default", dv)]⟩ = pure [none, some dv] from rfl) (wpAny_bind (wpAny_pure (wpAny_bind (wpAny_mono h (fun it s2 h2 => ?_) fun _ _ e => e)))))
  obtain ⟨I, fp, wr, n, P, St, bt, rfl, W, st, inH, cmp, fin⟩ := h2
  refine wpAny_bind (wpAny_newObj_type ?_); rw [nm]
  exact wpAny_pure ⟨plainId_quiet F.plain_min_loop _, minD_first W bt cmp s2.heap.objs.size (fun hm => Nat.lt_irrefl _ (inH _ hm)) dv (W.frame _ _ _ st fun b _ o e => Heap.get?_push_of_some _ e) (Heap.get?_push_size _ rfl) fun v h' tk hP keep => fin v h' tk hP fun b o bw e => keep b o bw (Nat.ne_of_lt (Heap.lt_size e)) (Heap.get?_push_of_some _ e)⟩
theorem minD_raw {l : Addr} {its : List Value} {ns : List Int} {dv : Value} {Q : Value → Shared → Prop} (hh : A.handled = none) (hl : s.heap.IsList l its.toArray) (hi : IntsAre its ns)
    (q : ∀ h' tk v, (∀ b o, s.heap.get? b = some o → h'.get? b = some o) → (ns = [] ∧ v = dv) ∨ (∃ M t', v = .int M t' ∧ M ∈ ns ∧ ∀ a, a ∈ ns → M ≤ a) → Q v { s with heap := h', toks := tk }) : wpAny (model prog w) A (call (.builtin "min") [.ref l] [(Str.ofString "default", dv)]) Q E s := by
  obtain ⟨xs, e⟩ := hi.allInts.items
  have hn : numsOf (intItems xs).toList = ns := by rw [← e]; exact hi.numsOf
  rw [nums_intItems] at hn; subst hn; rw [e] at hl
  refine call_minD (iter_intList hl fun s₂ e2 st inH hlI => ?_)
  subst e2
  refine ⟨_, _, _, _, _, _, _, rfl, Walks.list (A := A.in1) hh _ l hlI (intItems xs), st, inH, CmpOf.ints_lt (numAt xs) (fun _ _ => intItems_at), fun v h' tk hP keep => q h' tk v (old_keptL keep) ?_⟩
  rcases hP with ⟨n0, hv⟩ | ⟨np, hP⟩
  · exact .inl ⟨List.eq_nil_of_length_eq_zero (by simpa [intItems] using n0), hv⟩
  · have hv : (intItems xs)[argBest (fun i j => decide (numAt xs i < numAt xs j)) (xs.size - 1)]? = some v := by simpa [intItems] using hP
    have hsz : 0 < xs.size := by simpa [intItems] using np
    obtain ⟨t, rfl⟩ := intItems_at hv
    obtain ⟨h1, h2⟩ := argBest_lt (numAt xs) (xs.size - 1)
    refine .inr ⟨_, t, rfl, by rw [numAt_eq]; exact PySem.getD_mem (by rw [List.length_map, Array.length_toList]; omega), fun a ha => ?_⟩
    obtain ⟨j, hj, rfl⟩ := mem_getD ha; rw [List.length_map, Array.length_toList] at hj
    rw [← numAt_eq]; exact h2 j (by omega)
end
section
variable {X : Cx}

def rmaxDef (K : PySem.W.Frag) : List V → List V → Hp → VK → Prop := fun vs zs H Q => ∃ (a : Addr) (ns : List Int), vs = [V.ref a] ∧ zs = [V.non] ∧ SqL K H a (ns.map V.int) ∧ (ns = [] → Q .non H) ∧ ∀ M, M ∈ ns → (∀ a, a ∈ ns → a ≤ M) → Q (.int M) H
theorem cr_maxDef (hc : X.calm = true) : CallRK X (.builtin "max") [Str.ofString "default"] (rmaxDef X.K) := by
  intro pins s σ H vs zs us ws Q I r rz h
  obtain ⟨a, ns, rfl, rfl, hs, q0, q1⟩ := h
  obtain rfl := Vals.ref1 r
  obtain ⟨w1, rfl, e1⟩ := vals1 rz
  obtain rfl : w1 = Value.none := e1
  obtain ⟨its, rv, hl, _⟩ := I.list hs
  refine maxD_raw (I.ok.hd hc) hl.isList rv.ints fun h' tk v hk hv => ?_
  rcases hv with ⟨en, rfl⟩ | ⟨M, t', rfl, m1, m2⟩
  · exact ⟨.non, H, I.kept hk, rfl, q0 en⟩
  · exact ⟨.int _, H, I.kept hk, ⟨_, rfl⟩, q1 M m1 m2⟩

def rminDef (K : PySem.W.Frag) : List V → List V → Hp → VK → Prop := fun vs zs H Q => ∃ (a : Addr) (ns : List Int), vs = [V.ref a] ∧ zs = [V.non] ∧ SqL K H a (ns.map V.int) ∧ (ns = [] → Q .non H) ∧ ∀ M, M ∈ ns → (∀ a, a ∈ ns → M ≤ a) → Q (.int M) H
theorem cr_minDef (hc : X.calm = true) : CallRK X (.builtin "min") [Str.ofString "default"] (rminDef X.K) := by
  intro pins s σ H vs zs us ws Q I r rz h
  obtain ⟨a, ns, rfl, rfl, hs, q0, q1⟩ := h
  obtain rfl := Vals.ref1 r
  obtain ⟨w1, rfl, e1⟩ := vals1 rz
  obtain rfl : w1 = Value.none := e1
  obtain ⟨its, rv, hl, _⟩ := I.list hs
  refine minD_raw (I.ok.hd hc) hl.isList rv.ints fun h' tk v hk hv => ?_
  rcases hv with ⟨en, rfl⟩ | ⟨M, t', rfl, m1, m2⟩
  · exact ⟨.non, H, I.kept hk, rfl, q0 en⟩
  · exact ⟨.int _, H, I.kept hk, ⟨_, rfl⟩, q1 M m1 m2⟩
end
end TT
namespace TT
open PySem PySem.Spec PyProof.Rows L2 LamX
open T
/-! ### the subtree of a key, its bounds, one rotation in preorder -/
def NearL (ks : List Int) (p : Int) : Option Int → Prop
  | none => ∀ y ∈ ks, ¬ y < p
  | some m => m ∈ ks ∧ m < p ∧ ∀ y ∈ ks, y < p → y ≤ m
def NearH (ks : List Int) (p : Int) : Option Int → Prop
  | none => ∀ y ∈ ks, ¬ p < y
  | some m => m ∈ ks ∧ p < m ∧ ∀ y ∈ ks, p < y → m ≤ y
theorem NearL.uniq {ks : List Int} {p : Int} : ∀ {x y : Option Int}, NearL ks p x → NearL ks p y → x = y
  | none, none, _, _ => rfl
  | none, some m, h, g => absurd g.2.1 (h m g.1)
  | some m, none, h, g => absurd h.2.1 (g m h.1)
  | some m, some n, h, g => by have := h.2.2 n g.1 g.2.1; have := g.2.2 m h.1 h.2.1; congr 1; omega
theorem NearH.uniq {ks : List Int} {p : Int} : ∀ {x y : Option Int}, NearH ks p x → NearH ks p y → x = y
  | none, none, _, _ => rfl
  | none, some m, h, g => absurd g.2.1 (h m g.1)
  | some m, none, h, g => absurd h.2.1 (g m h.1)
  | some m, some n, h, g => by have := h.2.2 n g.1 g.2.1; have := g.2.2 m h.1 h.2.1; congr 1; omega
def T.bdL (p : Int) : T → Option Int → Option Int
  | leaf, lo => lo
  | node l k r, lo => if p = k then lo else if p < k then l.bdL p lo else r.bdL p (some k)
def T.bdH (p : Int) : T → Option Int → Option Int
  | leaf, hi => hi
  | node l k r, hi => if p = k then hi else if p < k then l.bdH p (some k) else r.bdH p hi
def T.at (p : Int) : T → T
  | leaf => leaf
  | node l k r => if p = k then node l k r else if p < k then l.at p else r.at p
theorem bdL_near {p : Int} : ∀ {t : T} {lo : Option Int}, t.bst → p ∈ t.pre → NearL (t.path p) p (t.bdL p none) ∧ (t.bdL p lo = (t.bdL p none).or lo)
  | leaf, _, _, h => by cases h
  | node l k r, lo, b, h => by
    have bl : ∀ x ∈ l.pre, x < k := b.1
    have br : ∀ x ∈ r.pre, k < x := b.2.1
    by_cases e : p = k
    · subst e
      rw [path_k]
      have e1 : ∀ lo, (node l p r).bdL p lo = lo := fun lo => if_pos rfl
      rw [e1, e1]
      exact ⟨fun y hy => by rw [List.mem_singleton.mp hy]; omega, rfl⟩
    · rcases Int.lt_or_gt_of_ne e with lt | gt
      · have hp : p ∈ l.pre := by
          rcases mem_node.mp h with h | h | h
          · exact absurd h e
          · exact h
          · have := br p h; omega
        have e1 : ∀ lo, (node l k r).bdL p lo = l.bdL p lo := fun lo => by
          show (if p = k then lo else if p < k then l.bdL p lo else r.bdL p (some k)) = _
          rw [if_neg e, if_pos lt]
        rw [path_l b hp, e1, e1]
        obtain ⟨n1, n2⟩ := bdL_near (lo := lo) b.2.2.1 hp
        refine ⟨?_, n2⟩
        cases q : l.bdL p none with
        | none =>
          rw [q] at n1
          intro y hy
          rcases List.mem_cons.mp hy with rfl | hy
          · omega
          · exact n1 y hy
        | some m =>
          rw [q] at n1
          refine ⟨List.mem_cons_of_mem _ n1.1, n1.2.1, fun y hy ly => ?_⟩
          rcases List.mem_cons.mp hy with rfl | hy
          · omega
          · exact n1.2.2 y hy ly
      · have hp : p ∈ r.pre := by
          rcases mem_node.mp h with h | h | h
          · exact absurd h e
          · have := bl p h; omega
          · exact h
        have e1 : ∀ lo, (node l k r).bdL p lo = r.bdL p (some k) := fun lo => by
          show (if p = k then lo else if p < k then l.bdL p lo else r.bdL p (some k)) = _
          rw [if_neg e, if_neg (by omega)]
        rw [path_r b hp, e1, e1]
        obtain ⟨n1, n2⟩ := bdL_near (lo := some k) b.2.2.2 hp
        rw [n2]
        have hin := (path_mem b.2.2.2 hp).2
        cases q : r.bdL p none with
        | none =>
          rw [q] at n1
          refine ⟨⟨List.mem_cons_self, gt, fun y hy ly => ?_⟩, rfl⟩
          rcases List.mem_cons.mp hy with rfl | hy
          · exact Int.le_refl _
          · exact absurd ly (n1 y hy)
        | some m =>
          rw [q] at n1
          refine ⟨⟨List.mem_cons_of_mem _ n1.1, n1.2.1, fun y hy ly => ?_⟩, rfl⟩
          rcases List.mem_cons.mp hy with rfl | hy
          · have := br m (hin m n1.1); omega
          · exact n1.2.2 y hy ly
theorem bdH_near {p : Int} : ∀ {t : T} {hi : Option Int}, t.bst → p ∈ t.pre → NearH (t.path p) p (t.bdH p none) ∧ (t.bdH p hi = (t.bdH p none).or hi)
  | leaf, _, _, h => by cases h
  | node l k r, hi, b, h => by
    have bl : ∀ x ∈ l.pre, x < k := b.1
    have br : ∀ x ∈ r.pre, k < x := b.2.1
    by_cases e : p = k
    · subst e
      rw [path_k]
      have e1 : ∀ hi, (node l p r).bdH p hi = hi := fun hi => if_pos rfl
      rw [e1, e1]
      exact ⟨fun y hy => by rw [List.mem_singleton.mp hy]; omega, rfl⟩
    · rcases Int.lt_or_gt_of_ne e with lt | gt
      · have hp : p ∈ l.pre := by
          rcases mem_node.mp h with h | h | h
          · exact absurd h e
          · exact h
          · have := br p h; omega
        have e1 : ∀ hi, (node l k r).bdH p hi = l.bdH p (some k) := fun hi => by
          show (if p = k then hi else if p < k then l.bdH p (some k) else r.bdH p hi) = _
          rw [if_neg e, if_pos lt]
        rw [path_l b hp, e1, e1]
        obtain ⟨n1, n2⟩ := bdH_near (hi := some k) b.2.2.1 hp
        rw [n2]
        have hin := (path_mem b.2.2.1 hp).2
        cases q : l.bdH p none with
        | none =>
          rw [q] at n1
          refine ⟨⟨List.mem_cons_self, lt, fun y hy ly => ?_⟩, rfl⟩
          rcases List.mem_cons.mp hy with rfl | hy
          · exact Int.le_refl _
          · exact absurd ly (n1 y hy)
        | some m =>
          rw [q] at n1
          refine ⟨⟨List.mem_cons_of_mem _ n1.1, n1.2.1, fun y hy ly => ?_⟩, rfl⟩
          rcases List.mem_cons.mp hy with rfl | hy
          · have := bl m (hin m n1.1); omega
          · exact n1.2.2 y hy ly
      · have hp : p ∈ r.pre := by
          rcases mem_node.mp h with h | h | h
          · exact absurd h e
          · have := bl p h; omega
          · exact h
        have e1 : ∀ hi, (node l k r).bdH p hi = r.bdH p hi := fun hi => by
          show (if p = k then hi else if p < k then l.bdH p (some k) else r.bdH p hi) = _
          rw [if_neg e, if_neg (by omega)]
        rw [path_r b hp, e1, e1]
        obtain ⟨n1, n2⟩ := bdH_near (hi := hi) b.2.2.2 hp
        refine ⟨?_, n2⟩
        cases q : r.bdH p none with
        | none =>
          rw [q] at n1
          intro y hy
          rcases List.mem_cons.mp hy with rfl | hy
          · omega
          · exact n1 y hy
        | some m =>
          rw [q] at n1
          refine ⟨List.mem_cons_of_mem _ n1.1, n1.2.1, fun y hy ly => ?_⟩
          rcases List.mem_cons.mp hy with rfl | hy
          · omega
          · exact n1.2.2 y hy ly
/-- a lower bound that grew -/
theorem bdL_some {p : Int} : ∀ {t : T} {lo : Int}, t.bst → (∀ x ∈ t.pre, lo < x) → ∃ m, t.bdL p (some lo) = some m ∧ lo ≤ m
  | leaf, lo, _, _ => ⟨lo, rfl, Int.le_refl _⟩
  | node l k r, lo, b, h => by
    show ∃ m, (if p = k then some lo else if p < k then l.bdL p (some lo) else r.bdL p (some k)) = some m ∧ _
    split
    · exact ⟨lo, rfl, Int.le_refl _⟩
    · split
      · exact bdL_some b.2.2.1 fun x hx => h x (mem_node.mpr (.inr (.inl hx)))
      · obtain ⟨m, e, le⟩ := bdL_some (p := p) (lo := k) b.2.2.2 b.2.1
        have := h k (mem_node.mpr (.inl rfl))
        exact ⟨m, e, by omega⟩
theorem bdH_some {p : Int} : ∀ {t : T} {hi : Int}, t.bst → (∀ x ∈ t.pre, x < hi) → ∃ m, t.bdH p (some hi) = some m ∧ m ≤ hi
  | leaf, hi, _, _ => ⟨hi, rfl, Int.le_refl _⟩
  | node l k r, hi, b, h => by
    show ∃ m, (if p = k then some hi else if p < k then l.bdH p (some k) else r.bdH p (some hi)) = some m ∧ _
    split
    · exact ⟨hi, rfl, Int.le_refl _⟩
    · split
      · obtain ⟨m, e, le⟩ := bdH_some (p := p) (hi := k) b.2.2.1 b.1
        have := h k (mem_node.mpr (.inl rfl))
        exact ⟨m, e, by omega⟩
      · exact bdH_some b.2.2.2 fun x hx => h x (mem_node.mpr (.inr (.inr hx)))
theorem at_pre {p : Int} : ∀ {t : T} {lo hi : Option Int}, t.bst → p ∈ t.pre → (∀ x ∈ t.pre, okLo lo x = true ∧ okHi hi x = true) → (t.at p).pre = t.pre.filter fun x => okLo (t.bdL p lo) x && okHi (t.bdH p hi) x
  | leaf, _, _, _, h, _ => by cases h
  | node l k r, lo, hi, b, h, ok => by
    have bl : ∀ x ∈ l.pre, x < k := b.1
    have br : ∀ x ∈ r.pre, k < x := b.2.1
    show (if p = k then node l k r else if p < k then l.at p else r.at p).pre = (node l k r).pre.filter fun x => okLo (if p = k then lo else if p < k then l.bdL p lo else r.bdL p (some k)) x && okHi (if p = k then hi else if p < k then l.bdH p (some k) else r.bdH p hi) x
    by_cases e : p = k
    · simp only [if_pos e]
      rw [filter_all fun x hx => by rw [(ok x hx).1, (ok x hx).2]; rfl]
    · simp only [if_neg e]
      by_cases lt : p < k
      · have hp : p ∈ l.pre := by
          rcases mem_node.mp h with h | h | h
          · exact absurd h e
          · exact h
          · have := br p h; omega
        simp only [if_pos lt]
        rw [at_pre (lo := lo) (hi := some k) b.2.2.1 hp (fun x hx => ⟨(ok x (mem_node.mpr (.inr (.inl hx)))).1, decide_eq_true (bl x hx)⟩)]
        obtain ⟨m, em, le⟩ := bdH_some (p := p) (hi := k) b.2.2.1 bl
        rw [em]
        show _ = (k :: (l.pre ++ r.pre)).filter _
        rw [List.filter_cons_of_neg (by show ¬ ((_ && decide (k < m)) = true); rw [decide_eq_false (by omega), Bool.and_false]; exact Bool.false_ne_true), List.filter_append,
          filter_none (l := r.pre) (fun x hx => by have := br x hx; show (_ && decide (x < m)) = false; rw [decide_eq_false (by omega), Bool.and_false]), List.append_nil]
      · have hp : p ∈ r.pre := by
          rcases mem_node.mp h with h | h | h
          · exact absurd h e
          · have := bl p h; omega
          · exact h
        simp only [if_neg lt]
        rw [at_pre (lo := some k) (hi := hi) b.2.2.2 hp (fun x hx => ⟨decide_eq_true (br x hx), (ok x (mem_node.mpr (.inr (.inr hx)))).2⟩)]
        obtain ⟨m, em, le⟩ := bdL_some (p := p) (lo := k) b.2.2.2 br
        rw [em]
        show _ = (k :: (l.pre ++ r.pre)).filter _
        rw [List.filter_cons_of_neg (by show ¬ ((decide (m < k) && _) = true); rw [decide_eq_false (by omega), Bool.false_and]; exact Bool.false_ne_true), List.filter_append,
          filter_none (l := l.pre) (fun x hx => by have := bl x hx; show (decide (m < x) && _) = false; rw [decide_eq_false (by omega), Bool.false_and]), List.nil_append]
theorem at_near {p : Int} {t : T} {lo hi : Option Int} (b : t.bst) (h : p ∈ t.pre) (n1 : NearL (t.path p) p lo) (n2 : NearH (t.path p) p hi) : t.pre.filter (fun x => okLo lo x && okHi hi x) = (t.at p).pre := by
  rw [at_pre (lo := none) (hi := none) b h (fun _ _ => ⟨rfl, rfl⟩), n1.uniq (bdL_near (lo := none) b h).1, n2.uniq (bdH_near (hi := none) b h).1]
theorem at_bst {p : Int} : ∀ {t : T}, t.bst → (t.at p).bst
  | leaf, _ => trivial
  | node l k r, b => by
    show (if p = k then node l k r else if p < k then l.at p else r.at p).bst
    split
    · exact b
    · split
      · exact at_bst b.2.2.1
      · exact at_bst b.2.2.2
/-- where the subtree stands in the preorder, and what a rotation at it does -/
theorem rot_at {p : Int} : ∀ {t : T}, t.bst → p ∈ t.pre → ∃ A C, t.pre = A ++ (t.at p).pre ++ C ∧ p ∉ A ∧ (∃ S, (t.at p).pre = p :: S) ∧ ∀ x, t.up x = some p → (t.rot x).pre = A ++ topL x (t.at p).pre ++ C
  | leaf, _, h => by cases h
  | node l k r, b, h => by
    have bl : ∀ x ∈ l.pre, x < k := b.1
    have br : ∀ x ∈ r.pre, k < x := b.2.1
    have ea : (node l k r).at p = if p = k then node l k r else if p < k then l.at p else r.at p := rfl
    by_cases e : p = k
    · subst e
      rw [ea, if_pos rfl]
      refine ⟨[], [], by simp, by simp, ⟨_, rfl⟩, fun x hx => ?_⟩
      rw [List.nil_append, List.append_nil, ← tch_pre b, ← rot_tch b]
      have hxi : x ∈ (node l p r).pre := up_in hx
      have rr : ((node l p r).rot x).rt = some x := by rw [rt_rot b hx, up_root, if_pos rfl]
      rw [tch_root (bst_rot b) rr]
    · by_cases lt : p < k
      · have hp : p ∈ l.pre := by
          rcases mem_node.mp h with h | h | h
          · exact absurd h e
          · exact h
          · have := br p h; omega
        rw [ea, if_neg e, if_pos lt]
        obtain ⟨A, C, h1, h2, h3, h4⟩ := rot_at b.2.2.1 hp
        refine ⟨k :: A, C ++ r.pre, ?_, ?_, h3, fun x hx => ?_⟩
        · show k :: (l.pre ++ r.pre) = _
          rw [h1]; simp
        · intro z
          rcases List.mem_cons.mp z with z | z
          · exact e z
          · exact h2 z
        · rcases up_cases b hx with ⟨a1, a2, a3⟩ | ⟨a1, a2, a3, a4⟩ | ⟨a1, a2, a3⟩ | ⟨a1, a2, a3, a4⟩
          · exact absurd a3 e
          · have er : (node l k r).rot x = node (l.rot x) k r := by
              show (if x < k then (if l.rt = some x then _ else _) else _) = _
              rw [if_pos a1, if_neg a2]
            rw [er]
            show k :: ((l.rot x).pre ++ r.pre) = _
            rw [h4 x a3]; simp
          · exact absurd a3 e
          · omega
      · have hp : p ∈ r.pre := by
          rcases mem_node.mp h with h | h | h
          · exact absurd h e
          · have := bl p h; omega
          · exact h
        rw [ea, if_neg e, if_neg lt]
        obtain ⟨A, C, h1, h2, h3, h4⟩ := rot_at b.2.2.2 hp
        refine ⟨k :: (l.pre ++ A), C, ?_, ?_, h3, fun x hx => ?_⟩
        · show k :: (l.pre ++ r.pre) = _
          rw [h1]; simp
        · intro z
          rcases List.mem_cons.mp z with z | z
          · exact e z
          · rcases List.mem_append.mp z with z | z
            · have := bl p z; omega
            · exact h2 z
        · rcases up_cases b hx with ⟨a1, a2, a3⟩ | ⟨a1, a2, a3, a4⟩ | ⟨a1, a2, a3⟩ | ⟨a1, a2, a3, a4⟩
          · exact absurd a3 e
          · omega
          · exact absurd a3 e
          · have er : (node l k r).rot x = node l k (r.rot x) := by
              show (if x < k then _ else if k < x then (if r.rt = some x then _ else _) else _) = _
              rw [if_neg (by omega), if_pos a1, if_neg a2]
            rw [er]
            show k :: (l.pre ++ (r.rot x).pre) = _
            rw [h4 x a3]; simp
theorem idx_pre {A S : List Int} {p : Int} (h : p ∉ A) : (A ++ p :: S).idxOf p = A.length := by
  induction A with
  | nil => simp
  | cons a A ih =>
    have n1 : a ≠ p := fun e => h (by rw [e]; exact List.mem_cons_self)
    have n2 : p ∉ A := fun e => h (List.mem_cons_of_mem _ e)
    rw [List.cons_append, List.idxOf_cons, ih n2, beq_eq_false_iff_ne.mpr n1]
    rfl
theorem atI_m2 (xs : List V) (u v : V) : atI (xs ++ [u, v]) (-2) = some u := by
  simp [atI, ixN]
  rw [if_pos (by omega)]
  have e : (-2 + ((xs.length : Int) + 2)).toNat = xs.length := by omega
  simp [e]
/-! ### t.index(k) of a tuple of ints -/
section
variable {X : Cx}
def rTIndex (K : PySem.W.Frag) : V → List V → Hp → VK → Prop := fun x xs H Q => ∃ (a : Addr) (ns : List Int) (k : Int), x = V.ref a ∧ xs = [V.int k] ∧ SqT K H a (ns.map V.int) ∧ k ∈ ns ∧ Q (.int (ns.idxOf k : Nat)) H
theorem mt_tindex : MtR X "tuple.index" (rTIndex X.K) := by
  intro pins s σ H x xs v us Q I rx rs h
  obtain ⟨a, ns, k, rfl, rfl, hq, hk, q⟩ := h
  cases rx
  obtain ⟨u, rfl, t, rfl⟩ := vals1 rs
  obtain ⟨its, r, pl, hz⟩ := I.tuple hq
  exact PySem.SeqAt.tuple_index_ints pl r.ints hk ⟨.int (ns.idxOf k : Nat), H, I.tok _, ⟨_, rfl⟩, q⟩
end
theorem rd_slA {K : PySem.W.Frag} {H : Hp} {a : Addr} {xs : List V} {lo hi : Option Int} {Q : VK} (ha : H a = some (.tup xs)) (q : ∀ p H', Same H H' → H' p = some (.tup (cutV xs lo hi)) → Q (.ref p) H') : rSlA K (.ref a) lo hi H Q := by
  refine ⟨a, xs, rfl, SqT.of ha, fun hw => q a H (.refl _) ?_, fun _ p np => q p _ (same_new np) upd_same⟩
  unfold cutV
  rw [hw.1, hw.2, List.drop_zero, Nat.sub_zero, List.take_length]
  exact ha
/-! ### promises -/
def spParentX (K : PySem.W.Frag) (C : Addr) : Sp := fun vs H Q E => ∃ (a : Addr) (key : Int) (t : T), vs = [.ref a, .int key] ∧ SqT K H a (t.pre.map V.int) ∧ t.bst ∧ t.pre.length ≤ 1000 ∧ key.natAbs.log2 < 1920 ∧
  (key ∈ t.pre → ∀ H', Same H H' → Q (oV (t.up key)) H') ∧ (key ∉ t.pre → ENo C key H E)
def spNear (K : PySem.W.Frag) : Sp := fun vs H Q _ => ∃ (a : Addr) (ks : List Int) (key : Int), vs = [.ref a, .int key] ∧ SqL K H a (ks.map V.int) ∧ ks.length ≤ 1000 ∧
  ∀ p lo hi H', NearL ks key lo → NearH ks key hi → Same H H' → H p = none → H' p = some (.tup [oV lo, oV hi]) → Q (.ref p) H'
def spBoundsX (K : PySem.W.Frag) (C : Addr) : Sp := fun vs H Q E => ∃ (a : Addr) (key : Int) (t : T), vs = [.ref a, .int key] ∧ SqT K H a (t.pre.map V.int) ∧ t.bst ∧ t.pre.length ≤ 1000 ∧ key.natAbs.log2 < 1920 ∧
  (key ∈ t.pre → ∀ p lo hi H', NearL (t.path key) key lo → NearH (t.path key) key hi → Same H H' → H' p = some (.tup [oV lo, oV hi]) → Q (.ref p) H') ∧ (key ∉ t.pre → ENo C key H E)
def spSubX (K : PySem.W.Frag) (C : Addr) : Sp := fun vs H Q E => ∃ (a : Addr) (key : Int) (t : T), vs = [.ref a, .int key] ∧ SqT K H a (t.pre.map V.int) ∧ t.bst ∧ t.pre.length ≤ 1000 ∧ key.natAbs.log2 < 1920 ∧
  (key ∈ t.pre → ∀ p H', Same H H' → H' p = some (.tup ((t.at key).pre.map V.int)) → Q (.ref p) H') ∧ (key ∉ t.pre → ENo C key H E)
def spRotX (K : PySem.W.Frag) (C1 C2 : Addr) : Sp := fun vs H Q E => ∃ (a : Addr) (key : Int) (t : T), vs = [.ref a, .int key] ∧ H a = some (.tup (t.pre.map V.int)) ∧ t.bst ∧ t.pre.length ≤ 1000 ∧ Kn t.pre ∧ key.natAbs.log2 < 1920 ∧
  (∀ p, t.up key = some p → ∀ q H', Same H H' → H' q = some (.tup ((t.rot key).pre.map V.int)) → Q (.ref q) H') ∧ (key ∈ t.pre → t.up key = none → EOw C2 "AtRoot" "key" key H E) ∧ (key ∉ t.pre → ENo C1 key H E)
end TT
namespace TT
open PySem PySem.Spec PyProof.Rows L2 LamX
open T
/-! ### a def that an expression gives, called -/
def tCallF (S : Addr → Sp → Prop) (te : TE) (t : TA) : TE := fun σ H Q => te σ H fun v H1 => ∃ f sp, v = .ref f ∧ S f sp ∧ t σ H1 fun vs H2 => sp vs H2 Q E0
section
variable {X : Cx} {k : Nat} {S : Addr → Sp → Prop} {e0 e : Expr} {es : List Expr} {te : TE} {t : TA} {pos : Pos}
theorem pe_callF (hS : ∀ f sp, S f sp → ∃ fd ps, FnOk X.prog X.w X.K X.mg X.base CX0 k f fd ps sp ∧ PySem.W.keepIn X.K (.ref f) = true ∧ Binds X.K fd ps []) (hr : Room k X.A) (h0 : PE X e0 te) (ha : PA X (e :: es) t)
    (hev : eval (.Call e0 (e :: es) [] pos) X.env = (do callWith pos (← eval e0 X.env) [] (backTo pos (starEach (e :: es) X.env)) (backToKw pos (keywordEach [] X.env))) := by rfl)
    (he : starEach (e :: es) X.env = (false, eval e X.env) :: starEach es X.env := by rfl) (hpl : (backTo pos (starEach es X.env)).any (·.1) = false := by rfl) : PE X (.Call e0 (e :: es) [] pos) (tCallF S te t) := by
  refine ⟨fun pins s σ H Q I h => Call_ (thn (h0.run pins s σ H _ I h) fun u s1 ⟨v, H1, I1, r1, f, sp, ev, hs, ht⟩ => ?_) hev⟩
  subst ev
  cases r1
  obtain ⟨fd, ps, F, hk, hb⟩ := hS f sp hs
  refine PySem.W.callWith_K (h₀ := X.base) I.ok.mod.kin hk (thn (ha.run pos pins s1 σ H1 _ I1 ht) fun us s2 ⟨vs, H2, I2, r, q⟩ => ⟨I2.kIn, ?_⟩) he hpl
  exact run_fn F hr hb .nil pass0 I2 r (by rw [List.append_nil]; exact q)
end
/-! ### a shape that is built -/
theorem grow_cons {x : Int} {ks : List Int} (h : x ∉ ks) : (insAll (x :: ks) leaf).pre = x :: ((insAll ((x :: ks).filter fun y => decide (y < x)) leaf).pre ++ (insAll ((x :: ks).filter fun y => decide (x < y)) leaf).pre) := by
  have e : insAll (x :: ks) leaf = insAll ks (node leaf x leaf) := rfl
  rw [e, insAll_split, List.filter_cons_of_neg (by simp), List.filter_cons_of_neg (by simp)]
  have e2 : (ks.filter fun y => !decide (y < x)) = ks.filter fun y => decide (x < y) := List.filter_congr fun y hy => by
    have : y ≠ x := fun z => h (z ▸ hy)
    by_cases g : x < y
    · rw [decide_eq_true g, decide_eq_false (by omega)]; rfl
    · rw [decide_eq_false g, decide_eq_true (by omega)]; rfl
  rw [e2]
  rfl
def Sq (K : PySem.W.Frag) (H : Hp) (a : Addr) (xs : List V) : Prop := SqL K H a xs ∨ SqT K H a xs
theorem Sq.same {K : PySem.W.Frag} {H H' : Hp} {a : Addr} {xs : List V} (h : Sq K H a xs) (e : Same H H') : Sq K H' a xs := h.elim (fun h => .inl (e.seq h)) fun h => .inr (Same.tup e h)
def spGrow (K : PySem.W.Frag) (n : Nat) : Sp := fun vs H Q _ => ∃ (a : Addr) (ks : List Int), vs = [.ref a] ∧ Sq K H a (ks.map V.int) ∧ ks.Nodup ∧ ks.length < n ∧ ks.length ≤ 1000 ∧
  ∀ p H', Same H H' → H' p = some (.tup ((insAll ks leaf).pre.map V.int)) → Q (.ref p) H'
def spChkW (K : PySem.W.Frag) (C1 C2 : Addr) : Sp := fun vs H Q E => ∃ (a : Addr) (ks : List Int), vs = [.ref a] ∧ Sq K H a (ks.map V.int) ∧ ks.length ≤ 1000 ∧ Kn ks ∧
  (40 < ks.length → EOw C1 "TooManyKeys" "limit" 40 H E) ∧ (ks.length ≤ 40 → ∀ n, ks.find? (fun n => !okK n) = some n → EOw C2 "BadKey" "key" n H E) ∧ (ks.length ≤ 40 → ks.find? (fun n => !okK n) = none → Q .non H)
/-- d is the first that stands twice -/
def Dup1 (ks : List Int) (d : Int) : Prop := ∃ i, ks[i]? = some d ∧ d ∈ ks.take i ∧ ∀ j x, j < i → ks[j]? = some x → x ∉ ks.take j
theorem Dup1.uniq {ks : List Int} {d e : Int} (h : Dup1 ks d) (g : Dup1 ks e) : d = e := by
  obtain ⟨i, a, b, c⟩ := h
  obtain ⟨j, a', b', c'⟩ := g
  rcases Nat.lt_trichotomy i j with l | l | l
  · exact absurd b (c' i d l a)
  · subst l; rw [a] at a'; exact Option.some.inj a'
  · exact absurd b' (c j e l a')
theorem nodup_at {ks : List Int} (h : ∀ j x, ks[j]? = some x → x ∉ ks.take j) : ks.Nodup := by
  rw [List.Nodup, List.pairwise_iff_getElem]
  intro i j hi hj lt e
  refine h j ks[j] (List.getElem?_eq_getElem hj) ?_
  rw [← e]
  exact List.mem_take_iff_getElem.mpr ⟨i, by omega, rfl⟩
theorem Dup1.not {ks : List Int} {d : Int} (h : Dup1 ks d) (n : ks.Nodup) : False := by
  obtain ⟨i, a, b, _⟩ := h
  obtain ⟨j, hj, e⟩ := List.mem_take_iff_getElem.mp b
  obtain ⟨hi, e2⟩ := List.getElem?_eq_some_iff.mp a
  have := (List.pairwise_iff_getElem.mp n) j i (by omega) hi (by omega)
  exact this (e.trans e2.symm)
def spBuildX (K : PySem.W.Frag) (C1 C2 C3 : Addr) : Sp := fun vs H Q E => ∃ (a : Addr) (ks : List Int), vs = [.ref a] ∧ (H a = some (.lst (ks.map V.int)) ∨ H a = some (.tup (ks.map V.int))) ∧ ks.length ≤ 1000 ∧ Kn ks ∧
  (40 < ks.length → EOw C1 "TooManyKeys" "limit" 40 H E) ∧ (ks.length ≤ 40 → ∀ n, ks.find? (fun n => !okK n) = some n → EOw C2 "BadKey" "key" n H E) ∧
  (ks.length ≤ 40 → ks.find? (fun n => !okK n) = none → ∀ d, Dup1 ks d → EOw C3 "DuplicateKey" "key" d H E) ∧
  (ks.length ≤ 40 → ks.find? (fun n => !okK n) = none → ks.Nodup → ∀ p H', Same H H' → H' p = some (.tup ((insAll ks leaf).pre.map V.int)) → Q (.ref p) H')
/-- what a build is due to tell -/
def DueB (H : Hp) (du : Addr) (ks : List Int) : Prop :=
  (40 < ks.length ∧ H du = some (.tup [.non, .str "TooManyKeys", .int 40])) ∨
  (ks.length ≤ 40 ∧ ∃ n, ks.find? (fun n => !okK n) = some n ∧ H du = some (.tup [.non, .str "BadKey", .int n])) ∨
  (ks.length ≤ 40 ∧ ks.find? (fun n => !okK n) = none ∧ ∃ d, Dup1 ks d ∧ H du = some (.tup [.non, .str "DuplicateKey", .int d])) ∨
  (ks.length ≤ 40 ∧ ks.find? (fun n => !okK n) = none ∧ ks.Nodup ∧ ∃ q, H du = some (.tup [.ref q, .str "", .non]) ∧ H q = some (.tup ((insAll ks leaf).pre.map V.int)))
theorem DueB.kept {H H' : Hp} {du : Addr} {ks : List Int} (h : DueB H du ks) (e : ∀ x xs, H x = some (.tup xs) → H' x = some (.tup xs)) : DueB H' du ks := by
  rcases h with ⟨a, b⟩ | ⟨a, n, b, c⟩ | ⟨a, b, d, c, g⟩ | ⟨a, b, c, q, g1, g2⟩
  · exact .inl ⟨a, e _ _ b⟩
  · exact .inr (.inl ⟨a, n, b, e _ _ c⟩)
  · exact .inr (.inr (.inl ⟨a, b, d, c, e _ _ g⟩))
  · exact .inr (.inr (.inr ⟨a, b, c, q, e _ _ g1, e _ _ g2⟩))
theorem build_out {K : PySem.W.Frag} {C1 C2 C3 : Addr} {cT cM : Value} {a du : Addr} {ks : List Int} {H1 : Hp} {E : XK} {R Q : VK} (ha : H1 a = some (.lst (ks.map V.int)) ∨ H1 a = some (.tup (ks.map V.int))) (hl : ks.length ≤ 1000) (kn : Kn ks) (D : DueB H1 du ks)
    (n1 : PySem.W.exmAny K (.ref C1) [cT, cM] = some true) (X1 : XfC K C1) (f1 : PySem.W.findIn K (.ref C1) "tag" = some none) (f2 : PySem.W.findIn K (.ref C1) "limit" = some none)
    (n2 : PySem.W.exmAny K (.ref C2) [cT, cM] = some true) (X2 : XfC K C2) (f3 : PySem.W.findIn K (.ref C2) "tag" = some none) (f4 : PySem.W.findIn K (.ref C2) "key" = some none)
    (n3 : PySem.W.exmAny K (.ref C3) [cT, cM] = some true) (X3 : XfC K C3) (f5 : PySem.W.findIn K (.ref C3) "tag" = some none) (f6 : PySem.W.findIn K (.ref C3) "key" = some none)
    (hE : ∀ cls d H', Xo K cT cM Q cls d H' → E cls d H') (hR : ∀ v H', (∀ p H'', Same H' H'' → H' p = none → H'' p = some (.tup [v, .str "", .non]) → Q (.ref p) H'') → R v H')
    (fin : ∀ p Hx, Same H1 Hx → Eqv Hx 2 (.ref p) (.ref du) → Q (.ref p) Hx) : spBuildX K C1 C2 C3 [.ref a] H1 R E := by
  refine ⟨a, ks, rfl, ha, hl, kn, fun h40 => ?_, fun h40 n hn => ?_, fun h40 hn d hd => ?_, fun h40 hn nd p H' e hp => ?_⟩
  · rcases D with ⟨_, d⟩ | ⟨z, _⟩ | ⟨z, _⟩ | ⟨z, _⟩
    · exact fun dd Hf e hd => hE _ _ _ ⟨n1, C1, dd, "TooManyKeys", .int 40, rfl, rfl, bears_mk X1 f1 f2 hd (by decide +kernel) (by decide +kernel), fun p Hx ex _ hp => fin p Hx (e.trans ex) (eqv_tri hp ((e.trans ex) _ _ d) (eqv_flat rfl) (eqv_flat rfl) (eqv_flat rfl))⟩
    all_goals omega
  · rcases D with ⟨z, _⟩ | ⟨_, m, hm, d⟩ | ⟨_, z, _⟩ | ⟨_, z, _⟩
    · omega
    · rw [hn] at hm
      cases hm
      exact fun dd Hf e hd => hE _ _ _ ⟨n2, C2, dd, "BadKey", .int n, rfl, rfl, bears_mk X2 f3 f4 hd (by decide +kernel) (by decide +kernel), fun p Hx ex _ hp => fin p Hx (e.trans ex) (eqv_tri hp ((e.trans ex) _ _ d) (eqv_flat rfl) (eqv_flat rfl) (eqv_flat rfl))⟩
    all_goals (rw [hn] at z; cases z)
  · rcases D with ⟨z, _⟩ | ⟨_, m, hm, _⟩ | ⟨_, _, d', hd', du'⟩ | ⟨_, _, z, _⟩
    · omega
    · rw [hn] at hm; cases hm
    · cases hd.uniq hd'
      exact fun dd Hf e hdd => hE _ _ _ ⟨n3, C3, dd, "DuplicateKey", .int d, rfl, rfl, bears_mk X3 f5 f6 hdd (by decide +kernel) (by decide +kernel), fun p Hx ex _ hp => fin p Hx (e.trans ex) (eqv_tri hp ((e.trans ex) _ _ du') (eqv_flat rfl) (eqv_flat rfl) (eqv_flat rfl))⟩
    · exact (hd.not z).elim
  · rcases D with ⟨z, _⟩ | ⟨_, m, hm, _⟩ | ⟨_, _, d', hd', _⟩ | ⟨_, _, _, q, d1, d2⟩
    · omega
    · rw [hn] at hm; cases hm
    · exact (hd'.not nd).elim
    · refine hR _ _ fun pp Hx ex _ hpp => fin pp Hx (e.trans ex) (eqv_tri hpp ((e.trans ex) _ _ d1) ?_ (eqv_flat rfl) (eqv_flat rfl))
      refine eqv_ints1 (ex _ _ hp) ((e.trans ex) _ _ d2) ?_
      rw [len_insAll]
      show 0 + _ ≤ _
      omega
/-- the keys that stand before, in their order -/
def againL (ks : List Int) (m : Nat) : List Int := ((List.range m).filter fun k => decide (ks.getD k 0 ∈ ks.take k)).map fun k => ks.getD k 0
theorem againL_nil {ks : List Int} (h : againL ks ks.length = []) : ks.Nodup := nodup_at fun j x hx hm => by
  have lt := (List.getElem?_eq_some_iff.mp hx).1
  have e : ks.getD j 0 = x := by rw [List.getD_eq_getElem?_getD, hx]; rfl
  have : x ∈ againL ks ks.length := List.mem_map.mpr ⟨j, List.mem_filter.mpr ⟨List.mem_range.mpr lt, decide_eq_true (by rw [e]; exact hm)⟩, e⟩
  rw [h] at this
  cases this
theorem againL_cons {ks l : List Int} {d : Int} (h : againL ks ks.length = d :: l) : Dup1 ks d := by
  unfold againL at h
  cases hf : (List.range ks.length).filter (fun k => decide (ks.getD k 0 ∈ ks.take k)) with
  | nil => rw [hf] at h; cases h
  | cons i r =>
    rw [hf] at h
    have e : ks.getD i 0 = d := (List.cons.inj h).1
    have hi : i ∈ (List.range ks.length).filter (fun k => decide (ks.getD k 0 ∈ ks.take k)) := by rw [hf]; exact List.mem_cons_self
    obtain ⟨h1, h2⟩ := List.mem_filter.mp hi
    have lt := List.mem_range.mp h1
    refine ⟨i, by rw [← e, List.getD_eq_getElem?_getD, List.getElem?_eq_getElem lt]; rfl, by rw [← e]; exact of_decide_eq_true h2, fun j x hj hx hm => ?_⟩
    have ej : ks.getD j 0 = x := by rw [List.getD_eq_getElem?_getD, hx]; rfl
    have hjm : j ∈ (List.range ks.length).filter (fun k => decide (ks.getD k 0 ∈ ks.take k)) := List.mem_filter.mpr ⟨List.mem_range.mpr (by omega), decide_eq_true (by rw [ej]; exact hm)⟩
    have sorted : ((List.range ks.length).filter (fun k => decide (ks.getD k 0 ∈ ks.take k))).Pairwise (· < ·) := List.pairwise_lt_range.sublist (List.filter_sublist)
    rw [hf] at hjm sorted
    rcases List.mem_cons.mp hjm with z | z
    · omega
    · have := (List.pairwise_cons.mp sorted).1 j z
      omega
theorem againL_succ (ks : List Int) (m : Nat) : againL ks (m + 1) = againL ks m ++ if ks.getD m 0 ∈ ks.take m then [ks.getD m 0] else [] := by
  unfold againL
  rw [List.range_succ, List.filter_append, List.map_append]
  congr 1
  by_cases h : ks.getD m 0 ∈ ks.take m
  · rw [List.filter_cons_of_pos (by rw [decide_eq_true_iff]; exact h), if_pos h]; rfl
  · rw [List.filter_cons_of_neg (by rw [decide_eq_true_iff]; exact h), if_neg h]; rfl
theorem againL_len (ks : List Int) (m : Nat) : (againL ks m).length ≤ m := by
  unfold againL
  rw [List.length_map]
  have := List.length_filter_le (fun k => decide (ks.getD k 0 ∈ ks.take k)) (List.range m)
  rwa [List.length_range] at this
def insAtL (ks : List Int) (r : Nat) (n : Int) : List Int := ks.take r ++ n :: ks.drop r
theorem insAtL_map (ks : List Int) (r : Nat) (n : Int) : (ks.map V.int).take r ++ [.int n] ++ (ks.map V.int).drop r = (insAtL ks r n).map V.int := by
  unfold insAtL
  rw [List.map_append, List.map_cons, List.map_take, List.map_drop, List.append_assoc]; rfl
theorem insAtL_len (ks : List Int) (r : Nat) (n : Int) : (insAtL ks r n).length = ks.length + 1 := by
  unfold insAtL
  rw [List.length_append, List.length_cons, List.length_take, List.length_drop]; omega
theorem insAtL_mem {ks : List Int} {r : Nat} {n m : Int} (h : m ∈ insAtL ks r n) : m = n ∨ m ∈ ks := by
  unfold insAtL at h
  rcases List.mem_append.mp h with h | h
  · exact .inr (List.mem_of_mem_take h)
  · rcases List.mem_cons.mp h with h | h
    · exact .inl h
    · exact .inr (List.mem_of_mem_drop h)
theorem tabs_lst {T : List (Addr × Str)} {H : Hp} {o : Addr} {xs ys : List V} (t : Tabs T H) (h : H o = some (.lst xs)) : Tabs T (upd H o (.lst ys)) := fun p hp => by
  obtain ⟨ps, h1, h2, h3⟩ := t p hp
  refine ⟨ps, by rw [upd_ne (fun q => by rw [q, h] at h1; cases h1)]; exact h1, h2, fun pos cv hc => ?_⟩
  obtain ⟨c0, e1, e2⟩ := h3 pos cv hc
  refine ⟨c0, e1, by rw [upd_ne (fun q => by rw [q, h] at e2; unfold CodeO at e2; cases e2)]; exact e2⟩
theorem drw_at {c d o : Addr} {ns : List Int} {H : Hp} {u : HO} (h : Drw c ns H d) (n1 : o ≠ d) (n2 : o ≠ c) : Drw c ns (upd H o u) d := by
  obtain ⟨i, b, z, e1, e2, r⟩ := h
  exact ⟨i, b, z, by rw [upd_ne (Ne.symm n1)]; exact e1, by rw [upd_ne (Ne.symm n2)]; exact e2, r⟩
theorem wide_iff (n : Int) : (decide ((10 : Int) ^ (9 : Int).toNat < (if n < 0 then -n else n)) = true) ↔ okK n = false := by
  have e9 : (10 : Int) ^ (9 : Int).toNat = 1000000000 := by decide
  rw [e9]
  simp only [okK, decide_eq_true_eq, decide_eq_false_iff_not]
  split <;> omega
/-- what is due but for bounds -/
def DueC (H : Hp) (du : Addr) (ks : List Int) : Prop := (∃ d, Dup1 ks d ∧ H du = some (.tup [.non, .str "DuplicateKey", .int d])) ∨ (ks.Nodup ∧ ∃ q, H du = some (.tup [.ref q, .str "", .non]) ∧ H q = some (.tup ((insAll (ks.take 41) leaf).pre.map V.int)))
def DueD (H : Hp) (du : Addr) (ks : List Int) : Prop := (∃ n, ks.find? (fun n => !okK n) = some n ∧ H du = some (.tup [.non, .str "BadKey", .int n])) ∨ (ks.find? (fun n => !okK n) = none ∧ DueC H du ks)
theorem DueC.same {H H' : Hp} {du : Addr} {ks : List Int} (h : DueC H du ks) (e : Same H H') : DueC H' du ks := by
  rcases h with ⟨d, a, b⟩ | ⟨a, q, b, c⟩
  · exact .inl ⟨d, a, e _ _ b⟩
  · exact .inr ⟨a, q, e _ _ b, e _ _ c⟩
theorem DueD.same {H H' : Hp} {du : Addr} {ks : List Int} (h : DueD H du ks) (e : Same H H') : DueD H' du ks := by
  rcases h with ⟨d, a, b⟩ | ⟨a, b⟩
  · exact .inl ⟨d, a, e _ _ b⟩
  · exact .inr ⟨a, b.same e⟩
theorem DueD.to {H : Hp} {du : Addr} {ks : List Int} (h : DueD H du ks) (l : ks.length ≤ 40) : DueB H du ks := by
  rcases h with ⟨n, a, b⟩ | ⟨a, ⟨d, b, c⟩ | ⟨b, q, c, g⟩⟩
  · exact .inr (.inl ⟨l, n, a, b⟩)
  · exact .inr (.inr (.inl ⟨l, a, d, b, c⟩))
  · rw [List.take_of_length_le (by omega)] at g
    exact .inr (.inr (.inr ⟨l, a, b, q, c, g⟩))
def unI : V → Int
  | .int n => n
  | _ => 0
theorem perm_ints {ys : List V} {ks : List Int} (h : ys.Perm (ks.map V.int)) : ∃ zs : List Int, ys = zs.map V.int ∧ zs.Perm ks := by
  refine ⟨ys.map unI, ?_, ?_⟩
  · rw [List.map_map]
    conv => lhs; rw [← List.map_id ys]
    refine List.map_congr_left fun v hv => ?_
    obtain ⟨n, _, rfl⟩ := List.mem_map.mp (h.mem_iff.mp hv)
    rfl
  · have := h.map unI
    rwa [List.map_map, show unI ∘ V.int = id from rfl, List.map_id] at this
theorem find_filter {ks : List Int} {p : Int → Bool} : ks.find? p = (ks.filter p).head? := by rw [List.head?_filter]
end TT
namespace TT
open PySem PySem.Spec PyProof.Rows L2 LamX
open T
/-! ### tuples that are known to have no dict: their methods may be called -/
/-- the tuple at a, with its very object -/
def TupX (H : Hp) (a : Addr) (xs : List V) : Prop := ∃ o : Obj, o.dict = none ∧ H a = some (.frz o (.tup xs))
theorem TupX.sq {K : PySem.W.Frag} {H : Hp} {a : Addr} {xs : List V} (h : TupX H a xs) : SqT K H a xs := by
  obtain ⟨o, _, e⟩ := h
  exact .inl (.inr ⟨o, e⟩)
theorem TupX.same {H H' : Hp} {a : Addr} {xs : List V} (h : TupX H a xs) (e : Same H H') : TupX H' a xs := by
  obtain ⟨o, n, q⟩ := h
  exact ⟨o, n, e _ _ q⟩
section
variable {X : Cx}
/-- tuple(l), l a list: a tuple with its object -/
def rTupX (K : PySem.W.Frag) : List V → Hp → VK → Prop := fun vs H Q => ∃ (a : Addr) (ys : List V), vs = [V.ref a] ∧ SqL K H a ys ∧ ∀ (l : Addr) (o : Obj), o.dict = none → H l = none → Q (.ref l) (upd H l (.frz o (.tup ys)))
theorem call_tupX : CallR X (.type "tuple") (rTupX X.K) := by
  intro pins s σ H vs us Q I r h
  obtain ⟨a, ys, rfl, hq, q⟩ := h
  obtain ⟨u, rfl, ru⟩ := vals1 r
  cases ru
  obtain ⟨its, rv, pl, hz⟩ := I.list hq
  have hl := rv.length
  refine call_tuple_list pl.isList (fun h1 kp => ?_) (by rw [List.size_toArray]; omega)
  have J : Inv X pins σ H { s with heap := h1 } := I.kept (t' := s.toks) kp
  have J2 := J.laid (a := h1.objs.size) (o := .frz { cls := .type "tuple", data := .seq its.toArray } (.tup ys)) (h' := h1.push { cls := .type "tuple", data := .seq its.toArray }) (t' := s.toks)
    (fun b ob e => Heap.get?_push_of_some _ e) (Nat.le_refl _) ⟨Heap.get?_push_size _ rfl, hz, its, rv, IsTup.new _ _⟩
  exact ⟨.ref h1.objs.size, _, J2, rfl, q _ _ rfl (J.hok.fresh (Nat.le_refl _))⟩
/-- t + u: a new tuple comes with its object; the empty one gives the other -/
def rCatX (K : PySem.W.Frag) : R2 := fun x y H Q => ∃ a b xs ys, x = .ref a ∧ y = .ref b ∧ SqT K H a xs ∧ SqT K H b ys ∧ xs.length + ys.length ≤ sizeLine ∧
  (xs = [] → Q (.ref b) H) ∧ (xs ≠ [] → ys = [] → Q (.ref a) H) ∧ (xs ≠ [] → ys ≠ [] → ∀ (p : Addr) (o : Obj), o.dict = none → H p = none → Q (.ref p) (upd H p (.frz o (.tup (xs ++ ys)))))
theorem op_catX : OpR X (binaryOp .Add) (rCatX X.K) := by
  intro pins s σ H x y v u Q I rx ry h
  obtain ⟨a, b, xs, ys, rfl, rfl, ha, hb, hz, q0, q1, q2⟩ := h
  by_cases hx : xs = []
  · exact op_catA pins s σ H _ _ v u Q I rx ry ⟨a, b, xs, ys, rfl, rfl, ha, hb, hz, q0, fun n => absurd hx n, fun n => absurd hx n⟩
  cases rx
  cases ry
  obtain ⟨i1, r1, p1, _⟩ := I.tuple ha
  obtain ⟨i2, r2, p2, _⟩ := I.tuple hb
  refine HT.cat_tup p1 p2 (fun z => hx (r1.nil_iff.mp z)) (fun z => ⟨.ref a, H, I, rfl, q1 hx (r2.nil_iff.mp z)⟩) (fun z => ?_) (by rw [← r1.length, ← r2.length]; exact hz)
  have J := I.laid (a := s.heap.objs.size) (o := .frz { cls := .type "tuple", data := .seq (i1 ++ i2).toArray } (.tup (xs ++ ys))) (h' := s.heap.push { cls := .type "tuple", data := .seq (i1 ++ i2).toArray }) (t' := s.toks)
    (fun c oc e => Heap.get?_push_of_some _ e) (Nat.le_refl _) ⟨Heap.get?_push_size _ rfl, by rw [List.length_append]; exact hz, _, r1.append r2, IsTup.new _ _⟩
  exact ⟨.ref s.heap.objs.size, _, J, rfl, q2 hx (fun n => z (r2.nil_iff.mpr n)) _ _ rfl (I.hok.fresh (Nat.le_refl _))⟩
/-- t.m(e, ..) for such a tuple -/
def tBMX (r : V → List V → Hp → VK → Prop) (to : TE) (t : TA) : TE := fun σ H Q => to σ H fun x H1 => (∃ a xs, x = .ref a ∧ TupX H1 a xs) ∧ t σ H1 fun ys H2 => r x ys H2 Q
variable {o e : Expr} {es : List Expr} {to : TE} {t : TA} {name : Str} {apos cpos : Pos} {id : String} {r : V → List V → Hp → VK → Prop}
theorem pe_bmX (slot : Slot "tuple" name id) (hty : typeOf (.builtin id) = pure (.type "method_descriptor")) (hm : MtR X id r) (ho : PE X o to) (ha : PA X (e :: es) t)
    (hb : attributeBase o name X.env (eval o X.env) = eval o X.env := by rfl)
    (hf : ((backTo cpos (starEach (e :: es) X.env)).all (fun x => !x.1) && (backToKw cpos (keywordEach [] X.env)).all (fun x => x.1.isSome) && decide ((e :: es).length + ([] : List Keyword).length + (if ([] : List Keyword).isEmpty then 0 else 1) < 30)) = true := by rfl)
    (hli : (apos.endLine == cpos.line) = true := by rfl) (hst : starEach (e :: es) X.env = (false, eval e X.env) :: starEach es X.env := by rfl) (hpl : (backTo cpos (starEach es X.env)).any (·.1) = false := by rfl) :
    PE X (.Call (.Attribute o name apos) (e :: es) [] cpos) (tBMX r to t) := by
  refine ⟨fun pins s σ H Q I h => wpAny_Call_method_late hb hf hli rfl (thn (ho.run pins s σ H _ I h) fun v s1 ⟨x, H1, I1, r1, ⟨a, xs, ex, ob, nd, eo⟩, q1⟩ => ?_)⟩
  subst ex
  cases r1
  obtain ⟨g1, _, _, _, g2⟩ := I1.hok a _ eo
  obtain ⟨o2, k1, k2, _⟩ := g2
  rw [g1] at k1
  cases k1
  refine ⟨"tuple", id, PySem.F.plainAttrs_tuple, slot, hty, ⟨ob, g1, k2⟩, fun b eb => by cases eb; exact ⟨ob, g1, nd⟩, ?_⟩
  have hA := ha.run cpos pins s1 σ H1 _ I1 q1
  rw [hst] at hA ⊢
  refine Calls.callWith_builtin (by show (false || (backTo cpos (starEach es X.env)).any (·.1)) = false; rw [hpl] <;> rfl) (Calls.evalArgs_plain ?_)
  exact thn hA fun us s2 ⟨vs, H2, I2, r2, q2⟩ => hm pins s2 σ H2 (.ref a) vs (.ref a) us Q I2 rfl r2 q2
end
def RdT (H : Hp) (a : Addr) (xs : List V) : Prop := H a = some (.tup xs) ∨ ∃ o, H a = some (.frz o (.tup xs))
theorem TupX.rd {H : Hp} {a : Addr} {xs : List V} (h : TupX H a xs) : RdT H a xs := by
  obtain ⟨o, _, e⟩ := h
  exact .inr ⟨o, e⟩
theorem RdT.same {H H' : Hp} {a : Addr} {xs : List V} (h : RdT H a xs) (e : Same H H') : RdT H' a xs := by
  rcases h with h | ⟨o, h⟩
  · exact .inl (e _ _ h)
  · exact .inr ⟨o, e _ _ h⟩
theorem RdT.sq {K : PySem.W.Frag} {H : Hp} {a : Addr} {xs : List V} (h : RdT H a xs) : SqT K H a xs := .inl h
theorem RdT.ty {K : PySem.W.Frag} {H : Hp} {a : Addr} {xs : List V} (h : RdT H a xs) : TyX K H (.ref a) (.type "tuple") := by
  rcases h with h | ⟨o, h⟩
  · exact .base (.tup h)
  · exact .fTuple h
/-- two tuples of the same ints -/
def spSameX : Sp := fun vs H Q _ => ∃ (a b : Addr) (ns : List Int), vs = [.ref a, .ref b] ∧ RdT H a (ns.map V.int) ∧ RdT H b (ns.map V.int) ∧ ns.length ≤ 1000 ∧ ∀ H', Same H H' → Q (.bl true) H'
def spShapeX : Sp := fun vs H Q _ => ∃ (m L R U : Addr) (t : T) (uf : Int → Option Int) (n : Nat), vs = [.ref m] ∧ Nod H m L R U t.rt t.lc t.rc uf n ∧ t.bst ∧ t.pre.length ≤ 1000 ∧
  ∀ p H', Same H H' → H p = none → TupX H' p (t.pre.map V.int) → Q (.ref p) H'
def spSomeX (K : PySem.W.Frag) : Sp := fun vs H Q _ => ∃ (d a : Addr) (ks : List Int) (c : Addr) (ns : List Int), vs = [.ref d, .ref a] ∧ SqL K H a (ks.map V.int) ∧ Asc ks ∧ ks.length ≤ 49 ∧ a ≠ d ∧ Drw c ns H d ∧
  ∀ (t : T) p H', t.bst → t.pre.Perm ks → Ext d H H' → Drw c ns H' d → H p = none → TupX H' p (t.pre.map V.int) → Q (.ref p) H'
def spPutX (K : PySem.W.Frag) : Sp := fun vs H Q _ => ∃ (a : Addr) (key : Int) (ks : List Int), vs = [.ref a, .int key] ∧ SqT K H a (ks.map V.int) ∧ ks.length ≤ 1000 ∧ (∃ y ∈ ks, y ≠ key) ∧ ∀ p H', Same H H' → TupX H' p ((topL key ks).map V.int) → Q (.ref p) H'
def spRotF (K : PySem.W.Frag) (C1 C2 : Addr) : Sp := fun vs H Q E => ∃ (a : Addr) (key : Int) (t : T), vs = [.ref a, .int key] ∧ SqT K H a (t.pre.map V.int) ∧ (key ∈ t.pre → TupX H a (t.pre.map V.int)) ∧ t.bst ∧ t.pre.length ≤ 1000 ∧ Kn t.pre ∧ key.natAbs.log2 < 1920 ∧
  (∀ p, t.up key = some p → ∀ q H', Same H H' → TupX H' q ((t.rot key).pre.map V.int) → Q (.ref q) H') ∧ (key ∈ t.pre → t.up key = none → EOw C2 "AtRoot" "key" key H E) ∧ (key ∉ t.pre → ENo C1 key H E)
theorem rot_rot {x p : Int} : ∀ {t : T}, t.bst → t.up x = some p → (t.rot x).rot p = t
  | leaf, _, h => by cases h
  | node l k r, b, h => by
    have nxp := (up_mem b h).2.1
    rcases up_cases b h with ⟨a1, a2, a3⟩ | ⟨a1, a2, a3, a4⟩ | ⟨a1, a2, a3⟩ | ⟨a1, a2, a3, a4⟩
    · have e : (node l k r).rot x = node l.lt x (node l.rtr k r) := by
        show (if x < k then (if l.rt = some x then _ else _) else _) = _
        rw [if_pos a1, if_pos a2]
      rw [e, a3]
      show (if k < x then _ else if x < k then (if (node l.rtr k r).rt = some k then node (node l.lt x (node l.rtr k r).lt) k (node l.rtr k r).rtr else _) else _) = _
      rw [if_neg (by omega), if_pos a1, if_pos (show (node l.rtr k r).rt = some k from rfl)]
      show node (node l.lt x l.rtr) k r = _
      rw [← rt_eta a2]
    · have e : (node l k r).rot x = node (l.rot x) k r := by
        show (if x < k then (if l.rt = some x then _ else _) else _) = _
        rw [if_pos a1, if_neg a2]
      have hp := (up_mem b.2.2.1 a3).1
      have nr : ¬ (l.rot x).rt = some p := fun z => by
        rw [rt_rot b.2.2.1 a3] at z
        split at z
        · exact nxp (Option.some.inj z)
        · next n => exact n ((up_rt b.2.2.1 hp).mpr z)
      rw [e]
      show (if p < k then (if (l.rot x).rt = some p then _ else node ((l.rot x).rot p) k r) else _) = _
      rw [if_pos a4, if_neg nr, rot_rot b.2.2.1 a3]
    · have e : (node l k r).rot x = node (node l k r.lt) x r.rtr := by
        show (if x < k then _ else if k < x then (if r.rt = some x then _ else _) else _) = _
        rw [if_neg (by omega), if_pos a1, if_pos a2]
      rw [e, a3]
      show (if k < x then (if (node l k r.lt).rt = some k then node (node l k r.lt).lt k (node (node l k r.lt).rtr x r.rtr) else _) else _) = _
      rw [if_pos a1, if_pos (show (node l k r.lt).rt = some k from rfl)]
      show node l k (node r.lt x r.rtr) = _
      rw [← rt_eta a2]
    · have e : (node l k r).rot x = node l k (r.rot x) := by
        show (if x < k then _ else if k < x then (if r.rt = some x then _ else _) else _) = _
        rw [if_neg (by omega), if_pos a1, if_neg a2]
      have hp := (up_mem b.2.2.2 a3).1
      have nr : ¬ (r.rot x).rt = some p := fun z => by
        rw [rt_rot b.2.2.2 a3] at z
        split at z
        · exact nxp (Option.some.inj z)
        · next n => exact n ((up_rt b.2.2.2 hp).mpr z)
      rw [e]
      show (if p < k then _ else if k < p then (if (r.rot x).rt = some p then _ else node l k ((r.rot x).rot p)) else _) = _
      rw [if_neg (by omega), if_pos a4, if_neg nr, rot_rot b.2.2.2 a3]
theorem rot_up {x p : Int} {t : T} (b : t.bst) (h : t.up x = some p) : (t.rot x).up p = some x := by
  rw [up_rot b h]
  unfold upR
  rw [if_neg (fun z => (up_mem b h).2.1 z.symm), if_pos rfl]
theorem rd_eqE {K : PySem.W.Frag} {H : Hp} {a b : Addr} {tag : Str} {n : Int} {Q : VK} (ha : H a = some (.tup [.str tag, .int n])) (hb : H b = some (.tup [.str tag, .int n])) (hs : PyData.strOk tag = true) (q : Q (.bl true) H) : rEqD K (.ref a) (.ref b) H Q := by
  refine ⟨_, _, .tup (SqT.of ha) (.cons (.str _) (.cons (.int _) .nil)), .tup (SqT.of hb) (.cons (.str _) (.cons (.int _) .nil)), shaped2 hs (.inr ⟨n, rfl⟩), shaped2 hs (.inr ⟨n, rfl⟩), ?_⟩
  have e : PyData.eqv (.tuple [.str tag, .int n]) (.tuple [.str tag, .int n]) = true := by
    show ((PyData.eqv (.str tag) (.str tag)) && ((n == n) && PyData.eqvAll [] [])) = true
    rw [show PyData.eqv (.str tag) (.str tag) = (tag == tag) from rfl]
    simp [PyData.eqvAll]
  rw [e]
  exact q
theorem rd_slX {K : PySem.W.Frag} {H : Hp} {a : Addr} {xs : List V} {lo hi : Option Int} {Q : VK} (ha : SqT K H a xs) (q : ∀ p H', Same H H' → SqT K H' p (cutV xs lo hi) → Q (.ref p) H') : rSlA K (.ref a) lo hi H Q := by
  refine ⟨a, xs, rfl, ha, fun hw => q a H (.refl _) ?_, fun _ p np => q p _ (same_new np) (SqT.of upd_same)⟩
  unfold cutV
  rw [hw.1, hw.2, List.drop_zero, Nat.sub_zero, List.take_length]
  exact ha
/-- a sum of tuples whose parts, where they come out themselves, have their objects -/
theorem rd_catX {K : PySem.W.Frag} {H : Hp} {a b : Addr} {xs ys : List V} {Q : VK} (ha : SqT K H a xs) (hb : SqT K H b ys) (hl : xs.length + ys.length ≤ 100000) (h1 : xs = [] → TupX H b ys) (h2 : xs ≠ [] → ys = [] → TupX H a xs)
    (q : ∀ p H', Same H H' → TupX H' p (xs ++ ys) → Q (.ref p) H') : rCatX K (.ref a) (.ref b) H Q := by
  refine ⟨a, b, xs, ys, rfl, rfl, ha, hb, sz hl, fun e => q b H (.refl _) (by rw [e]; exact h1 e), fun n e => q a H (.refl _) (by rw [e, List.append_nil]; exact h2 n e), fun n1 n2 p o nd np => q p _ (same_new np) ⟨o, nd, upd_same⟩⟩
end TT
/-! lambdas as values: kept in a list, with a default or without, called later -/
namespace TT
open PySem PySem.Spec PyProof.Rows L2 HotX LamX
/-- the function of a lambda whose defaults lie at dv -/
abbrev lamF (q : Str) (ar : Arguments) (bd : Expr) (sc : Scope) (cl : List (Str × Addr)) (pm dv cv tv : Value) : FuncData :=
  { PySem.W.kla_fn "<lambda>" q ar bd sc cl pm cv tv with defaults := dv }
abbrev lamOb (q : Str) (ar : Arguments) (bd : Expr) (sc : Scope) (cl : List (Str × Addr)) (pm dv cv tv : Value) : Obj :=
  { cls := .type "function", data := .func (lamF q ar bd sc cl pm dv cv tv) }
section
variable {X : Cx} {pins : List (Addr × Obj)} {σ : L2.St} {H : Hp} {s : Shared}
/-- from the code object on: what is left of a function's making -/
theorem lam_last {q : Str} {ar : Arguments} {bd : Expr} {sc : Scope} {cl : List (Str × Addr)} {dv cv tv : Value} {bm P : Addr} {R : Value → Shared → Prop} {E : Value → Shared → Prop} (I : Inv X pins σ H s) (hb : s.heap.BuiltinsAt X.mg P)
    (h : R (.ref s.heap.objs.size) { s with heap := s.heap.push (lamOb q ar bd sc cl ((X.mg "__name__").getD .none) dv cv tv) }) :
    wpAny (model X.prog X.w) X.A (do
      let b ← builtinsFor mainGlobals X.env.builtins
      let n ← nsGet mainGlobals "__name__"
      let dc ← (pure .none : Sem Value)
      newObj (.type "function") (.func { name := "<lambda>", qualname := q, params := ar, body := .expr bd, scope := sc, globals := mainGlobals, closure := cl, closureTuple := tv, code := cv, builtins := b, defaults := dv, kwdefaults := .none, annotations := none, pyModule := n.getD .none, doc := dc })) R E s := by
  obtain ⟨bm, ob, h1, h2, _, h3, h4, h5, h6, h7⟩ := hb
  have hg : s.heap.Ns mainGlobals X.mg := I.mod.glob.keeps I.bk
  exact wpAny_bind (wpAny_builtinsFor hg h1 h2 h4 h5 h6 h7 (wpAny_bind (wpAny_nsGet hg (wpAny_bind (wpAny_pure (wpAny_newObj_type h (by size_fits)))))))
/-- the function is made: known to its very object -/
theorem lam_tail {T : List (Addr × Str)} {c P : Addr} {ar : Arguments} {bd : Expr} {sc : Scope} {pos : Pos} {dv : Value} {E R : Value → Shared → Prop} (I : Inv X pins σ H s) (TB : TabB X.base X.mg c P) (hcode : X.env.code = .ref c)
    (hm : (P, X.env.qual ++ "<lambda>") ∈ T) (hu : ∀ p ∈ T, p.1 = P → p.2 = X.env.qual ++ "<lambda>") (hT : Tabs T H) (hfree : ∀ y ∈ sc.names, y.2 = .free → ∃ c, X.env.cells.lookup y.1 = some c)
    (h : ∀ (f c' : Addr) (pm tv : Value) (H1 : Hp) (s' : Shared), Inv X pins σ H1 s' → ExtN H H1 → Tabs T H1 → H f = none →
      H1 f = some (.frz (lamOb (X.env.qual ++ "<lambda>") ar bd sc (cloFrom X.env.cells sc.names []) pm dv (.ref c') tv) (.own f)) → H1 c' = some (CodeO c' (X.env.qual ++ "<lambda>")) → R (.ref f) s') :
    wpAny (model X.prog X.w) X.A (makeTail "<lambda>" (X.env.qual ++ "<lambda>") ar (.expr bd) sc X.env dv .none none pos pos.line) R E s := by
  obtain ⟨ps, hP, ht, ha⟩ := hT _ hm
  unfold makeTail
  rw [closure_ok hfree, I.ok.glob]
  refine wpAny_bind (wpAny_pure ?_)
  suffices key : ∀ (tv : Value) (s0 : Shared), Inv X pins σ H s0 → wpAny (model X.prog X.w) X.A (do
      let cv ← functionCode X.env pos pos.line "<lambda>" (X.env.qual ++ "<lambda>") ar sc (.expr bd)
      let b ← builtinsFor mainGlobals X.env.builtins
      let n ← nsGet mainGlobals "__name__"
      let dc ← (pure .none : Sem Value)
      newObj (.type "function") (.func { name := "<lambda>", qualname := X.env.qual ++ "<lambda>", params := ar, body := .expr bd, scope := sc, globals := mainGlobals, closure := cloFrom X.env.cells sc.names [], closureTuple := tv, code := cv, builtins := b, defaults := dv, kwdefaults := .none, annotations := none, pyModule := n.getD .none, doc := dc })) R E s0 by
    dsimp only
    split
    · exact wpAny_bind (wpAny_pure (key .none s I))
    · exact wpAny_bind (wpAny_newTextTuple (key _ _ (I.kept (t' := s.toks) fun b o e => Heap.get?_push_of_some _ e)))
  intro tv s0 I0
  have bP : s0.heap.BuiltinsAt X.mg P := TB.bm.keeps I0.bk
  have hP' : s0.heap.get? P = some { cls := .none, data := .fields ps } := I0.hok P _ hP
  have C : PySem.W.CodeHd s0.heap c P := TB.code.keeps I0.bk
  -- once the code object is there
  have fin : ∀ (c' : Addr) (H1 : Hp) (s1 : Shared), Inv X pins σ H1 s1 → s1.heap.BuiltinsAt X.mg P → ExtN H H1 → Tabs T H1 → H1 c' = some (CodeO c' (X.env.qual ++ "<lambda>")) → (∀ f, s1.heap.objs.size ≤ f → H f = none) →
      R (.ref s1.heap.objs.size) { s1 with heap := s1.heap.push (lamOb (X.env.qual ++ "<lambda>") ar bd sc (cloFrom X.env.cells sc.names []) ((X.mg "__name__").getD .none) dv (.ref c') tv) } := fun c' H1 s1 I1 _ eN T1 hco hn => by
    have nf : H1 s1.heap.objs.size = none := I1.hok.fresh (Nat.le_refl _)
    have sm : ∀ {o : HO} b u, H1 b = some u → upd H1 s1.heap.objs.size o b = some u := fun {o} b u e => by rw [upd_ne (ne_of_none e nf)]; exact e
    refine h _ c' _ tv _ _ (I1.laid (t' := s1.toks) (o := .frz (lamOb (X.env.qual ++ "<lambda>") ar bd sc (cloFrom X.env.cells sc.names []) ((X.mg "__name__").getD .none) dv (.ref c') tv) (.own s1.heap.objs.size)) (fun b o e => Heap.get?_push_of_some _ e) (Nat.le_refl _) ⟨Heap.get?_push_size _ rfl, _, Heap.get?_push_size _ rfl⟩)
      (eN.trans (ExtN.of sm)) (T1.ext sm) (hn _ (Nat.le_refl _)) upd_same (sm _ _ hco)
  cases hc : codeAmong pos ps.toList with
  | some cv =>
    obtain ⟨c', e, hco⟩ := ha pos cv hc
    subst e
    refine wpAny_bind (wpAny_functionCode_hit hcode (C.code hP' ht) hc ?_)
    exact lam_last (P := P) (bm := P) I0 bP (fin c' H s0 I0 bP (ExtN.refl H) hT hco fun f hf => I0.hok.fresh hf)
  | none =>
    refine wpAny_bind (wpAny_functionCodeX hcode (C.code hP' ht) (C.tab hP') hc fun c' h' tk hx hge hlt _ hrec htb _ => ?_)
    obtain ⟨c2, oc, vs, t, e2, hoc, hd, hv⟩ := hrec
    cases e2
    have nC : H c' = none := I0.hok.fresh hge
    have I1 := inv_table (t' := tk) (more := #[rawInt pos.line, rawInt pos.col, .ref c']) (h' := h') I0 hP (fun b o hb e => hx b o hb e) htb.2 hge ⟨oc, vs, t, hoc, hd, hv⟩
    have hE : ExtN H (upd (upd H P (.tbl (ps ++ #[rawInt pos.line, rawInt pos.col, .ref c']))) c' (CodeO c' (X.env.qual ++ "<lambda>"))) := fun b o e n => by
      rw [upd_ne (ne_of_none e nC)]
      by_cases hb : b = P
      · rw [hb, hP] at e; exact absurd (Option.some.inj e).symm (n ps)
      · rw [upd_ne hb]; exact e
    have eL : (ps ++ #[rawInt pos.line, rawInt pos.col, .ref c']).toList = ps.toList ++ [rawInt pos.line, rawInt pos.col, .ref c'] := by simp
    have T1 : Tabs T (upd (upd H P (.tbl (ps ++ #[rawInt pos.line, rawInt pos.col, .ref c']))) c' (CodeO c' (X.env.qual ++ "<lambda>"))) := fun p hp => by
      by_cases hb : p.1 = P
      · rw [hu p hp hb, hb]
        refine ⟨_, by rw [upd_ne (ne_of_none hP nC)]; exact upd_same, by rw [eL]; exact PySem.TriplesOk_snoc _ _ _ _ ht, fun p' cv z => ?_⟩
        rw [eL] at z
        rcases among_app _ ht z with z | z
        · exact let ⟨c0, e1, e2⟩ := ha p' cv z; ⟨c0, e1, hE _ _ e2 codeO_ne⟩
        · exact ⟨c', z, upd_same⟩
      · obtain ⟨qs, a1, a2, a3⟩ := hT p hp
        refine ⟨qs, by rw [upd_ne (ne_of_none a1 nC)]; rw [upd_ne hb]; exact a1, a2, fun p' cv z => ?_⟩
        exact let ⟨c0, e1, e2⟩ := a3 p' cv z; ⟨c0, e1, hE _ _ e2 codeO_ne⟩
    have sz1 : s0.heap.objs.size ≤ h'.objs.size := Nat.le_trans hge (Nat.le_of_lt hlt)
    exact lam_last (P := P) (bm := P) (s := { s0 with heap := h', toks := tk }) I1 (TB.bm.keeps I1.bk) (fin c' _ { s0 with heap := h', toks := tk } I1 (TB.bm.keeps I1.bk) hE T1 upd_same fun f hf => I0.hok.fresh (Nat.le_trans sz1 hf))
/-- what a lambda's default is -/
inductive LamD (env : Env) (ar : Arguments) : Bool → Prop
  | no : defaultsOf ar env = ([], []) → LamD env ar false
  | one {n : Int} {j : Nat} {p : Pos} : defaultsOf ar env = ([eval (.Constant (.int n) j p) env], []) → ar.kwonlyargs = [] → LamD env ar true
/-- the default's tuple, as it lies -/
def DefAt (H : Hp) : Bool → Value → Prop
  | false, dv => dv = .none
  | true, dv => ∃ (d : Addr) (v : Value), dv = .ref d ∧ H d = some (.frz { cls := .type "tuple", data := .seq #[v] } (.own d))
theorem DefAt.ext {H H' : Hp} {b : Bool} {dv : Value} (h : DefAt H b dv) (e : ∀ a o u, H a = some (.frz o u) → H' a = some (.frz o u)) : DefAt H' b dv := by
  cases b with
  | false => exact h
  | true =>
    obtain ⟨d, v, e1, e2⟩ := h
    exact ⟨d, v, e1, e _ _ _ e2⟩
/-- a lambda that lies at f -/
def LamAt (X : Cx) (H : Hp) (f : Addr) (ar : Arguments) (bd : Expr) (sc : Scope) (b : Bool) : Prop :=
  ∃ (c' : Addr) (pm dv tv : Value), H f = some (.frz (lamOb (X.env.qual ++ "<lambda>") ar bd sc (cloFrom X.env.cells sc.names []) pm dv (.ref c') tv) (.own f)) ∧ DefAt H b dv ∧ H c' = some (CodeO c' (X.env.qual ++ "<lambda>"))
theorem LamAt.ext {H H' : Hp} {f : Addr} {ar : Arguments} {bd : Expr} {sc : Scope} {b : Bool} (h : LamAt X H f ar bd sc b) (e : ExtN H H') : LamAt X H' f ar bd sc b := by
  obtain ⟨c', pm, dv, tv, h1, h2, h3⟩ := h
  exact ⟨c', pm, dv, tv, e _ _ h1 (fun ps z => by cases z), h2.ext fun a o u z => e _ _ z fun ps q => (by cases q), e _ _ h3 codeO_ne⟩
def tLamV (T : List (Addr × Str)) (X : Cx) (ar : Arguments) (bd : Expr) (sc : Scope) (b : Bool) : TE := fun _ H Q =>
  Tabs T H ∧ ∀ f H1, ExtN H H1 → Tabs T H1 → H f = none → LamAt X H1 f ar bd sc b → Q (.ref f) H1
/-- lambda: body, as a value -/
theorem pe_lamV {T : List (Addr × Str)} {c P : Addr} {ar : Arguments} {bd : Expr} {sc : Scope} {pos : Pos} {b : Bool} (TB : TabB X.base X.mg c P) (hcode : X.env.code = .ref c)
    (hm : (P, X.env.qual ++ "<lambda>") ∈ T) (hu : ∀ p ∈ T, p.1 = P → p.2 = X.env.qual ++ "<lambda>") (hd : LamD X.env ar b) (hfree : X.Ok → ∀ y ∈ sc.names, y.2 = .free → ∃ c, X.env.cells.lookup y.1 = some c) :
    PE X (.Lambda ar bd sc pos) (tLamV T X ar bd sc b) := ⟨fun pins s σ H Q I h => by
  obtain ⟨hT, h⟩ := h
  cases hd with
  | no hd =>
    refine PySem.W.kla_eval hd ?_
    rw [makeFunction_eq]
    simp only [List.zip_nil_right, List.filterMap_nil, List.isEmpty_nil, if_true, pure_bind]
    exact lam_tail I TB hcode hm hu hT (hfree I.ok) fun f c' pm tv H1 s' I1 eN T1 hn hf hco => ⟨.ref f, H1, I1, rfl, h f H1 eN T1 hn ⟨c', pm, .none, tv, hf, rfl, hco⟩⟩
  | one hd hk =>
    rename_i n j p
    rw [arm_eval_Lambda, hd]
    show wpAny _ _ (do let dv ← evalAll [eval (.Constant (.int n) j p) X.env]; let kdv ← holding dv (evalAllOpt []); makeFunction "<lambda>" (X.env.qual ++ "<lambda>") ar (.expr bd) sc X.env dv kdv [] pos pos.line) _ _ _
    refine wpAny_bind (wpAny_bind (thn ((pe_int (X := X) (pos := p)).run pins s σ H (fun v H1 => v = .int n ∧ H1 = H) I ⟨rfl, rfl⟩) fun u s1 ⟨v, H1, I1, r1, ev, eH⟩ => ?_))
    subst ev
    rw [eH] at I1
    refine wpAny_bind (wpAny_holding (wpAny_pure (wpAny_pure (wpAny_bind (wpAny_holding (wpAny_pure ?_))))))
    rw [makeFunction_eq, hk]
    simp only [List.zip_nil_left, List.filterMap_nil, List.isEmpty_nil, if_true, pure_bind]
    refine wpAny_bind (wpAny_newTextTuple ?_)
    have nf : H s1.heap.objs.size = none := I1.hok.fresh (Nat.le_refl _)
    have I2 := I1.laid (t' := s1.toks) (a := s1.heap.objs.size) (o := .frz { cls := .type "tuple", data := .seq #[u] } (.own s1.heap.objs.size)) (h' := s1.heap.push { cls := .type "tuple", data := .seq [u].toArray }) (fun b o e => Heap.get?_push_of_some _ e) (Nat.le_refl _) ⟨Heap.get?_push_size _ rfl, _, Heap.get?_push_size _ rfl⟩
    have sm := same_new (o := .frz { cls := .type "tuple", data := .seq #[u] } (.own s1.heap.objs.size)) nf
    refine lam_tail I2 TB hcode hm hu (hT.ext sm) (hfree I.ok) fun f c' pm tv H3 s' I3 eN T1 hn hf hco => ⟨.ref f, H3, I3, rfl, h f H3 ((ExtN.of sm).trans eN) T1 ?_ ⟨c', pm, _, tv, hf, ⟨_, u, rfl, eN _ _ upd_same fun ps z => by cases z⟩, hco⟩⟩
    cases hz : H f with
    | none => rfl
    | some o => rw [sm _ _ hz] at hn; cases hn⟩
end
end TT
namespace TT
open PySem PySem.Spec PyProof.Rows L2 HotX LamX
/-- a lambda's names: none that a def of its own would share, what it hides is no name of the maker -/
structure LamW (N : List Str) (so sc : Scope) : Prop where
  kind : sc.kind = .function
  co : sc.isCoroutine = false
  gen : sc.isGenerator = false
  cel : ∀ y ∈ sc.names, y.2 ≠ .cell
  loc : ∀ y ∈ sc.names, y.2 = .local → y.1 ∉ N
  free : ∀ y ∈ sc.names, y.2 = .free → so.names.lookup y.1 = some .cell ∨ so.names.lookup y.1 = some .free
def lamWB (N : List Str) (so sc : Scope) : Bool :=
  decide (sc.kind = .function) && (!sc.isCoroutine && (!sc.isGenerator && (sc.names.all fun y => !decide (y.2 = .cell) && ((!decide (y.2 = .local) || !decide (y.1 ∈ N)) && (!decide (y.2 = .free) || (decide (so.names.lookup y.1 = some .cell) || decide (so.names.lookup y.1 = some .free)))))))
theorem lamW_by {N : List Str} {so sc : Scope} (h : lamWB N so sc = true) : LamW N so sc := by
  unfold lamWB at h
  simp only [Bool.and_eq_true, Bool.or_eq_true, Bool.not_eq_true', decide_eq_true_eq, decide_eq_false_iff_not, List.all_eq_true] at h
  obtain ⟨h1, h2, h3, h4⟩ := h
  exact ⟨h1, h2, h3, fun y hy => (h4 y hy).1, fun y hy e => (h4 y hy).2.1.elim (fun z => absurd e z) id, fun y hy e => (h4 y hy).2.2.elim (fun z => absurd e z) id⟩
theorem LamW.has {X : Cx} {sc : Scope} (L : LamW X.N X.env.scope sc) (ok : X.Ok) : ∀ y ∈ sc.names, y.2 = .free → ∃ c, X.env.cells.lookup y.1 = some c := fun y hy e =>
  ok.has _ ((L.free y hy e).imp id id)
/-- what the lambda's call binds -/
def LamBind (ar : Arguments) (bd : Expr) (sc : Scope) : Bool → Prop
  | false => ∀ (q : Str) (cl : List (Str × Addr)) (pm cv tv : Value), bindArgs (lamF q ar bd sc cl pm .none cv tv) ⟨[], []⟩ = pure []
  | true => ∃ a : Str, sc.names.lookup a = some .local ∧ ∀ (q : Str) (cl : List (Str × Addr)) (pm cv tv : Value) (d : Addr), ∃ k, bindArgs (lamF q ar bd sc cl pm (.ref d) cv tv) ⟨[], []⟩ = seqItems? (.ref d) >>= k ∧ ∀ v, k (some #[v]) = pure [(a, v)]
theorem lam_binds {P : Program} {w : World} {ar : Arguments} {bd : Expr} {sc : Scope} {b : Bool} {H : Hp} {s : Shared} {dv pm cv tv : Value} {q : Str} {cl : List (Str × Addr)} (hb : LamBind ar bd sc b) (hd : DefAt H b dv) (ok : HOk P w H s.heap) :
    ∃ bs : List (Str × Value), (∀ y ∈ bs, sc.names.lookup y.1 = some .local) ∧ BindsTo s (lamF q ar bd sc cl pm dv cv tv) ⟨[], []⟩ bs := by
  cases b with
  | false =>
    have e : dv = .none := hd
    subst e
    exact ⟨[], fun y hy => (by cases hy), BindsTo.of_eq (hb _ _ _ _ _)⟩
  | true =>
    obtain ⟨d, v, rfl, hd⟩ := hd
    obtain ⟨a, ha, hk⟩ := hb
    obtain ⟨k, e1, e2⟩ := hk q cl pm cv tv d
    refine ⟨[(a, v)], fun y hy => by rw [List.mem_singleton.mp hy]; exact ha, fun M A E Q hq => ?_⟩
    rw [e1]
    refine wpAny_bind (wpAny_seqItems (ok d _ hd).1 rfl ?_)
    rw [e2]
    exact wpAny_pure hq
section
variable {X : Cx} {pins : List (Addr × Obj)} {σ : L2.St} {H HZ : Hp} {s s1 : Shared}
/-- the frame of the lambda's body -/
theorem lam_begin {A : Around} {outer : List Env} {E : XK} {sc : Scope} {f c' : Addr} {h1 : Heap} {tk : Nat} {bs : List (Str × Value)} (I : Inv X pins σ H s) (L : LamW X.N X.env.scope sc) (e0 : Env0 X.prog X.w X.K X.mg X.base A outer s1 HZ) (hd : A.handled = none)
    (un : Un (frs X.stack) [] H HZ s.heap s1.heap) (hns : h1.Ns s1.heap.objs.size fun y => bs.reverse.lookup y) (kp : ∀ b o, s1.heap.get? b = some o → h1.get? b = some o) :
    Inv (lamCx X A outer s1 HZ E sc f c') [] σ HZ { s1 with heap := h1, toks := tk } := by
  have back : ∀ {y : Str} {c : Addr}, (cloFrom X.env.cells sc.names []).lookup y = some c → X.env.cells.lookup y = some c := fun {y c} e => by
    rcases cloFrom_mem (PySem.mem_of_lookup e) with hm | ⟨h1, h2⟩
    · exact (by cases hm)
    · obtain ⟨c1, hc⟩ := L.has I.ok _ h1 rfl
      have hc : X.env.cells.lookup y = some c1 := hc
      have : c = c1 := by rw [h2, hc] <;> rfl
      exact this ▸ hc
  have there : ∀ {y : Str}, sc.names.lookup y = some .free → ∃ c, (cloFrom X.env.cells sc.names []).lookup y = some c := fun {y} hl => mem_lookup (cloFrom_has (cells := X.env.cells) (acc := []) (show (y, NameKind.free) ∈ sc.names from PySem.mem_of_lookup hl))
  have stay : ∀ {c : Addr} {v : Option Value}, H c = none → s.heap.IsCell c v → h1.IsCell c v := fun {c v} n ⟨o, ho, hd⟩ =>
    let ⟨_, q⟩ := un.any ho n (by simp)
    ⟨_, kp _ _ q, hd⟩
  have no : ∀ b : Addr, b ∉ ([] : List Addr) := fun b => by simp
  have ok : (lamCx X A outer s1 HZ E sc f c').Ok :=
    { mod := e0.mod, kind := L.kind, glob := rfl, blt := rfl, above := Nat.le_refl _, inj := fun y z c e1 e2 => I.ok.inj y z c (back e1) (back e2), has := fun y hy => ?_, cab := fun y c z _ => Bool.noConfusion (show false = true from z)
      hd := fun _ => hd, frames := Around.frames_deeper e0.frames, stk := .inr ⟨rfl, rfl⟩, exf := fun b z => absurd z (no b), bs := e0.bs, bsz := e0.bsz, noex := fun b _ _ => no b, exfs := fun b z => absurd z (no b), funs := e0.funs, frf := e0.frf }
  · refine { ok := ok, os := rfl, bare := e0.bare, base := Un.kept kp, loc := ⟨_, hns, fun i y v e1 e2 e3 => ?_⟩, cell := fun y c e => ?_, free := e0.hok.fresh (Nat.le_refl _), freeC := fun y c e => ?_, pin := fun q hq => absurd (show q ∈ ([] : List (Addr × Obj)) ++ [] from hq) (by simp), hok := e0.hok.kept kp, len := I.len }
    · have e3 : Vis sc y := e3
      rcases e3 with k | k | k
      · exact absurd (List.mem_of_getElem? (show X.N[i]? = some y from e1)) (L.loc _ (PySem.mem_of_lookup k) rfl)
      · exact absurd rfl (L.cel _ (PySem.mem_of_lookup k))
      · obtain ⟨m, hn, hl⟩ := I.loc
        have fr := L.free _ (PySem.mem_of_lookup k) rfl
        obtain ⟨w', r, q⟩ := hl i y v e1 e2 (.inr fr)
        obtain ⟨c2, h2⟩ := there k
        refine ⟨w', r, .inr ⟨.inr k, c2, h2, ?_⟩⟩
        rcases q with ⟨k', _⟩ | ⟨_, c3, e', z⟩
        · have k' : X.env.scope.names.lookup y = some .local := k'
          exact (fr.elim (fun k2 => by rw [show X.env.scope.names.lookup y = _ from k2] at k'; cases k') fun k2 => by rw [show X.env.scope.names.lookup y = _ from k2] at k'; cases k')
        · rw [back h2] at e'
          cases e'
          exact stay (I.freeC y _ (back h2)) z
    · obtain ⟨w', z⟩ := I.cell y c (back e)
      exact ⟨w', stay (I.freeC y c (back e)) z⟩
    · obtain ⟨v, o, ho, hd⟩ := I.cell y c (back e)
      exact un.free c o ho (I.freeC y c (back e)) (by simp)
  · have hy : sc.names.lookup y = some .cell ∨ sc.names.lookup y = some .free := hy
    exact hy.elim (fun z => absurd rfl (L.cel _ (PySem.mem_of_lookup z))) there
/-- a lambda that lies in the heap, called in a frame however deep -/
theorem pe_actF {CXg : CXT} {Eg : XK} {Ng : List Str} {qg : Str} {sg : Scope} {g f c' : Addr} {cdg pm dv ctv : Value} {ar : Arguments} {bd : Expr} {sc : Scope} {b : Bool} {k i : Nat} {a : Str} {pn : List (Addr × Obj)} {xe : Value → Shared → Prop} {W : WX} {E : XK} {tb : TE} {p1 p2 : Pos} {YA : Around} {Ys : List Env} {s0 : Shared} {H0 : Hp}
    (I : Inv X pins σ H s) (L : LamW X.N X.env.scope sc) (hf : H f = some (.frz (lamOb (X.env.qual ++ "<lambda>") ar bd sc (cloFrom X.env.cells sc.names []) pm dv (.ref c') ctv) (.own f))) (hdv : DefAt H b dv) (hbind : LamBind ar bd sc b)
    (link : Un (frs X.stack) [] H H0 s.heap s0.heap) (sub : ∀ b ∈ frs Ys, b ∈ frs X.stack ∨ s.heap.get? b = none) (sup : ∀ b ∈ frs X.stack, b ∈ frs Ys)
    (tk : L2N.Takes ((cxOf CXg X.prog X.w X.K X.mg X.base Ng qg sg g cdg YA Ys s0 H0 Eg).tr pn xe) W) (hr : Room (k + 1) (YA.deeper (envOfC qg sg s0.heap.objs.size g cdg)))
    (hbody : ∀ (A : Around) (outer : List Env) (s : Shared) (H : Hp), Room k (A.deeper (lamEnv X sc s.heap.objs.size f c')) → PE (lamN X A outer s H E sc f c') bd tb)
    (hN : Ng[i]? = some a) (hv : Vis sg a) (hd : (a == ("__debug__" : Str)) = false := by decide) (hcd : (a == ("__classdict__" : Str)) = false := by decide) :
    PE ((cxOf CXg X.prog X.w X.K X.mg X.base Ng qg sg g cdg YA Ys s0 H0 Eg).tr pn xe) (.Call (.Name a p1) [] [] p2)
      (fun σZ HZ Q => (∀ cls d H', E cls d H' → W cls d σZ H') ∧ σZ[i]? = some (some (.ref f)) ∧ HZ c' = some (CodeO c' (X.env.qual ++ "<lambda>")) ∧ tb σ HZ Q) := ⟨fun pinsZ sZ σZ HZ Q IZ h => by
  obtain ⟨hW, hs, hc, ht⟩ := h
  refine wpAny_Call_Name_kw (thn ((pe_var (pos := p1) (i := i) hN hv hd hcd).run pinsZ sZ σZ HZ (fun v H1 => v = .ref f ∧ H1 = HZ) IZ ⟨.ref f, hs, rfl, rfl⟩) fun u s1 ⟨v, H1, I1, r1, ev, eH⟩ => ?_)
  subst ev
  rw [eH] at I1
  obtain rfl : u = Value.ref f := r1
  have un : Un (frs X.stack) [] H HZ s.heap s1.heap := Un.comp link I1.base sub sup
  have of1 := (I1.hok f _ (un.frzs f _ _ hf)).1
  obtain ⟨bs, hbs, hbt⟩ := lam_binds (q := X.env.qual ++ "<lambda>") (cl := cloFrom X.env.cells sc.names []) (pm := pm) (cv := .ref c') (tv := ctv) hbind (hdv.ext un.frzs) I1.hok
  refine PySem.W.callWith_F0 ⟨_, _, _, _, of1⟩ ?_
  obtain ⟨⟨oc, vs, t, hoc, hdc, hvc⟩, _, _⟩ := I1.hok c' _ hc
  refine wpAny_call (codeAny_mono (R := CR (L2N.CX X.prog X.w) (envOfC qg sg s0.heap.objs.size g cdg :: Ys) X.prog X.w HZ s1 Q E) (PySem.W.kla_callFunE hr.depth of1 rfl L.co L.gen rfl ⟨c', oc, vs, t, rfl, hoc, hdc, hvc⟩ ?_) fun r s' hq => ?_)
  · refine hbt _ _ _ _ ?_
    refine wpAny_newFunctionEnv L.cel hbs (fun h₁ hns hsb => ⟨I1.nolimit.fresh _ hsb, ?_⟩) L.kind
    show codeAny _ _ (.expr bd (lamEnv X sc s1.heap.objs.size f c')) _ _
    have kp : ∀ b o, s1.heap.get? b = some o → h₁.get? b = some o := fun b o z => hsb.extBut b o (Nat.ne_of_lt (Heap.lt_size z)) (Heap.get?_push_of_some _ z)
    have J0 : Inv (lamCx X (YA.deeper (envOfC qg sg s0.heap.objs.size g cdg)) (envOfC qg sg s0.heap.objs.size g cdg :: Ys) s1 HZ E sc f c') [] σ HZ { s1 with heap := h₁, toks := s1.toks + bs.length } := lam_begin I L I1.env0 hr.hd un hns kp
    have J := J0.toTry (fun e s' => wpAny (model X.prog X.w) ((YA.deeper (envOfC qg sg s0.heap.objs.size g cdg)).deeper (lamEnv X sc s1.heap.objs.size f c')) (leaving (lamEnv X sc s1.heap.objs.size f c') e) (fun _ s'' => L2N.CX X.prog X.w (envOfC qg sg s0.heap.objs.size g cdg :: Ys) HZ s1 E e s'') (fun e' s'' => L2N.CX X.prog X.w (envOfC qg sg s0.heap.objs.size g cdg :: Ys) HZ s1 E e' s'') s')
    refine PySem.W.kla_codeExpr (wpAny_mono ((hbody _ _ s1 HZ (hr.deeper _)).run [] _ _ HZ Q J ht) (fun v s' hq => ?_) fun e s' hq => hq)
    obtain ⟨w', H', J', rv, q⟩ := hq
    exact ⟨w', H', J'.os, J'.bare, J'.base, J'.hok, rv, q⟩
  · cases r with
    | error e => exact tk e s' (L2N.XE.of_call I1 hW hq)
    | ok fl =>
      cases fl with
      | ret u => exact I1.after hq
      | next => exact False.elim hq
      | brk => exact False.elim hq
      | cont => exact False.elim hq⟩
end
/-- a lambda that may be called: its text, its names, its body's reading -/
structure LamOk (X : Cx) (j : Nat) (ar : Arguments) (bd : Expr) (sc : Scope) (b : Bool) (t : XK → TE) : Prop where
  L : LamW X.N X.env.scope sc
  bind : LamBind ar bd sc b
  body : ∀ (A : Around) (outer : List Env) (s : Shared) (H : Hp) (E : XK) (f c' : Addr), Room j (A.deeper (lamEnv X sc s.heap.objs.size f c')) → PE (lamN X A outer s H E sc f c') bd (t E)
/-- in a block of X, at any time: X's own state is still as it was -/
def Back (X Y : Cx) (σ : L2.St) : Prop := ∀ pins' σ' H' s', Inv Y pins' σ' H' s' → ∃ pins, Inv X pins σ H' s'
/-- what the lambda at f, handed to a def, is read as -/
def tGiv (X : Cx) (j : Nat) (TO : (XK → Hp → VK → Prop) → Hp → VK → Prop) (i : Nat) (σ : L2.St) : TE := fun σY HY Q =>
  ∃ f ar bd sc b t, σY[i]? = some (some (.ref f)) ∧ LamAt X HY f ar bd sc b ∧ LamOk X j ar bd sc b t ∧ TO (fun E H' Q' => t E σ H' Q') HY Q
section
variable {X : Cx} {σ : L2.St}
/-- x(y), y a name that holds a lambda of X, in a block of X -/
theorem pe_giv {TO : (XK → Hp → VK → Prop) → Hp → VK → Prop} {x a y : Str} {g : Addr} {i j k : Nat} {pg : Arguments} {bg : List Stmt} {sg : Scope} {dV kV doc pm cdv ct oc : Value} {an od : Option Addr} {osl : Array (Option Value)} {Ng : List Str} {p p1 pos : Pos} {s' : Shared} {H' : Hp} {scb : Scope} {cen : Env} {fp : List Addr}
    (hg : Gl (X.blk s' H' scb cen fp) x) (hm : X.mg x = some (.ref g)) (hk : PySem.W.keepIn X.K (.ref g) = true)
    (lk : X.K.lookup g = some ⟨oc, od, .func (PySem.W.fnOf x x pg bg sg dV kV doc pm an cdv ct), osl⟩) (hcg : PySem.W.codeIn X.K cdv x = true) (hb : L2.Binds X.K (PySem.W.fnOf x x pg bg sg dV kV doc pm an cdv ct) [a] []) (Sg : FnScope Ng [a] sg)
    (hG : GivM X Ng x sg g cdv bg (X.env.qual ++ "<lambda>") j k TO) (hr : Room (k + 1) X.A) (hv : PE (X.blk s' H' scb cen fp) (.Name y p1) (tVar i)) (back : Back X (X.blk s' H' scb cen fp) σ)
    (hdb : (x == ("__debug__" : Str)) = false := by decide) :
    PE (X.blk s' H' scb cen fp) (.Call (.Name x p) [.Name y p1] [] pos) (tGiv X j TO i σ) := ⟨fun pins sY σY HY Q IY h => by
  obtain ⟨f, ar, bd, sc, b, t, h0, ⟨c', pmv, dv, tv, hf, hdv, hco⟩, ok, hT⟩ := h
  refine wpAny_Call_Name_kw (ld_glob IY hg hm (PySem.W.callWith_K (h₀ := X.base) IY.ok.mod.kin hk (thn ((pa_cons hv pa_nil).run pos pins sY σY HY (fun vs H1 => vs = [.ref f] ∧ H1 = HY) IY ⟨.ref f, h0, rfl, rfl⟩) fun us s1 ⟨vs, H1, I1, r1, ev, eH⟩ => ⟨I1.kIn, ?_⟩) (by rfl) (by rfl)) hdb)
  subst ev
  rw [eH] at I1
  obtain rfl := Vals.ref1 r1
  obtain ⟨pinsX, IX⟩ := back _ _ _ _ I1
  refine wpAny_call (codeAny_mono (R := CR C8.CX0 X.stack X.prog X.w HY s1 Q C8.E0) (run_ofS (N := Ng) (ps := [a]) (us := [.ref f]) (vs := [.ref f]) lk hcg Sg hr I1.env0 (hb s1 [.ref f] I1.kIn rfl) (.cons rfl .nil) rfl fun hr' => ?_) fun r s2 hq => ?_)
  · obtain ⟨t', ht', hq'⟩ := hG f c' s1 HY Q (fun E H' Q' => t E σ H' Q') hr' (fun Ng qg sg g cdg YA Ys s0 H0 a W pn xe E p1 p2 link sub sup hN hv d1 d2 hr2 tk => pe_actF (i := 0) IX ok.L hf hdv ok.bind link sub sup tk hr2 (fun A outer s H hr3 => ok.body A outer s H E f c' hr3) hN hv d1 d2) hco hT
    exact ⟨t', ht'.nox, hq'⟩
  · cases r with
    | error e => exact (show False from hq).elim
    | ok fl =>
      cases fl with
      | ret u => exact I1.after hq
      | next => exact False.elim hq
      | brk => exact False.elim hq
      | cont => exact False.elim hq⟩
end
end TT
/-! a list comprehension whose element may use the state of the def around it -/
namespace TT
open PySem PySem.Spec PyProof.Rows L2 HotX LamX
section
variable {X : Cx}
/-- the turns of the block: D the new list -/
theorem back_loop {σ : L2.St} {s0 sB : Shared} {H0 HB : Hp} {Q : VK} {elt tg iter : Expr} {sc : Scope} {cen : Env} {vs : List Nat} {pos : Pos} {g : TG} {te : TE} {it D : Addr} {fp : List Addr} {tn : Nat → Heap → Prop} {J : It} {W : Nat → Nat → Hp → Prop} {R : Result → Shared → Prop} {m0 : Nat}
    (hc : X.calm = true) (Tn : Turn X.prog X.w X.K tg J fp it tn) (pg : PG (X.blk s0 H0 sc cen fp) tg g) (pe : PE (X.blk s0 H0 sc cen fp) elt te)
    (turn : ∀ i m H, W i m H → (J.stop i H ∧ Q (.ref D) H) ∨ (J.go i H ∧ ∃ Nx : Hp → Prop, (∀ H', Nx H' → ∃ m', m' < m ∧ W (i + 1) m' H') ∧ ∀ x H', J.yld i H x H' →
      g x (wipe σ vs) H' fun σ2 H2 => wipe σ2 vs = wipe σ vs ∧ te σ2 H2 fun y H4 => ∃ acc, H4 D = some (.lst acc) ∧ acc.length < sizeLine ∧ Nx (upd H4 D (.lst (acc ++ [y])))))
    (IB : Inv (X.blk s0 H0 sc cen fp) [] (wipe σ vs) HB sB) (stB : tn 0 sB.heap) (nB : ∀ b ∈ fp, HB b = none) (wB : W 0 m0 HB)
    (fin : ∀ H' s', Inv (X.blk s0 H0 sc cen fp) [] (wipe σ vs) H' s' → Q (.ref D) H' → R (.ok .next) s') :
    codeAny (model X.prog X.w) X.A (.compLoop (.ListComp elt [⟨tg, iter, [], 0⟩] sc pos) 0 (.ref it) (.ref D) cen) R sB := by
  have clear : ∀ {σ' : L2.St} {H' : Hp} {s' : Shared}, Inv (X.blk s0 H0 sc cen fp) [] σ' H' s' → (∀ b ∈ fp, H' b = none) → ∀ b ∈ fp, FpOk (X.blk s0 H0 sc cen fp) [] H' b := fun I' hn b hb =>
    ⟨hn b hb, (I'.ok.exf b hb).1, I'.ok.exfs b hb, .inl hb, (I'.ok.exf b hb).2, fun p hp => absurd hp (by simp)⟩
  refine compLoop_any (fun n s => ∃ i H, Inv (X.blk s0 H0 sc cen fp) [] (wipe σ vs) H s ∧ tn i s.heap ∧ (∀ b ∈ fp, H b = none) ∧ W i n H) (fun n s ⟨i, H, I, st, nf, w⟩ => ?_) m0 ⟨0, HB, IB, stB, nB, wB⟩
  rcases turn i n H w with ⟨stop, q⟩ | ⟨go, Nx, hNx, step⟩
  · refine thnF (Tn.done (X.blk s0 H0 sc cen fp) rfl rfl rfl hc i [] s _ H (fun _ _ => False) I (clear I nf) st stop) fun r s6 h6 => ?_
    rw [h6.1]
    exact fin H s6 h6.2 q
  · refine thnF (Tn.item (X.blk s0 H0 sc cen fp) rfl rfl rfl hc i [] s _ H (fun _ _ => False) I (clear I nf) st go) fun r s6 ⟨u, hr, h6⟩ => ?_
    rw [hr]
    refine thnF h6 fun _ s7 ⟨x, H7, I7, r7, y7, st7, n7⟩ => ?_
    refine thnF (pg.run _ s7 _ H7 x u _ (I7.pinned (clear I7 n7) (Tn.obj _ _ st7)) r7 (step x H7 y7)) fun _ s8 ⟨σ8, H8, I8, hw8, q8⟩ => ?_
    refine wpAny_tests_nil ?_
    simp only [if_true]
    refine thnF (pe.run _ s8 σ8 H8 _ I8 q8) fun z s10 ⟨yv, H10, I10, r10, acc, hD10, hz10, nx⟩ => app_ok (X := X.blk s0 H0 sc cen fp) I10 hD10 hz10 r10 fun s11 I11 => ?_
    obtain ⟨m', hm, w'⟩ := hNx _ nx
    have at11 : ∀ b ∈ fp, ∀ o, s7.heap.get? b = some o → s11.heap.get? b = some o ∧ upd H10 D (.lst (acc ++ [yv])) b = none := fun b hb o e =>
      (fun z => ⟨z.1, z.2.1⟩) (I11.pin (b, o) (List.mem_append_right _ (List.mem_append_right _ (mem_pinsAt hb e))))
    refine ⟨m', hm, i + 1, _, (I11.unpinned (pins := [])).weak (by rw [← hw8, wipe_length]) (fun j v e => (wipe_some (show (wipe σ8 vs)[j]? = some (some v) by rw [hw8]; exact e)).1), Tn.keep _ _ _ st7 fun b hb o e => (at11 b hb o e).1, fun b hb => ?_, w'⟩
    obtain ⟨o, e, _⟩ := Tn.obj _ _ st7 b hb
    exact (at11 b hb o e).2
/-- the block, from the new list on -/
theorem back_block {pins : List (Addr × Obj)} {σ : L2.St} {s3 : Shared} {H3 : Hp} {Q : VK} {elt tg iter : Expr} {sc : Scope} {own : List (Str × Nat)} {pos : Pos} {g : TG} {te : TE} {it D : Addr} {fp : List Addr} {tn : Nat → Heap → Prop} {J : It} {W : Nat → Nat → Hp → Prop} {m0 : Nat}
    (hc : X.calm = true) (hN : X.N.Nodup) (ok : BlkOk X.N X.env.scope sc own) (Tn : Turn X.prog X.w X.K tg J fp it tn)
    (hg : ∀ s H C cl fp, PG (X.blk s H sc (compEnvC sc cl C X.env) fp) tg g) (he : ∀ s H C cl fp, Back X (X.blk s H sc (compEnvC sc cl C X.env) fp) σ → PE (X.blk s H sc (compEnvC sc cl C X.env) fp) elt te)
    (turn : ∀ i m H, W i m H → (J.stop i H ∧ Q (.ref D) H) ∨ (J.go i H ∧ ∃ Nx : Hp → Prop, (∀ H', Nx H' → ∃ m', m' < m ∧ W (i + 1) m' H') ∧ ∀ x H', J.yld i H x H' →
      g x (wipe σ (own.map (·.2))) H' fun σ2 H2 => wipe σ2 (own.map (·.2)) = wipe σ (own.map (·.2)) ∧ te σ2 H2 fun y H4 => ∃ acc, H4 D = some (.lst acc) ∧ acc.length < sizeLine ∧ Nx (upd H4 D (.lst (acc ++ [y])))))
    (I3 : Inv X pins σ H3 s3) (f3 : ∀ b ∈ fp, FpOk X pins H3 b ∧ b < s3.heap.objs.size) (st3 : tn 0 s3.heap) (w0 : W 0 m0 H3) :
    codeAny (model X.prog X.w) X.A (.compStart (.ListComp elt [⟨tg, iter, [], 0⟩] sc pos) 0 (.ref it) (.ref D) (compEnvC sc (cellsFrom (s3.heap.objs.size + 1) sc.names (cloFrom X.env.cells sc.names [])) s3.heap.objs.size X.env))
      (compPost (model X.prog X.w) X.A X.xe none (EP X pins σ Q) (.ref D) s3.heap.objs.size) { s3 with heap := pushCells (s3.heap.push { cls := .type "dict", data := .dict #[] }) sc.names } := by
  have I4 := block_start I3 ok hN f3
  have st4 := Tn.keep _ _ (pushCells (s3.heap.push { cls := .type "dict", data := .dict #[] }) sc.names) st3 fun b _ o e => pushCells_keeps _ _ _ _ (Heap.get?_push_of_some _ e)
  have toX : ∀ pins' σ' H' s', Inv (X.blk s3 H3 sc (compEnvC sc (cellsFrom (s3.heap.objs.size + 1) sc.names (cloFrom X.env.cells sc.names [])) s3.heap.objs.size X.env) fp) pins' σ' H' s' → Inv X pins σ H' s' := fun pins' σ' H' s' J' =>
    I3.call' (ch := fp) J'.os J'.base J'.hok J'.bare fun b hb => (fun z => ⟨z.2.2.2.1, z.2.1, z.2.2.2.2.1, z.2.2.2.2.2⟩) (f3 b hb).1
  have loop := back_loop (elt := elt) (iter := iter) (pos := pos) (R := compPost (model X.prog X.w) X.A X.xe none (EP X pins σ Q) (.ref D) s3.heap.objs.size) hc Tn (hg s3 H3 _ _ fp) (he s3 H3 _ _ fp fun p a b c z => ⟨pins, toX p a b c z⟩) turn I4 st4 (fun b hb => (f3 b hb).1.1) w0 fun H' s' J' q => by
    obtain ⟨m, hn, _⟩ := J'.loc
    obtain ⟨a0, a1, a2, a3, a4, a5⟩ := I3.fpOk (H' := H') (Nat.le_refl _) J'.free
    exact ⟨m, hn, fun h'' sb => ⟨.ref D, H', (toX _ _ _ _ J').turned (t' := s'.toks) (fun b o hb e => (sb.2 b hb).trans e) a0 a1 a3 a4 a5, rfl, q⟩⟩
  exact codeAny_compStart_list loop (Tn.self X.A 0 _ _ _ st4 loop)
/-- [elt for target in iter] -/
theorem pe_lcB {elt tg iter : Expr} {sc : Scope} {own : List (Str × Nat)} {pos : Pos} {wi : TI} {g : TG} {te : L2.St → TE} (hc : X.calm = true) (hN : X.N.Nodup) (hi : PI X tg iter wi) (ok : BlkOk X.N X.env.scope sc own)
    (hg : ∀ s H C cl fp, PG (X.blk s H sc (compEnvC sc cl C X.env) fp) tg g) (he : ∀ σ s H C cl fp, Back X (X.blk s H sc (compEnvC sc cl C X.env) fp) σ → PE (X.blk s H sc (compEnvC sc cl C X.env) fp) elt (te σ)) (hs : ∀ x, foldedSetIterable iter X.env x = pure x := by intro _; rfl) :
    PE X (.ListComp elt [⟨tg, iter, [], 0⟩] sc pos) (fun σ H Q => tLc wi g tYes (te σ) (own.map (·.2)) σ H Q) := ⟨fun pins s σ H Q I h => by
  have hfr : ∀ y ∈ sc.names, y.2 = .free → ∃ c, X.env.cells.lookup y.1 = some c := fun y hy e => I.ok.has _ ((ok.free y hy e).imp id id)
  rw [eval_ListComp]
  refine wpAny_comprehension_free (use := none) rfl hs (closure_ok hfr) ok.kind (fun y hy e => by rw [ok.uniq y hy, e]) (thn (hi.run pins s σ H _ I h) fun xv s1 hx => thn hx fun itv s2 ⟨it, fp, tn, J, H2, e, I2, Tn, st2, f2, q⟩ => ?_)
  subst e
  refine wpAny_newObj_type (newEnv_comp ?_) (Nat.zero_le _)
  have nD : H2 s2.heap.objs.size = none := I2.hok.fresh (Nat.le_refl _)
  obtain ⟨W, ⟨m0, w0⟩, turn⟩ := q _ nD
  have k3 : ∀ b o, s2.heap.get? b = some o → (s2.heap.push { cls := .type "list", data := .seq ([] : List Value).toArray }).get? b = some o := fun b o e => Heap.get?_push_of_some _ e
  have I3 : Inv X pins σ (upd H2 s2.heap.objs.size (.lst [])) { s2 with heap := s2.heap.push { cls := .type "list", data := .seq ([] : List Value).toArray } } :=
    I2.laid (t' := s2.toks) k3 (Nat.le_refl _) ⟨Nat.zero_le _, [], 0, .nil, Heap.get?_push_size _ rfl⟩
  have f3 : ∀ b ∈ fp, FpOk X pins (upd H2 s2.heap.objs.size (.lst [])) b ∧ b < (s2.heap.push { cls := .type "list", data := .seq ([] : List Value).toArray }).objs.size := fun b hb => by
    obtain ⟨o, e, _⟩ := Tn.obj _ _ st2 b hb
    exact ⟨⟨by rw [upd_ne (Nat.ne_of_lt (Heap.lt_size e))]; exact (f2 b hb).1, (f2 b hb).2⟩, Heap.lt_size (k3 b o e)⟩
  have st3 := Tn.keep _ _ (s2.heap.push { cls := .type "list", data := .seq ([] : List Value).toArray }) st2 fun b _ o e => k3 b o e
  exact back_block hc hN ok Tn hg (he σ) turn I3 f3 st3 w0⟩
end
end TT
namespace TT
open PySem PySem.Spec PyProof.Rows L2 HotX LamX T
/-! ### subtrees by ancestors -/
theorem at_sub {p x : Int} : ∀ {t : T}, x ∈ (t.at p).pre → x ∈ t.pre
  | leaf, h => h
  | node l k r, h => by
    unfold T.at at h
    split at h
    · exact h
    · split at h
      · exact mem_node.mpr (.inr (.inl (at_sub h)))
      · exact mem_node.mpr (.inr (.inr (at_sub h)))
theorem at_len {p : Int} : ∀ {t : T}, (t.at p).pre.length ≤ t.pre.length
  | leaf => Nat.le_refl _
  | node l k r => by
    have h1 := at_len (p := p) (t := l)
    have h2 := at_len (p := p) (t := r)
    have e : (node l k r).pre.length = 1 + l.pre.length + r.pre.length := by
      show (k :: (l.pre ++ r.pre)).length = _
      rw [List.length_cons, List.length_append]; omega
    unfold T.at
    split
    · exact Nat.le_refl _
    · split <;> omega
theorem path_at {p x : Int} : ∀ {t : T}, t.bst → p ∈ t.pre → x ∈ t.pre → (p ∈ t.path x ↔ x ∈ (t.at p).pre)
  | leaf, _, h, _ => by cases h
  | node l k r, b, hp, hx => by
    have bl : ∀ y ∈ l.pre, y < k := b.1
    have br : ∀ y ∈ r.pre, k < y := b.2.1
    have hk : k ∈ (node l k r).path x := by
      rcases mem_node.mp hx with e | e | e
      · rw [e, path_k]; exact List.mem_singleton.mpr rfl
      · rw [path_l b e]; exact List.mem_cons_self
      · rw [path_r b e]; exact List.mem_cons_self
    unfold T.at
    by_cases e : p = k
    · rw [if_pos e, e]
      exact ⟨fun _ => hx, fun _ => hk⟩
    · rw [if_neg e]
      have hp' : p ∈ l.pre ∨ p ∈ r.pre := (mem_node.mp hp).resolve_left e
      by_cases lt : p < k
      · rw [if_pos lt]
        have pl : p ∈ l.pre := hp'.resolve_right fun z => by have := br p z; omega
        rcases mem_node.mp hx with ex | ex | ex
        · rw [ex, path_k]
          refine ⟨fun z => absurd (List.mem_singleton.mp z) e, fun z => ?_⟩
          have := bl k (at_sub z); omega
        · rw [path_l b ex]
          exact ⟨fun z => (path_at b.2.2.1 pl ex).mp ((List.mem_cons.mp z).resolve_left e), fun z => List.mem_cons_of_mem _ ((path_at b.2.2.1 pl ex).mpr z)⟩
        · rw [path_r b ex]
          refine ⟨fun z => ?_, fun z => ?_⟩
          · have := br p ((path_mem b.2.2.2 ex).2 p ((List.mem_cons.mp z).resolve_left e)); omega
          · have := bl x (at_sub z); have := br x ex; omega
      · rw [if_neg lt]
        have pr : p ∈ r.pre := hp'.resolve_left fun z => by have := bl p z; omega
        rcases mem_node.mp hx with ex | ex | ex
        · rw [ex, path_k]
          refine ⟨fun z => absurd (List.mem_singleton.mp z) e, fun z => ?_⟩
          have := br k (at_sub z); omega
        · rw [path_l b ex]
          refine ⟨fun z => ?_, fun z => ?_⟩
          · have := bl p ((path_mem b.2.2.1 ex).2 p ((List.mem_cons.mp z).resolve_left e)); omega
          · have := br x (at_sub z); have := bl x ex; omega
        · rw [path_r b ex]
          exact ⟨fun z => (path_at b.2.2.2 pr ex).mp ((List.mem_cons.mp z).resolve_left e), fun z => List.mem_cons_of_mem _ ((path_at b.2.2.2 pr ex).mpr z)⟩
theorem anc_at {p x : Int} {t : T} (b : t.bst) (hp : p ∈ t.pre) (hx : x ∈ t.pre) : (p ∈ t.anc x ∨ x = p) ↔ x ∈ (t.at p).pre := by
  rw [← path_at b hp hx, path_last b hx, List.mem_append, List.mem_singleton]
  unfold T.anc
  rw [List.mem_reverse]
  exact or_congr Iff.rfl ⟨fun h => h.symm, fun h => h.symm⟩
theorem at_filter {p : Int} {t : T} (b : t.bst) (h : p ∈ t.pre) : t.pre.filter (fun x => decide (x ∈ (t.at p).pre)) = (t.at p).pre := by
  have e := at_near b h (bdL_near (lo := none) b h).1 (bdH_near (hi := none) b h).1
  rw [← e]
  refine List.filter_congr fun x hx => ?_
  rw [Bool.eq_iff_iff, decide_eq_true_eq, List.mem_filter]
  exact ⟨fun z => z.2, fun z => ⟨hx, z⟩⟩
theorem head_rt : ∀ {t : T}, t.pre.head? = t.rt
  | leaf => rfl
  | node _ _ _ => rfl
theorem at_kids {p : Int} : ∀ {t : T}, t.bst → p ∈ t.pre → (t.at p).lt.rt = t.lc p ∧ (t.at p).rtr.rt = t.rc p
  | leaf, _, h => by cases h
  | node l k r, b, h => by
    have bl : ∀ y ∈ l.pre, y < k := b.1
    have br : ∀ y ∈ r.pre, k < y := b.2.1
    unfold T.at T.lc T.rc
    by_cases e : p = k
    · subst e
      simp only [if_true]
      exact ⟨rfl, rfl⟩
    · have hp' : p ∈ l.pre ∨ p ∈ r.pre := (mem_node.mp h).resolve_left e
      rw [if_neg e, if_neg e, if_neg e]
      by_cases lt : p < k
      · rw [if_pos lt, if_pos lt, if_pos lt]
        exact at_kids b.2.2.1 (hp'.resolve_right fun z => by have := br p z; omega)
      · rw [if_neg lt, if_neg lt, if_neg lt]
        exact at_kids b.2.2.2 (hp'.resolve_left fun z => by have := bl p z; omega)
/-! ### walks over the keys of a dict of ints -/
def keyI (p : Key × V) : Int := match p.1 with
  | .inl a => a
  | .inr _ => 0
section
variable {d : Addr} {o : Obj} {kvs : List (Key × V)} {g : TG} {tt : L2.TT} {te : TE} {vs : List Nat} {σ : L2.St} {H1 : Hp} {D : Addr} {Qd : Hp → Prop}
theorem lc_fK (p : Int → Bool) (hK : H1 d = some (.frz o (.dK kvs))) (all : ∀ q ∈ kvs, ∃ a b, q = (Sum.inl a, V.int b)) (nD : H1 D = none) (hl : kvs.length ≤ 1000)
    (hs : ∀ x H2 (Y : VK) (N : Hp → Prop), x ∈ kvs.map keyI → Same H1 H2 → (p x = true → ∀ H3, Same H2 H3 → Y (.int x) H3) → (p x = false → ∀ H3, Same H2 H3 → N H3) →
      g (.int x) (wipe σ vs) H2 fun σ2 H3 => wipe σ2 vs = wipe σ vs ∧ tt σ2 H3 fun b H4 => if b = true then te σ2 H4 Y else N H4)
    (hd : ∀ H2, Same H1 H2 → H2 D = some (.lst (((kvs.map keyI).filter p).map V.int)) → Qd H2) :
    ∃ W : Nat → Nat → Hp → Prop, (∃ m, W 0 m (upd H1 D (.lst []))) ∧ ∀ i m H, W i m H →
      ((Itk d o kvs).stop i H ∧ Qd H) ∨ ((Itk d o kvs).go i H ∧ ∃ Nx : Hp → Prop, (∀ H', Nx H' → ∃ m', m' < m ∧ W (i + 1) m' H') ∧ ∀ x H', (Itk d o kvs).yld i H x H' → g x (wipe σ vs) H' fun σ2 H2 => wipe σ2 vs = wipe σ vs ∧ tt σ2 H2 fun b H3 =>
        if b = true then te σ2 H3 fun y H4 => ∃ acc, H4 D = some (.lst acc) ∧ acc.length < sizeLine ∧ Nx (upd H4 D (.lst (acc ++ [y]))) else Nx H3) := by
  let Pv : Nat → Hp → Prop := fun i H2 => Same H1 H2 ∧ H2 D = some (.lst ((((kvs.map keyI).take i).filter p).map V.int))
  refine ⟨fun i m H => m = kvs.length - i ∧ i ≤ kvs.length ∧ Pv i H, ⟨_, rfl, Nat.zero_le _, same_new nD, upd_same⟩, ?_⟩
  rintro i m H ⟨rfl, hi, e2, hD⟩
  rcases Nat.lt_or_ge i kvs.length with lt | ge
  · refine .inr ⟨⟨e2 _ _ hK, lt⟩, fun H' => Pv (i + 1) H', fun H' h => ⟨_, by omega, rfl, lt, h⟩, ?_⟩
    rintro x H' ⟨rfl, k, v, hk, rfl⟩
    obtain ⟨a, b, eab⟩ := all _ (List.mem_of_getElem? hk)
    cases eab
    have hx : (kvs.map keyI)[i]? = some a := by rw [List.getElem?_map, hk]; rfl
    have ht : (kvs.map keyI).take (i + 1) = (kvs.map keyI).take i ++ [a] := by rw [List.take_add_one, hx]; rfl
    refine hs a _ _ _ (List.mem_of_getElem? hx) e2 (fun hp H3 e3 => ⟨_, e3 _ _ hD, szl ?_, Same.put (e2.trans e3) nD, ?_⟩) (fun hp H3 e3 => ⟨e2.trans e3, ?_⟩)
    · rw [List.length_map]
      have := List.length_filter_le p ((kvs.map keyI).take i)
      have := List.length_take_le' i (kvs.map keyI)
      rw [List.length_map] at this
      omega
    · rw [upd_same, ht, List.filter_append, List.map_append, List.filter_cons_of_pos hp]; rfl
    · rw [e3 _ _ hD, ht, List.filter_append, List.filter_cons_of_neg (by rw [hp]; exact Bool.false_ne_true), List.filter_nil, List.append_nil]
  · refine .inl ⟨⟨e2 _ _ hK, ge⟩, hd H e2 ?_⟩
    rw [hD, List.take_of_length_le (by rw [List.length_map]; exact ge)]
end
theorem mp_key {kvs : List (Key × V)} {f : Int → Option Int} {n : Nat} (h : Mp kvs f n) {x : Int} : x ∈ kvs.map keyI ↔ (f x).isSome = true := by
  have e : (f x).isSome = kvs.any fun kv => decide (kv.1 = Sum.inl x) := by rw [valV_any, h.val x, Option.isSome_map]
  rw [e, List.any_eq_true, List.mem_map]
  constructor
  · rintro ⟨q, hq, rfl⟩
    obtain ⟨a, b, rfl⟩ := h.all q hq
    exact ⟨_, hq, decide_eq_true rfl⟩
  · rintro ⟨q, hq, z⟩
    obtain ⟨a, b, rfl⟩ := h.all q hq
    exact ⟨_, hq, Sum.inl.inj (of_decide_eq_true z)⟩
theorem anc_head {t : T} {x : Int} (b : t.bst) (h : x ∈ t.pre) : ((t.anc x).map V.int ++ [V.non])[0]? = some (oV (t.up x)) := by
  rcases up_path b h with ⟨u, e⟩ | ⟨p, u, hp, e⟩
  · rw [anc_top e, u]; rfl
  · rw [anc_up b hp e, u]; rfl
theorem anc_rev {t : T} {x : Int} (b : t.bst) (h : x ∈ t.pre) : ((t.anc x).map V.int).reverse ++ [V.int x] = (t.path x).map V.int := by
  conv => rhs; rw [path_last b h]
  unfold T.anc
  rw [List.map_append, ← List.map_reverse, List.reverse_reverse]; rfl
theorem anc_mem {t : T} {x y : Int} (b : t.bst) (h : x ∈ t.pre) (ne : y ≠ x) : y ∈ t.anc x ↔ y ∈ t.path x := by
  conv => rhs; rw [path_last b h]
  unfold T.anc
  rw [List.mem_reverse, List.mem_append, List.mem_singleton]
  exact ⟨fun z => .inl z, fun z => z.resolve_right ne⟩
/-- the nearest smaller key, by sorting -/
theorem near_lo {t : T} {x : Int} {zs : List Int} (b : t.bst) (h : x ∈ t.pre) (p : zs.Perm ((t.anc x).filter fun y => decide (y < x))) (s : zs.Pairwise (· ≤ ·)) : NearL (t.path x) x zs.getLast? := by
  have mem : ∀ y, y ∈ zs ↔ y ∈ t.path x ∧ y < x := fun y => by
    rw [p.mem_iff, List.mem_filter, decide_eq_true_eq]
    exact and_congr_left fun lt => anc_mem b h (by omega)
  cases e : zs.getLast? with
  | none =>
    intro y hy lt
    have := (mem y).mpr ⟨hy, lt⟩
    rw [List.getLast?_eq_none_iff.mp e] at this
    cases this
  | some m =>
    obtain ⟨ys, rfl⟩ := List.getLast?_eq_some_iff.mp e
    have hm := (mem m).mp (List.mem_append_right _ (List.mem_singleton.mpr rfl))
    refine ⟨hm.1, hm.2, fun y hy lt => ?_⟩
    rcases List.mem_append.mp ((mem y).mpr ⟨hy, lt⟩) with z | z
    · exact (List.pairwise_append.mp s).2.2 y z m (List.mem_singleton.mpr rfl)
    · rw [List.mem_singleton.mp z]; exact Int.le_refl _
theorem near_hi {t : T} {x : Int} {zs : List Int} (b : t.bst) (h : x ∈ t.pre) (p : zs.Perm ((t.anc x).filter fun y => decide (x < y))) (s : zs.Pairwise (· ≤ ·)) : NearH (t.path x) x zs.head? := by
  have mem : ∀ y, y ∈ zs ↔ y ∈ t.path x ∧ x < y := fun y => by
    rw [p.mem_iff, List.mem_filter, decide_eq_true_eq]
    exact and_congr_left fun lt => anc_mem b h (by omega)
  cases zs with
  | nil =>
    intro y hy lt
    have := (mem y).mpr ⟨hy, lt⟩
    cases this
  | cons m ms =>
    have hm := (mem m).mp List.mem_cons_self
    refine ⟨hm.1, hm.2, fun y hy lt => ?_⟩
    rcases List.mem_cons.mp ((mem y).mpr ⟨hy, lt⟩) with z | z
    · rw [z]; exact Int.le_refl _
    · exact (List.pairwise_cons.mp s).1 y z
theorem head_non (zs : List Int) : (zs.map V.int ++ [V.non])[0]? = some (oV zs.head?) := by cases zs <;> rfl
theorem last_non {zs : List Int} (h : zs ≠ []) : (zs.map V.int ++ [V.non])[zs.length - 1]? = some (oV zs.getLast?) := by
  have l : 0 < zs.length := List.length_pos_iff.mpr h
  rw [List.getElem?_append_left (by rw [List.length_map]; omega), List.getElem?_map, ← List.getLast?_eq_getElem?]
  cases e : zs.getLast? with
  | none => exact absurd (List.getLast?_eq_none_iff.mp e) h
  | some m => rfl
/-! ### equal data, item by item -/
inductive EqvS (H : Hp) (n : Nat) : List V → List V → Prop
  | nil : EqvS H n [] []
  | cons {x y : V} {xs ys : List V} : Eqv H n x y → EqvS H n xs ys → EqvS H n (x :: xs) (y :: ys)
theorem EqvS.len {H : Hp} {n : Nat} {xs ys : List V} (h : EqvS H n xs ys) : xs.length = ys.length := by
  induction h with
  | nil => rfl
  | cons _ _ ih => rw [List.length_cons, List.length_cons, ih]
theorem EqvS.get {H : Hp} {n : Nat} {xs ys : List V} (h : EqvS H n xs ys) : ∀ (i : Nat) u v, xs[i]? = some u → ys[i]? = some v → Eqv H n u v := by
  induction h with
  | nil => intro i u v h; cases h
  | cons e _ ih =>
    intro i u v h1 h2
    cases i with
    | zero => cases h1; cases h2; exact e
    | succ i => exact ih i u v h1 h2
theorem EqvS.same {H H' : Hp} {n : Nat} {xs ys : List V} (h : EqvS H n xs ys) (e : Same H H') : EqvS H' n xs ys := by
  induction h with
  | nil => exact .nil
  | cons a _ ih => exact .cons (a.same e) ih
theorem eqv_lst {H : Hp} {n : Nat} {a b : Addr} {xs ys : List V} (ha : H a = some (.lst xs)) (hb : H b = some (.lst ys)) (hl : xs.length ≤ 1000) (h : EqvS H n xs ys) : Eqv H (n + 1) (.ref a) (.ref b) := .inr ⟨a, b, xs, ys, rfl, rfl, .inl ⟨ha, hb⟩, h.len, hl, h.get⟩
theorem eqv_tup {H : Hp} {n : Nat} {a b : Addr} {xs ys : List V} (ha : H a = some (.tup xs)) (hb : H b = some (.tup ys)) (hl : xs.length ≤ 1000) (h : EqvS H n xs ys) : Eqv H (n + 1) (.ref a) (.ref b) := .inr ⟨a, b, xs, ys, rfl, rfl, .inr ⟨ha, hb⟩, h.len, hl, h.get⟩
theorem eqv_oV {H : Hp} {n : Nat} {o : Option Int} : Eqv H n (oV o) (oV o) := by cases o <;> exact eqv_flat rfl
/-! ### promises -/
def spChildX (K : PySem.W.Frag) (C : Addr) : Sp := fun vs H Q E => ∃ (a : Addr) (key : Int) (t : T), vs = [.ref a, .int key] ∧ SqT K H a (t.pre.map V.int) ∧ t.bst ∧ t.pre.length ≤ 1000 ∧ key.natAbs.log2 < 1920 ∧
  (key ∈ t.pre → ∀ p H', Same H H' → H' p = some (.tup [oV (t.lc key), oV (t.rc key)]) → Q (.ref p) H') ∧ (key ∉ t.pre → ENo C key H E)
/-- _law_above while the dict of parents may be walked -/
def spAboveW : Sp := fun vs H Q _ => ∃ (m : Addr) (key : Int) (L R U : Addr) (uk : List (Key × V)) (t : T) (n : Nat), vs = [.ref m, .int key] ∧ H m = some (.dK (nodK t.rt L R U)) ∧ Rd H U (.dK uk) ∧ Mp uk t.up n ∧ t.bst ∧ key ∈ t.pre ∧ t.pre.length ≤ 1000 ∧
  ∀ p H', Same H H' → H p = none → H' p = some (.lst ((t.anc key).map V.int)) → Q (.ref p) H'
theorem spAbove_W : ∀ vs H Q E, spAbove vs H Q E → spAboveW vs H Q E := fun vs H Q E ⟨m, key, L, R, U, t, n, h1, h2, h3⟩ => by
  obtain ⟨uk, h5, h6⟩ := h2.u
  exact ⟨m, key, L, R, U, uk, t, n, h1, h2.hm, .of h5, h6, h3⟩
def spBelow : Sp := fun vs H Q _ => ∃ (m : Addr) (key : Int) (L R U : Addr) (t : T) (n : Nat), vs = [.ref m, .int key] ∧ TrAt H m L R U t n ∧ t.bst ∧ key ∈ t.pre ∧ t.pre.length ≤ 1000 ∧ n ≤ 1000 ∧
  ∀ p (bs : List Int) H', Same H H' → bs.length ≤ 1001 → (∀ x ∈ t.pre, (x ∈ bs ↔ x ∈ (t.at key).pre)) → H' p = some (.lst (bs.map V.int)) → Q (.ref p) H'
def spPlaceR (K : PySem.W.Frag) : Sp := fun vs H Q _ => ∃ (a m : Addr) (key : Int) (L R U : Addr) (t : T) (n : Nat), vs = [.ref a, .int key, .ref m] ∧ SqT K H a (t.pre.map V.int) ∧ TrAt H m L R U t n ∧ t.bst ∧ key ∈ t.pre ∧ t.pre.length ≤ 60 ∧ n ≤ 1000 ∧ key.natAbs.log2 < 1920 ∧
  ∀ H', Same H H' → Q (.bl true) H'
theorem rd_same {H H' : Hp} {a : Addr} {u : HO} (h : Rd H a u) (e : Same H H') : Rd H' a u := h.imp (e _ _) fun ⟨o, z⟩ => ⟨o, e _ _ z⟩
theorem dg_rd {H : Hp} {kvs : List (Key × V)} {f : Int → Option Int} {n : Nat} {d : Addr} {x : Int} (hd : Rd H d (.dK kvs)) (h : Mp kvs f n) : DGet H d (.int x) ((f x).map V.int) := .inl ⟨kvs, .inl x, hd, rfl, (h.val x).symm⟩
end TT
/-! lambdas in a list, asked one after another for their errors -/
namespace TT
open PySem PySem.Spec PyProof.Rows L2 HotX LamX T
section
variable {K : PySem.W.Frag} {q : Addr} {fs : List Addr} {g : TG} {te : TE} {vs : List Nat} {σ : L2.St} {H1 : Hp} {D : Addr} {Qd : Hp → Prop} {tp : List V}
theorem lc_giv (tp : List V) (hq : SqL K H1 q (fs.map V.ref)) (nD : H1 D = none) (hl : fs.length ≤ 1000)
    (hs : ∀ f H2 (Y : VK), f ∈ fs → Same H1 H2 → (∀ r H3, Same H2 H3 → H3 r = some (.tup tp) → Y (.ref r) H3) → g (.ref f) (wipe σ vs) H2 fun σ2 H3 => wipe σ2 vs = wipe σ vs ∧ te σ2 H3 Y)
    (hd : ∀ (rs : List Addr) H2, Same H1 H2 → rs.length = fs.length → (∀ r ∈ rs, H2 r = some (.tup tp)) → H2 D = some (.lst (rs.map V.ref)) → Qd H2) :
    ∃ W : Nat → Nat → Hp → Prop, (∃ m, W 0 m (upd H1 D (.lst []))) ∧ ∀ i m H, W i m H →
      ((Itl K q).stop i H ∧ Qd H) ∨ ((Itl K q).go i H ∧ ∃ Nx : Hp → Prop, (∀ H', Nx H' → ∃ m', m' < m ∧ W (i + 1) m' H') ∧ ∀ x H', (Itl K q).yld i H x H' → g x (wipe σ vs) H' fun σ2 H2 => wipe σ2 vs = wipe σ vs ∧ tYes σ2 H2 fun b H3 =>
        if b = true then te σ2 H3 fun y H4 => ∃ acc, H4 D = some (.lst acc) ∧ acc.length < sizeLine ∧ Nx (upd H4 D (.lst (acc ++ [y]))) else Nx H3) := by
  refine lc_list (xs := fs.map V.ref) (tt := tYes) (fun i H2 => ∃ rs : List Addr, Same H1 H2 ∧ rs.length = i ∧ (∀ r ∈ rs, H2 r = some (.tup tp)) ∧ H2 D = some (.lst (rs.map V.ref))) ⟨[], same_new nD, rfl, fun _ h => (by cases h), upd_same⟩ (fun i H2 _ ⟨_, h, _⟩ => Same.seq h hq) ?_ ?_
  · rintro i v H2 hv ⟨rs, e2, lr, hr, hD⟩
    rw [List.getElem?_map] at hv
    obtain ⟨x, hx, rfl⟩ := Option.map_eq_some_iff.mp hv
    have li : i < fs.length := (List.getElem?_eq_some_iff.mp hx).1
    refine hs x H2 _ (List.mem_of_getElem? hx) e2 fun r H3 e3 h3 => ⟨_, e3 _ _ hD, szl (by rw [List.length_map]; omega), rs ++ [r], Same.put (e2.trans e3) nD, by rw [List.length_append, lr]; rfl, fun r' hr' => ?_, by rw [upd_same, List.map_append]; rfl⟩
    have ne : ∀ {r'' : Addr}, H3 r'' = some (.tup tp) → upd H3 D (.lst (rs.map V.ref ++ [.ref r])) r'' = some (.tup tp) := fun {r''} h => by
      rw [upd_ne (fun z => by rw [z, e3 _ _ hD] at h; cases h)]; exact h
    rcases List.mem_append.mp hr' with z | z
    · exact ne (e3 _ _ (hr r' z))
    · rw [List.mem_singleton.mp z]; exact ne h3
  · rintro H2 ⟨rs, e2, lr, hr, hD⟩
    rw [List.length_map] at lr
    exact hd rs H2 e2 lr hr hD
end
theorem dpAll_refs {K : PySem.W.Frag} {H : Hp} {tag : Str} {n : Int} : ∀ {rs : List Addr}, (∀ r ∈ rs, H r = some (.tup [.str tag, .int n])) → DpAll K H (rs.map V.ref) (List.replicate rs.length (.tuple [.str tag, .int n]))
  | [], _ => .nil
  | r :: rs, h => .cons (.tup (SqT.of (h r List.mem_cons_self)) (.cons (.str _) (.cons (.int _) .nil))) (dpAll_refs fun r' hr => h r' (List.mem_cons_of_mem _ hr))
theorem eqvAll_rep {d : PyData} (h : PyData.eqv d d = true) : ∀ n : Nat, PyData.eqvAll (List.replicate n d) (List.replicate n d) = true
  | 0 => rfl
  | n + 1 => by
    show (PyData.eqv d d && PyData.eqvAll (List.replicate n d) (List.replicate n d)) = true
    rw [h, eqvAll_rep h n]; rfl
theorem canLay_rep {d : PyData} (h : d.canLay0 = true) : ∀ n : Nat, PyData.canLayAll0 (List.replicate n d) = true
  | 0 => rfl
  | n + 1 => by
    rw [List.replicate_succ, PyData.canLayAll0, h, canLay_rep h n]; rfl
theorem depth_rep {d : PyData} {k : Nat} (h : d.depth ≤ k) : ∀ n : Nat, PyData.depthAll (List.replicate n d) ≤ k
  | 0 => by rw [List.replicate_zero, PyData.depthAll]; exact Nat.zero_le _
  | n + 1 => by
    rw [List.replicate_succ, PyData.depthAll]
    exact Nat.max_le.mpr ⟨h, depth_rep h n⟩
theorem rd_neEs {K : PySem.W.Frag} {H : Hp} {a b : Addr} {rs ws : List Addr} {tag : Str} {n : Int} {Q : VK} (ha : H a = some (.lst (rs.map V.ref))) (hb : H b = some (.lst (ws.map V.ref))) (hr : ∀ r ∈ rs, H r = some (.tup [.str tag, .int n])) (hw : ∀ r ∈ ws, H r = some (.tup [.str tag, .int n])) (hl : rs.length = ws.length) (hz : rs.length ≤ 1000)
    (hs : PyData.strOk tag = true) (q : Q (.bl false) H) : rNeD K (.ref a) (.ref b) H Q := by
  have sh := shaped2 hs (y := .int n) (.inr ⟨n, rfl⟩)
  have c1 := SeqAt.canLay_of_shaped sh
  have dd : PyData.depth (.tuple [.str tag, .int n]) ≤ 2 := by simp [PyData.depth, PyData.depthAll]
  have ed : PyData.eqv (.tuple [.str tag, .int n]) (.tuple [.str tag, .int n]) = true := by
    show ((PyData.eqv (.str tag) (.str tag)) && ((n == n) && PyData.eqvAll [] [])) = true
    rw [show PyData.eqv (.str tag) (.str tag) = (tag == tag) from rfl]
    simp [PyData.eqvAll]
  have sL : SeqAt.shaped (.list (List.replicate rs.length (.tuple [.str tag, .int n]))) = true := by
    unfold SeqAt.shaped
    rw [PyData.canLay0, canLay_rep c1, PyData.depth]
    have := depth_rep dd rs.length
    simp [sizeLine, List.length_replicate]
    omega
  refine ⟨_, _, .lst (SqL.of ha) (dpAll_refs hr), .lst (SqL.of hb) (dpAll_refs hw), sL, by rw [← hl]; exact sL, ?_⟩
  rw [← hl]
  have : PyData.eqv (.list (List.replicate rs.length (.tuple [.str tag, .int n]))) (.list (List.replicate rs.length (.tuple [.str tag, .int n]))) = true := eqvAll_rep ed _
  rw [this]
  exact q
theorem no_err {K : PySem.W.Frag} {cT cM : Value} {C : Addr} {key : Int} {H H1 : Hp} {E : XK} {Y : VK} (n1 : PySem.W.exmAny K (.ref C) [cT, cM] = some true) (X1 : XfC K C) (f1 : PySem.W.findIn K (.ref C) "tag" = some none) (f2 : PySem.W.findIn K (.ref C) "key" = some none) (e1 : Same H H1)
    (hE : ∀ cls d H', Xo K cT cM (fun v H' => ∃ (p : Addr) (x : V) (tag : Str) (y : V), v = .ref p ∧ H' p = some (.tup [x, .str tag, y]) ∧ ∀ r, H' r = none → Y (.ref r) (upd H' r (.tup [.str tag, y]))) cls d H' → E cls d H')
    (fin : ∀ r H3, Same H H3 → H3 r = some (.tup [.str "NoKey", .int key]) → Y (.ref r) H3) : ENo C key H1 E := fun d Hf eF hdd =>
  hE _ _ _ ⟨n1, C, d, "NoKey", .int key, rfl, rfl, bears_mk X1 f1 f2 hdd (by decide +kernel) (by decide +kernel), fun pp Hx ex np hpp => ⟨pp, .non, "NoKey", .int key, rfl, hpp, fun rr nrr => fin rr _ (e1.trans (eF.trans (ex.trans (same_new nrr)))) upd_same⟩⟩
theorem nod_ext {H H' : Hp} {m L R U : Addr} {rt : Option Int} {lf rf uf : Int → Option Int} {n : Nat} {c d : Addr} {ns : List Int} (h : Nod H m L R U rt lf rf uf n) (hD : Drw c ns H d) (e : Ext d H H') : Nod H' m L R U rt lf rf uf n := by
  obtain ⟨_, _, _, hd, _⟩ := hD
  have k : ∀ {b : Addr} {kvs : List (Key × V)}, H b = some (.dK kvs) → H' b = some (.dK kvs) := fun {b kvs} hb => e _ _ (fun z => by rw [z, hd] at hb; cases hb) hb
  obtain ⟨lk, h1, h2⟩ := h.l
  obtain ⟨rk, h3, h4⟩ := h.r
  obtain ⟨uk, h5, h6⟩ := h.u
  exact ⟨k h.hm, ⟨lk, k h1, h2⟩, ⟨rk, k h3, h4⟩, ⟨uk, k h5, h6⟩, h.mL, h.mR, h.mU, h.LR, h.LU, h.RU⟩
/-- a list of drawn items -/
theorem lc_of {c d : Addr} {ms ks : List Int} {n : Nat} {g : TG} {te : TE} {vs : List Nat} {σ : L2.St} {H1 : Hp} {D : Addr} {Qd : Hp → Prop} (hD1 : Drw c ms H1 d) (nD : H1 D = none) (hn : n ≤ 1000)
    (hs : ∀ (i : Nat) H2 (Y : VK), i < n → Ext d H1 H2 → Drw c ms H2 d → (∀ x H3, x ∈ ks → Ext d H2 H3 → Drw c ms H3 d → Y (.int x) H3) → g (.int (0 + i)) (wipe σ vs) H2 fun σ2 H3 => wipe σ2 vs = wipe σ vs ∧ te σ2 H3 Y)
    (hd : ∀ (xs : List Int) H2, xs.length = n → (∀ x ∈ xs, x ∈ ks) → Ext d H1 H2 → Drw c ms H2 d → H2 D = some (.lst (xs.map V.int)) → Qd H2) :
    ∃ W : Nat → Nat → Hp → Prop, (∃ m, W 0 m (upd H1 D (.lst []))) ∧ ∀ i m H, W i m H →
      ((Itr 0 n).stop i H ∧ Qd H) ∨ ((Itr 0 n).go i H ∧ ∃ Nx : Hp → Prop, (∀ H', Nx H' → ∃ m', m' < m ∧ W (i + 1) m' H') ∧ ∀ x H', (Itr 0 n).yld i H x H' → g x (wipe σ vs) H' fun σ2 H2 => wipe σ2 vs = wipe σ vs ∧ tYes σ2 H2 fun b H3 =>
        if b = true then te σ2 H3 fun y H4 => ∃ acc, H4 D = some (.lst acc) ∧ acc.length < sizeLine ∧ Nx (upd H4 D (.lst (acc ++ [y]))) else Nx H3) := by
  have nDd := hD1.ne nD
  refine lc_range (lo := 0) (tt := tYes) (fun i H5 => ∃ ts : List Int, ts.length = i ∧ (∀ z ∈ ts, z ∈ ks) ∧ Ext d H1 H5 ∧ Drw c ms H5 d ∧ H5 D = some (.lst (ts.map V.int))) ⟨[], rfl, fun _ h => (by cases h), Ext.of (same_new nD), hD1.new nD, upd_same⟩ ?_ ?_
  · rintro i H5 hi ⟨ts, lt, mt, e5, hD5, hDD5⟩
    refine hs i H5 _ hi e5 hD5 fun x H3 hx e3 hD3 => ⟨_, e3 _ _ nDd hDD5, szl (by rw [List.length_map]; omega), ts ++ [x], by rw [List.length_append]; exact congrArg (· + 1) lt, fun z hz => ?_, (e5.trans e3).put nD, hD3.put hD1 nD, by rw [upd_same, List.map_append]; rfl⟩
    rcases List.mem_append.mp hz with h | h
    · exact mt z h
    · rw [List.mem_singleton.mp h]; exact hx
  · rintro H5 ⟨ts, lt, mt, e5, hD5, hDD5⟩
    exact hd ts H5 lt mt e5 hD5 hDD5
end TT
/-! equal data with tuples that are known to their objects; rotation after rotation -/
namespace TT
open PySem PySem.Spec PyProof.Rows L2 HotX LamX T
def EqvX (H : Hp) : Nat → V → V → Prop
  | 0, x, y => flatV x = true ∧ x = y
  | n + 1, x, y => (flatV x = true ∧ x = y) ∨ ∃ a b xs ys, x = .ref a ∧ y = .ref b ∧ ((H a = some (.lst xs) ∧ H b = some (.lst ys)) ∨ (RdT H a xs ∧ RdT H b ys)) ∧ xs.length = ys.length ∧ xs.length ≤ 1000 ∧ ∀ (i : Nat) u v, xs[i]? = some u → ys[i]? = some v → EqvX H n u v
theorem EqvX.same {H H' : Hp} (e : Same H H') : ∀ {n : Nat} {x y : V}, EqvX H n x y → EqvX H' n x y
  | 0, _, _, h => (show flatV _ = true ∧ _ from h)
  | n + 1, _, _, h => by
    rcases h with h | ⟨a, b, xs, ys, e1, e2, h1, h2, h3, h4⟩
    · exact .inl h
    · exact .inr ⟨a, b, xs, ys, e1, e2, h1.imp (fun z => ⟨e _ _ z.1, e _ _ z.2⟩) (fun z => ⟨z.1.same e, z.2.same e⟩), h2, h3, fun i u v a1 a2 => (h4 i u v a1 a2).same e⟩
def spSameZ (n : Nat) : Sp := fun vs H Q _ => ∃ x y, vs = [x, y] ∧ EqvX H n x y ∧ ∀ H', Same H H' → Q (.bl true) H'
theorem EqvX.cases {H : Hp} : ∀ {n : Nat} {x y : V}, EqvX H n x y → (flatV x = true ∧ x = y) ∨ ∃ m a b xs ys, n = m + 1 ∧ x = .ref a ∧ y = .ref b ∧ ((H a = some (.lst xs) ∧ H b = some (.lst ys)) ∨ (RdT H a xs ∧ RdT H b ys)) ∧ xs.length = ys.length ∧ xs.length ≤ 1000 ∧ ∀ (i : Nat) u v, xs[i]? = some u → ys[i]? = some v → EqvX H m u v
  | 0, _, _, h => .inl h
  | n + 1, _, _, h => by
    rcases h with h | ⟨a, b, xs, ys, h⟩
    · exact .inl h
    · exact .inr ⟨n, a, b, xs, ys, rfl, h⟩
def spPrevZ : Nat → Sp
  | 0 => fun _ _ _ _ => False
  | n + 1 => spSameZ n
theorem eqvX_flat {H : Hp} {x : V} (h : flatV x = true) : ∀ {n : Nat}, EqvX H n x x
  | 0 => ⟨h, rfl⟩
  | _ + 1 => .inl ⟨h, rfl⟩
theorem eqvX_ints {H : Hp} {a b : Addr} {ns : List Int} {n : Nat} (ha : RdT H a (ns.map V.int)) (hb : RdT H b (ns.map V.int)) (hl : ns.length ≤ 1000) : EqvX H (n + 1) (.ref a) (.ref b) := by
  refine .inr ⟨a, b, _, _, rfl, rfl, .inr ⟨ha, hb⟩, rfl, by rw [List.length_map]; exact hl, fun i u v h1 h2 => ?_⟩
  rw [h1] at h2
  cases h2
  rw [List.getElem?_map] at h1
  obtain ⟨m, _, rfl⟩ := Option.map_eq_some_iff.mp h1
  exact eqvX_flat rfl
theorem eqvX_pair {H : Hp} {a b : Addr} {n : Nat} {x y u v : V} (ha : H a = some (.tup [x, y])) (hb : H b = some (.tup [u, v])) (h1 : EqvX H n x u) (h2 : EqvX H n y v) : EqvX H (n + 1) (.ref a) (.ref b) := by
  refine .inr ⟨a, b, _, _, rfl, rfl, .inr ⟨.inl ha, .inl hb⟩, rfl, by show 2 ≤ 1000; decide, fun i p q g1 g2 => ?_⟩
  match i, g1, g2 with
  | 0, g1, g2 => cases g1; cases g2; exact h1
  | 1, g1, g2 => cases g1; cases g2; exact h2
  | i + 2, g1, _ => simp at g1
/-! ### put_on_top, touch -/
def spPutZ (K : PySem.W.Frag) : Sp := fun vs H Q _ => ∃ (a : Addr) (key : Int) (ks : List Int), vs = [.ref a, .int key] ∧ SqT K H a (ks.map V.int) ∧ ks.length ≤ 1000 ∧ ∀ p H', Same H H' → RdT H' p ((topL key ks).map V.int) → ((∃ y ∈ ks, y ≠ key) → TupX H' p ((topL key ks).map V.int)) → Q (.ref p) H'
theorem spPut_Z {K : PySem.W.Frag} : ∀ vs H Q E, spPutX K vs H Q E → spPutZ K vs H Q E := fun vs H Q E ⟨a, key, ks, h1, h2, h3, h4, q⟩ => ⟨a, key, ks, h1, h2, h3, fun p H' e _ hx => q p H' e (hx h4)⟩
def spTouchZ (K : PySem.W.Frag) (C : Addr) : Sp := fun vs H Q E => ∃ (a : Addr) (key : Int) (t : T), vs = [.ref a, .int key] ∧ SqT K H a (t.pre.map V.int) ∧ t.bst ∧ t.pre.length ≤ 1000 ∧ key.natAbs.log2 < 1920 ∧
  (key ∈ t.pre → ∀ p q H', Same H H' → H' p = some (.tup [.ref q, .int (t.dep key : Int)]) → RdT H' q ((t.tch key).pre.map V.int) → Q (.ref p) H') ∧ (key ∉ t.pre → ENo C key H E)
/-! ### rotation after rotation -/
def rotN (x : Int) : Nat → T → T
  | 0, t => t
  | i + 1, t => (rotN x i t).rot x
section
variable {x : Int} {t : T}
theorem rotN_bst (b : t.bst) : ∀ i, (rotN x i t).bst
  | 0 => b
  | i + 1 => bst_rot (rotN_bst b i)
theorem rotN_mem {y : Int} : ∀ {i : Nat}, y ∈ (rotN x i t).pre ↔ y ∈ t.pre
  | 0 => Iff.rfl
  | _ + 1 => mem_rot.trans rotN_mem
theorem rotN_len (b : t.bst) : ∀ i, (rotN x i t).pre.length = t.pre.length
  | 0 => rfl
  | i + 1 => (rot_len (rotN_bst b i)).trans (rotN_len b i)
theorem rotN_tch (b : t.bst) : ∀ i, (rotN x i t).tch x = t.tch x
  | 0 => rfl
  | i + 1 => (rot_tch (rotN_bst b i)).trans (rotN_tch b i)
theorem path_pos {u : T} (b : u.bst) (h : x ∈ u.pre) : 0 < (u.path x).length := List.length_pos_iff.mpr (path_mem b h).1
theorem up_two {u : T} (b : u.bst) (h : x ∈ u.pre) (l : 2 ≤ (u.path x).length) : ∃ p, u.up x = some p := by
  rcases up_path b h with ⟨_, e⟩ | ⟨p, hp, _⟩
  · rw [e] at l; exact absurd l (by show ¬ 2 ≤ 1; decide)
  · exact ⟨p, hp⟩
theorem rt_one {u : T} (b : u.bst) (h : x ∈ u.pre) (l : (u.path x).length = 1) : u.rt = some x := by
  rcases up_path b h with ⟨hu, _⟩ | ⟨p, hp, hm, e⟩
  · exact (up_rt b h).mp hu
  · have := path_pos b hm
    rw [e, List.length_append] at l
    have l : (u.path p).length + 1 = 1 := l
    omega
theorem rt_not {u : T} (l : 2 ≤ (u.path x).length) : u.rt ≠ some x := fun e => by
  rw [path_rt e] at l
  exact absurd l (by show ¬ 2 ≤ 1; decide)
theorem rotN_dep (b : t.bst) (h : x ∈ t.pre) : ∀ {i : Nat}, i < (t.path x).length → ((rotN x i t).path x).length + i = (t.path x).length
  | 0, _ => rfl
  | i + 1, l => by
    have ih := rotN_dep b h (i := i) (by omega)
    obtain ⟨p, hp⟩ := up_two (rotN_bst (x := x) b i) (rotN_mem.mpr h) (by omega)
    have := rot_dep (rotN_bst b i) hp
    show ((rotN x i t).rot x |>.path x).length + (i + 1) = _
    omega
end
/-- the shapes of the first steps -/
def StepsAt (H : Hp) (x : Int) (t : T) (rs : List Addr) : Prop := ∀ (i : Nat) r, rs[i]? = some r → TupX H r ((rotN x i t).pre.map V.int)
theorem StepsAt.same {H H' : Hp} {x : Int} {t : T} {rs : List Addr} (h : StepsAt H x t rs) (e : Same H H') : StepsAt H' x t rs := fun i r hr => (h i r hr).same e
theorem StepsAt.snoc {H : Hp} {x : Int} {t : T} {rs : List Addr} {r : Addr} (h : StepsAt H x t rs) (hr : TupX H r ((rotN x rs.length t).pre.map V.int)) : StepsAt H x t (rs ++ [r]) := fun i r' h' => by
  rcases Nat.lt_or_ge i rs.length with l | l
  · rw [List.getElem?_append_left l] at h'
    exact h i r' h'
  · rw [List.getElem?_append_right l] at h'
    have : i - rs.length = 0 := by
      rcases Nat.eq_zero_or_pos (i - rs.length) with z | z
      · exact z
      · rw [List.getElem?_eq_none (by show 1 ≤ _; omega)] at h'; cases h'
    rw [this] at h'
    cases h'
    rw [show i = rs.length by omega]
    exact hr
theorem steps_eqv {H : Hp} {x : Int} {t : T} {rs ss : List Addr} {a b : Addr} (bt : t.bst) (hl : t.pre.length ≤ 1000) (h1 : StepsAt H x t rs) (h2 : StepsAt H x t ss) (l : rs.length = ss.length) (lr : rs.length ≤ 1000) (ha : H a = some (.lst (rs.map V.ref))) (hb : H b = some (.lst (ss.map V.ref))) : EqvX H 2 (.ref a) (.ref b) := by
  refine .inr ⟨a, b, _, _, rfl, rfl, .inl ⟨ha, hb⟩, by rw [List.length_map, List.length_map, l], by rw [List.length_map]; exact lr, fun i u v g1 g2 => ?_⟩
  rw [List.getElem?_map] at g1 g2
  obtain ⟨r, hr, rfl⟩ := Option.map_eq_some_iff.mp g1
  obtain ⟨s, hs, rfl⟩ := Option.map_eq_some_iff.mp g2
  exact eqvX_ints (h1 i r hr).rd (h2 i s hs).rd (by rw [rotN_len bt]; exact hl)
def spSteps (K : PySem.W.Frag) (C : Addr) : Sp := fun vs H Q E => ∃ (a : Addr) (key : Int) (t : T), vs = [.ref a, .int key] ∧ SqT K H a (t.pre.map V.int) ∧ (key ∈ t.pre → TupX H a (t.pre.map V.int)) ∧ t.bst ∧ t.pre.length ≤ 1000 ∧ Kn t.pre ∧ key.natAbs.log2 < 1920 ∧
  (key ∈ t.pre → ∀ p rs H', Same H H' → H p = none → rs.length = (t.path key).length → StepsAt H' key t rs → H' p = some (.lst (rs.map V.ref)) → Q (.ref p) H') ∧ (key ∉ t.pre → ENo C key H E)
theorem ne_oV {o : Option Int} {x : Int} : (!decide (oV o = V.int x)) = true ↔ o ≠ some x := by
  rw [Bool.not_eq_true', decide_eq_false_iff_not]
  cases o with
  | none => exact ⟨fun _ z => (by cases z), fun _ z => (by cases z)⟩
  | some y => exact ⟨fun h z => h (by cases z; rfl), fun h z => h (by cases z; rfl)⟩
theorem Nod.put_ne {H : Hp} {m L R U x : Addr} {o : HO} {rt : Option Int} {lf rf uf : Int → Option Int} {n : Nat} (h : Nod H m L R U rt lf rf uf n) (h1 : m ≠ x) (h2 : L ≠ x) (h3 : R ≠ x) (h4 : U ≠ x) : Nod (upd H x o) m L R U rt lf rf uf n := by
  obtain ⟨lk, a1, a2⟩ := h.l
  obtain ⟨rk, a3, a4⟩ := h.r
  obtain ⟨uk, a5, a6⟩ := h.u
  exact ⟨by rw [upd_ne h1]; exact h.hm, ⟨lk, by rw [upd_ne h2]; exact a1, a2⟩, ⟨rk, by rw [upd_ne h3]; exact a3, a4⟩, ⟨uk, by rw [upd_ne h4]; exact a5, a6⟩, h.mL, h.mR, h.mU, h.LR, h.LU, h.RU⟩
end TT
/-! histories: steps in the heap; a walk over a list or a tuple -/
namespace TT
open PySem PySem.Spec PyProof.Rows L2 HotX LamX T
section
variable {X : Cx} {tg : Expr}
/-- a list or a tuple is walked, whichever it is -/
def SqR (K : PySem.W.Frag) (H1 : Hp) (a : Addr) (R : It → Hp → Prop) : Prop := ((∃ xs, SqL K H1 a xs) ∧ R (Itl K a) H1) ∨ ((∃ xs, SqT K H1 a xs) ∧ R (Itt K a) H1)
def iSq (K : PySem.W.Frag) (te : TE) : TI := fun σ H R => te σ H fun x H1 => ∃ a, x = .ref a ∧ SqR K H1 a R
theorem pi_sq {e : Expr} {te : TE} (he : PE X e te) : PI X tg e (iSq X.K te) := ⟨fun pins s σ H R I h => thn (he.run pins s σ H _ I h) fun v s1 ⟨x, H1, I1, r1, a, ex, q1⟩ => by
  subst ex
  cases r1
  rcases q1 with ⟨⟨xs, hq⟩, q⟩ | ⟨⟨xs, hq⟩, q⟩
  · obtain ⟨its, rv, p, hz⟩ := I1.list hq
    exact wpAny_pyIter_list p.isList (pi_one (tk := s1.toks) I1 _ (turn_list a _) ⟨_, Heap.get?_push_size _ rfl, rfl, rfl⟩ q)
  · obtain ⟨its, rv, p, hz⟩ := I1.tuple hq
    exact wpAny_pyIter_tuple (show s1.heap.IsTuple a its.toArray from p) (pi_one (tk := s1.toks) I1 _ (turn_tuple a _) ⟨_, Heap.get?_push_size _ rfl, rfl, rfl⟩ q)⟩
theorem rd_sq {K : PySem.W.Frag} {H : Hp} {a : Addr} {xs : List V} {R : It → Hp → Prop} (hS : Sq K H a xs) (q : ∀ (J : It) (G : Hp → Prop), Walk J xs.length G (YAt xs) → (∀ H', Same H H' → G H') → R J H) : SqR K H a R := by
  rcases hS with h | h
  · exact .inl ⟨⟨_, h⟩, q _ _ walk_list fun H' e => e.seq h⟩
  · exact .inr ⟨⟨_, h⟩, q _ _ walk_tup fun H' e => Same.tup e h⟩
end
theorem rd_sqW {K : PySem.W.Frag} {H0 H : Hp} {a : Addr} {xs : List V} {R : It → Hp → Prop} (hS : Sq K H0 a xs) (e : Same H0 H) (q : ∀ (J : It) (G : Hp → Prop), Walk J xs.length G (YAt xs) → (∀ H', Same H0 H' → G H') → R J H) : SqR K H a R := by
  rcases hS with h | h
  · exact .inl ⟨⟨_, e.seq h⟩, q _ _ walk_list fun H' e => e.seq h⟩
  · exact .inr ⟨⟨_, Same.tup e h⟩, q _ _ walk_tup fun H' e => Same.tup e h⟩
theorem call_isiN {X : Cx} {K : PySem.W.Frag} (h : X.K = K) : CallR X (.builtin "isinstance") (rIsi K) := by
  subst h
  exact call_isi
/-! ### steps -/
inductive S where
  | k (n : Int)
  | r (c : Int) (ss : List S)
mutual
def HS (H : Hp) : S → V → Prop
  | .k n, v => v = .int n
  | .r c ss, v => ∃ (a b : Addr) (vs : List V), v = .ref a ∧ H a = some (.tup [.str "repeat", .int c, .ref b]) ∧ (H b = some (.lst vs) ∨ H b = some (.tup vs)) ∧ HL H ss vs
def HL (H : Hp) : List S → List V → Prop
  | [], vs => vs = []
  | s :: ss, vs => ∃ (v : V) (ws : List V), vs = v :: ws ∧ HS H s v ∧ HL H ss ws
end
mutual
theorem HS.same {H H' : Hp} (e : Same H H') : ∀ (s : S) {v : V}, HS H s v → HS H' s v
  | .k n, _, h => h
  | .r c ss, _, ⟨a, b, vs, h1, h2, h3, h4⟩ => ⟨a, b, vs, h1, e _ _ h2, h3.imp (e _ _) (e _ _), HL.same e ss h4⟩
theorem HL.same {H H' : Hp} (e : Same H H') : ∀ (ss : List S) {vs : List V}, HL H ss vs → HL H' ss vs
  | [], _, h => h
  | s :: ss, _, ⟨v, ws, h1, h2, h3⟩ => ⟨v, ws, h1, HS.same e s h2, HL.same e ss h3⟩
end
theorem HL.len {H : Hp} : ∀ {ss : List S} {vs : List V}, HL H ss vs → vs.length = ss.length
  | [], _, h => by rw [show _ = [] from h]; rfl
  | _ :: _, _, ⟨v, ws, h1, _, h3⟩ => by rw [h1, List.length_cons, List.length_cons, h3.len]
theorem HL.get {H : Hp} : ∀ {ss : List S} {vs : List V} {i : Nat} {v : V}, HL H ss vs → vs[i]? = some v → ∃ s, ss[i]? = some s ∧ HS H s v
  | [], _, i, v, h, g => by rw [show _ = [] from h] at g; cases g
  | s :: _, _, 0, v, ⟨v', ws, h1, h2, _⟩, g => by rw [h1] at g; cases g; exact ⟨s, rfl, h2⟩
  | _ :: _, _, i + 1, v, ⟨v', ws, h1, _, h3⟩, g => by rw [h1] at g; exact h3.get (i := i) g
theorem HL.keys {H : Hp} : ∀ (xs : List Int), HL H (xs.map S.k) (xs.map V.int)
  | [] => rfl
  | x :: xs => ⟨.int x, xs.map V.int, rfl, rfl, HL.keys xs⟩
theorem HL.app {H : Hp} : ∀ {ss ts : List S} {vs ws : List V}, HL H ss vs → HL H ts ws → HL H (ss ++ ts) (vs ++ ws)
  | [], _, _, _, h1, h2 => by rw [show _ = [] from h1]; exact h2
  | _ :: _, _, _, _, ⟨v, us, e, h2, h3⟩, h => by rw [e]; exact ⟨v, us ++ _, rfl, h2, h3.app h⟩
mutual
def S.wr : S → Nat
  | .k _ => 1
  | .r _ ss => 1 + wrL ss
def wrL : List S → Nat
  | [] => 0
  | s :: ss => s.wr + wrL ss
end
mutual
def S.dLe : S → Nat → Prop
  | .k _, _ => True
  | .r _ _, 0 => False
  | .r _ ss, n + 1 => dLeL ss n
def dLeL : List S → Nat → Prop
  | [], _ => True
  | s :: ss, n => s.dLe n ∧ dLeL ss n
end
mutual
def S.ok : S → Prop
  | .k n => -1000000000 ≤ n ∧ n ≤ 1000000000
  | .r c ss => 0 ≤ c ∧ c ≤ 1000000000000000000000000000000 ∧ okL ss
def okL : List S → Prop
  | [] => True
  | s :: ss => s.ok ∧ okL ss
end
theorem wrL_app : ∀ (xs ys : List S), wrL (xs ++ ys) = wrL xs + wrL ys
  | [], ys => by show wrL ys = 0 + wrL ys; omega
  | x :: xs, ys => by show x.wr + wrL (xs ++ ys) = x.wr + wrL xs + wrL ys; rw [wrL_app xs ys]; omega
theorem wrL_take {ss : List S} {i : Nat} {s : S} (h : ss[i]? = some s) : wrL (ss.take (i + 1)) = wrL (ss.take i) + s.wr := by
  rw [List.take_add_one, h, wrL_app]; rfl
theorem wrL_take_le (ss : List S) (i : Nat) : wrL (ss.take i) ≤ wrL ss := by
  conv => rhs; rw [← List.take_append_drop i ss]
  rw [wrL_app]; omega
theorem wr_pos (s : S) : 1 ≤ s.wr := by
  cases s with
  | k n => exact Nat.le_refl _
  | r c ss => show 1 ≤ 1 + wrL ss; omega
theorem len_wr : ∀ ss : List S, ss.length ≤ wrL ss
  | [] => Nat.le_refl _
  | s :: ss => by
    have := len_wr ss
    have := wr_pos s
    show ss.length + 1 ≤ s.wr + wrL ss
    omega
theorem dLeL_mem {n : Nat} : ∀ {ss : List S} {s : S}, dLeL ss n → s ∈ ss → s.dLe n
  | _ :: _, _, h, m => by
    rcases List.mem_cons.mp m with rfl | m
    · exact h.1
    · exact dLeL_mem h.2 m
theorem okL_mem : ∀ {ss : List S} {s : S}, okL ss → s ∈ ss → s.ok
  | _ :: _, _, h, m => by
    rcases List.mem_cons.mp m with rfl | m
    · exact h.1
    · exact okL_mem h.2 m
theorem okL_take : ∀ {ss : List S}, okL ss → ∀ i, okL (ss.take i)
  | [], _, i => by rw [List.take_nil]; trivial
  | _ :: _, _, 0 => trivial
  | _ :: _, h, i + 1 => ⟨h.1, okL_take h.2 i⟩
theorem dLeL_take {n : Nat} : ∀ {ss : List S}, dLeL ss n → ∀ i, dLeL (ss.take i) n
  | [], _, i => by rw [List.take_nil]; trivial
  | _ :: _, _, 0 => trivial
  | _ :: _, h, i + 1 => ⟨h.1, dLeL_take h.2 i⟩
theorem okL_keys : ∀ {xs : List Int}, (∀ x ∈ xs, -1000000000 ≤ x ∧ x ≤ 1000000000) → okL (xs.map S.k)
  | [], _ => trivial
  | x :: _, h => ⟨h x List.mem_cons_self, okL_keys fun y hy => h y (List.mem_cons_of_mem _ hy)⟩
theorem dLeL_keys {n : Nat} : ∀ {xs : List Int}, dLeL (xs.map S.k) n
  | [] => trivial
  | _ :: _ => ⟨trivial, dLeL_keys⟩
theorem wrL_keys : ∀ {xs : List Int}, wrL (xs.map S.k) = xs.length
  | [] => rfl
  | _ :: xs => by show 1 + wrL (xs.map S.k) = xs.length + 1; rw [wrL_keys]; omega
/-! ### a history run -/
mutual
def S.run : S → T → Except Int (T × Int)
  | .k n, t => if n ∈ t.pre then .ok (t.tch n, (t.dep n : Int)) else .error n
  | .r c ss, t => if c = 0 then .ok (t, 0) else (runL ss t).bind fun p => (runL ss p.1).bind fun q => .ok (q.1, p.2 + (c - 1) * q.2)
def runL : List S → T → Except Int (T × Int)
  | [], t => .ok (t, 0)
  | s :: ss, t => (s.run t).bind fun p => (runL ss p.1).bind fun q => .ok (q.1, p.2 + q.2)
end
theorem runL_app : ∀ (xs ys : List S) (t : T), runL (xs ++ ys) t = (runL xs t).bind fun p => (runL ys p.1).bind fun q => .ok (q.1, p.2 + q.2)
  | [], ys, t => by
    show runL ys t = (runL ys t).bind fun q => .ok (q.1, 0 + q.2)
    cases runL ys t with
    | error e => rfl
    | ok p => show Except.ok p = .ok (p.1, 0 + p.2); rw [Int.zero_add]
  | x :: xs, ys, t => by
    show (x.run t).bind (fun p => (runL (xs ++ ys) p.1).bind fun q => .ok (q.1, p.2 + q.2)) = ((x.run t).bind fun p => (runL xs p.1).bind fun q => .ok (q.1, p.2 + q.2)).bind _
    cases hx : x.run t with
    | error e => rfl
    | ok p =>
      show (runL (xs ++ ys) p.1).bind (fun q => .ok (q.1, p.2 + q.2)) = ((runL xs p.1).bind fun q => .ok (q.1, p.2 + q.2)).bind _
      rw [runL_app xs ys p.1]
      cases runL xs p.1 with
      | error e => rfl
      | ok q =>
        show ((runL ys q.1).bind fun r => .ok (r.1, q.2 + r.2)).bind (fun q => .ok (q.1, p.2 + q.2)) = (runL ys q.1).bind fun r => .ok (r.1, (p.2 + q.2) + r.2)
        cases runL ys q.1 with
        | error e => rfl
        | ok r => show Except.ok (r.1, p.2 + (q.2 + r.2)) = .ok (r.1, p.2 + q.2 + r.2); rw [Int.add_assoc]
theorem runL_take {ss : List S} {i : Nat} {s : S} {t : T} (h : ss[i]? = some s) : runL (ss.take (i + 1)) t = (runL (ss.take i) t).bind fun p => (s.run p.1).bind fun q => .ok (q.1, p.2 + q.2) := by
  rw [List.take_add_one, h, runL_app]
  cases runL (ss.take i) t with
  | error e => rfl
  | ok p =>
    show ((s.run p.1).bind fun q => (runL [] q.1).bind fun r => .ok (r.1, q.2 + r.2)).bind _ = (s.run p.1).bind _
    cases s.run p.1 with
    | error e => rfl
    | ok q => show Except.ok (q.1, p.2 + (q.2 + 0)) = .ok (q.1, p.2 + q.2); rw [Int.add_zero]
/-! ### what a run keeps -/
def costB (n : Nat) : Int := 1000 * 1000000000000000000000000000000000 ^ n
theorem costB_pos : ∀ n, 1000 ≤ costB n
  | 0 => by decide
  | n + 1 => by
    have h : costB (n + 1) = costB n * 1000000000000000000000000000000000 := by unfold costB; rw [Int.pow_succ, Int.mul_assoc]
    have := costB_pos n
    rw [h]; omega
theorem costB_succ (n : Nat) : costB (n + 1) = costB n * 1000000000000000000000000000000000 := by unfold costB; rw [Int.pow_succ, Int.mul_assoc]
structure RunK (t : T) (p : T × Int) (b : Int) : Prop where
  bst : p.1.bst
  mem : ∀ y, y ∈ p.1.pre ↔ y ∈ t.pre
  nn : 0 ≤ p.2
  le : p.2 ≤ b
theorem RunK.len {t : T} {p : T × Int} {b : Int} (h : RunK t p b) (bt : t.bst) : p.1.pre.length = t.pre.length := ((List.perm_ext_iff_of_nodup (nodup_pre h.bst) (nodup_pre bt)).mpr h.mem).length_eq
theorem RunK.trans {t : T} {p q : T × Int} {b c : Int} (h : RunK t p b) (g : RunK p.1 q c) : RunK t (q.1, p.2 + q.2) (b + c) := ⟨g.bst, fun y => (g.mem y).trans (h.mem y), Int.add_nonneg h.nn g.nn, Int.add_le_add h.le g.le⟩
theorem ebind {α β : Type} {x : Except Int α} {f : α → Except Int β} {b : β} (h : x.bind f = .ok b) : ∃ a, x = .ok a ∧ f a = .ok b := by
  cases x with
  | error e => cases h
  | ok a => exact ⟨a, rfl, h⟩
mutual
theorem S.runK : ∀ (s : S) {t : T} {n : Nat} {p : T × Int}, s.ok → s.dLe n → s.wr ≤ 100 → t.bst → t.pre.length ≤ 1000 → s.run t = .ok p → RunK t p (costB n)
  | .k x, t, n, p, _, _, _, b, l, h => by
    unfold S.run at h
    by_cases hx : x ∈ t.pre
    · rw [if_pos hx] at h
      cases h
      refine ⟨tch_bst b, fun y => tch_mem' b hx, Int.natCast_nonneg _, ?_⟩
      have h1 := path_len (x := x) (t := t)
      have := costB_pos n
      show ((t.dep x : Nat) : Int) ≤ _
      unfold T.dep
      omega
    · rw [if_neg hx] at h
      cases h
  | .r c ss, t, 0, p, _, d, _, _, _, _ => d.elim
  | .r c ss, t, n + 1, p, o, d, w, b, l, h => by
    unfold S.run at h
    have cp := costB_pos n
    by_cases hc : c = 0
    · rw [if_pos hc] at h
      cases h
      refine ⟨b, fun _ => Iff.rfl, Int.le_refl _, ?_⟩
      have := costB_pos (n + 1)
      show (0 : Int) ≤ _
      omega
    · rw [if_neg hc] at h
      obtain ⟨p1, e1, h⟩ := ebind h
      obtain ⟨p2, e2, h⟩ := ebind h
      cases h
      have w' : wrL ss ≤ 99 := by have w : 1 + wrL ss ≤ 100 := w; omega
      have k1 := runKL ss o.2.2 d (by omega) b l e1
      have k2 := runKL ss o.2.2 d (by omega) k1.bst (by rw [k1.len b]; exact l) e2
      have lw := len_wr ss
      have lb : (ss.length : Int) * costB n ≤ 100 * costB n := Int.mul_le_mul_of_nonneg_right (by omega) (by omega)
      have c1 : 1 ≤ c := by have := o.1; omega
      have hm : (c - 1) * p2.2 ≤ (c - 1) * (100 * costB n) := Int.mul_le_mul_of_nonneg_left (Int.le_trans k2.le lb) (by omega)
      have hm0 : 0 ≤ (c - 1) * p2.2 := Int.mul_nonneg (by omega) k2.nn
      have hx : c * (100 * costB n) ≤ 1000000000000000000000000000000 * (100 * costB n) := Int.mul_le_mul_of_nonneg_right o.2.1 (by omega)
      have he : (c - 1) * (100 * costB n) = c * (100 * costB n) - 100 * costB n := by rw [Int.sub_mul, Int.one_mul]
      refine ⟨k2.bst, fun y => (k2.mem y).trans (k1.mem y), Int.add_nonneg k1.nn hm0, ?_⟩
      have h1 := k1.le
      rw [costB_succ]
      show p1.2 + (c - 1) * p2.2 ≤ _
      omega
theorem runKL : ∀ (ss : List S) {t : T} {n : Nat} {p : T × Int}, okL ss → dLeL ss n → wrL ss ≤ 100 → t.bst → t.pre.length ≤ 1000 → runL ss t = .ok p → RunK t p (ss.length * costB n)
  | [], t, n, p, _, _, _, b, _, h => by
    cases h
    exact ⟨b, fun _ => Iff.rfl, Int.le_refl _, by show (0 : Int) ≤ 0 * _; rw [Int.zero_mul]; exact Int.le_refl _⟩
  | s :: ss, t, n, p, o, d, w, b, l, h => by
    have w : s.wr + wrL ss ≤ 100 := w
    obtain ⟨p1, e1, h⟩ := ebind h
    obtain ⟨p2, e2, h⟩ := ebind h
    cases h
    have k1 := S.runK s o.1 d.1 (by omega) b l e1
    have k2 := runKL ss o.2 d.2 (by omega) k1.bst (by rw [k1.len b]; exact l) e2
    have k3 := k1.trans k2
    refine ⟨k3.bst, k3.mem, k3.nn, Int.le_trans k3.le ?_⟩
    rw [List.length_cons, Int.natCast_add, Int.add_mul]
    show _ ≤ _ + 1 * costB n
    omega
end
/-! ### promises -/
def spRound : Sp := fun vs H Q _ => ∃ (a b : Addr) (c : Int), vs = [.ref a] ∧ H a = some (.tup [.str "repeat", .int c, .ref b]) ∧ 0 ≤ c ∧ c ≤ 1000000000000000000000000000000 ∧ Q (.bl true) H
def spCheck (K : PySem.W.Frag) (n : Nat) : Sp := fun us H Q _ => ∃ (b : Addr) (vs : List V) (ss : List S) (pos dep : Int), us = [.ref b, .int pos, .int dep] ∧ Sq K H b vs ∧ HL H ss vs ∧ okL ss ∧ dLeL ss n ∧ dep + n ≤ 5 ∧ 0 ≤ pos ∧ pos + wrL ss ≤ 100 ∧
  ∀ H', Same H H' → Q (.int (pos + wrL ss)) H'
def spPrevC (K : PySem.W.Frag) : Nat → Sp
  | 0 => fun _ _ _ _ => False
  | n + 1 => spCheck K n
def spCheckH (K : PySem.W.Frag) : Sp := fun us H Q _ => ∃ (b : Addr) (vs : List V) (ss : List S), us = [.ref b] ∧ Sq K H b vs ∧ HL H ss vs ∧ okL ss ∧ dLeL ss 4 ∧ wrL ss ≤ 100 ∧ ∀ H', Same H H' → Q .non H'
def spRunS (K : PySem.W.Frag) (C : Addr) (n : Nat) : Sp := fun us H Q E => ∃ (a b : Addr) (vs : List V) (ss : List S) (t : T), us = [.ref a, .ref b] ∧ H a = some (.tup (t.pre.map V.int)) ∧ Sq K H b vs ∧ HL H ss vs ∧ t.bst ∧ t.pre.length ≤ 1000 ∧ okL ss ∧ dLeL ss n ∧ n ≤ 4 ∧ wrL ss ≤ 100 ∧
  (∀ p, runL ss t = .ok p → ∀ x q H', Same H H' → H' x = some (.tup [.ref q, .int p.2]) → H' q = some (.tup (p.1.pre.map V.int)) → Q (.ref x) H') ∧ (∀ key, runL ss t = .error key → ENo C key H E)
def spPrevR (K : PySem.W.Frag) (C : Addr) : Nat → Sp
  | 0 => fun _ _ _ _ => False
  | n + 1 => spRunS K C n
def spRunR (K : PySem.W.Frag) (C : Addr) (n : Nat) : Sp := fun us H Q E => ∃ (a : Addr) (v : V) (c : Int) (ss : List S) (t : T), us = [.ref a, v] ∧ H a = some (.tup (t.pre.map V.int)) ∧ HS H (.r c ss) v ∧ t.bst ∧ t.pre.length ≤ 1000 ∧ (S.r c ss).ok ∧ (S.r c ss).dLe n ∧ n ≤ 4 ∧ (S.r c ss).wr ≤ 100 ∧
  (∀ p, (S.r c ss).run t = .ok p → ∀ x q H', Same H H' → H' x = some (.tup [.ref q, .int p.2]) → H' q = some (.tup (p.1.pre.map V.int)) → Q (.ref x) H') ∧ (∀ key, (S.r c ss).run t = .error key → ENo C key H E)
def spRunH (K : PySem.W.Frag) (C : Addr) : Sp := fun us H Q E => ∃ (a b : Addr) (vs : List V) (ss : List S) (t : T), us = [.ref a, .ref b] ∧ H a = some (.tup (t.pre.map V.int)) ∧ Sq K H b vs ∧ HL H ss vs ∧ t.bst ∧ t.pre.length ≤ 1000 ∧ okL ss ∧ dLeL ss 4 ∧ wrL ss ≤ 100 ∧
  (∀ p, runL ss t = .ok p → ∀ x q H', Same H H' → H' x = some (.tup [.ref q, .int p.2]) → H' q = some (.tup (p.1.pre.map V.int)) → Q (.ref x) H') ∧ (∀ key, runL ss t = .error key → ENo C key H E)
theorem costB_wide {n : Nat} (h : n ≤ 4) : costB n < 2 ^ 1000 := by
  have : n = 0 ∨ n = 1 ∨ n = 2 ∨ n = 3 ∨ n = 4 := by omega
  rcases this with rfl | rfl | rfl | rfl | rfl <;> decide +kernel
end TT
namespace TT
open PySem PySem.Spec PyProof.Rows L2 HotX LamX T
/-! ### draws, nodes -/
def spKeysB : Sp := fun vs H Q _ => ∃ (d : Addr) (m : Int) (c : Addr) (ns : List Int), vs = [.ref d, .int m] ∧ 0 ≤ m ∧ m ≤ 49 ∧ Drw c ns H d ∧
  ∀ ks p H', (ks.length : Int) = m → Asc ks → (∀ x ∈ ks, x ≤ 999999900) → Ext d H H' → Drw c ns H' d → H p = none → H' p = some (.lst (ks.map V.int)) → Q (.ref p) H'
theorem spKeys_B : ∀ vs H Q E, spKeys vs H Q E → spKeysB vs H Q E := fun vs H Q E ⟨d, m, c, ns, h1, h2, h3, h4, q⟩ => ⟨d, m, c, ns, h1, h2, h3, h4, fun ks p H' a b _ => q ks p H' a b⟩
def spStrangeB (K : PySem.W.Frag) : Sp := fun vs H Q _ => ∃ (d a : Addr) (ks : List Int) (c : Addr) (ns : List Int), vs = [.ref d, .ref a] ∧ H a = some (.lst (ks.map V.int)) ∧ Asc ks ∧ (∀ x ∈ ks, x ≤ 999999900) ∧ ks.length ≤ 1000 ∧ a ≠ d ∧ Drw c ns H d ∧
  ∀ x H', x ∉ ks → -1000000000 ≤ x → x ≤ 999999901 → Ext d H H' → Drw c ns H' d → Q (.int x) H'
theorem lc_dr {c d : Addr} {ms : List Int} {n : Nat} {g : TG} {te : TE} {vs : List Nat} {σ : L2.St} {H1 : Hp} {D : Addr} {Qd : Hp → Prop} (Pr : Int → Prop) (hD1 : Drw c ms H1 d) (nD : H1 D = none) (hn : n ≤ 1000)
    (hs : ∀ (i : Nat) H2 (Y : VK), i < n → Ext d H1 H2 → Drw c ms H2 d → (∀ x H3, Pr x → Ext d H2 H3 → Drw c ms H3 d → Y (.int x) H3) → g (.int (0 + i)) (wipe σ vs) H2 fun σ2 H3 => wipe σ2 vs = wipe σ vs ∧ te σ2 H3 Y)
    (hd : ∀ (xs : List Int) H2, xs.length = n → (∀ x ∈ xs, Pr x) → Ext d H1 H2 → Drw c ms H2 d → H2 D = some (.lst (xs.map V.int)) → Qd H2) :
    ∃ W : Nat → Nat → Hp → Prop, (∃ m, W 0 m (upd H1 D (.lst []))) ∧ ∀ i m H, W i m H →
      ((Itr 0 n).stop i H ∧ Qd H) ∨ ((Itr 0 n).go i H ∧ ∃ Nx : Hp → Prop, (∀ H', Nx H' → ∃ m', m' < m ∧ W (i + 1) m' H') ∧ ∀ x H', (Itr 0 n).yld i H x H' → g x (wipe σ vs) H' fun σ2 H2 => wipe σ2 vs = wipe σ vs ∧ tYes σ2 H2 fun b H3 =>
        if b = true then te σ2 H3 fun y H4 => ∃ acc, H4 D = some (.lst acc) ∧ acc.length < sizeLine ∧ Nx (upd H4 D (.lst (acc ++ [y]))) else Nx H3) := by
  have nDd := hD1.ne nD
  refine lc_range (lo := 0) (tt := tYes) (fun i H5 => ∃ ts : List Int, ts.length = i ∧ (∀ z ∈ ts, Pr z) ∧ Ext d H1 H5 ∧ Drw c ms H5 d ∧ H5 D = some (.lst (ts.map V.int))) ⟨[], rfl, fun _ h => (by cases h), Ext.of (same_new nD), hD1.new nD, upd_same⟩ ?_ ?_
  · rintro i H5 hi ⟨ts, lt, mt, e5, hD5, hDD5⟩
    refine hs i H5 _ hi e5 hD5 fun x H3 hx e3 hD3 => ⟨_, e3 _ _ nDd hDD5, szl (by rw [List.length_map]; omega), ts ++ [x], by rw [List.length_append]; exact congrArg (· + 1) lt, fun z hz => ?_, (e5.trans e3).put nD, hD3.put hD1 nD, by rw [upd_same, List.map_append]; rfl⟩
    rcases List.mem_append.mp hz with h | h
    · exact mt z h
    · rw [List.mem_singleton.mp h]; exact hx
  · rintro H5 ⟨ts, lt, mt, e5, hD5, hDD5⟩
    exact hd ts H5 lt mt e5 hD5 hDD5
/-- all but the four dicts of the nodes stay -/
def Off (m L R U : Addr) (H H' : Hp) : Prop := ∀ b o, b ≠ m → b ≠ L → b ≠ R → b ≠ U → H b = some o → H' b = some o
theorem Off.same {m L R U : Addr} {H H1 H' : Hp} (h : Off m L R U H1 H') (e : Same H H1) (nm : H m = none) (nL : H L = none) (nR : H R = none) (nU : H U = none) : Same H H' := fun b o hb =>
  h b o (ne_of_none hb nm) (ne_of_none hb nL) (ne_of_none hb nR) (ne_of_none hb nU) (e b o hb)
theorem lc_tch {K : PySem.W.Frag} {b m L R U : Addr} {xs : List Int} {t : T} {g : TG} {te : TE} {vs : List Nat} {σ : L2.St} {H1 : Hp} {D : Addr} {Qd : Hp → Prop} (hX : H1 b = some (.lst (xs.map V.int))) (hT : TrAt H1 m L R U t t.pre.length) (hb : t.bst) (hx : ∀ x ∈ xs, x ∈ t.pre) (hl : xs.length ≤ 1000) (nD : H1 D = none)
    (hs : ∀ x H2 (u : T) (Y : VK), x ∈ xs → Off m L R U H1 H2 → TrAt H2 m L R U u t.pre.length → u.bst → x ∈ u.pre → u.pre.length = t.pre.length → (∀ H3, TrAt H3 m L R U (u.tch x) u.pre.length → Fr m L R U H2 H3 → Y (.int (u.dep x : Int)) H3) → g (.int x) (wipe σ vs) H2 fun σ2 H3 => wipe σ2 vs = wipe σ vs ∧ te σ2 H3 Y)
    (hd : ∀ H2, Off m L R U H1 H2 → TrAt H2 m L R U (t.tchs xs) t.pre.length → H2 D = some (.lst ((costs t xs).map V.int)) → Qd H2) :
    ∃ W : Nat → Nat → Hp → Prop, (∃ m, W 0 m (upd H1 D (.lst []))) ∧ ∀ i m H, W i m H →
      ((Itl K b).stop i H ∧ Qd H) ∨ ((Itl K b).go i H ∧ ∃ Nx : Hp → Prop, (∀ H', Nx H' → ∃ m', m' < m ∧ W (i + 1) m' H') ∧ ∀ x H', (Itl K b).yld i H x H' → g x (wipe σ vs) H' fun σ2 H2 => wipe σ2 vs = wipe σ vs ∧ tYes σ2 H2 fun b H3 =>
        if b = true then te σ2 H3 fun y H4 => ∃ acc, H4 D = some (.lst acc) ∧ acc.length < sizeLine ∧ Nx (upd H4 D (.lst (acc ++ [y]))) else Nx H3) := by
  have sub : ∀ i, ∀ x ∈ xs.take i, x ∈ t.pre := fun i x h => hx x (List.mem_of_mem_take h)
  obtain ⟨lk, h1, _⟩ := hT.l
  obtain ⟨rk, h3, _⟩ := hT.r
  obtain ⟨uk, h5, _⟩ := hT.u
  have nb : b ≠ m ∧ b ≠ L ∧ b ≠ R ∧ b ≠ U := ⟨fun z => (by rw [z, hT.hm] at hX; cases hX), fun z => (by rw [z, h1] at hX; cases hX), fun z => (by rw [z, h3] at hX; cases hX), fun z => (by rw [z, h5] at hX; cases hX)⟩
  have ne1 : m ≠ D ∧ L ≠ D ∧ R ≠ D ∧ U ≠ D := ⟨ne_of_none hT.hm nD, ne_of_none h1 nD, ne_of_none h3 nD, ne_of_none h5 nD⟩
  refine lc_list (xs := xs.map V.int) (tt := tYes) (fun i H3 => Off m L R U H1 H3 ∧ TrAt H3 m L R U (t.tchs (xs.take i)) t.pre.length ∧ H3 D = some (.lst ((costs t (xs.take i)).map V.int))) ⟨fun c o _ _ _ _ hc => same_new nD _ _ hc, hT.same (same_new nD), upd_same⟩ (fun i H3 _ h => SqL.of (h.1 _ _ nb.1 nb.2.1 nb.2.2.1 nb.2.2.2 hX)) ?_ ?_
  · rintro i v H3 hv ⟨e3, hT3, hD3⟩
    rw [List.getElem?_map] at hv
    obtain ⟨x, hxi, rfl⟩ := Option.map_eq_some_iff.mp hv
    have hi := (List.getElem?_eq_some_iff.mp hxi).1
    have ht : xs.take (i + 1) = xs.take i ++ [x] := by rw [List.take_add_one, hxi]; rfl
    have lt3 : (t.tchs (xs.take i)).pre.length = t.pre.length := tchs_len hb (sub i)
    refine hs x H3 _ _ (List.mem_of_getElem? hxi) e3 hT3 (tchs_bst hb) ((tchs_mem hb (sub i)).mpr (hx x (List.mem_of_getElem? hxi))) lt3 fun H4 hT4 fr => ?_
    have hD4 : H4 D = some (.lst ((costs t (xs.take i)).map V.int)) := by rw [fr D ne1.1.symm ne1.2.1.symm ne1.2.2.1.symm ne1.2.2.2.symm]; exact hD3
    refine ⟨_, hD4, szl (by rw [List.length_map, costs_len, List.length_take]; omega), fun c o a1 a2 a3 a4 hc => ?_, ?_, ?_⟩
    · rw [upd_ne (ne_of_none hc nD), fr c a1 a2 a3 a4]
      exact e3 c o a1 a2 a3 a4 hc
    · rw [ht, tchs_snoc]
      rw [lt3] at hT4
      exact hT4.put_ne ne1.1 ne1.2.1 ne1.2.2.1 ne1.2.2.2
    · rw [upd_same, ht, costs_snoc, List.map_append]; rfl
  · rintro H3 ⟨e3, hT3, hD3⟩
    rw [List.length_map, List.take_length] at hT3 hD3
    exact hd H3 e3 hT3 hD3
/-! ### rounds in rounds -/
def nestR (xs : List Int) : List Int → List S
  | [] => xs.map S.k
  | c :: cs => [.r c (nestR xs cs)]
def prodI : List Int → Int
  | [] => 1
  | c :: cs => prodI cs * c
theorem run_keys : ∀ {xs : List Int} {t : T}, t.bst → (∀ x ∈ xs, x ∈ t.pre) → runL (xs.map S.k) t = .ok (t.tchs xs, (costs t xs).sum)
  | [], t, _, _ => rfl
  | x :: xs, t, b, h => by
    have hx := h x List.mem_cons_self
    have ih := run_keys (xs := xs) (t := t.tch x) (tch_bst b) fun y hy => (tch_mem' b hx).mpr (h y (List.mem_cons_of_mem _ hy))
    show ((S.k x).run t).bind (fun p => (runL (xs.map S.k) p.1).bind fun q => .ok (q.1, p.2 + q.2)) = _
    have r1 : (S.k x).run t = .ok (t.tch x, (t.dep x : Int)) := by unfold S.run; rw [if_pos hx]
    rw [r1]
    show (runL (xs.map S.k) (t.tch x)).bind (fun q => .ok (q.1, (t.dep x : Int) + q.2)) = _
    rw [ih]
    show Except.ok (((t.tch x).tchs xs), (t.dep x : Int) + (costs (t.tch x) xs).sum) = .ok (t.tchs (x :: xs), (costs t (x :: xs)).sum)
    rw [show costs t (x :: xs) = (t.dep x : Int) :: costs (t.tch x) xs from rfl, List.sum_cons]; rfl
theorem run_keys_err {xs : List Int} {t : T} {odd : Int} (b : t.bst) (h : ∀ x ∈ xs, x ∈ t.pre) (ho : odd ∉ t.pre) : runL ((xs ++ [odd]).map S.k) t = .error odd := by
  rw [List.map_append, runL_app, run_keys b h]
  have : (S.k odd).run (t.tchs xs) = .error odd := by unfold S.run; rw [if_neg (fun z => ho ((tchs_mem b h).mp z))]
  show (((S.k odd).run (t.tchs xs)).bind _).bind _ = _
  rw [this]; rfl
theorem run_nest {xs : List Int} {t : T} (b : t.bst) (h : ∀ x ∈ xs, x ∈ t.pre) : ∀ cs : List Int,
    runL (nestR xs cs) t = .ok (if prodI cs = 0 then (t, 0) else (t.tchs xs, (costs t xs).sum + (prodI cs - 1) * (costs (t.tchs xs) xs).sum)) ∧ runL (nestR xs cs) (t.tchs xs) = .ok (t.tchs xs, prodI cs * (costs (t.tchs xs) xs).sum)
  | [] => by
    have bu := tchs_bst (xs := xs) b
    have hu : ∀ x ∈ xs, x ∈ (t.tchs xs).pre := fun x hx => (tchs_mem b h).mpr (h x hx)
    have idem : (t.tchs xs).tchs xs = t.tchs xs := by rw [← tchs_app]; exact tchs_absorbs b h fun _ z => z
    refine ⟨?_, ?_⟩
    · show runL (xs.map S.k) t = _
      rw [run_keys b h, if_neg (by decide)]
      show _ = Except.ok (_, _ + ((1 : Int) - 1) * _)
      rw [Int.sub_self, Int.zero_mul, Int.add_zero]
    · show runL (xs.map S.k) (t.tchs xs) = Except.ok (_, (1 : Int) * _)
      rw [run_keys bu hu, idem, Int.one_mul]
  | c :: cs => by
    obtain ⟨i1, i2⟩ := run_nest b h cs
    have one : ∀ (s : S) (u : T), runL [s] u = (s.run u).bind fun p => .ok (p.1, p.2) := fun s u => by
      show (s.run u).bind (fun p => (Except.ok (p.1, 0)).bind fun q => .ok (q.1, p.2 + q.2)) = _
      cases s.run u with
      | error e => rfl
      | ok p => show Except.ok (p.1, p.2 + 0) = .ok (p.1, p.2); rw [Int.add_zero]
    have e1 : ∀ u, (S.r c (nestR xs cs)).run u = if c = 0 then .ok (u, 0) else (runL (nestR xs cs) u).bind fun p => (runL (nestR xs cs) p.1).bind fun q => .ok (q.1, p.2 + (c - 1) * q.2) := fun u => by unfold S.run; rfl
    show runL [S.r c (nestR xs cs)] t = .ok (if prodI cs * c = 0 then _ else (_, _ + (prodI cs * c - 1) * _)) ∧ runL [S.r c (nestR xs cs)] (t.tchs xs) = .ok (_, prodI cs * c * _)
    rw [one, one, e1, e1]
    generalize (costs (t.tchs xs) xs).sum = Lc at *
    generalize (costs t xs).sum = F at *
    by_cases hc : c = 0
    · rw [if_pos hc, if_pos hc, hc, Int.mul_zero, if_pos rfl, Int.zero_mul]
      exact ⟨rfl, rfl⟩
    · rw [if_neg hc, if_neg hc]
      refine ⟨?_, ?_⟩
      · by_cases hp : prodI cs = 0
        · rw [hp, Int.zero_mul, if_pos rfl]
          rw [hp, if_pos rfl] at i1
          rw [i1]
          show ((runL (nestR xs cs) t).bind _).bind _ = _
          rw [i1]
          show Except.ok (t, (0 : Int) + (c - 1) * 0) = _
          rw [Int.mul_zero, Int.add_zero]
        · rw [if_neg hp] at i1
          rw [if_neg (fun z => (Int.mul_eq_zero.mp z).elim hp hc), i1]
          show ((runL (nestR xs cs) (t.tchs xs)).bind _).bind _ = _
          rw [i2]
          show Except.ok (t.tchs xs, (F + (prodI cs - 1) * Lc) + (c - 1) * (prodI cs * Lc)) = .ok (t.tchs xs, F + (prodI cs * c - 1) * Lc)
          congr 2
          rw [← Int.mul_assoc, Int.sub_mul c 1, Int.one_mul, Int.sub_mul, Int.sub_mul, Int.sub_mul, Int.mul_comm c]
          omega
      · rw [i2]
        show ((runL (nestR xs cs) (t.tchs xs)).bind _).bind _ = _
        rw [i2]
        show Except.ok (t.tchs xs, prodI cs * Lc + (c - 1) * (prodI cs * Lc)) = .ok (t.tchs xs, prodI cs * c * Lc)
        congr 2
        rw [← Int.mul_assoc, Int.sub_mul c 1, Int.one_mul, Int.sub_mul, Int.mul_comm c]
        omega
theorem nest_ok {xs : List Int} (h : ∀ x ∈ xs, -1000000000 ≤ x ∧ x ≤ 1000000000) : ∀ {cs : List Int}, (∀ c ∈ cs, 0 ≤ c ∧ c ≤ 1000000000000000000000000000000) → okL (nestR xs cs)
  | [], _ => okL_keys h
  | c :: _, hc => ⟨⟨(hc c List.mem_cons_self).1, (hc c List.mem_cons_self).2, nest_ok h fun x hx => hc x (List.mem_cons_of_mem _ hx)⟩, trivial⟩
theorem nest_dp {xs : List Int} : ∀ {cs : List Int} {n : Nat}, cs.length ≤ n → dLeL (nestR xs cs) n
  | [], _, _ => dLeL_keys
  | _ :: cs, 0, h => by rw [List.length_cons] at h; omega
  | _ :: cs, n + 1, h => ⟨nest_dp (by rw [List.length_cons] at h; omega), trivial⟩
theorem nest_wr {xs : List Int} : ∀ {cs : List Int}, wrL (nestR xs cs) = xs.length + cs.length
  | [] => wrL_keys
  | _ :: cs => by show (1 + wrL (nestR xs cs)) + 0 = _; rw [nest_wr, List.length_cons]; omega
theorem prodI_bd : ∀ {cs : List Int}, (∀ c ∈ cs, 0 ≤ c ∧ c ≤ 1000000000000000000000000000000) → 0 ≤ prodI cs ∧ prodI cs ≤ 1000000000000000000000000000000 ^ cs.length
  | [], _ => by decide
  | c :: cs, h => by
    obtain ⟨a, b⟩ := prodI_bd (cs := cs) fun x hx => h x (List.mem_cons_of_mem _ hx)
    have hc := h c List.mem_cons_self
    refine ⟨Int.mul_nonneg a hc.1, ?_⟩
    show prodI cs * c ≤ _
    rw [List.length_cons, Int.pow_succ]
    exact Int.le_trans (Int.mul_le_mul_of_nonneg_left hc.2 a) (Int.mul_le_mul_of_nonneg_right b (by decide))
theorem prodI_wide {cs : List Int} (h : ∀ c ∈ cs, 0 ≤ c ∧ c ≤ 1000000000000000000000000000000) (l : cs.length ≤ 4) : (prodI cs).natAbs < 2 ^ 400 := by
  obtain ⟨a, b⟩ := prodI_bd h
  have c : (1000000000000000000000000000000 : Int) ^ cs.length < 2 ^ 400 := by
    have : cs.length = 0 ∨ cs.length = 1 ∨ cs.length = 2 ∨ cs.length = 3 ∨ cs.length = 4 := by omega
    rcases this with e | e | e | e | e <;> rw [e] <;> decide +kernel
  have d : ((2 ^ 400 : Nat) : Int) = 2 ^ 400 := by decide +kernel
  refine Int.ofNat_lt.mp ?_
  rw [d, Int.natAbs_of_nonneg a]
  exact Int.lt_of_le_of_lt b c
mutual
theorem HS.ext {H H' : Hp} {c d : Addr} {ns : List Int} (hD : Drw c ns H d) (e : Ext d H H') : ∀ (s : S) {v : V}, HS H s v → HS H' s v
  | .k n, _, h => h
  | .r n ss, _, ⟨a, b, vs, h1, h2, h3, h4⟩ => by
    obtain ⟨i, z1, z2, hd, hc, _⟩ := id hD
    refine ⟨a, b, vs, h1, e _ _ (fun z => by rw [z, hd] at h2; cases h2) h2, h3.imp (fun h => e _ _ (fun z => ?_) h) (fun h => e _ _ (fun z => by rw [z, hd] at h; cases h) h), HL.ext hD e ss h4⟩
    rw [z, hd] at h
    cases h
    cases ss with
    | nil => exact absurd (show _ = [] from h4) (by simp)
    | cons s0 ss0 =>
      obtain ⟨v, ws, e1, e2, _⟩ := h4
      cases e1
      cases s0 with
      | k x => exact absurd (show V.ref c = V.int x from e2) (by simp)
      | r x y =>
        obtain ⟨a', b', vs', k1, k2, _⟩ := e2
        cases k1
        rw [hc] at k2
        cases k2
theorem HL.ext {H H' : Hp} {c d : Addr} {ns : List Int} (hD : Drw c ns H d) (e : Ext d H H') : ∀ (ss : List S) {vs : List V}, HL H ss vs → HL H' ss vs
  | [], _, h => h
  | s :: ss, _, ⟨v, ws, h1, h2, h3⟩ => ⟨v, ws, h1, HS.ext hD e s h2, HL.ext hD e ss h3⟩
end
end TT
/-! drawn histories -/
namespace TT
open PySem PySem.Spec PyProof.Rows L2 HotX LamX T
/-- what of H' is new since H, D apart -/
def nwD (H : Hp) (D : Option Addr) (H' : Hp) : Hp := fun b => if H b = none ∧ some b ≠ D then H' b else none
theorem nwD_at {H H' : Hp} {D : Option Addr} {b : Addr} {o : HO} : nwD H D H' b = some o ↔ H b = none ∧ some b ≠ D ∧ H' b = some o := by
  unfold nwD
  by_cases h : H b = none ∧ some b ≠ D
  · rw [if_pos h]; exact ⟨fun z => ⟨h.1, h.2, z⟩, fun z => z.2.2⟩
  · rw [if_neg h]; exact ⟨fun z => (by cases z), fun z => absurd ⟨z.1, z.2.1⟩ h⟩
theorem nwD_same {H H' : Hp} {D : Option Addr} : Same (nwD H D H') H' := fun b o h => (nwD_at.mp h).2.2
/-! ### the steps that are drawn -/
mutual
def S.inK (ks : List Int) : S → Prop
  | .k x => x ∈ ks
  | .r c ss => 0 ≤ c ∧ c ≤ 1000000000000000000000000000000 ∧ ss.length ≤ 6 ∧ inKL ks ss
def inKL (ks : List Int) : List S → Prop
  | [] => True
  | s :: ss => s.inK ks ∧ inKL ks ss
end
theorem inKL_mem {ks : List Int} : ∀ {ss : List S} {s : S}, inKL ks ss → s ∈ ss → s.inK ks
  | _ :: _, _, h, m => by
    rcases List.mem_cons.mp m with rfl | m
    · exact h.1
    · exact inKL_mem h.2 m
theorem inKL_of {ks : List Int} : ∀ {ss : List S}, (∀ s ∈ ss, s.inK ks) → inKL ks ss
  | [], _ => trivial
  | s :: _, h => ⟨h s List.mem_cons_self, inKL_of fun x hx => h x (List.mem_cons_of_mem _ hx)⟩
theorem dLeL_of {n : Nat} : ∀ {ss : List S}, (∀ s ∈ ss, s.dLe n) → dLeL ss n
  | [], _ => trivial
  | s :: _, h => ⟨h s List.mem_cons_self, dLeL_of fun x hx => h x (List.mem_cons_of_mem _ hx)⟩
mutual
theorem S.inK_ok {ks : List Int} (h : ∀ x ∈ ks, -1000000000 ≤ x ∧ x ≤ 1000000000) : ∀ {s : S}, s.inK ks → s.ok
  | .k x, i => h x i
  | .r c ss, i => ⟨i.1, i.2.1, inKL_ok h i.2.2.2⟩
theorem inKL_ok {ks : List Int} (h : ∀ x ∈ ks, -1000000000 ≤ x ∧ x ≤ 1000000000) : ∀ {ss : List S}, inKL ks ss → okL ss
  | [], _ => trivial
  | s :: ss, i => ⟨S.inK_ok h i.1, inKL_ok h i.2⟩
end
mutual
theorem S.dLe_mono {n m : Nat} (h : n ≤ m) : ∀ {s : S}, s.dLe n → s.dLe m := fun {s} => by
  cases s with
  | k x => exact fun _ => trivial
  | r c ss =>
    intro d
    cases n with
    | zero => exact d.elim
    | succ n =>
      cases m with
      | zero => omega
      | succ m => exact dLeL_mono (by omega) ss d
theorem dLeL_mono {n m : Nat} (h : n ≤ m) : ∀ (ss : List S), dLeL ss n → dLeL ss m
  | [], _ => trivial
  | s :: ss, d => ⟨S.dLe_mono h d.1, dLeL_mono h ss d.2⟩
end
theorem lc_steps {c d : Addr} {ms : List Int} {n : Nat} {g : TG} {te : TE} {vs : List Nat} {σ : L2.St} {H1 : Hp} {D : Addr} {Qd : Hp → Prop} (Pr : S → Prop) (hD1 : Drw c ms H1 d) (nD : H1 D = none) (hn : n ≤ 1000)
    (hs : ∀ (i : Nat) H2 (Y : VK), i < n → Ext d H1 H2 → Drw c ms H2 d → (∀ s v H3, Pr s → Ext d H2 H3 → Drw c ms H3 d → HS (nwD H2 none H3) s v → Y v H3) → g (.int (0 + i)) (wipe σ vs) H2 fun σ2 H3 => wipe σ2 vs = wipe σ vs ∧ te σ2 H3 Y)
    (hd : ∀ (ss : List S) ws H2, ss.length = n → (∀ s ∈ ss, Pr s) → Ext d H1 H2 → Drw c ms H2 d → H2 D = some (.lst ws) → HL (nwD H1 (some D) H2) ss ws → Qd H2) :
    ∃ W : Nat → Nat → Hp → Prop, (∃ m, W 0 m (upd H1 D (.lst []))) ∧ ∀ i m H, W i m H →
      ((Itr 0 n).stop i H ∧ Qd H) ∨ ((Itr 0 n).go i H ∧ ∃ Nx : Hp → Prop, (∀ H', Nx H' → ∃ m', m' < m ∧ W (i + 1) m' H') ∧ ∀ x H', (Itr 0 n).yld i H x H' → g x (wipe σ vs) H' fun σ2 H2 => wipe σ2 vs = wipe σ vs ∧ tYes σ2 H2 fun b H3 =>
        if b = true then te σ2 H3 fun y H4 => ∃ acc, H4 D = some (.lst acc) ∧ acc.length < sizeLine ∧ Nx (upd H4 D (.lst (acc ++ [y]))) else Nx H3) := by
  have nDd := hD1.ne nD
  refine lc_range (lo := 0) (tt := tYes) (fun i H5 => ∃ (ss : List S) (ws : List V), ss.length = i ∧ (∀ s ∈ ss, Pr s) ∧ Ext d H1 H5 ∧ Drw c ms H5 d ∧ H5 D = some (.lst ws) ∧ HL (nwD H1 (some D) H5) ss ws) ⟨[], [], rfl, fun _ h => (by cases h), Ext.of (same_new nD), hD1.new nD, upd_same, rfl⟩ ?_ ?_
  · rintro i H5 hi ⟨ss, ws, ls, ps, e5, hD5, hDD5, hL5⟩
    have lw : ws.length = i := by rw [hL5.len, ls]
    refine hs i H5 _ hi e5 hD5 fun s v H3 hsP e3 hD3 hS => ⟨_, e3 _ _ nDd hDD5, szl (by omega), ss ++ [s], ws ++ [v], by rw [List.length_append]; exact congrArg (· + 1) ls, fun z hz => ?_, (e5.trans e3).put nD, hD3.put hD1 nD, upd_same, ?_⟩
    · rcases List.mem_append.mp hz with h | h
      · exact ps z h
      · rw [List.mem_singleton.mp h]; exact hsP
    · have m1 : Same (nwD H1 (some D) H5) (nwD H1 (some D) (upd H3 D (.lst (ws ++ [v])))) := fun b o hb => by
        obtain ⟨a1, a2, a3⟩ := nwD_at.mp hb
        have bd : b ≠ d := fun z => by obtain ⟨q, hq⟩ := hD1.at; rw [z, hq] at a1; cases a1
        have bD : b ≠ D := fun z => a2 (by rw [z])
        exact nwD_at.mpr ⟨a1, a2, by rw [upd_ne bD]; exact e3 _ _ bd a3⟩
      have m2 : Same (nwD H5 none H3) (nwD H1 (some D) (upd H3 D (.lst (ws ++ [v])))) := fun b o hb => by
        obtain ⟨a1, _, a3⟩ := nwD_at.mp hb
        have bD : b ≠ D := fun z => by rw [z, hDD5] at a1; cases a1
        refine nwD_at.mpr ⟨?_, fun z => bD (Option.some.inj z), by rw [upd_ne bD]; exact a3⟩
        obtain ⟨o1, h1⟩ := hD1.at
        obtain ⟨o5, h5⟩ := hD5.at
        exact e5.free h1 h5 a1
      exact (HL.same m1 _ hL5).app ⟨v, [], rfl, HS.same m2 s hS, rfl⟩
  · rintro H5 ⟨ss, ws, ls, ps, e5, hD5, hDD5, hL5⟩
    exact hd ss ws H5 ls ps e5 hD5 hDD5 hL5
/-! ### what is asked of them -/
mutual
def S.len : S → Int
  | .k _ => 1
  | .r c ss => c * lenL ss
def lenL : List S → Int
  | [] => 0
  | s :: ss => s.len + lenL ss
end
mutual
def S.sh : S → List Int
  | .k x => [x]
  | .r c ss => (List.replicate (min 2 c).toNat (shL ss)).flatten
def shL : List S → List Int
  | [] => []
  | s :: ss => s.sh ++ shL ss
end
mutual
def S.wt : S → List Int
  | .k x => [x]
  | .r c ss => if 0 < c then wtL ss else []
def wtL : List S → List Int
  | [] => []
  | s :: ss => s.wt ++ wtL ss
end
theorem lenL_app : ∀ (xs ys : List S), lenL (xs ++ ys) = lenL xs + lenL ys
  | [], ys => by show lenL ys = 0 + lenL ys; rw [Int.zero_add]
  | x :: xs, ys => by show x.len + lenL (xs ++ ys) = x.len + lenL xs + lenL ys; rw [lenL_app xs ys, Int.add_assoc]
theorem shL_app : ∀ (xs ys : List S), shL (xs ++ ys) = shL xs ++ shL ys
  | [], ys => rfl
  | x :: xs, ys => by show x.sh ++ shL (xs ++ ys) = x.sh ++ shL xs ++ shL ys; rw [shL_app xs ys, List.append_assoc]
theorem wtL_app : ∀ (xs ys : List S), wtL (xs ++ ys) = wtL xs ++ wtL ys
  | [], ys => rfl
  | x :: xs, ys => by show x.wt ++ wtL (xs ++ ys) = x.wt ++ wtL xs ++ wtL ys; rw [wtL_app xs ys, List.append_assoc]
section
variable {ss : List S} {i : Nat} {s : S}
theorem lenL_take (h : ss[i]? = some s) : lenL (ss.take (i + 1)) = lenL (ss.take i) + s.len := by rw [List.take_add_one, h, lenL_app]; show _ + (s.len + 0) = _; rw [Int.add_zero]
theorem shL_take (h : ss[i]? = some s) : shL (ss.take (i + 1)) = shL (ss.take i) ++ s.sh := by rw [List.take_add_one, h, shL_app]; show _ ++ (s.sh ++ []) = _; rw [List.append_nil]
theorem wtL_take (h : ss[i]? = some s) : wtL (ss.take (i + 1)) = wtL (ss.take i) ++ s.wt := by rw [List.take_add_one, h, wtL_app]; show _ ++ (s.wt ++ []) = _; rw [List.append_nil]
end
theorem lastL_app {ys : List Int} : ∀ xs : List Int, lastL (xs ++ ys) = lastL ys ++ (lastL xs).filter (fun x => decide (x ∉ lastL ys))
  | [] => by show lastL ys = lastL ys ++ []; rw [List.append_nil]
  | x :: xs => by
    rw [List.cons_append, lastL_cons, lastL_cons, lastL_app xs]
    by_cases h1 : x ∈ lastL xs
    · rw [addL_in h1]
      by_cases h2 : x ∈ lastL ys
      · exact addL_in (List.mem_append_left _ h2)
      · exact addL_in (List.mem_append_right _ (List.mem_filter.mpr ⟨h1, decide_eq_true h2⟩))
    · rw [addL_out h1, List.filter_append]
      by_cases h2 : x ∈ lastL ys
      · rw [addL_in (List.mem_append_left _ h2), List.filter_cons_of_neg (by simpa using h2), List.filter_nil, List.append_nil]
      · rw [addL_out (fun z => (List.mem_append.mp z).elim h2 fun z => h1 (List.mem_filter.mp z).1), List.filter_cons_of_pos (p := fun x => decide (x ∉ lastL ys)) (decide_eq_true h2), List.filter_nil, List.append_assoc]
theorem lastL_self (xs : List Int) : lastL (xs ++ xs) = lastL xs := by
  rw [lastL_app, List.filter_eq_nil_iff.mpr, List.append_nil]
  intro a ha
  simpa using ha
mutual
theorem S.wt_sh : ∀ (s : S), lastL s.wt = lastL s.sh
  | .k x => rfl
  | .r c ss => by
    unfold S.wt S.sh
    by_cases hc : 0 < c
    · rw [if_pos hc]
      by_cases h1 : c = 1
      · rw [h1, show (min 2 (1 : Int)).toNat = 1 from rfl]
        show _ = lastL (shL ss ++ [])
        rw [List.append_nil]
        exact wt_shL ss
      · rw [show (min 2 c).toNat = 2 by omega]
        show _ = lastL (shL ss ++ (shL ss ++ []))
        rw [List.append_nil, lastL_self]
        exact wt_shL ss
    · rw [if_neg hc, show (min 2 c).toNat = 0 by omega]; rfl
theorem wt_shL : ∀ (ss : List S), lastL (wtL ss) = lastL (shL ss)
  | [] => rfl
  | s :: ss => by
    show lastL (s.wt ++ wtL ss) = lastL (s.sh ++ shL ss)
    rw [lastL_app, lastL_app, S.wt_sh s, wt_shL ss]
end
mutual
theorem S.wt_mem {ks : List Int} {x : Int} : ∀ {s : S}, s.inK ks → x ∈ s.wt → x ∈ ks
  | .k y, i, h => by rw [List.mem_singleton.mp h]; exact i
  | .r c ss, i, h => by
    unfold S.wt at h
    split at h
    · exact wtL_mem i.2.2.2 h
    · cases h
theorem wtL_mem {ks : List Int} {x : Int} : ∀ {ss : List S}, inKL ks ss → x ∈ wtL ss → x ∈ ks
  | [], _, h => by cases h
  | s :: ss, i, h => (List.mem_append.mp h).elim (S.wt_mem i.1) (wtL_mem i.2)
end
mutual
theorem S.wt_len : ∀ (s : S), s.wt.length ≤ s.wr
  | .k _ => Nat.le_refl _
  | .r c ss => by
    unfold S.wt
    have := wtL_len ss
    show _ ≤ 1 + wrL ss
    split
    · omega
    · exact Nat.zero_le _
theorem wtL_len : ∀ (ss : List S), (wtL ss).length ≤ wrL ss
  | [] => Nat.le_refl _
  | s :: ss => by
    have := S.wt_len s
    have := wtL_len ss
    show (s.wt ++ wtL ss).length ≤ s.wr + wrL ss
    rw [List.length_append]; omega
end
mutual
theorem S.sh_len : ∀ (s : S) {n : Nat}, s.dLe n → s.sh.length ≤ 2 ^ n * s.wr
  | .k _, n, _ => by show 1 ≤ 2 ^ n * 1; have := Nat.one_le_two_pow (n := n); omega
  | .r c ss, 0, d => d.elim
  | .r c ss, n + 1, d => by
    have h := shL_len ss (n := n) d
    show (List.replicate (min 2 c).toNat (shL ss)).flatten.length ≤ 2 ^ (n + 1) * (1 + wrL ss)
    rw [List.length_flatten, List.map_replicate, List.sum_replicate_nat, Nat.pow_succ, Nat.mul_add]
    have h2 : (min 2 c).toNat ≤ 2 := by omega
    have h3 : (min 2 c).toNat * (shL ss).length ≤ 2 * (2 ^ n * wrL ss) := Nat.mul_le_mul h2 h
    have : 2 ^ n * 2 * wrL ss = 2 * (2 ^ n * wrL ss) := by rw [Nat.mul_comm (2 ^ n) 2, Nat.mul_assoc]
    omega
theorem shL_len : ∀ (ss : List S) {n : Nat}, dLeL ss n → (shL ss).length ≤ 2 ^ n * wrL ss
  | [], _, _ => Nat.zero_le _
  | s :: ss, n, d => by
    have := S.sh_len s d.1
    have := shL_len ss d.2
    show (s.sh ++ shL ss).length ≤ 2 ^ n * (s.wr + wrL ss)
    rw [List.length_append, Nat.mul_add]; omega
end
mutual
theorem S.len_bd {ks : List Int} : ∀ (s : S) {n : Nat}, s.inK ks → s.dLe n → 0 ≤ s.len ∧ s.len ≤ costB n
  | .k _, n, _, _ => by show (0 : Int) ≤ 1 ∧ (1 : Int) ≤ _; have := costB_pos n; omega
  | .r c ss, 0, _, d => d.elim
  | .r c ss, n + 1, i, d => by
    obtain ⟨h0, h1⟩ := lenL_bd ss (n := n) i.2.2.2 d
    have cp := costB_pos n
    have lb : (ss.length : Int) * costB n ≤ 100 * costB n := Int.mul_le_mul_of_nonneg_right (by have := i.2.2.1; omega) (by omega)
    have hx : c * lenL ss ≤ 1000000000000000000000000000000 * lenL ss := Int.mul_le_mul_of_nonneg_right i.2.1 h0
    refine ⟨Int.mul_nonneg i.1 h0, ?_⟩
    rw [costB_succ]
    show c * lenL ss ≤ _
    omega
theorem lenL_bd {ks : List Int} : ∀ (ss : List S) {n : Nat}, inKL ks ss → dLeL ss n → 0 ≤ lenL ss ∧ lenL ss ≤ ss.length * costB n
  | [], n, _, _ => by show (0 : Int) ≤ 0 ∧ (0 : Int) ≤ 0 * _; rw [Int.zero_mul]; exact ⟨Int.le_refl _, Int.le_refl _⟩
  | s :: ss, n, i, d => by
    obtain ⟨a0, a1⟩ := S.len_bd s i.1 d.1
    obtain ⟨b0, b1⟩ := lenL_bd ss i.2 d.2
    refine ⟨Int.add_nonneg a0 b0, ?_⟩
    rw [List.length_cons, Int.natCast_add, Int.add_mul]
    show s.len + lenL ss ≤ _ + 1 * costB n
    omega
end
theorem inKL_take {ks : List Int} : ∀ {ss : List S}, inKL ks ss → ∀ i, inKL ks (ss.take i)
  | [], _, i => by rw [List.take_nil]; trivial
  | _ :: _, _, 0 => trivial
  | _ :: _, h, i + 1 => ⟨h.1, inKL_take h.2 i⟩
theorem wr_sum : ∀ ss : List S, (ss.map fun s => ((s.wr : Nat) : Int)).sum = ((wrL ss : Nat) : Int)
  | [] => rfl
  | s :: ss => by
    rw [List.map_cons, List.sum_cons, wr_sum ss]
    show ((s.wr : Nat) : Int) + ((wrL ss : Nat) : Int) = ((s.wr + wrL ss : Nat) : Int)
    omega
theorem len_sum : ∀ ss : List S, (ss.map S.len).sum = lenL ss
  | [] => rfl
  | s :: ss => by rw [List.map_cons, List.sum_cons, len_sum ss]; rfl
/-! ### promises -/
theorem dup1_not {ks : List Int} {d : Int} (h : Dup1 ks d) : ¬ ks.Nodup := by
  obtain ⟨i, h1, h2, _⟩ := h
  intro nd
  obtain ⟨j, hj, e⟩ := List.getElem_of_mem h2
  rw [List.length_take] at hj
  rw [List.getElem_take] at e
  have hi := (List.getElem?_eq_some_iff.mp h1)
  obtain ⟨hi, e2⟩ := hi
  have := (List.getElem_inj nd).mp (e.trans e2.symm)
  omega
def SeqS (K : PySem.W.Frag) (H : Hp) (b : Addr) (ss : List S) : Prop := ∃ vs, Sq K H b vs ∧ HL H ss vs
theorem SeqS.same {K : PySem.W.Frag} {H H' : Hp} {b : Addr} {ss : List S} (h : SeqS K H b ss) (e : Same H H') : SeqS K H' b ss := by
  obtain ⟨vs, h1, h2⟩ := h
  exact ⟨vs, h1.same e, HL.same e ss h2⟩
theorem seqS_inner {K : PySem.W.Frag} {H : Hp} {c : Int} {ss : List S} {v : V} (h : HS H (.r c ss) v) : ∃ a b, v = .ref a ∧ H a = some (.tup [.str "repeat", .int c, .ref b]) ∧ SeqS K H b ss := by
  obtain ⟨a, b, vs, h1, h2, h3, h4⟩ := h
  exact ⟨a, b, h1, h2, vs, h3.elim (fun z => .inl (SqL.of z)) (fun z => .inr (SqT.of z)), h4⟩
def spLenG (K : PySem.W.Frag) (n : Nat) : Sp := fun us H Q _ => ∃ (b : Addr) (ss : List S) (ks : List Int), us = [.ref b] ∧ SeqS K H b ss ∧ inKL ks ss ∧ ss.length ≤ 100 ∧ dLeL ss n ∧ n ≤ 4 ∧ ∀ H', Same H H' → Q (.int (lenL ss)) H'
def spPrevLen (K : PySem.W.Frag) : Nat → Sp
  | 0 => fun _ _ _ _ => False
  | n + 1 => spLenG K n
def spWrG (K : PySem.W.Frag) (n : Nat) : Sp := fun us H Q _ => ∃ (b : Addr) (ss : List S) (ks : List Int), us = [.ref b] ∧ SeqS K H b ss ∧ inKL ks ss ∧ ss.length ≤ 100 ∧ dLeL ss n ∧ ∀ H', Same H H' → Q (.int (wrL ss : Nat)) H'
def spPrevWr (K : PySem.W.Frag) : Nat → Sp
  | 0 => fun _ _ _ _ => False
  | n + 1 => spWrG K n
def spShG (K : PySem.W.Frag) (n : Nat) : Sp := fun us H Q _ => ∃ (b : Addr) (ss : List S), us = [.ref b] ∧ SeqS K H b ss ∧ okL ss ∧ wrL ss ≤ 100 ∧ dLeL ss n ∧ n ≤ 4 ∧ ∀ p H', Same H H' → H p = none → H' p = some (.lst ((shL ss).map V.int)) → Q (.ref p) H'
def spPrevSh (K : PySem.W.Frag) : Nat → Sp
  | 0 => fun _ _ _ _ => False
  | n + 1 => spShG K n
def spWtG (K : PySem.W.Frag) (n : Nat) : Sp := fun us H Q _ => ∃ (b : Addr) (ss : List S), us = [.ref b] ∧ SeqS K H b ss ∧ wrL ss ≤ 100 ∧ dLeL ss n ∧ ∀ p H', Same H H' → H p = none → H' p = some (.lst ((wtL ss).map V.int)) → Q (.ref p) H'
def spPrevWt (K : PySem.W.Frag) : Nat → Sp
  | 0 => fun _ _ _ _ => False
  | n + 1 => spWtG K n
def spStepN (n : Nat) : Sp := fun us H Q _ => ∃ (d a : Addr) (ks : List Int) (c : Addr) (ns : List Int), us = [.ref d, .ref a, .int (n : Nat)] ∧ H a = some (.lst (ks.map V.int)) ∧ 0 < ks.length ∧ ks.length ≤ 1000 ∧ a ≠ d ∧ Drw c ns H d ∧
  ∀ s v H', s.dLe n → s.inK ks → Ext d H H' → Drw c ns H' d → HS (nwD H none H') s v → Q v H'
def spPrevSt : Nat → Sp
  | 0 => fun _ _ _ _ => False
  | n + 1 => spStepN n
def spHist : Sp := fun us H Q _ => ∃ (d a : Addr) (ks : List Int) (most n : Nat) (c : Addr) (ns : List Int), us = [.ref d, .ref a, .int (most : Nat), .int (n : Nat)] ∧ H a = some (.lst (ks.map V.int)) ∧ 0 < ks.length ∧ ks.length ≤ 1000 ∧ most ≤ 20 ∧ n ≤ 4 ∧ a ≠ d ∧ Drw c ns H d ∧
  ∀ ss vs p H', ss.length ≤ most → dLeL ss n → inKL ks ss → Ext d H H' → Drw c ns H' d → H p = none → H' p = some (.lst vs) → HL H' ss vs → Q (.ref p) H'
def spCount (K : PySem.W.Frag) : Sp := fun us H Q _ => ∃ (b : Addr) (ss : List S) (ks : List Int), us = [.ref b] ∧ SeqS K H b ss ∧ inKL ks ss ∧ okL ss ∧ dLeL ss 4 ∧ wrL ss ≤ 100 ∧ ∀ H', Same H H' → Q (.int (lenL ss)) H'
def spLastT (K : PySem.W.Frag) : Sp := fun us H Q _ => ∃ (b : Addr) (ss : List S), us = [.ref b] ∧ SeqS K H b ss ∧ okL ss ∧ dLeL ss 4 ∧ wrL ss ≤ 100 ∧ ∀ p H', Same H H' → H p = none → H' p = some (.lst ((lastL (wtL ss)).map V.int)) → Q (.ref p) H'
def spTouched (K : PySem.W.Frag) : Sp := fun us H Q _ => ∃ (b : Addr) (ss : List S), us = [.ref b] ∧ SeqS K H b ss ∧ okL ss ∧ dLeL ss 4 ∧ wrL ss ≤ 100 ∧ (lastL (wtL ss)).length < 64 ∧ ∀ (zs : List Int) p H', zs.Perm (lastL (wtL ss)) → zs.Pairwise (· ≤ ·) → Same H H' → H p = none → H' p = some (.lst (zs.map V.int)) → Q (.ref p) H'
def spTop (K : PySem.W.Frag) (C1 : Addr) : Sp := fun us H Q E => ∃ (b : Addr) (ss : List S), us = [.ref b] ∧ SeqS K H b ss ∧ okL ss ∧ dLeL ss 4 ∧ wrL ss ≤ 100 ∧ (∀ x ∈ wtL ss, -1000000000 ≤ x ∧ x ≤ 1000000000) ∧
  (40 < (lastL (wtL ss)).length → EOw C1 "TooManyKeys" "limit" 40 H E) ∧ ((lastL (wtL ss)).length ≤ 40 → ∀ p H', Same H H' → H' p = some (.tup ((insAll (lastL (wtL ss)) leaf).pre.map V.int)) → Q (.ref p) H')
def spLastB (K : PySem.W.Frag) : Sp := fun vs H Q _ => ∃ (a : Addr) (xs : List Int), vs = [.ref a] ∧ SqL K H a (xs.map V.int) ∧ xs.length ≤ 2000 ∧
  ∀ p H', Same H H' → H p = none → H' p = some (.lst ((lastL xs).map V.int)) → Q (.ref p) H'
theorem len_sub : ∀ {l ks : List Int}, l.Nodup → (∀ x ∈ l, x ∈ ks) → l.length ≤ ks.length
  | [], _, _, _ => Nat.zero_le _
  | x :: l, ks, nd, h => by
    have nd' := List.nodup_cons.mp nd
    have hx := h x List.mem_cons_self
    have ih := len_sub (l := l) (ks := ks.erase x) nd'.2 fun y hy => (List.mem_erase_of_ne (show y ≠ x from fun z => nd'.1 (by rw [← z]; exact hy))).mpr (h y (List.mem_cons_of_mem _ hy))
    have := List.length_erase_of_mem hx
    have := List.length_pos_of_mem hx
    rw [List.length_cons]
    omega
theorem lastL_rev : ∀ {xs : List Int}, xs.Nodup → lastL xs = xs.reverse
  | [], _ => rfl
  | x :: xs, nd => by
    have nd' := List.nodup_cons.mp nd
    rw [lastL_cons, lastL_rev nd'.2, addL_out (fun z => nd'.1 (List.mem_reverse.mp z)), List.reverse_cons]
theorem wtL_keys : ∀ {xs : List Int}, wtL (xs.map S.k) = xs
  | [] => rfl
  | x :: xs => by show [x] ++ wtL (xs.map S.k) = _; rw [wtL_keys]; rfl
theorem lc_fn {n : Nat} {g : TG} {te : TE} {vs : List Nat} {σ : L2.St} {H1 : Hp} {D : Addr} {Qd : Hp → Prop} (f : Nat → Int) (nD : H1 D = none) (hn : n ≤ 1000)
    (hs : ∀ (j : Nat) H2 (Y : VK), j < n → Same H1 H2 → (∀ H3, Same H2 H3 → Y (.int (f j)) H3) → g (.int (0 + j)) (wipe σ vs) H2 fun σ2 H3 => wipe σ2 vs = wipe σ vs ∧ te σ2 H3 Y)
    (hd : ∀ H2, Same H1 H2 → H2 D = some (.lst (((List.range n).map f).map V.int)) → Qd H2) :
    ∃ W : Nat → Nat → Hp → Prop, (∃ m, W 0 m (upd H1 D (.lst []))) ∧ ∀ i m H, W i m H →
      ((Itr 0 n).stop i H ∧ Qd H) ∨ ((Itr 0 n).go i H ∧ ∃ Nx : Hp → Prop, (∀ H', Nx H' → ∃ m', m' < m ∧ W (i + 1) m' H') ∧ ∀ x H', (Itr 0 n).yld i H x H' → g x (wipe σ vs) H' fun σ2 H2 => wipe σ2 vs = wipe σ vs ∧ tYes σ2 H2 fun b H3 =>
        if b = true then te σ2 H3 fun y H4 => ∃ acc, H4 D = some (.lst acc) ∧ acc.length < sizeLine ∧ Nx (upd H4 D (.lst (acc ++ [y]))) else Nx H3) := by
  refine lc_range (lo := 0) (tt := tYes) (fun i H5 => Same H1 H5 ∧ H5 D = some (.lst (((List.range i).map f).map V.int))) ⟨same_new nD, upd_same⟩ ?_ ?_
  · rintro i H5 hi ⟨e5, hD5⟩
    refine hs i H5 _ hi e5 fun H3 e3 => ⟨_, e3 _ _ hD5, szl (by rw [List.length_map, List.length_map, List.length_range]; omega), Same.put (e5.trans e3) nD, ?_⟩
    rw [upd_same, List.range_succ, List.map_append, List.map_append]; rfl
  · rintro H5 ⟨e5, hD5⟩
    exact hd H5 e5 hD5
end TT
/-! spared keys -/
namespace TT
open PySem PySem.Spec PyProof.Rows L2 HotX LamX T
def cutN (ks : List Int) (a b : Nat) : List Int := (ks.drop (min a ks.length)).take (min b ks.length - min a ks.length)
theorem cut_nn (ks : List Int) (a b : Nat) : cutV (ks.map V.int) (some (a : Int)) (some (b : Int)) = (cutN ks a b).map V.int := by
  unfold cutV cutN
  rw [HT.sIx_nat, HT.sIx_nat, List.length_map, List.map_take, List.map_drop]
theorem mem_cut {l : List Int} {s m : Nat} {y : Int} : y ∈ (l.drop s).take m ↔ ∃ j, s ≤ j ∧ j < s + m ∧ l[j]? = some y := by
  constructor
  · intro h
    obtain ⟨j, hj⟩ := List.getElem?_of_mem h
    rw [List.getElem?_take] at hj
    split at hj
    · rw [List.getElem?_drop] at hj
      exact ⟨s + j, by omega, by omega, hj⟩
    · cases hj
  · rintro ⟨j, h1, h2, h3⟩
    refine List.mem_of_getElem? (i := j - s) ?_
    rw [List.getElem?_take, if_pos (by omega), List.getElem?_drop, show s + (j - s) = j by omega]
    exact h3
theorem mem_cutN {ks : List Int} {a b : Nat} {y : Int} : y ∈ cutN ks a b ↔ ∃ j, a ≤ j ∧ j < b ∧ ks[j]? = some y := by
  unfold cutN
  rw [mem_cut]
  constructor
  · rintro ⟨j, h1, h2, h3⟩
    have := (List.getElem?_eq_some_iff.mp h3).1
    exact ⟨j, by omega, by omega, h3⟩
  · rintro ⟨j, h1, h2, h3⟩
    have := (List.getElem?_eq_some_iff.mp h3).1
    exact ⟨j, by omega, by omega, h3⟩
theorem cutN_len {ks : List Int} {a b : Nat} : (cutN ks a b).length ≤ ks.length := by
  unfold cutN
  rw [List.length_take, List.length_drop]
  omega
theorem cutN_two {ks : List Int} {i : Nat} : (cutN ks (i - 1) i).length + (cutN ks (i + 1) (i + 2)).length ≤ 2 := by
  unfold cutN
  rw [List.length_take, List.length_take]
  omega
/-- the key x at i is spared -/
def spar (lt ks : List Int) (i : Nat) (x : Int) : Bool := (cutN ks (i - 1) (i + 2)).all (fun y => decide (y ∈ lt)) && (((insAll lt leaf).lc x).isNone && ((insAll lt leaf).rc x).isNone)
def sparU (lt ks : List Int) (i : Nat) : List Int := ((List.range i).filter fun j => match ks[j]? with | some x => spar lt ks j x | none => false).map fun j => ks.getD j 0
def spared (lt ks : List Int) : List Int := sparU lt ks ks.length
theorem sparU_yes {lt ks : List Int} {i : Nat} {x : Int} (h : ks[i]? = some x) (y : spar lt ks i x = true) : sparU lt ks (i + 1) = sparU lt ks i ++ [x] := by
  unfold sparU
  rw [List.range_succ, List.filter_append, List.map_append, List.filter_cons, List.filter_nil]
  simp only [h, y, if_true]
  simp [h]
theorem sparU_no {lt ks : List Int} {i : Nat} {x : Int} (h : ks[i]? = some x) (y : spar lt ks i x = false) : sparU lt ks (i + 1) = sparU lt ks i := by
  unfold sparU
  rw [List.range_succ, List.filter_append, List.map_append, List.filter_cons, List.filter_nil]
  simp only [h, y]
  simp
theorem sparU_len {lt ks : List Int} {i : Nat} : (sparU lt ks i).length ≤ i := by
  unfold sparU
  rw [List.length_map]
  exact Nat.le_trans (List.length_filter_le _ _) (by rw [List.length_range]; exact Nat.le_refl _)
/-- the same, asked of the neighbours and of the key apart -/
theorem spar_iff {lt ks : List Int} {i : Nat} {x : Int} (h : ks[i]? = some x) : spar lt ks i x = true ↔ (x ∈ lt ∧ (insAll lt leaf).lc x = none ∧ (insAll lt leaf).rc x = none) ∧ ∀ y ∈ cutN ks (i - 1) i ++ cutN ks (i + 1) (i + 2), y ∈ lt := by
  unfold spar
  rw [Bool.and_eq_true, Bool.and_eq_true, List.all_eq_true, Option.isNone_iff_eq_none, Option.isNone_iff_eq_none]
  constructor
  · rintro ⟨a, b, c⟩
    have a' : ∀ y ∈ cutN ks (i - 1) (i + 2), y ∈ lt := fun y hy => of_decide_eq_true (a y hy)
    refine ⟨⟨a' x (mem_cutN.mpr ⟨i, by omega, by omega, h⟩), b, c⟩, fun y hy => ?_⟩
    rcases List.mem_append.mp hy with hy | hy
    · obtain ⟨j, h1, h2, h3⟩ := mem_cutN.mp hy
      exact a' y (mem_cutN.mpr ⟨j, h1, by omega, h3⟩)
    · obtain ⟨j, h1, h2, h3⟩ := mem_cutN.mp hy
      exact a' y (mem_cutN.mpr ⟨j, by omega, h2, h3⟩)
  · rintro ⟨⟨a, b, c⟩, d⟩
    refine ⟨fun y hy => decide_eq_true ?_, b, c⟩
    obtain ⟨j, h1, h2, h3⟩ := mem_cutN.mp hy
    rcases Nat.lt_trichotomy j i with l | l | l
    · exact d y (List.mem_append.mpr (.inl (mem_cutN.mpr ⟨j, h1, l, h3⟩)))
    · rw [l, h] at h3
      cases h3
      exact a
    · exact d y (List.mem_append.mpr (.inr (mem_cutN.mpr ⟨j, l, h2, h3⟩)))
theorem rd_kids {K : PySem.W.Frag} {H : Hp} {p e : Addr} {a b : Option Int} {Q : VK} (hp : H p = some (.tup [oV a, oV b])) (he : H e = some (.tup [.non, .non])) (q : Q (.bl (a.isNone && b.isNone)) H) : rEqD K (.ref p) (.ref e) H Q := by
  have de : Dp K H (.ref e) (.tuple [.none, .none]) := .tup (SqT.of he) (.cons .non (.cons .non .nil))
  cases a <;> cases b
  · exact ⟨_, _, .tup (SqT.of hp) (.cons .non (.cons .non .nil)), de, by rfl, by rfl, q⟩
  · exact ⟨_, _, .tup (SqT.of hp) (.cons .non (.cons (.int _) .nil)), de, by simp [SeqAt.shaped, PyData.canLay0, PyData.canLayAll0, PyData.depth, PyData.depthAll], by rfl, q⟩
  · exact ⟨_, _, .tup (SqT.of hp) (.cons (.int _) (.cons .non .nil)), de, by simp [SeqAt.shaped, PyData.canLay0, PyData.canLayAll0, PyData.depth, PyData.depthAll], by rfl, q⟩
  · exact ⟨_, _, .tup (SqT.of hp) (.cons (.int _) (.cons (.int _) .nil)), de, by simp [SeqAt.shaped, PyData.canLay0, PyData.canLayAll0, PyData.depth, PyData.depthAll], by rfl, q⟩
theorem all_bl {lt xs : List Int} : (xs.map fun y => decide (y ∈ lt)).all id = xs.all fun y => decide (y ∈ lt) := by
  rw [List.all_map]; rfl
theorem inV_dec {y : Int} {lt : List Int} : inV (V.int y) (lt.map V.int) = decide (y ∈ lt) := by rw [Bool.eq_iff_iff, inV_int, decide_eq_true_iff]
theorem all_in {cut lt : List Int} : ((cut.filter fun _ => true).map fun y => V.bl (inV (V.int y) (lt.map V.int))) = (cut.map fun y => decide (y ∈ lt)).map V.bl := by
  rw [List.filter_eq_self.mpr fun _ _ => rfl, List.map_map]
  refine List.map_congr_left fun y _ => ?_
  show V.bl _ = V.bl _
  rw [inV_dec]
theorem rd_slL {K : PySem.W.Frag} {H : Hp} {a : Addr} {xs : List V} {lo hi : Option Int} {Q : VK} (hS : SqL K H a xs) (q : ∀ nr H5, Same H H5 → SqL K H5 nr (cutV xs lo hi) → Q (.ref nr) H5) : rSlL K (.ref a) lo hi H Q := ⟨a, xs, rfl, hS, fun p np => q p _ (same_new np) (SqL.of upd_same)⟩
theorem rd_slH {K : PySem.W.Frag} {H : Hp} {a : Addr} {xs : List V} {lo hi : Option Int} {Q : VK} (hS : SqL K H a xs) (q : ∀ nr H5, Same H H5 → H5 nr = some (.lst (cutV xs lo hi)) → Q (.ref nr) H5) : rSlL K (.ref a) lo hi H Q := ⟨a, xs, rfl, hS, fun p np => q p _ (same_new np) upd_same⟩
theorem rd_slN {K : PySem.W.Frag} {H : Hp} {a : Addr} {xs : List V} {lo hi : Option Int} {Q : VK} (hS : SqL K H a xs) (q : ∀ nr H5, H nr = none → Same H H5 → H5 nr = some (.lst (cutV xs lo hi)) → Q (.ref nr) H5) : rSlL K (.ref a) lo hi H Q := ⟨a, xs, rfl, hS, fun p np => q p _ np (same_new np) upd_same⟩
theorem rd_slAT {K : PySem.W.Frag} {H : Hp} {a : Addr} {xs : List V} {lo hi : Option Int} {Q : VK} (hS : SqT K H a xs) (q : ∀ nr H5, Same H H5 → SqT K H5 nr (cutV xs lo hi) → Q (.ref nr) H5) : rSlA K (.ref a) lo hi H Q := by
  refine ⟨a, xs, rfl, hS, fun w => q a H (.refl _) ?_, fun _ p np => q p _ (same_new np) (SqT.of upd_same)⟩
  unfold cutV
  rw [w.1, w.2, List.drop_zero, Nat.sub_zero, List.take_of_length_le (Nat.le_refl _)]
  exact hS
theorem rd_leaf {K : PySem.W.Frag} {H : Hp} {σ : L2.St} {m L R U p : Addr} {t : T} {n : Nat} {lt : List Int} {x : Int} {Q : VK} (h5 : σ[5]? = some (some (.int x))) (h2 : σ[2]? = some (some (.ref p))) (h3 : σ[3]? = some (some (.ref m))) (hp : H p = some (.lst (lt.map V.int))) (hT : TrAt H m L R U t n)
    (q : ∀ c, (c = true ↔ x ∈ lt ∧ t.lc x = none ∧ t.rc x = none) → Q (.bl c) H) :
    tAndV (tOp (rIn K false) (tVar 5) (tVar 2)) (tAndV (tDNotIn (tVar 5) (tDGet (tVar 3) (tC (.str "left")))) (tDNotIn (tVar 5) (tDGet (tVar 3) (tC (.str "right"))))) σ H Q := by
  obtain ⟨lk, l1, l2⟩ := hT.l
  obtain ⟨rk, r1, r2⟩ := hT.r
  refine ⟨.int x, h5, .ref p, h2, p, _, rfl, .inl (SqL.of hp), rfl, flat_ints _, _, rfl, ?_⟩
  show if inV (V.int x) (lt.map V.int) = true then _ else _
  by_cases hx : x ∈ lt
  · refine iteTd ((inV_int _ _).mpr hx) ⟨.int x, h5, .ref m, h3, m, .ref L, rfl, dg_s "left" hT.hm nod_left, L, _, rfl, dg_in l1 l2, _, rfl, ?_⟩
    cases hl : t.lc x with
    | none =>
      refine iteTd rfl ⟨.int x, h5, .ref m, h3, m, .ref R, rfl, dg_s "right" hT.hm nod_right, R, _, rfl, dg_in r1 r2, ?_⟩
      refine q _ ?_
      cases hr : t.rc x with
      | none => exact ⟨fun _ => ⟨hx, hl, rfl⟩, fun _ => rfl⟩
      | some y => exact ⟨fun h => (by cases h), fun h => (by cases h.2.2)⟩
    | some y => exact iteFd rfl (q _ ⟨fun h => (by cases h), fun h => by rw [hl] at h; cases h.2.1⟩)
  · exact iteFd (Bool.eq_false_iff.mpr fun z => hx ((inV_int _ _).mp z)) (q _ ⟨fun h => (by cases h), fun h => absurd h.1 hx⟩)
theorem HL.take {H : Hp} : ∀ {ss : List S} {vs : List V} (n : Nat), HL H ss vs → HL H (ss.take n) (vs.take n)
  | [], _, n, h => by rw [show _ = [] from h, List.take_nil, List.take_nil]; rfl
  | s :: ss, vs, 0, h => by rw [List.take_zero, List.take_zero]; rfl
  | s :: ss, _, n + 1, ⟨v, ws, h1, h2, h3⟩ => by rw [h1]; exact ⟨v, ws.take n, rfl, h2, HL.take n h3⟩
theorem dLeL_ap {m : Nat} : ∀ {ss ts : List S}, dLeL ss m → dLeL ts m → dLeL (ss ++ ts) m
  | [], _, _, h => h
  | s :: ss, _, h, g => ⟨h.1, dLeL_ap h.2 g⟩
theorem inKL_ap {ks : List Int} : ∀ {ss ts : List S}, inKL ks ss → inKL ks ts → inKL ks (ss ++ ts)
  | [], _, _, h => h
  | s :: ss, _, h, g => ⟨h.1, inKL_ap h.2 g⟩
theorem inKL_ks {ks : List Int} : ∀ {xs : List Int}, (∀ x ∈ xs, x ∈ ks) → inKL ks (xs.map S.k)
  | [], _ => trivial
  | x :: xs, h => ⟨h x List.mem_cons_self, inKL_ks fun y hy => h y (List.mem_cons_of_mem _ hy)⟩
theorem ints_of {ks : List Int} : ∀ {ys : List V}, (∀ y ∈ ys, y ∈ ks.map V.int) → ∃ zs : List Int, ys = zs.map V.int ∧ ∀ z ∈ zs, z ∈ ks
  | [], _ => ⟨[], rfl, fun _ h => by cases h⟩
  | y :: ys, h => by
    obtain ⟨zs, e, hz⟩ := ints_of fun z hz => h z (List.mem_cons_of_mem _ hz)
    obtain ⟨x, hx, rfl⟩ := List.mem_map.mp (h y List.mem_cons_self)
    exact ⟨x :: zs, by rw [e]; rfl, fun z hz' => (List.mem_cons.mp hz').elim (fun e => e ▸ hx) (hz z)⟩
theorem EqvS.ints {H : Hp} {n : Nat} : ∀ (ns : List Int), EqvS H n (ns.map V.int) (ns.map V.int)
  | [] => .nil
  | x :: ns => .cons (eqv_flat rfl) (EqvS.ints ns)
theorem eqv_intsL {H : Hp} {n : Nat} {a b : Addr} {ns : List Int} (ha : H a = some (.lst (ns.map V.int))) (hb : H b = some (.lst (ns.map V.int))) (hl : ns.length ≤ 1000) : Eqv H (n + 1) (.ref a) (.ref b) := eqv_lst ha hb (by rw [List.length_map]; exact hl) (EqvS.ints ns)
theorem eqv_intsT {H : Hp} {n : Nat} {a b : Addr} {ns : List Int} (ha : H a = some (.tup (ns.map V.int))) (hb : H b = some (.tup (ns.map V.int))) (hl : ns.length ≤ 1000) : Eqv H (n + 1) (.ref a) (.ref b) := eqv_tup ha hb (by rw [List.length_map]; exact hl) (EqvS.ints ns)
theorem spd1 : spared (lastL [5, 4, 6]) [4, 5, 6] = [5] := by decide +kernel
theorem spd2 : spared (lastL [3]) [3] = [3] := by decide +kernel
theorem spd3 : spared (lastL [3]) [2, 3] = [] := by decide +kernel
theorem spd4 : (insAll (lastL [2, 3]) leaf).pre.filter (fun x => !decide (x ∈ spared (lastL [2, 3]) [2, 3])) = [3] := by decide +kernel
/-! ### promises -/
def spBoundsP (K : PySem.W.Frag) : Sp := fun vs H Q _ => ∃ (a : Addr) (key : Int) (t : T), vs = [.ref a, .int key] ∧ SqT K H a (t.pre.map V.int) ∧ t.bst ∧ t.pre.length ≤ 1000 ∧ key ∈ t.pre ∧
  ∀ p lo hi H', NearL (t.path key) key lo → NearH (t.path key) key hi → Same H H' → H' p = some (.tup [oV lo, oV hi]) → Q (.ref p) H'
def spSubP (K : PySem.W.Frag) : Sp := fun vs H Q _ => ∃ (a : Addr) (key : Int) (t : T), vs = [.ref a, .int key] ∧ SqT K H a (t.pre.map V.int) ∧ t.bst ∧ t.pre.length ≤ 1000 ∧ key ∈ t.pre ∧
  ∀ p H', Same H H' → H' p = some (.tup ((t.at key).pre.map V.int)) → Q (.ref p) H'
def spChildP (K : PySem.W.Frag) : Sp := fun vs H Q _ => ∃ (a : Addr) (key : Int) (t : T), vs = [.ref a, .int key] ∧ SqT K H a (t.pre.map V.int) ∧ t.bst ∧ t.pre.length ≤ 1000 ∧ key ∈ t.pre ∧
  ∀ p H', Same H H' → H' p = some (.tup [oV (t.lc key), oV (t.rc key)]) → Q (.ref p) H'
def spRecent (K : PySem.W.Frag) : Sp := fun us H Q _ => ∃ (b a : Addr) (ss : List S) (ks : List Int), us = [.ref b, .ref a] ∧ SeqS K H b ss ∧ Sq K H a (ks.map V.int) ∧ inKL ks ss ∧ okL ss ∧ dLeL ss 4 ∧ wrL ss ≤ 100 ∧ (lastL (wtL ss)).length < 45 ∧
  ∀ p H', Same H H' → H p = none → H' p = some (.lst ((lastL (wtL ss)).map V.int)) → Q (.ref p) H'
def spSparedA (K : PySem.W.Frag) : Sp := fun us H Q _ => ∃ (r a : Addr) (lt ks : List Int), us = [.ref r, .ref a] ∧ SqL K H r (lt.map V.int) ∧ Sq K H a (ks.map V.int) ∧ lt.Nodup ∧ lt.length < 45 ∧ ks.length ≤ 1000 ∧
  ∀ p H', Same H H' → H p = none → H' p = some (.lst ((spared lt ks).map V.int)) → Q (.ref p) H'
def spSparedK (K : PySem.W.Frag) : Sp := fun us H Q _ => ∃ (b a : Addr) (ss : List S) (ks : List Int), us = [.ref b, .ref a] ∧ SeqS K H b ss ∧ Sq K H a (ks.map V.int) ∧ inKL ks ss ∧ okL ss ∧ dLeL ss 4 ∧ wrL ss ≤ 100 ∧ (lastL (wtL ss)).length < 45 ∧ ks.length ≤ 1000 ∧
  ∀ p H', Same H H' → H p = none → H' p = some (.lst ((spared (lastL (wtL ss)) ks).map V.int)) → Q (.ref p) H'
def coreL (lt ks : List Int) : List Int := (insAll lt leaf).pre.filter fun x => !decide (x ∈ spared lt ks)
def spCoreK (K : PySem.W.Frag) : Sp := fun us H Q _ => ∃ (b a : Addr) (ss : List S) (ks : List Int), us = [.ref b, .ref a] ∧ SeqS K H b ss ∧ Sq K H a (ks.map V.int) ∧ inKL ks ss ∧ okL ss ∧ dLeL ss 4 ∧ wrL ss ≤ 100 ∧ (lastL (wtL ss)).length < 45 ∧ ks.length ≤ 1000 ∧
  ∀ p H', Same H H' → H p = none → H' p = some (.tup ((coreL (lastL (wtL ss)) ks).map V.int)) → Q (.ref p) H'
def spSparedL (K : PySem.W.Frag) : Sp := fun us H Q _ => ∃ (b a : Addr) (ss : List S) (ks : List Int), us = [.ref b, .ref a] ∧ SeqS K H b ss ∧ SqL K H a (ks.map V.int) ∧ ks.Nodup ∧ inKL ks ss ∧ okL ss ∧ dLeL ss 4 ∧ wrL ss ≤ 100 ∧ (lastL (wtL ss)).length < 45 ∧ ks.length ≤ 1000 ∧
  ∀ p H', Same H H' → H p = none → H' p = some (.lst ((spared (lastL (wtL ss)) ks).map V.int)) → Q (.ref p) H'
end TT
/-! effects of histories: what grow answers of any list, and what touches leave behind -/
namespace TT
open PySem PySem.Spec PyProof.Rows L2 HotX LamX T
def grL : List Int → List Int
  | [] => []
  | x :: r => topL x (grL r)
theorem grL_filter {lo hi : Option Int} : ∀ ks : List Int, (grL ks).filter (fun y => okLo lo y && okHi hi y) = grL (ks.filter fun y => okLo lo y && okHi hi y)
  | [] => rfl
  | x :: r => by
    cases h : (okLo lo x && okHi hi x) with
    | true =>
      rw [List.filter_cons_of_pos (p := fun y => okLo lo y && okHi hi y) h]
      show (topL x (grL r)).filter _ = topL x (grL (r.filter _))
      rw [topL_in (p := fun y => okLo lo y && okHi hi y) h, grL_filter r]
    | false =>
      rw [List.filter_cons_of_neg (p := fun y => okLo lo y && okHi hi y) (by rw [h]; exact Bool.false_ne_true)]
      show (topL x (grL r)).filter _ = _
      rw [topL_out h, grL_filter r]
theorem okHi_lt {x y : Int} : (okLo none y && okHi (some x) y) = decide (y < x) := by
  show (true && decide (y < x)) = _
  rw [Bool.true_and]
theorem okLo_lt {x y : Int} : (okLo (some x) y && okHi none y) = decide (x < y) := by
  show (decide (x < y) && true) = _
  rw [Bool.and_true]
theorem grL_cons {x : Int} {r : List Int} : grL (x :: r) = x :: (grL (r.filter fun y => decide (y < x)) ++ grL (r.filter fun y => decide (x < y))) := by
  show topL x (grL r) = _
  unfold topL
  rw [grL_filter, grL_filter]
  simp only [okHi_lt, okLo_lt]
theorem grL_len : ∀ ks : List Int, (grL ks).length ≤ ks.length
  | [] => Nat.le_refl _
  | x :: r => by
    have h := grL_len r
    have := topL_len (x := x) (ks := grL r)
    show (topL x (grL r)).length ≤ r.length + 1
    omega
theorem grL_mem {y : Int} : ∀ {ks : List Int}, y ∈ grL ks ↔ y ∈ ks
  | [] => Iff.rfl
  | x :: r => by
    show y ∈ topL x (grL r) ↔ _
    rw [mem_topL, grL_mem, List.mem_cons]
theorem grL_app {ks : List Int} : ∀ ys : List Int, grL (ys ++ ks) = ys.foldr topL (grL ks)
  | [] => rfl
  | y :: ys => by show topL y (grL (ys ++ ks)) = topL y _; rw [grL_app ys]
theorem grL_pre : ∀ {t : T}, t.bst → grL t.pre = t.pre
  | leaf, _ => rfl
  | node l x r, b => by
    have h1 : ∀ y ∈ l.pre, y < x := b.1
    have h2 : ∀ y ∈ r.pre, x < y := b.2.1
    show grL (x :: (l.pre ++ r.pre)) = x :: (l.pre ++ r.pre)
    rw [grL_cons, List.filter_append, List.filter_append, List.filter_eq_self.mpr (fun y hy => decide_eq_true (h1 y hy)), List.filter_eq_self.mpr (fun y hy => decide_eq_true (h2 y hy)),
      List.filter_eq_nil_iff.mpr (fun y hy => by have := h2 y hy; simp; omega), List.filter_eq_nil_iff.mpr (fun y hy => by have := h1 y hy; simp; omega), List.append_nil, List.nil_append, grL_pre b.2.2.1, grL_pre b.2.2.2]
theorem tchs_gr {t : T} (b : t.bst) : ∀ ys : List Int, (t.tchs ys.reverse).pre = ys.foldr topL t.pre
  | [] => rfl
  | y :: ys => by rw [List.reverse_cons, tchs_snoc, tch_pre (tchs_bst b), tchs_gr b ys]; rfl
/-- the shape behind touches -/
theorem after_gr {t : T} {xs : List Int} (b : t.bst) (h : ∀ x ∈ xs, x ∈ t.pre) : (t.tchs xs).pre = grL (lastL xs ++ t.pre) := by
  rw [← tchs_last b h, tchs_gr b, grL_app, grL_pre b]
theorem ins_gr : ∀ (n : Nat) {ks : List Int}, ks.length < n → ks.Nodup → (insAll ks leaf).pre = grL ks
  | 0, _, h, _ => absurd h (Nat.not_lt_zero _)
  | n + 1, [], _, _ => rfl
  | n + 1, x :: l, h, nd => by
    have nd' := List.nodup_cons.mp nd
    have hl : l.length < n := by rw [List.length_cons] at h; omega
    rw [grow_cons nd'.1, grL_cons, List.filter_cons_of_neg (by simp), List.filter_cons_of_neg (by simp), ins_gr n (Nat.lt_of_le_of_lt (List.length_filter_le _ _) hl) (nd'.2.filter _), ins_gr n (Nat.lt_of_le_of_lt (List.length_filter_le _ _) hl) (nd'.2.filter _)]
/-! ### no key is misplaced: a shape -/
theorem Pat.of_idx {l : List Int} {i j : Nat} {u v : Int} (h1 : l[i]? = some u) (h2 : l[j]? = some v) (hij : i < j) (c : u < v) : Pat l u := by
  refine ⟨j, v, h2, ?_, c⟩
  refine List.mem_of_getElem? (i := i) ?_
  rw [List.getElem?_take, if_pos hij]; exact h1
theorem Pat.idx {l : List Int} {u : Int} (h : Pat l u) : ∃ (i j : Nat) (v : Int), l[i]? = some u ∧ l[j]? = some v ∧ i < j ∧ u < v := by
  obtain ⟨j, v, a, b, c⟩ := h
  obtain ⟨i, hi⟩ := List.getElem?_of_mem b
  rw [List.getElem?_take] at hi
  split at hi
  · exact ⟨i, j, v, hi, a, by assumption, c⟩
  · cases hi
/-- by places: no key twice, none below one that stands before a greater one -/
def NoBad (ks : List Int) : Prop := (∀ (i k : Nat) (x : Int), i < k → ks[i]? = some x → ks[k]? ≠ some x) ∧ ∀ (i j k : Nat) (u v w : Int), i < j → j < k → ks[i]? = some u → ks[j]? = some v → ks[k]? = some w → u < v → ¬ w < u
theorem mis_iff {ks : List Int} : MisAt ks none ↔ NoBad ks := by
  constructor
  · intro h
    refine ⟨fun i k x l a b => h k x b (.inl ?_), fun i j k u v w l1 l2 a b c lt z => h k w c (.inr ⟨u, Pat.of_idx (i := i) (j := j) ?_ ?_ l1 lt, z⟩)⟩
    · refine List.mem_of_getElem? (i := i) ?_
      rw [List.getElem?_take, if_pos l]; exact a
    · rw [List.getElem?_take, if_pos (by omega)]; exact a
    · rw [List.getElem?_take, if_pos l2]; exact b
  · rintro ⟨h1, h2⟩ k x hk (hb | ⟨u, hp, c⟩)
    · obtain ⟨i, hi⟩ := List.getElem?_of_mem hb
      rw [List.getElem?_take] at hi
      split at hi
      · exact h1 i k x (by assumption) hi hk
      · cases hi
    · obtain ⟨i, j, v, a, b, l, lt⟩ := hp.idx
      rw [List.getElem?_take] at a b
      split at b
      · rw [if_pos (by omega)] at a
        exact h2 i j k u v x l (by assumption) a b hk lt c
      · cases b
theorem NoBad.take {ks : List Int} (h : NoBad ks) (n : Nat) : NoBad (ks.take n) := by
  have g : ∀ {i : Nat} {x : Int}, (ks.take n)[i]? = some x → ks[i]? = some x := fun {i x} a => by
    rw [List.getElem?_take] at a
    split at a
    · exact a
    · cases a
  exact ⟨fun i k x l a b => h.1 i k x l (g a) (g b), fun i j k u v w l1 l2 a b c => h.2 i j k u v w l1 l2 (g a) (g b) (g c)⟩
theorem NoBad.drop {ks : List Int} (h : NoBad ks) (n : Nat) : NoBad (ks.drop n) := by
  have g : ∀ {i : Nat} {x : Int}, (ks.drop n)[i]? = some x → ks[n + i]? = some x := fun {i x} a => by rw [List.getElem?_drop] at a; exact a
  exact ⟨fun i k x l a b => h.1 _ _ x (by omega) (g a) (g b), fun i j k u v w l1 l2 a b c => h.2 _ _ _ u v w (by omega) (by omega) (g a) (g b) (g c)⟩
theorem noBad_shape : ∀ (n : Nat) {ks : List Int}, ks.length ≤ n → NoBad ks → ∃ t : T, t.bst ∧ t.pre = ks
  | _, [], _, _ => ⟨leaf, trivial, rfl⟩
  | 0, x :: r, h, _ => by rw [List.length_cons] at h; omega
  | n + 1, x :: r, h, nb => by
    rw [List.length_cons] at h
    have e : r.takeWhile (fun y => decide (y < x)) ++ r.dropWhile (fun y => decide (y < x)) = r := List.takeWhile_append_dropWhile
    generalize hA : r.takeWhile (fun y => decide (y < x)) = A at e
    generalize hB : r.dropWhile (fun y => decide (y < x)) = B at e
    have hlt : ∀ y ∈ A, y < x := fun y hy => by
      have := List.all_takeWhile (l := r) (p := fun y => decide (y < x))
      rw [hA] at this
      exact of_decide_eq_true (List.all_eq_true.mp this y hy)
    have lA : A.length + B.length = r.length := by rw [← e, List.length_append]
    have nbr : NoBad r := by have := nb.drop 1; exact this
    have nA : NoBad A := by have := nbr.take A.length; rwa [← e, List.take_left'] at this; rfl
    have nB : NoBad B := by have := nbr.drop A.length; rwa [← e, List.drop_left'] at this; rfl
    have xr : x ∉ r := fun hx => by
      obtain ⟨i, hi⟩ := List.getElem?_of_mem hx
      exact nb.1 0 (i + 1) x (Nat.succ_pos _) rfl hi
    have hgt : ∀ y ∈ B, x < y := by
      cases hBB : B with
      | nil => intro y hy; cases hy
      | cons b B' =>
        have hb : ¬ b < x := fun z => by
          have hd := List.head?_dropWhile_not (fun y => decide (y < x)) r
          rw [hB, hBB] at hd
          simp at hd
          omega
        have hbr : b ∈ r := by rw [← e, hBB]; exact List.mem_append.mpr (.inr List.mem_cons_self)
        have hbx : x < b := by
          have : b ≠ x := fun z => xr (z ▸ hbr)
          omega
        intro y hy
        rcases List.mem_cons.mp hy with rfl | hy
        · exact hbx
        · obtain ⟨i, hi⟩ := List.getElem?_of_mem hy
          have g1 : (x :: r)[A.length + 1]? = some b := by rw [List.getElem?_cons_succ, ← e, hBB, List.getElem?_append_right (Nat.le_refl _), Nat.sub_self]; rfl
          have g2 : (x :: r)[A.length + 1 + (i + 1)]? = some y := by
            rw [show A.length + 1 + (i + 1) = (A.length + (i + 1)) + 1 by omega, List.getElem?_cons_succ, ← e, hBB, List.getElem?_append_right (by omega), show A.length + (i + 1) - A.length = i + 1 by omega, List.getElem?_cons_succ]; exact hi
          have ny := nb.2 0 (A.length + 1) (A.length + 1 + (i + 1)) x b y (by omega) (by omega) rfl g1 g2 hbx
          have : y ≠ x := fun z => nb.1 0 (A.length + 1 + (i + 1)) x (by omega) rfl (z ▸ g2)
          omega
    obtain ⟨l, bl, pl⟩ := noBad_shape n (ks := A) (by omega) nA
    obtain ⟨rr, br, pr⟩ := noBad_shape n (ks := B) (by omega) nB
    exact ⟨node l x rr, ⟨by rw [pl]; exact hlt, by rw [pr]; exact hgt, bl, br⟩, by show x :: (l.pre ++ rr.pre) = _; rw [pl, pr, e]⟩
theorem at_lr {l r : List Int} {i : Nat} {x : Int} (h : (l ++ r)[i]? = some x) : (i < l.length ∧ l[i]? = some x) ∨ (l.length ≤ i ∧ r[i - l.length]? = some x) := by
  rcases Nat.lt_or_ge i l.length with c | c
  · exact .inl ⟨c, by rw [List.getElem?_append_left c] at h; exact h⟩
  · exact .inr ⟨c, by rw [List.getElem?_append_right c] at h; exact h⟩
theorem shape_pat : ∀ {t : T}, t.bst → ∀ (i j k : Nat) (u v w : Int), i < j → j < k → t.pre[i]? = some u → t.pre[j]? = some v → t.pre[k]? = some w → u < v → ¬ w < u
  | leaf, _, i, j, k, u, v, w, _, _, a, _, _, _ => by cases a
  | node l x r, b, i, j, k, u, v, w, l1, l2, ha, hb, hc, lt => by
    obtain ⟨b1, b2, b3, b4⟩ := id b
    obtain ⟨j', rfl⟩ : ∃ j', j = j' + 1 := ⟨j - 1, by omega⟩
    obtain ⟨k', rfl⟩ : ∃ k', k = k' + 1 := ⟨k - 1, by omega⟩
    have hb : (l.pre ++ r.pre)[j']? = some v := hb
    have hc : (l.pre ++ r.pre)[k']? = some w := hc
    rcases at_lr hc with ⟨c1, c2⟩ | ⟨c1, c2⟩
    · cases i with
      | zero =>
        have e : x = u := Option.some.inj ha
        rcases at_lr hb with ⟨d1, d2⟩ | ⟨d1, d2⟩
        · have := b1 v (List.mem_of_getElem? d2); omega
        · omega
      | succ i' =>
        have ha : (l.pre ++ r.pre)[i']? = some u := ha
        rw [List.getElem?_append_left (by omega)] at ha hb
        exact shape_pat b3 i' j' k' u v w (by omega) (by omega) ha hb c2 lt
    · have hw := b2 w (List.mem_of_getElem? c2)
      cases i with
      | zero =>
        have e : x = u := Option.some.inj ha
        omega
      | succ i' =>
        have ha : (l.pre ++ r.pre)[i']? = some u := ha
        rcases at_lr ha with ⟨d1, d2⟩ | ⟨d1, d2⟩
        · have := b1 u (List.mem_of_getElem? d2); omega
        · rw [List.getElem?_append_right (by omega)] at hb
          exact shape_pat b4 (i' - l.pre.length) (j' - l.pre.length) (k' - l.pre.length) u v w (by omega) (by omega) d2 hb c2 lt
theorem shape_noBad {t : T} (b : t.bst) : NoBad t.pre := by
  refine ⟨fun i k x l h1 h2 => ?_, shape_pat b⟩
  obtain ⟨a1, a2⟩ := List.getElem?_eq_some_iff.mp h1
  obtain ⟨c1, c2⟩ := List.getElem?_eq_some_iff.mp h2
  exact List.pairwise_iff_getElem.mp (nodup_pre b) i k a1 c1 l (a2.trans c2.symm)
/-- no key is misplaced where the tree of the row has the row as its preorder -/
theorem mis_gr {ks : List Int} : MisAt ks none ↔ grL ks = ks := by
  rw [mis_iff]
  constructor
  · intro h
    obtain ⟨t, b, e⟩ := noBad_shape _ (Nat.le_refl _) h
    rw [← e, grL_pre b]
  · intro h
    have b : (leaf.tchs ks.reverse).bst := tchs_bst (t := leaf) trivial
    have e := tchs_gr (t := leaf) trivial ks
    have : grL ks = ks.foldr topL [] := by have := grL_app (ks := []) ks; rwa [List.append_nil] at this
    have e' : (leaf.tchs ks.reverse).pre = ks := e.trans (this.symm.trans h)
    have nb := shape_noBad b
    rwa [e'] at nb
theorem mis_ins {ks : List Int} (nd : ks.Nodup) : MisAt ks none ↔ (insAll ks leaf).pre = ks := by rw [mis_gr, ins_gr _ (Nat.lt_succ_self _) nd]
/-! ### promises -/
def spGrowD (K : PySem.W.Frag) (n : Nat) : Sp := fun vs H Q _ => ∃ (a : Addr) (ks U : List Int), vs = [.ref a] ∧ Sq K H a (ks.map V.int) ∧ (∀ x ∈ ks, x ∈ U) ∧ U.length < n ∧ ks.length ≤ 1000 ∧
  ∀ p H', Same H H' → H' p = some (.tup ((grL ks).map V.int)) → Q (.ref p) H'
def spAfter (K : PySem.W.Frag) : Sp := fun us H Q _ => ∃ (a r : Addr) (ks lt U : List Int), us = [.ref a, .ref r] ∧ SqT K H a (ks.map V.int) ∧ H r = some (.lst (lt.map V.int)) ∧ (∀ x ∈ lt ++ ks, x ∈ U) ∧ U.length < 45 ∧ (lt ++ ks).length ≤ 1000 ∧
  ∀ p H', Same H H' → H' p = some (.tup ((grL (lt ++ ks)).map V.int)) → Q (.ref p) H'
def spIsOver (K : PySem.W.Frag) : Sp := fun us H Q _ => ∃ (a b : Addr) (rs ks : List Int), us = [.ref a, .ref b] ∧ SqT K H a (rs.map V.int) ∧ Sq K H b (ks.map V.int) ∧ rs.length < 64 ∧ ks.Pairwise (· < ·) ∧
  ∀ c H', Same H H' → (c = true ↔ rs.Perm ks ∧ grL rs = rs) → Q (.bl c) H'
def spIsAbL (K : PySem.W.Frag) : Sp := fun us H Q _ => ∃ (a : Addr) (x y : Int) (t : T), us = [.ref a, .int x, .int y] ∧ SqT K H a (t.pre.map V.int) ∧ t.bst ∧ t.pre.length ≤ 58 ∧ y ∈ t.pre ∧
  ∀ H', Same H H' → Q (.bl (t.abv x y)) H'
def spRecentX (K : PySem.W.Frag) (C : Addr) : Sp := fun us H Q E => ∃ (b a : Addr) (ss : List S) (ks : List Int), us = [.ref b, .ref a] ∧ SeqS K H b ss ∧ Sq K H a (ks.map V.int) ∧ okL ss ∧ dLeL ss 4 ∧ wrL ss ≤ 100 ∧ (lastL (wtL ss)).length < 60 ∧ (∀ x ∈ wtL ss, x.natAbs.log2 < 1920) ∧
  ((∀ x ∈ wtL ss, x ∈ ks) → ∀ p H', Same H H' → H p = none → H' p = some (.lst ((lastL (wtL ss)).map V.int)) → Q (.ref p) H') ∧
  (∀ x, x ∈ wtL ss → x ∉ ks → (∀ y ∈ wtL ss, y ∉ ks → x ≤ y) → ENo C x H E)
theorem rd_slAH {K : PySem.W.Frag} {H : Hp} {a : Addr} {xs : List V} {lo hi : Option Int} {Q : VK} (hS : H a = some (.tup xs)) (q : ∀ nr H5, Same H H5 → H5 nr = some (.tup (cutV xs lo hi)) → Q (.ref nr) H5) : rSlA K (.ref a) lo hi H Q := by
  refine ⟨a, xs, rfl, SqT.of hS, fun w => q a H (.refl _) ?_, fun _ p np => q p _ (same_new np) upd_same⟩
  unfold cutV
  rw [w.1, w.2, List.drop_zero, Nat.sub_zero, List.take_of_length_le (Nat.le_refl _)]
  exact hS
theorem tup_ne {c d z : Addr} {ms : List Int} {H : Hp} {xs : List V} (hD : Drw c ms H d) (h : H z = some (.tup xs)) : z ≠ d := fun e => by
  obtain ⟨_, _, _, h1, _⟩ := hD
  rw [e, h1] at h
  cases h
theorem rd_and3 {K : PySem.W.Frag} {H : Hp} {σ : L2.St} {p : Addr} {u v : Int} {gd : Bool} {ks : List Int} {Q : VK} (h9 : σ[9]? = some (some (.bl gd))) (h7 : σ[7]? = some (some (.int u))) (h8 : σ[8]? = some (some (.int v))) (h3 : σ[3]? = some (some (.ref p))) (hp : H p = some (.lst (ks.map V.int)))
    (q : ∀ c, (c = true ↔ gd = true ∧ u ∈ ks ∧ v ∈ ks) → Q (.bl c) H) : tAndV (tVar 9) (tAndV (tOp (rIn K false) (tVar 7) (tVar 3)) (tOp (rIn K false) (tVar 8) (tVar 3))) σ H Q := by
  refine ⟨.bl gd, h9, gd, rfl, ?_⟩
  cases gd with
  | false => exact iteFd rfl (q _ ⟨fun h => (by cases h), fun h => (by cases h.1)⟩)
  | true =>
    refine iteTd rfl ⟨.int u, h7, .ref p, h3, p, _, rfl, .inl (SqL.of hp), rfl, flat_ints _, _, rfl, ?_⟩
    show if inV (V.int u) (ks.map V.int) = true then _ else _
    by_cases hu : u ∈ ks
    · refine iteTd ((inV_int _ _).mpr hu) ⟨.int v, h8, .ref p, h3, p, _, rfl, .inl (SqL.of hp), rfl, flat_ints _, ?_⟩
      refine q _ ?_
      show inV (V.int v) (ks.map V.int) = true ↔ _
      rw [inV_int]
      exact ⟨fun h => ⟨rfl, hu, h⟩, fun h => h.2.2⟩
    · exact iteFd (Bool.eq_false_iff.mpr fun z => hu ((inV_int _ _).mp z)) (q _ ⟨fun h => (by cases h), fun h => absurd h.2.1 hu⟩)
theorem lc_two {K : PySem.W.Frag} {H1 : Hp} {q q1 q2 D : Addr} {b1 b2 : Bool} {g : TG} {te : TE} {vs : List Nat} {σ : L2.St} {Qd : Hp → Prop} (hq : SqL K H1 q [.ref q1, .ref q2]) (nD : H1 D = none)
    (h1 : ∀ H2 (Y : VK), Same H1 H2 → (∀ H3, Same H2 H3 → Y (.bl b1) H3) → g (.ref q1) (wipe σ vs) H2 fun σ2 H3 => wipe σ2 vs = wipe σ vs ∧ te σ2 H3 Y)
    (h2 : ∀ H2 (Y : VK), Same H1 H2 → (∀ H3, Same H2 H3 → Y (.bl b2) H3) → g (.ref q2) (wipe σ vs) H2 fun σ2 H3 => wipe σ2 vs = wipe σ vs ∧ te σ2 H3 Y)
    (hd : ∀ H2, Same H1 H2 → H2 D = some (.lst [.bl b1, .bl b2]) → Qd H2) :
    ∃ W : Nat → Nat → Hp → Prop, (∃ m, W 0 m (upd H1 D (.lst []))) ∧ ∀ i m H, W i m H →
      ((Itl K q).stop i H ∧ Qd H) ∨ ((Itl K q).go i H ∧ ∃ Nx : Hp → Prop, (∀ H', Nx H' → ∃ m', m' < m ∧ W (i + 1) m' H') ∧ ∀ x H', (Itl K q).yld i H x H' → g x (wipe σ vs) H' fun σ2 H2 => wipe σ2 vs = wipe σ vs ∧ tYes σ2 H2 fun b H3 =>
        if b = true then te σ2 H3 fun y H4 => ∃ acc, H4 D = some (.lst acc) ∧ acc.length < sizeLine ∧ Nx (upd H4 D (.lst (acc ++ [y]))) else Nx H3) := by
  refine lc_list (xs := [.ref q1, .ref q2]) (tt := tYes) (fun i H2 => Same H1 H2 ∧ H2 D = some (.lst ([V.bl b1, V.bl b2].take i))) ⟨same_new nD, upd_same⟩ (fun i H2 _ ⟨h, _⟩ => Same.seq h hq) ?_ ?_
  · rintro i v H2 hv ⟨e2, hD⟩
    match i, hv, hD with
    | 0, hv, hD =>
      cases hv
      exact h1 H2 _ e2 fun H3 e3 => ⟨_, e3 _ _ hD, szl (by show 0 < 100000; decide), Same.put (e2.trans e3) nD, upd_same⟩
    | 1, hv, hD =>
      cases hv
      exact h2 H2 _ e2 fun H3 e3 => ⟨_, e3 _ _ hD, szl (by show 1 < 100000; decide), Same.put (e2.trans e3) nD, upd_same⟩
    | i + 2, hv, _ => cases hv
  · rintro H2 ⟨e2, hD⟩
    exact hd H2 e2 hD
theorem LamAt.lst {X : Cx} {H : Hp} {f o : Addr} {ar : Arguments} {bd : Expr} {sc : Scope} {b : Bool} {xs ys : List V} (h : LamAt X H f ar bd sc b) (hl : H o = some (.lst xs)) : LamAt X (upd H o (.lst ys)) f ar bd sc b := by
  have e : ∀ b w, H b = some w → (∀ zs, w ≠ .lst zs) → upd H o (.lst ys) b = some w := fun b w hb hn => by
    rw [upd_ne (fun z => by rw [z, hl] at hb; exact hn _ (Option.some.inj hb).symm)]; exact hb
  obtain ⟨c', pm, dv, tv, h1, h2, h3⟩ := h
  exact ⟨c', pm, dv, tv, e _ _ h1 (fun _ z => by cases z), h2.ext fun a o u z => e _ _ z (fun _ q => by cases q), e _ _ h3 (fun _ z => by unfold CodeO at z; cases z)⟩
theorem okL_ap : ∀ {ss ts : List S}, okL ss → okL ts → okL (ss ++ ts)
  | [], _, _, h => h
  | s :: ss, _, h, g => ⟨h.1, okL_ap h.2 g⟩
theorem wtL_ap {ts : List S} : ∀ ss : List S, wtL (ss ++ ts) = wtL ss ++ wtL ts
  | [] => rfl
  | s :: ss => by show s.wt ++ wtL (ss ++ ts) = (s.wt ++ wtL ss) ++ wtL ts; rw [wtL_ap ss, List.append_assoc]
theorem last_small {ws U : List Int} (h : ∀ x ∈ ws, x ∈ U) (hU : U.length < 60) : (lastL ws).length < 60 := Nat.lt_of_le_of_lt (len_sub lastL_nodup fun x hx => h x (mem_lastL.mp hx)) hU
mutual
theorem HS.extN {H H' : Hp} (e : LamX.ExtN H H') : ∀ (s : S) {v : V}, HS H s v → HS H' s v
  | .k n, _, h => h
  | .r c ss, _, ⟨a, b, vs, h1, h2, h3, h4⟩ => ⟨a, b, vs, h1, e _ _ h2 (fun _ z => by cases z), h3.imp (fun h => e _ _ h (fun _ z => by cases z)) (fun h => e _ _ h (fun _ z => by cases z)), HL.extN e ss h4⟩
theorem HL.extN {H H' : Hp} (e : LamX.ExtN H H') : ∀ (ss : List S) {vs : List V}, HL H ss vs → HL H' ss vs
  | [], _, h => h
  | s :: ss, _, ⟨v, ws, h1, h2, h3⟩ => ⟨v, ws, h1, HS.extN e s h2, HL.extN e ss h3⟩
end
theorem wrL_flat : ∀ {ss : List S}, dLeL ss 0 → wrL ss = ss.length
  | [], _ => rfl
  | .k _ :: ss, h => by show 1 + wrL ss = ss.length + 1; rw [wrL_flat h.2]; omega
  | .r _ _ :: _, h => h.1.elim
theorem wrL_one {ks : List Int} : ∀ {ss : List S}, dLeL ss 1 → inKL ks ss → wrL ss ≤ 7 * ss.length
  | [], _, _ => Nat.le_refl _
  | .k _ :: ss, h, i => by
    have := wrL_one h.2 i.2
    show 1 + wrL ss ≤ 7 * (ss.length + 1)
    omega
  | .r _ cs :: ss, h, i => by
    have h1 := wrL_one h.2 i.2
    have h2 := wrL_flat (ss := cs) h.1
    have h3 : cs.length ≤ 6 := i.1.2.2.1
    show 1 + wrL cs + wrL ss ≤ 7 * (ss.length + 1)
    omega
def spAboveX (K : PySem.W.Frag) : Sp := fun vs H Q _ => ∃ (a : Addr) (x y : Int) (t : T), vs = [.ref a, .int x, .int y] ∧ SqT K H a (t.pre.map V.int) ∧ t.bst ∧ t.pre.length ≤ 1000 ∧ x ∈ t.pre ∧ y ∈ t.pre ∧ x.natAbs.log2 < 1920 ∧ y.natAbs.log2 < 1920 ∧ ∀ H', Same H H' → Q (.bl (t.abv x y)) H'
/-- the least key of a history that is not there -/
def Least (ws ks : List Int) (x : Int) : Prop := x ∈ ws ∧ x ∉ ks ∧ ∀ y ∈ ws, y ∉ ks → x ≤ y
def spDiffX (K : PySem.W.Frag) (C : Addr) : Sp := fun us H Q E => ∃ (o1 o2 kk pp row : Addr) (s1 s2 : List S) (ks rs : List Int) (u v : Int), us = [.ref o1, .ref o2, .ref kk, .ref pp] ∧ SeqS K H o1 s1 ∧ SeqS K H o2 s2 ∧ Sq K H kk (ks.map V.int) ∧ H pp = some (.tup [.ref row, .int u, .int v]) ∧ SqT K H row (rs.map V.int) ∧
  rs.length < 45 ∧ ks.length < 45 ∧ ks.Pairwise (· < ·) ∧ (∀ x ∈ ks, x.natAbs.log2 < 1920) ∧ okL s1 ∧ okL s2 ∧ dLeL s1 4 ∧ dLeL s2 4 ∧ wrL s1 ≤ 100 ∧ wrL s2 ≤ 100 ∧ (lastL (wtL s1)).length < 60 ∧ (lastL (wtL s2)).length < 60 ∧ (∀ x ∈ wtL s1, x.natAbs.log2 < 1920) ∧ (∀ x ∈ wtL s2, x.natAbs.log2 < 1920) ∧
  (∀ x, Least (wtL s1) ks x → ENo C x H E) ∧ ((∀ x ∈ wtL s1, x ∈ ks) → ∀ x, Least (wtL s2) ks x → ENo C x H E) ∧
  ((∀ x ∈ wtL s1, x ∈ ks) → (∀ x ∈ wtL s2, x ∈ ks) → ∀ c H', Same H H' → (¬ (rs.Perm ks ∧ grL rs = rs ∧ u ∈ ks ∧ v ∈ ks) → c = false) → (rs.Perm ks → u ∈ ks → v ∈ ks → ∀ t : T, t.bst → t.pre = rs → c = ((t.tchs (wtL s1)).abv u v != (t.tchs (wtL s2)).abv u v)) → Q (.bl c) H')
end TT
/-! sets of ints: what ^ leaves -/
namespace TT
open PySem PySem.Spec PyProof.Rows L2
/-- the masks of tables of up to 63 members -/
def Msk (m : Nat) : Prop := m = 7 ∨ m = 15 ∨ m = 31 ∨ m = 63 ∨ m = 127
def orbOk (n : Nat) : Bool := ((List.range (n + 1)).all fun j => (List.range (n + 1)).any fun b => decide (lcgN n b = j)) && decide (lcgN n (n + 1) = 0)
theorem orb_15 : orbOk 15 = true := by decide +kernel
theorem orb_63 : orbOk 63 = true := by decide +kernel
theorem orb_mem {n : Nat} (h : orbOk n = true) : (∀ j, j ≤ n → ∃ b, b ≤ n ∧ lcgN n b = j) ∧ lcgN n (n + 1) = 0 := by
  obtain ⟨h1, h2⟩ := Bool.and_eq_true_iff.mp h
  refine ⟨fun j hj => ?_, of_decide_eq_true h2⟩
  obtain ⟨b, hb, e⟩ := List.any_eq_true.mp (List.all_eq_true.mp h1 j (List.mem_range.mpr (by omega)))
  exact ⟨b, by have := List.mem_range.mp hb; omega, of_decide_eq_true e⟩
theorem orb {m : Nat} (hm : Msk m) : (∀ j, j ≤ m → ∃ b, b ≤ m ∧ lcgN m b = j) ∧ lcgN m (m + 1) = 0 := by
  have old : MaskOk m → (∀ j, j ≤ m → ∃ b, b ≤ m ∧ lcgN m b = j) ∧ lcgN m (m + 1) = 0 := fun q => ⟨fun j hj => lcg_all q hj, lcg_round q⟩
  rcases hm with e | e | e | e | e
  · exact old (.inl e)
  · rw [e]; exact orb_mem orb_15
  · exact old (.inr (.inl e))
  · rw [e]; exact orb_mem orb_63
  · exact old (.inr (.inr e))
theorem slot_met {m : Nat} (hm : Msk m) (h : Int) {j : Nat} (hj : j ≤ m) : ∃ n, n ≤ m + 12 ∧ runI m (SetTable.bits h) n = j := by
  obtain ⟨o1, o2⟩ := orb hm
  obtain ⟨a, ha, ea⟩ := o1 _ (runI_le m (SetTable.bits h) 12)
  obtain ⟨b, hb, eb⟩ := o1 j hj
  have per : lcgN m (m + 1 + b) = lcgN m b := by
    have z1 := lcgN_add m (m + 1) b
    have z2 := lcgN_add m 0 b
    rw [o2] at z1
    rw [Nat.zero_add] at z2
    exact z1.symm.trans z2
  have fin : ∀ k, k ≤ m → (lcgN m (a + k) = lcgN m b) → ∃ n, n ≤ m + 12 ∧ runI m (SetTable.bits h) n = j := fun k hk e => by
    refine ⟨12 + k, by omega, ?_⟩
    rw [runI_tail (bits_lt h) k, ← ea, lcgN_add, e, eb]
  by_cases c : a ≤ b
  · exact fin (b - a) (by omega) (by rw [show a + (b - a) = b by omega])
  · exact fin (m + 1 + b - a) (by omega) (by rw [show a + (m + 1 + b - a) = m + 1 + b by omega]; exact per)
theorem hole_met {m : Nat} (hm : Msk m) (own : Array (Option Nat)) (h : Int) {j : Nat} (hj : j ≤ m) (hf : oAt own j = none) :
    ∃ i, SetTable.layClean.free m own (SetTable.turns m) (SetTable.bits h % (m + 1)) (SetTable.bits h) = some i ∧ oAt own i = none ∧ i ≤ m := by
  obtain ⟨n, hn, e⟩ := slot_met hm h hj
  generalize eb : SetTable.bits h = b at *
  have at_n : (nth m (runAt m (b % (m + 1)) b) (off m (b % (m + 1)) b n)).j = j := by
    rw [nth_off, itL_run]; exact e
  obtain ⟨c, c1, c2, c3⟩ := st_least (p := fun k => oAt own (nth m (runAt m (b % (m + 1)) b) k).j = none) (off m (b % (m + 1)) b n) (by
    show oAt own (nth m (runAt m (b % (m + 1)) b) (off m (b % (m + 1)) b n)).j = none
    rw [at_n]; exact hf)
  have c2' : oAt own (nth m (runAt m (b % (m + 1)) b) c).j = none := c2
  refine ⟨(nth m (runAt m (b % (m + 1)) b) c).j, free_spec m own _ n _ _ c (by unfold SetTable.turns; omega) c1 (fun k hk => ?_) (by rw [c2'] <;> rfl), c2', ?_⟩
  · have q := c3 k hk
    revert q
    show (oAt own (nth m (runAt m (b % (m + 1)) b) k).j = none → False) → _
    cases oAt own (nth m (runAt m (b % (m + 1)) b) k).j with
    | none => exact fun q => (q rfl).elim
    | some _ => exact fun _ => rfl
  · have hb := runEnd_bd (m := m) (i := b % (m + 1)) (Nat.le_of_lt_succ (Nat.mod_lt _ (Nat.succ_pos _)))
    have z := nth_in (m := m) c (runAt m (b % (m + 1)) b) (by
      show b % (m + 1) + (SetTable.runEnd m (b % (m + 1)) - b % (m + 1)) ≤ m
      omega)
    omega
/-- n have been laid -/
structure Sits (m n : Nat) (own : Array (Option Nat)) : Prop where
  len : own.size = m + 1
  has : ∀ k, k < n → ∃ j, j ≤ m ∧ oAt own j = some k
  few : ∃ ps : List Nat, ps.length = n ∧ ∀ j, j ≤ m → oAt own j ≠ none → j ∈ ps
theorem Sits.none (m : Nat) : Sits m 0 (Array.replicate (m + 1) Option.none) :=
  ⟨by simp, fun k hk => by omega, [], rfl, fun j hj e => (e (oAt_init hj)).elim⟩
theorem Sits.more {m n : Nat} {own : Array (Option Nat)} (hm : Msk m) (W : Sits m n own) (hn : n ≤ m) (h : Int) :
    ∃ j, SetTable.layClean.free m own (SetTable.turns m) (SetTable.bits h % (m + 1)) (SetTable.bits h) = some j ∧ Sits m (n + 1) (own.setIfInBounds j (some n)) := by
  obtain ⟨ps, p1, p2⟩ := W.few
  obtain ⟨j0, j1, j2⟩ := st_missing ps (m + 1) (by omega)
  have free0 : oAt own j0 = .none := by
    cases z : oAt own j0 with
    | none => rfl
    | some k => exact (j2 (p2 j0 (by omega) (by rw [z]; exact fun q => nomatch q))).elim
  obtain ⟨i, e1, e2, e3⟩ := hole_met hm own h (by omega) free0
  have here := oAt_set_self (some n) (show i < own.size by rw [W.len]; omega)
  refine ⟨i, e1, by rw [Array.size_setIfInBounds]; exact W.len, fun k hk => ?_, i :: ps, by rw [List.length_cons, p1], fun j hj q => ?_⟩
  · by_cases c : k = n
    · rw [c]; exact ⟨i, e3, here⟩
    · obtain ⟨j, a1, a2⟩ := W.has k (by omega)
      refine ⟨j, a1, ?_⟩
      rw [oAt_set_ne _ (fun z => by rw [z, e2] at a2; cases a2)]
      exact a2
  · by_cases c : j = i
    · rw [c]; exact List.mem_cons_self
    · rw [oAt_set_ne _ c] at q
      exact List.mem_cons_of_mem _ (p2 j hj q)
theorem lay_all {m : Nat} (hm : Msk m) : ∀ (hs : List Int) (n : Nat) (own : Array (Option Nat)), Sits m n own → n + hs.length ≤ m → ∃ o, hs.foldl (stepF m) (some (own, n)) = some (o, n + hs.length) ∧ Sits m (n + hs.length) o
  | [], n, own, W, _ => ⟨own, rfl, W⟩
  | h :: hs, n, own, W, hl => by
    rw [List.length_cons] at hl ⊢
    obtain ⟨j, e, W2⟩ := W.more hm (by omega) h
    obtain ⟨o, f, W3⟩ := lay_all hm hs (n + 1) _ W2 (by omega)
    refine ⟨o, ?_, by rw [show n + (hs.length + 1) = n + 1 + hs.length by omega]; exact W3⟩
    rw [List.foldl_cons, stepF_some e, f, show n + (hs.length + 1) = n + 1 + hs.length by omega]
theorem lay_own {m : Nat} (hm : Msk m) {hs : Array Int} (hn : hs.size ≤ m) : ∃ o, SetTable.layClean m hs = some o ∧ Sits m hs.size o := by
  obtain ⟨o, f, W⟩ := lay_all hm hs.toList 0 _ (Sits.none m) (by rw [Array.length_toList]; omega)
  rw [Array.length_toList, Nat.zero_add] at W
  exact ⟨o, by rw [layClean_eq, f] <;> rfl, W⟩
theorem laid_at {m : Nat} (hm : Msk m) {hs : Array Int} (hn : hs.size ≤ m) (fi mv : Nat) (ld pl : Bool) :
    ∃ t ord, SetTable.laid m fi mv ld pl hs = some (t, ord) ∧ ord.toList.Perm (List.range hs.size) ∧ Ris t.place.toList ∧ t.place.size = hs.size ∧ t.mask = m ∧ t.dummies = #[] ∧ t.led = ld := by
  obtain ⟨o, e, W⟩ := lay_own hm hn
  have hl : SetTable.laid m fi mv ld pl hs = some ({ mask := m, place := ((liveOf m o).map Prod.fst).toArray, dummies := #[], finger := fi, led := ld, moves := mv, plain := pl }, ((liveOf m o).map Prod.snd).toArray) := by
    unfold SetTable.laid
    rw [e] <;> rfl
  have rs := ris_live (fun j => o.getD j Option.none) (List.range (m + 1)) (by unfold Ris; first | exact List.pairwise_lt_range | exact List.pairwise_lt_range _)
  have r1 : Ris ((liveOf m o).map Prod.fst) := rs.1
  have nd : ((liveOf m o).map Prod.fst).Nodup := r1.imp fun z => Nat.ne_of_lt z
  have up : ∀ k, k < hs.size → k ∈ (liveOf m o).map Prod.snd := fun k hk => by
    obtain ⟨j, b1, b2⟩ := W.has k hk
    exact List.mem_map.mpr ⟨(j, k), (mem_live W.len).2 ⟨b1, b2⟩, rfl⟩
  have lenL : (liveOf m o).length = hs.size := by
    obtain ⟨ps, p1, p2⟩ := W.few
    have a := nat_nodup_len _ ps nd fun x hx => by
      obtain ⟨⟨y, k⟩, hq, rfl⟩ := List.mem_map.mp hx
      obtain ⟨b1, b2⟩ := (mem_live W.len).1 hq
      exact p2 y b1 (by rw [b2]; exact fun z => nomatch z)
    have b := nat_nodup_len (List.range hs.size) _ List.nodup_range fun k hk => up k (List.mem_range.mp hk)
    rw [List.length_map] at a b
    rw [List.length_range] at b
    omega
  exact ⟨_, _, hl, perm_range hs.size _ (by show ((liveOf m o).map Prod.snd).length = _; rw [List.length_map]; exact lenL) up, r1, by show ((liveOf m o).map Prod.fst).toArray.size = _; rw [List.size_toArray, List.length_map]; exact lenL, rfl, rfl, rfl⟩
/-- the members in the order of a table laid anew -/
theorem reord_perm {es : Array (Int × Value)} {ord : Array Nat} (p : ord.toList.Perm (List.range es.size)) : (ord.filterMap (es[·]?)).toList.Perm es.toList := by
  have q := p.filterMap (es[·]?)
  have e2 : (List.range es.size).filterMap (es[·]?) = es.toList := by
    have g : ∀ l : List (Int × Value), (List.range l.length).filterMap (l[·]?) = l := fun l => by
      induction l with
      | nil => rfl
      | cons x l ih =>
        rw [List.length_cons, List.range_succ_eq_map, List.filterMap_cons, List.filterMap_map]
        show x :: List.filterMap ((fun i => (x :: l)[i]?) ∘ Nat.succ) (List.range l.length) = _
        have z : ((fun i => (x :: l)[i]?) ∘ Nat.succ) = fun i => l[i]? := funext fun i => by simp
        rw [z, ih]
    have z := g es.toList
    rw [Array.length_toList] at z
    rw [← z]
    exact congrFun (congrArg List.filterMap (funext fun i => by simp)) _
  rw [e2] at q
  rw [Array.toList_filterMap]
  exact q
end TT
namespace TT
open PySem PySem.Spec PyProof.Rows L2
theorem erase_list {α : Type} (xs : Array α) (p : Nat) : (SetTable.eraseAt xs p).toList = xs.toList.eraseIdx p := by
  unfold SetTable.eraseAt
  rw [List.eraseIdx_eq_take_drop_succ]
  simp [Array.toList_append, Array.toList_extract, List.extract]
  exact List.take_of_length_le (by simp)
theorem insert_size {α : Type} (xs : Array α) (p : Nat) (x : α) (hp : p ≤ xs.size) : (SetTable.insertAt xs p x).size = xs.size + 1 := by
  unfold SetTable.insertAt
  simp [Array.size_append, Array.size_push, Array.size_extract]
  omega
theorem insert_size_le {α : Type} (xs : Array α) (p : Nat) (x : α) : (SetTable.insertAt xs p x).size ≤ xs.size + 1 := by
  unfold SetTable.insertAt
  simp [Array.size_append, Array.size_push, Array.size_extract]
  omega
section
variable {P : Program} {w : World} {A : Around} {E : Value → Shared → Prop} {s : Shared} {a : Addr} {S : Int → Bool} {n : Nat}
theorem drop_fits {t : SetTable} {n j : Nat} (hf : t.fits n = true) (hj : j < n) : (t.drop j).fits (n - 1) = true ∧ (t.drop j).led = t.led ∧ (t.drop j).place.toList = t.place.toList.eraseIdx j := by
  unfold SetTable.fits at hf
  rw [Bool.and_eq_true, beq_iff_eq, decide_eq_true_eq] at hf
  obtain ⟨f1, f2⟩ := hf
  have hp : j < t.place.size := by omega
  have e : t.drop j = { t with place := SetTable.eraseAt t.place j, dummies := SetTable.insertAt t.dummies (SetTable.below t.dummies t.place[j]) t.place[j] } := by
    unfold SetTable.drop
    rw [Array.getElem?_eq_getElem hp]
  have z : (SetTable.eraseAt t.place j).size = n - 1 := by
    rw [← Array.length_toList, erase_list, List.length_eraseIdx]
    rw [Array.length_toList, if_pos hp]; omega
  rw [e]
  refine ⟨?_, rfl, erase_list _ _⟩
  unfold SetTable.fits SetTable.fill
  rw [Bool.and_eq_true, beq_iff_eq, decide_eq_true_eq]
  refine ⟨z, ?_⟩
  show (SetTable.eraseAt t.place j).size + (SetTable.insertAt t.dummies _ _).size ≤ t.mask
  have y := insert_size_le t.dummies (SetTable.below t.dummies t.place[j]) t.place[j]
  unfold SetTable.fill at f2
  omega
theorem setR_drop {k : Int} {tk : Tok} {Q : Bool → Shared → Prop} (R : SetR w s.heap a S n)
    (hQ : ∀ h' n', Heap.SameBut a s.heap h' → n' ≤ n → SetR w h' a (fun j => S j && !decide (j = k)) n' → Q (S k) { s with heap := h' }) :
    wpAny (model P w) A (setDiscardHashed a (.int k tk) ((intKind P w).hash k)) Q E s := by
  obtain ⟨o, es, ep, t, ho, hex, hd, g, nd, hm, hb, hf, hn, hr, hl⟩ := R
  have hel : ElemsOf (intKind P w) es.toList := good_elems g
  unfold setDiscardHashed setFind setFindIn
  refine wpAny_bind ?_
  refine wpAny_bind (wpAny_setState_of ho hd hf ?_)
  dsimp only
  rw [byScan_of (show (Value.int k tk).scannable = true from rfl) hb hel]
  simp only [↓reduceIte]
  refine wpAny_bind (wpAny_rule ?_)
  refine wpAny_bind (wpAny_setScan_of (intKind_is P w k tk) ho hd hf hel ?_)
  cases hi : List.findIdx? (fun e => (intKind P w).is k e.2) es.toList with
  | none =>
    have hk : k ∉ es.toList.map keyOf := fun z => by
      obtain ⟨e, he, q⟩ := (good_mem (P := P) (w := w) g k).1 z
      have c := List.findIdx?_eq_none_iff.mp hi e he
      rw [q] at c; cases c
    have hSk : S k = false := by
      cases q : S k with
      | false => rfl
      | true => exact absurd ((hm k).1 q) hk
    dsimp only
    refine wpAny_pure ?_
    show wpAny _ _ (pure false) _ _ _
    refine wpAny_pure ?_
    have q := hQ s.heap n (Heap.SameBut.refl a s.heap) (Nat.le_refl _) ⟨o, es, ep, t, ho, hex, hd, g, nd, fun i => by
      rw [Bool.and_eq_true, Bool.not_eq_true', decide_eq_false_iff_not, hm i]
      exact ⟨fun z => z.1, fun z => ⟨z, fun c => hk (c ▸ z)⟩⟩, hb, hf, hn, hr, hl⟩
    rw [hSk] at q
    exact q
  | some j =>
    obtain ⟨hj, pj, _⟩ := List.findIdx?_eq_some_iff_getElem.mp hi
    have hkj : keyOf es.toList[j] = k := (good_is (g _ (List.getElem_mem hj)) k).1 pj
    have hSk : S k = true := (hm k).2 (List.mem_map.mpr ⟨_, List.getElem_mem hj, hkj⟩)
    dsimp only
    refine wpAny_pure ?_
    show wpAny _ _ (setState a >>= _) _ _ _
    refine wpAny_bind (wpAny_setState_of ho hd hf ?_)
    dsimp only
    rw [Nat.zero_add]
    have hjs : j < es.size := by rw [← Array.length_toList]; exact hj
    have pm := L2.erase_perm es.toList j _ (List.getElem?_eq_getElem hj)
    have pk : (k :: (es.toList.eraseIdx j).map keyOf).Perm (es.toList.map keyOf) := by
      have z := pm.map keyOf
      rw [List.map_cons, hkj] at z
      exact z
    have nd2 := List.nodup_cons.mp (pk.nodup_iff.mpr nd)
    have hz : (SetTable.eraseAt es j).size = es.size - 1 := by
      rw [← Array.length_toList, erase_list, List.length_eraseIdx, Array.length_toList, if_pos hjs]
    obtain ⟨f1, f2, f3⟩ := drop_fits hf hjs
    have hb2 : (SetTable.eraseAt es j).size < scanBound := by rw [hz]; omega
    refine wpAny_bind (wpAny_storeSet_of ho hd ?_ (fits_of_scanBound hb2))
    refine wpAny_bind (wpAny_point (wpAny_pure ?_))
    have q := hQ _ (es.size - 1) (Heap.SameBut.update s.heap a (Obj.putSet (SetTable.eraseAt es j) (t.drop j))) (by omega)
      ⟨_, _, _, _, store_at (es' := SetTable.eraseAt es j) (t' := t.drop j) ho hd, hex, rfl, fun e he => g e (pm.mem_iff.mp (List.mem_cons_of_mem _ (by rw [erase_list] at he; exact he))), by rw [erase_list]; exact nd2.2, fun i => by
        rw [Bool.and_eq_true, Bool.not_eq_true', decide_eq_false_iff_not, hm i, erase_list, ← pk.mem_iff, List.mem_cons]
        exact ⟨fun z => z.1.resolve_left z.2, fun z => ⟨.inr z, fun c => nd2.1 (c ▸ z)⟩⟩, hb2, by rw [hz]; exact f1, hz, by
        rw [f3]; exact List.Pairwise.sublist (List.eraseIdx_sublist ..) hr, by rw [f2]; exact hl⟩
    rw [hSk] at q
    exact q
/-- what a set that was just made is -/
def newObS (w : World) : Obj := { cls := .type "set", dict := none, data := .set #[] 0 (.fresh 0 0 (!w.params.followText "set-order")) }
def sizesOk : Bool := (List.range 64).all fun m => decide (m * 5 < 21) || (decide (SetTable.sizeAbove (m * 2) - 1 = 15 ∨ SetTable.sizeAbove (m * 2) - 1 = 31 ∨ SetTable.sizeAbove (m * 2) - 1 = 63 ∨ SetTable.sizeAbove (m * 2) - 1 = 127) && decide (m ≤ SetTable.sizeAbove (m * 2) - 1) && decide (SetTable.sizeAbove (m * 2) ≤ 128))
theorem sizes_ok : sizesOk = true := by decide +kernel
theorem sizes_at {m : Nat} (h : m < 64) (h5 : 21 ≤ m * 5) : Msk (SetTable.sizeAbove (m * 2) - 1) ∧ m ≤ SetTable.sizeAbove (m * 2) - 1 ∧ SetTable.sizeAbove (m * 2) ≤ 128 := by
  have z := List.all_eq_true.mp sizes_ok m (List.mem_range.mpr h)
  rw [Bool.or_eq_true, Bool.and_eq_true, Bool.and_eq_true, decide_eq_true_eq, decide_eq_true_eq, decide_eq_true_eq, decide_eq_true_eq] at z
  rcases z with z | z
  · omega
  · exact ⟨.inr z.1.1, z.1.2, z.2⟩
/-- a table without members -/
structure Void (t : SetTable) : Prop where
  pl : t.place = #[]
  dm : t.dummies = #[]
theorem room_new {r : Addr} {m : Nat} {Q : Unit → Shared → Prop} (hr : s.heap.get? r = some (newObS w)) (hm : m < 64)
    (hQ : ∀ h' ep t, Heap.SameBut r s.heap h' → h'.get? r = some { cls := .type "set", dict := none, data := .set #[] ep t } → Void t → t.led = (!w.params.followText "set-order") → Msk t.mask → m ≤ t.mask → Q () { s with heap := h' }) :
    wpAny (model P w) A (setRoomFor r m) Q E s := by
  unfold setRoomFor
  refine wpAny_bind (wpAny_setState_of hr (show (newObS w).data = .set #[] 0 (.fresh 0 0 (!w.params.followText "set-order")) from rfl) (by rfl) ?_)
  dsimp only
  by_cases c : 21 ≤ m * 5
  · have er : (SetTable.fresh 0 0 (!w.params.followText "set-order")).roomFor m = some (m * 2) := by
      show (if (0 + m) * 5 ≥ 7 * 3 then some ((0 + m) * 2) else none) = _
      rw [Nat.zero_add, if_pos (by omega)]
    rw [er]
    obtain ⟨z1, z2, z3⟩ := sizes_at hm c
    dsimp only
    unfold setRelay
    refine wpAny_bind (wpAny_setState_of hr (show (newObS w).data = .set #[] 0 (.fresh 0 0 (!w.params.followText "set-order")) from rfl) (by rfl) ?_)
    dsimp only
    refine wp_if_neg (by rw [sizeLine_eq]; omega) ?_
    try refine wpAny_bind (wpAny_pure ?_)
    obtain ⟨t, ord, e1, e2, e3, e4, e5, e6, e7⟩ := laid_at (hs := #[]) z1 (Nat.zero_le _) 0 ((SetTable.fresh 0 0 (!w.params.followText "set-order")).movedTo (SetTable.sizeAbove (m * 2) - 1)) (!w.params.followText "set-order") true
    have eo : ord = #[] := by
      have z : ord.toList = [] := List.perm_nil.mp e2
      exact Array.toList_eq_nil_iff.mp z
    refine wpAny_bind (wpAny_of_eq (a := (#[], t)) ?_ ?_)
    · have e1' : (SetTable.fresh 0 0 (!w.params.followText "set-order")).relaid ((#[] : Array (Int × Value)).map (·.1)) (m * 2) = some (t, ord) := by rw [Array.map_empty]; exact e1
      rw [e1', eo]
      rfl
    · dsimp only
      refine wpAny_storeSet_of hr (show (newObS w).data = .set #[] 0 (.fresh 0 0 (!w.params.followText "set-order")) from rfl) ?_ (by decide)
      refine hQ _ 1 t (Heap.SameBut.update ..) (store_at (es' := #[]) (t' := t) hr rfl) ⟨?_, e6⟩ e7 (by rw [e5]; exact z1) (by rw [e5]; exact z2)
      exact Array.size_eq_zero_iff.mp e4
  · have er : (SetTable.fresh 0 0 (!w.params.followText "set-order")).roomFor m = none := by
      show (if (0 + m) * 5 ≥ 7 * 3 then some ((0 + m) * 2) else none) = _
      rw [Nat.zero_add, if_neg (by omega)]
    rw [er]
    exact wpAny_pure (hQ s.heap 0 _ (Heap.SameBut.refl ..) hr ⟨rfl, rfl⟩ rfl (.inl rfl) (by show m ≤ 7; omega))
theorem merge_new {r b : Addr} {T : Int → Bool} {m : Nat} {id : String} {Q : Unit → Shared → Prop} (hr : s.heap.get? r = some (newObS w)) (R : SetR w s.heap b T m) (hm : m < 64) (hne : r ≠ b)
    (hQ : ∀ h', Heap.SameBut r s.heap h' → SetR w h' r T m → Q () { s with heap := h' }) : wpAny (model P w) A (Builtin.Frozenset.merge id r b) Q E s := by
  obtain ⟨o, es, ep, t, ho, hex, hd, g, nd, hmem, hb, hf, hn, hris, hl⟩ := R
  unfold Builtin.Frozenset.merge
  refine wpAny_bind (wpAny_setEpoch_of ho hd hf ?_)
  unfold setMerge
  refine wp_if_neg (by rw [beq_iff_eq]; exact hne) ?_
  try refine wpAny_bind (wpAny_pure ?_)
  refine wpAny_bind (wpAny_setState_of ho hd hf ?_)
  dsimp only
  by_cases c : es.isEmpty = true
  · refine wp_if_pos c ?_
    have e0 : es = #[] := Array.isEmpty_iff.mp c
    subst e0
    refine wpAny_pure (hQ s.heap (Heap.SameBut.refl ..) ⟨_, #[], 0, _, hr, ⟨rfl, rfl, rfl⟩, rfl, g, nd, hmem, hb, by rfl, hn, List.Pairwise.nil, ?_⟩)
    show _ ∨ (!w.params.followText "set-order") = true
    cases w.params.followText "set-order"
    · exact .inr rfl
    · exact .inl rfl
  · refine wp_if_neg c ?_
    try refine wpAny_bind (wpAny_pure ?_)
    refine wpAny_bind (room_new hr (by omega) fun h1 ep1 t1 sb1 hr1 v1 l1 k1 s1 => ?_)
    have hf1 : t1.fits 0 = true := by
      unfold SetTable.fits SetTable.fill
      rw [v1.pl, v1.dm]; simp
    refine wpAny_bind (wpAny_setState_of (s := { s with heap := h1 }) hr1 rfl hf1 ?_)
    dsimp only
    have hled : w.params.followText "set-order" = true ∨ (t1.led && t.led) = true := by
      rw [l1]
      rcases hl with z | z
      · exact .inl z
      · rw [z]
        cases w.params.followText "set-order"
        · exact .inr rfl
        · exact .inl rfl
    have fill0 : ¬ (t1.fill != 0) = true := by
      unfold SetTable.fill
      rw [v1.pl, v1.dm]; simp
    unfold SetTable.road
    rw [if_neg fill0]
    by_cases d : (t1.mask == t.mask && t.dummies.isEmpty) = true
    · rw [if_pos d]
      dsimp only
      refine wpAny_storeSet_of (s := { s with heap := h1 }) hr1 rfl ?_ (fits_of_scanBound hb)
      exact hQ _ (sb1.trans (Heap.SameBut.update ..)) ⟨_, es, _, _, store_at hr1 rfl, ⟨rfl, rfl, rfl⟩, rfl, g, nd, hmem, hb, hf, hn, hris, hled⟩
    · rw [if_neg d]
      dsimp only
      obtain ⟨t2, ord, e1, e2, e3, e4, e5, e6, e7⟩ := laid_at (hs := es.map (·.1)) k1 (by rw [Array.size_map]; omega) t1.finger t1.moves (t1.led && t.led) (t1.plain && t.plain)
      rw [Array.size_map] at e2 e4
      have pm := reord_perm e2
      have hz : (ord.filterMap (es[·]?)).size = es.size := by rw [← Array.length_toList, pm.length_eq, Array.length_toList]
      refine wpAny_bind (wpAny_of_eq (a := (ord.filterMap (es[·]?), t2)) ?_ ?_)
      · rw [e1]
        show (if ((ord.filterMap (es[·]?)).size != es.size) = true then _ else pure (ord.filterMap (es[·]?), t2)) = _
        rw [if_neg (by rw [hz]; simp)]
      · dsimp only
        have hb2 : (ord.filterMap (es[·]?)).size < scanBound := by rw [hz]; exact hb
        refine wpAny_storeSet_of (s := { s with heap := h1 }) hr1 rfl ?_ (fits_of_scanBound hb2)
        refine hQ _ (sb1.trans (Heap.SameBut.update ..)) ⟨_, _, _, t2, store_at hr1 rfl, ⟨rfl, rfl, rfl⟩, rfl, fun e he => g e (pm.mem_iff.mp he), (pm.map keyOf).nodup_iff.mpr nd, fun k => (hmem k).trans (pm.map keyOf).mem_iff.symm, hb2, ?_, hz.trans hn, e3, by rw [e7]; exact hled⟩
        unfold SetTable.fits SetTable.fill
        rw [e6, e4, hz, e5]
        simp
        omega
end
end TT
namespace TT
open PySem PySem.Spec PyProof.Rows L2
section
variable {P : Program} {w : World} {A : Around} {E : Value → Shared → Prop} {s : Shared} {a : Addr} {S : Int → Bool} {n : Nat}
theorem walk_any {b : Addr} {es : Array (Int × Value)} {ep : Nat} {t : SetTable} {Q : Array (Int × Value) → Shared → Prop} (hb : SetAt s.heap b es ep t) (hf : t.fits es.size = true) (hl : w.params.followText "set-order" = true ∨ t.led = true)
    (hQ : ∀ d (out : Array (Int × Value)), out.toList.Perm es.toList → Q out { s with drawn := d }) : wpAny (model P w) A (setWalk b) Q E s := by
  obtain ⟨o, ho, _, hd⟩ := hb
  unfold setWalk
  refine wpAny_bind (wpAny_setState_of ho hd hf ?_)
  dsimp only
  refine wpAny_bind (wpAny_byText ?_)
  cases hbt : w.params.followText "set-order" with
  | true =>
    refine wp_if_pos rfl ?_
    exact wpAny_bind (wpAny_askSetting (wpAny_pure (hQ s.drawn _ (pick_perm _ es))))
  | false =>
    refine wp_if_neg Bool.false_ne_true ?_
    have hled : t.led = true := hl.resolve_left (by rw [hbt]; exact Bool.false_ne_true)
    by_cases c : (!t.plain && decide (es.size > 1)) = true
    · refine wp_if_pos c ?_
      refine wpAny_bind (drawOrder_at es.size es.toList s _ (by rw [Array.length_toList]; exact Nat.le_refl _) fun ys d p => ?_)
      exact wpAny_pure (hQ d _ (by simpa using p))
    · refine wp_if_neg c ?_
      refine wpAny_bind (wpAny_of_eq (a := ()) ?_ (wpAny_pure (hQ s.drawn es (List.Perm.refl _))))
      show (if (!t.led && decide (es.size > 1)) = true then unsupported "set:maker-not-led" else pure ()) = pure ()
      rw [hled]; rfl
theorem quiet_one {es : Array (Int × Value)} {f : (Int × Value) → (Option Bool × PUnit) → Sem (ForInStep (Option Bool × PUnit))} {Q : (Option Bool × PUnit) → Shared → Prop}
    (hf : ∀ e, GoodE e → f e ⟨none, ⟨⟩⟩ = pure (.yield ⟨none, ⟨⟩⟩)) (g : ∀ e ∈ es.toList, GoodE e) (h : Q ⟨none, ⟨⟩⟩ s) : wpAny (model P w) A (forIn es ⟨none, ⟨⟩⟩ f) Q E s := by
  refine MeetsSeq2.wpAny_forIn_array f (fun rest x s' => x = ⟨none, ⟨⟩⟩ ∧ s' = s ∧ ∀ e ∈ rest, GoodE e) Q ?_ ?_ es _ ⟨rfl, rfl, g⟩
  · rintro e rest x s' ⟨rfl, rfl, gr⟩
    rw [hf e (gr e List.mem_cons_self)]
    exact wpAny_pure ⟨rfl, rfl, fun e' he' => gr e' (List.mem_cons_of_mem _ he')⟩
  · rintro x s' ⟨rfl, rfl, _⟩
    exact h
theorem quiet_two {b r : Addr} {T : Int → Bool} {m : Nat} {Q : Bool → Shared → Prop} (Rb : SetR w s.heap b T m) (Rr : SetR w s.heap r S n) (h : Q true s) : wpAny (model P w) A (setsQuiet [b, r]) Q E s := by
  obtain ⟨o, es, ep, t, ho, hex, hd, g, nd, hmem, hb, hf, hn, hris, hl⟩ := Rb
  obtain ⟨o2, es2, ep2, t2, ho2, hex2, hd2, g2, nd2, hmem2, hb2, hf2, hn2, hris2, hl2⟩ := Rr
  unfold setsQuiet
  refine wpAny_bind (wpAny_forIn_list _ (fun rest x s' => x = (none, ()) ∧ s' = s ∧ ∀ c ∈ rest, c = b ∨ c = r) _ ?_ ?_ [b, r] _ ⟨rfl, rfl, fun c hc => by simpa using hc⟩)
  · rintro c rest x s' ⟨rfl, rfl, hc⟩
    have inner : ∀ {c : Addr} {o : Obj} {es : Array (Int × Value)} {ep : Nat} {t : SetTable} {Q : Array (Int × Value) → Shared → Prop}, s'.heap.get? c = some o → o.data = .set es ep t → t.fits es.size = true → Q es s' → wpAny (model P w) A (setEntries c) Q E s' := fun ho hd hf h => wpAny_setEntries_of ho hd hf h
    have fin : ∀ (es : Array (Int × Value)), (∀ e ∈ es.toList, GoodE e) → wpAny (model P w) A (forIn es ((none : Option Bool), ()) fun x __s =>
        match x with
        | (fst, x) =>
          match x with
          | Value.ref a => do
            let __do_lift ← specialOf x (Str.ofString "__eq__")
            if (__do_lift != some (Value.builtin "object.__eq__")) = true then pure (ForInStep.done (some false, ())) else pure (ForInStep.yield (none, ()))
          | x => pure (ForInStep.yield (none, ()))) (fun y s'' => y = (none, ()) ∧ s'' = s') E s' := fun es g => by
      refine quiet_one (fun e ge => ?_) g ⟨rfl, rfl⟩
      obtain ⟨e1, e2⟩ := e
      obtain ⟨k, tk, q, _⟩ := ge
      have q' : e2 = Value.int k tk := q
      subst q'
      rfl
    rcases hc c List.mem_cons_self with z | z
    · subst z
      refine wpAny_bind (inner ho hd hf ?_)
      refine wpAny_bind (wpAny_mono (fin es g) (fun y s'' hy => ?_) fun _ _ z => z)
      obtain ⟨rfl, rfl⟩ := hy
      exact wpAny_pure ⟨rfl, rfl, fun c' hc' => hc c' (List.mem_cons_of_mem _ hc')⟩
    · subst z
      refine wpAny_bind (inner ho2 hd2 hf2 ?_)
      refine wpAny_bind (wpAny_mono (fin es2 g2) (fun y s'' hy => ?_) fun _ _ z => z)
      obtain ⟨rfl, rfl⟩ := hy
      exact wpAny_pure ⟨rfl, rfl, fun c' hc' => hc c' (List.mem_cons_of_mem _ hc')⟩
  · rintro x s' ⟨rfl, rfl, _⟩
    exact wpAny_pure h
theorem walk_unseen {b r : Addr} {T : Int → Bool} {m : Nat} {es : Array (Int × Value)} {ep : Nat} {t : SetTable} {Q : Array (Int × Value) → Shared → Prop} (hne : r ≠ b) (Rb : SetR w s.heap b T m) (hb : SetAt s.heap b es ep t) (hf : t.fits es.size = true) (hl : w.params.followText "set-order" = true ∨ t.led = true) (Rr : SetR w s.heap r S n)
    (hQ : ∀ h' d (out : Array (Int × Value)), Heap.SameBut r s.heap h' → SetR w h' r S n → out.toList.Perm es.toList → Q out { s with heap := h', drawn := d }) : wpAny (model P w) A (setWalkUnseen b [r] (some r)) Q E s := by
  have plain : wpAny (model P w) A (setWalk b) Q E s := walk_any hb hf hl fun d out p => hQ s.heap d out (Heap.SameBut.refl ..) Rr p
  obtain ⟨o, ho, _, hd⟩ := hb
  unfold setWalkUnseen
  refine wpAny_bind (wpAny_setState_of ho hd hf ?_)
  dsimp only
  refine wpAny_bind (wpAny_byText ?_)
  split
  · exact plain
  · rename_i c
    refine wpAny_bind (quiet_two Rb Rr ?_)
    refine wp_if_neg (by simp) ?_
    refine wpAny_bind (wpAny_rule ?_)
    obtain ⟨o2, es2, ep2, t2, ho2, hex2, hd2, g2, nd2, hmem2, hb2, hf2, hn2, hris2, hl2⟩ := Rr
    refine wpAny_bind (wpAny_setState_of ho2 hd2 hf2 ?_)
    dsimp only
    split
    · refine wpAny_bind (wpAny_storeSet_of ho2 hd2 ?_ (fits_of_scanBound hb2))
      refine wpAny_pure (hQ _ s.drawn es (Heap.SameBut.update ..) ⟨_, es2, _, _, store_at ho2 hd2, hex2, rfl, g2, nd2, hmem2, hb2, hf2, hn2, hris2, ?_⟩ (List.Perm.refl _))
      rcases hl with z | z
      · exact .inl z
      · rcases hl2 with y | y
        · exact .inl y
        · exact .inr (by show (t2.led && t.led) = true; rw [y, z]; rfl)
    · exact wpAny_pure (hQ s.heap s.drawn es (Heap.SameBut.refl ..) ⟨o2, es2, ep2, t2, ho2, hex2, hd2, g2, nd2, hmem2, hb2, hf2, hn2, hris2, hl2⟩ (List.Perm.refl _))
/-- one member of the other set: taken out, or put in -/
theorem flip_one {k : Int} {tk : Tok} {Q : Unit → Shared → Prop} (R : SetR w s.heap a S n) (room : n + 1 < scanBound)
    (hQ : ∀ h' n', Heap.SameBut a s.heap h' → n' ≤ n + 1 → SetR w h' a (fun j => if j = k then !S j else S j) n' → Q () { s with heap := h' }) :
    wpAny (model P w) A (holding [Value.int k tk] (do
      if !(← setDiscardHashed a (.int k tk) ((intKind P w).hash k)) then
        let _ ← setAddHashed a (.int k tk) ((intKind P w).hash k))) Q E s := by
  refine wpAny_holding (wpAny_bind (setR_drop R fun h1 n1 sb1 le1 R1 => ?_))
  cases hk : S k with
  | true =>
    refine wp_if_neg (by simp) (wpAny_pure (hQ h1 n1 sb1 (by omega) (R1.congr fun j => ?_)))
    by_cases c : j = k
    · rw [if_pos c, c, hk]; simp
    · rw [if_neg c]; simp [c]
  | false =>
    refine wp_if_pos (by simp) (wpAny_bind (setR_add_hashed (s := { s with heap := h1 }) R1 (by omega) fun h2 sb2 R2 => wpAny_pure ?_))
    refine hQ h2 _ (sb1.trans sb2) ?_ (R2.congr fun j => ?_)
    · split <;> omega
    · by_cases c : j = k
      · rw [if_pos c, c, hk]; simp
      · rw [if_neg c]; simp [c]
theorem good_hash {e : Int × Value} (g : GoodE e) : ∃ k tk, e = ((intKind P w).hash k, Value.int k tk) ∧ keyOf e = k := by
  obtain ⟨k, tk, h1, h2⟩ := g
  obtain ⟨e1, e2⟩ := e
  have h1' : e2 = Value.int k tk := h1
  have h2' : e1 = hashInt k := h2
  subst h1' h2'
  exact ⟨k, tk, rfl, rfl⟩
/-- all members of the other set -/
theorem flip_all {b : Addr} {ob : Obj} {es : Array (Int × Value)} {ep : Nat} {t : SetTable} {id : String} (hne : a ≠ b) (hd : ob.data = .set es ep t) (hf : t.fits es.size = true) {out : Array (Int × Value)}
    (f : (Int × Value) → PUnit → Sem (ForInStep PUnit))
    (hfe : ∀ k tk, f ((intKind P w).hash k, Value.int k tk) ⟨⟩ = (do
      (holding [Value.int k tk] (do
        if !(← setDiscardHashed a (.int k tk) ((intKind P w).hash k)) then
          let _ ← setAddHashed a (.int k tk) ((intKind P w).hash k)))
      Builtin.Frozenset.unchanged id b ep
      pure (ForInStep.yield PUnit.unit)))
    (g : ∀ e ∈ out.toList, GoodE e) (nd : (out.toList.map keyOf).Nodup) (ho : s.heap.get? b = some ob) (R : SetR w s.heap a S n) (room : n + out.size + 1 < scanBound) {Q : PUnit → Shared → Prop}
    (hQ : ∀ h' n', Heap.SameBut a s.heap h' → SetR w h' a (fun j => if j ∈ out.toList.map keyOf then !S j else S j) n' → Q ⟨⟩ { s with heap := h' }) :
    wpAny (model P w) A (forIn out PUnit.unit f) Q E s := by
  refine MeetsSeq2.wpAny_forIn_array f (fun rest _ s' => ∃ h' done n', s' = { s with heap := h' } ∧ Heap.SameBut a s.heap h' ∧ out.toList = done ++ rest ∧ n' ≤ n + done.length ∧ SetR w h' a (fun j => if j ∈ done.map keyOf then !S j else S j) n') Q ?_ ?_ out _
    ⟨s.heap, [], n, rfl, Heap.SameBut.refl .., rfl, Nat.le_refl _, R.congr fun j => by simp⟩
  · rintro e rest x s' ⟨h1, done, n1, rfl, sb1, e1, le1, R1⟩
    have he : e ∈ out.toList := by rw [e1]; simp
    obtain ⟨k, tk, ee, ke⟩ := good_hash (P := P) (w := w) (g e he)
    subst ee
    have hlen : out.size = done.length + (rest.length + 1) := by rw [← Array.length_toList, e1, List.length_append, List.length_cons]
    rw [hfe k tk]
    have hk : k ∉ done.map keyOf := fun z => by
      rw [e1, List.map_append, List.map_cons, ke] at nd
      exact (List.nodup_append.mp nd).2.2 k z k List.mem_cons_self rfl
    refine wpAny_bind (flip_one (s := { s with heap := h1 }) R1 (by omega) fun h2 n2 sb2 le2 R2 => ?_)
    refine wpAny_bind ?_
    unfold Builtin.Frozenset.unchanged
    have hob : h2.get? b = some ob := by rw [sb2.2 b (Ne.symm hne), sb1.2 b (Ne.symm hne)]; exact ho
    refine wpAny_bind (wpAny_setEpoch_of (s := { s with heap := h2 }) hob hd hf ?_)
    refine wp_if_neg (by simp) (wpAny_pure (wpAny_pure ?_))
    refine ⟨h2, done ++ [((intKind P w).hash k, Value.int k tk)], n2, rfl, sb1.trans sb2, by rw [e1]; simp, by rw [List.length_append, List.length_singleton]; omega, R2.congr fun j => ?_⟩
    rw [List.map_append, List.map_singleton, ke]
    by_cases c : j = k
    · subst c
      rw [if_pos (by simp), if_pos rfl, if_neg hk]
    · rw [if_neg c]
      by_cases d : j ∈ done.map keyOf
      · rw [if_pos (by simp [d]), if_pos d]
      · rw [if_neg (by simp [d, c]), if_neg d]
  · rintro x s' ⟨h1, done, n1, rfl, sb1, e1, le1, R1⟩
    refine hQ h1 n1 sb1 ?_
    rw [e1, List.append_nil]
    exact R1
theorem entry_set_xor : entryFor table "set.__xor__" = some Builtin.«frozenset.__xor__» :=
  entryFor_alias (id' := "frozenset.__xor__") (by kernel_rfl) rfl (by decide +kernel) (by kernel_rfl)
theorem any_set {c : Addr} {Q : Bool → Shared → Prop} (h : s.TypeIs (.ref c) "set") (hQ : Q true s) : wpAny (model P w) A (Builtin.Frozenset.isAnySet (.ref c)) Q E s := by
  unfold Builtin.Frozenset.isAnySet
  refine wpAny_bind (wpAny_isInstance (b := true) h sub_set_self ?_)
  exact wpAny_pure hQ
theorem setR_ty {h : Heap} (R : SetR w h a S n) {s : Shared} (e : s.heap = h) : s.TypeIs (.ref a) "set" := by
  obtain ⟨o, es, ep, t, ho, hex, _⟩ := R
  subst e
  exact ⟨o, ho, hex.1⟩
end
end TT
namespace TT
open PySem PySem.Spec PyProof.Rows L2
section
variable {P : Program} {w : World} {A : Around} {E : Value → Shared → Prop} {s : Shared} {a : Addr} {S : Int → Bool} {n : Nat}
set_option maxHeartbeats 8000000 in
theorem xor_sets {b : Addr} {T : Int → Bool} {m : Nat} {Q : Value → Shared → Prop} (Ra : SetR w s.heap a S n) (Rb : SetR w s.heap b T m) (hm : m < 64) (hn : n < 64)
    (hQ : ∀ h' d c, (∀ x o, s.heap.get? x = some o → h'.get? x = some o) → SetR w h' s.heap.objs.size (fun j => S j ^^ T j) c → Q (.ref s.heap.objs.size) { s with heap := h', drawn := d }) :
    wpAny (model P w) A (binaryOp .BitXor (.ref a) (.ref b)) Q E s := by
  have ta := setR_ty Ra (s := s) rfl
  have tb := setR_ty Rb (s := s) rfl
  have la := Ra.lt
  have lb := Rb.lt
  refine wpAny_binaryOp_same ta tb F.fills_set_xor F.slot_set_xor ?_
  refine wpAny_call_entry F.slot_set_xor ta entry_set_xor ?_ (F.args_set_xor_2 _ _)
  unfold Builtin.«frozenset.__xor__»
  show wpAny _ _ (Builtin.Frozenset.slot1 "__xor__" _ >>= _) _ _ _
  refine wpAny_bind (wpAny_of_eq (a := (Value.ref a, Value.ref b)) (by rfl) ?_)
  dsimp only
  refine wpAny_bind ?_
  refine wpAny_bind (any_set ta ?_)
  dsimp only [toBool]
  try refine wp_if_pos rfl ?_
  refine any_set tb ?_
  refine wp_if_neg (by simp) ?_
  refine wpAny_bind (m := Builtin.Frozenset.addrOf (Value.ref a)) (wpAny_pure ?_)
  refine wpAny_bind ?_
  show wpAny _ _ (Builtin.Frozenset.baseOf a >>= _) _ _ _
  unfold Builtin.Frozenset.baseOf
  refine wpAny_bind (wpAny_bind (wpAny_isInstance (b := true) ta sub_set_self (wpAny_pure ?_)))
  rw [if_pos rfl]
  refine wpAny_bind ?_
  unfold Builtin.Frozenset.newFrom newSet
  refine wpAny_bind ?_
  refine wpAny_bind (wpAny_byText ?_)
  refine wpAny_newObj_type ?_
  have hra : s.heap.objs.size ≠ a := Nat.ne_of_gt la
  have hrb : s.heap.objs.size ≠ b := Nat.ne_of_gt lb
  have up : ∀ x o, s.heap.get? x = some o → (s.heap.push (newObS w)).get? x = some o := fun x o e => Heap.get?_push_of_some _ e
  have hr : (s.heap.push (newObS w)).get? s.heap.objs.size = some (newObS w) := Heap.get?_push_size _ rfl
  have Ra1 : SetR w (s.heap.push (newObS w)) a S n := Ra.at fun o e => up a o e
  have Rb1 : SetR w (s.heap.push (newObS w)) b T m := Rb.at fun o e => up b o e
  refine wpAny_bind (m := Builtin.Frozenset.addrOf (Value.ref s.heap.objs.size)) (wpAny_pure ?_)
  refine wpAny_bind (wpAny_holding ?_)
  show wpAny _ _ (Builtin.Frozenset.updateFrom _ s.heap.objs.size (Value.ref b)) _ _ { s with heap := s.heap.push (newObS w) }
  unfold Builtin.Frozenset.updateFrom
  refine wpAny_bind (any_set (s := { s with heap := s.heap.push (newObS w) }) (setR_ty Rb1 rfl) ?_)
  refine wp_if_pos rfl ?_
  refine wpAny_bind (m := Builtin.Frozenset.addrOf (Value.ref b)) (wpAny_pure ?_)
  refine merge_new (s := { s with heap := s.heap.push (newObS w) }) hr Rb1 hm hrb fun h1 sb1 R1 => ?_
  refine wpAny_pure ?_
  refine wpAny_bind (m := Builtin.Frozenset.addrOf (Value.ref s.heap.objs.size)) (wpAny_pure ?_)
  have Ra2 : SetR w h1 a S n := Ra1.at fun o e => (sb1.2 a (Ne.symm hra)).trans e
  refine wpAny_bind (wpAny_holding ?_)
  unfold Builtin.Frozenset.symmetricDifferenceUpdate
  refine wp_if_neg (by simp [Ne.symm hra]) ?_
  try refine wpAny_bind (wpAny_pure ?_)
  have ta2 : Shared.TypeIs { s with heap := h1 } (.ref a) "set" := setR_ty Ra2 rfl
  dsimp only
  refine wpAny_bind (wpAny_typeOf ta2 ?_)
  refine wp_if_neg (by decide) ?_
  try refine wpAny_bind (wpAny_pure ?_)
  refine wpAny_bind (any_set ta2 ?_)
  refine wp_if_pos rfl ?_
  try refine wpAny_bind (wpAny_pure ?_)
  refine wpAny_bind (m := Builtin.Frozenset.addrOf (Value.ref a)) (wpAny_pure ?_)
  obtain ⟨o, es, ep, t, ho, hex, hd, g, nd, hmem, hb, hf, hnn, hris, hl⟩ := id Ra2
  refine wpAny_bind (wpAny_setEpoch_of (s := { s with heap := h1 }) ho hd hf ?_)
  refine wpAny_holding ?_
  refine wpAny_bind (walk_unseen (s := { s with heap := h1 }) hra Ra2 ⟨o, ho, hex.1, hd⟩ hf hl R1 fun h2 d out sb2 R2 pm => ?_)
  have ho2 : h2.get? a = some o := (sb2.2 a (Ne.symm hra)).trans ho
  have hz : out.size = n := by rw [← Array.length_toList, pm.length_eq, Array.length_toList]; exact hnn
  refine wpAny_bind (flip_all (s := { s with heap := h2, drawn := d }) hra hd hf _ (fun k tk => rfl) (fun e he => g e (pm.mem_iff.mp he)) ((pm.map keyOf).nodup_iff.mpr nd) ho2 R2 (by rw [hz]; show m + n + 1 < 4096; omega) fun h3 n3 sb3 R3 => ?_)
  refine wpAny_pure ?_
  refine wpAny_pure (wpAny_pure ⟨_, rfl, by simp, hQ h3 d n3 (fun x u e => ?_) (R3.congr fun j => ?_)⟩)
  · have hx : x ≠ s.heap.objs.size := Nat.ne_of_lt (Heap.lt_size e)
    rw [sb3.2 x hx, sb2.2 x hx, sb1.2 x hx]
    exact up x u e
  · have e1 : j ∈ out.toList.map keyOf ↔ S j = true := by rw [(pm.map keyOf).mem_iff, hmem j]
    cases c : S j with
    | true => rw [if_pos (e1.2 c)]; simp
    | false => rw [if_neg (fun z => by rw [e1.1 z] at c; cases c)]; simp
end
end TT
/-! sets in the hand layer; needed keys -/
namespace TT
open PySem PySem.Spec PyProof.Rows L2 HotX LamX T
theorem int_nodup_len : ∀ (l D : List Int), l.Nodup → (∀ x ∈ l, x ∈ D) → l.length ≤ D.length
  | [], _, _, _ => Nat.zero_le _
  | x :: l, D, nd, h => by
    obtain ⟨n1, n2⟩ := List.nodup_cons.mp nd
    have hx := h x List.mem_cons_self
    have ih := int_nodup_len l (D.erase x) n2 fun y hy => (List.mem_erase_of_ne (fun (e : y = x) => n1 (e ▸ hy))).mpr (h y (List.mem_cons_of_mem _ hy))
    rw [List.length_erase_of_mem hx] at ih
    have : 0 < D.length := List.length_pos_of_mem hx
    rw [List.length_cons]
    omega
section
variable {X : Cx}
/-- set(t) of a tuple of ints -/
def rSetI (K : PySem.W.Frag) (w : World) : List V → Hp → VK → Prop := fun xs H Q => ∃ (l : Addr) (ns : List Int), xs = [V.ref l] ∧ SqT K H l (ns.map V.int) ∧ ns.length ≤ 1000 ∧
  ∀ p c, H p = none → c ≤ ns.length → Q (.ref p) (upd H p (SetO w p (fun j => decide (j ∈ ns)) c))
theorem cr_setI (hc : X.calm = true) : CallR X (.type "set") (rSetI X.K X.w) := by
  intro pins s σ H xs us Q I r h
  obtain ⟨l, ns, rfl, hs, hl, q⟩ := h
  obtain ⟨its, rv, ht, _⟩ := I.tuple hs
  rw [Vals.ref1 r]
  refine call_set_tupI ns (I.ok.hd hc) ht rv.ints (by unfold scanBound; omega) fun h' tk c R hcn k => ?_
  exact ⟨.ref _, upd H s.heap.objs.size _, I.laid (t' := tk) k (Nat.le_refl _) (setO_new R), rfl, q _ c (I.hok.fresh (Nat.le_refl _)) hcn⟩
/-- a ^ b of two sets -/
def rXorS (w : World) : V → V → Hp → VK → Prop := fun x y H Q => ∃ (a b : Addr) (S T : Int → Bool) (n m : Nat), x = .ref a ∧ y = .ref b ∧ H a = some (SetO w a S n) ∧ H b = some (SetO w b T m) ∧ n < 64 ∧ m < 64 ∧
  ∀ p c, H p = none → (∀ L : List Int, (∀ j, (S j ^^ T j) = true → j ∈ L) → c ≤ L.length) → Q (.ref p) (upd H p (SetO w p (fun j => S j ^^ T j) c))
theorem op_xorS : OpR X (binaryOp .BitXor) (rXorS X.w) := by
  intro pins s σ H x y v u Q I rx ry h
  obtain ⟨a, b, S, T, n, m, rfl, rfl, ha, hb, hn, hm, q⟩ := h
  cases rx
  cases ry
  refine xor_sets (setO_get I ha) (setO_get I hb) hm hn fun h' d c k R => ?_
  have hp : H s.heap.objs.size = none := I.hok.fresh (Nat.le_refl _)
  have J : Inv X pins σ (upd H s.heap.objs.size (SetO X.w s.heap.objs.size (fun j => S j ^^ T j) c)) { s with heap := h', gens := s.gens, drawn := d, toks := s.toks } :=
    I.call (ch := []) (Un.laid k (Nat.le_refl _) hp) (I.hok.laid k (Nat.le_refl _) (setO_new R)) I.bare (fun _ z => nomatch z)
  refine ⟨.ref _, _, J, rfl, q _ c hp fun L hL => ?_⟩
  obtain ⟨o, es, ep, t, _, _, _, _, nd, hm2, _, _, hn2, _⟩ := R
  have z := int_nodup_len _ L nd fun x hx => hL x ((hm2 x).2 hx)
  rw [List.length_map, Array.length_toList, hn2] at z
  exact z
end
/-! ### mathematics -/
theorem pre_inj {t u : T} (bt : t.bst) (bu : u.bst) (h : t.pre = u.pre) : t = u := by
  rw [← insAll_pre bt, ← insAll_pre bu, h]
/-- the restriction of t to the keys of the subtree of k in u -/
def T.cutTo (t u : T) (k : Int) : T := t.restr (u.bdL k none) (u.bdH k none)
theorem at_mem {u : T} {k x : Int} (b : u.bst) (h : k ∈ u.pre) : x ∈ (u.at k).pre ↔ x ∈ u.pre ∧ (okLo (u.bdL k none) x && okHi (u.bdH k none) x) = true := by
  rw [at_pre (lo := none) (hi := none) b h fun _ _ => ⟨rfl, rfl⟩, List.mem_filter]
theorem cut_pre {t u : T} {k : Int} (bt : t.bst) (bu : u.bst) (h : k ∈ u.pre) (s : ∀ x, x ∈ t.pre → x ∈ u.pre) : (t.cutTo u k).pre = t.pre.filter fun x => decide (x ∈ (u.at k).pre) := by
  unfold T.cutTo
  rw [restr_pre bt]
  refine List.filter_congr fun x hx => ?_
  rw [Bool.eq_iff_iff, decide_eq_true_iff, at_mem bu h]
  exact ⟨fun z => ⟨s x hx, z⟩, fun z => z.2⟩
theorem cut_self {u : T} {k : Int} (bu : u.bst) (h : k ∈ u.pre) : u.cutTo u k = u.at k := by
  refine pre_inj (restr_bst bu) (at_bst bu) ?_
  rw [cut_pre bu bu h fun _ z => z, at_filter bu h]
theorem at_rt {p : Int} : ∀ {t : T}, t.bst → p ∈ t.pre → (t.at p).rt = some p
  | leaf, _, h => by cases h
  | node l k r, b, h => by
    show (if p = k then node l k r else if p < k then l.at p else r.at p).rt = _
    by_cases e : p = k
    · rw [if_pos e, e]; rfl
    · rw [if_neg e]
      rcases mem_node.mp h with h | h | h
      · exact absurd h e
      · rw [if_pos (b.1 p h)]; exact at_rt b.2.2.1 h
      · rw [if_neg (by have := b.2.1 p h; omega)]; exact at_rt b.2.2.2 h
theorem rt_path {p x : Int} : ∀ {t : T}, t.rt = some p → x ∈ t.pre → p ∈ t.path x
  | leaf, h, _ => by cases h
  | node l k r, h, _ => by
    have e : k = p := Option.some.inj h
    subst e
    show k ∈ (if x = k then [k] else if x < k then k :: l.path x else k :: r.path x)
    split
    · exact List.mem_singleton.mpr rfl
    · split <;> exact List.mem_cons_self
theorem path_tr {j k x : Int} : ∀ {t : T}, t.bst → j ∈ t.path k → k ∈ t.path x → j ∈ t.path x
  | leaf, _, h, _ => by cases h
  | node l c r, b, h1, h2 => by
    have top : c ∈ (node l c r).path x := by
      show c ∈ (if x = c then [c] else if x < c then c :: l.path x else c :: r.path x)
      split
      · exact List.mem_singleton.mpr rfl
      · split <;> exact List.mem_cons_self
    by_cases ej : j = c
    · rw [ej]; exact top
    have h1' : j ∈ (if k = c then [c] else if k < c then c :: l.path k else c :: r.path k) := h1
    have h2' : k ∈ (if x = c then [c] else if x < c then c :: l.path x else c :: r.path x) := h2
    by_cases ek : k = c
    · rw [if_pos ek] at h1'; exact absurd (List.mem_singleton.mp h1') ej
    rw [if_neg ek] at h1'
    show j ∈ (if x = c then [c] else if x < c then c :: l.path x else c :: r.path x)
    by_cases ex : x = c
    · rw [if_pos ex] at h2'; exact absurd (List.mem_singleton.mp h2') ek
    · rw [if_neg ex] at h2' ⊢
      by_cases lx : x < c
      · rw [if_pos lx] at h2' ⊢
        have hk := (List.mem_cons.mp h2').resolve_left ek
        have := b.1 k (path_sub hk)
        rw [if_pos (by omega)] at h1'
        exact List.mem_cons_of_mem _ (path_tr b.2.2.1 ((List.mem_cons.mp h1').resolve_left ej) hk)
      · rw [if_neg lx] at h2' ⊢
        have hk := (List.mem_cons.mp h2').resolve_left ek
        have := b.2.1 k (path_sub hk)
        rw [if_neg (by omega)] at h1'
        exact List.mem_cons_of_mem _ (path_tr b.2.2.2 ((List.mem_cons.mp h1').resolve_left ej) hk)
/-- k is needed on the way from t to u -/
def ndd (t u : T) (k : Int) : Bool := !decide ((t.cutTo u k).pre = (u.at k).pre)
theorem ndd_no {t u : T} {k : Int} (bt : t.bst) (bu : u.bst) : ndd t u k = false ↔ t.cutTo u k = u.at k := by
  unfold ndd
  rw [Bool.not_eq_false', decide_eq_true_iff]
  exact ⟨fun h => pre_inj (restr_bst bt) (at_bst bu) h, fun h => by rw [h]⟩
theorem ndd_pre {t u : T} {k : Int} : ndd t u k = false ↔ (t.cutTo u k).pre = (u.at k).pre := by
  unfold ndd
  rw [Bool.not_eq_false', decide_eq_true_iff]
theorem ndd_self {u : T} {k : Int} (bu : u.bst) (h : k ∈ u.pre) : ndd u u k = false := (ndd_no bu bu).mpr (cut_self bu h)
/-- S within S': the smaller cut of what agrees agrees -/
theorem cut_within {t u v : T} {j k : Int} (bt : t.bst) (bu : u.bst) (bv : v.bst) (hj : j ∈ u.pre) (hk : k ∈ v.pre) (stu : ∀ x, x ∈ t.pre → x ∈ u.pre) (suv : ∀ x, x ∈ u.pre → x ∈ v.pre) (w : ∀ x ∈ (v.at k).pre, x ∈ (u.at j).pre) (h : ndd t u j = false) : (t.cutTo v k).pre = (u.cutTo v k).pre := by
  have h' := ndd_pre.mp h
  rw [cut_pre bt bu hj stu] at h'
  rw [cut_pre bt bv hk fun x z => suv x (stu x z), cut_pre bu bv hk suv]
  have e : ∀ l : List Int, l.filter (fun x => decide (x ∈ (v.at k).pre)) = (l.filter fun x => decide (x ∈ (u.at j).pre)).filter fun x => decide (x ∈ (v.at k).pre) := fun l => by
    rw [List.filter_filter]
    refine List.filter_congr fun x _ => ?_
    rw [Bool.eq_iff_iff, Bool.and_eq_true, decide_eq_true_iff, decide_eq_true_iff]
    exact ⟨fun z => ⟨z, w x z⟩, fun z => z.1⟩
  rw [e t.pre, e u.pre, h', at_filter bu hj]
theorem ndd_tri {a b c : T} {k : Int} (ba : a.bst) (bb : b.bst) (bc : c.bst) (hk : k ∈ c.pre) (sab : ∀ x, x ∈ a.pre ↔ x ∈ b.pre) (sbc : ∀ x, x ∈ b.pre ↔ x ∈ c.pre) (h : ndd a c k = true) : ndd a b k = true ∨ ndd b c k = true := by
  cases h2 : ndd b c k with
  | true => exact .inr rfl
  | false =>
    cases h1 : ndd a b k with
    | true => exact .inl rfl
    | false =>
      exfalso
      have hkb := (sbc k).mpr hk
      have eb := (ndd_no bb bc).mp h2
      have w : ∀ x ∈ (c.at k).pre, x ∈ (b.at k).pre := fun x hx => by
        have hxc := ((at_mem bc hk).mp hx).1
        have ok := ((at_mem bc hk).mp hx).2
        have p1 := rt_path (at_rt bc hk) hx
        rw [← eb] at p1
        unfold T.cutTo at p1
        rw [restr_path ok bb] at p1
        exact (path_at bb hkb ((sbc x).mpr hxc)).mp (List.mem_filter.mp p1).1
      have e := cut_within ba bb bc hkb hk (fun x => (sab x).mp) (fun x => (sbc x).mp) w h1
      have : ndd a c k = false := ndd_pre.mpr (e.trans (ndd_pre.mp h2))
      rw [this] at h; cases h
theorem ndd_up {a c : T} {j k : Int} (ba : a.bst) (bc : c.bst) (hk : k ∈ c.pre) (sac : ∀ x, x ∈ a.pre ↔ x ∈ c.pre) (hj : j ∈ c.path k) (h : ndd a c k = true) : ndd a c j = true := by
  cases h1 : ndd a c j with
  | true => rfl
  | false =>
    exfalso
    have hjc : j ∈ c.pre := path_sub hj
    have w : ∀ x ∈ (c.at k).pre, x ∈ (c.at j).pre := fun x hx => by
      have hxc := at_sub hx
      exact (path_at bc hjc hxc).mp (path_tr bc hj ((path_at bc hk hxc).mpr hx))
    have e := cut_within ba bc bc hjc hk (fun x => (sac x).mp) (fun _ z => z) w h1
    rw [cut_self bc hk] at e
    have : ndd a c k = false := ndd_pre.mpr e
    rw [this] at h; cases h
def ng (o : Option Int) : Option Int := o.map fun x => -x
theorem okLo_ng {o : Option Int} {x : Int} : okLo (ng o) (-x) = okHi o x := by
  cases o with
  | none => rfl
  | some y => show decide (-y < -x) = decide (x < y); rw [decide_eq_decide]; omega
theorem okHi_ng {o : Option Int} {x : Int} : okHi (ng o) (-x) = okLo o x := by
  cases o with
  | none => rfl
  | some y => show decide (-x < -y) = decide (y < x); rw [decide_eq_decide]; omega
theorem ng_ng {o : Option Int} : ng (ng o) = o := by cases o <;> simp [ng]
theorem restr_mir {lo hi : Option Int} : ∀ {t : T}, t.bst → (t.restr lo hi).mir = t.mir.restr (ng hi) (ng lo)
  | leaf, _ => rfl
  | node l k r, b => by
    show (if okLo lo k = false then r.restr lo hi else if okHi hi k = false then l.restr lo hi else node (l.restr lo hi) k (r.restr lo hi)).mir = (if okLo (ng hi) (-k) = false then l.mir.restr (ng hi) (ng lo) else if okHi (ng lo) (-k) = false then r.mir.restr (ng hi) (ng lo) else node (r.mir.restr (ng hi) (ng lo)) (-k) (l.mir.restr (ng hi) (ng lo)))
    rw [okLo_ng, okHi_ng, ← restr_mir b.2.2.1, ← restr_mir b.2.2.2]
    by_cases h1 : okLo lo k = false
    · rw [if_pos h1]
      by_cases h2 : okHi hi k = false
      · rw [if_pos h2]
        have e1 : (r.restr lo hi).pre = [] := by
          rw [restr_pre b.2.2.2]
          exact filter_none fun x hx => by rw [okHi_mono h2 (Int.le_of_lt (b.2.1 x hx)), Bool.and_false]
        have e2 : (l.restr lo hi).pre = [] := by
          rw [restr_pre b.2.2.1]
          exact filter_none fun x hx => by rw [okLo_mono h1 (Int.le_of_lt (b.1 x hx)), Bool.false_and]
        rw [leaf_of e1, leaf_of e2]
      · rw [if_neg h2, if_pos h1]
    · rw [if_neg h1]
      by_cases h2 : okHi hi k = false
      · rw [if_pos h2, if_pos h2]
      · rw [if_neg h2, if_neg h2, if_neg h1]; rfl
theorem bdL_mir {p : Int} : ∀ {t : T} {o : Option Int}, t.mir.bdL (-p) (ng o) = ng (t.bdH p o)
  | leaf, _ => rfl
  | node l k r, o => by
    show (if -p = -k then ng o else if -p < -k then r.mir.bdL (-p) (ng o) else l.mir.bdL (-p) (some (-k))) = ng (if p = k then o else if p < k then l.bdH p (some k) else r.bdH p o)
    by_cases e : p = k
    · rw [if_pos e, if_pos (by rw [e])]
    · rw [if_neg e, if_neg (by omega)]
      by_cases lt : p < k
      · rw [if_pos lt, if_neg (by omega), ← bdL_mir]; rfl
      · rw [if_neg lt, if_pos (by omega), bdL_mir]
theorem bdH_mir {p : Int} : ∀ {t : T} {o : Option Int}, t.mir.bdH (-p) (ng o) = ng (t.bdL p o)
  | leaf, _ => rfl
  | node l k r, o => by
    show (if -p = -k then ng o else if -p < -k then r.mir.bdH (-p) (some (-k)) else l.mir.bdH (-p) (ng o)) = ng (if p = k then o else if p < k then l.bdL p o else r.bdL p (some k))
    by_cases e : p = k
    · rw [if_pos e, if_pos (by rw [e])]
    · rw [if_neg e, if_neg (by omega)]
      by_cases lt : p < k
      · rw [if_pos lt, if_neg (by omega), bdH_mir]
      · rw [if_neg lt, if_pos (by omega), ← bdH_mir]; rfl
theorem at_mir {p : Int} : ∀ {t : T}, t.mir.at (-p) = (t.at p).mir
  | leaf => rfl
  | node l k r => by
    show (if -p = -k then node r.mir (-k) l.mir else if -p < -k then r.mir.at (-p) else l.mir.at (-p)) = (if p = k then node l k r else if p < k then l.at p else r.at p).mir
    by_cases e : p = k
    · rw [if_pos e, if_pos (by rw [e])]; rfl
    · rw [if_neg e, if_neg (by omega)]
      by_cases lt : p < k
      · rw [if_pos lt, if_neg (by omega), at_mir]
      · rw [if_neg lt, if_pos (by omega), at_mir]
theorem ndd_mir {a c : T} {k : Int} (ba : a.bst) (bc : c.bst) : ndd a.mir c.mir (-k) = ndd a c k := by
  have e : ndd a.mir c.mir (-k) = false ↔ ndd a c k = false := by
    rw [ndd_no (bst_mir ba) (bst_mir bc), ndd_no ba bc, at_mir]
    unfold T.cutTo
    have h1 := bdL_mir (p := k) (t := c) (o := none)
    have h2 := bdH_mir (p := k) (t := c) (o := none)
    rw [show c.mir.bdL (-k) none = ng (c.bdH k none) from h1, show c.mir.bdH (-k) none = ng (c.bdL k none) from h2, ← restr_mir ba]
    exact ⟨fun z => by rw [← mir_mir (t := a.restr (c.bdL k none) (c.bdH k none)), z, mir_mir], fun z => by rw [z]⟩
  cases h : ndd a c k with
  | false => exact e.mpr h
  | true =>
    cases g : ndd a.mir c.mir (-k) with
    | true => rfl
    | false => rw [e.mp g] at h; cases h
theorem ndd_none {a c : T} (ba : a.bst) (bc : c.bst) (sac : ∀ x, x ∈ a.pre ↔ x ∈ c.pre) : (∀ k ∈ c.pre, ndd a c k = false) ↔ a.pre = c.pre := by
  constructor
  · intro h
    cases c with
    | leaf =>
      cases a with
      | leaf => rfl
      | node l k r => exact absurd ((sac k).mp (mem_node.mpr (.inl rfl))) (by intro z; cases z)
    | node l k r =>
      have hk : k ∈ (node l k r).pre := mem_node.mpr (.inl rfl)
      have z := ndd_pre.mp (h k hk)
      have ea : (node l k r).at k = node l k r := by show (if k = k then node l k r else _) = _; rw [if_pos rfl]
      rw [cut_pre ba bc hk (fun x => (sac x).mp), ea] at z
      rw [← z]
      exact (filter_all fun x hx => decide_eq_true ((sac x).mp hx)).symm
  · intro h k hk
    have e := pre_inj ba bc h
    rw [e]; exact ndd_self bc hk
/-- the needed keys in their order -/
structure Need (a c : T) (ns : List Int) : Prop where
  lt : ns.Pairwise (· < ·)
  mem : ∀ x, x ∈ ns ↔ x ∈ c.pre ∧ ndd a c x = true
theorem asc_eq : ∀ {l m : List Int}, l.Pairwise (· < ·) → m.Pairwise (· < ·) → (∀ x, x ∈ l ↔ x ∈ m) → l = m := fun {l m} hl hm h => by
  have nl : l.Nodup := hl.imp fun z => by omega
  have nm : m.Nodup := hm.imp fun z => by omega
  exact perm_sorted ((List.perm_ext_iff_of_nodup nl nm).mpr h) (hl.imp fun z => by omega) (hm.imp fun z => by omega)
theorem need_of {a c : T} {ns : List Int} (bc : c.bst) (p : ns.Perm (c.pre.filter (ndd a c))) (s : ns.Pairwise (· ≤ ·)) : Need a c ns := by
  refine ⟨lt_of_le_nodup ns s (p.nodup_iff.mpr (List.Nodup.sublist List.filter_sublist (nodup_pre bc))), fun x => ?_⟩
  rw [p.mem_iff, List.mem_filter]
theorem Need.len {a c : T} {ns : List Int} (h : Need a c ns) : ns.length ≤ c.pre.length :=
  int_nodup_len ns c.pre (h.lt.imp fun z => by omega) fun x hx => ((h.mem x).mp hx).1
theorem Need.uniq {a c : T} {ns ms : List Int} (h : Need a c ns) (g : Need a c ms) : ns = ms := asc_eq h.lt g.lt fun x => by rw [h.mem, g.mem]
/-! ### promises -/
def spReqSame (K : PySem.W.Frag) : Sp := fun vs H Q _ => ∃ (a b : Addr) (xs ys : List Int), vs = [.ref a, .ref b] ∧ SqT K H a (xs.map V.int) ∧ SqT K H b (ys.map V.int) ∧ xs.length < 64 ∧ ys.length < 64 ∧ (∀ x, x ∈ xs ↔ x ∈ ys) ∧ ∀ H', Same H H' → Q .non H'
def spBoth (K : PySem.W.Frag) : Sp := fun vs H Q _ => ∃ (a b : Addr) (key : Int) (t u : T), vs = [.ref a, .ref b, .int key] ∧ SqT K H a (t.pre.map V.int) ∧ SqT K H b (u.pre.map V.int) ∧ t.bst ∧ u.bst ∧ t.pre.length ≤ 1000 ∧ u.pre.length ≤ 1000 ∧ key ∈ u.pre ∧
  ∀ p p1 p2 H', Same H H' → H' p = some (.tup [.ref p1, .ref p2]) → H' p1 = some (.tup ((t.cutTo u key).pre.map V.int)) → H' p2 = some (.tup ((u.at key).pre.map V.int)) → Q (.ref p) H'
def spIsNeed (K : PySem.W.Frag) : Sp := fun vs H Q _ => ∃ (a b : Addr) (key : Int) (t u : T), vs = [.ref a, .ref b, .int key] ∧ SqT K H a (t.pre.map V.int) ∧ SqT K H b (u.pre.map V.int) ∧ t.bst ∧ u.bst ∧ t.pre.length ≤ 1000 ∧ u.pre.length ≤ 1000 ∧ key ∈ u.pre ∧
  ∀ H', Same H H' → Q (.bl (ndd t u key)) H'
def spNTop (K : PySem.W.Frag) : Sp := fun vs H Q _ => ∃ (a b : Addr) (t u : T), vs = [.ref a, .ref b] ∧ SqT K H a (t.pre.map V.int) ∧ SqT K H b (u.pre.map V.int) ∧ t.bst ∧ u.bst ∧ t.pre.length < 64 ∧ u.pre.length < 64 ∧ (∀ x, x ∈ t.pre ↔ x ∈ u.pre) ∧
  ∀ p H', Same H H' → H' p = some (.tup ((u.pre.filter (ndd t u)).map V.int)) → Q (.ref p) H'
def spNKeys (K : PySem.W.Frag) : Sp := fun vs H Q _ => ∃ (a b : Addr) (t u : T), vs = [.ref a, .ref b] ∧ SqT K H a (t.pre.map V.int) ∧ SqT K H b (u.pre.map V.int) ∧ t.bst ∧ u.bst ∧ t.pre.length < 64 ∧ u.pre.length < 64 ∧ (∀ x, x ∈ t.pre ↔ x ∈ u.pre) ∧
  ∀ ns p H', Need t u ns → Same H H' → H p = none → H' p = some (.lst (ns.map V.int)) → Q (.ref p) H'
theorem Drw.neT {c d y : Addr} {ns : List Int} {H : Hp} {xs : List V} (hD : Drw c ns H d) (h : H y = some (.tup xs)) : y ≠ d := fun e => by
  obtain ⟨i, b, z, hd, _⟩ := hD
  rw [e, hd] at h; cases h
def spPairL (K : PySem.W.Frag) : Sp := fun vs H Q _ => ∃ (d a : Addr) (ks : List Int) (most : Int) (c : Addr) (ns : List Int), vs = [.ref d, .ref a, .int most] ∧ H a = some (.lst (ks.map V.int)) ∧ Asc ks ∧ ks.length ≤ 49 ∧ 0 ≤ most ∧ most ≤ 1000 ∧ a ≠ d ∧ Drw c ns H d ∧
  ∀ (t u : T) p pt pu H', t.bst → u.bst → t.pre.Perm ks → u.pre.Perm ks → Ext d H H' → Drw c ns H' d → H p = none → H' p = some (.tup [.ref pt, .ref pu]) → H' pt = some (.tup (t.pre.map V.int)) → H' pu = some (.tup (u.pre.map V.int)) → Q (.ref p) H'
end TT
/-! where two shapes part; triples -/
namespace TT
open PySem PySem.Spec PyProof.Rows L2 HotX LamX T
/-- the pairs at which two lists differ -/
def prt (xs ys : List Int) : List (Int × Int) := (xs.zip ys).filter fun p => !decide (p.1 = p.2)
theorem prt_cons {x y : Int} {xs ys : List Int} : prt (x :: xs) (y :: ys) = if x = y then prt xs ys else (x, y) :: prt xs ys := by
  unfold prt
  rw [List.zip_cons_cons, List.filter_cons]
  by_cases h : x = y
  · simp [h]
  · simp [h]
theorem prt_same : ∀ (xs : List Int), prt xs xs = []
  | [] => rfl
  | x :: xs => by rw [prt_cons, if_pos rfl, prt_same xs]
theorem prt_app : ∀ {xs ys us vs : List Int}, xs.length = ys.length → prt (xs ++ us) (ys ++ vs) = prt xs ys ++ prt us vs
  | [], [], _, _, _ => rfl
  | x :: xs, y :: ys, us, vs, h => by
    rw [List.cons_append, List.cons_append, prt_cons, prt_cons, prt_app (by simpa using h)]
    split <;> rfl
  | [], _ :: _, _, _, h => by cases h
  | _ :: _, [], _, _, h => by cases h
theorem same_len {t u : T} (bt : t.bst) (bu : u.bst) (s : ∀ x, x ∈ t.pre ↔ x ∈ u.pre) : t.pre.length = u.pre.length :=
  ((List.perm_ext_iff_of_nodup (nodup_pre bt) (nodup_pre bu)).mpr s).length_eq
/-- what the first pair at which two shapes differ tells -/
theorem prt_tells : ∀ {t u : T}, t.bst → u.bst → (∀ x, x ∈ t.pre ↔ x ∈ u.pre) → t.pre ≠ u.pre → ∃ x y r, prt t.pre u.pre = (x, y) :: r ∧ x ≠ y ∧ x ∈ t.path y ∧ y ∈ u.path x ∧ x ∈ t.pre ∧ y ∈ t.pre
  | leaf, u, _, _, s, n => by
    cases u with
    | leaf => exact absurd rfl n
    | node l k r => exact absurd ((s k).mpr (mem_node.mpr (.inl rfl))) (by intro z; cases z)
  | node l k r, leaf, _, _, s, n => absurd ((s k).mp (mem_node.mpr (.inl rfl))) (by intro z; cases z)
  | node l k r, node l' k' r', b, b', s, n => by
    by_cases e : k = k'
    · subst e
      have sl : ∀ x, x ∈ l.pre ↔ x ∈ l'.pre := fun x => by
        constructor
        · intro h
          have lx := b.1 x h
          rcases mem_node.mp ((s x).mp (mem_node.mpr (.inr (.inl h)))) with z | z | z
          · omega
          · exact z
          · have := b'.2.1 x z; omega
        · intro h
          have lx := b'.1 x h
          rcases mem_node.mp ((s x).mpr (mem_node.mpr (.inr (.inl h)))) with z | z | z
          · omega
          · exact z
          · have := b.2.1 x z; omega
      have sr : ∀ x, x ∈ r.pre ↔ x ∈ r'.pre := fun x => by
        constructor
        · intro h
          have lx := b.2.1 x h
          rcases mem_node.mp ((s x).mp (mem_node.mpr (.inr (.inr h)))) with z | z | z
          · omega
          · have := b'.1 x z; omega
          · exact z
        · intro h
          have lx := b'.2.1 x h
          rcases mem_node.mp ((s x).mpr (mem_node.mpr (.inr (.inr h)))) with z | z | z
          · omega
          · have := b.1 x z; omega
          · exact z
      have ep : prt (node l k r).pre (node l' k r').pre = prt l.pre l'.pre ++ prt r.pre r'.pre := by
        show prt (k :: (l.pre ++ r.pre)) (k :: (l'.pre ++ r'.pre)) = _
        rw [prt_cons, if_pos rfl, prt_app (same_len b.2.2.1 b'.2.2.1 sl)]
      by_cases nl : l.pre = l'.pre
      · have nr : r.pre ≠ r'.pre := fun z => n (by show k :: (l.pre ++ r.pre) = k :: (l'.pre ++ r'.pre); rw [nl, z])
        obtain ⟨x, y, q, h1, h2, h3, h4, h5, h6⟩ := prt_tells b.2.2.2 b'.2.2.2 sr nr
        refine ⟨x, y, q, by rw [ep, nl, prt_same, h1]; rfl, h2, ?_, ?_, mem_node.mpr (.inr (.inr h5)), mem_node.mpr (.inr (.inr h6))⟩
        · rw [path_r b h6]; exact List.mem_cons_of_mem _ h3
        · rw [path_r b' ((sr x).mp h5)]; exact List.mem_cons_of_mem _ h4
      · obtain ⟨x, y, q, h1, h2, h3, h4, h5, h6⟩ := prt_tells b.2.2.1 b'.2.2.1 sl nl
        refine ⟨x, y, q ++ prt r.pre r'.pre, by rw [ep, h1]; rfl, h2, ?_, ?_, mem_node.mpr (.inr (.inl h5)), mem_node.mpr (.inr (.inl h6))⟩
        · rw [path_l b h6]; exact List.mem_cons_of_mem _ h3
        · rw [path_l b' ((sl x).mp h5)]; exact List.mem_cons_of_mem _ h4
    · refine ⟨k, k', prt (l.pre ++ r.pre) (l'.pre ++ r'.pre), by show prt (k :: _) (k' :: _) = _; rw [prt_cons, if_neg e], e, rt_path rfl ((s k').mpr (mem_node.mpr (.inl rfl))), rt_path rfl ((s k).mp (mem_node.mpr (.inl rfl))), mem_node.mpr (.inl rfl), (s k').mpr (mem_node.mpr (.inl rfl))⟩
theorem path_anti {x y : Int} : ∀ {t : T}, t.bst → x ≠ y → x ∈ t.path y → y ∈ t.path x → False
  | leaf, _, _, h, _ => by cases h
  | node l k r, b, n, h1, h2 => by
    have h1' : x ∈ (if y = k then [k] else if y < k then k :: l.path y else k :: r.path y) := h1
    have h2' : y ∈ (if x = k then [k] else if x < k then k :: l.path x else k :: r.path x) := h2
    by_cases ey : y = k
    · rw [if_pos ey] at h1'
      exact n ((List.mem_singleton.mp h1').trans ey.symm)
    by_cases ex : x = k
    · rw [if_pos ex] at h2'
      exact n (ex.trans (List.mem_singleton.mp h2').symm)
    rw [if_neg ey] at h1'
    rw [if_neg ex] at h2'
    by_cases ly : y < k
    · rw [if_pos ly] at h1'
      have hx := (List.mem_cons.mp h1').resolve_left ex
      have := b.1 x (path_sub hx)
      rw [if_pos (by omega)] at h2'
      exact path_anti b.2.2.1 n hx ((List.mem_cons.mp h2').resolve_left ey)
    · rw [if_neg ly] at h1'
      have hx := (List.mem_cons.mp h1').resolve_left ex
      have := b.2.1 x (path_sub hx)
      rw [if_neg (by omega)] at h2'
      exact path_anti b.2.2.2 n hx ((List.mem_cons.mp h2').resolve_left ey)
theorem at_path {u : T} {k x y : Int} (b : u.bst) (hk : k ∈ u.pre) (hx : x ∈ (u.at k).pre) (hy : y ∈ (u.at k).pre) : x ∈ (u.at k).path y ↔ x ∈ u.path y := by
  rw [← cut_self b hk] 
  unfold T.cutTo
  rw [restr_path ((at_mem b hk).mp hy).2 b, List.mem_filter]
  exact ⟨fun z => z.1, fun z => ⟨z, ((at_mem b hk).mp hx).2⟩⟩
theorem at_abv {u : T} {k x y : Int} (b : u.bst) (hk : k ∈ u.pre) (hx : x ∈ (u.at k).pre) (hy : y ∈ (u.at k).pre) : (u.at k).abv x y = u.abv x y := by
  rw [Bool.eq_iff_iff, abv_iff, abv_iff, at_path b hk hx hy]
/-- the triple k, x, y shows that k is needed -/
structure Wit (t u : T) (k x y : Int) : Prop where
  hk : k ∈ u.pre
  hx : x ∈ (u.at k).pre
  hy : y ∈ (u.at k).pre
  ab : u.abv x y = true
  no : t.abv x y = false
theorem cut_mem {t u : T} {k x : Int} (bt : t.bst) (bu : u.bst) (hk : k ∈ u.pre) (s : ∀ x, x ∈ t.pre ↔ x ∈ u.pre) : x ∈ (t.cutTo u k).pre ↔ x ∈ (u.at k).pre := by
  rw [cut_pre bt bu hk fun x => (s x).mp, List.mem_filter, decide_eq_true_iff]
  exact ⟨fun z => z.2, fun z => ⟨(s x).mpr (at_sub z), z⟩⟩
theorem wit_of {t u : T} {k : Int} (bt : t.bst) (bu : u.bst) (hk : k ∈ u.pre) (s : ∀ x, x ∈ t.pre ↔ x ∈ u.pre) (n : ndd t u k = true) : ∃ x y r, prt (u.at k).pre (t.cutTo u k).pre = (x, y) :: r ∧ Wit t u k x y := by
  have ne : (u.at k).pre ≠ (t.cutTo u k).pre := fun z => by rw [ndd_pre.mpr z.symm] at n; cases n
  obtain ⟨x, y, r, h1, h2, h3, h4, h5, h6⟩ := prt_tells (at_bst bu) (restr_bst bt) (fun x => (cut_mem bt bu hk s).symm) ne
  refine ⟨x, y, r, h1, hk, h5, h6, abv_iff.mpr ⟨h2, (at_path bu hk h5 h6).mp h3⟩, ?_⟩
  have h4' : y ∈ t.path x := by
    have z : y ∈ (t.restr (u.bdL k none) (u.bdH k none)).path x := h4
    rw [restr_path ((at_mem bu hk).mp h5).2 bt] at z
    exact (List.mem_filter.mp z).1
  cases c : t.abv x y with
  | false => rfl
  | true => exact (path_anti bt h2 (abv_iff.mp c).2 h4').elim
/-- what triple_holds answers -/
def trip (t u : T) (k x y : Int) : Bool := decide (k ∈ u.pre) && (decide (x ∈ (u.at k).pre) && decide (y ∈ (u.at k).pre)) && (u.abv x y && !t.abv x y)
theorem wit_trip {t u : T} {k x y : Int} (h : Wit t u k x y) : trip t u k x y = true := by
  unfold trip
  rw [decide_eq_true h.hk, decide_eq_true h.hx, decide_eq_true h.hy, h.ab, h.no]; rfl
/-! ### triples in the heap -/
def TrS (H : Hp) : List (Int × Int × Int) → List V → Prop
  | [], vs => vs = []
  | q :: qs, vs => ∃ p ws, vs = V.ref p :: ws ∧ H p = some (.tup [.int q.1, .int q.2.1, .int q.2.2]) ∧ TrS H qs ws
theorem TrS.same {H H' : Hp} (e : Same H H') : ∀ {qs : List (Int × Int × Int)} {vs : List V}, TrS H qs vs → TrS H' qs vs
  | [], _, h => h
  | q :: qs, _, ⟨p, ws, h1, h2, h3⟩ => ⟨p, ws, h1, e _ _ h2, h3.same e⟩
theorem TrS.len {H : Hp} : ∀ {qs : List (Int × Int × Int)} {vs : List V}, TrS H qs vs → vs.length = qs.length
  | [], _, h => by rw [show _ = [] from h]; rfl
  | q :: qs, _, ⟨p, ws, h1, _, h3⟩ => by rw [h1, List.length_cons, List.length_cons, h3.len]
theorem TrS.get {H : Hp} : ∀ {qs : List (Int × Int × Int)} {vs : List V}, TrS H qs vs → ∀ (i : Nat) v, vs[i]? = some v → ∃ p q, v = .ref p ∧ qs[i]? = some q ∧ H p = some (.tup [.int q.1, .int q.2.1, .int q.2.2])
  | [], _, h, i, v, hv => by rw [show _ = [] from h] at hv; cases hv
  | q :: qs, _, ⟨p, ws, h1, h2, h3⟩, i, v, hv => by
    rw [h1] at hv
    cases i with
    | zero => cases hv; exact ⟨p, q, rfl, rfl, h2⟩
    | succ i => exact h3.get i v hv
theorem TrS.snoc {H : Hp} {p : Addr} {q : Int × Int × Int} (hp : H p = some (.tup [.int q.1, .int q.2.1, .int q.2.2])) : ∀ {qs : List (Int × Int × Int)} {vs : List V}, TrS H qs vs → TrS H (qs ++ [q]) (vs ++ [.ref p])
  | [], _, h => by rw [show _ = [] from h]; exact ⟨p, [], rfl, hp, rfl⟩
  | q' :: qs, _, ⟨p', ws, h1, h2, h3⟩ => by rw [h1]; exact ⟨p', ws ++ [.ref p], rfl, h2, h3.snoc hp⟩
theorem TrS.put {H : Hp} {D : Addr} {xs ys : List V} (hD : H D = some (.lst xs)) : ∀ {qs : List (Int × Int × Int)} {vs : List V}, TrS H qs vs → TrS (upd H D (.lst ys)) qs vs
  | [], _, h => h
  | q :: qs, _, ⟨p, ws, h1, h2, h3⟩ => ⟨p, ws, h1, by rw [upd_ne (fun z => by rw [z, hD] at h2; cases h2)]; exact h2, h3.put hD⟩
theorem TrS.ext {H H' : Hp} {c d : Addr} {ns : List Int} (hD : Drw c ns H d) (e : Ext d H H') : ∀ {qs : List (Int × Int × Int)} {vs : List V}, TrS H qs vs → TrS H' qs vs
  | [], _, h => h
  | q :: qs, _, ⟨p, ws, h1, h2, h3⟩ => ⟨p, ws, h1, e _ _ (hD.neT h2) h2, h3.ext hD e⟩
def PrS (H : Hp) : List (Int × Int) → List V → Prop
  | [], vs => vs = []
  | q :: qs, vs => ∃ p ws, vs = V.ref p :: ws ∧ H p = some (.tup [.int q.1, .int q.2]) ∧ PrS H qs ws
theorem PrS.same {H H' : Hp} (e : Same H H') : ∀ {qs : List (Int × Int)} {vs : List V}, PrS H qs vs → PrS H' qs vs
  | [], _, h => h
  | q :: qs, _, ⟨p, ws, h1, h2, h3⟩ => ⟨p, ws, h1, e _ _ h2, h3.same e⟩
theorem PrS.len {H : Hp} : ∀ {qs : List (Int × Int)} {vs : List V}, PrS H qs vs → vs.length = qs.length
  | [], _, h => by rw [show _ = [] from h]; rfl
  | q :: qs, _, ⟨p, ws, h1, _, h3⟩ => by rw [h1, List.length_cons, List.length_cons, h3.len]
theorem PrS.snoc {H : Hp} {p : Addr} {q : Int × Int} (hp : H p = some (.tup [.int q.1, .int q.2])) : ∀ {qs : List (Int × Int)} {vs : List V}, PrS H qs vs → PrS H (qs ++ [q]) (vs ++ [.ref p])
  | [], _, h => by rw [show _ = [] from h]; exact ⟨p, [], rfl, hp, rfl⟩
  | q' :: qs, _, ⟨p', ws, h1, h2, h3⟩ => by rw [h1]; exact ⟨p', ws ++ [.ref p], rfl, h2, h3.snoc hp⟩
theorem PrS.put {H : Hp} {D : Addr} {xs ys : List V} (hD : H D = some (.lst xs)) : ∀ {qs : List (Int × Int)} {vs : List V}, PrS H qs vs → PrS (upd H D (.lst ys)) qs vs
  | [], _, h => h
  | q :: qs, _, ⟨p, ws, h1, h2, h3⟩ => ⟨p, ws, h1, by rw [upd_ne (fun z => by rw [z, hD] at h2; cases h2)]; exact h2, h3.put hD⟩
theorem prt_take {xs ys : List Int} {i : Nat} {x y : Int} (hx : xs[i]? = some x) (hy : ys[i]? = some y) : prt (xs.take (i + 1)) (ys.take (i + 1)) = prt (xs.take i) (ys.take i) ++ if x = y then [] else [(x, y)] := by
  have l1 := (List.getElem?_eq_some_iff.mp hx).1
  have l2 := (List.getElem?_eq_some_iff.mp hy).1
  rw [List.take_add_one, List.take_add_one, hx, hy]
  show prt (xs.take i ++ [x]) (ys.take i ++ [y]) = _
  rw [prt_app (by rw [List.length_take, List.length_take]; omega), prt_cons]
  rfl
theorem prt_len {xs ys : List Int} : (prt xs ys).length ≤ xs.length := by
  unfold prt
  refine Nat.le_trans (List.length_filter_le _ _) ?_
  rw [List.length_zip]; omega
/-! ### promises -/
def spParting (K : PySem.W.Frag) : Sp := fun vs H Q _ => ∃ (a b : Addr) (xs ys : List Int) (x y : Int) (r : List (Int × Int)), vs = [.ref a, .ref b] ∧ SqT K H a (xs.map V.int) ∧ SqT K H b (ys.map V.int) ∧ xs.length = ys.length ∧ xs.length ≤ 1000 ∧ prt xs ys = (x, y) :: r ∧
  ∀ p H', Same H H' → H' p = some (.tup [.int x, .int y]) → Q (.ref p) H'
def spNTrip (K : PySem.W.Frag) : Sp := fun vs H Q _ => ∃ (a b : Addr) (key : Int) (t u : T), vs = [.ref a, .ref b, .int key] ∧ SqT K H a (t.pre.map V.int) ∧ SqT K H b (u.pre.map V.int) ∧ t.bst ∧ u.bst ∧ t.pre.length ≤ 1000 ∧ u.pre.length ≤ 1000 ∧ key ∈ u.pre ∧ (∀ x, x ∈ t.pre ↔ x ∈ u.pre) ∧ ndd t u key = true ∧
  ∀ x y p H', Wit t u key x y → prt (u.at key).pre (t.cutTo u key).pre = (x, y) :: (prt (u.at key).pre (t.cutTo u key).pre).tail → Same H H' → H p = none → H' p = some (.tup [.int key, .int x, .int y]) → Q (.ref p) H'
/-- the triples of the needed keys -/
structure Pap (t u : T) (qs : List (Int × Int × Int)) : Prop where
  nd : Need t u (qs.map (·.1))
  wit : ∀ q ∈ qs, Wit t u q.1 q.2.1 q.2.2
  fst : ∀ q ∈ qs, (prt (u.at q.1).pre (t.cutTo u q.1).pre).head? = some q.2
def spNPaper (K : PySem.W.Frag) : Sp := fun vs H Q _ => ∃ (a b : Addr) (t u : T), vs = [.ref a, .ref b] ∧ SqT K H a (t.pre.map V.int) ∧ SqT K H b (u.pre.map V.int) ∧ t.bst ∧ u.bst ∧ t.pre.length < 64 ∧ u.pre.length < 64 ∧ (∀ x, x ∈ t.pre ↔ x ∈ u.pre) ∧
  ∀ qs ws p H', Pap t u qs → Same H H' → H p = none → H' p = some (.lst ws) → TrS H' qs ws → Q (.ref p) H'
def spTrip (K : PySem.W.Frag) : Sp := fun vs H Q _ => ∃ (a b : Addr) (k x y : Int) (t u : T), vs = [.ref a, .ref b, .int k, .int x, .int y] ∧ SqT K H a (t.pre.map V.int) ∧ SqT K H b (u.pre.map V.int) ∧ t.bst ∧ u.bst ∧ t.pre.length ≤ 1000 ∧ u.pre.length ≤ 1000 ∧ (∀ x, x ∈ t.pre ↔ x ∈ u.pre) ∧
  ∀ H', Same H H' → Q (.bl (trip t u k x y)) H'
def spPaperH (K : PySem.W.Frag) : Sp := fun vs H Q _ => ∃ (a b c : Addr) (t u : T) (qs : List (Int × Int × Int)) (ws : List V), vs = [.ref a, .ref b, .ref c] ∧ SqT K H a (t.pre.map V.int) ∧ SqT K H b (u.pre.map V.int) ∧ t.bst ∧ u.bst ∧ t.pre.length < 64 ∧ u.pre.length < 64 ∧ (∀ x, x ∈ t.pre ↔ x ∈ u.pre) ∧ Sq K H c ws ∧ TrS H qs ws ∧ qs.length ≤ 1000 ∧
  ∀ H', Same H H' → Q (.bl (qs.all fun q => trip t u q.1 q.2.1 q.2.2)) H'
theorem pap_of {t u : T} {ns : List Int} {qs : List (Int × Int × Int)} (h : Need t u ns) (e : qs.map (·.1) = ns) (w : ∀ q ∈ qs, Wit t u q.1 q.2.1 q.2.2) (f : ∀ q ∈ qs, (prt (u.at q.1).pre (t.cutTo u q.1).pre).head? = some q.2) : Pap t u qs := ⟨by rw [e]; exact h, w, f⟩
theorem Pap.uniq {t u : T} {qs rs : List (Int × Int × Int)} (h : Pap t u qs) (g : Pap t u rs) : qs = rs := by
  have e := h.nd.uniq g.nd
  refine List.ext_getElem? fun i => ?_
  have ei : (qs.map (·.1))[i]? = (rs.map (·.1))[i]? := by rw [e]
  rw [List.getElem?_map, List.getElem?_map] at ei
  cases hq : qs[i]? with
  | none =>
    rw [hq] at ei
    cases hr : rs[i]? with
    | none => rfl
    | some r => rw [hr] at ei; cases ei
  | some q =>
    rw [hq] at ei
    cases hr : rs[i]? with
    | none => rw [hr] at ei; cases ei
    | some r =>
      rw [hr] at ei
      have e1 : q.1 = r.1 := Option.some.inj ei
      have f1 := h.fst q (List.mem_of_getElem? hq)
      have f2 := g.fst r (List.mem_of_getElem? hr)
      rw [e1, f2] at f1
      have e2 : r.2 = q.2 := Option.some.inj f1
      exact congrArg some (Prod.ext e1 e2.symm)
def trD (q : Int × Int × Int) : PyData := .tuple [.int q.1, .int q.2.1, .int q.2.2]
theorem dp_trs {K : PySem.W.Frag} {H : Hp} : ∀ {qs : List (Int × Int × Int)} {vs : List V}, TrS H qs vs → DpAll K H vs (qs.map trD)
  | [], _, h => by rw [show _ = [] from h]; exact .nil
  | q :: qs, _, ⟨p, ws, h1, h2, h3⟩ => by rw [h1]; exact .cons (.tup (SqT.of h2) (.cons (.int _) (.cons (.int _) (.cons (.int _) .nil)))) (dp_trs h3)
theorem lay_trs : ∀ qs : List (Int × Int × Int), PyData.canLayAll0 (qs.map trD) = true
  | [] => rfl
  | q :: qs => by
    show (PyData.canLay0 (trD q) && PyData.canLayAll0 (qs.map trD)) = true
    rw [lay_trs qs]; rfl
theorem depth_trs : ∀ qs : List (Int × Int × Int), PyData.depthAll (qs.map trD) ≤ 1
  | [] => Nat.zero_le _
  | q :: qs => by
    show max (PyData.depth (trD q)) (PyData.depthAll (qs.map trD)) ≤ 1
    have := depth_trs qs
    have e : PyData.depth (trD q) = 1 := rfl
    omega
theorem shaped_trs (qs : List (Int × Int × Int)) : SeqAt.shaped (.list (qs.map trD)) = true := by
  show (PyData.canLayAll0 (qs.map trD) && decide (PyData.depthAll (qs.map trD) + 1 ≤ 64)) = true
  rw [lay_trs, Bool.true_and, decide_eq_true]
  have := depth_trs qs
  omega
theorem rd_neTr {K : PySem.W.Frag} {H : Hp} {a b : Addr} {vs ws : List V} {qs : List (Int × Int × Int)} {Q : VK} (ha : SqL K H a vs) (hb : SqL K H b ws) (hv : TrS H qs vs) (hw : TrS H qs ws) (q : Q (.bl false) H) : rNeD K (.ref a) (.ref b) H Q := by
  refine ⟨_, _, .lst ha (dp_trs hv), .lst hb (dp_trs hw), shaped_trs qs, shaped_trs qs, ?_⟩
  rw [SeqAt.eqv_refl _ (SeqAt.canLay_of_shaped (shaped_trs qs))]
  exact q
def spTripR (K : PySem.W.Frag) : Sp := fun vs H Q _ => ∃ (m1 m2 a p L1 R1 U1 L2' R2 U2 : Addr) (t u : T) (ks : List Int) (k x y : Int) (n1 n2 : Nat), vs = [.ref m1, .ref m2, .ref a, .ref p] ∧ TrAt H m1 L1 R1 U1 t n1 ∧ TrAt H m2 L2' R2 U2 u n2 ∧ SqL K H a (ks.map V.int) ∧ H p = some (.tup [.int k, .int x, .int y]) ∧ t.bst ∧ u.bst ∧ t.pre.Perm ks ∧ u.pre.Perm ks ∧ ks.length ≤ 1000 ∧
  ∀ H', Same H H' → Q (.bl (trip t u k x y)) H'
theorem rd_neTr0 {K : PySem.W.Frag} {H : Hp} {a b : Addr} {vs : List V} {qs : List (Int × Int × Int)} {Q : VK} (ha : SqL K H a vs) (hb : SqL K H b []) (hv : TrS H qs vs) (q : Q (.bl (!qs.isEmpty)) H) : rNeD K (.ref a) (.ref b) H Q := by
  refine ⟨_, _, .lst ha (dp_trs hv), .lst hb .nil, shaped_trs qs, shaped_trs [], ?_⟩
  have e : PyData.eqv (.list (qs.map trD)) (.list []) = qs.isEmpty := by cases qs <;> rfl
  rw [e]
  exact q
theorem TrS.mem {H : Hp} {qs : List (Int × Int × Int)} {vs : List V} (h : TrS H qs vs) {v : V} (hv : v ∈ vs) : ∃ p q, v = .ref p ∧ q ∈ qs ∧ H p = some (.tup [.int q.1, .int q.2.1, .int q.2.2]) := by
  obtain ⟨i, hi⟩ := List.getElem?_of_mem hv
  obtain ⟨p, q, h1, h2, h3⟩ := h.get i v hi
  exact ⟨p, q, h1, List.mem_of_getElem? h2, h3⟩
theorem Drw.neK {c d y : Addr} {ns : List Int} {H : Hp} {ks : List (Key × V)} (hD : Drw c ns H d) (h : H y = some (.dK ks)) : y ≠ d := fun e => by
  obtain ⟨i, b, z, hd, _⟩ := hD
  rw [e, hd] at h; cases h
theorem Nod.ext {H H' : Hp} {m L R U : Addr} {rt : Option Int} {lf rf uf : Int → Option Int} {n : Nat} {c d : Addr} {ns : List Int} (h : Nod H m L R U rt lf rf uf n) (hD : Drw c ns H d) (e : Ext d H H') : Nod H' m L R U rt lf rf uf n := by
  obtain ⟨lk, h1, h2⟩ := h.l
  obtain ⟨rk, h3, h4⟩ := h.r
  obtain ⟨uk, h5, h6⟩ := h.u
  exact ⟨e _ _ (hD.neK h.hm) h.hm, ⟨lk, e _ _ (hD.neK h1) h1, h2⟩, ⟨rk, e _ _ (hD.neK h3) h3, h4⟩, ⟨uk, e _ _ (hD.neK h5) h5, h6⟩, h.mL, h.mR, h.mU, h.LR, h.LU, h.RU⟩
theorem three {xs : List Int} (h : xs.length = 3) : ∃ k x y, xs = [k, x, y] := by
  match xs, h with
  | [k, x, y], _ => exact ⟨k, x, y, rfl⟩
theorem lc_trs {K : PySem.W.Frag} {a : Addr} {qs : List (Int × Int × Int)} {ws : List V} {g : TG} {te : TE} {vs : List Nat} {σ : L2.St} {H1 : Hp} {D : Addr} {Qd : Hp → Prop} (fb : Int × Int × Int → Bool) (hS : SqL K H1 a ws) (hT : TrS H1 qs ws) (nD : H1 D = none) (hl : qs.length ≤ 1000)
    (hs : ∀ p q H2 (Y : VK), H2 p = some (.tup [.int q.1, .int q.2.1, .int q.2.2]) → Same H1 H2 → (∀ H3, Same H2 H3 → Y (.bl (fb q)) H3) → g (.ref p) (wipe σ vs) H2 fun σ2 H3 => wipe σ2 vs = wipe σ vs ∧ te σ2 H3 Y)
    (hd : ∀ H2, Same H1 H2 → H2 D = some (.lst ((qs.map fb).map V.bl)) → Qd H2) :
    ∃ W : Nat → Nat → Hp → Prop, (∃ m, W 0 m (upd H1 D (.lst []))) ∧ ∀ i m H, W i m H →
      ((Itl K a).stop i H ∧ Qd H) ∨ ((Itl K a).go i H ∧ ∃ Nx : Hp → Prop, (∀ H', Nx H' → ∃ m', m' < m ∧ W (i + 1) m' H') ∧ ∀ x H', (Itl K a).yld i H x H' → g x (wipe σ vs) H' fun σ2 H2 => wipe σ2 vs = wipe σ vs ∧ tYes σ2 H2 fun b H3 =>
        if b = true then te σ2 H3 fun y H4 => ∃ acc, H4 D = some (.lst acc) ∧ acc.length < sizeLine ∧ Nx (upd H4 D (.lst (acc ++ [y]))) else Nx H3) := by
  refine lc_list (xs := ws) (tt := tYes) (fun i H2 => Same H1 H2 ∧ H2 D = some (.lst (((qs.take i).map fb).map V.bl))) ⟨same_new nD, upd_same⟩ (fun i H2 _ h => Same.seq h.1 hS) ?_ ?_
  · rintro i v H2 hv ⟨e2, hD⟩
    obtain ⟨p, q, rfl, hq, hp⟩ := hT.get i v hv
    have ht : qs.take (i + 1) = qs.take i ++ [q] := by rw [List.take_add_one, hq]; rfl
    refine hs p q H2 _ (e2 _ _ hp) e2 fun H3 e3 => ⟨_, e3 _ _ hD, szl (by rw [List.length_map, List.length_map, List.length_take]; omega), Same.put (e2.trans e3) nD, ?_⟩
    rw [upd_same, ht, List.map_append, List.map_append]; rfl
  · rintro H2 ⟨e2, hD⟩
    rw [hT.len, List.take_length] at hD
    exact hd H2 e2 hD
theorem eqv_bls {H : Hp} {n : Nat} : ∀ (bs : List Bool), EqvS H n (bs.map V.bl) (bs.map V.bl)
  | [] => .nil
  | b :: bs => .cons (eqv_flat rfl) (eqv_bls bs)
end TT
/-! repr: the law's own call, ahead of which no guard stands -/
namespace TT
open PySem PySem.Spec PyProof.Rows L2 HotX LamX T
/-- as FnOk, of calls in a place without guards -/
structure FnG (P : Program) (w : World) (K : PySem.W.Frag) (mg : Str → Option Value) (base : Heap) (k : Nat) (f : Addr) (fd : FuncData) (ps : List Str) (sp : Sp) : Prop where
  lg : ∀ vs H Q E, sp vs H Q E → vs.length = ps.length
  go : ∀ (A : Around) (out : List Env) (st : Shared) (H : Hp) (ar : Args) (us : List Value) (vs : List V) (Q : VK) (E : XK), A.guards = some [] → Room k A → Env0 P w K mg base A out st H →
    BindsTo st fd ar (ps.zip us) → Vals vs us → sp vs H Q E → codeAny (model P w) A (.call (.ref f) ar) (CR CX0 out P w H st Q E) st
theorem fnG_of {P : Program} {w : World} {K : PySem.W.Frag} {mg : Str → Option Value} {base : Heap} {k : Nat} {x ql : Str} {sm : Stmt} {f : Addr} {fd : FuncData} {N ps : List Str} {sp : Sp} (F : Fun K x ql sm f fd) (S : FnScope N ps (defScope sm)) (lg : ∀ vs H Q E, sp vs H Q E → vs.length = ps.length)
    (bd : ∀ (cdv : Value) (A : Around) (outer : List Env) (s : Shared) (H : Hp) (vs : List V) (Q : VK) (E : XK), A.guards = some [] → Room k (A.deeper (envOfC ql (defScope sm) s.heap.objs.size f cdv)) → sp vs H Q E →
      ∃ t, PSs (cxOf CX0 P w K mg base N ql (defScope sm) f cdv A outer s H E).nox (defBody sm) t ∧ t { nx := fun _ H' => Q .non H', rt := Q } (L2.start N vs) H) : FnG P w K mg base (k + 1) f fd ps sp := by
  obtain ⟨oc, od, kV, dc, pm, an, cdv, ct, sl, rfl, look, code⟩ := F.ex
  refine ⟨lg, fun A out st H ar us vs Q E gd rm en bnd rel prom => ?_⟩
  have inK := en.mod.kin.keeps fun _ _ z => (en.bs _ _ z).1
  have free := en.mod.nolimit.keeps fun _ _ z => (en.bs _ _ z).1
  obtain ⟨t, d1, d2⟩ := bd cdv A out st H vs Q E gd (rm.deeper _) prom
  have kinds : ∀ y ∈ ps.zip us, (defScope sm).names.lookup y.1 = some .local ∨ ((defScope sm).names.lookup y.1 = some .cell ∧ ((cellsFrom (st.heap.objs.size + 1) (defScope sm).names []).lookup y.1).isSome = true) := by
    rintro ⟨n, v⟩ hy
    refine (S.par n (List.of_mem_zip hy).1).imp id fun z => ⟨z, ?_⟩
    exact PySem.W.cellsFrom_some _ _ _ (.inl z)
  refine codeAny_call_function rm.depth (inK _ _ look) rfl S.co S.gen rfl (PySem.W.codeRec_of inK code) (bnd _ _ _ _ ?_)
  refine wpAny_newFunctionEnv_cells S.kind kinds fun ev hev s1 xe => ?_
  subst hev
  have J0 := inv_start (CX := CX0) (E := E) S rm.hd en (lg _ _ _ _ prom) rel xe
  refine ⟨free.keeps xe.toInCall.keep, codeAny_func (wpAny_mono (d1.nox.run [] s1 _ H _ J0 d2) ?_ fun _ _ z => z)⟩
  intro fl s2 hs
  match fl, hs with
  | .ret u, ⟨v, σ2, H2, J, rv, q⟩ => exact ⟨v, H2, J.os, J.bare, J.base, J.hok, rv, q⟩
  | .next, ⟨σ2, H2, J, q⟩ => exact ⟨V.non, H2, J.os, J.bare, J.base, J.hok, rfl, q⟩
  | .brk, ⟨_, _, _, q⟩ => exact q.elim
  | .cont, ⟨_, _, _, q⟩ => exact q.elim
/-- the heap ahead of the law: nothing but the script is known -/
theorem first_hp {P : Program} {w : World} {K : PySem.W.Frag} {h : Heap} {a : Addr} {us : List Value} {ns : List Int} (inK : K.In h) (hob : h.get? a = some { cls := .type "list", data := .seq us.toArray }) (hi : IntsAre us ns) (hl : ns.length ≤ sizeLine) :
    ∃ H : Hp, Only H ∧ SqL K H a (ns.map V.int) ∧ HOk P w H h ∧ ∀ b u, H b = some u → b = a ∧ K.lookup a = none := by
  have rel := vals_ints hi
  have ll := hi.length
  cases hk : K.lookup a with
  | some o =>
    have same := (inK a o hk).symm.trans hob
    cases same
    refine ⟨fun _ => none, fun _ => .inl rfl, .inr ⟨_, us.toArray, _, hk, rfl, rfl, rfl, by simpa [ll] using hl, by simpa using rel⟩, ?_, ?_⟩
    · intro b u z; exact nomatch (show (none : Option HO) = some u from z)
    · intro b u z; exact nomatch (show (none : Option HO) = some u from z)
  | none =>
    let ob : Obj := { cls := .type "list", data := .seq us.toArray }
    let H : Hp := upd (fun _ => none) a (.frz ob (.lst (ns.map V.int)))
    have hH : H a = some (.frz ob (.lst (ns.map V.int))) := upd_same
    have out : ∀ b, b ≠ a → H b = none := fun b hb => upd_ne hb
    refine ⟨H, fun b => ?_, .inl (.inr ⟨ob, hH⟩), fun b u z => ?_, fun b u z => ⟨?_, rfl⟩⟩
    · by_cases c : b = a
      · rw [c, hH]; exact .inr ⟨_, _, rfl⟩
      · exact .inl (out b c)
    · by_cases c : b = a
      · subst c
        cases hH.symm.trans z
        exact ⟨hob, by rw [List.length_map]; exact hl, us, _, rel, hob⟩
      · rw [out b c] at z; cases z
    · by_cases c : b = a
      · exact c
      · rw [out b c] at z; cases z
theorem lawG {P : Program} {w : World} {K : PySem.W.Frag} {mg mb : Str → Option Value} {k : Nat} {fa a : Addr} {fd : FuncData} {x : Str} {sp : Sp} {st : Shared} {us : List Value} {ns : List Int}
    (inK : K.In st.heap) (gl : st.heap.Ns mainGlobals mg) (bl : st.heap.Ns builtinsNs mb) (bo : ∀ y : Str, y ≠ "__name__" → mb y = bootBuiltins y) (nl : st.heap.NoLimit) (ng : st.gens = #[])
    (hob : st.heap.get? a = some { cls := .type "list", data := .seq us.toArray }) (hi : IntsAre us ns) (hl : ns.length ≤ sizeLine) (rm : Room k callerA)
    (F : ∀ b : Heap, K.In b → b.Ns mainGlobals mg → FnG P w K mg b k fa fd [x] sp) (bnd : ∀ (s : Shared) (u : Value), BindsTo s fd ⟨[u], []⟩ [(x, u)])
    (prom : ∀ H : Hp, Only H → SqL K H a (ns.map V.int) → sp [.ref a] H (fun v _ => v = .bl true) fun _ _ _ => False) :
    codeAny (model P w) callerA (.call (.ref fa) ⟨[.ref a], []⟩) (fun r s' => r = .ok (.ret (.bool true)) ∧ OldK st.heap s'.heap ∧ s'.os = st.os ∧ AllBare s'.gens) st := by
  obtain ⟨H, only, seq, ok, one⟩ := first_hp (P := P) (w := w) inK hob hi hl
  have keep : ∀ {b : Addr} {o : Obj}, st.heap.get? b = some o → H b = none → (hidT st.heap H).get? b = some o := fun z n => hidT_get z n
  have dct : ∀ {b : Addr} {o : Obj} {es : Array DictEntry} {ep : Nat}, st.heap.get? b = some o → o.data = .dict es ep → H b = none := by
    intro b o es ep z dz
    cases hb : H b with
    | none => rfl
    | some u =>
      rw [(one b u hb).1, hob] at z
      cases z
      exact nomatch (show Data.seq us.toArray _ = Data.dict es ep from dz)
  have names : ∀ {b : Addr} {m : Str → Option Value}, st.heap.Ns b m → (hidT st.heap H).Ns b m := by
    rintro b m ⟨o, es, ep, z, dz, r⟩
    exact ⟨o, es, ep, keep z (dct z dz), dz, r⟩
  have inK2 : K.In (hidT st.heap H) := by
    intro b o z
    refine keep (inK b o z) ?_
    cases hb : H b with
    | none => rfl
    | some u =>
      obtain ⟨rfl, q⟩ := one b u hb
      rw [q] at z; cases z
  obtain ⟨mc, c1, c2⟩ := nl
  have md : Mod K mg (hidT st.heap H) := ⟨inK2, names gl, ⟨mb, names bl, bo⟩, mc, names c1, c2⟩
  have none0 : ∀ b : Addr, b ∉ frs ([] : List Env) := fun b hb => absurd (show b ∈ ([] : List Addr) from hb) (by simp)
  have en : Env0 P w K mg (hidT st.heap H) callerA [] st H := ⟨rfl, md, fun _ _ z => of_hidT z, Nat.le_of_eq (hidT_size _ _), trivial, fun b hb => (none0 b hb).elim, ok, .of_eq ng⟩
  refine codeAny_mono ((F _ inK2 (names gl)).go callerA [] st H _ [.ref a] [.ref a] _ _ rfl rm en (bnd st (.ref a)) (.cons rfl .nil) (prom H only seq)) fun r s' hr => ?_
  match r, hr with
  | .error e, hr => exact (show False from hr).elim
  | .ok (.ret u), ⟨v, H2, os2, bare2, un, ok2, rv, q⟩ =>
    have qv : v = .bl true := q
    subst qv
    have ru : u = Value.bool true := rv
    subst ru
    refine ⟨rfl, OldK.of_keep fun b o z => ?_, os2, bare2⟩
    rcases only b with n | ⟨ob, xs, n⟩
    · exact un.keep b o z n (none0 b) (by simp)
    · have z1 := (ok b _ n).1
      have z2 := (ok2 b _ (un.frzs b ob _ n)).1
      rw [z] at z1
      cases z1
      exact z2
theorem walkG {l : PySem.W.OpenLaw} {n k : Nat} {q : Program} {loose : List Str} {XP : (Str → Option Value) → Heap → Prop} {YP : World → Heap → Prop} {d : DefRec} {K : Params → PySem.W.Frag} {sp : World → Sp} {x : Str}
    (most : l.most = some n) (fits : n ≤ sizeLine) (nodef : d.params.defaults = []) (rm : Room k callerA) (kin : ∀ (w : World) (h : Heap), YP w h → (K w.params).In h)
    (F : ∀ (w : World) (mg : Str → Option Value) (fa : Addr) (h : Heap), (K w.params).In h → h.Ns mainGlobals mg → mg d.name = some (.ref fa) → ∃ fd : FuncData, (∀ (s : Shared) (u : Value), BindsTo s fd ⟨[u], []⟩ [(x, u)]) ∧ ∀ b : Heap, (K w.params).In b → b.Ns mainGlobals mg → FnG l.prog w (K w.params) mg b k fa fd [x] (sp w))
    (prom : ∀ (w : World) (H : Hp) (a : Addr) (ns : List Int), ns.length ≤ n → Only H → SqL (K w.params) H a (ns.map V.int) → sp w [.ref a] H (fun v _ => v = .bl true) fun _ _ _ => False) :
    PySem.W.WalkO q loose XP YP l.row.toRowW d [] (fun f vs => PySem.call f vs) := by
  refine Att.attach_call most nodef ?_
  intro w s0 s1 mg mb fa o pm cd dc a us ns G Y _ _ _ hf hob hi hle hgen
  have inK := kin w _ Y
  obtain ⟨fd, hb, hF⟩ := F w mg fa _ inK G.T.g hf
  exact lawG inK G.T.g G.T.b G.T.builtins G.T.nolimit hgen hob hi (Nat.le_trans hle fits) rm hF hb fun H h1 h2 => prom w H a ns hle h1 h2
/-- repr of data -/
def rRepr (K : PySem.W.Frag) : List V → Hp → VK → Prop := fun vs H Q => ∃ (a : Addr) (d : PyData), vs = [.ref a] ∧ Dp K H (.ref a) d ∧ SeqAt.shaped d = true ∧ d.showable = true ∧ d.shown.length ≤ sizeLine ∧ Q (.str d.shown) H
theorem cr_repr {X : Cx} (gd : X.A.guards = some []) (hu : X.A.units + 66 < cLine) : CallR X (.builtin "repr") (rRepr X.K) := by
  intro pins s σ H vs us Q I r h
  obtain ⟨a, d, rfl, dp, shp, shw, len, q⟩ := h
  rw [Vals.ref1 r]
  obtain ⟨as, rd⟩ := Dp.reads I d (.ref a) (.ref a) dp rfl
  have dep := SeqAt.depth_of_shaped shp
  refine repr_of_reads' rd shw (PyData.noDict_hsm (PyData.hasDict_of_canLay d (SeqAt.canLay_of_shaped shp))) gd (by omega) (fun _ _ z => z) (fun h' u tk k => ?_) len
  exact ⟨.str d.shown, H, I.call (ch := []) (Un.kept k) (I.hok.kept k) I.bare (fun _ z => nomatch z), ⟨u, rfl⟩, q⟩
end TT
/-! repr of lists of ints, of lists of triples -/
namespace TT
open PySem PySem.Spec PyProof.Rows L2 HotX LamX T
def Sm (i : Int) : Prop := i.natAbs < 10 ^ 10
theorem sm_log {i : Int} (h : Sm i) : i.natAbs.log2 < 34 := by
  by_cases z : i.natAbs = 0
  · rw [z]; decide
  · rw [Nat.log2_lt z]
    unfold Sm at h
    have : (10 : Nat) ^ 10 ≤ 2 ^ 34 := by decide
    omega
theorem sm_show {i : Int} (h : Sm i) : PyData.showable (.int i) = true := by
  show decide (i.natAbs.log2 < 1920) = true
  exact decide_eq_true (by have := sm_log h; omega)
theorem sm_short {i : Int} (h : Sm i) : PyData.intsShort 13 (.int i) = true := by
  show decide ((PyData.shown (.int i)).length ≤ 13) = true
  refine decide_eq_true ?_
  have z := int_text_length_le10 (a := i) (k := 10) (by decide) h
  have e : (PyData.shown (.int i)).length = (toString i).length := by
    exact PySem.ofString_length _
  omega
theorem sm_weight {i : Int} (h : Sm i) : PyData.weight (.int i) ≤ 34 := by
  show (if (i == 0) = true then 0 else i.natAbs.log2 + 1) ≤ 34
  have := sm_log h
  split <;> omega
theorem shows {d : PyData} (c : PyData.canLay0 d = true) (dp : d.depth ≤ 64) (w : PyData.weight d ≤ 2 ^ 20) (s : d.intsShort 13 = true) : d.shown.length ≤ sizeLine := by
  have l : PyData.layable0 d = true := by
    show (PyData.canLay0 d && decide (PyData.depth d ≤ 64) && decide (PyData.weight d ≤ 2 ^ 20)) = true
    rw [c, decide_eq_true dp, decide_eq_true w]; rfl
  have := shown_le13 l s
  rw [sizeLine_eq]; omega
/-! ints -/
theorem ints_show : ∀ {ns : List Int}, (∀ n ∈ ns, Sm n) → PyData.showableAll (ns.map PyData.int) = true
  | [], _ => rfl
  | n :: ns, h => by
    show (PyData.showable (.int n) && PyData.showableAll (ns.map PyData.int)) = true
    rw [sm_show (h n List.mem_cons_self), ints_show fun m hm => h m (List.mem_cons_of_mem _ hm)]; rfl
theorem ints_short : ∀ {ns : List Int}, (∀ n ∈ ns, Sm n) → PyData.intsShortAll 13 (ns.map PyData.int) = true
  | [], _ => rfl
  | n :: ns, h => by
    show (PyData.intsShort 13 (.int n) && PyData.intsShortAll 13 (ns.map PyData.int)) = true
    rw [sm_short (h n List.mem_cons_self), ints_short fun m hm => h m (List.mem_cons_of_mem _ hm)]; rfl
theorem ints_weight : ∀ {ns : List Int}, (∀ n ∈ ns, Sm n) → PyData.weightAll (ns.map PyData.int) ≤ 35 * ns.length
  | [], _ => Nat.zero_le _
  | n :: ns, h => by
    show PyData.weight (.int n) + 1 + PyData.weightAll (ns.map PyData.int) ≤ 35 * (ns.length + 1)
    have := sm_weight (h n List.mem_cons_self)
    have := ints_weight fun m hm => h m (List.mem_cons_of_mem _ hm)
    omega
theorem ints_len {ns : List Int} (hs : ∀ n ∈ ns, Sm n) (hl : ns.length ≤ 1000) : (PyData.shown (.list (ns.map PyData.int))).length ≤ sizeLine := by
  refine shows (lay_ints ns) (SeqAt.depth_of_shaped (shaped_ints ns)) ?_ (ints_short hs)
  show PyData.weightAll (ns.map PyData.int) ≤ 2 ^ 20
  have := ints_weight hs
  omega
/-! triples -/
def Sm3 (q : Int × Int × Int) : Prop := Sm q.1 ∧ Sm q.2.1 ∧ Sm q.2.2
theorem tr_show {q : Int × Int × Int} (h : Sm3 q) : PyData.showable (trD q) = true := by
  show (PyData.showable (.int q.1) && (PyData.showable (.int q.2.1) && (PyData.showable (.int q.2.2) && true))) = true
  rw [sm_show h.1, sm_show h.2.1, sm_show h.2.2]; rfl
theorem tr_short {q : Int × Int × Int} (h : Sm3 q) : PyData.intsShort 13 (trD q) = true := by
  show (PyData.intsShort 13 (.int q.1) && (PyData.intsShort 13 (.int q.2.1) && (PyData.intsShort 13 (.int q.2.2) && true))) = true
  rw [sm_short h.1, sm_short h.2.1, sm_short h.2.2]; rfl
theorem tr_weight {q : Int × Int × Int} (h : Sm3 q) : PyData.weight (trD q) ≤ 105 := by
  show PyData.weight (.int q.1) + 1 + (PyData.weight (.int q.2.1) + 1 + (PyData.weight (.int q.2.2) + 1 + 0)) ≤ 105
  have := sm_weight h.1
  have := sm_weight h.2.1
  have := sm_weight h.2.2
  omega
theorem trs_show : ∀ {qs : List (Int × Int × Int)}, (∀ q ∈ qs, Sm3 q) → PyData.showableAll (qs.map trD) = true
  | [], _ => rfl
  | n :: ns, h => by
    show (PyData.showable (trD n) && PyData.showableAll (ns.map trD)) = true
    rw [tr_show (h n List.mem_cons_self), trs_show fun m hm => h m (List.mem_cons_of_mem _ hm)]; rfl
theorem trs_short : ∀ {qs : List (Int × Int × Int)}, (∀ q ∈ qs, Sm3 q) → PyData.intsShortAll 13 (qs.map trD) = true
  | [], _ => rfl
  | n :: ns, h => by
    show (PyData.intsShort 13 (trD n) && PyData.intsShortAll 13 (ns.map trD)) = true
    rw [tr_short (h n List.mem_cons_self), trs_short fun m hm => h m (List.mem_cons_of_mem _ hm)]; rfl
theorem trs_weight : ∀ {qs : List (Int × Int × Int)}, (∀ q ∈ qs, Sm3 q) → PyData.weightAll (qs.map trD) ≤ 106 * qs.length
  | [], _ => Nat.zero_le _
  | n :: ns, h => by
    show PyData.weight (trD n) + 1 + PyData.weightAll (ns.map trD) ≤ 106 * (ns.length + 1)
    have := tr_weight (h n List.mem_cons_self)
    have := trs_weight fun m hm => h m (List.mem_cons_of_mem _ hm)
    omega
theorem trs_len {qs : List (Int × Int × Int)} (hs : ∀ q ∈ qs, Sm3 q) (hl : qs.length ≤ 1000) : (PyData.shown (.list (qs.map trD))).length ≤ sizeLine := by
  refine shows (lay_trs qs) (SeqAt.depth_of_shaped (shaped_trs qs)) ?_ (trs_short hs)
  show PyData.weightAll (qs.map trD) ≤ 2 ^ 20
  have := trs_weight hs
  omega
/-! bools -/
theorem dp_bls {K : PySem.W.Frag} {H : Hp} : ∀ bs : List Bool, DpAll K H (bs.map V.bl) (bs.map PyData.bool)
  | [] => .nil
  | b :: bs => .cons (.bl b) (dp_bls bs)
theorem lay_bls : ∀ bs : List Bool, PyData.canLayAll0 (bs.map PyData.bool) = true
  | [] => rfl
  | b :: bs => by
    show (PyData.canLay0 (.bool b) && PyData.canLayAll0 (bs.map PyData.bool)) = true
    rw [lay_bls bs]; rfl
theorem depth_bls : ∀ bs : List Bool, PyData.depthAll (bs.map PyData.bool) = 0
  | [] => rfl
  | b :: bs => by
    show max (PyData.depth (.bool b)) (PyData.depthAll (bs.map PyData.bool)) = 0
    rw [depth_bls bs]; rfl
theorem shaped_bls (bs : List Bool) : SeqAt.shaped (.list (bs.map PyData.bool)) = true := by
  show (PyData.canLayAll0 (bs.map PyData.bool) && decide (PyData.depthAll (bs.map PyData.bool) + 1 ≤ 64)) = true
  rw [lay_bls, depth_bls]; rfl
theorem rd_neBl {K : PySem.W.Frag} {H : Hp} {a b : Addr} {bs : List Bool} {Q : VK} (ha : SqL K H a (bs.map V.bl)) (hb : SqL K H b (bs.map V.bl)) (q : Q (.bl false) H) : rNeD K (.ref a) (.ref b) H Q := by
  refine ⟨_, _, .lst ha (dp_bls bs), .lst hb (dp_bls bs), shaped_bls bs, shaped_bls bs, ?_⟩
  rw [SeqAt.eqv_refl _ (SeqAt.canLay_of_shaped (shaped_bls bs))]
  exact q
theorem TrS.app {H : Hp} : ∀ {qs rs : List (Int × Int × Int)} {vs ws : List V}, TrS H qs vs → TrS H rs ws → TrS H (qs ++ rs) (vs ++ ws)
  | [], _, _, _, h, g => by rw [show _ = [] from h]; exact g
  | q :: qs, _, _, _, ⟨p, us, h1, h2, h3⟩, g => by rw [h1]; exact ⟨p, us ++ _, rfl, h2, h3.app g⟩
theorem TrS.rev {H : Hp} : ∀ {qs : List (Int × Int × Int)} {vs : List V}, TrS H qs vs → TrS H qs.reverse vs.reverse
  | [], _, h => by rw [show _ = [] from h]; rfl
  | q :: qs, _, ⟨p, us, h1, h2, h3⟩ => by
    rw [h1, List.reverse_cons, List.reverse_cons]
    exact h3.rev.app ⟨p, [], rfl, h2, rfl⟩
theorem TrS.tl {H : Hp} : ∀ {qs : List (Int × Int × Int)} {vs : List V}, TrS H qs vs → TrS H (qs.drop 1) (vs.drop 1)
  | [], _, h => by rw [show _ = [] from h]; rfl
  | q :: qs, _, ⟨p, us, h1, h2, h3⟩ => by rw [h1]; exact h3
theorem bound_sm {i : Int} (h1 : -2000000000 ≤ i) (h2 : i ≤ 2000000000) : Sm i := by
  unfold Sm
  omega
theorem lc_trV {K : PySem.W.Frag} {a : Addr} {qs : List (Int × Int × Int)} {ws : List V} {g : TG} {te : TE} {vs : List Nat} {σ : L2.St} {H1 : Hp} {D : Addr} {Qd : Hp → Prop} (fb : Int × Int × Int → V) (hS : SqL K H1 a ws) (hT : TrS H1 qs ws) (nD : H1 D = none) (hl : qs.length ≤ 1000)
    (hs : ∀ p q H2 (Y : VK), H2 p = some (.tup [.int q.1, .int q.2.1, .int q.2.2]) → Same H1 H2 → (∀ H3, Same H2 H3 → Y (fb q) H3) → g (.ref p) (wipe σ vs) H2 fun σ2 H3 => wipe σ2 vs = wipe σ vs ∧ te σ2 H3 Y)
    (hd : ∀ H2, Same H1 H2 → H2 D = some (.lst (qs.map fb)) → Qd H2) :
    ∃ W : Nat → Nat → Hp → Prop, (∃ m, W 0 m (upd H1 D (.lst []))) ∧ ∀ i m H, W i m H →
      ((Itl K a).stop i H ∧ Qd H) ∨ ((Itl K a).go i H ∧ ∃ Nx : Hp → Prop, (∀ H', Nx H' → ∃ m', m' < m ∧ W (i + 1) m' H') ∧ ∀ x H', (Itl K a).yld i H x H' → g x (wipe σ vs) H' fun σ2 H2 => wipe σ2 vs = wipe σ vs ∧ tYes σ2 H2 fun b H3 =>
        if b = true then te σ2 H3 fun y H4 => ∃ acc, H4 D = some (.lst acc) ∧ acc.length < sizeLine ∧ Nx (upd H4 D (.lst (acc ++ [y]))) else Nx H3) := by
  refine lc_list (xs := ws) (tt := tYes) (fun i H2 => Same H1 H2 ∧ H2 D = some (.lst ((qs.take i).map fb))) ⟨same_new nD, upd_same⟩ (fun i H2 _ h => Same.seq h.1 hS) ?_ ?_
  · rintro i v H2 hv ⟨e2, hD⟩
    obtain ⟨p, q, rfl, hq, hp⟩ := hT.get i v hv
    have ht : qs.take (i + 1) = qs.take i ++ [q] := by rw [List.take_add_one, hq]; rfl
    refine hs p q H2 _ (e2 _ _ hp) e2 fun H3 e3 => ⟨_, e3 _ _ hD, szl (by rw [List.length_map, List.length_take]; omega), Same.put (e2.trans e3) nD, ?_⟩
    rw [upd_same, ht, List.map_append]; rfl
  · rintro H2 ⟨e2, hD⟩
    rw [hT.len, List.take_length] at hD
    exact hd H2 e2 hD
/-- a list or a tuple of triples that all hold -/
def GoodP (K : PySem.W.Frag) (H : Hp) (t u : T) (v : V) : Prop := ∃ (b : Addr) (qs : List (Int × Int × Int)) (ws : List V), v = .ref b ∧ Sq K H b ws ∧ TrS H qs ws ∧ qs.length ≤ 1000 ∧ (qs.all fun q => trip t u q.1 q.2.1 q.2.2) = true
theorem GoodP.same {K : PySem.W.Frag} {H H' : Hp} {t u : T} {v : V} (h : GoodP K H t u v) (e : Same H H') : GoodP K H' t u v := by
  obtain ⟨b, qs, ws, h1, h2, h3, h4⟩ := h
  exact ⟨b, qs, ws, h1, h2.same e, h3.same e, h4⟩
end TT
/-! differences of effects -/
namespace TT
open PySem PySem.Spec PyProof.Rows L2 HotX LamX T
theorem HL.drop {H : Hp} : ∀ {ss : List S} {vs : List V} (n : Nat), HL H ss vs → HL H (ss.drop n) (vs.drop n)
  | [], _, n, h => by rw [show _ = [] from h, List.drop_nil, List.drop_nil]; rfl
  | s :: ss, _, 0, h => by rw [List.drop_zero, List.drop_zero]; exact h
  | s :: ss, _, n + 1, ⟨v, ws, h1, h2, h3⟩ => by rw [h1]; exact HL.drop n h3
theorem HL.rev {H : Hp} : ∀ {ss : List S} {vs : List V}, HL H ss vs → HL H ss.reverse vs.reverse
  | [], _, h => by rw [show _ = [] from h]; rfl
  | s :: ss, _, ⟨v, ws, h1, h2, h3⟩ => by
    rw [h1, List.reverse_cons, List.reverse_cons]
    exact HL.app (HL.rev h3) ⟨v, [], rfl, h2, rfl⟩
theorem wrL_drop_le (ss : List S) (n : Nat) : wrL (ss.drop n) ≤ wrL ss := by
  have e := wrL_app (ss.take n) (ss.drop n)
  rw [List.take_append_drop] at e
  omega
theorem wrL_cut_le (ss : List S) (n m : Nat) (h : n ≤ m) : wrL (ss.take n ++ ss.drop m) ≤ wrL ss := by
  have e := wrL_app (ss.take n) (ss.drop n)
  rw [List.take_append_drop] at e
  have e2 := wrL_drop_le (ss.drop n) (m - n)
  rw [List.drop_drop, show n + (m - n) = m by omega] at e2
  rw [wrL_app]
  omega
theorem wrL_rev : ∀ ss : List S, wrL ss.reverse = wrL ss
  | [] => rfl
  | s :: ss => by
    rw [List.reverse_cons, wrL_app, wrL_rev ss]
    show wrL ss + (s.wr + 0) = s.wr + wrL ss
    omega
/-- steps over the keys ks, rounds at most n deep -/
def Hk (ks : List Int) (n : Nat) (ss : List S) : Prop := ∀ s ∈ ss, s.inK ks ∧ s.dLe n
theorem Hk.inK {ks : List Int} {n : Nat} {ss : List S} (h : Hk ks n ss) : inKL ks ss := inKL_of fun s hs => (h s hs).1
theorem Hk.dp {ks : List Int} {n : Nat} {ss : List S} (h : Hk ks n ss) : dLeL ss n := dLeL_of fun s hs => (h s hs).2
theorem Hk.of {ks : List Int} {n : Nat} {ss : List S} (h : inKL ks ss) (g : dLeL ss n) : Hk ks n ss := fun s hs => ⟨inKL_mem h hs, dLeL_mem g hs⟩
theorem Hk.sub {ks : List Int} {n : Nat} {ss ts : List S} (h : Hk ks n ss) (g : ∀ s ∈ ts, s ∈ ss) : Hk ks n ts := fun s hs => h s (g s hs)
theorem Hk.app {ks : List Int} {n : Nat} {ss ts : List S} (h : Hk ks n ss) (g : Hk ks n ts) : Hk ks n (ss ++ ts) := fun s hs => (List.mem_append.mp hs).elim (h s) (g s)
theorem Hk.keys {ks xs : List Int} {n : Nat} (h : ∀ x ∈ xs, x ∈ ks) : Hk ks n (xs.map S.k) := .of (inKL_ks h) dLeL_keys
theorem Hk.mono {ks : List Int} {n m : Nat} {ss : List S} (h : Hk ks n ss) (l : n ≤ m) : Hk ks m ss := .of h.inK (dLeL_mono l _ h.dp)
theorem Hk.last {ks : List Int} {n m : Nat} {ss : List S} (h : Hk ks n ss) (l : ks.length < m) : (lastL (wtL ss)).length < m :=
  Nat.lt_of_le_of_lt (int_nodup_len _ ks lastL_nodup fun x hx => wtL_mem h.inK (mem_lastL.mp hx)) l
/-! ### mathematics -/
theorem asc_noBad {ks : List Int} (h : ks.Pairwise (· < ·)) : NoBad ks := by
  have lt : ∀ (i j : Nat) (x y : Int), i < j → ks[i]? = some x → ks[j]? = some y → x < y := fun i j x y l a b => by
    obtain ⟨a1, a2⟩ := List.getElem?_eq_some_iff.mp a
    obtain ⟨b1, b2⟩ := List.getElem?_eq_some_iff.mp b
    rw [← a2, ← b2]
    exact List.pairwise_iff_getElem.mp h i j a1 b1 l
  refine ⟨fun i k x l a b => ?_, fun i j k u v w l1 l2 a b c lt' z => ?_⟩
  · have := lt i k x x l a b; omega
  · have := lt i k u w (by omega) a c; omega
theorem root_tree {ks : List Int} (h : ks.Pairwise (· < ·)) {r : Int} (hr : r ∈ ks) : ∃ t : T, t.bst ∧ t.pre = topL r ks ∧ t.rt = some r ∧ t.pre.Perm ks := by
  obtain ⟨t, b, e⟩ := noBad_shape _ (Nat.le_refl _) (asc_noBad h)
  have hr' : r ∈ t.pre := by rw [e]; exact hr
  refine ⟨t.tch r, tch_bst b, by rw [tch_pre b, e], rfl, ?_⟩
  rw [← e]
  exact tch_perm b hr'
/-- alike on the shapes with each root: alike on every shape -/
theorem alike {ks x1 x2 : List Int} (h : ks.Pairwise (· < ·)) (m1 : ∀ x ∈ x1, x ∈ ks) (m2 : ∀ x ∈ x2, x ∈ ks) (al : ∀ r ∈ ks, ∀ t : T, t.bst → t.pre = topL r ks → t.tchs x1 = t.tchs x2) {t : T} (b : t.bst) (p : t.pre.Perm ks) : t.tchs x1 = t.tchs x2 := by
  have n1 : ∀ x ∈ x1, x ∈ t.pre := fun x hx => p.mem_iff.mpr (m1 x hx)
  have n2 : ∀ x ∈ x2, x ∈ t.pre := fun x hx => p.mem_iff.mpr (m2 x hx)
  refine tree_ext (tchs_bst b) (tchs_bst b) (fun z => by rw [tchs_mem b n1, tchs_mem b n2]) fun x y hx hy => ?_
  have hxk : x ∈ ks := p.mem_iff.mp ((tchs_mem b n1).mp hx)
  have hyk : y ∈ ks := p.mem_iff.mp ((tchs_mem b n1).mp hy)
  have hyt : y ∈ t.pre := p.mem_iff.mpr hyk
  have rule : ∀ {s : T}, s.bst → ∀ z : List Int, x ∈ (s.tchs z).path y ↔ byL s z.reverse x y := fun {s} bs z => by
    have := tchs_path bs x y z.reverse
    rw [List.reverse_reverse] at this
    exact this
  rw [rule b, rule b]
  have at_root : ∀ r ∈ ks, ∃ s : T, s.bst ∧ s.rt = some r ∧ (∀ z, z ∈ s.pre ↔ z ∈ ks) ∧ (byL s x1.reverse x y ↔ byL s x2.reverse x y) := fun r hr => by
    obtain ⟨s, bs, es, rs, ps⟩ := root_tree h hr
    refine ⟨s, bs, rs, fun z => ps.mem_iff, ?_⟩
    rw [← rule bs, ← rule bs, al r hr s bs es]
  by_cases exy : x = y
  · subst exy
    have self : ∀ z : List Int, byL t z x x := fun z => by
      unfold byL
      cases hf : z.find? (btw x x) with
      | none => exact path_self b hyt
      | some v =>
        have hv := List.find?_some hf
        have := of_decide_eq_true hv
        show v = x
        omega
    exact ⟨fun _ => self _, fun _ => self _⟩
  · obtain ⟨sx, bx, rx, mx, ax⟩ := at_root x hxk
    obtain ⟨sy, by', ry, my, ay⟩ := at_root y hyk
    have px : x ∈ sx.path y := rt_path rx ((mx y).mpr hyk)
    have py : x ∉ sy.path y := fun z => by
      rw [path_rt ry] at z
      exact exy (List.mem_singleton.mp z)
    unfold byL at ax ay ⊢
    cases h1 : x1.reverse.find? (btw x y) with
    | some v1 =>
      cases h2 : x2.reverse.find? (btw x y) with
      | some v2 => rw [h1, h2] at ax; exact ax
      | none =>
        rw [h1, h2] at ax ay
        have e1 : v1 = x := ax.mpr px
        exact absurd (ay.mp e1) py
    | none =>
      cases h2 : x2.reverse.find? (btw x y) with
      | some v2 =>
        rw [h1, h2] at ax ay
        have e1 : v2 = x := ax.mp px
        exact absurd (ay.mpr e1) py
      | none => exact Iff.rfl
/-- what effect_difference answers -/
def effR (l1 l2 ks : List Int) (r : Int) : Bool := !decide (grL (l1 ++ topL r ks) = grL (l2 ++ topL r ks))
def effF (l1 l2 ks : List Int) : Option (List Int × Int × Int) := (ks.find? (effR l1 l2 ks)).map fun r => (topL r ks, (prt (grL (l1 ++ topL r ks)) (grL (l2 ++ topL r ks))).headD (0, 0))
theorem after_at {t : T} {xs ks : List Int} {r : Int} (b : t.bst) (e : t.pre = topL r ks) (m : ∀ x ∈ xs, x ∈ t.pre) : (t.tchs xs).pre = grL (lastL xs ++ topL r ks) := by rw [after_gr b m, e]
theorem eff_none {ks x1 x2 : List Int} (h : ks.Pairwise (· < ·)) (m1 : ∀ x ∈ x1, x ∈ ks) (m2 : ∀ x ∈ x2, x ∈ ks) (n : effF (lastL x1) (lastL x2) ks = none) {t : T} (b : t.bst) (p : t.pre.Perm ks) : t.tchs x1 = t.tchs x2 := by
  refine alike h m1 m2 (fun r hr s bs es => ?_) b p
  have hm : ∀ z, z ∈ s.pre ↔ z ∈ ks := fun z => by
    rw [es, mem_topL]
    exact ⟨fun w => w.elim (fun w => w ▸ hr) id, .inr⟩
  have n1 : ∀ x ∈ x1, x ∈ s.pre := fun x hx => (hm x).mpr (m1 x hx)
  have n2 : ∀ x ∈ x2, x ∈ s.pre := fun x hx => (hm x).mpr (m2 x hx)
  refine pre_inj (tchs_bst bs) (tchs_bst bs) ?_
  rw [after_at bs es n1, after_at bs es n2]
  have n' : ks.find? (effR (lastL x1) (lastL x2) ks) = none := by
    unfold effF at n
    cases hf : ks.find? (effR (lastL x1) (lastL x2) ks) with
    | none => rfl
    | some r => rw [hf] at n; cases n
  have z := List.find?_eq_none.mp n' r hr
  unfold effR at z
  rw [Bool.not_eq_true, Bool.not_eq_false', decide_eq_true_iff] at z
  exact z
/-- the triple shows the difference -/
theorem eff_some {ks x1 x2 sh : List Int} {x y : Int} (h : ks.Pairwise (· < ·)) (m1 : ∀ x ∈ x1, x ∈ ks) (m2 : ∀ x ∈ x2, x ∈ ks) (n : effF (lastL x1) (lastL x2) ks = some (sh, x, y)) :
    ∃ t : T, t.bst ∧ t.pre = sh ∧ t.pre.Perm ks ∧ x ∈ ks ∧ y ∈ ks ∧ (t.tchs x1).abv x y = true ∧ (t.tchs x2).abv x y = false := by
  unfold effF at n
  cases hf : ks.find? (effR (lastL x1) (lastL x2) ks) with
  | none => rw [hf] at n; cases n
  | some r =>
    rw [hf] at n
    have n' : (topL r ks, (prt (grL (lastL x1 ++ topL r ks)) (grL (lastL x2 ++ topL r ks))).headD (0, 0)) = (sh, x, y) := Option.some.inj n
    have hr := List.mem_of_find?_eq_some hf
    obtain ⟨t, b, e, _, p⟩ := root_tree h hr
    have n1 : ∀ x ∈ x1, x ∈ t.pre := fun x hx => p.mem_iff.mpr (m1 x hx)
    have n2 : ∀ x ∈ x2, x ∈ t.pre := fun x hx => p.mem_iff.mpr (m2 x hx)
    have ne : (t.tchs x1).pre ≠ (t.tchs x2).pre := by
      rw [after_at b e n1, after_at b e n2]
      have z := List.find?_some hf
      unfold effR at z
      rw [Bool.not_eq_true', decide_eq_false_iff_not] at z
      exact z
    obtain ⟨x', y', q, h1, h2, h3, h4, h5, h6⟩ := prt_tells (tchs_bst (xs := x1) b) (tchs_bst (xs := x2) b) (fun z => by rw [tchs_mem b n1, tchs_mem b n2]) ne
    rw [after_at b e n1, after_at b e n2] at h1
    rw [h1] at n'
    have e1 : topL r ks = sh := congrArg Prod.fst n'
    have e2 : (x', y') = (x, y) := congrArg Prod.snd n'
    cases e2
    refine ⟨t, b, by rw [e, e1], p, p.mem_iff.mp ((tchs_mem b n1).mp h5), p.mem_iff.mp ((tchs_mem b n1).mp h6), abv_iff.mpr ⟨h2, h3⟩, ?_⟩
    cases c : (t.tchs x2).abv x y with
    | false => rfl
    | true => exact (path_anti (tchs_bst b) h2 (abv_iff.mp c).2 h4).elim
theorem eff_at {ks x1 x2 : List Int} {r : Int} (h : ks.Pairwise (· < ·)) (m1 : ∀ x ∈ x1, x ∈ ks) (m2 : ∀ x ∈ x2, x ∈ ks) (hr : r ∈ ks) :
    (grL (lastL x1 ++ topL r ks)).length = (grL (lastL x2 ++ topL r ks)).length ∧ (grL (lastL x1 ++ topL r ks)).length = ks.length ∧
    (effR (lastL x1) (lastL x2) ks r = true → ∃ x y l, prt (grL (lastL x1 ++ topL r ks)) (grL (lastL x2 ++ topL r ks)) = (x, y) :: l) := by
  obtain ⟨t, b, e, _, p⟩ := root_tree h hr
  have n1 : ∀ x ∈ x1, x ∈ t.pre := fun x hx => p.mem_iff.mpr (m1 x hx)
  have n2 : ∀ x ∈ x2, x ∈ t.pre := fun x hx => p.mem_iff.mpr (m2 x hx)
  refine ⟨?_, ?_, fun z => ?_⟩
  · rw [← after_at b e n1, ← after_at b e n2, tchs_len b n1, tchs_len b n2]
  · rw [← after_at b e n1, tchs_len b n1, p.length_eq]
  · unfold effR at z
    rw [Bool.not_eq_true', decide_eq_false_iff_not] at z
    rw [← after_at b e n1, ← after_at b e n2] at z ⊢
    obtain ⟨x', y', q, h1, _⟩ := prt_tells (tchs_bst (xs := x1) b) (tchs_bst (xs := x2) b) (fun z => by rw [tchs_mem b n1, tchs_mem b n2]) z
    exact ⟨x', y', _, h1⟩
theorem eff_find {l1 l2 ks : List Int} {i : Nat} {r : Int} (hr : ks[i]? = some r) (al : ∀ z ∈ ks.take i, effR l1 l2 ks z = false) (e : effR l1 l2 ks r = true) : ks.find? (effR l1 l2 ks) = some r := by
  obtain ⟨hi, hr⟩ := List.getElem?_eq_some_iff.mp hr
  have a : (ks.take i).find? (effR l1 l2 ks) = none := List.find?_eq_none.mpr fun z hz => by rw [al z hz]; decide
  have b : ks = ks.take i ++ r :: ks.drop (i + 1) := by rw [← hr, ← List.drop_eq_getElem_cons hi, List.take_append_drop]
  have : (ks.take i ++ r :: ks.drop (i + 1)).find? (effR l1 l2 ks) = some r := by rw [List.find?_append, a, List.find?_cons_of_pos e]; rfl
  rwa [← b] at this
theorem eff_all {l1 l2 ks : List Int} (al : ∀ z ∈ ks, effR l1 l2 ks z = false) : effF l1 l2 ks = none := by
  unfold effF
  rw [List.find?_eq_none.mpr fun z hz => by rw [al z hz]; decide]
  rfl
def rTupQ (K : PySem.W.Frag) : List V → Hp → VK → Prop := fun xs H Q => ∃ (p : Addr) (ys : List V), xs = [.ref p] ∧ Sq K H p ys ∧ ∀ t H', Same H H' → SqT K H' t ys → Q (.ref t) H'
theorem cr_tupQ {X : Cx} : CallR X (.type "tuple") (rTupQ X.K) := by
  intro pins s σ H xs us Q I r h
  obtain ⟨p, ys, e, h, q⟩ := h
  refine call_tuple_of pins s σ H xs us Q I r ⟨p, ys, e, ?_⟩
  exact h.elim (fun h => .inl ⟨h, fun t nt => q t _ (same_new nt) (SqT.of upd_same)⟩) fun h => .inr ⟨h, q p H (.refl _) h⟩
/-! ### is not True -/
def tNotTrue (ta : TE) : TE := fun σ H Q => ta σ H fun x H1 => ∃ c, x = .bl c ∧ Q (.bl (!c)) H1
theorem isnot_true {M : Model} {A : Around} {E : Value → Shared → Prop} {s : Shared} {Q : Value → Shared → Prop} {c : Bool} (h : Q (.bool (!c)) s) : wpAny M A (compareOp .IsNot (.bool c) (.bool true)) Q E s := by
  cases c <;> exact wpAny_pure h
theorem pc_notTrue {X : Cx} {a : Expr} {ta : TE} {j pos'} (ha : PE X a ta) : PC X .IsNot a (.Constant (.bool true) j pos') (tNotTrue ta) := by
  refine ⟨fun pins s σ H Q I h => ?_⟩
  refine thn (ha.run pins s σ H _ I h) fun v s1 ⟨x, H1, I1, r1, c, e, q1⟩ => ?_
  subst e
  cases r1
  exact Constant_bool (isnot_true ⟨.bl _, H1, I1, rfl, q1⟩)
/-! ### repr of a difference -/
def difD (sh : List Int) (x y : Int) : PyData := .tuple [.tuple (sh.map PyData.int), .int x, .int y]
theorem dp_dif {K : PySem.W.Frag} {H : Hp} {p pt : Addr} {sh : List Int} {x y : Int} (h : H p = some (.tup [.ref pt, .int x, .int y])) (g : H pt = some (.tup (sh.map V.int))) : Dp K H (.ref p) (difD sh x y) :=
  .tup (SqT.of h) (.cons (.tup (SqT.of g) (dp_ints sh)) (.cons (.int _) (.cons (.int _) .nil)))
theorem lay_dif (sh : List Int) (x y : Int) : PyData.canLay0 (difD sh x y) = true := by
  show (PyData.canLayAll0 (sh.map PyData.int) && true) = true
  rw [lay_ints]; rfl
theorem depth_dif (sh : List Int) (x y : Int) : PyData.depth (difD sh x y) ≤ 2 := by
  show max (PyData.depthAll (sh.map PyData.int) + 1) 0 + 1 ≤ 2
  rw [depth_ints]; decide
theorem shaped_dif (sh : List Int) (x y : Int) : SeqAt.shaped (difD sh x y) = true := by
  show (PyData.canLay0 (difD sh x y) && decide (PyData.depth (difD sh x y) ≤ 64)) = true
  rw [lay_dif, Bool.true_and, decide_eq_true]
  have := depth_dif sh x y
  omega
theorem dif_show {sh : List Int} {x y : Int} (h : ∀ n ∈ sh, Sm n) (hx : Sm x) (hy : Sm y) : PyData.showable (difD sh x y) = true := by
  show (PyData.showableAll (sh.map PyData.int) && (PyData.showable (.int x) && (PyData.showable (.int y) && true))) = true
  rw [ints_show h, sm_show hx, sm_show hy]; rfl
theorem dif_len {sh : List Int} {x y : Int} (h : ∀ n ∈ sh, Sm n) (hx : Sm x) (hy : Sm y) (hl : sh.length ≤ 1000) : (PyData.shown (difD sh x y)).length ≤ sizeLine := by
  refine shows (lay_dif sh x y) (by have := depth_dif sh x y; omega) ?_ ?_
  · show PyData.weightAll (sh.map PyData.int) + 1 + (PyData.weight (.int x) + 1 + (PyData.weight (.int y) + 1 + 0)) ≤ 2 ^ 20
    have := ints_weight h
    have := sm_weight hx
    have := sm_weight hy
    omega
  · show (PyData.intsShortAll 13 (sh.map PyData.int) && (PyData.intsShort 13 (.int x) && (PyData.intsShort 13 (.int y) && true))) = true
    rw [ints_short h, sm_short hx, sm_short hy]; rfl
theorem sh_bd {ss : List S} (d : dLeL ss 2) (w : wrL ss ≤ 100) : (shL ss).length ≤ 1000 := by
  have h1 := shL_len ss d
  have : 2 ^ 2 * wrL ss ≤ 4 * 100 := Nat.mul_le_mul (by decide) w
  omega
theorem sh_in {ks : List Int} {ss : List S} (h : inKL ks ss) : ∀ x ∈ shL ss, x ∈ ks := fun x hx => wtL_mem h (mem_lastL.mp (by rw [wt_shL]; exact mem_lastL.mpr hx))
theorem sh_wt {ks : List Int} {ss : List S} {t : T} (h : inKL ks ss) (b : t.bst) (p : t.pre.Perm ks) : t.tchs (shL ss) = t.tchs (wtL ss) := by
  rw [← tchs_last b fun x hx => p.mem_iff.mpr (sh_in h x hx), ← tchs_last b fun x hx => p.mem_iff.mpr (wtL_mem h hx), wt_shL]
/-! ### promises -/
def spEff (K : PySem.W.Frag) : Sp := fun us H Q _ => ∃ (o1 o2 a : Addr) (s1 s2 : List S) (ks : List Int), us = [.ref o1, .ref o2, .ref a] ∧ SeqS K H o1 s1 ∧ SeqS K H o2 s2 ∧ Sq K H a (ks.map V.int) ∧ ks.Pairwise (· < ·) ∧ (∀ x ∈ ks, -1000000000 ≤ x ∧ x ≤ 1000000000) ∧ ks.length < 45 ∧ Hk ks 4 s1 ∧ Hk ks 4 s2 ∧ wrL s1 ≤ 100 ∧ wrL s2 ≤ 100 ∧
  (effF (lastL (wtL s1)) (lastL (wtL s2)) ks = none → ∀ H', Same H H' → Q .non H') ∧
  ∀ sh x y, effF (lastL (wtL s1)) (lastL (wtL s2)) ks = some (sh, x, y) → ∀ p pt H', Same H H' → H' p = some (.tup [.ref pt, .int x, .int y]) → H' pt = some (.tup (sh.map V.int)) → Q (.ref p) H'
def spDiffP (K : PySem.W.Frag) : Sp := fun us H Q _ => ∃ (o1 o2 kk pp row : Addr) (s1 s2 : List S) (ks : List Int) (t : T) (u v : Int), us = [.ref o1, .ref o2, .ref kk, .ref pp] ∧ SeqS K H o1 s1 ∧ SeqS K H o2 s2 ∧ Sq K H kk (ks.map V.int) ∧ H pp = some (.tup [.ref row, .int u, .int v]) ∧ SqT K H row (t.pre.map V.int) ∧ t.bst ∧ t.pre.Perm ks ∧ u ∈ ks ∧ v ∈ ks ∧
  ks.length < 45 ∧ ks.Pairwise (· < ·) ∧ (∀ x ∈ ks, -1000000000 ≤ x ∧ x ≤ 1000000000) ∧ Hk ks 4 s1 ∧ Hk ks 4 s2 ∧ wrL s1 ≤ 100 ∧ wrL s2 ≤ 100 ∧
  ∀ H', Same H H' → Q (.bl ((t.tchs (wtL s1)).abv u v != (t.tchs (wtL s2)).abv u v)) H'
end TT
/-! histories written out; their repr -/
namespace TT
open PySem PySem.Spec PyProof.Rows L2 HotX LamX T
mutual
def S.ex : S → List Int
  | .k n => [n]
  | .r c ss => (List.replicate c.toNat (exL ss)).flatten
def exL : List S → List Int
  | [] => []
  | s :: ss => s.ex ++ exL ss
end
theorem exL_app : ∀ (xs ys : List S), exL (xs ++ ys) = exL xs ++ exL ys
  | [], ys => rfl
  | x :: xs, ys => by show x.ex ++ exL (xs ++ ys) = x.ex ++ exL xs ++ exL ys; rw [exL_app xs ys, List.append_assoc]
theorem exL_take {ss : List S} {i : Nat} {s : S} (h : ss[i]? = some s) : exL (ss.take (i + 1)) = exL (ss.take i) ++ s.ex := by
  rw [List.take_add_one, h, exL_app]; show _ ++ (s.ex ++ []) = _; rw [List.append_nil]
theorem rep_len (xs : List Int) : ∀ n : Nat, (List.replicate n xs).flatten.length = n * xs.length
  | 0 => by rw [Nat.zero_mul]; rfl
  | n + 1 => by rw [List.replicate_succ, List.flatten_cons, List.length_append, rep_len xs n, Nat.succ_mul, Nat.add_comm]
theorem rep_mem {xs : List Int} {x : Int} : ∀ {n : Nat}, x ∈ (List.replicate n xs).flatten → x ∈ xs
  | 0, h => by cases h
  | n + 1, h => by
    rw [List.replicate_succ, List.flatten_cons] at h
    exact (List.mem_append.mp h).elim id rep_mem
mutual
theorem S.ex_len {ks : List Int} : ∀ (s : S), s.inK ks → (s.ex.length : Int) = s.len
  | .k _, _ => rfl
  | .r c ss, h => by
    show (((List.replicate c.toNat (exL ss)).flatten.length : Nat) : Int) = c * lenL ss
    rw [rep_len, ← exL_len ss h.2.2.2, Int.natCast_mul, Int.toNat_of_nonneg h.1]
theorem exL_len {ks : List Int} : ∀ (ss : List S), inKL ks ss → ((exL ss).length : Int) = lenL ss
  | [], _ => rfl
  | s :: ss, h => by
    show ((s.ex ++ exL ss).length : Int) = s.len + lenL ss
    rw [List.length_append, Int.natCast_add, S.ex_len s h.1, exL_len ss h.2]
end
mutual
theorem S.ex_in {ks : List Int} : ∀ (s : S), s.inK ks → ∀ x ∈ s.ex, x ∈ ks
  | .k n, h, x, hx => by rw [List.mem_singleton.mp hx]; exact h
  | .r c ss, h, x, hx => exL_in ss h.2.2.2 x (rep_mem hx)
theorem exL_in {ks : List Int} : ∀ (ss : List S), inKL ks ss → ∀ x ∈ exL ss, x ∈ ks
  | [], _, x, hx => by cases hx
  | s :: ss, h, x, hx => (List.mem_append.mp hx).elim (S.ex_in s h.1 x) (exL_in ss h.2 x)
end
theorem costs_app : ∀ {xs ys : List Int} {t : T}, costs t (xs ++ ys) = costs t xs ++ costs (t.tchs xs) ys
  | [], ys, t => rfl
  | x :: xs, ys, t => by
    show (t.dep x : Int) :: costs (t.tch x) (xs ++ ys) = (t.dep x : Int) :: (costs (t.tch x) xs ++ costs ((t.tch x).tchs xs) ys)
    rw [costs_app]
theorem rep_run {t : T} {e : List Int} (b : t.bst) (h : ∀ x ∈ e, x ∈ t.pre) : ∀ n : Nat, t.tchs (List.replicate (n + 1) e).flatten = t.tchs e ∧ (costs t (List.replicate (n + 1) e).flatten).sum = (costs t e).sum + (n : Int) * (costs (t.tchs e) e).sum
  | 0 => by
    rw [show (List.replicate (0 + 1) e).flatten = e from List.append_nil e]
    exact ⟨rfl, by rw [show ((0 : Nat) : Int) = 0 from rfl, Int.zero_mul, Int.add_zero]⟩
  | n + 1 => by
    obtain ⟨i1, i2⟩ := rep_run b h n
    have ef : (List.replicate (n + 1 + 1) e).flatten = (List.replicate (n + 1) e).flatten ++ e := by
      rw [List.replicate_succ', List.flatten_append, List.flatten_singleton]
    have idem : (t.tchs e).tchs e = t.tchs e := by rw [← tchs_app]; exact tchs_absorbs b h fun _ z => z
    refine ⟨by rw [ef, tchs_app, i1, idem], ?_⟩
    rw [ef, costs_app, i1, List.sum_append, i2, Int.natCast_add, Int.add_mul, Int.add_assoc]
    show _ = _ + (_ + (1 : Int) * _)
    rw [Int.one_mul]
mutual
theorem S.run_ex {ks : List Int} : ∀ (s : S) {t : T}, t.bst → (∀ x ∈ ks, x ∈ t.pre) → s.inK ks → s.run t = .ok (t.tchs s.ex, (costs t s.ex).sum)
  | .k n, t, b, h, i => by
    show (if n ∈ t.pre then _ else _) = Except.ok (t.tch n, (t.dep n : Int) + 0)
    rw [if_pos (h n i), Int.add_zero]
  | .r c ss, t, b, h, i => by
    have hx : ∀ x ∈ exL ss, x ∈ t.pre := fun x hx => h x (exL_in ss i.2.2.2 x hx)
    unfold S.run
    by_cases hc : c = 0
    · rw [if_pos hc, hc]; rfl
    · rw [if_neg hc, runL_ex ss b h i.2.2.2]
      show (runL ss (t.tchs (exL ss))).bind _ = _
      rw [runL_ex ss (tchs_bst b) (fun x hk => (tchs_mem b hx).mpr (h x hk)) i.2.2.2]
      have idem : (t.tchs (exL ss)).tchs (exL ss) = t.tchs (exL ss) := by rw [← tchs_app]; exact tchs_absorbs b hx fun _ z => z
      have c0 := i.1
      obtain ⟨m, hm⟩ : ∃ m : Nat, c.toNat = m + 1 := ⟨c.toNat - 1, by omega⟩
      obtain ⟨r1, r2⟩ := rep_run b hx m
      show Except.ok ((t.tchs (exL ss)).tchs (exL ss), (costs t (exL ss)).sum + (c - 1) * (costs (t.tchs (exL ss)) (exL ss)).sum) = .ok (t.tchs (List.replicate c.toNat (exL ss)).flatten, (costs t (List.replicate c.toNat (exL ss)).flatten).sum)
      rw [hm, r1, r2, idem, show (c - 1) = (m : Int) by omega]
theorem runL_ex {ks : List Int} : ∀ (ss : List S) {t : T}, t.bst → (∀ x ∈ ks, x ∈ t.pre) → inKL ks ss → runL ss t = .ok (t.tchs (exL ss), (costs t (exL ss)).sum)
  | [], t, _, _, _ => rfl
  | s :: ss, t, b, h, i => by
    have hx : ∀ x ∈ s.ex, x ∈ t.pre := fun x hx => h x (S.ex_in s i.1 x hx)
    show (s.run t).bind (fun p => (runL ss p.1).bind fun q => .ok (q.1, p.2 + q.2)) = _
    rw [S.run_ex s b h i.1]
    show (runL ss (t.tchs s.ex)).bind _ = _
    rw [runL_ex ss (tchs_bst b) (fun x hk => (tchs_mem b hx).mpr (h x hk)) i.2]
    show Except.ok ((t.tchs s.ex).tchs (exL ss), (costs t s.ex).sum + (costs (t.tchs s.ex) (exL ss)).sum) = .ok (t.tchs (s.ex ++ exL ss), (costs t (s.ex ++ exL ss)).sum)
    rw [tchs_app, costs_app, List.sum_append]
end
/-! ### data of histories -/
structure HD (d : PyData) (n m : Nat) : Prop where
  lay : PyData.canLay0 d = true
  dp : PyData.depth d ≤ n
  we : PyData.weight d ≤ m
  sh : PyData.showable d = true
  it : PyData.intsShort 33 d = true
structure HDs (ds : List PyData) (n m : Nat) : Prop where
  lay : PyData.canLayAll0 ds = true
  dp : PyData.depthAll ds ≤ n
  we : PyData.weightAll ds ≤ m
  sh : PyData.showableAll ds = true
  it : PyData.intsShortAll 33 ds = true
theorem HDs.cons {d : PyData} {ds : List PyData} {n m m' : Nat} (h : HD d n m) (g : HDs ds n m') : HDs (d :: ds) n (m + 1 + m') := by
  refine ⟨?_, ?_, ?_, ?_, ?_⟩
  · show (PyData.canLay0 d && PyData.canLayAll0 ds) = true; rw [h.lay, g.lay]; rfl
  · show max (PyData.depth d) (PyData.depthAll ds) ≤ n
    have := h.dp
    have := g.dp
    omega
  · show PyData.weight d + 1 + PyData.weightAll ds ≤ _
    have := h.we
    have := g.we
    omega
  · show (PyData.showable d && PyData.showableAll ds) = true; rw [h.sh, g.sh]; rfl
  · show (PyData.intsShort 33 d && PyData.intsShortAll 33 ds) = true; rw [h.it, g.it]; rfl
theorem HDs.nil {n m : Nat} : HDs [] n m := ⟨rfl, Nat.zero_le _, Nat.zero_le _, rfl, rfl⟩
theorem HDs.lst {ds : List PyData} {n m : Nat} (h : HDs ds n m) : HD (.list ds) (n + 1) m := ⟨h.lay, Nat.succ_le_succ h.dp, h.we, h.sh, h.it⟩
theorem HDs.tup {ds : List PyData} {n m : Nat} (h : HDs ds n m) : HD (.tuple ds) (n + 1) m := ⟨h.lay, Nat.succ_le_succ h.dp, h.we, h.sh, h.it⟩
theorem hd_int {i : Int} {n : Nat} (h : i.natAbs < 10 ^ 31) : HD (.int i) n 110 := by
  have lg : i.natAbs.log2 < 104 := by
    by_cases z : i.natAbs = 0
    · rw [z]; decide
    · rw [Nat.log2_lt z]
      have : (10 : Nat) ^ 31 ≤ 2 ^ 104 := by decide
      omega
  refine ⟨rfl, Nat.zero_le _, ?_, decide_eq_true (by omega), decide_eq_true ?_⟩
  · show (if (i == 0) = true then 0 else i.natAbs.log2 + 1) ≤ 110
    split <;> omega
  · have z := int_text_length_le10 (a := i) (k := 31) (by decide) h
    have e : (PyData.shown (.int i)).length = (toString i).length := PySem.ofString_length _
    omega
theorem hd_rep {n : Nat} : HD (.str "repeat") n 6 := ⟨by decide +kernel, Nat.zero_le _, by decide +kernel, rfl, rfl⟩
mutual
theorem hs_data {K : PySem.W.Frag} {H : Hp} {ks : List Int} (hk : ∀ x ∈ ks, -1000000000 ≤ x ∧ x ≤ 1000000000) : ∀ (s : S) {n : Nat} {v : V}, s.inK ks → s.dLe n → HS H s v → ∃ d, Dp K H v d ∧ HD d (2 * n) (300 * s.wr - 1)
  | .k x, n, _, i, _, h => by
    rw [show _ = V.int x from h]
    have hx := hk x i
    have z := hd_int (i := x) (n := 2 * n) (by have : (10 : Nat) ^ 31 = 10000000000000000000000000000000 := by decide
                                               omega)
    exact ⟨.int x, .int x, z.lay, z.dp, Nat.le_trans z.we (by show 110 ≤ 300 * 1 - 1; decide), z.sh, z.it⟩
  | .r c ss, 0, _, _, d, _ => d.elim
  | .r c ss, n + 1, _, i, d, ⟨a, b, vs, h1, h2, h3, h4⟩ => by
    obtain ⟨ds, g1, g2⟩ := hl_data (K := K) hk ss i.2.2.2 d h4
    have zc := hd_int (i := c) (n := 2 * n + 1) (by have : (10 : Nat) ^ 31 = 10000000000000000000000000000000 := by decide
                                                    have := i.1
                                                    have := i.2.1
                                                    omega)
    rw [h1]
    have fin : ∀ e, Dp K H (.ref b) e → HD e (2 * n + 1) (300 * wrL ss) → ∃ d, Dp K H (.ref a) d ∧ HD d (2 * (n + 1)) (300 * (S.r c ss).wr - 1) := fun e e1 e2 => by
      refine ⟨.tuple [.str "repeat", .int c, e], .tup (SqT.of h2) (.cons (.str _) (.cons (.int _) (.cons e1 .nil))), ?_⟩
      have z := (HDs.cons (hd_rep (n := 2 * n + 1)) (HDs.cons zc (HDs.cons e2 (HDs.nil (m := 0))))).tup
      refine ⟨z.lay, z.dp, Nat.le_trans z.we ?_, z.sh, z.it⟩
      show 6 + 1 + (110 + 1 + (300 * wrL ss + 1 + 0)) ≤ 300 * (1 + wrL ss) - 1
      omega
    rcases h3 with h3 | h3
    · exact fin (.list ds) (.lst (SqL.of h3) g1) g2.lst
    · exact fin (.tuple ds) (.tup (SqT.of h3) g1) g2.tup
theorem hl_data {K : PySem.W.Frag} {H : Hp} {ks : List Int} (hk : ∀ x ∈ ks, -1000000000 ≤ x ∧ x ≤ 1000000000) : ∀ (ss : List S) {n : Nat} {vs : List V}, inKL ks ss → dLeL ss n → HL H ss vs → ∃ ds, DpAll K H vs ds ∧ HDs ds (2 * n) (300 * wrL ss)
  | [], n, _, _, _, h => by rw [show _ = [] from h]; exact ⟨[], .nil, HDs.nil⟩
  | s :: ss, n, _, i, d, ⟨v, ws, h1, h2, h3⟩ => by
    rw [h1]
    obtain ⟨e, e1, e2⟩ := hs_data (K := K) hk s i.1 d.1 h2
    obtain ⟨es, f1, f2⟩ := hl_data (K := K) hk ss i.2 d.2 h3
    have z := HDs.cons e2 f2
    refine ⟨e :: es, .cons e1 f1, z.lay, z.dp, Nat.le_trans z.we ?_, z.sh, z.it⟩
    have := wr_pos s
    show 300 * s.wr - 1 + 1 + 300 * wrL ss ≤ 300 * (s.wr + wrL ss)
    omega
end
theorem HD.shaped {d : PyData} {n m : Nat} (h : HD d n m) (l : n ≤ 64) : SeqAt.shaped d = true := by
  show (PyData.canLay0 d && decide (PyData.depth d ≤ 64)) = true
  rw [h.lay, Bool.true_and, decide_eq_true]
  exact Nat.le_trans h.dp l
theorem HD.len {d : PyData} {n m : Nat} (h : HD d n m) (l : m ≤ 100000) : d.shown.length ≤ sizeLine := by
  have h2 := PyData.shown_le 33 (by decide) d (PyData.leavesShort_of_canLay0 33 d h.lay h.it)
  have := h.we
  rw [sizeLine_eq]
  omega
mutual
theorem Dp.same {K : PySem.W.Frag} {H H' : Hp} (e : Same H H') : ∀ {v : V} {d : PyData}, Dp K H v d → Dp K H' v d
  | _, _, .non => .non
  | _, _, .bl b => .bl b
  | _, _, .int i => .int i
  | _, _, .str x => .str x
  | _, _, .lst h g => .lst (e.seq h) (DpAll.same e g)
  | _, _, .tup h g => .tup (Same.tup e h) (DpAll.same e g)
theorem DpAll.same {K : PySem.W.Frag} {H H' : Hp} (e : Same H H') : ∀ {vs : List V} {ds : List PyData}, DpAll K H vs ds → DpAll K H' vs ds
  | _, _, .nil => .nil
  | _, _, .cons h g => .cons (Dp.same e h) (DpAll.same e g)
end
theorem rd_nePr {K : PySem.W.Frag} {H : Hp} {a b p q : Addr} {ns : List Int} {i : Int} {Q : VK} (ha : H a = some (.tup [.ref p, .int i])) (hb : H b = some (.tup [.ref q, .int i])) (hp : SqT K H p (ns.map V.int)) (hq : SqT K H q (ns.map V.int)) (h : Q (.bl false) H) : rNeD K (.ref a) (.ref b) H Q := by
  have sp : SeqAt.shaped (.tuple [.tuple (ns.map PyData.int), .int i]) = true := by
    show (PyData.canLayAll0 (ns.map PyData.int) && true && decide (max (PyData.depthAll (ns.map PyData.int) + 1) 0 + 1 ≤ 64)) = true
    rw [lay_ints, depth_ints]; rfl
  refine ⟨_, _, .tup (SqT.of ha) (.cons (.tup hp (dp_ints ns)) (.cons (.int _) .nil)), .tup (SqT.of hb) (.cons (.tup hq (dp_ints ns)) (.cons (.int _) .nil)), sp, sp, ?_⟩
  have e : PyData.eqv (.tuple [.tuple (ns.map PyData.int), .int i]) (.tuple [.tuple (ns.map PyData.int), .int i]) = true := by
    show (PyData.eqvAll (ns.map PyData.int) (ns.map PyData.int) && ((i == i) && true)) = true
    rw [eqv_ints]; simp
  rw [e]; exact h
/-! ### promises -/
def spUnrG (K : PySem.W.Frag) (n : Nat) : Sp := fun us H Q _ => ∃ (b : Addr) (ss : List S) (ks : List Int), us = [.ref b] ∧ SeqS K H b ss ∧ inKL ks ss ∧ wrL ss ≤ 100 ∧ dLeL ss n ∧ n ≤ 4 ∧ lenL ss ≤ 1000 ∧ ∀ p H', Same H H' → H p = none → H' p = some (.lst ((exL ss).map V.int)) → Q (.ref p) H'
def spPrevUnr (K : PySem.W.Frag) : Nat → Sp
  | 0 => fun _ _ _ _ => False
  | n + 1 => spUnrG K n
def spUnroll (K : PySem.W.Frag) : Sp := fun us H Q _ => ∃ (b : Addr) (ss : List S) (ks : List Int) (lim : Int), us = [.ref b, .int lim] ∧ SeqS K H b ss ∧ inKL ks ss ∧ okL ss ∧ wrL ss ≤ 100 ∧ dLeL ss 4 ∧ lenL ss ≤ 1000 ∧ lenL ss ≤ lim ∧ ∀ p H', Same H H' → H p = none → H' p = some (.lst ((exL ss).map V.int)) → Q (.ref p) H'
def spRunSP (K : PySem.W.Frag) (n : Nat) : Sp := fun us H Q _ => ∃ (a b : Addr) (vs : List V) (ss : List S) (t : T) (p : T × Int), us = [.ref a, .ref b] ∧ H a = some (.tup (t.pre.map V.int)) ∧ Sq K H b vs ∧ HL H ss vs ∧ t.bst ∧ t.pre.length ≤ 1000 ∧ okL ss ∧ dLeL ss n ∧ n ≤ 4 ∧ wrL ss ≤ 100 ∧ runL ss t = .ok p ∧
  ∀ x q H', Same H H' → H' x = some (.tup [.ref q, .int p.2]) → H' q = some (.tup (p.1.pre.map V.int)) → Q (.ref x) H'
def spPrevRP (K : PySem.W.Frag) : Nat → Sp
  | 0 => fun _ _ _ _ => False
  | n + 1 => spRunSP K n
def spRunRP (K : PySem.W.Frag) (n : Nat) : Sp := fun us H Q _ => ∃ (a : Addr) (v : V) (c : Int) (ss : List S) (t : T) (p : T × Int), us = [.ref a, v] ∧ H a = some (.tup (t.pre.map V.int)) ∧ HS H (.r c ss) v ∧ t.bst ∧ t.pre.length ≤ 1000 ∧ (S.r c ss).ok ∧ (S.r c ss).dLe n ∧ n ≤ 4 ∧ (S.r c ss).wr ≤ 100 ∧ (S.r c ss).run t = .ok p ∧
  ∀ x q H', Same H H' → H' x = some (.tup [.ref q, .int p.2]) → H' q = some (.tup (p.1.pre.map V.int)) → Q (.ref x) H'
def spRunHP (K : PySem.W.Frag) : Sp := fun us H Q _ => ∃ (a b : Addr) (vs : List V) (ss : List S) (t : T) (p : T × Int), us = [.ref a, .ref b] ∧ H a = some (.tup (t.pre.map V.int)) ∧ Sq K H b vs ∧ HL H ss vs ∧ t.bst ∧ t.pre.length ≤ 1000 ∧ okL ss ∧ dLeL ss 4 ∧ wrL ss ≤ 100 ∧ runL ss t = .ok p ∧
  ∀ x q H', Same H H' → H' x = some (.tup [.ref q, .int p.2]) → H' q = some (.tup (p.1.pre.map V.int)) → Q (.ref x) H'
end TT
/-! the law's own call: no guard ahead of it, and a table of code objects for its lambdas -/
namespace TT
open PySem PySem.Spec PyProof.Rows L2 HotX LamX
theorem lawGT {P : Program} {w : World} {K : PySem.W.Frag} {mg mb : Str → Option Value} {k : Nat} {fa a c PT : Addr} {fd : FuncData} {x : Str} {sp : Sp} {st : Shared} {us : List Value} {ns : List Int}
    (inK : K.In st.heap) (gl : st.heap.Ns mainGlobals mg) (bl : st.heap.Ns builtinsNs mb) (bo : ∀ y : Str, y ≠ "__name__" → mb y = bootBuiltins y) (nl : st.heap.NoLimit) (ng : st.gens = #[])
    (tab : st.heap.get? PT = some { cls := .none, data := .fields #[] }) (noK : K.lookup PT = none) (hd : PySem.W.CodeHd st.heap c PT)
    (bm : ∃ (m : Addr) (ob : Obj), mg "__builtins__" = some (.ref m) ∧ m ≠ builtinsNs ∧ st.heap.get? m = some ob ∧ ob.cls = .type "module" ∧ ob.dict = some builtinsNs ∧ ob.data = .plain)
    (hob : st.heap.get? a = some { cls := .type "list", data := .seq us.toArray }) (hi : IntsAre us ns) (hl : ns.length ≤ sizeLine) (rm : Room k callerA)
    (F : ∀ b : Heap, K.In b → b.Ns mainGlobals mg → TabB b mg c PT → FnG P w K mg b k fa fd [x] sp) (bnd : ∀ (s : Shared) (u : Value), BindsTo s fd ⟨[u], []⟩ [(x, u)])
    (prom : ∀ H : Hp, H PT = some (.tbl #[]) → SqL K H a (ns.map V.int) → sp [.ref a] H (fun v _ => v = .bl true) fun _ _ _ => False) :
    codeAny (model P w) callerA (.call (.ref fa) ⟨[.ref a], []⟩) (fun r s' => r = .ok (.ret (.bool true)) ∧ OldK st.heap s'.heap ∧ s'.os = st.os ∧ AllBare s'.gens) st := by
  obtain ⟨G, only, seq, ok, one⟩ := first_hp (P := P) (w := w) inK hob hi hl
  have aPT : PT ≠ a := fun z => by rw [z, hob] at tab; cases tab
  have gPT : G PT = none := by
    cases e : G PT with
    | none => rfl
    | some u => exact absurd (one PT u e).1 aPT
  have H0 : ∃ H : Hp, H PT = some (.tbl #[]) ∧ (∀ b, b ≠ PT → H b = G b) := ⟨upd G PT (.tbl #[]), upd_same, fun b ne => upd_ne ne⟩
  obtain ⟨H, hPT, hG⟩ := H0
  have seqH : SqL K H a (ns.map V.int) := Same.seq (fun b o e => by rw [hG b (ne_of_none e gPT)]; exact e) seq
  have look : ∀ b u, H b = some u → (b = PT ∧ u = .tbl #[]) ∨ (b = a ∧ K.lookup a = none ∧ ∃ ob xs, u = .frz ob (.lst xs)) := fun b u e => by
    by_cases c0 : b = PT
    · rw [c0, hPT] at e; cases e; exact .inl ⟨c0, rfl⟩
    · rw [hG b c0] at e
      refine .inr ⟨(one b u e).1, (one b u e).2, ?_⟩
      rcases only b with n | ⟨ob, xs, n⟩
      · rw [n] at e; cases e
      · rw [n] at e; cases e; exact ⟨ob, xs, rfl⟩
  have okH : HOk P w H st.heap := fun b u e => by
    rcases look b u e with ⟨rfl, rfl⟩ | ⟨rfl, _, ob, xs, rfl⟩
    · exact tab
    · rw [hG b (Ne.symm aPT)] at e
      exact ok b _ e
  have stay : ∀ {b : Addr} {o : Obj}, st.heap.get? b = some o → H b = none → (hidT st.heap H).get? b = some o := fun z n => hidT_get z n
  -- what is neither a list nor a table lies in the base
  have inB : ∀ {b : Addr} {o : Obj}, st.heap.get? b = some o → (∀ vs n, o.data ≠ .seq vs n) → o.data ≠ .fields #[] → (hidT st.heap H).get? b = some o := fun {b o} z h1 h2 => by
    refine stay z ?_
    cases e : H b with
    | none => rfl
    | some u =>
      rcases look b u e with ⟨rfl, _⟩ | ⟨rfl, _⟩
      · rw [tab] at z; cases z; exact absurd rfl h2
      · rw [hob] at z; cases z; exact absurd rfl (h1 _ _)
  have names : ∀ {b : Addr} {m : Str → Option Value}, st.heap.Ns b m → (hidT st.heap H).Ns b m := by
    rintro b m ⟨o, es, ep, z, dz, r⟩
    exact ⟨o, es, ep, inB z (fun vs n q => by rw [dz] at q; cases q) (fun q => by rw [dz] at q; cases q), dz, r⟩
  have inKb : K.In (hidT st.heap H) := fun b o z => by
    refine stay (inK b o z) ?_
    cases e : H b with
    | none => rfl
    | some u =>
      rcases look b u e with ⟨rfl, _⟩ | ⟨rfl, n, _⟩
      · rw [noK] at z; cases z
      · rw [n] at z; cases z
  obtain ⟨mc, c1, c2⟩ := nl
  have md : Mod K mg (hidT st.heap H) := ⟨inKb, names gl, ⟨mb, names bl, bo⟩, mc, names c1, c2⟩
  have none0 : ∀ b : Addr, b ∉ frs ([] : List Env) := fun b hb => absurd (show b ∈ ([] : List Addr) from hb) (by simp)
  have en : Env0 P w K mg (hidT st.heap H) callerA [] st H := ⟨rfl, md, fun _ _ z => of_hidT z, Nat.le_of_eq (hidT_size _ _), trivial, fun b hb => (none0 b hb).elim, okH, .of_eq ng⟩
  have TB : TabB (hidT st.heap H) mg c PT := by
    refine ⟨?_, ?_, fun z => ?_⟩
    · obtain ⟨o, vs, f1, f2, f3, f4, f5, f6, f7, e1, r1, r2, r3, r⟩ := hd
      exact ⟨o, vs, f1, f2, f3, f4, f5, f6, f7, inB e1 (fun vs n q => by rw [r2] at q; cases q) (fun q => by rw [r2] at q; cases q; simp at r3), r1, r2, r3, r⟩
    · obtain ⟨m, ob, b1, b2, b3, b4, b5, b6⟩ := bm
      refine ⟨m, ob, b1, b2, fun q => ?_, fun q => ?_, inB b3 (fun vs n q => by rw [b6] at q; cases q) (fun q => by rw [b6] at q; cases q), b4, b5, b6⟩
      · obtain ⟨o, es, ep, e, dz, _⟩ := gl
        rw [q, e] at b3; cases b3
        rw [dz] at b6; cases b6
      · rw [q, tab] at b3; cases b3; cases b6
    · obtain ⟨o, es, ep, e, dz, _⟩ := gl
      rw [z, tab] at e; cases e; cases dz
  refine codeAny_mono ((F _ inKb (names gl) TB).go callerA [] st H _ [.ref a] [.ref a] _ _ rfl rm en (bnd st (.ref a)) (.cons rfl .nil) (prom H hPT seqH)) fun r s' hr => ?_
  match r, hr with
  | .error e, hr => exact (show False from hr).elim
  | .ok (.ret u), ⟨v, H2, os2, bare2, un, ok2, rv, q⟩ =>
    have qv : v = .bl true := q
    subst qv
    have ru : u = Value.bool true := rv
    subst ru
    obtain ⟨more, mt⟩ := un.tbls PT #[] hPT
    have after : s'.heap.get? PT = some { cls := .none, data := .fields _ } := ok2 PT _ mt
    have old : ∀ b o, b ≠ PT → st.heap.get? b = some o → s'.heap.get? b = some o := fun b o ne z => by
      cases e : H b with
      | none => exact un.keep b o z e (none0 b) (by simp)
      | some u =>
        rcases look b u e with ⟨q, _⟩ | ⟨_, _, ob, xs, rfl⟩
        · exact absurd q ne
        · have z1 := (okH b _ e).1
          have z2 := (ok2 b _ (un.frzs b ob _ e)).1
          rw [z] at z1; cases z1
          exact z2
    refine ⟨rfl, ⟨fun b o z => ?_, fun b o z => ?_⟩, os2, bare2⟩
    · by_cases e : b = PT
      · rw [e, tab] at z; cases z
        rw [e]
        exact .inr (.inl ⟨(hd.tab tab).isCodeTable, rfl, #[], more, rfl, by first | exact after | (rw [Array.empty_append]; exact after) | (rw [Array.empty_append] at after; exact after)⟩)
      · exact .inl (old b o e z)
    · by_cases e : b = PT
      · rw [e]; exact ⟨_, after⟩
      · exact ⟨o, old b o e z⟩
/-- as fnG_of, of a def whose code object is named -/
theorem fnG_ofL {P : Program} {w : World} {K : PySem.W.Frag} {mg : Str → Option Value} {base : Heap} {k : Nat} {x ql : Str} {sm : Stmt} {f cl : Addr} {N ps : List Str} {sp : Sp} {oc kV dc pm ct : Value} {od an : Option Addr} {sl : Array (Option Value)}
    (look : K.lookup f = some ⟨oc, od, .func (PySem.W.fnOf x ql (defArgs sm) (defBody sm) (defScope sm) .none kV dc pm an (.ref cl) ct), sl⟩) (code : PySem.W.codeIn K (.ref cl) ql = true) (S : FnScope N ps (defScope sm)) (lg : ∀ vs H Q E, sp vs H Q E → vs.length = ps.length)
    (bd : ∀ (A : Around) (outer : List Env) (s : Shared) (H : Hp) (vs : List V) (Q : VK) (E : XK), A.guards = some [] → Room k (A.deeper (envOfC ql (defScope sm) s.heap.objs.size f (.ref cl))) → sp vs H Q E →
      ∃ t, PSs (cxOf CX0 P w K mg base N ql (defScope sm) f (.ref cl) A outer s H E).nox (defBody sm) t ∧ t { nx := fun _ H' => Q .non H', rt := Q } (L2.start N vs) H) : FnG P w K mg base (k + 1) f (PySem.W.fnOf x ql (defArgs sm) (defBody sm) (defScope sm) .none kV dc pm an (.ref cl) ct) ps sp := by
  refine ⟨lg, fun A out st H ar us vs Q E gd rm en bnd rel prom => ?_⟩
  have inK := en.mod.kin.keeps fun _ _ z => (en.bs _ _ z).1
  have free := en.mod.nolimit.keeps fun _ _ z => (en.bs _ _ z).1
  obtain ⟨t, d1, d2⟩ := bd A out st H vs Q E gd (rm.deeper _) prom
  have kinds : ∀ y ∈ ps.zip us, (defScope sm).names.lookup y.1 = some .local ∨ ((defScope sm).names.lookup y.1 = some .cell ∧ ((cellsFrom (st.heap.objs.size + 1) (defScope sm).names []).lookup y.1).isSome = true) := by
    rintro ⟨n, v⟩ hy
    refine (S.par n (List.of_mem_zip hy).1).imp id fun z => ⟨z, ?_⟩
    exact PySem.W.cellsFrom_some _ _ _ (.inl z)
  refine codeAny_call_function rm.depth (inK _ _ look) rfl S.co S.gen rfl (PySem.W.codeRec_of inK code) (bnd _ _ _ _ ?_)
  refine wpAny_newFunctionEnv_cells S.kind kinds fun ev hev s1 xe => ?_
  subst hev
  have J0 := inv_start (CX := CX0) (E := E) S rm.hd en (lg _ _ _ _ prom) rel xe
  refine ⟨free.keeps xe.toInCall.keep, codeAny_func (wpAny_mono (d1.nox.run [] s1 _ H _ J0 d2) ?_ fun _ _ z => z)⟩
  intro fl s2 hs
  match fl, hs with
  | .ret u, ⟨v, σ2, H2, J, rv, q⟩ => exact ⟨v, H2, J.os, J.bare, J.base, J.hok, rv, q⟩
  | .next, ⟨σ2, H2, J, q⟩ => exact ⟨V.non, H2, J.os, J.bare, J.base, J.hok, rfl, q⟩
  | .brk, ⟨_, _, _, q⟩ => exact q.elim
  | .cont, ⟨_, _, _, q⟩ => exact q.elim
/-- what is asked of a law with lambdas whose call stands behind no guard -/
def LawGT (l : PySem.W.OpenLaw) (w : World) (K : PySem.W.Frag) (k n : Nat) (x : Str) (mg : Str → Option Value) (fa : Addr) (h : Heap) : Prop :=
  ∃ (fd : FuncData) (c PT : Addr) (sp : Sp), h.get? PT = some { cls := .none, data := .fields #[] } ∧ K.lookup PT = none ∧ PySem.W.CodeHd h c PT ∧ (∀ (s : Shared) (u : Value), BindsTo s fd ⟨[u], []⟩ [(x, u)]) ∧
    (∀ (H : Hp) (a : Addr) (ns : List Int), ns.length ≤ n → H PT = some (.tbl #[]) → SqL K H a (ns.map V.int) → sp [.ref a] H (fun v _ => v = .bl true) fun _ _ _ => False) ∧
    ∀ base : Heap, K.In base → base.Ns mainGlobals mg → TabB base mg c PT → FnG l.prog w K mg base k fa fd [x] sp
theorem walkGT {l : PySem.W.OpenLaw} {n k : Nat} {q : Program} {loose : List Str} {XP : (Str → Option Value) → Heap → Prop} {YP : World → Heap → Prop} {d : DefRec} {K : Params → PySem.W.Frag} {x : Str}
    (most : l.most = some n) (fits : n ≤ sizeLine) (nodef : d.params.defaults = []) (rm : Room k callerA) (rec_ : ((recsOf q).any fun e => e.name == d.name) = true) (kin : ∀ (w : World) (h : Heap), YP w h → (K w.params).In h)
    (F : ∀ (w : World) (mg : Str → Option Value) (fa : Addr) (h : Heap), YP w h → (K w.params).In h → h.Ns mainGlobals mg → mg d.name = some (.ref fa) → OwnTab (K w.params) fa h → LawGT l w (K w.params) k n x mg fa h) :
    PySem.W.WalkO q loose XP YP l.row.toRowW d [] (fun f vs => PySem.call f vs) := by
  refine Att.attach_callB most nodef ?_
  intro w s0 s1 mg mb fa o pm cd dc a us ns G Y fo fdat _ hf hob hi hle _ hgen
  have inK := kin w _ Y
  have own : OwnTab (K w.params) fa s1.heap := by
    intro c P o1 fd1 e dd vs1 sl l1 d1 c1 l2 t1
    obtain ⟨dL, hm, nm⟩ := List.any_eq_true.mp rec_
    obtain ⟨a', o', fd', c', P', h1, h2, h3, h4, h5, h6⟩ := G.T.tab dL hm
    rw [show dL.name = d.name from beq_iff_eq.mp nm, hf] at h1
    cases h1
    have y1 := inK _ _ l1
    rw [h2] at y1; cases y1
    rw [h3] at d1; cases d1
    rw [h4] at c1; cases c1
    obtain ⟨⟨oc, vc, e1, _, e3, e4⟩, hP⟩ := h6
    have y2 := inK _ _ l2
    rw [e1] at y2; cases y2
    cases e3
    rw [e4] at t1; cases t1
    exact hP
  obtain ⟨fd, c, PT, sp, hT, nT, hC, hb, hs, hF⟩ := F w mg fa _ Y inK G.T.g hf own
  exact lawGT inK G.T.g G.T.b G.T.builtins G.T.nolimit hgen hT nT hC G.T.bmain hob hi (Nat.le_trans hle fits) rm hF hb fun H h1 h2 => hs H a ns hle h1 h2
end TT
/-! t[::-1] of a tuple -/
namespace TT
open PySem PySem.Spec PyProof.Rows L2 HotX LamX T HT
theorem adjust_rev (n : Nat) : Builtin.Slice.sliceAdjust none none (-1) (n : Int) = ((n : Int) - 1, -1) := by
  unfold Builtin.Slice.sliceAdjust
  rfl
theorem places_rev (n : Nat) : Builtin.Slice.slicePlaces ((n : Int) - 1) (-1) (-1) = n := by
  unfold Builtin.Slice.slicePlaces
  have h1 : ¬ ((-1 : Int) > 0) := by omega
  simp only [h1, if_false, show (- -1 : Int) = 1 by decide, Int.ediv_one]
  split <;> omega
theorem pick_rev (xs : Array Value) : ((List.range xs.size).filterMap fun (m : Nat) => xs[(((xs.size : Int) - 1) + (m : Int) * (-1)).toNat]?).toArray = xs.toList.reverse.toArray := by
  have e : (fun (m : Nat) => xs[(((xs.size : Int) - 1) + (m : Int) * (-1)).toNat]?) = (fun x => xs[x]?) ∘ fun m => xs.size - 1 - m := by
    funext m
    have : (((xs.size : Int) - 1) + (m : Int) * (-1)).toNat = xs.size - 1 - m := by omega
    rw [this]; rfl
  rw [e, ← List.filterMap_map, PySem.W.krv_range, List.filterMap_reverse, PySem.W.krv_all]
section
variable {prog : Program} {w : World} {A : Around} {E : Value → Shared → Prop} {s : Shared}
theorem sliceApplied_rev {sl : Addr} {vl vu vs : Value} {n : Nat} {Q : Int × Int × Nat → Shared → Prop} (hs : s.heap.IsSliceOf sl vl vu vs) (pl : IsPart vl none) (pu : IsPart vu none) (ps : IsPart vs (some (-1)))
    (h : Q ((n : Int) - 1, -1, n) s) : wpAny (model prog w) A (Builtin.Slice.sliceApplied (.ref sl) (pure (n : Int))) Q E s := by
  obtain ⟨os, hos, hcs, hds⟩ := id hs
  unfold Builtin.Slice.sliceApplied Builtin.Slice.sliceFields
  refine wpAny_bind (wpAny_bind (wpAny_field hos hds (x := vl) rfl (wpAny_bind (wpAny_field hos hds (x := vu) rfl (wpAny_bind (wpAny_field hos hds (x := vs) rfl (wpAny_pure ?_)))))))
  refine wpAny_bind (slicePart_ ps ?_)
  show wpAny _ _ (if ((-1 : Int) == 0) = true then _ else _) _ _ s
  rw [if_neg (by decide)]
  refine wpAny_bind (slicePart_ pl (wpAny_bind (slicePart_ pu (wpAny_bind (wpAny_pure ?_)))))
  show wpAny _ _ (match Builtin.Slice.sliceAdjust none none (-1) (n : Int) with | (lo, hi) => pure (lo, (-1 : Int), Builtin.Slice.slicePlaces lo hi (-1))) _ _ s
  rw [adjust_rev n]
  show wpAny _ _ (pure ((n : Int) - 1, (-1 : Int), Builtin.Slice.slicePlaces ((n : Int) - 1) (-1) (-1))) _ _ s
  rw [places_rev]
  exact wpAny_pure h
theorem getItem_tuple_rev {t sl : Addr} {items : Array Value} {vl vu vs : Value} {Q : Value → Shared → Prop} (ht : IsTup s.heap t items) (hs : s.heap.IsSliceOf sl vl vu vs) (pl : IsPart vl none) (pu : IsPart vu none) (ps : IsPart vs (some (-1)))
    (h : Q (.ref s.heap.objs.size) { s with heap := s.heap.push { cls := .type "tuple", data := .seq items.toList.reverse.toArray } })
    (hsz : items.size ≤ sizeLine) : wpAny (model prog w) A (getItem (.ref t) (.ref sl)) Q E s := by
  have htake : sizeOk (.seq items.toList.reverse.toArray) := by
    show items.toList.reverse.toArray.size ≤ sizeLine
    rw [List.size_toArray, List.length_reverse, Array.length_toList]
    exact hsz
  obtain ⟨os, hos, hcs, hds⟩ := id hs
  have hTs : s.TypeIs (.ref sl) "slice" := ⟨os, hos, hcs⟩
  unfold getItem
  try with_reducible refine wpAny_holding ?_
  first | refine wpAny_bind (wpAny_pure ?_) | skip
  refine wpAny_bind (wpAny_sequenceKey ht.typeIs (by decide) ?_)
  refine wpAny_bind (wpAny_callSpecial?_slot (name := Str.ofString "__getitem__") ht.typeIs PyProof.Rows.slot_tuple_getitem
    (wpAny_call_entry PyProof.Rows.slot_tuple_getitem ht.typeIs entry_tuple_getitem ?_ (args_tuple_getitem _ _)))
  show wpAny _ _ (Builtin.Tuple.tupleItemsOf (.ref t) >>= _) _ _ s
  refine wpAny_bind (tupleItemsOf_ ht ?_)
  refine wpAny_bind (wpAny_typeOf hTs ?_)
  rw [if_pos (by decide)]
  refine wpAny_bind (sliceApplied_rev hs pl pu ps ?_)
  have hno : ¬ ((((items.size : Int) - 1) == 0 && (-1 : Int) == 1 && items.size == items.size) = true) := by
    intro q
    rw [Bool.and_eq_true, Bool.and_eq_true] at q
    exact absurd q.1.2 (by decide)
  show wpAny _ _ (if (((items.size : Int) - 1) == 0 && (-1 : Int) == 1 && items.size == items.size) = true then _ else _) _ _ s
  rw [if_neg hno, pick_rev]
  first
    | exact wpAny_bind (m := Builtin.Tuple.tupleExact _) (wpAny_newObj_type (wpAny_pure ⟨_, rfl, wpAny_pure h⟩) htake)
    | exact wpAny_bind (m := Builtin.Tuple.tupleExact _) (wpAny_newObj_type (wpAny_bind (wpAny_pure (wpAny_pure ⟨_, rfl, wpAny_pure h⟩))) htake)
    | exact wpAny_bind (wpAny_bind (m := Builtin.Tuple.tupleExact _) (wpAny_newObj_type (wpAny_pure (wpAny_pure ⟨_, rfl, wpAny_pure h⟩)) htake))
    | exact wpAny_bind (wpAny_bind (m := Builtin.Tuple.tupleExact _) (wpAny_newObj_type (wpAny_pure ⟨_, rfl, wpAny_pure h⟩) htake))
end
section
variable {X : Cx}
def tRevT (K : PySem.W.Frag) (te : TE) : TE := fun σ H Q => te σ H fun x H1 => ∃ a xs, x = .ref a ∧ SqT K H1 a xs ∧ ∀ p, H1 p = none → Q (.ref p) (upd H1 p (.tup xs.reverse))
theorem pe_revT {e : Expr} {te : TE} {k : Nat} {p1 p2 p3 pos : Pos} (he : PE X e te) : PE X (.Subscript e (.Slice none none (some (.UnaryOp .USub (.Constant (.int 1) k p1) p2)) p3) pos) (tRevT X.K te) := by
  refine ⟨fun pins s σ H Q I h => ?_⟩
  refine Subscript_ (thn (he.run pins s σ H _ I h) fun v s1 ⟨x, H1, I1, r1, q1⟩ => ?_)
  obtain ⟨a, xs, ex, hx, q⟩ := q1
  subst ex
  cases r1
  have hst : PO X (some (.UnaryOp .USub (.Constant (.int 1) k p1) p2)) (tPart (tUn (rU fun i => .int (-i)) (tC (.int 1)))) := po_some (pe_un un_neg pe_int)
  refine wpAny_Slice (thn (po_none.run pins s1 σ H1 (fun o H2 => o = none ∧ H2 = H1) I1 ⟨rfl, rfl⟩) fun vl s2 ⟨l, H2, I2, pl, el, e2⟩ => ?_)
  subst el e2
  refine thn (po_none.run pins s2 σ H2 (fun o H3 => o = none ∧ H3 = H2) I2 ⟨rfl, rfl⟩) fun vu s3 ⟨u, H3, I3, pu, eu, e3⟩ => ?_
  subst eu e3
  refine thn (hst.run pins s3 σ H3 (fun o H4 => o = some (-1) ∧ H4 = H3) I3 ⟨1, rfl, -1, rfl, rfl, rfl⟩) fun vs s4 ⟨o, H4, I4, ps, eo, e4⟩ => ?_
  subst eo e4
  have I5 : Inv X pins σ H4 { s4 with heap := s4.heap.push { cls := .type "slice", data := .fields #[vl, vu, vs] } } := I4.kept (t' := s4.toks) fun b ob q => Heap.get?_push_of_some _ q
  obtain ⟨its, r, ht, hz⟩ := I5.tuple hx
  have hlen := r.length
  show wpAny (model X.prog X.w) X.A (subscriptTail e (.Slice none none (some (.UnaryOp .USub (.Constant (.int 1) k p1) p2)) p3) (.ref a) (.ref s4.heap.objs.size)) (EP X pins σ Q) X.xe { s4 with heap := s4.heap.push { cls := .type "slice", data := .fields #[vl, vu, vs] } }
  refine tail_any (ops := [.ref a, .ref s4.heap.objs.size]) ht.typeIs (PyProof.Rows.slot_tuple_getitem.lookup) ?_ (by with_unfolding_all rfl)
  refine getItem_tuple_rev ht (Heap.IsSliceOf.new _ vl vu vs) pl pu ps ?_ (by rw [List.size_toArray]; omega)
  refine ⟨.ref _, _, I5.laid (t' := s4.toks) (o := .tup xs.reverse) (fun b ob q => Heap.get?_push_of_some _ q) (Nat.le_refl _) ?_, rfl, q _ (I5.hok.fresh (Nat.le_refl _))⟩
  exact ⟨by rw [List.length_reverse]; exact hz, _, r.reverse, IsTup.new _ _⟩
end
end TT
/-! bent histories: what is checked of them -/
namespace TT
open PySem PySem.Spec PyProof.Rows L2 HotX LamX T
inductive Bt where
  | k (n : Int)
  | z
  | o
  | p (c : Int)
  | r (w : Str) (c : Int) (ss : List Bt)
mutual
def HB (H : Hp) : Bt → V → Prop
  | .k n, v => v = .int n
  | .z, v => ∃ a : Addr, v = .ref a ∧ H a = some (.tup [])
  | .o, v => ∃ a : Addr, v = .ref a ∧ H a = some (.tup [.str "repeat"])
  | .p c, v => ∃ a : Addr, v = .ref a ∧ H a = some (.tup [.str "repeat", .int c])
  | .r w c ss, v => ∃ (a b : Addr) (vs : List V), v = .ref a ∧ H a = some (.tup [.str w, .int c, .ref b]) ∧ (H b = some (.lst vs) ∨ H b = some (.tup vs)) ∧ BL H ss vs
def BL (H : Hp) : List Bt → List V → Prop
  | [], vs => vs = []
  | s :: ss, vs => ∃ (v : V) (ws : List V), vs = v :: ws ∧ HB H s v ∧ BL H ss ws
end
mutual
theorem HB.at {H H' : Hp} (e1 : ∀ x xs, H x = some (.tup xs) → H' x = some (.tup xs)) (e2 : ∀ x xs, H x = some (.lst xs) → H' x = some (.lst xs)) : ∀ (s : Bt) {v : V}, HB H s v → HB H' s v
  | .k n, _, h => h
  | .z, _, ⟨a, h1, h2⟩ => ⟨a, h1, e1 _ _ h2⟩
  | .o, _, ⟨a, h1, h2⟩ => ⟨a, h1, e1 _ _ h2⟩
  | .p c, _, ⟨a, h1, h2⟩ => ⟨a, h1, e1 _ _ h2⟩
  | .r w c ss, _, ⟨a, b, vs, h1, h2, h3, h4⟩ => ⟨a, b, vs, h1, e1 _ _ h2, h3.imp (e2 _ _) (e1 _ _), BL.at e1 e2 ss h4⟩
theorem BL.at {H H' : Hp} (e1 : ∀ x xs, H x = some (.tup xs) → H' x = some (.tup xs)) (e2 : ∀ x xs, H x = some (.lst xs) → H' x = some (.lst xs)) : ∀ (ss : List Bt) {vs : List V}, BL H ss vs → BL H' ss vs
  | [], _, h => h
  | s :: ss, _, ⟨v, ws, h1, h2, h3⟩ => ⟨v, ws, h1, HB.at e1 e2 s h2, BL.at e1 e2 ss h3⟩
end
theorem HB.same {H H' : Hp} (e : Same H H') (s : Bt) {v : V} (h : HB H s v) : HB H' s v := HB.at (fun _ _ => e _ _) (fun _ _ => e _ _) s h
theorem BL.same {H H' : Hp} (e : Same H H') (ss : List Bt) {vs : List V} (h : BL H ss vs) : BL H' ss vs := BL.at (fun _ _ => e _ _) (fun _ _ => e _ _) ss h
mutual
theorem HB.ext {H H' : Hp} {c d : Addr} {ns : List Int} (hD : Drw c ns H d) (e : Ext d H H') : ∀ (s : Bt) {v : V}, HB H s v → HB H' s v
  | .k n, _, h => h
  | .z, _, ⟨a, h1, h2⟩ => ⟨a, h1, e _ _ (tup_ne hD h2) h2⟩
  | .o, _, ⟨a, h1, h2⟩ => ⟨a, h1, e _ _ (tup_ne hD h2) h2⟩
  | .p n, _, ⟨a, h1, h2⟩ => ⟨a, h1, e _ _ (tup_ne hD h2) h2⟩
  | .r w n ss, _, ⟨a, b, vs, h1, h2, h3, h4⟩ => by
    refine ⟨a, b, vs, h1, e _ _ (tup_ne hD h2) h2, h3.imp (fun h => e _ _ (fun z => ?_) h) (fun h => e _ _ (tup_ne hD h) h), BL.ext hD e ss h4⟩
    obtain ⟨i, z1, z2, hd, hc, _⟩ := id hD
    rw [z, hd] at h
    cases h
    cases ss with
    | nil => exact absurd (show _ = [] from h4) (by simp)
    | cons s0 ss0 =>
      obtain ⟨v, ws, e1, e2, _⟩ := h4
      cases e1
      cases s0 with
      | k x => exact absurd (show V.ref c = V.int x from e2) (by simp)
      | z => obtain ⟨a', k1, k2⟩ := e2; cases k1; rw [hc] at k2; cases k2
      | o => obtain ⟨a', k1, k2⟩ := e2; cases k1; rw [hc] at k2; cases k2
      | p x => obtain ⟨a', k1, k2⟩ := e2; cases k1; rw [hc] at k2; cases k2
      | r w' x y =>
        obtain ⟨a', b', vs', k1, k2, _⟩ := e2
        cases k1
        rw [hc] at k2
        cases k2
theorem BL.ext {H H' : Hp} {c d : Addr} {ns : List Int} (hD : Drw c ns H d) (e : Ext d H H') : ∀ (ss : List Bt) {vs : List V}, BL H ss vs → BL H' ss vs
  | [], _, h => h
  | s :: ss, _, ⟨v, ws, h1, h2, h3⟩ => ⟨v, ws, h1, HB.ext hD e s h2, BL.ext hD e ss h3⟩
end
theorem BL.extN {H H' : Hp} (e : ExtN H H') (ss : List Bt) {vs : List V} (h : BL H ss vs) : BL H' ss vs := BL.at (fun _ _ z => e _ _ z fun ps q => by cases q) (fun _ _ z => e _ _ z fun ps q => by cases q) ss h
theorem BL.len {H : Hp} : ∀ {ss : List Bt} {vs : List V}, BL H ss vs → vs.length = ss.length
  | [], _, h => by rw [show _ = [] from h]; rfl
  | _ :: _, _, ⟨v, ws, h1, _, h3⟩ => by rw [h1, List.length_cons, List.length_cons, h3.len]
theorem BL.get {H : Hp} : ∀ {ss : List Bt} {vs : List V} {i : Nat} {v : V}, BL H ss vs → vs[i]? = some v → ∃ s, ss[i]? = some s ∧ HB H s v
  | [], _, i, v, h, g => by rw [show _ = [] from h] at g; cases g
  | s :: _, _, 0, v, ⟨v', ws, h1, h2, _⟩, g => by rw [h1] at g; cases g; exact ⟨s, rfl, h2⟩
  | _ :: _, _, i + 1, v, ⟨v', ws, h1, _, h3⟩, g => by rw [h1] at g; exact h3.get (i := i) g
theorem BL.app {H : Hp} : ∀ {ss ts : List Bt} {vs ws : List V}, BL H ss vs → BL H ts ws → BL H (ss ++ ts) (vs ++ ws)
  | [], _, _, _, h1, h2 => by rw [show _ = [] from h1]; exact h2
  | _ :: _, _, _, _, ⟨v, us, e, h2, h3⟩, h => by rw [e]; exact ⟨v, us ++ _, rfl, h2, h3.app h⟩
theorem BL.take {H : Hp} : ∀ {ss : List Bt} {vs : List V} (i : Nat), BL H ss vs → BL H (ss.take i) (vs.take i)
  | [], _, i, h => by rw [show _ = [] from h, List.take_nil, List.take_nil]; rfl
  | _ :: _, _, 0, _ => rfl
  | _ :: _, _, i + 1, ⟨v, us, e, h2, h3⟩ => by rw [e]; exact ⟨v, us.take i, rfl, h2, h3.take i⟩
theorem BL.drop {H : Hp} : ∀ {ss : List Bt} {vs : List V} (i : Nat), BL H ss vs → BL H (ss.drop i) (vs.drop i)
  | [], _, i, h => by rw [show _ = [] from h, List.drop_nil, List.drop_nil]; rfl
  | _ :: _, _, 0, h => h
  | _ :: _, _, i + 1, ⟨v, us, e, h2, h3⟩ => by rw [e]; exact h3.drop i
theorem BL.rev {H : Hp} : ∀ {ss : List Bt} {vs : List V}, BL H ss vs → BL H ss.reverse vs.reverse
  | [], _, h => by rw [show _ = [] from h]; rfl
  | s :: ss, _, ⟨v, us, e, h2, h3⟩ => by
    rw [e, List.reverse_cons, List.reverse_cons]
    exact h3.rev.app ⟨v, [], rfl, h2, rfl⟩
theorem BL.one {H : Hp} {s : Bt} {v : V} (h : HB H s v) : BL H [s] [v] := ⟨v, [], rfl, h, rfl⟩
theorem BL.rep {H : Hp} {x : Int} : ∀ n : Nat, BL H (List.replicate n (.k x)) (List.replicate n (.int x))
  | 0 => rfl
  | n + 1 => ⟨.int x, List.replicate n (.int x), rfl, rfl, BL.rep n⟩
/-! ### sizes, depths, what is drawn -/
mutual
def Bt.wr : Bt → Nat
  | .r _ _ ss => 1 + wrB ss
  | _ => 1
def wrB : List Bt → Nat
  | [] => 0
  | s :: ss => s.wr + wrB ss
end
mutual
def Bt.dLe : Bt → Nat → Prop
  | .r _ _ ss, n + 1 => dLeB ss n
  | .r _ _ _, 0 => False
  | _, _ => True
def dLeB : List Bt → Nat → Prop
  | [], _ => True
  | s :: ss, n => s.dLe n ∧ dLeB ss n
end
def okW (w : Str) : Prop := w = "repeat" ∨ w = "Repeat" ∨ w = "" ∨ w = "round"
mutual
def Bt.fn : Bt → Prop
  | .k n => -1000000001 ≤ n ∧ n ≤ 1000000001
  | .p c => -1 ≤ c ∧ c ≤ 1000000000000000000000000000001
  | .r w c ss => okW w ∧ -1 ≤ c ∧ c ≤ 1000000000000000000000000000001 ∧ fnB ss
  | _ => True
def fnB : List Bt → Prop
  | [] => True
  | s :: ss => s.fn ∧ fnB ss
end
theorem wrB_app : ∀ (xs ys : List Bt), wrB (xs ++ ys) = wrB xs + wrB ys
  | [], ys => by show wrB ys = 0 + wrB ys; omega
  | x :: xs, ys => by show x.wr + wrB (xs ++ ys) = x.wr + wrB xs + wrB ys; rw [wrB_app xs ys]; omega
theorem btwr_pos (s : Bt) : 1 ≤ s.wr := by
  cases s with
  | r w c ss => show 1 ≤ 1 + wrB ss; omega
  | _ => exact Nat.le_refl _
theorem lenB_wr : ∀ ss : List Bt, ss.length ≤ wrB ss
  | [] => Nat.le_refl _
  | s :: ss => by
    have := lenB_wr ss
    have := btwr_pos s
    show ss.length + 1 ≤ s.wr + wrB ss
    omega
theorem dLeB_app {n : Nat} : ∀ {xs ys : List Bt}, dLeB xs n → dLeB ys n → dLeB (xs ++ ys) n
  | [], _, _, h => h
  | _ :: _, _, h, g => ⟨h.1, dLeB_app h.2 g⟩
theorem fnB_app : ∀ {xs ys : List Bt}, fnB xs → fnB ys → fnB (xs ++ ys)
  | [], _, _, h => h
  | _ :: _, _, h, g => ⟨h.1, fnB_app h.2 g⟩
theorem dLeB_take {n : Nat} : ∀ {ss : List Bt} (i : Nat), dLeB ss n → dLeB (ss.take i) n
  | [], i, _ => by rw [List.take_nil]; trivial
  | _ :: _, 0, _ => trivial
  | _ :: _, i + 1, h => ⟨h.1, dLeB_take i h.2⟩
theorem dLeB_drop {n : Nat} : ∀ {ss : List Bt} (i : Nat), dLeB ss n → dLeB (ss.drop i) n
  | [], i, _ => by rw [List.drop_nil]; trivial
  | _ :: _, 0, h => h
  | _ :: _, i + 1, h => dLeB_drop i h.2
theorem fnB_take : ∀ {ss : List Bt} (i : Nat), fnB ss → fnB (ss.take i)
  | [], i, _ => by rw [List.take_nil]; trivial
  | _ :: _, 0, _ => trivial
  | _ :: _, i + 1, h => ⟨h.1, fnB_take i h.2⟩
theorem fnB_drop : ∀ {ss : List Bt} (i : Nat), fnB ss → fnB (ss.drop i)
  | [], i, _ => by rw [List.drop_nil]; trivial
  | _ :: _, 0, h => h
  | _ :: _, i + 1, h => fnB_drop i h.2
theorem dLeB_mem {n : Nat} : ∀ {ss : List Bt} {s : Bt}, dLeB ss n → s ∈ ss → s.dLe n
  | _ :: _, _, h, m => by
    rcases List.mem_cons.mp m with rfl | m
    · exact h.1
    · exact dLeB_mem h.2 m
theorem fnB_mem : ∀ {ss : List Bt} {s : Bt}, fnB ss → s ∈ ss → s.fn
  | _ :: _, _, h, m => by
    rcases List.mem_cons.mp m with rfl | m
    · exact h.1
    · exact fnB_mem h.2 m
mutual
theorem Bt.dLe_mono {n m : Nat} (h : n ≤ m) : ∀ (s : Bt), s.dLe n → s.dLe m
  | .k _, _ => trivial
  | .z, _ => trivial
  | .o, _ => trivial
  | .p _, _ => trivial
  | .r w c ss, d => by
    cases n with
    | zero => exact d.elim
    | succ n =>
      cases m with
      | zero => omega
      | succ m => exact dLeB_mono (by omega) ss d
theorem dLeB_mono {n m : Nat} (h : n ≤ m) : ∀ (ss : List Bt), dLeB ss n → dLeB ss m
  | [], _ => trivial
  | s :: ss, d => ⟨Bt.dLe_mono h s d.1, dLeB_mono h ss d.2⟩
end
/-! ### steps are bent steps -/
mutual
def S.bt : S → Bt
  | .k n => .k n
  | .r c ss => .r "repeat" c (btL ss)
def btL : List S → List Bt
  | [] => []
  | s :: ss => s.bt :: btL ss
end
mutual
theorem bt_h {H : Hp} : ∀ (s : S) {v : V}, HS H s v → HB H s.bt v
  | .k n, _, h => h
  | .r c ss, _, ⟨a, b, vs, h1, h2, h3, h4⟩ => ⟨a, b, vs, h1, h2, h3, btL_h ss h4⟩
theorem btL_h {H : Hp} : ∀ (ss : List S) {vs : List V}, HL H ss vs → BL H (btL ss) vs
  | [], _, h => h
  | s :: ss, _, ⟨v, ws, h1, h2, h3⟩ => ⟨v, ws, h1, bt_h s h2, btL_h ss h3⟩
end
mutual
theorem bt_wr : ∀ s : S, s.bt.wr = s.wr
  | .k _ => rfl
  | .r c ss => congrArg (1 + ·) (btL_wr ss)
theorem btL_wr : ∀ ss : List S, wrB (btL ss) = wrL ss
  | [] => rfl
  | s :: ss => by show s.bt.wr + wrB (btL ss) = s.wr + wrL ss; rw [bt_wr s, btL_wr ss]
end
mutual
theorem bt_d : ∀ (s : S) {n : Nat}, s.dLe n → s.bt.dLe n
  | .k _, _, _ => trivial
  | .r c ss, 0, h => h.elim
  | .r c ss, n + 1, h => btL_d ss h
theorem btL_d : ∀ (ss : List S) {n : Nat}, dLeL ss n → dLeB (btL ss) n
  | [], _, _ => trivial
  | s :: ss, _, h => ⟨bt_d s h.1, btL_d ss h.2⟩
end
mutual
theorem bt_f : ∀ (s : S), s.ok → s.bt.fn
  | .k _, h => ⟨by have := h.1; omega, by have := h.2; omega⟩
  | .r c ss, h => ⟨.inl rfl, by have := h.1; omega, by have := h.2.1; omega, btL_f ss h.2.2⟩
theorem btL_f : ∀ (ss : List S), okL ss → fnB (btL ss)
  | [], _ => trivial
  | s :: ss, h => ⟨bt_f s h.1, btL_f ss h.2⟩
end
theorem btL_len : ∀ ss : List S, (btL ss).length = ss.length
  | [] => rfl
  | _ :: ss => congrArg (· + 1) (btL_len ss)
/-! ### the check -/
def rokB (w : Str) (c : Int) : Bool := decide (w = "repeat") && (decide (0 ≤ c) && decide (c ≤ 1000000000000000000000000000000))
mutual
/-- none: too long; some p: a bad step at p -/
def Bt.chk (dep : Nat) : Bt → Nat → Except (Option Nat) Nat
  | .k n, pos => if pos ≥ 100 then .error none else if okK n then .ok (pos + 1) else .error (some pos)
  | .r w c ss, pos => if pos ≥ 100 then .error none else if dep > 4 ∨ rokB w c = false then .error (some pos) else chkB (dep + 1) ss (pos + 1)
  | _, pos => if pos ≥ 100 then .error none else .error (some pos)
def chkB (dep : Nat) : List Bt → Nat → Except (Option Nat) Nat
  | [], pos => .ok pos
  | s :: ss, pos => match s.chk dep pos with
    | .error e => .error e
    | .ok q => chkB dep ss q
end
theorem chkB_app (dep : Nat) : ∀ (xs ys : List Bt) (pos : Nat), chkB dep (xs ++ ys) pos = match chkB dep xs pos with
    | .error e => .error e
    | .ok q => chkB dep ys q
  | [], ys, pos => rfl
  | x :: xs, ys, pos => by
    show (match x.chk dep pos with | Except.error e => Except.error e | Except.ok q => chkB dep (xs ++ ys) q) = match (match x.chk dep pos with | Except.error e => Except.error e | Except.ok q => chkB dep xs q) with | Except.error e => Except.error e | Except.ok q => chkB dep ys q
    cases x.chk dep pos with
    | error e => rfl
    | ok q => exact chkB_app dep xs ys q
theorem chkB_take {dep : Nat} {ss : List Bt} {i : Nat} {s : Bt} {pos : Nat} (h : ss[i]? = some s) : chkB dep (ss.take (i + 1)) pos = match chkB dep (ss.take i) pos with
    | .error e => .error e
    | .ok q => s.chk dep q := by
  rw [List.take_add_one, h, chkB_app]
  cases chkB dep (ss.take i) pos with
  | error e => rfl
  | ok q =>
    show (match s.chk dep q with | Except.error e => Except.error e | Except.ok q => Except.ok q) = s.chk dep q
    cases s.chk dep q <;> rfl
theorem chkB_bad {dep : Nat} {ss : List Bt} {i pos : Nat} {e : Option Nat} (h : chkB dep (ss.take i) pos = .error e) : chkB dep ss pos = .error e := by
  rw [← List.take_append_drop i ss, chkB_app, h]
mutual
theorem Bt.chk_le : ∀ (s : Bt) {dep pos q : Nat}, s.chk dep pos = .ok q → pos ≤ 100 → q ≤ 100
  | .k n, dep, pos, q, h, l => by
    unfold Bt.chk at h
    split at h
    · cases h
    · split at h
      · cases h; omega
      · cases h
  | .z, dep, pos, q, h, l => by unfold Bt.chk at h; split at h <;> cases h
  | .o, dep, pos, q, h, l => by unfold Bt.chk at h; split at h <;> cases h
  | .p c, dep, pos, q, h, l => by unfold Bt.chk at h; split at h <;> cases h
  | .r w c ss, dep, pos, q, h, l => by
    unfold Bt.chk at h
    split at h
    · cases h
    · split at h
      · cases h
      · exact chkB_le ss h (by omega)
theorem chkB_le : ∀ (ss : List Bt) {dep pos q : Nat}, chkB dep ss pos = .ok q → pos ≤ 100 → q ≤ 100
  | [], dep, pos, q, h, l => by cases h; exact l
  | s :: ss, dep, pos, q, h, l => by
    unfold chkB at h
    cases e : s.chk dep pos with
    | error e => rw [e] at h; cases h
    | ok q1 =>
      rw [e] at h
      exact chkB_le ss h (Bt.chk_le s e l)
end
/-- the check as a stack is worked off -/
def runK : List (Bt × Nat) → Nat → Except (Option Nat) Nat
  | [], pos => .ok pos
  | x :: xs, pos => match x.1.chk x.2 pos with
    | .error e => .error e
    | .ok q => runK xs q
theorem runK_app : ∀ (ss : List Bt) (l : Nat) (ys : List (Bt × Nat)) (pos : Nat), runK (ss.map (fun s => (s, l)) ++ ys) pos = match chkB l ss pos with
    | .error e => .error e
    | .ok q => runK ys q
  | [], l, ys, pos => rfl
  | s :: ss, l, ys, pos => by
    show (match s.chk l pos with | Except.error e => Except.error e | Except.ok q => runK (ss.map (fun s => (s, l)) ++ ys) q) = match (match s.chk l pos with | Except.error e => Except.error e | Except.ok q => chkB l ss q) with | Except.error e => Except.error e | Except.ok q => runK ys q
    cases s.chk l pos with
    | error e => rfl
    | ok q => exact runK_app ss l ys q
theorem runK_all (ss : List Bt) (l pos : Nat) : runK (ss.map fun s => (s, l)) pos = chkB l ss pos := by
  have := runK_app ss l [] pos
  rw [List.append_nil] at this
  rw [this]
  cases chkB l ss pos <;> rfl
def wrK : List (Bt × Nat) → Nat
  | [] => 0
  | x :: xs => x.1.wr + wrK xs
theorem wrK_app : ∀ (xs ys : List (Bt × Nat)), wrK (xs ++ ys) = wrK xs + wrK ys
  | [], ys => by show wrK ys = 0 + wrK ys; omega
  | x :: xs, ys => by show x.1.wr + wrK (xs ++ ys) = x.1.wr + wrK xs + wrK ys; rw [wrK_app xs ys]; omega
theorem wrK_map (l : Nat) : ∀ ss : List Bt, wrK (ss.map fun s => (s, l)) = wrB ss
  | [] => rfl
  | s :: ss => congrArg (s.wr + ·) (wrK_map l ss)
end TT
/-! equal data with long lists -/
namespace TT
open PySem PySem.Spec PyProof.Rows L2 HotX LamX T
def EqvW (H : Hp) : Nat → V → V → Prop
  | 0, x, y => flatV x = true ∧ x = y
  | n + 1, x, y => (flatV x = true ∧ x = y) ∨ ∃ a b xs ys, x = .ref a ∧ y = .ref b ∧ ((H a = some (.lst xs) ∧ H b = some (.lst ys)) ∨ (H a = some (.tup xs) ∧ H b = some (.tup ys))) ∧ xs.length = ys.length ∧ xs.length ≤ 6000 ∧ ∀ (i : Nat) u v, xs[i]? = some u → ys[i]? = some v → EqvW H n u v
theorem EqvW.same {H H' : Hp} (e : Same H H') : ∀ {n : Nat} {x y : V}, EqvW H n x y → EqvW H' n x y
  | 0, _, _, h => (show flatV _ = true ∧ _ from h)
  | n + 1, _, _, h => by
    rcases h with h | ⟨a, b, xs, ys, e1, e2, h1, h2, h3, h4⟩
    · exact .inl h
    · refine .inr ⟨a, b, xs, ys, e1, e2, ?_, h2, h3, fun i u v a1 a2 => (h4 i u v a1 a2).same e⟩
      rcases h1 with ⟨p, q⟩ | ⟨p, q⟩
      · exact .inl ⟨e _ _ p, e _ _ q⟩
      · exact .inr ⟨e _ _ p, e _ _ q⟩
theorem EqvW.extN {H H' : Hp} (e : LamX.ExtN H H') : ∀ {n : Nat} {x y : V}, EqvW H n x y → EqvW H' n x y
  | 0, _, _, h => (show flatV _ = true ∧ _ from h)
  | n + 1, _, _, h => by
    rcases h with h | ⟨a, b, xs, ys, e1, e2, h1, h2, h3, h4⟩
    · exact .inl h
    · refine .inr ⟨a, b, xs, ys, e1, e2, ?_, h2, h3, fun i u v a1 a2 => (h4 i u v a1 a2).extN e⟩
      rcases h1 with ⟨p, q⟩ | ⟨p, q⟩
      · exact .inl ⟨e _ _ p (fun ps z => by cases z), e _ _ q (fun ps z => by cases z)⟩
      · exact .inr ⟨e _ _ p (fun ps z => by cases z), e _ _ q (fun ps z => by cases z)⟩
def spSameW (n : Nat) : Sp := fun vs H Q _ => ∃ x y, vs = [x, y] ∧ EqvW H n x y ∧ ∀ H', Same H H' → Q (.bl true) H'
theorem EqvW.cases {H : Hp} : ∀ {n : Nat} {x y : V}, EqvW H n x y → (flatV x = true ∧ x = y) ∨ ∃ m a b xs ys, n = m + 1 ∧ x = .ref a ∧ y = .ref b ∧ ((H a = some (.lst xs) ∧ H b = some (.lst ys)) ∨ (H a = some (.tup xs) ∧ H b = some (.tup ys))) ∧ xs.length = ys.length ∧ xs.length ≤ 6000 ∧ ∀ (i : Nat) u v, xs[i]? = some u → ys[i]? = some v → EqvW H m u v
  | 0, _, _, h => .inl h
  | n + 1, _, _, h => by
    rcases h with h | ⟨a, b, xs, ys, h⟩
    · exact .inl h
    · exact .inr ⟨n, a, b, xs, ys, rfl, h⟩
def spPrevW : Nat → Sp
  | 0 => fun _ _ _ _ => False
  | n + 1 => spSameW n
theorem EqvW.of {H : Hp} : ∀ {n : Nat} {x y : V}, Eqv H n x y → EqvW H n x y
  | 0, _, _, h => (show flatV _ = true ∧ _ from h)
  | n + 1, _, _, h => by
    rcases h with h | ⟨a, b, xs, ys, e1, e2, h1, h2, h3, h4⟩
    · exact .inl h
    · exact .inr ⟨a, b, xs, ys, e1, e2, h1, h2, by omega, fun i u v a1 a2 => .of (h4 i u v a1 a2)⟩
theorem EqvW.flat {H : Hp} {x : V} (h : flatV x = true) : ∀ {n : Nat}, EqvW H n x x
  | 0 => ⟨h, rfl⟩
  | _ + 1 => .inl ⟨h, rfl⟩
theorem eqvW_ints {H : Hp} {n : Nat} {a b : Addr} {ns : List Int} (ha : H a = some (.lst (ns.map V.int))) (hb : H b = some (.lst (ns.map V.int))) (hl : ns.length ≤ 6000) : EqvW H (n + 1) (.ref a) (.ref b) := by
  refine .inr ⟨a, b, _, _, rfl, rfl, .inl ⟨ha, hb⟩, rfl, by rw [List.length_map]; exact hl, fun i u v h1 h2 => ?_⟩
  rw [h1] at h2
  cases h2
  rw [List.getElem?_map] at h1
  obtain ⟨x, _, rfl⟩ := Option.map_eq_some_iff.mp h1
  exact .flat rfl
theorem eqvW_tri {H : Hp} {a b : Addr} {n : Nat} {x y z u v w : V} (ha : H a = some (.tup [x, y, z])) (hb : H b = some (.tup [u, v, w])) (h1 : EqvW H n x u) (h2 : EqvW H n y v) (h3 : EqvW H n z w) : EqvW H (n + 1) (.ref a) (.ref b) := by
  refine .inr ⟨a, b, _, _, rfl, rfl, .inr ⟨ha, hb⟩, rfl, by show 3 ≤ 6000; decide, fun i p q g1 g2 => ?_⟩
  match i, g1, g2 with
  | 0, g1, g2 => cases g1; cases g2; exact h1
  | 1, g1, g2 => cases g1; cases g2; exact h2
  | 2, g1, g2 => cases g1; cases g2; exact h3
  | n + 3, g1, g2 => cases g1
theorem eqvW_two {H : Hp} {a b : Addr} {n : Nat} {x y u v : V} (ha : H a = some (.lst [x, y])) (hb : H b = some (.lst [u, v])) (h1 : EqvW H n x u) (h2 : EqvW H n y v) : EqvW H (n + 1) (.ref a) (.ref b) := by
  refine .inr ⟨a, b, _, _, rfl, rfl, .inl ⟨ha, hb⟩, rfl, by show 2 ≤ 6000; decide, fun i p q g1 g2 => ?_⟩
  match i, g1, g2 with
  | 0, g1, g2 => cases g1; cases g2; exact h1
  | 1, g1, g2 => cases g1; cases g2; exact h2
  | n + 2, g1, g2 => cases g1
end TT
/-! bent histories: what is promised of them -/
namespace TT
open PySem PySem.Spec PyProof.Rows L2 HotX LamX T
/-! ### the histories that are drawn, with their sizes -/
def wbn : Nat → Nat
  | 0 => 1
  | n + 1 => 1 + 3 * wbn n
theorem wbn_pos (n : Nat) : 1 ≤ wbn n := by cases n <;> simp [wbn]
theorem wrL_le {m : Nat} : ∀ {ss : List S}, (∀ s ∈ ss, s.wr ≤ m) → wrL ss ≤ ss.length * m
  | [], _ => Nat.zero_le _
  | s :: ss, h => by
    have h1 := h s List.mem_cons_self
    have h2 := wrL_le (ss := ss) fun x hx => h x (List.mem_cons_of_mem _ hx)
    show s.wr + wrL ss ≤ (ss.length + 1) * m
    rw [Nat.succ_mul]; omega
def spStepW (n : Nat) : Sp := fun us H Q _ => ∃ (d a : Addr) (ks : List Int) (c : Addr) (ns : List Int), us = [.ref d, .ref a, .int (n : Nat)] ∧ H a = some (.lst (ks.map V.int)) ∧ 0 < ks.length ∧ ks.length ≤ 1000 ∧ a ≠ d ∧ Drw c ns H d ∧
  ∀ s v H', s.dLe n → s.inK ks → s.wr ≤ wbn n → Ext d H H' → Drw c ns H' d → HS (nwD H none H') s v → Q v H'
def spPrevSw : Nat → Sp
  | 0 => fun _ _ _ _ => False
  | n + 1 => spStepW n
def spHistW : Sp := fun us H Q _ => ∃ (d a : Addr) (ks : List Int) (most n : Nat) (c : Addr) (ns : List Int), us = [.ref d, .ref a, .int (most : Nat), .int (n : Nat)] ∧ H a = some (.lst (ks.map V.int)) ∧ 0 < ks.length ∧ ks.length ≤ 1000 ∧ most ≤ 20 ∧ n ≤ 4 ∧ a ≠ d ∧ Drw c ns H d ∧
  ∀ ss vs p H', ss.length ≤ most → dLeL ss n → inKL ks ss → wrL ss ≤ most * wbn n → Ext d H H' → Drw c ns H' d → H p = none → H' p = some (.lst vs) → HL H' ss vs → Q (.ref p) H'
/-! ### their data -/
theorem hd_word {w : Str} {n : Nat} (h : okW w) : HD (.str w) n 6 := by
  rcases h with rfl | rfl | rfl | rfl
  · exact hd_rep
  · exact ⟨by decide +kernel, Nat.zero_le _, by decide +kernel, rfl, rfl⟩
  · exact ⟨by decide +kernel, Nat.zero_le _, by decide +kernel, rfl, rfl⟩
  · exact ⟨by decide +kernel, Nat.zero_le _, by decide +kernel, rfl, rfl⟩
theorem HD.mono {d : PyData} {n n' m m' : Nat} (h : HD d n m) (a : n ≤ n') (b : m ≤ m') : HD d n' m' := ⟨h.lay, Nat.le_trans h.dp a, Nat.le_trans h.we b, h.sh, h.it⟩
theorem p31 : (10 : Nat) ^ 31 = 10000000000000000000000000000000 := by decide
mutual
theorem hb_data {K : PySem.W.Frag} {H : Hp} : ∀ (s : Bt) {n : Nat} {v : V}, s.fn → s.dLe n → HB H s v → ∃ d, Dp K H v d ∧ HD d (2 * n + 1) (120 * s.wr - 1)
  | .k x, n, _, i, _, h => by
    rw [show _ = V.int x from h]
    have z := hd_int (i := x) (n := 2 * n + 1) (by have := p31; have := i.1; have := i.2; omega)
    exact ⟨.int x, .int x, z.mono (Nat.le_refl _) (by show 110 ≤ 120 * 1 - 1; decide)⟩
  | .z, n, _, _, _, ⟨a, h1, h2⟩ => by
    rw [h1]
    exact ⟨.tuple [], .tup (SqT.of h2) .nil, (HDs.nil (n := 0) (m := 0)).tup.mono (by omega) (Nat.zero_le _)⟩
  | .o, n, _, _, _, ⟨a, h1, h2⟩ => by
    rw [h1]
    exact ⟨.tuple [.str "repeat"], .tup (SqT.of h2) (.cons (.str _) .nil), (HDs.cons (hd_rep (n := 0)) (HDs.nil (m := 0))).tup.mono (by omega) (by show 6 + 1 + 0 ≤ 120 * 1 - 1; decide)⟩
  | .p c, n, _, i, _, ⟨a, h1, h2⟩ => by
    rw [h1]
    have zc := hd_int (i := c) (n := 0) (by have := p31; have := (show -1 ≤ c ∧ c ≤ 1000000000000000000000000000001 from i).1; have := (show -1 ≤ c ∧ c ≤ 1000000000000000000000000000001 from i).2; omega)
    exact ⟨.tuple [.str "repeat", .int c], .tup (SqT.of h2) (.cons (.str _) (.cons (.int _) .nil)), (HDs.cons (hd_rep (n := 0)) (HDs.cons zc (HDs.nil (m := 0)))).tup.mono (by omega) (by show 6 + 1 + (110 + 1 + 0) ≤ 120 * 1 - 1; decide)⟩
  | .r w c ss, 0, _, _, d, _ => d.elim
  | .r w c ss, n + 1, _, i, d, ⟨a, b, vs, h1, h2, h3, h4⟩ => by
    obtain ⟨ds, g1, g2⟩ := hbl_data (K := K) ss i.2.2.2 d h4
    have zc := hd_int (i := c) (n := 2 * n + 2) (by have := p31; have := i.2.1; have := i.2.2.1; omega)
    rw [h1]
    have fin : ∀ e, Dp K H (.ref b) e → HD e (2 * n + 2) (120 * wrB ss) → ∃ d, Dp K H (.ref a) d ∧ HD d (2 * (n + 1) + 1) (120 * (Bt.r w c ss).wr - 1) := fun e e1 e2 => by
      refine ⟨.tuple [.str w, .int c, e], .tup (SqT.of h2) (.cons (.str _) (.cons (.int _) (.cons e1 .nil))), ?_⟩
      have z := (HDs.cons (hd_word (n := 2 * n + 2) i.1) (HDs.cons zc (HDs.cons e2 (HDs.nil (m := 0))))).tup
      refine z.mono (by omega) ?_
      show 6 + 1 + (110 + 1 + (120 * wrB ss + 1 + 0)) ≤ 120 * (1 + wrB ss) - 1
      omega
    rcases h3 with h3 | h3
    · exact fin (.list ds) (.lst (SqL.of h3) g1) g2.lst
    · exact fin (.tuple ds) (.tup (SqT.of h3) g1) g2.tup
theorem hbl_data {K : PySem.W.Frag} {H : Hp} : ∀ (ss : List Bt) {n : Nat} {vs : List V}, fnB ss → dLeB ss n → BL H ss vs → ∃ ds, DpAll K H vs ds ∧ HDs ds (2 * n + 1) (120 * wrB ss)
  | [], n, _, _, _, h => by rw [show _ = [] from h]; exact ⟨[], .nil, HDs.nil⟩
  | s :: ss, n, _, i, d, ⟨v, ws, h1, h2, h3⟩ => by
    rw [h1]
    obtain ⟨e, e1, e2⟩ := hb_data (K := K) s i.1 d.1 h2
    obtain ⟨es, f1, f2⟩ := hbl_data (K := K) ss i.2 d.2 h3
    have z := HDs.cons e2 f2
    refine ⟨e :: es, .cons e1 f1, z.lay, z.dp, Nat.le_trans z.we ?_, z.sh, z.it⟩
    have := btwr_pos s
    show 120 * s.wr - 1 + 1 + 120 * wrB ss ≤ 120 * (s.wr + wrB ss)
    omega
end
/-! ### the line of the law's walk -/
/-- pairs of a step (of the heap H0) and its level -/
def LK (H0 H : Hp) : List (Bt × Nat) → List V → Prop
  | [], vs => vs = []
  | x :: xs, vs => ∃ (p : Addr) (v : V) (ws : List V), vs = .ref p :: ws ∧ H p = some (.tup [v, .int (x.2 : Nat)]) ∧ HB H0 x.1 v ∧ LK H0 H xs ws
theorem LK.same {H0 H H' : Hp} (e : Same H H') : ∀ {xs : List (Bt × Nat)} {vs : List V}, LK H0 H xs vs → LK H0 H' xs vs
  | [], _, h => h
  | _ :: _, _, ⟨p, v, ws, h1, h2, h3, h4⟩ => ⟨p, v, ws, h1, e _ _ h2, h3, LK.same e h4⟩
theorem LK.up {H0 H : Hp} (e : Same H0 H) : ∀ {xs : List (Bt × Nat)} {vs : List V}, LK H0 H xs vs → LK H H xs vs
  | [], _, h => h
  | _ :: _, _, ⟨p, v, ws, h1, h2, h3, h4⟩ => ⟨p, v, ws, h1, h2, HB.same e _ h3, LK.up e h4⟩
theorem LK.put {H0 H : Hp} {D : Addr} {l : List V} {o : HO} (hD : H D = some (.lst l)) : ∀ {xs : List (Bt × Nat)} {vs : List V}, LK H0 H xs vs → LK H0 (upd H D o) xs vs
  | [], _, h => h
  | _ :: _, _, ⟨p, v, ws, h1, h2, h3, h4⟩ => ⟨p, v, ws, h1, by rw [upd_ne (fun z => by rw [z, hD] at h2; cases h2)]; exact h2, h3, LK.put hD h4⟩
theorem LK.len {H0 H : Hp} : ∀ {xs : List (Bt × Nat)} {vs : List V}, LK H0 H xs vs → vs.length = xs.length
  | [], _, h => by rw [show _ = [] from h]; rfl
  | _ :: _, _, ⟨p, v, ws, h1, _, _, h4⟩ => by rw [h1, List.length_cons, List.length_cons, h4.len]
theorem LK.app {H0 H : Hp} : ∀ {xs ys : List (Bt × Nat)} {vs ws : List V}, LK H0 H xs vs → LK H0 H ys ws → LK H0 H (xs ++ ys) (vs ++ ws)
  | [], _, _, _, h1, h2 => by rw [show _ = [] from h1]; exact h2
  | _ :: _, _, _, _, ⟨p, v, us, e, h2, h3, h4⟩, h => by rw [e]; exact ⟨p, v, us ++ _, rfl, h2, h3, h4.app h⟩
theorem LK.last {H0 H : Hp} {x : Bt × Nat} : ∀ {xs : List (Bt × Nat)} {vs : List V}, LK H0 H (xs ++ [x]) vs → ∃ (p : Addr) (v : V) (ws : List V), vs = ws ++ [.ref p] ∧ H p = some (.tup [v, .int (x.2 : Nat)]) ∧ HB H0 x.1 v ∧ LK H0 H xs ws
  | [], _, ⟨p, v, ws, h1, h2, h3, h4⟩ => ⟨p, v, [], by rw [h1, show ws = [] from h4]; rfl, h2, h3, rfl⟩
  | y :: xs, _, ⟨p, v, us, h1, h2, h3, h4⟩ => by
    obtain ⟨p', v', ws, g1, g2, g3, g4⟩ := LK.last (xs := xs) h4
    exact ⟨p', v', .ref p :: ws, by rw [h1, g1]; rfl, g2, g3, p, v, ws, rfl, h2, h3, g4⟩
/-- the pairs alone -/
def LP (H : Hp) (l : Nat) : List V → List V → Prop
  | [], ws => ws = []
  | v :: vs, ws => ∃ (p : Addr) (us : List V), ws = .ref p :: us ∧ H p = some (.tup [v, .int (l : Nat)]) ∧ LP H l vs us
theorem LP.same {H H' : Hp} {l : Nat} (e : Same H H') : ∀ {vs ws : List V}, LP H l vs ws → LP H' l vs ws
  | [], _, h => h
  | _ :: _, _, ⟨p, us, h1, h2, h3⟩ => ⟨p, us, h1, e _ _ h2, LP.same e h3⟩
theorem LP.put {H : Hp} {l : Nat} {D : Addr} {xs : List V} {o : HO} (hD : H D = some (.lst xs)) : ∀ {vs ws : List V}, LP H l vs ws → LP (upd H D o) l vs ws
  | [], _, h => h
  | _ :: _, _, ⟨p, us, h1, h2, h3⟩ => ⟨p, us, h1, by rw [upd_ne (fun z => by rw [z, hD] at h2; cases h2)]; exact h2, LP.put hD h3⟩
theorem LP.snoc {H : Hp} {l : Nat} {p : Addr} {v : V} (hp : H p = some (.tup [v, .int (l : Nat)])) : ∀ {vs ws : List V}, LP H l vs ws → LP H l (vs ++ [v]) (ws ++ [.ref p])
  | [], _, h => by rw [show _ = [] from h]; exact ⟨p, [], rfl, hp, rfl⟩
  | _ :: _, _, ⟨p', us, h1, h2, h3⟩ => by rw [h1]; exact ⟨p', us ++ [.ref p], rfl, h2, LP.snoc hp h3⟩
theorem LP.len {H : Hp} {l : Nat} : ∀ {vs ws : List V}, LP H l vs ws → ws.length = vs.length
  | [], _, h => congrArg List.length (show _ = [] from h)
  | _ :: _, _, ⟨p, us, h1, _, h3⟩ => by rw [h1, List.length_cons, List.length_cons, LP.len h3]
theorem LP.lk {H0 H : Hp} {l : Nat} : ∀ {ss : List Bt} {vs ws : List V}, BL H0 ss vs → LP H l vs ws → LK H0 H (ss.map fun s => (s, l)) ws
  | [], _, _, h1, h2 => by rw [show _ = [] from h1] at h2; exact h2
  | s :: ss, _, _, ⟨v, us, e, g1, g2⟩, h2 => by
    rw [e] at h2
    obtain ⟨p, zs, k1, k2, k3⟩ := h2
    exact ⟨p, v, zs, k1, k2, g1, LP.lk g2 k3⟩
def fnK (xs : List (Bt × Nat)) : Prop := ∀ x ∈ xs, x.1.fn ∧ x.1.dLe 12
theorem lk_data {K : PySem.W.Frag} {H : Hp} : ∀ {xs : List (Bt × Nat)} {vs : List V}, fnK xs → LK H H xs vs → ∃ ds, DpAll K H vs ds ∧ PyData.canLayAll0 ds = true ∧ PyData.depthAll ds ≤ 26 ∧ ds.length = xs.length
  | [], _, _, h => by rw [show _ = [] from h]; exact ⟨[], .nil, rfl, Nat.zero_le _, rfl⟩
  | x :: xs, _, i, ⟨p, v, ws, h1, h2, h3, h4⟩ => by
    rw [h1]
    obtain ⟨e, e1, e2⟩ := hb_data (K := K) x.1 (i x List.mem_cons_self).1 (i x List.mem_cons_self).2 h3
    obtain ⟨es, f1, f2, f3, f4⟩ := lk_data (K := K) (xs := xs) (fun y hy => i y (List.mem_cons_of_mem _ hy)) h4
    refine ⟨.tuple [e, .int (x.2 : Nat)] :: es, .cons (.tup (SqT.of h2) (.cons e1 (.cons (.int _) .nil))) f1, ?_, ?_, congrArg (· + 1) f4⟩
    · show ((PyData.canLay0 e && (true && true)) && PyData.canLayAll0 es) = true
      rw [e2.lay, f2]; rfl
    · show max (max (PyData.depth e) (max 0 0) + 1) (PyData.depthAll es) ≤ 26
      have := e2.dp
      omega
theorem rd_neLine {K : PySem.W.Frag} {H : Hp} {a b : Addr} {xs : List (Bt × Nat)} {vs : List V} {Q : VK} (ha : H a = some (.lst vs)) (hb : H b = some (.lst [])) (hL : LK H H xs vs) (hf : fnK xs) (q : Q (.bl (!decide (xs = []))) H) : rNeD K (.ref a) (.ref b) H Q := by
  obtain ⟨ds, h1, h2, h3, h4⟩ := lk_data (K := K) hf hL
  have sp : SeqAt.shaped (.list ds) = true := by
    show (PyData.canLayAll0 ds && decide (PyData.depthAll ds + 1 ≤ 64)) = true
    rw [h2, Bool.true_and, decide_eq_true]
    omega
  refine ⟨.list ds, .list [], .lst (SqL.of ha) h1, .lst (SqL.of hb) .nil, sp, by decide, ?_⟩
  have e : PyData.eqv (.list ds) (.list []) = decide (xs = []) := by
    cases xs with
    | nil =>
      cases ds with
      | nil => rfl
      | cons d ds => cases h4
    | cons x xs =>
      cases ds with
      | nil => cases h4
      | cons d ds => rfl
  rw [e]; exact q
theorem lenK_wr : ∀ xs : List (Bt × Nat), xs.length ≤ wrK xs
  | [] => Nat.le_refl _
  | x :: xs => by
    have := lenK_wr xs
    have := btwr_pos x.1
    show xs.length + 1 ≤ x.1.wr + wrK xs
    omega
theorem wrB_rev : ∀ ss : List Bt, wrB ss.reverse = wrB ss
  | [] => rfl
  | s :: ss => by rw [List.reverse_cons, wrB_app, wrB_rev ss]; show wrB ss + (s.wr + 0) = s.wr + wrB ss; omega
theorem fnK_map {ss : List Bt} {l n : Nat} (f : fnB ss) (d : dLeB ss n) (h : n ≤ 12) : fnK (ss.map fun s => (s, l)) := fun x hx => by
  obtain ⟨s, hs, rfl⟩ := List.mem_map.mp hx
  exact ⟨fnB_mem f hs, Bt.dLe_mono h s (dLeB_mem d hs)⟩
theorem fnK_rev {ss : List Bt} {l n : Nat} (f : fnB ss) (d : dLeB ss n) (h : n ≤ 12) : fnK (ss.reverse.map fun s => (s, l)) := fun x hx => by
  obtain ⟨s, hs, rfl⟩ := List.mem_map.mp hx
  have hs := List.mem_reverse.mp hs
  exact ⟨fnB_mem f hs, Bt.dLe_mono h s (dLeB_mem d hs)⟩
theorem runK_rev (inner : List Bt) (l : Nat) (zs : List (Bt × Nat)) (pos : Nat) : runK (zs ++ inner.reverse.map fun s => (s, l)).reverse pos = match chkB l inner pos with
    | .error e => .error e
    | .ok q => runK zs.reverse q := by
  rw [List.reverse_append, ← List.map_reverse, List.reverse_reverse]
  exact runK_app inner l zs.reverse pos
/-! ### a reversed list or tuple -/
section
variable {X : Cx}
def tRevQ (K : PySem.W.Frag) (te : TE) : TE := fun σ H Q => tRevL K te σ H Q ∨ tRevT K te σ H Q
theorem pe_revQ {e : Expr} {te : TE} {k : Nat} {p1 p2 p3 pos : Pos} (he : PE X e te) : PE X (.Subscript e (.Slice none none (some (.UnaryOp .USub (.Constant (.int 1) k p1) p2)) p3) pos) (tRevQ X.K te) :=
  ⟨fun pins s σ H Q I h => h.elim ((pe_revL he).run pins s σ H Q I) ((pe_revT he).run pins s σ H Q I)⟩
end
theorem rd_revQ {K : PySem.W.Frag} {te : TE} {σ : L2.St} {H : Hp} {Q : VK} {a : Addr} {vs : List V} (h : H a = some (.lst vs) ∨ H a = some (.tup vs)) (ht : ∀ R : VK, R (.ref a) H → te σ H R) (q : ∀ p H', Same H H' → H p = none → Sq K H' p vs.reverse → Q (.ref p) H') : tRevQ K te σ H Q := by
  rcases h with h | h
  · exact .inl (ht _ ⟨a, vs, rfl, SqL.of h, fun p np => q p _ (same_new np) np (.inl (SqL.of upd_same))⟩)
  · exact .inr (ht _ ⟨a, vs, rfl, SqT.of h, fun p np => q p _ (same_new np) np (.inr (SqT.of upd_same))⟩)
/-! ### promises -/
def isKB : Bt → Bool
  | .k _ => true
  | _ => false
def spNvB : Sp := fun _ _ _ _ => False
theorem hb_tup {H : Hp} {s : Bt} {v : V} (h : HB H s v) (n : isKB s = false) : ∃ (a : Addr) (xs : List V), v = .ref a ∧ H a = some (.tup xs) := by
  cases s with
  | k x => cases n
  | z => obtain ⟨a, h1, h2⟩ := h; exact ⟨a, _, h1, h2⟩
  | o => obtain ⟨a, h1, h2⟩ := h; exact ⟨a, _, h1, h2⟩
  | p c => obtain ⟨a, h1, h2⟩ := h; exact ⟨a, _, h1, h2⟩
  | r wd c ss => obtain ⟨a, b, vs, h1, h2, _⟩ := h; exact ⟨a, _, h1, h2⟩
/-- what is raised for a history -/
def ECk (C1 C2 : Addr) (r : Option Nat) (H : Hp) (E : XK) : Prop := match r with
  | none => EOw C1 "TooLong" "limit" 100 H E
  | some p => EOw C2 "BadStep" "pos" (p : Nat) H E
theorem ECk.same {C1 C2 : Addr} {r : Option Nat} {H H' : Hp} {E : XK} (h : ECk C1 C2 r H E) (e : Same H H') : ECk C1 C2 r H' E := by
  cases r with
  | none => exact fun d Hf e1 h1 => h d Hf (e.trans e1) h1
  | some p => exact fun d Hf e1 h1 => h d Hf (e.trans e1) h1
def rokS : Bt → Bool
  | .r w c _ => rokB w c
  | _ => false
theorem chk_bad {s : Bt} {dep q : Nat} (n : isKB s = false) (l : ¬ q ≥ 100) (h : dep > 4 ∨ rokS s = false) : s.chk dep q = .error (some q) := by
  cases s with
  | k x => cases n
  | z => unfold Bt.chk; rw [if_neg l]
  | o => unfold Bt.chk; rw [if_neg l]
  | p c => unfold Bt.chk; rw [if_neg l]
  | r wd c ss => unfold Bt.chk; rw [if_neg l]; exact if_pos h
theorem chk_long {s : Bt} {dep q : Nat} (l : q ≥ 100) : s.chk dep q = .error none := by
  cases s <;> (unfold Bt.chk; rw [if_pos l])
def spRoundB : Sp := fun vs H Q _ => ∃ (a : Addr) (s : Bt), vs = [.ref a] ∧ HB H s (.ref a) ∧ Q (.bl (rokS s)) H
def spChkB (K : PySem.W.Frag) (C1 C2 : Addr) (n : Nat) : Sp := fun us H Q E => ∃ (b : Addr) (vs : List V) (ss : List Bt) (pos dep : Nat), us = [.ref b, .int (pos : Nat), .int (dep : Nat)] ∧ Sq K H b vs ∧ BL H ss vs ∧ 5 ≤ dep + n ∧ dep ≤ 100 ∧ pos ≤ 100 ∧
  (∀ q, chkB dep ss pos = .ok q → ∀ H', Same H H' → Q (.int (q : Nat)) H') ∧ (∀ r, chkB dep ss pos = .error r → ECk C1 C2 r H E)
def spPrevCB (K : PySem.W.Frag) (C1 C2 : Addr) : Nat → Sp
  | 0 => fun _ _ _ _ => False
  | n + 1 => spChkB K C1 C2 n
def spChkHB (K : PySem.W.Frag) (C1 C2 : Addr) : Sp := fun us H Q E => ∃ (b : Addr) (vs : List V) (ss : List Bt), us = [.ref b] ∧ Sq K H b vs ∧ BL H ss vs ∧
  (∀ q, chkB 1 ss 0 = .ok q → ∀ H', Same H H' → Q .non H') ∧ (∀ r, chkB 1 ss 0 = .error r → ECk C1 C2 r H E)
def spCountB (K : PySem.W.Frag) (C1 C2 : Addr) : Sp := fun us H Q E => ∃ (b : Addr) (vs : List V) (ss : List Bt) (r : Option Nat), us = [.ref b] ∧ Sq K H b vs ∧ BL H ss vs ∧ chkB 1 ss 0 = .error r ∧ ECk C1 C2 r H E
def is3B : Bt → Bool
  | .r .. => true
  | _ => false
def spBentS (K : PySem.W.Frag) : Sp := fun us H Q _ => ∃ (d : Addr) (v : V) (s : Bt) (n : Nat) (c : Addr) (ns : List Int), us = [.ref d, v] ∧ HB H s v ∧ (isKB s = true ∨ is3B s = true) ∧ s.fn ∧ s.dLe n ∧ s.wr ≤ 10000 ∧ Drw c ns H d ∧
  ∀ s' v' H', s'.fn → s'.dLe (n + 1) → s'.wr ≤ 2 * s.wr → Ext d H H' → Drw c ns H' d → HB H' s' v' → Q v' H'
def spBent (K : PySem.W.Frag) (N : Nat) : Sp := fun us H Q _ => ∃ (d b : Addr) (vs : List V) (ss : List Bt) (n : Nat) (c : Addr) (ns : List Int), us = [.ref d, .ref b] ∧ (H b = some (.lst vs) ∨ H b = some (.tup vs)) ∧ BL H ss vs ∧ fnB ss ∧ dLeB ss n ∧ n ≤ N ∧ wrB ss ≤ 10000 ∧ b ≠ d ∧ Drw c ns H d ∧
  ∀ ss' vs' p H', fnB ss' → dLeB ss' (n + 1) → wrB ss' ≤ 2 * wrB ss → Ext d H H' → Drw c ns H' d → p ≠ d → (H' p = some (.lst vs') ∨ (H' p = some (.tup vs') ∧ H b = some (.tup vs))) → BL H' ss' vs' → Q (.ref p) H'
def spPrevBt (K : PySem.W.Frag) : Nat → Sp
  | 0 => fun _ _ _ _ => False
  | n + 1 => spBent K n
/-- the error that is due: tag and field -/
def dueT : Except (Option Nat) Nat → Str
  | .ok _ => ""
  | .error none => "TooLong"
  | .error (some _) => "BadStep"
def dueF : Except (Option Nat) Nat → V
  | .ok _ => .non
  | .error none => .int 100
  | .error (some p) => .int (p : Nat)
def spFault (K : PySem.W.Frag) : Sp := fun us H Q _ => ∃ (b : Addr) (vs : List V) (ss : List Bt), us = [.ref b] ∧ H b = some (.lst vs) ∧ BL H ss vs ∧ fnB ss ∧ dLeB ss 12 ∧ wrB ss ≤ 1000 ∧
  ∀ p H', Same H H' → H p = none → H' p = some (.tup [.str (dueT (chkB 1 ss 0)), dueF (chkB 1 ss 0)]) → Q (.ref p) H'
theorem chk_out {K : PySem.W.Frag} {C1 C2 : Addr} {cT cM : Value} {b : Addr} {vs : List V} {ss : List Bt} {H1 : Hp} {E : XK} {R Q : VK} (sq : Sq K H1 b vs) (hL : BL H1 ss vs)
    (n1 : PySem.W.exmAny K (.ref C1) [cT, cM] = some true) (X1 : XfC K C1) (f1 : PySem.W.findIn K (.ref C1) "tag" = some none) (f2 : PySem.W.findIn K (.ref C1) "limit" = some none)
    (n2 : PySem.W.exmAny K (.ref C2) [cT, cM] = some true) (X2 : XfC K C2) (f3 : PySem.W.findIn K (.ref C2) "tag" = some none) (f4 : PySem.W.findIn K (.ref C2) "pos" = some none)
    (hE : ∀ cls d H', Xo K cT cM Q cls d H' → E cls d H') (hR : ∀ v H', (∀ p H'', Same H' H'' → H' p = none → H'' p = some (.tup [v, .str "", .non]) → Q (.ref p) H'') → R v H')
    (fin : ∀ p Hx, Same H1 Hx → Hx p = some (.tup [.non, .str (dueT (chkB 1 ss 0)), dueF (chkB 1 ss 0)]) → Q (.ref p) Hx) : spChkHB K C1 C2 [.ref b] H1 R E := by
  refine ⟨b, vs, ss, rfl, sq, hL, fun q hq H' e => hR _ _ fun p Hx ex _ hp => fin p Hx (e.trans ex) (by rw [hq]; exact hp), fun r hr => ?_⟩
  cases r with
  | none => exact fun dd Hf e hd => hE _ _ _ ⟨n1, C1, dd, "TooLong", .int 100, rfl, rfl, bears_mk X1 f1 f2 hd (by decide +kernel) (by decide +kernel), fun p Hx ex _ hp => fin p Hx (e.trans ex) (by rw [hr]; exact hp)⟩
  | some i => exact fun dd Hf e hd => hE _ _ _ ⟨n2, C2, dd, "BadStep", .int (i : Nat), rfl, rfl, bears_mk X2 f3 f4 hd (by decide +kernel) (by decide +kernel), fun p Hx ex _ hp => fin p Hx (e.trans ex) (by rw [hr]; exact hp)⟩
theorem cnt_out {K : PySem.W.Frag} {C1 C2 : Addr} {cT cM : Value} {b : Addr} {vs : List V} {ss : List Bt} {H1 : Hp} {E : XK} {R Q : VK} (sq : Sq K H1 b vs) (hL : BL H1 ss vs) (ne : dueT (chkB 1 ss 0) ≠ "")
    (n1 : PySem.W.exmAny K (.ref C1) [cT, cM] = some true) (X1 : XfC K C1) (f1 : PySem.W.findIn K (.ref C1) "tag" = some none) (f2 : PySem.W.findIn K (.ref C1) "limit" = some none)
    (n2 : PySem.W.exmAny K (.ref C2) [cT, cM] = some true) (X2 : XfC K C2) (f3 : PySem.W.findIn K (.ref C2) "tag" = some none) (f4 : PySem.W.findIn K (.ref C2) "pos" = some none)
    (hE : ∀ cls d H', Xo K cT cM Q cls d H' → E cls d H')
    (fin : ∀ p Hx, Same H1 Hx → Hx p = some (.tup [.non, .str (dueT (chkB 1 ss 0)), dueF (chkB 1 ss 0)]) → Q (.ref p) Hx) : spCountB K C1 C2 [.ref b] H1 R E := by
  cases hr : chkB 1 ss 0 with
  | ok q => rw [hr] at ne; exact absurd rfl ne
  | error r =>
    refine ⟨b, vs, ss, r, rfl, sq, hL, hr, ?_⟩
    cases r with
    | none => exact fun dd Hf e hd => hE _ _ _ ⟨n1, C1, dd, "TooLong", .int 100, rfl, rfl, bears_mk X1 f1 f2 hd (by decide +kernel) (by decide +kernel), fun p Hx ex _ hp => fin p Hx (e.trans ex) (by rw [hr]; exact hp)⟩
    | some i => exact fun dd Hf e hd => hE _ _ _ ⟨n2, C2, dd, "BadStep", .int (i : Nat), rfl, rfl, bears_mk X2 f3 f4 hd (by decide +kernel) (by decide +kernel), fun p Hx ex _ hp => fin p Hx (e.trans ex) (by rw [hr]; exact hp)⟩
theorem dueF_flat (r : Except (Option Nat) Nat) : flatV (dueF r) = true := by
  cases r with
  | ok q => rfl
  | error r => cases r <;> rfl
theorem BL.extN' {H H' : Hp} (e : ExtN H H') (ss : List Bt) {vs : List V} (h : BL H ss vs) : BL H' ss vs := BL.extN e ss h
/-! ### a bent step is drawn -/
def OKb (H : Hp) (W n : Nat) (v : V) : Prop := ∃ s' : Bt, s'.fn ∧ s'.dLe n ∧ s'.wr ≤ W ∧ HB H s' v
theorem OKb.same {H H' : Hp} {W n : Nat} {v : V} (e : Same H H') (h : OKb H W n v) : OKb H' W n v := by
  obtain ⟨s', a, b, c, d⟩ := h
  exact ⟨s', a, b, c, HB.same e s' d⟩
theorem okb_r {H : Hp} {W m : Nat} {t b : Addr} {wd : Str} {c : Int} {vs : List V} {ss : List Bt} (h1 : H t = some (.tup [.str wd, .int c, .ref b])) (h2 : H b = some (.lst vs) ∨ H b = some (.tup vs)) (h3 : BL H ss vs) (o : okW wd)
    (c0 : -1 ≤ c) (c1 : c ≤ 1000000000000000000000000000001) (f : fnB ss) (d : dLeB ss m) (l : 1 + wrB ss ≤ W) : OKb H W (m + 1) (.ref t) :=
  ⟨.r wd c ss, ⟨o, c0, c1, f⟩, d, l, t, b, vs, rfl, h1, h2, h3⟩
theorem rd_catA1 {K : PySem.W.Frag} {H : Hp} {Q : VK} {t u : Addr} {xs ys : List V} (h1 : SqT K H t xs) (h2 : H u = some (.tup ys)) (ne : ys ≠ []) (l : xs.length + ys.length ≤ sizeLine) (q : ∀ p H', Same H H' → H' p = some (.tup (xs ++ ys)) → Q (.ref p) H') : rCatA K (.ref t) (.ref u) H Q := by
  refine ⟨t, u, xs, ys, rfl, rfl, h1, SqT.of h2, l, fun z => ?_, fun _ z => absurd z ne, fun _ _ p np => q p _ (same_new np) upd_same⟩
  subst z
  exact q u H (.refl _) h2
theorem wrB_split : ∀ {ss : List Bt} {i : Nat} {s : Bt}, ss[i]? = some s → wrB ss = wrB (ss.take i) + s.wr + wrB (ss.drop (i + 1))
  | [], _, _, h => by cases h
  | x :: xs, 0, s, h => by cases h; show _ = 0 + x.wr + wrB xs; rw [Nat.zero_add]; rfl
  | x :: xs, i + 1, s, h => by
    have := wrB_split (ss := xs) (i := i) h
    show x.wr + wrB xs = x.wr + wrB (xs.take i) + s.wr + wrB (xs.drop (i + 1))
    omega
theorem bl_ned {H : Hp} {c d b : Addr} {ns : List Int} {ss : List Bt} {vs : List V} (hD : Drw c ns H d) (h : H b = some (.lst vs) ∨ H b = some (.tup vs)) (hL : BL H ss vs) : b ≠ d := by
  intro z
  rcases h with h | h
  · obtain ⟨i, z1, z2, hd, hc, _⟩ := id hD
    rw [z, hd] at h
    cases h
    cases ss with
    | nil => exact absurd (show _ = [] from hL) (by simp)
    | cons s0 ss0 =>
      obtain ⟨v, ws, e1, e2, _⟩ := hL
      cases e1
      cases s0 with
      | k x => exact absurd (show V.ref c = V.int x from e2) (by simp)
      | z => obtain ⟨a', k1, k2⟩ := e2; cases k1; rw [hc] at k2; cases k2
      | o => obtain ⟨a', k1, k2⟩ := e2; cases k1; rw [hc] at k2; cases k2
      | p x => obtain ⟨a', k1, k2⟩ := e2; cases k1; rw [hc] at k2; cases k2
      | r w' x y => obtain ⟨a', b', vs', k1, k2, _⟩ := e2; cases k1; rw [hc] at k2; cases k2
  · exact tup_ne hD h z
theorem rep_bt {x : Int} (h : -1000000001 ≤ x ∧ x ≤ 1000000001) : ∀ n : Nat, fnB (List.replicate n (.k x)) ∧ dLeB (List.replicate n (.k x)) 7 ∧ wrB (List.replicate n (.k x)) = n
  | 0 => ⟨trivial, trivial, rfl⟩
  | n + 1 => by
    obtain ⟨a, b, c⟩ := rep_bt h n
    exact ⟨⟨h, a⟩, ⟨trivial, b⟩, by show 1 + wrB (List.replicate n (.k x)) = n + 1; omega⟩
theorem rep_one {α : Type} (x : α) : ∀ n : Nat, (List.replicate n [x]).flatten = List.replicate n x
  | 0 => rfl
  | n + 1 => by rw [List.replicate_succ, List.flatten_cons, rep_one x n]; rfl
theorem SqL.extN {K : PySem.W.Frag} {H H' : Hp} {a : Addr} {xs : List V} (e : ExtN H H') (h : SqL K H a xs) : SqL K H' a xs := by
  rcases h with (h | ⟨z, h⟩) | h
  · exact .inl (.inl (e _ _ h fun ps q => by cases q))
  · exact .inl (.inr ⟨z, e _ _ h fun ps q => by cases q⟩)
  · exact .inr h
theorem SqT.extN {K : PySem.W.Frag} {H H' : Hp} {a : Addr} {xs : List V} (e : ExtN H H') (h : SqT K H a xs) : SqT K H' a xs := by
  rcases h with (h | ⟨z, h⟩) | h
  · exact .inl (.inl (e _ _ h fun ps q => by cases q))
  · exact .inl (.inr ⟨z, e _ _ h fun ps q => by cases q⟩)
  · exact .inr h
mutual
theorem Dp.extN {K : PySem.W.Frag} {H H' : Hp} (e : ExtN H H') : ∀ {v : V} {d : PyData}, Dp K H v d → Dp K H' v d
  | _, _, .non => .non
  | _, _, .bl b => .bl b
  | _, _, .int i => .int i
  | _, _, .str x => .str x
  | _, _, .lst h g => .lst (SqL.extN e h) (DpAll.extN e g)
  | _, _, .tup h g => .tup (SqT.extN e h) (DpAll.extN e g)
theorem DpAll.extN {K : PySem.W.Frag} {H H' : Hp} (e : ExtN H H') : ∀ {vs : List V} {ds : List PyData}, DpAll K H vs ds → DpAll K H' vs ds
  | _, _, .nil => .nil
  | _, _, .cons h g => .cons (Dp.extN e h) (DpAll.extN e g)
end
theorem rep_chk : ∀ (n pos : Nat), pos ≤ 100 → chkB 1 (List.replicate n (.k 1)) pos = if pos + n ≤ 100 then .ok (pos + n) else .error none
  | 0, pos, h => by rw [if_pos (by omega)]; rfl
  | n + 1, pos, h => by
    show (match (Bt.k 1).chk 1 pos with | Except.error e => Except.error e | Except.ok q => chkB 1 (List.replicate n (.k 1)) q) = _
    by_cases g : pos ≥ 100
    · rw [chk_long g, if_neg (by omega)]
    · have e : (Bt.k 1).chk 1 pos = .ok (pos + 1) := by unfold Bt.chk; rw [if_neg g, if_pos (by decide)]
      rw [e]
      show chkB 1 (List.replicate n (.k 1)) (pos + 1) = _
      rw [rep_chk n (pos + 1) (by omega), show pos + 1 + n = pos + (n + 1) by omega]
theorem rep_chk100 : chkB 1 (List.replicate 100 (.k 1)) 0 = .ok 100 := rep_chk 100 0 (by decide)
theorem rep_chk101 : chkB 1 (List.replicate 101 (.k 1)) 0 = .error none := rep_chk 101 0 (by decide)
theorem nest_chk : chkB 1 [.r "repeat" 1 [.r "repeat" 1 [.r "repeat" 1 [.r "repeat" 1 []]]]] 0 = .ok 4 := by
  simp [chkB, Bt.chk, rokB]
/-- a list of pairs of a tag and a field -/
def TR (H : Hp) : List (Except (Option Nat) Nat) → List V → Prop
  | [], vs => vs = []
  | r :: rs, vs => ∃ (p : Addr) (ws : List V), vs = .ref p :: ws ∧ H p = some (.tup [.str (dueT r), dueF r]) ∧ TR H rs ws
theorem TR.at {H H' : Hp} (e : ∀ x xs, H x = some (.tup xs) → H' x = some (.tup xs)) : ∀ {rs : List (Except (Option Nat) Nat)} {vs : List V}, TR H rs vs → TR H' rs vs
  | [], _, h => h
  | _ :: _, _, ⟨p, ws, h1, h2, h3⟩ => ⟨p, ws, h1, e _ _ h2, TR.at e h3⟩
theorem TR.snoc {H : Hp} {r : Except (Option Nat) Nat} {p : Addr} (hp : H p = some (.tup [.str (dueT r), dueF r])) : ∀ {rs : List (Except (Option Nat) Nat)} {vs : List V}, TR H rs vs → TR H (rs ++ [r]) (vs ++ [.ref p])
  | [], _, h => by rw [show _ = [] from h]; exact ⟨p, [], rfl, hp, rfl⟩
  | _ :: _, _, ⟨p', us, h1, h2, h3⟩ => by rw [h1]; exact ⟨p', us ++ [.ref p], rfl, h2, TR.snoc hp h3⟩
theorem TR.len {H : Hp} : ∀ {rs : List (Except (Option Nat) Nat)} {vs : List V}, TR H rs vs → vs.length = rs.length
  | [], _, h => congrArg List.length (show _ = [] from h)
  | _ :: _, _, ⟨p, ws, h1, _, h3⟩ => by rw [h1, List.length_cons, List.length_cons, TR.len h3]
theorem TR.put {H : Hp} {D : Addr} {l : List V} {o : HO} {rs : List (Except (Option Nat) Nat)} {vs : List V} (hD : H D = some (.lst l)) (h : TR H rs vs) : TR (upd H D o) rs vs :=
  h.at fun x xs hx => by rw [upd_ne (fun z => by rw [z, hD] at hx; cases hx)]; exact hx
end TT
/-! texts of histories: numbers -/
namespace TT
open PySem PySem.Spec PyProof.Rows L2 HotX LamX T PySem.NumText
/-! ### digits -/
def dgN (m : Nat) : List Nat := (Nat.toDigits 10 m).map Char.toNat
def dg (i : Int) : List Nat := if i < 0 then 45 :: dgN i.natAbs else dgN i.natAbs
theorem dgN_all (m : Nat) : AllDigits (dgN m) := fun c hc => by
  obtain ⟨ch, hch, e⟩ := List.mem_map.mp hc
  have r := digit_range (Nat.isDigit_of_mem_toDigits (by decide) (by decide) hch)
  rw [← e]; exact r
theorem dgN_ne (m : Nat) : dgN m ≠ [] := fun e => by
  have h := toDigits_len_ge 10 m
  rw [List.map_eq_nil_iff.mp e] at h
  exact absurd h (by decide)
theorem dgN_len {m : Nat} (h : m < 10 ^ 31) : (dgN m).length ≤ 31 := by
  show ((Nat.toDigits 10 m).map Char.toNat).length ≤ 31
  rw [List.length_map]
  exact digits10_le (by decide) h
theorem dgN_val (m : Nat) : digitsVal (dgN m) = m := PySem.W.KIN.val_back m
theorem dgN_head {m c : Nat} {r : List Nat} (h : dgN m = c :: r) (n : m ≠ 0) : c ≠ 48 := fun e => by
  subst e
  have z := toDigits_all (dgN m) (dgN_all m)
  rw [dgN_val] at z
  have l1 : (Nat.toDigits 10 m).length = (dgN m).length := (List.length_map _).symm
  rw [h] at z l1
  rw [List.dropWhile_cons, if_pos (by decide)] at z
  cases hd : r.dropWhile (· == 48) with
  | nil =>
    rw [hd] at z
    have hv : digitsVal (dgN m) = m := dgN_val m
    have hz : Nat.toDigits 10 m = Nat.toDigits 10 0 := z
    have : digitsVal (dgN m) = digitsVal (dgN 0) := by unfold dgN; rw [hz]
    rw [dgN_val, dgN_val] at this
    exact n this
  | cons c' r' =>
    rw [hd] at z
    have z : Nat.toDigits 10 m = (c' :: r').map Char.ofNat := z
    have l2 : (Nat.toDigits 10 m).length = (c' :: r').length := by rw [z, List.length_map]
    have l3 : (c' :: r').length ≤ r.length := by rw [← hd]; exact (List.dropWhile_sublist _).length_le
    rw [l1] at l2
    have : (48 :: r : List Nat).length = r.length + 1 := rfl
    omega
theorem dg_text (i : Int) : (toString i : Str) = SX.S (dg i) := by
  have h : (PySem.Str.ofString (toString i)).cps.toList = dg i := by
    unfold dg
    cases i with
    | ofNat m => rw [if_neg (by show ¬ ((m : Nat) : Int) < 0; omega)]; exact PySem.W.KIN.signs_num m
    | negSucc m =>
      rw [if_pos (Int.negSucc_lt_zero m), signs_ofString]
      show ("-" ++ Nat.repr (m + 1)).toList.map Char.toNat = _
      rw [String.toList_append, List.map_append]
      show 45 :: (Nat.repr (m + 1)).toList.map Char.toNat = _
      rw [Nat.toList_repr]; rfl
  rw [← h]
theorem dg_len {i : Int} (h : i.natAbs < 10 ^ 31) : (dg i).length ≤ 32 := by
  have := dgN_len h
  unfold dg
  split
  · rw [List.length_cons]; omega
  · omega
theorem dg_ne (i : Int) : dg i ≠ [] := by
  unfold dg
  split
  · exact List.cons_ne_nil _ _
  · exact dgN_ne _
def isDc (c : Nat) : Prop := c = 45 ∨ (48 ≤ c ∧ c ≤ 57)
theorem dg_dc (i : Int) : ∀ c ∈ dg i, isDc c := fun c hc => by
  unfold dg at hc
  split at hc
  · rcases List.mem_cons.mp hc with h | h
    · exact .inl h
    · exact .inr (dgN_all _ c h)
  · exact .inr (dgN_all _ c hc)
/-! ### what parse_integer asks -/
theorem rp_list (l : List Nat) : Txt.removeprefix (SX.S l) (SX.S [45]) = SX.S (match l with
    | 45 :: r => r
    | l => l) := by
  rw [StrLaws.removeprefix_eq, StrLaws.subAt_eq]
  have e1 : (SX.S l).cps.toList = l := rfl
  have e2 : (SX.S [45]).cps.toList = [45] := rfl
  have e3 : (SX.S [45]).length = 1 := rfl
  rw [e1, e2, e3, SX.S_len]
  cases l with
  | nil => rfl
  | cons c r =>
    by_cases hc : c = 45
    · subst hc
      rw [if_pos (by simp)]
      show SX.S ((r.take (r.length + 1 - 1))) = SX.S r
      rw [Nat.add_sub_cancel, List.take_length]
    · rw [if_neg (by simp [hc])]
      congr 1
      split
      · rename_i h; cases h; exact absurd rfl hc
      · rfl
theorem rp_dg (i : Int) : Txt.removeprefix (SX.S (dg i)) "-" = SX.S (dgN i.natAbs) := by
  rw [show (("-" : Str)) = SX.S [45] from rfl, rp_list]
  congr 1
  by_cases z : i < 0
  · have e : dg i = 45 :: dgN i.natAbs := by unfold dg; rw [if_pos z]
    rw [e]; rfl
  · have e : dg i = dgN i.natAbs := by unfold dg; rw [if_neg z]
    rw [e]
    cases hd : dgN i.natAbs with
    | nil => rfl
    | cons c r =>
      have hc := dgN_all i.natAbs c (by rw [hd]; exact List.mem_cons_self)
      split
      · rename_i h; cases h; omega
      · rfl
theorem digs_ascii (m : Nat) : Txt.isascii (SX.S (dgN m)) = true := by
  unfold Txt.isascii
  rw [Array.all_eq_true']
  intro c hc
  have := dgN_all m c (by simpa using hc)
  exact decide_eq_true (by omega)
theorem uni_digit {c : Nat} (h : 48 ≤ c ∧ c ≤ 57) : Unicode.isDigit c = true := by
  have : ∀ d : Fin 10, Unicode.isDigit (48 + d.val) = true := by decide +kernel
  have := this ⟨c - 48, by omega⟩
  rwa [show 48 + (c - 48) = c by omega] at this
theorem digs_digit (m : Nat) : Txt.isdigit (SX.S (dgN m)) = true := by
  unfold Txt.isdigit
  rw [Bool.and_eq_true]
  refine ⟨decide_eq_true ?_, ?_⟩
  · rw [SX.S_len]; exact List.length_pos_iff.mpr (dgN_ne m)
  · rw [Array.all_eq_true']
    intro c hc
    exact uni_digit (dgN_all m c (by simpa using hc))
theorem int_dg {i : Int} (h : i.natAbs < 10 ^ 31) : intText? (SX.S (dg i)) = some i := by
  have hl : (SX.S (dg i)).length ≤ 4300 := by rw [SX.S_len]; have := dg_len h; omega
  have hN := dgN_val i.natAbs
  by_cases z : i < 0
  · have e : (SX.S (dg i)).cps.toList = 45 :: dgN i.natAbs := by show dg i = _; unfold dg; rw [if_pos z]
    rw [intText_neg e (dgN_all _) (dgN_ne _) hl, hN]
    congr 1; omega
  · have e : dg i = dgN i.natAbs := by unfold dg; rw [if_neg z]
    have := intText_digits (x := SX.S (dg i)) (by show AllDigits (dg i); rw [e]; exact dgN_all _) (by show dg i ≠ []; rw [e]; exact dgN_ne _) hl
    rw [this]
    show some ((digitsVal (dg i) : Nat) : Int) = some i
    rw [e, hN]
    congr 1; omega
/-! ### texts of steps -/
mutual
def S.tx : S → List Nat
  | .k n => dg n
  | .r c ss => dg c ++ ([42, 40] ++ (txT ss ++ [41]))
def txT : List S → List Nat
  | [] => []
  | s :: ss => s.tx ++ txR ss
/-- each with a blank ahead -/
def txR : List S → List Nat
  | [] => []
  | s :: ss => 32 :: (s.tx ++ txR ss)
end
def txFrom : Nat → List S → List Nat
  | 0, ss => txT ss
  | _ + 1, ss => txR ss
theorem txR_app : ∀ xs ys : List S, txR (xs ++ ys) = txR xs ++ txR ys
  | [], ys => rfl
  | x :: xs, ys => by
    show 32 :: (x.tx ++ txR (xs ++ ys)) = 32 :: (x.tx ++ txR xs) ++ txR ys
    rw [txR_app xs ys]; simp
theorem txT_split (ss : List S) (i : Nat) : txT ss = txT (ss.take i) ++ txFrom i (ss.drop i) := by
  cases i with
  | zero => rfl
  | succ i =>
    cases ss with
    | nil => rfl
    | cons s ss =>
      show s.tx ++ txR ss = s.tx ++ txR (ss.take i) ++ txR (ss.drop i)
      rw [List.append_assoc, ← txR_app, List.take_append_drop]
theorem txT_snoc {ss : List S} {i : Nat} {s : S} (h : ss[i]? = some s) : txT (ss.take (i + 1)) = txT (ss.take i) ++ ((if i = 0 then [] else [32]) ++ s.tx) := by
  rw [List.take_add_one, h]
  cases i with
  | zero => show s.tx ++ [] = [] ++ ([] ++ s.tx); simp
  | succ i =>
    cases ss with
    | nil => cases h
    | cons x xs =>
      show x.tx ++ txR (xs.take i ++ [s]) = x.tx ++ txR (xs.take i) ++ ([32] ++ s.tx)
      rw [txR_app, List.append_assoc]
      show _ ++ (_ ++ 32 :: (s.tx ++ [])) = _
      rw [List.append_nil]; rfl
theorem tx_head (s : S) : ∃ c r, s.tx = c :: r ∧ isDc c := by
  have key : ∀ (i : Int) (r : List Nat), ∃ c r', dg i ++ r = c :: r' ∧ isDc c := fun i r => by
    cases h : dg i with
    | nil => exact absurd h (dg_ne i)
    | cons c t => exact ⟨c, t ++ r, rfl, dg_dc i c (by rw [h]; exact List.mem_cons_self)⟩
  cases s with
  | k n =>
    obtain ⟨c, r, h, d⟩ := key n []
    exact ⟨c, r, by rw [List.append_nil] at h; exact h, d⟩
  | r c ss => exact key c _
def noDc (R : List Nat) : Prop := ∀ c r, R = c :: r → ¬ isDc c
/-- what follows a step -/
def endR (R : List Nat) : Prop := R = [] ∨ ∃ r, R = 32 :: r ∨ R = 41 :: r
theorem endR.no {R : List Nat} (h : endR R) : noDc R := fun c r e z => by
  unfold isDc at z
  rcases h with h | ⟨t, h | h⟩ <;> (rw [h] at e; cases e) <;> omega
mutual
/-- steps whose rounds hold tuples -/
def HP (H : Hp) : S → V → Prop
  | .k n, v => v = .int n
  | .r c ss, v => ∃ (a b : Addr) (vs : List V), v = .ref a ∧ H a = some (.tup [.str "repeat", .int c, .ref b]) ∧ H b = some (.tup vs) ∧ HPL H ss vs
def HPL (H : Hp) : List S → List V → Prop
  | [], vs => vs = []
  | s :: ss, vs => ∃ (v : V) (ws : List V), vs = v :: ws ∧ HP H s v ∧ HPL H ss ws
end
mutual
theorem HP.at {H H' : Hp} (e : ∀ x xs, H x = some (.tup xs) → H' x = some (.tup xs)) : ∀ (s : S) {v : V}, HP H s v → HP H' s v
  | .k n, _, h => h
  | .r c ss, _, ⟨a, b, vs, h1, h2, h3, h4⟩ => ⟨a, b, vs, h1, e _ _ h2, e _ _ h3, HPL.at e ss h4⟩
theorem HPL.at {H H' : Hp} (e : ∀ x xs, H x = some (.tup xs) → H' x = some (.tup xs)) : ∀ (ss : List S) {vs : List V}, HPL H ss vs → HPL H' ss vs
  | [], _, h => h
  | s :: ss, _, ⟨v, ws, h1, h2, h3⟩ => ⟨v, ws, h1, HP.at e s h2, HPL.at e ss h3⟩
end
theorem HPL.same {H H' : Hp} (e : Same H H') (ss : List S) {vs : List V} (h : HPL H ss vs) : HPL H' ss vs := HPL.at (fun _ _ => e _ _) ss h
theorem HP.same {H H' : Hp} (e : Same H H') (s : S) {v : V} (h : HP H s v) : HP H' s v := HP.at (fun _ _ => e _ _) s h
theorem HPL.put {H : Hp} {D : Addr} {l : List V} {o : HO} (hD : H D = some (.lst l)) (ss : List S) {vs : List V} (h : HPL H ss vs) : HPL (upd H D o) ss vs :=
  HPL.at (fun x xs hx => by rw [upd_ne (fun z => by rw [z, hD] at hx; cases hx)]; exact hx) ss h
theorem HP.put {H : Hp} {D : Addr} {l : List V} {o : HO} (hD : H D = some (.lst l)) (s : S) {v : V} (h : HP H s v) : HP (upd H D o) s v :=
  HP.at (fun x xs hx => by rw [upd_ne (fun z => by rw [z, hD] at hx; cases hx)]; exact hx) s h
theorem HPL.snoc {H : Hp} {s : S} {v : V} (h : HP H s v) : ∀ {ss : List S} {vs : List V}, HPL H ss vs → HPL H (ss ++ [s]) (vs ++ [v])
  | [], _, g => by rw [show _ = [] from g]; exact ⟨v, [], rfl, h, rfl⟩
  | _ :: _, _, ⟨v', ws, h1, h2, h3⟩ => by rw [h1]; exact ⟨v', ws ++ [v], rfl, h2, HPL.snoc h h3⟩
theorem HPL.len {H : Hp} : ∀ {ss : List S} {vs : List V}, HPL H ss vs → vs.length = ss.length
  | [], _, h => congrArg List.length (show _ = [] from h)
  | _ :: _, _, ⟨v, ws, h1, _, h3⟩ => by rw [h1, List.length_cons, List.length_cons, HPL.len h3]
mutual
theorem HP.hs {H : Hp} : ∀ (s : S) {v : V}, HP H s v → HS H s v
  | .k n, _, h => h
  | .r c ss, _, ⟨a, b, vs, h1, h2, h3, h4⟩ => ⟨a, b, vs, h1, h2, .inr h3, HPL.hl ss h4⟩
theorem HPL.hl {H : Hp} : ∀ (ss : List S) {vs : List V}, HPL H ss vs → HL H ss vs
  | [], _, h => h
  | s :: ss, _, ⟨v, ws, h1, h2, h3⟩ => ⟨v, ws, h1, HP.hs s h2, HPL.hl ss h3⟩
end
/-! ### promises -/
def p31N (i : Int) : Prop := i.natAbs < 10 ^ 31
def spParseI : Sp := fun us H Q _ => ∃ i : Int, us = [.str (SX.S (dg i))] ∧ p31N i ∧ Q (.int i) H
def spIntEnd : Sp := fun us H Q _ => ∃ (A R : List Nat) (i : Int), us = [.str (SX.S (A ++ (dg i ++ R))), .int (A.length : Nat)] ∧ noDc R ∧ (A ++ (dg i ++ R)).length ≤ 10000 ∧ Q (.int ((A.length + (dg i).length : Nat) : Int)) H
def spRdStep (n : Nat) : Sp := fun us H Q _ => ∃ (A R : List Nat) (s : S) (dep : Nat), us = [.str (SX.S (A ++ (s.tx ++ R))), .int (A.length : Nat), .int (dep : Nat)] ∧ s.ok ∧ s.dLe n ∧ dep + n ≤ 5 ∧ endR R ∧ (A ++ (s.tx ++ R)).length ≤ 10000 ∧
  ∀ p v H', Same H H' → H' p = some (.tup [v, .int ((A.length + s.tx.length : Nat) : Int)]) → HP H' s v → Q (.ref p) H'
def spRdSteps (n : Nat) : Sp := fun us H Q _ => ∃ (A R : List Nat) (ss : List S) (dep : Nat), us = [.str (SX.S (A ++ (txT ss ++ R))), .int (A.length : Nat), .int (dep : Nat)] ∧ okL ss ∧ dLeL ss n ∧ dep + n ≤ 5 ∧ (R = [] ∨ ∃ r, R = 41 :: r) ∧ (A ++ (txT ss ++ R)).length ≤ 10000 ∧
  ∀ p q vs H', Same H H' → H' p = some (.tup [.ref q, .int ((A.length + (txT ss).length : Nat) : Int)]) → H' q = some (.tup vs) → HPL H' ss vs → Q (.ref p) H'
def spPrevRs : Nat → Sp
  | 0 => fun _ _ _ _ => False
  | n + 1 => spRdSteps n
/-! ### what is read of a text -/
theorem at_S {A R : List Nat} {c : Nat} : atI (SX.S (A ++ c :: R)).cps.toList ((A.length : Nat) : Int) = some c :=
  atI_int (by omega) (by show (A ++ c :: R)[(A.length : Int).toNat]? = _; rw [Int.toNat_natCast, List.getElem?_append_right (Nat.le_refl _), Nat.sub_self]; rfl)
theorem cut_S {A B R : List Nat} : cutS (SX.S (A ++ (B ++ R))) (some (A.length : Nat)) (some ((A.length + B.length : Nat) : Int)) = SX.S B := by
  unfold cutS
  have l : (SX.S (A ++ (B ++ R))).length = A.length + (B.length + R.length) := by rw [SX.S_len, List.length_append, List.length_append]
  rw [l, HT.sIx_nat, HT.sIx_nat, Nat.min_eq_left (by omega), Nat.min_eq_left (by omega)]
  show (⟨(((A ++ (B ++ R)).drop A.length).take (A.length + B.length - A.length)).toArray⟩ : Str) = _
  rw [List.drop_left, Nat.add_sub_cancel_left, List.take_left]
theorem dc_mem (c : Nat) : c ∈ (Str.ofString "-0123456789").cps.toList ↔ isDc c := by
  have e : (Str.ofString "-0123456789").cps.toList = [45, 48, 49, 50, 51, 52, 53, 54, 55, 56, 57] := by decide +kernel
  rw [e]
  unfold isDc
  simp only [List.mem_cons, List.not_mem_nil, or_false]
  omega
theorem sw_S (A R : List Nat) : Txt.startswith3 (SX.S (A ++ R)) (SX.S [42, 40]) ((A.length : Nat) : Int) = decide (R.take 2 = [42, 40]) := by
  unfold Txt.startswith3
  have f : fromIndex (SX.S (A ++ R)).length ((A.length : Nat) : Int) = A.length := by
    unfold fromIndex
    rw [if_neg (by omega)]; omega
  rw [f, StrLaws.subAt_eq]
  have e : (SX.S (A ++ R)).cps.toList.drop A.length = R := List.drop_left
  have e3 : (SX.S [42, 40]).length = 2 := rfl
  rw [e, e3, SX.S_len, List.length_append]
  show (decide (A.length + 2 ≤ A.length + R.length) && (R.take 2 == [42, 40])) = _
  by_cases h : R.take 2 = [42, 40]
  · have : 2 ≤ R.length := by
      have := congrArg List.length h
      rw [List.length_take] at this
      simp at this
      omega
    rw [h, decide_eq_true (by omega)]; rfl
  · rw [decide_eq_false h]
    cases hb : (R.take 2 == [42, 40])
    · rw [Bool.and_false]
    · exact absurd (eq_of_beq hb) h
theorem at_T {l : List Nat} {p c : Nat} (h : l[p]? = some c) : atI (SX.S l).cps.toList ((p : Nat) : Int) = some c := atI_int (by omega) (by rw [Int.toNat_natCast]; exact h)
theorem dg0 : dg 0 = [48] := by decide +kernel
theorem dgN0 : dgN 0 = [48] := by decide +kernel
theorem str_1 {a b : Nat} (h : a ≠ b) : ¬ V.str (⟨#[a]⟩ : Str) = V.str (⟨#[b]⟩ : Str) := fun z => by
  have := V.str.inj z
  have := congrArg Str.cps this
  simp at this
  exact h this
/-! ### the text is joined -/
theorem joinL_tx : ∀ ss : List S, TL.joinL [32] (ss.map S.tx) = txT ss
  | [] => rfl
  | [s] => by show s.tx = s.tx ++ []; rw [List.append_nil]
  | s :: t :: ss => by
    show s.tx ++ ([32] ++ TL.joinL [32] ((t :: ss).map S.tx)) = s.tx ++ (32 :: (t.tx ++ txR ss))
    rw [joinL_tx (t :: ss)]; rfl
theorem join_tx (ss : List S) : Txt.join " " (ss.map fun s => SX.S s.tx) = SX.S (txT ss) := by
  have := SX.join_S [32] (ss.map S.tx)
  rw [List.map_map, joinL_tx] at this
  exact this
theorem txR_len : ∀ ss : List S, ((ss.map fun s => SX.S s.tx).map (·.length)).sum + ss.length ≤ (txR ss).length
  | [] => Nat.le_refl _
  | s :: ss => by
    have := txR_len ss
    show ((SX.S s.tx).length + ((ss.map fun s => SX.S s.tx).map (·.length)).sum) + (ss.length + 1) ≤ (32 :: (s.tx ++ txR ss)).length
    rw [SX.S_len, List.length_cons, List.length_append]
    omega
theorem txT_R (ss : List S) : (txR ss).length ≤ (txT ss).length + 1 := by
  cases ss with
  | nil => exact Nat.zero_le _
  | cons x xs => show (32 :: (x.tx ++ txR xs)).length ≤ (x.tx ++ txR xs).length + 1; rw [List.length_cons]; exact Nat.le_refl _
theorem txT_sum (ss : List S) : ((ss.map fun s => SX.S s.tx).map (·.length)).sum + ss.length ≤ (txT ss).length + 1 := Nat.le_trans (txR_len ss) (txT_R ss)
theorem tx_in {ss : List S} {s : S} (h : s ∈ ss) : s.tx.length ≤ (txT ss).length := by
  have key : ∀ {ss : List S}, s ∈ ss → s.tx.length + 1 ≤ (txR ss).length := fun {ss} h => by
    induction ss with
    | nil => cases h
    | cons x xs ih =>
      show s.tx.length + 1 ≤ (32 :: (x.tx ++ txR xs)).length
      rw [List.length_cons, List.length_append]
      rcases List.mem_cons.mp h with h | h
      · subst h; omega
      · have := ih h; omega
  have := key h
  have := txT_R ss
  omega
/-! ### their lengths -/
def bT : Nat → Nat
  | 0 => 32
  | n + 1 => 35 + 6 * (bT n + 1)
mutual
theorem S.tx_len {ks : List Int} (hk : ∀ x ∈ ks, -1000000000 ≤ x ∧ x ≤ 1000000000) : ∀ (s : S) {n : Nat}, s.inK ks → s.dLe n → s.tx.length ≤ bT n
  | .k x, n, i, _ => by
    have e : (10 : Nat) ^ 31 = 10000000000000000000000000000000 := by decide
    have hx := hk x i
    have := dg_len (i := x) (by omega)
    have : 32 ≤ bT n := by cases n <;> simp [bT] <;> omega
    show (dg x).length ≤ _
    omega
  | .r c ss, 0, _, d => d.elim
  | .r c ss, n + 1, i, d => by
    have e : (10 : Nat) ^ 31 = 10000000000000000000000000000000 := by decide
    have c0 := i.1
    have c1 := i.2.1
    have := dg_len (i := c) (by omega)
    have h1 := txR_lenB hk ss i.2.2.2 d
    have h2 : (txT ss).length ≤ (txR ss).length := by
      cases ss with
      | nil => exact Nat.le_refl _
      | cons x xs => show (x.tx ++ txR xs).length ≤ (32 :: (x.tx ++ txR xs)).length; rw [List.length_cons]; omega
    have h3 := i.2.2.1
    have h4 := Nat.mul_le_mul_right (bT n + 1) h3
    show (dg c ++ ([42, 40] ++ (txT ss ++ [41]))).length ≤ 35 + 6 * (bT n + 1)
    simp only [List.length_append, List.length_cons, List.length_nil]
    omega
theorem txR_lenB {ks : List Int} (hk : ∀ x ∈ ks, -1000000000 ≤ x ∧ x ≤ 1000000000) : ∀ (ss : List S) {n : Nat}, inKL ks ss → dLeL ss n → (txR ss).length ≤ ss.length * (bT n + 1)
  | [], n, _, _ => Nat.zero_le _
  | s :: ss, n, i, d => by
    have h1 := S.tx_len hk s i.1 d.1
    have h2 := txR_lenB hk ss i.2 d.2
    show (32 :: (s.tx ++ txR ss)).length ≤ (ss.length + 1) * (bT n + 1)
    rw [List.length_cons, List.length_append, Nat.succ_mul]
    omega
end
def spStepText (n : Nat) : Sp := fun us H Q _ => ∃ (v : V) (s : S), us = [v] ∧ HS H s v ∧ s.ok ∧ s.dLe n ∧ s.tx.length ≤ 60000 ∧ ∀ H', Same H H' → Q (.str (SX.S s.tx)) H'
def spStepsText (K : PySem.W.Frag) (n : Nat) : Sp := fun us H Q _ => ∃ (b : Addr) (vs : List V) (ss : List S), us = [.ref b] ∧ Sq K H b vs ∧ HL H ss vs ∧ okL ss ∧ dLeL ss n ∧ (txT ss).length ≤ 60000 ∧ ∀ H', Same H H' → Q (.str (SX.S (txT ss))) H'
def spPrevTx (K : PySem.W.Frag) : Nat → Sp
  | 0 => fun _ _ _ _ => False
  | n + 1 => spStepsText K n
def spFormatH (K : PySem.W.Frag) : Sp := fun us H Q _ => ∃ (b : Addr) (vs : List V) (ss : List S), us = [.ref b] ∧ Sq K H b vs ∧ HL H ss vs ∧ okL ss ∧ dLeL ss 4 ∧ wrL ss ≤ 100 ∧ (txT ss).length ≤ 60000 ∧ ∀ H', Same H H' → Q (.str (SX.S (txT ss))) H'
def spParseH : Sp := fun us H Q _ => ∃ ss : List S, us = [.str (SX.S (txT ss))] ∧ okL ss ∧ dLeL ss 4 ∧ wrL ss ≤ 100 ∧ (txT ss).length ≤ 10000 ∧ ∀ p vs H', Same H H' → H p = none → H' p = some (.lst vs) → HPL H' ss vs → Q (.ref p) H'
def spPlain (K : PySem.W.Frag) (n : Nat) : Sp := fun us H Q _ => ∃ (b : Addr) (vs : List V) (ss : List S), us = [.ref b] ∧ Sq K H b vs ∧ HL H ss vs ∧ dLeL ss n ∧ ss.length ≤ 1000 ∧ wrL ss ≤ 1000 ∧ ∀ p ws H', Same H H' → H p = none → H' p = some (.lst ws) → HPL H' ss ws → Q (.ref p) H'
def spPrevPl (K : PySem.W.Frag) : Nat → Sp
  | 0 => fun _ _ _ _ => False
  | n + 1 => spPlain K n
theorem HPL.get {H : Hp} : ∀ {ss : List S} {vs : List V} {i : Nat} {v : V}, HPL H ss vs → vs[i]? = some v → ∃ s, ss[i]? = some s ∧ HP H s v
  | [], _, i, v, h, g => by rw [show _ = [] from h] at g; cases g
  | s :: _, _, 0, v, ⟨v', ws, h1, h2, _⟩, g => by rw [h1] at g; cases g; exact ⟨s, rfl, h2⟩
  | _ :: _, _, i + 1, v, ⟨v', ws, h1, _, h3⟩, g => by rw [h1] at g; exact h3.get (i := i) g
mutual
theorem hp_eqv {H : Hp} : ∀ (s : S) {n k : Nat} {v v' : V}, HP H s v → HP H s v' → s.dLe n → s.wr ≤ 6000 → EqvW H (2 * n + k) v v'
  | .k x, n, k, v, v', h, h', _, _ => by
    rw [show v = .int x from h, show v' = .int x from h']
    exact EqvW.flat rfl
  | .r c ss, 0, k, v, v', _, _, d, _ => d.elim
  | .r c ss, n + 1, k, v, v', ⟨a, b, vs, e1, h1, h2, h3⟩, ⟨a', b', vs', e1', h1', h2', h3'⟩, d, w => by
    have w : 1 + wrL ss ≤ 6000 := w
    rw [e1, e1', show 2 * (n + 1) + k = (2 * n + k) + 1 + 1 by omega]
    exact eqvW_tri h1 h1' (EqvW.flat rfl) (EqvW.flat rfl) (.inr ⟨b, b', vs, vs', rfl, rfl, .inr ⟨h2, h2'⟩, by rw [HPL.len h3, HPL.len h3'], by rw [HPL.len h3]; have := len_wr ss; omega, hpl_eqv ss h3 h3' d (by omega)⟩)
theorem hpl_eqv {H : Hp} : ∀ (ss : List S) {n k : Nat} {vs vs' : List V}, HPL H ss vs → HPL H ss vs' → dLeL ss n → wrL ss ≤ 6000 → ∀ (i : Nat) u v, vs[i]? = some u → vs'[i]? = some v → EqvW H (2 * n + k) u v
  | [], _, _, vs, _, h, _, _, _, i, u, v, g, _ => by rw [show vs = [] from h] at g; cases g
  | s :: ss, _, _, _, _, ⟨x, ws, e, h1, h2⟩, ⟨x', ws', e', h1', h2'⟩, d, w, i, u, v, g, g' => by
    have w : s.wr + wrL ss ≤ 6000 := w
    rw [e] at g; rw [e'] at g'
    cases i with
    | zero => cases g; cases g'; exact hp_eqv s h1 h1' d.1 (by omega)
    | succ i => exact hpl_eqv ss h2 h2' d.2 (by omega) i u v g g'
end
theorem hplist_eqv {H : Hp} {ss : List S} {n k : Nat} {a b : Addr} {vs vs' : List V} (ha : H a = some (.lst vs)) (hb : H b = some (.lst vs')) (h : HPL H ss vs) (h' : HPL H ss vs') (d : dLeL ss n) (w : wrL ss ≤ 6000) : EqvW H (2 * n + k + 1) (.ref a) (.ref b) :=
  .inr ⟨a, b, vs, vs', rfl, rfl, .inl ⟨ha, hb⟩, by rw [HPL.len h, HPL.len h'], by rw [HPL.len h]; have := len_wr ss; omega, hpl_eqv ss h h' d w⟩
end TT
namespace TT
open PySem PySem.Spec PyProof.Rows L2
def topS (i : Nat) : Stmt := PySem.Challenge.pw_touchtrees_k56_texts_of_histories.main.body.getD i (.Pass ⟨0, 0, 0, 0⟩)
def clsB : Stmt → List Stmt
  | .ClassDef (body := b) .. => b
  | _ => []
def clsS (i j : Nat) : Stmt := (clsB (topS i)).getD j (.Pass ⟨0, 0, 0, 0⟩)
abbrev s_is_key : Stmt := topS 7
theorem sc_is_key : FnScope ["number"] ["number"] (defScope s_is_key) := ⟨rfl, rfl, rfl, by decide +kernel, rfl, by decide +kernel, by decide +kernel⟩
abbrev s_is_round : Stmt := topS 12
theorem sc_is_round : FnScope ["step"] ["step"] (defScope s_is_round) := ⟨rfl, rfl, rfl, by decide +kernel, rfl, by decide +kernel, by decide +kernel⟩
abbrev s_check_steps : Stmt := topS 13
theorem sc_check_steps : FnScope ["steps", "start", "depth", "pos", "step"] ["steps", "start", "depth"] (defScope s_check_steps) := ⟨rfl, rfl, rfl, by decide +kernel, rfl, by decide +kernel, by decide +kernel⟩
abbrev s_check_history : Stmt := topS 14
theorem sc_check_history : FnScope ["history"] ["history"] (defScope s_check_history) := ⟨rfl, rfl, rfl, by decide +kernel, rfl, by decide +kernel, by decide +kernel⟩
abbrev s_parse_integer : Stmt := topS 17
theorem sc_parse_integer : FnScope ["text", "digits"] ["text"] (defScope s_parse_integer) := ⟨rfl, rfl, rfl, by decide +kernel, rfl, by decide +kernel, by decide +kernel⟩
abbrev s_steps_text : Stmt := topS 18
theorem sc_steps_text : FnScope ["steps", "step"] ["steps"] (defScope s_steps_text) := ⟨rfl, rfl, rfl, by decide +kernel, rfl, by decide +kernel, by decide +kernel⟩
abbrev s_step_text : Stmt := topS 19
theorem sc_step_text : FnScope ["step"] ["step"] (defScope s_step_text) := ⟨rfl, rfl, rfl, by decide +kernel, rfl, by decide +kernel, by decide +kernel⟩
abbrev s_format_history : Stmt := topS 20
theorem sc_format_history : FnScope ["history"] ["history"] (defScope s_format_history) := ⟨rfl, rfl, rfl, by decide +kernel, rfl, by decide +kernel, by decide +kernel⟩
abbrev s_integer_end : Stmt := topS 21
theorem sc_integer_end : FnScope ["text", "start", "at"] ["text", "start"] (defScope s_integer_end) := ⟨rfl, rfl, rfl, by decide +kernel, rfl, by decide +kernel, by decide +kernel⟩
abbrev s_read_step : Stmt := topS 22
theorem sc_read_step : FnScope ["text", "start", "depth", "at", "number", "steps"] ["text", "start", "depth"] (defScope s_read_step) := ⟨rfl, rfl, rfl, by decide +kernel, rfl, by decide +kernel, by decide +kernel⟩
abbrev s_read_steps : Stmt := topS 23
theorem sc_read_steps : FnScope ["text", "start", "depth", "steps", "at", "step"] ["text", "start", "depth"] (defScope s_read_steps) := ⟨rfl, rfl, rfl, by decide +kernel, rfl, by decide +kernel, by decide +kernel⟩
abbrev s_parse_history : Stmt := topS 24
theorem sc_parse_history : FnScope ["text", "steps", "end", "history"] ["text"] (defScope s_parse_history) := ⟨rfl, rfl, rfl, by decide +kernel, rfl, by decide +kernel, by decide +kernel⟩
abbrev s__law_start : Stmt := topS 26
theorem sc__law_start : FnScope ["_law_script"] ["_law_script"] (defScope s__law_start) := ⟨rfl, rfl, rfl, by decide +kernel, rfl, by decide +kernel, by decide +kernel⟩
abbrev s__law_take : Stmt := topS 27
theorem sc__law_take : FnScope ["_law_draw", "_law_many", "_law_cell", "_law_digit", "_law_square"] ["_law_draw", "_law_many"] (defScope s__law_take) := ⟨rfl, rfl, rfl, by decide +kernel, rfl, by decide +kernel, by decide +kernel⟩
abbrev s__law_of : Stmt := topS 28
theorem sc__law_of : FnScope ["_law_draw", "_law_some"] ["_law_draw", "_law_some"] (defScope s__law_of) := ⟨rfl, rfl, rfl, by decide +kernel, rfl, by decide +kernel, by decide +kernel⟩
abbrev s__law_same : Stmt := topS 29
theorem sc__law_same : FnScope ["_law_found", "_law_due", "_law_one", "_law_other"] ["_law_found", "_law_due"] (defScope s__law_same) := ⟨rfl, rfl, rfl, by decide +kernel, rfl, by decide +kernel, by decide +kernel⟩
abbrev s__law_keys : Stmt := topS 30
theorem sc__law_keys : FnScope ["_law_draw", "_law_many", "_law_key", "_law_wide", "_law_found", "_law_k"] ["_law_draw", "_law_many"] (defScope s__law_keys) := ⟨rfl, rfl, rfl, by decide +kernel, rfl, by decide +kernel, by decide +kernel⟩
abbrev s__law_step : Stmt := topS 31
theorem sc__law_step : FnScope ["_law_draw", "_law_keys_here", "_law_deep", "_law_count", "_law_steps", "_law_k"] ["_law_draw", "_law_keys_here", "_law_deep"] (defScope s__law_step) := ⟨rfl, rfl, rfl, by decide +kernel, rfl, by decide +kernel, by decide +kernel⟩
abbrev s__law_history : Stmt := topS 32
theorem sc__law_history : FnScope ["_law_draw", "_law_keys_here", "_law_most", "_law_deep", "_law_k"] ["_law_draw", "_law_keys_here", "_law_most", "_law_deep"] (defScope s__law_history) := ⟨rfl, rfl, rfl, by decide +kernel, rfl, by decide +kernel, by decide +kernel⟩
abbrev s__law_written : Stmt := topS 33
theorem sc__law_written : FnScope ["_law_steps", "_law_step_here"] ["_law_steps"] (defScope s__law_written) := ⟨rfl, rfl, rfl, by decide +kernel, rfl, by decide +kernel, by decide +kernel⟩
abbrev s__law_text : Stmt := topS 34
theorem sc__law_text : FnScope ["_law_steps", "_law_found", "_law_step_here"] ["_law_steps"] (defScope s__law_text) := ⟨rfl, rfl, rfl, by decide +kernel, rfl, by decide +kernel, by decide +kernel⟩
abbrev s__law_plain : Stmt := topS 35
theorem sc__law_plain : FnScope ["_law_steps", "_law_step_here"] ["_law_steps"] (defScope s__law_plain) := ⟨rfl, rfl, rfl, by decide +kernel, rfl, by decide +kernel, by decide +kernel⟩
abbrev s_law : Stmt := topS 36
theorem sc_law : FnScope ["_law_script", "_law_draw", "_law_turn", "_law_keys_here", "_law_history_in", "_law_text_in", "_law_plain_here", "_law_again", "_law_found", "_law_deep"] ["_law_script"] (defScope s_law) := ⟨rfl, rfl, rfl, by decide +kernel, rfl, by decide +kernel, by decide +kernel⟩
abbrev s_TreeError_init : Stmt := clsS 1 0
theorem sc_TreeError_init : FnScope ["self", "tag", "told"] ["self", "tag", "told"] (defScope s_TreeError_init) := ⟨rfl, rfl, rfl, by decide +kernel, rfl, by decide +kernel, by decide +kernel⟩
abbrev s_BadStep_init : Stmt := clsS 2 0
theorem sc_BadStep_init : FnScope ["self", "pos"] ["self", "pos"] (defScope s_BadStep_init) := ⟨rfl, rfl, rfl, by decide +kernel, rfl, by decide +kernel, by decide +kernel⟩
abbrev s_TooLong_init : Stmt := clsS 3 0
theorem sc_TooLong_init : FnScope ["self", "limit"] ["self", "limit"] (defScope s_TooLong_init) := ⟨rfl, rfl, rfl, by decide +kernel, rfl, by decide +kernel, by decide +kernel⟩
abbrev s_ParseError_init : Stmt := clsS 4 0
theorem sc_ParseError_init : FnScope ["self", "pos"] ["self", "pos"] (defScope s_ParseError_init) := ⟨rfl, rfl, rfl, by decide +kernel, rfl, by decide +kernel, by decide +kernel⟩
/-- the built-ins that no name of the module hides -/
structure Blt (mg : Str → Option Value) : Prop where
  xall : mg "all" = none
  xbool : mg "bool" = none
  xint : mg "int" = none
  xisinstance : mg "isinstance" = none
  xlen : mg "len" = none
  xlist : mg "list" = none
  xrange : mg "range" = none
  xstr : mg "str" = none
  xsum : mg "sum" = none
  xtuple : mg "tuple" = none
  xzip : mg "zip" = none
structure Cst (mg : Str → Option Value) : Prop where
  KEY_LIMIT : ∃ t : Tok, mg "KEY_LIMIT" = some (.int 1000000000 t)
  MAX_STEPS : ∃ t : Tok, mg "MAX_STEPS" = some (.int 100 t)
  MAX_NESTING : ∃ t : Tok, mg "MAX_NESTING" = some (.int 4 t)
  COUNT_LIMIT : ∃ t : Tok, mg "COUNT_LIMIT" = some (.int 1000000000000000000000000000000 t)
  MAX_DIGITS : ∃ t : Tok, mg "MAX_DIGITS" = some (.int 31 t)
theorem pg_KEY_LIMIT {X : Cx} {p : Pos} (g : Cst X.mg) (hg : Gl X "KEY_LIMIT") : PE X (.Name "KEY_LIMIT" p) (tC (.int 1000000000)) := by
  obtain ⟨t, h⟩ := g.KEY_LIMIT
  exact pe_glob hg h ⟨_, rfl⟩
theorem pg_MAX_STEPS {X : Cx} {p : Pos} (g : Cst X.mg) (hg : Gl X "MAX_STEPS") : PE X (.Name "MAX_STEPS" p) (tC (.int 100)) := by
  obtain ⟨t, h⟩ := g.MAX_STEPS
  exact pe_glob hg h ⟨_, rfl⟩
theorem pg_MAX_NESTING {X : Cx} {p : Pos} (g : Cst X.mg) (hg : Gl X "MAX_NESTING") : PE X (.Name "MAX_NESTING" p) (tC (.int 4)) := by
  obtain ⟨t, h⟩ := g.MAX_NESTING
  exact pe_glob hg h ⟨_, rfl⟩
theorem pg_COUNT_LIMIT {X : Cx} {p : Pos} (g : Cst X.mg) (hg : Gl X "COUNT_LIMIT") : PE X (.Name "COUNT_LIMIT" p) (tC (.int 1000000000000000000000000000000)) := by
  obtain ⟨t, h⟩ := g.COUNT_LIMIT
  exact pe_glob hg h ⟨_, rfl⟩
theorem pg_MAX_DIGITS {X : Cx} {p : Pos} (g : Cst X.mg) (hg : Gl X "MAX_DIGITS") : PE X (.Name "MAX_DIGITS" p) (tC (.int 31)) := by
  obtain ⟨t, h⟩ := g.MAX_DIGITS
  exact pe_glob hg h ⟨_, rfl⟩
end TT
namespace TT
open PySem PySem.Spec PyProof.Rows L2
section
variable {P : Program} {w : World} {K : PySem.W.Frag} {mg : Str → Option Value} {base : Heap}
theorem ok_is_key {f : Addr} {fd : FuncData} {k : Nat} (F : Fun K "is_key" "is_key" s_is_key f fd) (G : Cst mg) : FnOk P w K mg base CX0 (k + 1) f fd ["number"] spIsKey := by
  refine F.ok sc_is_key (fun vs H Q E h => ?_) (fun cdv A outer s H vs Q E hr h => ?_)
  · obtain ⟨n, rfl, _⟩ := h
    rfl
  · obtain ⟨n, rfl, q⟩ := h
    refine ⟨_, (pss_one (ps_ret (pe_chain op_le op_le (pe_un un_neg (pg_KEY_LIMIT G (by rfl))) (pv 0) (pg_KEY_LIMIT G (by rfl))))), ?_⟩
    refine ⟨_, rfl, .int n, rfl, _, _, rfl, rfl, ?_⟩
    refine ⟨_, rfl, ite2 (fun h => ⟨_, _, rfl, rfl, ?_⟩) (fun h => ?_)⟩
    · have e : okK n = decide (n ≤ 1000000000) := by
        have := of_decide_eq_true h
        simp only [okK, this, true_and]
      rw [e] at q
      exact q
    · have e : okK n = false := by
        have := of_decide_eq_false (Bool.eq_false_iff.mpr h)
        simp only [okK, this, false_and, decide_false]
      rw [e] at q
      exact q
end
end TT
namespace TT
open PySem PySem.Spec PyProof.Rows L2
section
variable {P : Program} {w : World} {K : PySem.W.Frag} {mg : Str → Option Value} {base : Heap}
theorem ok_round {f : Addr} {fd : FuncData} {k : Nat} (F : Fun K "is_round" "is_round" s_is_round f fd) (B : Blt mg) (G : Cst mg) : FnOk P w K mg base CX0 (k + 1) f fd ["step"] spRound := by
  refine F.ok sc_is_round (fun vs H Q E h => ?_) (fun cdv A outer s H vs Q E hr h => ?_)
  · obtain ⟨a, b, c, rfl, _⟩ := h
    rfl
  · obtain ⟨a, b, c, rfl, hS, c0, c1, q⟩ := h
    refine ⟨_, (pss_one (ps_ret (pe_and (pe_cmpR op_eq (pe_callB call_len_seq (by rfl) B.xlen PySem.boot_len (pa_cons (pv 0) pa_nil)) pe_int (nomark _)) (pe_and (pe_cmpR op_eq (pe_ix ix_tup (pv 0) pe_int (fun _ _ => rfl)) pe_str (nomark _)) (pe_one (pe_chain op_le op_le pe_int (pe_ix ix_tup (pv 0) pe_int (fun _ _ => rfl)) (pg_COUNT_LIMIT G (by rfl)))))))), ?_⟩
    refine ⟨.ref a, rfl, a, _, rfl, .inr (SqT.of hS), rfl, _, rfl, iteTd rfl ?_⟩
    refine rd_ixT 0 rfl (SqT.of hS) rfl ⟨rfl, _, rfl, iteTd (by decide +kernel) ?_⟩
    refine rd_ixT 1 rfl (SqT.of hS) rfl ⟨_, _, rfl, rfl, _, rfl, iteTd (decide_eq_true c0) ⟨_, _, rfl, rfl, ?_⟩⟩
    show Q (.bl (decide (c ≤ 1000000000000000000000000000000))) H
    rw [decide_eq_true c1]
    exact q
end
end TT
namespace TT
open PySem PySem.Spec PyProof.Rows L2
section
variable {P : Program} {w : World} {K : PySem.W.Frag} {mg : Str → Option Value} {base : Heap}
theorem ok_check1 {f : Addr} {fd : FuncData} {n k : Nat} (F : Fun K "check_steps" "check_steps" s_check_steps f fd) (B : Blt mg) (G : Cst mg) (c_is_key : Cal P w K mg base CX0 "is_key" ["number"] k spIsKey) (c_is_round : Cal P w K mg base CX0 "is_round" ["step"] k spRound) (c_check_steps : Cal P w K mg base CX0 "check_steps" ["steps", "start", "depth"] (n + k) (spPrevC K n)) : FnOk P w K mg base CX0 (n + k + 1) f fd ["steps", "start", "depth"] (spCheck K n) := by
  refine F.ok sc_check_steps (fun vs H Q E h => ?_) (fun cdv A outer s H vs Q E hr h => ?_)
  · obtain ⟨b, vs, ss, pos, dep, rfl, _⟩ := h
    rfl
  · obtain ⟨b, vs, ss, pos, dep, rfl, hS, hL, ho, hd, hn, p0, p1, q⟩ := h
    refine ⟨_, (pss_cons (ps_set (i := 3) sc_check_steps.nd rfl (Or.inl rfl) (pv 1))
  (pss_cons (ps_for PassesOwn.never rfl (pi_sq (pv 0)) (pg_name (i := 4) sc_check_steps.nd rfl (Or.inl rfl))
    (pss_cons (ps_if (pt_cmpR op_ge (pv 3) (pg_MAX_STEPS G (by rfl)) (nomark _))
    (pss_one ps_never)
    pss_nil)
  (pss_one (ps_if (pt_not (pt_val (pe_callB call_isi (by rfl) B.xisinstance (by decide +kernel) (pa_cons (pv 4) (pa_cons (pe_bltn (v := .ty "tuple") (by rfl) B.xtuple (by decide +kernel) rfl) pa_nil)))))
    (pss_cons (ps_if (pt_not (pt_val (pe_cal c_is_key (hr.mono (by omega)) (by rfl) (pa_cons (pv 4) pa_nil))))
    (pss_one ps_never)
    pss_nil)
  (pss_one (ps_aug (i := 3) sc_check_steps.nd rfl (Or.inl rfl) pe_int ip_add)))
    (pss_one (ps_if (PW.pt (pw_or (pt_cmpR op_gt (pv 2) (pg_MAX_NESTING G (by rfl)) (nomark _)) (pw_or1 (pt_not (pt_val (pe_cal c_is_round (hr.mono (by omega)) (by rfl) (pa_cons (pv 4) pa_nil)))))))
    (pss_one ps_never)
    (pss_one (ps_set (i := 3) sc_check_steps.nd rfl (Or.inl rfl) (pe_cal c_check_steps (hr.mono (by omega)) (by rfl) (pa_cons (pe_ix ix_tup (pv 4) pe_int (fun _ _ => rfl)) (pa_cons (pe_op op_add (pv 3) pe_int) (pa_cons (pe_op op_add (pv 2) pe_int) pa_nil))))))))))))
  (pss_one (ps_ret (pv 3))))), ?_⟩
    refine ⟨.int pos, rfl, .ref b, rfl, b, rfl, rd_sq hS fun J Gw w hG => for_it w (fun i σ H3 => ∃ y4, σ = [some (.ref b), some (.int pos), some (.int dep), some (.int (pos + wrL (ss.take i))), y4] ∧ Same H H3) ⟨none, by show _ = [_, _, _, some (V.int (pos + (0 : Nat))), _]; rw [Int.natCast_zero, Int.add_zero]; rfl, .refl _⟩ (fun i σ H3 _ ⟨_, _, e⟩ => hG H3 e) ?_ ?_⟩
    · rintro i v σ Hx H3 hi ⟨y4, rfl, e3⟩ ⟨rfl, hv⟩
      obtain ⟨s0, hs, hv⟩ := hL.get hv
      have hm := List.mem_of_getElem? hs
      have wt := wrL_take hs
      have wl := wrL_take_le ss (i + 1)
      have wp := wr_pos s0
      have os := okL_mem ho hm
      have ds := dLeL_mem hd hm
      have vS := HS.same e3 s0 hv
      refine ⟨_, rfl, _, 100, rfl, rfl, _, rfl, iteFd (decide_eq_false (by omega)) ?_⟩
      cases s0 with
      | k x =>
        have ev : v = .int x := vS
        subst ev
        refine ⟨.int x, rfl, ⟨_, _, _, _, false, rfl, .ty _, .base (.int x), kit_ty (by decide +kernel), _, rfl, iteTd rfl ?_⟩⟩
        have okx : okK x = true := decide_eq_true os
        refine ⟨.int x, rfl, x, rfl, _, rfl, iteFd (by rw [okx]; rfl) ⟨_, rfl, _, 1, rfl, rfl, some (.int x), ?_, e3⟩⟩
        rw [wt]
        show [_, _, _, some (V.int (pos + (wrL (ss.take i) : Nat) + 1)), _] = [_, _, _, some (V.int (pos + ((wrL (ss.take i) + 1 : Nat) : Int))), _]
        rw [show pos + ((wrL (ss.take i) : Nat) : Int) + 1 = pos + ((wrL (ss.take i) + 1 : Nat) : Int) by omega]
      | r c inner =>
        obtain ⟨sa, ib, ws, rfl, hsa, hib, hLi⟩ := vS
        refine ⟨.ref sa, rfl, ⟨_, _, _, _, true, rfl, .ty _, .base (.tup hsa), kit_ty (by decide +kernel), _, rfl, iteFd rfl ?_⟩⟩
        cases n with
        | zero => exact ds.elim
        | succ m =>
          have wi : (S.r c inner).wr = 1 + wrL inner := rfl
          rw [wi] at wt wp
          refine ⟨_, rfl, _, 4, rfl, rfl, _, rfl, iteFd (decide_eq_false (by omega)) ⟨.ref sa, rfl, sa, ib, c, rfl, hsa, os.1, os.2.1, _, rfl, iteFd rfl ?_⟩⟩
          refine rd_ixT 2 rfl (SqT.of hsa) rfl ⟨_, rfl, _, 1, rfl, rfl, _, rfl, _, 1, rfl, rfl, ib, ws, inner, _, _, rfl, hib.elim (fun h => .inl (SqL.of h)) (fun h => .inr (SqT.of h)), hLi, os.2.2, ds, by omega, by omega, by omega, fun H4 e4 => ⟨some (.ref sa), ?_, e3.trans e4⟩⟩
          rw [wt]
          show [_, _, _, some (V.int (pos + (wrL (ss.take i) : Nat) + 1 + (wrL inner : Nat))), _] = [_, _, _, some (V.int (pos + ((wrL (ss.take i) + (1 + wrL inner) : Nat) : Int))), _]
          rw [show pos + ((wrL (ss.take i) : Nat) : Int) + 1 + ((wrL inner : Nat) : Int) = pos + ((wrL (ss.take i) + (1 + wrL inner) : Nat) : Int) by omega]
    · rintro σ H3 ⟨y4, rfl, e3⟩
      have := q H3 e3
      rw [hL.len, List.take_length]
      exact ⟨_, rfl, this⟩
theorem ok_check {f : Addr} {fd : FuncData} {k : Nat} (F : Fun K "check_steps" "check_steps" s_check_steps f fd) (B : Blt mg) (G : Cst mg) (c_is_key : Cal P w K mg base CX0 "is_key" ["number"] k spIsKey) (c_is_round : Cal P w K mg base CX0 "is_round" ["step"] k spRound) (gf : mg "check_steps" = some (.ref f)) (bf : Binds K fd ["steps", "start", "depth"] []) : ∀ n, FnOk P w K mg base CX0 (n + k) f fd ["steps", "start", "depth"] (spPrevC K n)
  | 0 => ⟨fun _ _ _ _ h => h.elim, fun _ _ _ _ _ _ _ _ _ _ _ _ _ h => h.elim⟩
  | n + 1 => by
    have h := ok_check1 F B G c_is_key c_is_round ⟨f, fd, ok_check F B G c_is_key c_is_round gf bf n, gf, F.kp, bf⟩
    rw [show n + 1 + k = n + k + 1 by omega]
    exact h
end
end TT
namespace TT
open PySem PySem.Spec PyProof.Rows L2
section
variable {P : Program} {w : World} {K : PySem.W.Frag} {mg : Str → Option Value} {base : Heap}
theorem ok_checkH {f : Addr} {fd : FuncData} {k : Nat} (F : Fun K "check_history" "check_history" s_check_history f fd) (c_check_steps : Cal P w K mg base CX0 "check_steps" ["steps", "start", "depth"] k (spCheck K 4)) : FnOk P w K mg base CX0 (k + 1) f fd ["history"] (spCheckH K) := by
  refine F.ok sc_check_history (fun vs H Q E h => ?_) (fun cdv A outer s H vs Q E hr h => ?_)
  · obtain ⟨b, vs, ss, rfl, _⟩ := h
    rfl
  · obtain ⟨b, vs, ss, rfl, hS, hL, ho, hd, hw, q⟩ := h
    refine ⟨_, (pss_one (ps_expr (pe_cal c_check_steps (hr.mono (by omega)) (by rfl) (pa_cons (pv 0) (pa_cons pe_int (pa_cons pe_int pa_nil)))))), ?_⟩
    exact ⟨.ref b, rfl, b, vs, ss, 0, 1, rfl, hS, hL, ho, hd, by decide, by decide, by omega, fun H' e => q H' e⟩
end
end TT
namespace TT
open PySem PySem.Spec PyProof.Rows L2
section
variable {P : Program} {w : World} {K : PySem.W.Frag} {mg : Str → Option Value} {base : Heap}
theorem ok_parseI {f : Addr} {fd : FuncData} {k : Nat} (F : Fun K "parse_integer" "parse_integer" s_parse_integer f fd) (B : Blt mg) (G : Cst mg) : FnOk P w K mg base CX0 (k + 1) f fd ["text"] spParseI := by
  refine F.ok sc_parse_integer (fun vs H Q E h => ?_) (fun cdv A outer s H vs Q E hr h => ?_)
  · obtain ⟨i, rfl, _⟩ := h
    rfl
  · obtain ⟨i, rfl, hi, q⟩ := h
    have hi : i.natAbs < 10 ^ 31 := hi
    refine ⟨_, (pss_cons (ps_set (i := 1) sc_parse_integer.nd rfl (Or.inl rfl) (pe_m1 PySem.F.slot_str_removeprefix PySem.F.type_str_removeprefix mt_removeprefix (pv 0) pe_str))
  (pss_cons (ps_if (PW.pt (pw_or (pt_not (pt_val (pe_m0 PySem.F.slot_str_isascii PySem.F.type_str_isascii mt_isascii (pv 1)))) (pw_or (pt_not (pt_val (pe_m0 PySem.F.slot_str_isdigit PySem.F.type_str_isdigit mt_isdigit (pv 1)))) (pw_or1 (pt_cmpR op_gt (pe_callB call_len_str (by rfl) B.xlen PySem.boot_len (pa_cons (pv 1) pa_nil)) (pg_MAX_DIGITS G (by rfl)) (nomark _))))))
    (pss_one ps_never)
    pss_nil)
  (pss_cons (ps_if (PW.pt (pw_and (pt_cmpR op_eq (pe_ix ix_str (pv 1) pe_int (fun _ _ => rfl)) pe_str (nomark _)) (pw_and1 (pt_cmpR op_ne (pv 0) pe_str (nomark _)))))
    (pss_one ps_never)
    pss_nil)
  (pss_one (ps_ret (pe_callTy call_int_str (by rfl) B.xint (by decide +kernel) (pa_cons (pv 0) pa_nil))))))), ?_⟩
    have l32 := dg_len hi
    have l31 : (dgN i.natAbs).length ≤ 31 := dgN_len hi
    have sl : (SX.S (dg i)).length ≤ sizeLine := by rw [SX.S_len]; exact sz (by omega)
    have sn : (SX.S (dgN i.natAbs)).length ≤ sizeLine := by rw [SX.S_len]; exact sz (by omega)
    refine ⟨.str (SX.S (dg i)), rfl, ⟨_, rfl⟩, SX.S (dg i), "-", rfl, rfl, sl, ?_⟩
    rw [rp_dg]
    refine ⟨.str _, rfl, ⟨_, rfl⟩, _, rfl, rfl, trivial, _, rfl, iteFd (by rw [digs_ascii]; rfl) ⟨.str _, rfl, ⟨_, rfl⟩, _, rfl, rfl, trivial, _, rfl, iteFd (by rw [digs_digit]; rfl) ⟨.str _, rfl, _, rfl, sn, _, _, rfl, rfl, _, rfl, iteFd (decide_eq_false (by rw [SX.S_len]; omega)) ?_⟩⟩⟩
    have fin : tRet (tCB (fun xs H Q => ∃ a n, xs = [V.str a] ∧ intText? a = some n ∧ a.length ≤ 640 ∧ Q (V.int n) H) (tCons (tVar 0) tNil)) { nx := fun x H' => Q V.non H', rt := Q } [some (.str (SX.S (dg i))), some (.str (SX.S (dgN i.natAbs)))] H := ⟨.str _, rfl, SX.S (dg i), i, rfl, int_dg hi, by rw [SX.S_len]; omega, q⟩
    cases hd : dgN i.natAbs with
    | nil => exact absurd hd (dgN_ne _)
    | cons c r =>
      refine ⟨.str _, rfl, _, 0, c, rfl, rfl, by rw [← hd]; exact sn, at_T (p := 0) rfl, rfl, _, rfl, ?_⟩
      rw [← hd]
      by_cases z : i.natAbs = 0
      · have iz : i = 0 := by omega
        subst iz
        have hc : c = 48 := by
          rw [show (0 : Int).natAbs = 0 from rfl, dgN0] at hd
          cases hd; rfl
        subst hc
        exact iteTd (by decide +kernel) ⟨.str _, rfl, rfl, _, rfl, iteFd (by rw [dg0]; decide +kernel) fin⟩
      · exact iteFd (decide_eq_false (str_1 (dgN_head hd z))) (iteFd rfl fin)
end
end TT
namespace TT
open PySem PySem.Spec PyProof.Rows L2
section
variable {P : Program} {w : World} {K : PySem.W.Frag} {mg : Str → Option Value} {base : Heap}
theorem ok_stepTx {f : Addr} {fd : FuncData} {n k : Nat} (F : Fun K "step_text" "step_text" s_step_text f fd) (B : Blt mg) (c_steps_text : Cal P w K mg base CX0 "steps_text" ["steps"] k (spPrevTx K n)) : FnOk P w K mg base CX0 (k + 1) f fd ["step"] (spStepText n) := by
  refine F.ok sc_step_text (fun vs H Q E h => ?_) (fun cdv A outer s H vs Q E hr h => ?_)
  · obtain ⟨v, st, rfl, _⟩ := h
    rfl
  · obtain ⟨v, st, rfl, hS, ho, hd, hl, q⟩ := h
    refine ⟨_, (pss_cons (ps_if (pt_val (pe_callB call_isi (by rfl) B.xisinstance (by decide +kernel) (pa_cons (pv 0) (pa_cons (pe_bltn (v := .ty "tuple") (by rfl) B.xtuple (by decide +kernel) rfl) pa_nil))))
    (pss_one (ps_ret (pe_joined (.cons (pe_fmt (pe_ix ix_tup (pv 0) pe_int (fun _ _ => rfl))) (.cons pe_str (.cons (pe_fmt (pe_cal c_steps_text (hr.mono (by omega)) (by rfl) (pa_cons (pe_ix ix_tup (pv 0) pe_int (fun _ _ => rfl)) pa_nil))) (.cons pe_str .nil)))))))
    pss_nil)
  (pss_one (ps_ret (pe_callTy call_str_int (by rfl) B.xstr (by decide +kernel) (pa_cons (pv 0) pa_nil))))), ?_⟩
    cases st with
    | k x =>
      have ev : v = .int x := hS
      subst ev
      refine ⟨.int x, rfl, ⟨_, _, _, _, false, rfl, .ty _, .base (.int x), kit_ty (by decide +kernel), _, rfl, iteFd rfl ?_⟩⟩
      refine ⟨.int x, rfl, x, rfl, log_small (by have := ho.1; have := ho.2; omega), ?_⟩
      rw [dg_text]
      exact q H (.refl _)
    | r c ss =>
      obtain ⟨a, b, us, rfl, h1, h2, h3⟩ := hS
      refine ⟨.ref a, rfl, ⟨_, _, _, _, true, rfl, .ty _, .base (.tup h1), kit_ty (by decide +kernel), _, rfl, iteTd rfl ?_⟩⟩
      cases n with
      | zero => exact hd.elim
      | succ m =>
        have p31 : c.natAbs < 10 ^ 31 := by
          have e : (10 : Nat) ^ 31 = 10000000000000000000000000000000 := by decide
          have := ho.1
          have := ho.2.1
          omega
        have ltx : (S.r c ss).tx.length = (dg c).length + (2 + ((txT ss).length + 1)) := by
          show (dg c ++ ([42, 40] ++ (txT ss ++ [41]))).length = _
          simp; omega
        have A1 : Str.empty ++ Str.ofString (toString c) = SX.S (dg c) := by rw [dg_text]; exact SX.S_cat [] _
        have A2 : SX.S (dg c) ++ (Str.ofString "*(") = SX.S (dg c ++ [42, 40]) := SX.S_cat _ [42, 40]
        have A3 : SX.S (dg c ++ [42, 40]) ++ SX.S (txT ss) = SX.S (dg c ++ [42, 40] ++ txT ss) := SX.S_cat _ _
        have A4 : SX.S (dg c ++ [42, 40] ++ txT ss) ++ (Str.ofString ")") = SX.S (S.r c ss).tx := by
          have := SX.S_cat (dg c ++ [42, 40] ++ txT ss) [41]
          rw [show dg c ++ [42, 40] ++ txT ss ++ [41] = (S.r c ss).tx by show _ = dg c ++ ([42, 40] ++ (txT ss ++ [41])); simp] at this
          exact this
        refine rd_ixT 1 rfl (SqT.of h1) rfl (.inr ⟨c, rfl, ?_, _, rfl, by rw [A1, SX.S_len]; exact sz (by omega), ?_⟩)
        · refine log_small ?_
          have e : (10 : Nat) ^ 31 ≤ 2 ^ 104 := by decide
          have e2 : (2 : Nat) ^ 104 = 20282409603651670423947251286016 := by decide
          have e3 : (2 : Nat) ^ 100 = 1267650600228229401496703205376 := by decide
          have := ho.1
          have := ho.2.1
          omega
        rw [A1]
        refine ⟨_, rfl, by rw [A2, SX.S_len, List.length_append]; exact sz (by show (dg c).length + 2 ≤ 100000; omega), ?_⟩
        rw [A2]
        refine rd_ixT 2 rfl (SqT.of h1) rfl ⟨b, us, ss, rfl, h2.elim (fun h => .inl (SqL.of h)) (fun h => .inr (SqT.of h)), h3, ho.2.2, hd, by omega, fun H1 e1 => .inl ⟨_, rfl, by rw [SX.S_len]; exact sz (by omega), _, rfl, ?_, ?_⟩⟩
        · rw [A3, SX.S_len, List.length_append, List.length_append]; exact sz (by show (dg c).length + 2 + _ ≤ 100000; omega)
        rw [A3]
        refine ⟨_, rfl, ?_, ?_⟩
        · rw [A4, SX.S_len]; exact sz (by omega)
        rw [A4]
        exact q H1 e1
end
end TT
namespace TT
open PySem PySem.Spec PyProof.Rows L2
section
variable {P : Program} {w : World} {K : PySem.W.Frag} {mg : Str → Option Value} {base : Heap}
theorem ok_stepsTx {f : Addr} {fd : FuncData} {n k : Nat} (F : Fun K "steps_text" "steps_text" s_steps_text f fd) (B : Blt mg) (c_step_text : Cal P w K mg base CX0 "step_text" ["step"] k (spStepText n)) : FnOk P w K mg base CX0 (k + 1) f fd ["steps"] (spStepsText K n) := by
  refine F.ok sc_steps_text (fun vs H Q E h => ?_) (fun cdv A outer s H vs Q E hr h => ?_)
  · obtain ⟨b, vs, ss, rfl, _⟩ := h
    rfl
  · obtain ⟨b, vs, ss, rfl, hS, hL, ho, hd, hl, q⟩ := h
    refine ⟨_, (pss_one (ps_ret (pe_join pe_str (pe_lc (own := [("step", 1)]) (g := gName 1) (by rfl) sc_steps_text.nd (pi_sq (pv 0)) (blkOk_by (own := [("step", 1)]) (N := ["steps", "step"]) (sc := defScope s_steps_text) (by decide +kernel)) (fun _ _ _ _ _ => (pg_name (i := 1) sc_steps_text.nd rfl (Or.inl rfl))) (fun _ _ _ _ _ => pts_nil) (fun _ _ _ _ _ => (pe_cal c_step_text (hr.mono (by omega)) (by rfl) (pa_cons (pv 1) pa_nil))))))), ?_⟩
    have ts := txT_sum ss
    have lss : ss.length ≤ 60001 := by omega
    refine ⟨⟨_, rfl⟩, .ref b, rfl, b, rfl, rd_sq hS fun J Gw w hG D nD => lc_it w (fun i H3 => Same H H3 ∧ H3 D = some (.lst ((((ss.take i).map fun s => SX.S s.tx)).map V.str))) ⟨same_new nD, upd_same⟩ (fun i H3 _ h => hG H3 h.1) ?_ ?_⟩
    · rintro i v Hx H3 hi3 ⟨e3, hD3⟩ ⟨rfl, hv⟩
      obtain ⟨s0, hs, hv⟩ := hL.get hv
      have hm := List.mem_of_getElem? hs
      have vS := HS.same e3 s0 hv
      have lt : ss.take (i + 1) = ss.take i ++ [s0] := by rw [List.take_add_one, hs]; rfl
      have := tx_in hm
      refine ⟨rfl, v, rfl, v, s0, rfl, vS, okL_mem ho hm, dLeL_mem hd hm, by omega, fun H4 e4 => ⟨_, e4 _ _ hD3, szl (by rw [List.length_map, List.length_map, List.length_take]; omega), Same.put (e3.trans e4) nD, ?_⟩⟩
      rw [upd_same, lt, List.map_append, List.map_append]; rfl
    · rintro H3 ⟨e3, hD3⟩
      rw [hL.len, List.take_length] at hD3
      refine ⟨_, D, ss.map (fun s => SX.S s.tx), rfl, rfl, .inl (SqL.of hD3), ?_, ?_⟩
      · rw [List.length_map]
        show _ + ss.length * 1 ≤ _
        omega
      · rw [join_tx]
        exact q H3 e3
theorem ok_txAll {f g : Addr} {fd gd : FuncData} {k : Nat} (F : Fun K "steps_text" "steps_text" s_steps_text f fd) (G0 : Fun K "step_text" "step_text" s_step_text g gd) (B : Blt mg) (gf : mg "steps_text" = some (.ref f)) (bf : Binds K fd ["steps"] []) (gg : mg "step_text" = some (.ref g)) (bg : Binds K gd ["step"] []) : ∀ n, FnOk P w K mg base CX0 (2 * n + k) f fd ["steps"] (spPrevTx K n)
  | 0 => ⟨fun _ _ _ _ h => h.elim, fun _ _ _ _ _ _ _ _ _ _ _ _ _ h => h.elim⟩
  | n + 1 => by
    have h := ok_stepsTx (n := n) F B ⟨g, gd, ok_stepTx (n := n) (k := 2 * n + k) G0 B ⟨f, fd, ok_txAll F G0 B gf bf gg bg n, gf, F.kp, bf⟩, gg, G0.kp, bg⟩
    rw [show 2 * (n + 1) + k = 2 * n + k + 1 + 1 by omega]
    exact h
end
end TT
namespace TT
open PySem PySem.Spec PyProof.Rows L2
section
variable {P : Program} {w : World} {K : PySem.W.Frag} {mg : Str → Option Value} {base : Heap}
theorem ok_formatH {f : Addr} {fd : FuncData} {k : Nat} (F : Fun K "format_history" "format_history" s_format_history f fd) (c_check_history : Cal P w K mg base CX0 "check_history" ["history"] k (spCheckH K)) (c_steps_text : Cal P w K mg base CX0 "steps_text" ["steps"] k (spStepsText K 4)) : FnOk P w K mg base CX0 (k + 1) f fd ["history"] (spFormatH K) := by
  refine F.ok sc_format_history (fun vs H Q E h => ?_) (fun cdv A outer s H vs Q E hr h => ?_)
  · obtain ⟨b, vs, ss, rfl, _⟩ := h
    rfl
  · obtain ⟨b, vs, ss, rfl, hS, hL, ho, hd, hw, hl, q⟩ := h
    refine ⟨_, (pss_cons (ps_expr (pe_cal c_check_history (hr.mono (by omega)) (by rfl) (pa_cons (pv 0) pa_nil)))
  (pss_one (ps_ret (pe_cal c_steps_text (hr.mono (by omega)) (by rfl) (pa_cons (pv 0) pa_nil))))), ?_⟩
    exact ⟨.ref b, rfl, b, vs, ss, rfl, hS, hL, ho, hd, hw, fun H1 e1 => ⟨.ref b, rfl, b, vs, ss, rfl, hS.same e1, HL.same e1 _ hL, ho, hd, hl, fun H2 e2 => q H2 (e1.trans e2)⟩⟩
end
end TT
namespace TT
open PySem PySem.Spec PyProof.Rows L2
section
variable {P : Program} {w : World} {K : PySem.W.Frag} {mg : Str → Option Value} {base : Heap}
theorem ok_intEnd {f : Addr} {fd : FuncData} {k : Nat} (F : Fun K "integer_end" "integer_end" s_integer_end f fd) (B : Blt mg) : FnOk P w K mg base CX0 (k + 1) f fd ["text", "start"] spIntEnd := by
  refine F.ok sc_integer_end (fun vs H Q E h => ?_) (fun cdv A outer s H vs Q E hr h => ?_)
  · obtain ⟨A, R, i, rfl, _⟩ := h
    rfl
  · obtain ⟨L, R, i, rfl, hR, hl, q⟩ := h
    refine ⟨_, (pss_cons (ps_set (i := 2) sc_integer_end.nd rfl (Or.inl rfl) (pv 1))
  (pss_cons (ps_while PassesOwn.never (PW.pt (pw_and (pt_cmpR op_lt (pv 2) (pe_callB call_len_str (by rfl) B.xlen PySem.boot_len (pa_cons (pv 0) pa_nil)) (nomark _)) (pw_and1 (pt_cmpR op_inS (pe_ix ix_str (pv 0) (pv 2) (fun _ _ => rfl)) pe_str (by rfl)))))
    (pss_one (ps_aug (i := 2) sc_integer_end.nd rfl (Or.inl rfl) pe_int ip_add)))
  (pss_one (ps_ret (pv 2))))), ?_⟩
    generalize hT : L ++ (dg i ++ R) = T0 at hl
    have sl : (SX.S T0).length ≤ sizeLine := by rw [SX.S_len]; exact sz (by omega)
    have lT : T0.length = L.length + ((dg i).length + R.length) := by rw [← hT, List.length_append, List.length_append]
    have gT : ∀ j, T0[L.length + j]? = (dg i ++ R)[j]? := fun j => by rw [← hT, List.getElem?_append_right (by omega), Nat.add_sub_cancel_left]
    let W : Nat → L2.St → Hp → Prop := fun m σ H3 => ∃ j : Nat, σ = [some (.str (SX.S T0)), some (.int (L.length : Nat)), some (.int ((L.length + j : Nat) : Int))] ∧ H = H3 ∧ j ≤ (dg i).length ∧ m = (dg i).length - j
    refine ⟨.int (L.length : Nat), rfl, W, ⟨_, 0, rfl, rfl, by omega, rfl⟩, ?_⟩
    rintro m σ H3 ⟨j, rfl, rfl, hj, rfl⟩
    have ret : j = (dg i).length → tRet (tVar 2) { nx := fun x H' => Q V.non H', rt := Q } [some (.str (SX.S T0)), some (.int (L.length : Nat)), some (.int ((L.length + j : Nat) : Int))] H := fun e => ⟨_, rfl, by rw [e]; exact q⟩
    refine ⟨.int _, rfl, .str _, rfl, _, rfl, sl, _, _, rfl, rfl, _, rfl, ?_⟩
    rw [SX.S_len]
    by_cases hlt : j < (dg i).length
    · obtain ⟨c, hc⟩ : ∃ c, (dg i)[j]? = some c := ⟨_, List.getElem?_eq_getElem hlt⟩
      have hd := dg_dc i c (List.mem_of_getElem? hc)
      refine iteTd (decide_eq_true (by rw [lT]; omega)) ⟨.str _, rfl, .int _, rfl, _, _, c, rfl, rfl, sl, at_T (by rw [gT, List.getElem?_append_left hlt]; exact hc), c, _, rfl, rfl, _, rfl, iteTd (decide_eq_true ((dc_mem c).mpr hd)) ⟨fun σ' H' => ∃ m', m' < (dg i).length - j ∧ W m' σ' H', fun _ _ h => h, ?_⟩⟩
      refine ⟨_, rfl, _, 1, rfl, rfl, (dg i).length - (j + 1), by omega, j + 1, rfl, rfl, by omega, rfl⟩
    · have e : j = (dg i).length := by omega
      cases R with
      | nil => exact iteFd (decide_eq_false (by rw [lT, e]; show ¬ (_ : Int) < _; simp)) (iteFd rfl (ret e))
      | cons c r =>
        refine iteTd (decide_eq_true (by rw [lT, e, List.length_cons]; omega)) ⟨.str _, rfl, .int _, rfl, _, _, c, rfl, rfl, sl, at_T (by rw [gT, e, List.getElem?_append_right (Nat.le_refl _), Nat.sub_self]; rfl), c, _, rfl, rfl, _, rfl, iteFd (decide_eq_false (fun z => hR c r rfl ((dc_mem c).mp z))) (ret e)⟩
end
end TT
namespace TT
open PySem PySem.Spec PyProof.Rows L2
section
variable {P : Program} {w : World} {K : PySem.W.Frag} {mg : Str → Option Value} {base : Heap}
theorem ok_rdStep {f : Addr} {fd : FuncData} {n k : Nat} (F : Fun K "read_step" "read_step" s_read_step f fd) (B : Blt mg) (G : Cst mg) (c_integer_end : Cal P w K mg base CX0 "integer_end" ["text", "start"] k spIntEnd) (c_parse_integer : Cal P w K mg base CX0 "parse_integer" ["text"] k spParseI) (c_read_steps : Cal P w K mg base CX0 "read_steps" ["text", "start", "depth"] k (spPrevRs n)) : FnOk P w K mg base CX0 (k + 1) f fd ["text", "start", "depth"] (spRdStep n) := by
  refine F.ok sc_read_step (fun vs H Q E h => ?_) (fun cdv A outer s H vs Q E hr h => ?_)
  · obtain ⟨L, R, st, dep, rfl, _⟩ := h
    rfl
  · obtain ⟨L, R, st, dep, rfl, ho, hd, hn, hR, hl, q⟩ := h
    refine ⟨_, (pss_cons (ps_set (i := 3) sc_read_step.nd rfl (Or.inl rfl) (pe_cal c_integer_end (hr.mono (by omega)) (by rfl) (pa_cons (pv 0) (pa_cons (pv 1) pa_nil))))
  (pss_cons (ps_set (i := 4) sc_read_step.nd rfl (Or.inl rfl) (pe_cal c_parse_integer (hr.mono (by omega)) (by rfl) (pa_cons (pe_slice sl_str (pv 0) (po_some (pv 1)) (po_some (pv 3))) pa_nil)))
  (pss_cons (ps_if (pt_not (pt_val (pe_bm PySem.F.plainAttrs_str PySem.F.slot_str_startswith PySem.F.type_str_startswith mt_startswith3 (pv 0) (pa_cons pe_str (pa_cons (pv 3) pa_nil)))))
    (pss_one (ps_ret (pe_tup (pa_cons (pv 4) (pa_cons (pv 3) pa_nil)))))
    pss_nil)
  (pss_cons (ps_if (pt_cmpR op_gt (pv 2) (pg_MAX_NESTING G (by rfl)) (nomark _))
    (pss_one ps_never)
    pss_nil)
  (pss_cons (ps_asg (pe_cal c_read_steps (hr.mono (by omega)) (by rfl) (pa_cons (pv 0) (pa_cons (pe_op op_add (pv 3) pe_int) (pa_cons (pe_op op_add (pv 2) pe_int) pa_nil)))) (pg_tup rfl (pgs_cons (pg_name (i := 5) sc_read_step.nd rfl (Or.inl rfl)) (pgs_cons (pg_name (i := 3) sc_read_step.nd rfl (Or.inl rfl)) pgs_nil))))
  (pss_cons (ps_if (pt_cmpR op_eq (pv 3) (pe_callB call_len_str (by rfl) B.xlen PySem.boot_len (pa_cons (pv 0) pa_nil)) (nomark _))
    (pss_one ps_never)
    pss_nil)
  (pss_one (ps_ret (pe_tup (pa_cons (pe_tup (pa_cons pe_str (pa_cons (pv 4) (pa_cons (pv 5) pa_nil)))) (pa_cons (pe_op op_add (pv 3) pe_int) pa_nil))))))))))), ?_⟩
    cases st with
    | k i =>
      have hl : (L ++ (dg i ++ R)).length ≤ 10000 := hl
      have sl : (SX.S (L ++ (dg i ++ R))).length ≤ sizeLine := by rw [SX.S_len]; exact sz (by omega)
      have p31 : i.natAbs < 10 ^ 31 := by
        have e : (10 : Nat) ^ 31 = 10000000000000000000000000000000 := by decide
        have := ho.1
        have := ho.2
        omega
      refine ⟨.str _, rfl, .int _, rfl, L, R, i, rfl, hR.no, hl, ?_⟩
      refine ⟨.str _, rfl, .int _, rfl, _, rfl, .int _, rfl, _, rfl, SX.S (L ++ (dg i ++ R)), rfl, sl, i, ?_, p31, ?_⟩
      · show [V.str (cutS (SX.S (L ++ (dg i ++ R))) (some (L.length : Nat)) (some ((L.length + (dg i).length : Nat) : Int)))] = _
        rw [cut_S]
      refine ⟨.str _, rfl, rfl, .int _, rfl, _, _, _, rfl, rfl, _, rfl, iteTd ?_ ?_⟩
      · show (!Txt.startswith3 (SX.S (L ++ (dg i ++ R))) (SX.S [42, 40]) ((L.length + (dg i).length : Nat) : Int)) = true
        have := sw_S (L ++ dg i) R
        rw [List.length_append, List.append_assoc] at this
        rw [this, decide_eq_false]; rfl
        intro z
        rcases hR with h | ⟨r, h | h⟩ <;> rw [h] at z <;> simp at z
      · exact ⟨.int i, rfl, .int _, rfl, sz (by show 2 ≤ 100000; decide), fun p np => q p (.int i) _ (same_new np) upd_same rfl⟩
    | r c ss =>
      cases n with
      | zero => exact hd.elim
      | succ m =>
        have hT : L ++ ((S.r c ss).tx ++ R) = L ++ (dg c ++ ([42, 40] ++ (txT ss ++ (41 :: R)))) := by
          show L ++ ((dg c ++ ([42, 40] ++ (txT ss ++ [41]))) ++ R) = _
          simp
        have ltx : (S.r c ss).tx.length = (dg c).length + (2 + ((txT ss).length + 1)) := by
          show (dg c ++ ([42, 40] ++ (txT ss ++ [41]))).length = _
          simp; omega
        have p31 : c.natAbs < 10 ^ 31 := by
          have e : (10 : Nat) ^ 31 = 10000000000000000000000000000000 := by decide
          have := ho.1
          have := ho.2.1
          omega
        rw [hT] at hl ⊢
        have sl : (SX.S (L ++ (dg c ++ ([42, 40] ++ (txT ss ++ (41 :: R)))))).length ≤ sizeLine := by rw [SX.S_len]; exact sz (by omega)
        refine ⟨.str _, rfl, .int _, rfl, L, [42, 40] ++ (txT ss ++ (41 :: R)), c, rfl, fun x r e z => by cases e; unfold isDc at z; omega, hl, ?_⟩
        refine ⟨.str _, rfl, .int _, rfl, _, rfl, .int _, rfl, _, rfl, SX.S (L ++ (dg c ++ ([42, 40] ++ (txT ss ++ (41 :: R))))), rfl, sl, c, ?_, p31, ?_⟩
        · show [V.str (cutS (SX.S (L ++ (dg c ++ ([42, 40] ++ (txT ss ++ (41 :: R)))))) (some (L.length : Nat)) (some ((L.length + (dg c).length : Nat) : Int)))] = _
          rw [cut_S]
        refine ⟨.str _, rfl, rfl, .int _, rfl, _, _, _, rfl, rfl, _, rfl, iteFd ?_ ?_⟩
        · show (!Txt.startswith3 (SX.S (L ++ (dg c ++ ([42, 40] ++ (txT ss ++ (41 :: R)))))) (SX.S [42, 40]) ((L.length + (dg c).length : Nat) : Int)) = false
          have := sw_S (L ++ dg c) ([42, 40] ++ (txT ss ++ (41 :: R)))
          rw [List.length_append, List.append_assoc] at this
          rw [this, decide_eq_true (by rfl)]; rfl
        refine ⟨.int _, rfl, _, _, rfl, rfl, _, rfl, iteFd (decide_eq_false (by omega)) ?_⟩
        refine ⟨.str _, rfl, .int _, rfl, _, 2, rfl, rfl, .int _, rfl, _, 1, rfl, rfl, L ++ (dg c ++ [42, 40]), 41 :: R, ss, dep + 1, ?_, ho.2.2, hd, by omega, .inr ⟨R, rfl⟩, ?_, fun p q' vs H1 e1 hp hq hL => ?_⟩
        · have e1 : L ++ (dg c ++ [42, 40]) ++ (txT ss ++ 41 :: R) = L ++ (dg c ++ ([42, 40] ++ (txT ss ++ (41 :: R)))) := by simp
          have e2 : (L ++ (dg c ++ [42, 40])).length = L.length + (dg c).length + 2 := by simp; omega
          rw [e1, e2]; rfl
        · have e1 : L ++ (dg c ++ [42, 40]) ++ (txT ss ++ 41 :: R) = L ++ (dg c ++ ([42, 40] ++ (txT ss ++ (41 :: R)))) := by simp
          rw [e1]; exact hl
        have e2 : (L ++ (dg c ++ [42, 40])).length = L.length + (dg c).length + 2 := by simp; omega
        rw [e2] at hp
        refine ⟨p, _, rfl, SqT.of hp, rfl, .ref q', _, rfl, _, _, rfl, rfl, ?_⟩
        refine ⟨.int _, rfl, .str _, rfl, _, rfl, sl, rfl, _, rfl, iteFd (decide_eq_false fun z => ?_) ?_⟩
        · have z := V.int.inj z
          rw [SX.S_len] at z
          have : (L ++ (dg c ++ ([42, 40] ++ (txT ss ++ (41 :: R))))).length = L.length + (dg c).length + 2 + (txT ss).length + 1 + R.length := by simp; omega
          omega
        refine ⟨.int c, rfl, .ref q', rfl, sz (by show 3 ≤ 100000; decide), fun t nt => ⟨.int _, rfl, _, 1, rfl, rfl, sz (by show 2 ≤ 100000; decide), fun pp npp => ?_⟩⟩
        have g1 := same_new (o := .tup [.str "repeat", .int c, .ref q']) nt
        have g2 := same_new (o := .tup [.ref t, .int (((L.length + (dg c).length + 2 + (txT ss).length : Nat) : Int) + 1)]) npp
        have gg := g1.trans g2
        refine q pp (.ref t) _ (e1.trans gg) ?_ ⟨t, q', vs, rfl, g2 _ _ upd_same, gg _ _ hq, HPL.same gg ss hL⟩
        rw [ltx, upd_same]
        show some (HO.tup [V.ref t, V.int (((L.length + (dg c).length + 2 + (txT ss).length : Nat) : Int) + 1)]) = _
        rw [show (((L.length + (dg c).length + 2 + (txT ss).length : Nat) : Int) + 1) = ((L.length + ((dg c).length + (2 + ((txT ss).length + 1))) : Nat) : Int) by omega]
end
end TT
namespace TT
open PySem PySem.Spec PyProof.Rows L2
section
variable {P : Program} {w : World} {K : PySem.W.Frag} {mg : Str → Option Value} {base : Heap}
theorem ok_rdSteps {f : Addr} {fd : FuncData} {n k : Nat} (F : Fun K "read_steps" "read_steps" s_read_steps f fd) (B : Blt mg) (c_read_step : Cal P w K mg base CX0 "read_step" ["text", "start", "depth"] k (spRdStep n)) : FnOk P w K mg base CX0 (k + 1) f fd ["text", "start", "depth"] (spRdSteps n) := by
  refine F.ok sc_read_steps (fun vs H Q E h => ?_) (fun cdv A outer s H vs Q E hr h => ?_)
  · obtain ⟨L, R, ss, dep, rfl, _⟩ := h
    rfl
  · obtain ⟨L, R, ss, dep, rfl, ho, hd, hn, hR, hl, q⟩ := h
    refine ⟨_, (pss_cons (ps_set (i := 3) sc_read_steps.nd rfl (Or.inl rfl) (pe_lst pa_nil))
  (pss_cons (ps_set (i := 4) sc_read_steps.nd rfl (Or.inl rfl) (pv 1))
  (pss_cons (ps_while PassesOwn.never (PW.pt (pw_and (pt_cmpR op_lt (pv 4) (pe_callB call_len_str (by rfl) B.xlen PySem.boot_len (pa_cons (pv 0) pa_nil)) (nomark _)) (pw_and1 (pt_cmpR op_ne (pe_ix ix_str (pv 0) (pv 4) (fun _ _ => rfl)) pe_str (nomark _)))))
    (pss_cons (ps_if (pt_truth (pv 3) (fun _ => rfl))
    (pss_cons (ps_if (pt_cmpR op_ne (pe_ix ix_str (pv 0) (pv 4) (fun _ _ => rfl)) pe_str (nomark _))
    (pss_one ps_never)
    pss_nil)
  (pss_one (ps_aug (i := 4) sc_read_steps.nd rfl (Or.inl rfl) pe_int ip_add)))
    pss_nil)
  (pss_cons (ps_asg (pe_cal c_read_step (hr.mono (by omega)) (by rfl) (pa_cons (pv 0) (pa_cons (pv 4) (pa_cons (pv 2) pa_nil)))) (pg_tup rfl (pgs_cons (pg_name (i := 5) sc_read_steps.nd rfl (Or.inl rfl)) (pgs_cons (pg_name (i := 4) sc_read_steps.nd rfl (Or.inl rfl)) pgs_nil))))
  (pss_one (ps_expr (pe_bm PySem.F.plainAttrs_list PySem.F.slot_list_append PySem.F.type_list_append mt_append (pv 3) (pa_cons (pv 5) pa_nil)))))))
  (pss_one (ps_ret (pe_tup (pa_cons (pe_callTy call_tuple_of (by rfl) B.xtuple (by decide +kernel) (pa_cons (pv 3) pa_nil)) (pa_cons (pv 4) pa_nil)))))))), ?_⟩
    generalize hT : L ++ (txT ss ++ R) = T0 at hl
    have sl : (SX.S T0).length ≤ sizeLine := by rw [SX.S_len]; exact sz (by omega)
    have eT : ∀ i, T0 = (L ++ txT (ss.take i)) ++ (txFrom i (ss.drop i) ++ R) := fun i => by rw [← hT, txT_split ss i]; simp
    let W : Nat → L2.St → Hp → Prop := fun m σ H3 => ∃ (i : Nat) (l : Addr) (vs : List V) (y5 : Option V), σ = [some (.str (SX.S T0)), some (.int (L.length : Nat)), some (.int (dep : Nat)), some (.ref l), some (.int (((L ++ txT (ss.take i)).length : Nat) : Int)), y5] ∧ Same H H3 ∧ H l = none ∧ H3 l = some (.lst vs) ∧ HPL H3 (ss.take i) vs ∧ i ≤ ss.length ∧ m = ss.length - i
    refine ⟨Nat.zero_le _, fun l nl => ⟨.int _, rfl, W, ⟨_, 0, l, [], none, ?_, same_new nl, nl, upd_same, rfl, by omega, rfl⟩, ?_⟩⟩
    · show [_, _, _, _, some (V.int (L.length : Nat)), _] = [_, _, _, _, some (V.int (((L ++ []).length : Nat) : Int)), _]
      rw [List.append_nil]
    rintro m σ H3 ⟨i, l, vs, y5, rfl, e3, nl', hl3, hP, hi, rfl⟩
    have lv : vs.length = i := by rw [hP.len, List.length_take]; omega
    have eTi := eT i
    have lT : T0.length = (L ++ txT (ss.take i)).length + (txFrom i (ss.drop i) ++ R).length := by rw [← List.length_append, ← eTi]
    have gT : ∀ j, T0[(L ++ txT (ss.take i)).length + j]? = (txFrom i (ss.drop i) ++ R)[j]? := fun j => by rw [eTi, List.getElem?_append_right (by omega), Nat.add_sub_cancel_left]
    have ret : i = ss.length → tRet (tTup (tCons (tCB (fun xs H_1 Q => ∃ p ys, xs = [V.ref p] ∧ ((SqL K H_1 p ys ∧ ∀ (l : Addr), H_1 l = none → Q (V.ref l) (upd H_1 l (HO.tup ys))) ∨ SqT K H_1 p ys ∧ Q (V.ref p) H_1)) (tCons (tVar 3) tNil)) (tCons (tVar 4) tNil))) { nx := fun x H' => Q V.non H', rt := Q } [some (.str (SX.S T0)), some (.int (L.length : Nat)), some (.int (dep : Nat)), some (.ref l), some (.int (((L ++ txT (ss.take i)).length : Nat) : Int)), y5] H3 := fun e => by
      subst e
      rw [List.take_length] at hP ⊢
      refine ⟨.ref l, rfl, l, vs, rfl, .inl ⟨SqL.of hl3, fun t nt => ⟨.int _, rfl, sz (by show 2 ≤ 100000; decide), fun p np => ?_⟩⟩⟩
      have g1 := same_new (o := .tup vs) nt
      have g2 := same_new (o := .tup [.ref t, .int (((L ++ txT ss).length : Nat) : Int)]) np
      refine q p t vs _ (e3.trans (g1.trans g2)) ?_ (g2 _ _ upd_same) (HPL.same (g1.trans g2) ss hP)
      rw [upd_same, List.length_append]
    refine ⟨.int _, rfl, .str _, rfl, _, rfl, sl, _, _, rfl, rfl, _, rfl, ?_⟩
    rw [SX.S_len]
    by_cases hlt : i < ss.length
    · obtain ⟨s0, hs⟩ : ∃ s, ss[i]? = some s := ⟨_, List.getElem?_eq_getElem hlt⟩
      have hm := List.mem_of_getElem? hs
      have ed : ss.drop i = s0 :: ss.drop (i + 1) := by
        rw [List.drop_eq_getElem_cons hlt]
        rw [List.getElem?_eq_getElem hlt] at hs
        rw [Option.some.inj hs]
      have er : endR (txR (ss.drop (i + 1)) ++ R) := by
        cases hx : ss.drop (i + 1) with
        | nil => rcases hR with h | ⟨r, h⟩; exact .inl (by rw [h]; rfl); exact .inr ⟨r, .inr (by rw [h]; rfl)⟩
        | cons x xs => exact .inr ⟨x.tx ++ txR xs ++ R, .inl rfl⟩
      obtain ⟨c0, r0, hc0, dc0⟩ := tx_head s0
      -- the character that stands there
      obtain ⟨ch, rr, hch, nch⟩ : ∃ ch rr, txFrom i (ss.drop i) ++ R = ch :: rr ∧ ch ≠ 41 := by
        rw [ed]
        cases i with
        | zero => exact ⟨c0, r0 ++ txR (ss.drop 1) ++ R, by show (s0.tx ++ txR (ss.drop 1)) ++ R = _; rw [hc0]; simp, by unfold isDc at dc0; omega⟩
        | succ i => exact ⟨32, _, rfl, by decide⟩
      have hat : T0[(L ++ txT (ss.take i)).length]? = some ch := by have := gT 0; rw [Nat.add_zero, hch] at this; exact this
      refine iteTd (decide_eq_true (by rw [lT, hch, List.length_cons]; omega)) ⟨.str _, rfl, .int _, rfl, _, _, ch, rfl, rfl, sl, at_T hat, rfl, _, rfl, iteTd (by show (!decide (V.str (⟨#[ch]⟩ : Str) = V.str (⟨#[41]⟩ : Str))) = true; rw [decide_eq_false (str_1 nch)]; rfl) ⟨fun σ' H' => ∃ m', m' < ss.length - i ∧ W m' σ' H', fun _ _ h => h, ?_⟩⟩
      have lss : (ss.length : Nat) ≤ 10001 := by
        have h0 := lT
        have : ∀ xs : List S, xs.length ≤ (txR xs).length := fun xs => by
          induction xs with
          | nil => exact Nat.le_refl _
          | cons x xs ih => show xs.length + 1 ≤ (32 :: (x.tx ++ txR xs)).length; rw [List.length_cons, List.length_append]; omega
        have h1 := this ss
        have : (txR ss).length ≤ (txT ss).length + 1 := by
          cases ss with
          | nil => exact Nat.zero_le _
          | cons x xs => show (32 :: (x.tx ++ txR xs)).length ≤ (x.tx ++ txR xs).length + 1; rw [List.length_cons]; exact Nat.le_refl _
        have h2 : (txT ss).length ≤ T0.length := by rw [← hT]; simp; omega
        omega
      have app : ∀ (p : Addr) (v : V) (H4 : Hp), Same H3 H4 → HP H4 s0 v → H4 l = some (.lst vs) ∧ ∃ m', m' < ss.length - i ∧ W m' [some (.str (SX.S T0)), some (.int (L.length : Nat)), some (.int (dep : Nat)), some (.ref l), some (.int (((L ++ txT (ss.take (i + 1))).length : Nat) : Int)), some v] (upd H4 l (.lst (vs ++ [v]))) := fun p v H4 e4 hv => by
        have hl4 := e4 _ _ hl3
        refine ⟨hl4, ss.length - (i + 1), by omega, i + 1, l, vs ++ [v], _, rfl, Same.put (e3.trans e4) nl', nl', upd_same, ?_, by omega, rfl⟩
        rw [List.take_add_one, hs]
        exact HPL.put hl4 _ (HPL.snoc hv (HPL.same e4 _ hP))
      by_cases iz : i = 0
      · subst iz
        have vz : vs = [] := List.length_eq_zero_iff.mp lv
        refine ⟨.ref l, rfl, _, .inl ⟨vs, SqL.of hl3, rfl⟩, iteFd (by rw [vz]; rfl) ?_⟩
        have eA : T0 = L ++ txT (ss.take 0) ++ (s0.tx ++ (txR (ss.drop 1) ++ R)) := by
          rw [eTi, ed]
          show _ ++ ((s0.tx ++ txR (ss.drop 1)) ++ R) = _
          rw [List.append_assoc s0.tx]
        have eB : L ++ txT (ss.take (0 + 1)) = L ++ txT (ss.take 0) ++ s0.tx := by
          rw [txT_snoc hs, if_pos rfl, List.nil_append, List.append_assoc]
        refine ⟨.str _, rfl, .int _, rfl, .int _, rfl, L ++ txT (ss.take 0), txR (ss.drop 1) ++ R, s0, dep, by rw [← eA]; rfl, okL_mem ho hm, dLeL_mem hd hm, hn, er, by rw [← eA]; exact hl, fun p v H4 e4 hp hv => ?_⟩
        rw [← List.length_append, ← eB] at hp
        obtain ⟨hl4, fin⟩ := app p v H4 e4 hv
        exact ⟨p, _, rfl, SqT.of hp, rfl, v, _, rfl, _, _, rfl, rfl, .ref l, rfl, .inl ⟨rfl, _, SqL.of hl4⟩, v, rfl, l, vs, _, rfl, rfl, hl4, szl (by omega), fin⟩
      · obtain ⟨i', rfl⟩ : ∃ i', i = i' + 1 := ⟨i - 1, by omega⟩
        have hz : vs.isEmpty = false := by cases vs with
          | nil => rw [List.length_nil] at lv; omega
          | cons _ _ => rfl
        have h32 : T0[(L ++ txT (ss.take (i' + 1))).length]? = some 32 := by
          have := gT 0
          rw [Nat.add_zero, ed] at this
          exact this
        refine ⟨.ref l, rfl, _, .inl ⟨vs, SqL.of hl3, rfl⟩, iteTd (by rw [hz]; rfl) ?_⟩
        refine ⟨.str _, rfl, .int _, rfl, _, _, 32, rfl, rfl, sl, at_T h32, rfl, _, rfl, iteFd (by decide +kernel) ?_⟩
        refine ⟨_, rfl, _, 1, rfl, rfl, ?_⟩
        have eA : T0 = L ++ txT (ss.take (i' + 1)) ++ [32] ++ (s0.tx ++ (txR (ss.drop (i' + 1 + 1)) ++ R)) := by
          rw [eTi, ed]
          show _ ++ (32 :: (s0.tx ++ txR (ss.drop (i' + 1 + 1))) ++ R) = _
          simp
        have eB : L ++ txT (ss.take (i' + 1 + 1)) = L ++ txT (ss.take (i' + 1)) ++ [32] ++ s0.tx := by
          rw [txT_snoc hs, if_neg (by omega)]; simp
        have e2 : (L ++ txT (ss.take (i' + 1)) ++ [32]).length = (L ++ txT (ss.take (i' + 1))).length + 1 := by rw [List.length_append]; rfl
        refine ⟨.str _, rfl, .int _, rfl, .int _, rfl, L ++ txT (ss.take (i' + 1)) ++ [32], txR (ss.drop (i' + 1 + 1)) ++ R, s0, dep, by rw [← eA, e2]; rfl, okL_mem ho hm, dLeL_mem hd hm, hn, er, by rw [← eA]; exact hl, fun p v H4 e4 hp hv => ?_⟩
        rw [← List.length_append, ← eB] at hp
        obtain ⟨hl4, fin⟩ := app p v H4 e4 hv
        exact ⟨p, _, rfl, SqT.of hp, rfl, v, _, rfl, _, _, rfl, rfl, .ref l, rfl, .inl ⟨rfl, _, SqL.of hl4⟩, v, rfl, l, vs, _, rfl, rfl, hl4, szl (by omega), fin⟩
    · have e : i = ss.length := by omega
      have er : txFrom i (ss.drop i) ++ R = R := by
        rw [e, List.drop_length]
        cases ss.length <;> rfl
      rw [er] at lT gT
      rcases hR with h | ⟨r, h⟩
      · exact iteFd (decide_eq_false (by rw [lT, h]; simp)) (iteFd rfl (ret e))
      · have hat : T0[(L ++ txT (ss.take i)).length]? = some 41 := by have := gT 0; rw [Nat.add_zero, h] at this; exact this
        refine iteTd (decide_eq_true (by rw [lT, h, List.length_cons]; omega)) ⟨.str _, rfl, .int _, rfl, _, _, 41, rfl, rfl, sl, at_T hat, rfl, _, rfl, iteFd (by decide +kernel) (ret e)⟩
theorem ok_rdAll {f g : Addr} {fd gd : FuncData} {k : Nat} (F : Fun K "read_steps" "read_steps" s_read_steps f fd) (G0 : Fun K "read_step" "read_step" s_read_step g gd) (B : Blt mg) (G : Cst mg) (c_integer_end : Cal P w K mg base CX0 "integer_end" ["text", "start"] k spIntEnd) (c_parse_integer : Cal P w K mg base CX0 "parse_integer" ["text"] k spParseI) (gf : mg "read_steps" = some (.ref f)) (bf : Binds K fd ["text", "start", "depth"] []) (gg : mg "read_step" = some (.ref g)) (bg : Binds K gd ["text", "start", "depth"] []) : ∀ n, FnOk P w K mg base CX0 (2 * n + k) f fd ["text", "start", "depth"] (spPrevRs n)
  | 0 => ⟨fun _ _ _ _ h => h.elim, fun _ _ _ _ _ _ _ _ _ _ _ _ _ h => h.elim⟩
  | n + 1 => by
    have h := ok_rdSteps (n := n) F B ⟨g, gd, ok_rdStep (n := n) (k := 2 * n + k) G0 B G (c_integer_end.mono (by omega)) (c_parse_integer.mono (by omega)) ⟨f, fd, ok_rdAll F G0 B G c_integer_end c_parse_integer gf bf gg bg n, gf, F.kp, bf⟩, gg, G0.kp, bg⟩
    rw [show 2 * (n + 1) + k = 2 * n + k + 1 + 1 by omega]
    exact h
end
end TT
namespace TT
open PySem PySem.Spec PyProof.Rows L2
section
variable {P : Program} {w : World} {K : PySem.W.Frag} {mg : Str → Option Value} {base : Heap}
theorem ok_parseH {f : Addr} {fd : FuncData} {k : Nat} (F : Fun K "parse_history" "parse_history" s_parse_history f fd) (B : Blt mg) (c_read_steps : Cal P w K mg base CX0 "read_steps" ["text", "start", "depth"] k (spRdSteps 4)) (c_check_history : Cal P w K mg base CX0 "check_history" ["history"] k (spCheckH K)) : FnOk P w K mg base CX0 (k + 1) f fd ["text"] spParseH := by
  refine F.ok sc_parse_history (fun vs H Q E h => ?_) (fun cdv A outer s H vs Q E hr h => ?_)
  · obtain ⟨ss, rfl, _⟩ := h
    rfl
  · obtain ⟨ss, rfl, ho, hd, hw, hl, q⟩ := h
    refine ⟨_, (pss_cons (ps_asg (pe_cal c_read_steps (hr.mono (by omega)) (by rfl) (pa_cons (pv 0) (pa_cons pe_int (pa_cons pe_int pa_nil)))) (pg_tup rfl (pgs_cons (pg_name (i := 1) sc_parse_history.nd rfl (Or.inl rfl)) (pgs_cons (pg_name (i := 2) sc_parse_history.nd rfl (Or.inl rfl)) pgs_nil))))
  (pss_cons (ps_if (pt_cmpR op_lt (pv 2) (pe_callB call_len_str (by rfl) B.xlen PySem.boot_len (pa_cons (pv 0) pa_nil)) (nomark _))
    (pss_one ps_never)
    pss_nil)
  (pss_cons (ps_set (i := 3) sc_parse_history.nd rfl (Or.inl rfl) (pe_callTy call_list_of (by rfl) B.xlist (by decide +kernel) (pa_cons (pv 1) pa_nil)))
  (pss_cons (ps_try_thru0 (pss_one (ps_expr (pe_cal c_check_history (hr.mono (by omega)) (by rfl) (pa_cons (pv 3) pa_nil)))))
  (pss_one (ps_ret (pv 3))))))), ?_⟩
    have sl : (SX.S (txT ss)).length ≤ sizeLine := by rw [SX.S_len]; exact sz (by omega)
    refine ⟨.str _, rfl, [], [], ss, 1, by simp, ho, hd, by decide, .inl rfl, by rw [List.append_nil]; exact hl, fun p q' vs H1 e1 hp hq hL => ?_⟩
    refine ⟨p, _, rfl, SqT.of hp, rfl, .ref q', _, rfl, _, _, rfl, rfl, ?_⟩
    refine ⟨.int _, rfl, .str _, rfl, _, rfl, sl, _, _, rfl, rfl, _, rfl, iteFd (decide_eq_false (by rw [SX.S_len]; show ¬ ((([] : List Nat).length + (txT ss).length : Nat) : Int) < _; simp)) ?_⟩
    refine ⟨.ref q', rfl, q', vs, rfl, .inr (SqT.of hq), fun l nl => ?_⟩
    have g := same_new (o := .lst vs) nl
    have hL2 := HPL.same g ss hL
    refine ⟨.ref l, rfl, l, vs, ss, rfl, .inl (SqL.of upd_same), HPL.hl ss hL2, ho, hd, hw, fun H2 e2 => ?_⟩
    exact ⟨.ref l, rfl, q l vs H2 (e1.trans (g.trans e2)) (e1.free nl) (e2 _ _ upd_same) (HPL.same e2 ss hL2)⟩
end
end TT
namespace TT
open PySem PySem.Spec PyProof.Rows L2
section
variable {P : Program} {w : World} {K : PySem.W.Frag} {mg : Str → Option Value} {base : Heap}
theorem ok_start {f : Addr} {fd : FuncData} {k : Nat} (F : Fun K "_law_start" "_law_start" s__law_start f fd) (B : Blt mg) : FnOk P w K mg base CX0 (k + 1) f fd ["_law_script"] (spStart K) := by
  refine F.ok sc__law_start (fun vs H Q E h => ?_) (fun cdv A outer s H vs Q E hr h => ?_)
  · obtain ⟨a, ns, rfl, _⟩ := h
    rfl
  · obtain ⟨a, ns, rfl, hS, hl, q⟩ := h
    refine ⟨_, (pss_one (ps_ret (pe_lst (pa_cons (pe_callTy call_list_of (by rfl) B.xlist (by decide +kernel) (pa_cons (pe_slice sl_list (pv 0) po_none (po_some pe_int)) pa_nil)) (pa_cons pe_int (pa_cons pe_int (pa_cons (pe_op op_add pe_int (pe_op op_mul pe_int (pe_callB call_len_seq (by rfl) B.xlen PySem.boot_len (pa_cons (pe_slice sl_list (pv 0) po_none (po_some pe_int)) pa_nil)))) pa_nil))))))), ?_⟩
    obtain ⟨ms, em, lm⟩ := cutV_map ns none (some 63)
    refine ⟨.ref a, rfl, 63, rfl, a, _, rfl, hS, fun p np => ?_⟩
    rw [em]
    refine ⟨p, _, rfl, .inl (.inl (.inl upd_same)), fun c nc => ?_⟩
    have s1 : Same H (upd H p (.lst (ms.map V.int))) := same_new np
    have s2 := s1.trans (same_new (o := .lst (ms.map V.int)) nc)
    refine ⟨.ref a, rfl, 63, rfl, a, _, rfl, s2.seq hS, fun p2 np2 => ?_⟩
    rw [em]
    have s3 := s2.trans (same_new (o := .lst (ms.map V.int)) np2)
    refine ⟨p2, _, rfl, .inl (.inl (.inl upd_same)), 31, _, rfl, rfl, .inl ⟨by decide, by decide⟩, 9484, _, rfl, rfl, sz (by show 4 ≤ 100000; decide), fun d nd => ?_⟩
    have hc : (upd (upd (upd H p (.lst (ms.map V.int))) c (.lst (ms.map V.int))) p2 (.lst (ms.map V.int))) c = some (.lst (ms.map V.int)) := same_new np2 _ _ upd_same
    have ncd : c ≠ d := ne_of_none hc nd
    refine q d c ms _ (s3.trans (same_new nd)) (s3.free nd) ⟨0, 0, 9484 + 31 * (ms.length : Int), ?_, ?_, ncd, by omega, by omega, by omega, ?_⟩
    · rw [upd_same]
      simp only [List.length_map]
    · rw [upd_ne ncd]
      exact same_new np2 _ _ upd_same
    · show 9484 + 31 * (ms.length : Int) < 2305843009213693951
      omega
end
end TT
namespace TT
open PySem PySem.Spec PyProof.Rows L2
section
variable {P : Program} {w : World} {K : PySem.W.Frag} {mg : Str → Option Value} {base : Heap}
theorem ok_take {f : Addr} {fd : FuncData} {k : Nat} (F : Fun K "_law_take" "_law_take" s__law_take f fd) (B : Blt mg) : FnOk P w K mg base CX0 (k + 1) f fd ["_law_draw", "_law_many"] spTake := by
  refine F.ok sc__law_take (fun vs H Q E h => ?_) (fun cdv A outer s H vs Q E hr h => ?_)
  · obtain ⟨d, m, c, ns, rfl, _⟩ := h
    rfl
  · obtain ⟨d, m, c, ns, rfl, m1, m2, ⟨i, b, z, hd, hc, ncd, i0, b0, z0, z1⟩, q⟩ := h
    refine ⟨_, (C8.pss_cut (ps_if (PW.pt (pw_and (pt_cmpR op_lt (pe_ix ix_list (pv 0) pe_int (fun _ _ => rfl)) (pv 1) (nomark _)) (pw_and1 (pt_cmpR op_lt (pe_ix ix_list (pv 0) pe_int (fun _ _ => rfl)) (pe_callB call_len_seq (by rfl) B.xlen PySem.boot_len (pa_cons (pe_ix ix_list (pv 0) pe_int (fun _ _ => rfl)) pa_nil)) (nomark _)))))
    (pss_cons (ps_set (i := 2) sc__law_take.nd rfl (Or.inl rfl) (pe_ix ix_list (pe_ix ix_list (pv 0) pe_int (fun _ _ => rfl)) (pe_ix ix_list (pv 0) pe_int (fun _ _ => rfl)) (fun _ _ => rfl)))
  (pss_cons (ps_asg (pe_op op_add (pe_ix ix_list (pv 0) pe_int (fun _ _ => rfl)) pe_int) (pg_sub (pv 0) pe_int set_list))
  (pss_cons (ps_asg pe_int (pg_sub (pv 0) pe_int set_list))
  (C8.pss_cut (ps_if (pt_cmpR op_ge (pv 2) (pe_op op_pow pe_int pe_int) (nomark _))
    (pss_one (ps_asg (pv 2) (pg_sub (pv 0) pe_int set_list)))
    pss_nil)
  (pss_one (ps_asg (pe_op op_mod (pe_op op_add (pe_op op_add (pe_op op_mul (pe_ix ix_list (pv 0) pe_int (fun _ _ => rfl)) pe_int) (pe_op op_mul (pe_op op_mod (pv 2) pe_int) pe_int)) (pe_ix ix_list (pv 0) pe_int (fun _ _ => rfl))) pe_int) (pg_sub (pv 0) pe_int set_list)))))))
    pss_nil)
  (pss_cons (ps_if (pt_cmpR op_ge (pe_ix ix_list (pv 0) pe_int (fun _ _ => rfl)) (pv 1) (nomark _))
    (pss_cons (ps_set (i := 3) sc__law_take.nd rfl (Or.inl rfl) (pe_op op_mod (pe_ix ix_list (pv 0) pe_int (fun _ _ => rfl)) (pv 1)))
  (pss_cons (ps_asg (pe_op op_fdivW (pe_ix ix_list (pv 0) pe_int (fun _ _ => rfl)) (pv 1)) (pg_sub (pv 0) pe_int set_list))
  (pss_one (ps_ret (pv 3)))))
    pss_nil)
  (pss_cons (ps_set (i := 4) sc__law_take.nd rfl (Or.inl rfl) (pe_op op_mod (pe_op op_mul (pe_ix ix_list (pv 0) pe_int (fun _ _ => rfl)) (pe_ix ix_list (pv 0) pe_int (fun _ _ => rfl))) pe_int))
  (pss_cons (ps_asg (pe_op op_mod (pe_op op_add (pe_op op_add (pe_op op_mul (pv 4) pe_int) (pe_op op_mul (pe_ix ix_list (pv 0) pe_int (fun _ _ => rfl)) pe_int)) pe_int) pe_int) (pg_sub (pv 0) pe_int set_list))
  (pss_one (ps_ret (pe_op op_mod (pe_op op_fdivW (pe_ix ix_list (pv 0) pe_int (fun _ _ => rfl)) pe_int) (pv 1)))))))), ?_⟩
    have hL : SqL K H d [.ref c, .int i, .int b, .int z] := .inl (.inl hd)
    have hC : SqL K H c (ns.map V.int) := .inl (.inl hc)
    -- behind the first if
    refine ⟨fun σ H1 => (∃ y, σ = [some (.ref d), some (.int m), y, none, none]) ∧ Drw c ns H1 d ∧ ∀ b, b ≠ d → H1 b = H b, ?_, ?_⟩
    · refine rd_ixL 2 rfl hL rfl ⟨_, rfl, b, m, rfl, rfl, _, rfl, ite2 (fun e1 => ?_) (fun e1 => ?_)⟩
      · refine rd_ixL 1 rfl hL rfl (rd_ixL 0 rfl hL rfl ⟨c, _, rfl, .inl hC, i, _, rfl, rfl, _, rfl, ite2 (fun e2 => ?_) (fun e2 => ?_)⟩)
        · have hi : i < (ns.map V.int).length := of_decide_eq_true e2
          rw [List.length_map] at hi
          obtain ⟨n, hn⟩ : ∃ n, ns[i.toNat]? = some n := ⟨ns[i.toNat]'(by omega), List.getElem?_eq_getElem _⟩
          have hx : (ns.map V.int)[i.toNat]? = some (.int n) := by rw [List.getElem?_map, hn]; rfl
          have hx2 : atI (ns.map V.int) i = some (.int n) := by
            have := atI_nat hx
            rwa [Int.toNat_of_nonneg i0] at this
          -- cell = draw[0][draw[1]]
          refine rd_ixL 0 rfl hL rfl (rd_ixL 1 rfl hL rfl ⟨c, _, i, .int n, rfl, rfl, hC, hx2, ?_⟩)
          -- draw[1] = draw[1] + 1
          refine rd_ixL 1 rfl hL rfl ⟨i, 1, rfl, rfl, .ref d, rfl, d, _, 1, 1, rfl, rfl, hd, rfl, ?_⟩
          -- draw[2] = 0
          refine ⟨.ref d, rfl, d, _, 2, 2, rfl, rfl, upd_same, rfl, ?_⟩
          rw [upd_upd]
          -- if cell >= 10 ** 18
          refine ⟨fun σ H3 => σ = [some (.ref d), some (.int m), some (.int n), none, none] ∧ (∃ b', 0 ≤ b' ∧ H3 d = some (.lst [.ref c, .int (i + 1), .int b', .int z])) ∧ ∀ x, x ≠ d → H3 x = H x, ?_, ?_⟩
          · refine ⟨.int n, rfl, 10, 18, rfl, rfl, ⟨by decide, by decide, by decide⟩, n, _, rfl, rfl, _, rfl, ite2 (fun e3 => ?_) (fun e3 => ?_)⟩
            · have e4 : (10 : Int) ^ (18 : Int).toNat ≤ n := of_decide_eq_true e3
              have e5 : (0 : Int) ≤ n := Int.le_trans (by decide) e4
              refine ⟨.int n, rfl, .ref d, rfl, d, _, 2, 2, rfl, rfl, upd_same, rfl, rfl, ⟨n, e5, ?_⟩, fun x hx => ?_⟩
              · rw [upd_same]; rfl
              · rw [upd_ne hx, upd_ne hx]
            · exact ⟨rfl, ⟨0, Int.le_refl _, upd_same⟩, fun x hx => upd_ne hx⟩
          · rintro σ H3 ⟨rfl, ⟨b', hb', hd3⟩, hk⟩
            have hL3 : SqL K H3 d [.ref c, .int (i + 1), .int b', .int z] := .inl (.inl hd3)
            -- draw[3] = ..
            refine rd_ixL 3 rfl hL3 rfl ⟨z, 52711, rfl, rfl, .inr ⟨by decide, by decide⟩, .int n, rfl, n, MM, rfl, rfl, (by decide : (0 : Int) < MM), n % MM, 7, rfl, rfl, .inr ⟨by decide, by decide⟩, z * 52711, n % MM * 7, rfl, rfl, ?_⟩
            refine rd_ixL 1 rfl hL3 rfl ⟨z * 52711 + n % MM * 7, i + 1, rfl, rfl, z * 52711 + n % MM * 7 + (i + 1), MM, rfl, rfl, (by decide : (0 : Int) < MM), ?_⟩
            refine ⟨.ref d, rfl, d, _, 3, 3, rfl, rfl, hd3, rfl, ⟨_, rfl⟩, ⟨i + 1, b', (z * 52711 + n % MM * 7 + (i + 1)) % MM, upd_same, ?_, ncd, by omega, hb', Int.emod_nonneg _ (by decide), Int.emod_lt_of_pos _ (by decide)⟩, fun x hx => ?_⟩
            · rw [upd_ne ncd, hk c ncd]
              exact hc
            · rw [upd_ne hx]
              exact hk x hx
        · exact ⟨⟨none, rfl⟩, ⟨i, b, z, hd, hc, ncd, i0, b0, z0, z1⟩, fun _ _ => rfl⟩
      · exact ⟨⟨none, rfl⟩, ⟨i, b, z, hd, hc, ncd, i0, b0, z0, z1⟩, fun _ _ => rfl⟩
    · rintro σ H1 ⟨⟨y, rfl⟩, ⟨i, b, z, hd, hc, ncd, i0, b0, z0, z1⟩, hb⟩
      have hL : SqL K H1 d [.ref c, .int i, .int b, .int z] := .inl (.inl hd)
      have m62 : m.natAbs < 2 ^ 200 := by omega
      -- if draw[2] >= many
      refine rd_ixL 2 rfl hL rfl ⟨_, rfl, b, m, rfl, rfl, _, rfl, ite2 (fun e1 => ?_) (fun e1 => ?_)⟩
      · refine rd_ixL 2 rfl hL rfl ⟨.int m, rfl, b, m, rfl, rfl, (by omega : (0 : Int) < m), ?_⟩
        refine rd_ixL 2 rfl hL rfl ⟨.int m, rfl, b, m, rfl, rfl, wide_div (by omega) m62 (by decide) (by decide), .ref d, rfl, d, _, 2, 2, rfl, rfl, hd, rfl, .int (b % m), rfl, ?_⟩
        refine q _ _ (Int.emod_nonneg _ (by omega)) (Int.emod_lt_of_pos _ (by omega)) ⟨i, b / m, z, upd_same, ?_, ncd, i0, Int.ediv_nonneg b0 (by omega), z0, z1⟩ fun x hx => ?_
        · rw [upd_ne ncd]
          exact hc
        · rw [upd_ne hx]
          exact hb x hx
      · have z64 : -(2 ^ 64) < z ∧ z < 2 ^ 64 := ⟨by omega, Int.lt_trans z1 (by decide)⟩
        have pm : (0 : Int) < MM := by decide
        -- square
        refine rd_ixL 3 rfl hL rfl (rd_ixL 3 rfl hL rfl ⟨z, z, rfl, rfl, .inl z64, z * z, MM, rfl, rfl, pm, ?_⟩)
        -- draw[3] = ..
        refine ⟨.int (z * z % MM), rfl, z * z % MM, 48271, rfl, rfl, .inr ⟨by decide, by decide⟩, ?_⟩
        refine rd_ixL 3 rfl hL rfl ⟨z, 16807, rfl, rfl, .inr ⟨by decide, by decide⟩, _, _, rfl, rfl, _, 12345, rfl, rfl, _, MM, rfl, rfl, pm, .ref d, rfl, d, _, 3, 3, rfl, rfl, hd, rfl, ?_⟩
        have z' := Int.emod_nonneg (z * z % MM * 48271 + z * 16807 + 12345) (show MM ≠ 0 by decide)
        have z'' := Int.emod_lt_of_pos (z * z % MM * 48271 + z * 16807 + 12345) pm
        have hL2 : SqL K (upd H1 d (.lst [.ref c, .int i, .int b, .int ((z * z % MM * 48271 + z * 16807 + 12345) % MM)])) d [.ref c, .int i, .int b, .int ((z * z % MM * 48271 + z * 16807 + 12345) % MM)] := .inl (.inl upd_same)
        refine rd_ixL 3 rfl hL2 rfl ⟨((z * z % MM * 48271 + z * 16807 + 12345) % MM), 1021, rfl, rfl, wide_div (b := 62) (by decide) (by decide) (by decide) (by decide), .int m, rfl, _, m, rfl, rfl, (by omega : (0 : Int) < m), ?_⟩
        refine q _ _ (Int.emod_nonneg _ (by omega)) (Int.emod_lt_of_pos _ (by omega)) ⟨i, b, ((z * z % MM * 48271 + z * 16807 + 12345) % MM), upd_same, ?_, ncd, i0, b0, z', z''⟩ fun x hx => ?_
        · rw [upd_ne ncd]
          exact hc
        · rw [upd_ne hx]
          exact hb x hx
end
end TT
namespace TT
open PySem PySem.Spec PyProof.Rows L2
section
variable {P : Program} {w : World} {K : PySem.W.Frag} {mg : Str → Option Value} {base : Heap}
theorem ok_of {f : Addr} {fd : FuncData} {k : Nat} (F : Fun K "_law_of" "_law_of" s__law_of f fd) (B : Blt mg) (c__law_take : Cal P w K mg base CX0 "_law_take" ["_law_draw", "_law_many"] k spTake) : FnOk P w K mg base CX0 (k + 1) f fd ["_law_draw", "_law_some"] (spOf K) := by
  refine F.ok sc__law_of (fun vs H Q E h => ?_) (fun cdv A outer s H vs Q E hr h => ?_)
  · obtain ⟨d, a, xs, c, ns, rfl, _⟩ := h
    rfl
  · obtain ⟨d, a, xs, c, ns, rfl, hS, l0, l1, nad, hD, q⟩ := h
    refine ⟨_, (pss_one (ps_ret (pe_ix ix_list (pv 1) (pe_cal c__law_take (hr.mono (by omega)) (by rfl) (pa_cons (pv 0) (pa_cons (pe_callB call_len_seq (by rfl) B.xlen PySem.boot_len (pa_cons (pv 1) pa_nil)) pa_nil))) (fun _ _ => rfl)))), ?_⟩
    refine ⟨.ref a, rfl, .ref d, rfl, .ref a, rfl, a, xs, rfl, .inl hS, d, _, c, ns, rfl, by omega, by omega, hD, fun r H' r0 r1 hD' hk => ?_⟩
    have hx := List.getElem?_eq_getElem (l := xs) (i := r.toNat) (by omega)
    exact ⟨a, xs, r, _, rfl, rfl, (Ext.but hk).seq nad hS, atI_int r0 hx, q _ _ (List.mem_of_getElem? hx) hD' hk⟩
end
end TT
namespace TT
open PySem PySem.Spec PyProof.Rows L2
section
variable {P : Program} {w : World} {K : PySem.W.Frag} {mg : Str → Option Value} {base : Heap}
theorem ok_same1 {f : Addr} {fd : FuncData} {n : Nat} (F : Fun K "_law_same" "_law_same" s__law_same f fd) (B : Blt mg) (c__law_same : Cal P w K mg base CX0 "_law_same" ["_law_found", "_law_due"] n (spPrevW n)) : FnOk P w K mg base CX0 (n + 1) f fd ["_law_found", "_law_due"] (spSameW n) := by
  refine F.ok sc__law_same (fun vs H Q E h => ?_) (fun cdv A outer s H vs Q E hr h => ?_)
  · obtain ⟨x, y, rfl, _⟩ := h
    rfl
  · obtain ⟨x, y, rfl, hE, q⟩ := h
    refine ⟨_, (pss_cons (ps_if (pt_cmp (pc_isN (pv 1)))
    (pss_one (ps_ret (pe_cmp (pc_isN (pv 0)))))
    pss_nil)
  (pss_cons (ps_if (pt_val (pe_callB call_isiT (by rfl) B.xisinstance (by decide +kernel) (pa_cons (pv 1) (pa_cons (pe_tup (pa_cons (pe_bltn (v := .ty "list") (by rfl) B.xlist (by decide +kernel) rfl) (pa_cons (pe_bltn (v := .ty "tuple") (by rfl) B.xtuple (by decide +kernel) rfl) pa_nil))) pa_nil))))
    (pss_cons (ps_if (PW.pt (pw_or (pt_cmpR op_ne (pe_callB call_isi (by rfl) B.xisinstance (by decide +kernel) (pa_cons (pv 0) (pa_cons (pe_bltn (v := .ty "list") (by rfl) B.xlist (by decide +kernel) rfl) pa_nil))) (pe_callB call_isi (by rfl) B.xisinstance (by decide +kernel) (pa_cons (pv 1) (pa_cons (pe_bltn (v := .ty "list") (by rfl) B.xlist (by decide +kernel) rfl) pa_nil))) (nomark _)) (pw_or1 (pt_cmpR op_ne (pe_callB call_isi (by rfl) B.xisinstance (by decide +kernel) (pa_cons (pv 0) (pa_cons (pe_bltn (v := .ty "tuple") (by rfl) B.xtuple (by decide +kernel) rfl) pa_nil))) (pe_callB call_isi (by rfl) B.xisinstance (by decide +kernel) (pa_cons (pv 1) (pa_cons (pe_bltn (v := .ty "tuple") (by rfl) B.xtuple (by decide +kernel) rfl) pa_nil))) (nomark _)))))
    (pss_one (ps_ret pe_bl))
    pss_nil)
  (pss_one (ps_ret (pe_and (pe_cmpR op_eq (pe_callB call_len_seq (by rfl) B.xlen PySem.boot_len (pa_cons (pv 0) pa_nil)) (pe_callB call_len_seq (by rfl) B.xlen PySem.boot_len (pa_cons (pv 1) pa_nil)) (nomark _)) (pe_one (pe_callB (cr_all rfl) (by rfl) B.xall (by decide +kernel) (pa_cons (pe_lc (own := [("_law_one", 2), ("_law_other", 3)]) (g := gTup K 2 (gCons (gName 2) (gCons (gName 3) gNil))) (by rfl) sc__law_same.nd (RZ.pi_zipA (by rfl) B.xzip (pa_cons (pv 0) (pa_cons (pv 1) pa_nil))) (blkOk_by (own := [("_law_one", 2), ("_law_other", 3)]) (N := ["_law_found", "_law_due", "_law_one", "_law_other"]) (sc := defScope s__law_same) (by decide +kernel)) (fun _ _ _ _ _ => (pg_tup rfl (pgs_cons (pg_name (i := 2) sc__law_same.nd rfl (Or.inl rfl)) (pgs_cons (pg_name (i := 3) sc__law_same.nd rfl (Or.inl rfl)) pgs_nil)))) (fun _ _ _ _ _ => pts_nil) (fun _ _ _ _ _ => (pe_cal c__law_same (hr.mono (by omega)) (by rfl) (pa_cons (pv 2) (pa_cons (pv 3) pa_nil))))) pa_nil)))))))
    pss_nil)
  (pss_cons (ps_if (PW.pt (pw_or (pt_cmpR op_ne (pe_callB call_isi (by rfl) B.xisinstance (by decide +kernel) (pa_cons (pv 1) (pa_cons (pe_bltn (v := .ty "bool") (by rfl) B.xbool (by decide +kernel) rfl) pa_nil))) (pe_callB call_isi (by rfl) B.xisinstance (by decide +kernel) (pa_cons (pv 0) (pa_cons (pe_bltn (v := .ty "bool") (by rfl) B.xbool (by decide +kernel) rfl) pa_nil))) (nomark _)) (pw_or1 (pt_cmpR op_ne (pe_callB call_isi (by rfl) B.xisinstance (by decide +kernel) (pa_cons (pv 1) (pa_cons (pe_bltn (v := .ty "int") (by rfl) B.xint (by decide +kernel) rfl) pa_nil))) (pe_callB call_isi (by rfl) B.xisinstance (by decide +kernel) (pa_cons (pv 0) (pa_cons (pe_bltn (v := .ty "int") (by rfl) B.xint (by decide +kernel) rfl) pa_nil))) (nomark _)))))
    (pss_one (ps_ret pe_bl))
    pss_nil)
  (pss_one (ps_ret (pe_and (pe_cmpR op_eq (pe_callB call_isi (by rfl) B.xisinstance (by decide +kernel) (pa_cons (pv 1) (pa_cons (pe_bltn (v := .ty "str") (by rfl) B.xstr (by decide +kernel) rfl) pa_nil))) (pe_callB call_isi (by rfl) B.xisinstance (by decide +kernel) (pa_cons (pv 0) (pa_cons (pe_bltn (v := .ty "str") (by rfl) B.xstr (by decide +kernel) rfl) pa_nil))) (nomark _)) (pe_one (pe_cmpR op_eq (pv 0) (pv 1) (nomark _))))))))), ?_⟩
    have fin : ∀ H2 m, Same H H2 → Q (.bl ((List.replicate m true).all id)) H2 := fun H2 m e => by
      rw [show (List.replicate m true).all id = true by simp]
      exact q H2 e
    rcases hE.cases with ⟨hf, rfl⟩ | ⟨m, a, b, xs, ys, rfl, rfl, rfl, hs, hl, hm, hi⟩
    · cases x with
      | non => exact ⟨.non, rfl, _, rfl, iteTd rfl ⟨.non, rfl, q H (.refl H)⟩⟩
      | bl v =>
        refine ⟨.bl v, rfl, _, rfl, iteFd rfl ?_⟩
        refine ⟨.bl v, rfl, sz (by show 2 ≤ 100000; decide), fun tp ntp => ?_⟩
        refine ⟨_, tp, _, _, _, false, rfl, upd_same, .cons (.ty _) (.cons (.ty _) .nil), .base (.bl v), kLT (r1 := false) (r2 := false) (by decide +kernel) (by decide +kernel), _, rfl, iteFd rfl ?_⟩
        refine ⟨.bl v, rfl, ⟨_, _, _, _, true, rfl, .ty _, .base (.bl v), kit_ty (by decide +kernel), .bl v, rfl, ⟨_, _, _, _, true, rfl, .ty _, .base (.bl v), kit_ty (by decide +kernel), rfl, _, rfl, iteFd rfl ?_⟩⟩⟩
        refine ⟨.bl v, rfl, ⟨_, _, _, _, true, rfl, .ty _, .base (.bl v), kit_ty (by decide +kernel), .bl v, rfl, ⟨_, _, _, _, true, rfl, .ty _, .base (.bl v), kit_ty (by decide +kernel), rfl, _, rfl, iteFd rfl ?_⟩⟩⟩
        refine ⟨.bl v, rfl, ⟨_, _, _, _, false, rfl, .ty _, .base (.bl v), kit_ty (by decide +kernel), .bl v, rfl, ⟨_, _, _, _, false, rfl, .ty _, .base (.bl v), kit_ty (by decide +kernel), rfl, _, rfl, iteTd rfl ⟨.bl v, rfl, .bl v, rfl, rfl, ?_⟩⟩⟩⟩
        rw [decide_eq_true rfl]
        exact q _ (same_new ntp)
      | int v =>
        refine ⟨.int v, rfl, _, rfl, iteFd rfl ?_⟩
        refine ⟨.int v, rfl, sz (by show 2 ≤ 100000; decide), fun tp ntp => ?_⟩
        refine ⟨_, tp, _, _, _, false, rfl, upd_same, .cons (.ty _) (.cons (.ty _) .nil), .base (.int v), kLT (r1 := false) (r2 := false) (by decide +kernel) (by decide +kernel), _, rfl, iteFd rfl ?_⟩
        refine ⟨.int v, rfl, ⟨_, _, _, _, false, rfl, .ty _, .base (.int v), kit_ty (by decide +kernel), .int v, rfl, ⟨_, _, _, _, false, rfl, .ty _, .base (.int v), kit_ty (by decide +kernel), rfl, _, rfl, iteFd rfl ?_⟩⟩⟩
        refine ⟨.int v, rfl, ⟨_, _, _, _, true, rfl, .ty _, .base (.int v), kit_ty (by decide +kernel), .int v, rfl, ⟨_, _, _, _, true, rfl, .ty _, .base (.int v), kit_ty (by decide +kernel), rfl, _, rfl, iteFd rfl ?_⟩⟩⟩
        refine ⟨.int v, rfl, ⟨_, _, _, _, false, rfl, .ty _, .base (.int v), kit_ty (by decide +kernel), .int v, rfl, ⟨_, _, _, _, false, rfl, .ty _, .base (.int v), kit_ty (by decide +kernel), rfl, _, rfl, iteTd rfl ⟨.int v, rfl, .int v, rfl, rfl, ?_⟩⟩⟩⟩
        rw [decide_eq_true rfl]
        exact q _ (same_new ntp)
      | str v =>
        refine ⟨.str v, rfl, _, rfl, iteFd rfl ?_⟩
        refine ⟨.str v, rfl, sz (by show 2 ≤ 100000; decide), fun tp ntp => ?_⟩
        refine ⟨_, tp, _, _, _, false, rfl, upd_same, .cons (.ty _) (.cons (.ty _) .nil), .base (.str v), kLT (r1 := false) (r2 := false) (by decide +kernel) (by decide +kernel), _, rfl, iteFd rfl ?_⟩
        refine ⟨.str v, rfl, ⟨_, _, _, _, false, rfl, .ty _, .base (.str v), kit_ty (by decide +kernel), .str v, rfl, ⟨_, _, _, _, false, rfl, .ty _, .base (.str v), kit_ty (by decide +kernel), rfl, _, rfl, iteFd rfl ?_⟩⟩⟩
        refine ⟨.str v, rfl, ⟨_, _, _, _, false, rfl, .ty _, .base (.str v), kit_ty (by decide +kernel), .str v, rfl, ⟨_, _, _, _, false, rfl, .ty _, .base (.str v), kit_ty (by decide +kernel), rfl, _, rfl, iteFd rfl ?_⟩⟩⟩
        refine ⟨.str v, rfl, ⟨_, _, _, _, true, rfl, .ty _, .base (.str v), kit_ty (by decide +kernel), .str v, rfl, ⟨_, _, _, _, true, rfl, .ty _, .base (.str v), kit_ty (by decide +kernel), rfl, _, rfl, iteTd rfl ⟨.str v, rfl, .str v, rfl, rfl, ?_⟩⟩⟩⟩
        rw [decide_eq_true rfl]
        exact q _ (same_new ntp)
      | _ => cases hf
    · refine ⟨.ref b, rfl, _, rfl, iteFd rfl ?_⟩
      refine ⟨.ref b, rfl, sz (by show 2 ≤ 100000; decide), fun tp ntp => ?_⟩
      have e1 := same_new (o := .tup [.ty "list", .ty "tuple"]) ntp
      rcases hs with ⟨ha, hb⟩ | ⟨ha, hb⟩
      · have ha1 := e1 _ _ ha
        have hb1 := e1 _ _ hb
        refine ⟨_, tp, _, _, _, true, rfl, upd_same, .cons (.ty _) (.cons (.ty _) .nil), .base (.lst hb1), kLT (r1 := true) (r2 := false) (by decide +kernel) (by decide +kernel), _, rfl, iteTd rfl ?_⟩
        refine ⟨.ref a, rfl, ⟨_, _, _, _, true, rfl, .ty _, .base (.lst ha1), kit_ty (by decide +kernel), .ref b, rfl, ⟨_, _, _, _, true, rfl, .ty _, .base (.lst hb1), kit_ty (by decide +kernel), rfl, _, rfl, iteFd rfl ?_⟩⟩⟩
        refine ⟨.ref a, rfl, ⟨_, _, _, _, false, rfl, .ty _, .base (.lst ha1), kit_ty (by decide +kernel), .ref b, rfl, ⟨_, _, _, _, false, rfl, .ty _, .base (.lst hb1), kit_ty (by decide +kernel), rfl, _, rfl, iteFd rfl ?_⟩⟩⟩
        refine ⟨.ref a, rfl, a, xs, rfl, .inl (SqL.of ha1), .ref b, rfl, b, ys, rfl, .inl (SqL.of hb1), rfl, _, rfl, iteTd (decide_eq_true (by rw [hl])) ?_⟩
        refine ⟨.ref a, rfl, .ref b, rfl, a, b, xs, ys, rfl, .inl ⟨SqL.of ha1, SqL.of hb1, fun D nD => ?_⟩⟩
        refine lc_it (walk_zip (xs := xs) (ys := ys) (n := xs.length) (by rw [hl]; omega)) (fun i H2 => Same (upd H tp (.tup [.ty "list", .ty "tuple"])) H2 ∧ H2 D = some (.lst ((List.replicate i true).map V.bl))) ⟨same_new nD, upd_same⟩ (fun i H2 _ h => ⟨SqL.of (h.1 _ _ ha1), SqL.of (h.1 _ _ hb1)⟩) ?_ ?_
        · rintro i v H2 H3 hlt ⟨e2, hD2⟩ ⟨T, u, z, rfl, nT, rfl, hu, hz⟩
          have e3 := same_new (o := .tup [u, z]) nT
          refine ⟨T, [u, z], rfl, SqT.of upd_same, rfl, u, [z], rfl, z, [], rfl, rfl, rfl, u, rfl, z, rfl, u, z, rfl, (hi i u z hu hz).same (e1.trans (e2.trans e3)), fun H4 e4 => ?_⟩
          refine ⟨_, e4 _ _ (e3 _ _ hD2), szl (by simp; omega), Same.put (e2.trans (e3.trans e4)) nD, ?_⟩
          rw [upd_same, List.replicate_succ', List.map_append]; rfl
        · rintro H2 ⟨e2, hD2⟩
          exact ⟨D, _, rfl, SqL.of hD2, fin _ _ (e1.trans e2)⟩
      · have ha1 := e1 _ _ ha
        have hb1 := e1 _ _ hb
        refine ⟨_, tp, _, _, _, true, rfl, upd_same, .cons (.ty _) (.cons (.ty _) .nil), .base (.tup hb1), kLT (r1 := false) (r2 := true) (by decide +kernel) (by decide +kernel), _, rfl, iteTd rfl ?_⟩
        refine ⟨.ref a, rfl, ⟨_, _, _, _, false, rfl, .ty _, .base (.tup ha1), kit_ty (by decide +kernel), .ref b, rfl, ⟨_, _, _, _, false, rfl, .ty _, .base (.tup hb1), kit_ty (by decide +kernel), rfl, _, rfl, iteFd rfl ?_⟩⟩⟩
        refine ⟨.ref a, rfl, ⟨_, _, _, _, true, rfl, .ty _, .base (.tup ha1), kit_ty (by decide +kernel), .ref b, rfl, ⟨_, _, _, _, true, rfl, .ty _, .base (.tup hb1), kit_ty (by decide +kernel), rfl, _, rfl, iteFd rfl ?_⟩⟩⟩
        refine ⟨.ref a, rfl, a, xs, rfl, .inr (SqT.of ha1), .ref b, rfl, b, ys, rfl, .inr (SqT.of hb1), rfl, _, rfl, iteTd (decide_eq_true (by rw [hl])) ?_⟩
        refine ⟨.ref a, rfl, .ref b, rfl, a, b, xs, ys, rfl, .inr ⟨SqT.of ha1, SqT.of hb1, fun D nD => ?_⟩⟩
        refine lc_it (walk_zipT (xs := xs) (ys := ys) (n := xs.length) (by rw [hl]; omega)) (fun i H2 => Same (upd H tp (.tup [.ty "list", .ty "tuple"])) H2 ∧ H2 D = some (.lst ((List.replicate i true).map V.bl))) ⟨same_new nD, upd_same⟩ (fun i H2 _ h => ⟨SqT.of (h.1 _ _ ha1), SqT.of (h.1 _ _ hb1)⟩) ?_ ?_
        · rintro i v H2 H3 hlt ⟨e2, hD2⟩ ⟨T, u, z, rfl, nT, rfl, hu, hz⟩
          have e3 := same_new (o := .tup [u, z]) nT
          refine ⟨T, [u, z], rfl, SqT.of upd_same, rfl, u, [z], rfl, z, [], rfl, rfl, rfl, u, rfl, z, rfl, u, z, rfl, (hi i u z hu hz).same (e1.trans (e2.trans e3)), fun H4 e4 => ?_⟩
          refine ⟨_, e4 _ _ (e3 _ _ hD2), szl (by simp; omega), Same.put (e2.trans (e3.trans e4)) nD, ?_⟩
          rw [upd_same, List.replicate_succ', List.map_append]; rfl
        · rintro H2 ⟨e2, hD2⟩
          exact ⟨D, _, rfl, SqL.of hD2, fin _ _ (e1.trans e2)⟩
theorem ok_same {f : Addr} {fd : FuncData} (F : Fun K "_law_same" "_law_same" s__law_same f fd) (B : Blt mg) (gf : mg "_law_same" = some (.ref f)) (bf : Binds K fd ["_law_found", "_law_due"] []) : ∀ n, FnOk P w K mg base CX0 n f fd ["_law_found", "_law_due"] (spPrevW n)
  | 0 => ⟨fun _ _ _ _ h => h.elim, fun _ _ _ _ _ _ _ _ _ _ _ _ _ h => h.elim⟩
  | n + 1 => ok_same1 F B ⟨f, fd, ok_same F B gf bf n, gf, F.kp, bf⟩
end
end TT
namespace TT
open PySem PySem.Spec PyProof.Rows L2
section
variable {P : Program} {w : World} {K : PySem.W.Frag} {mg : Str → Option Value} {base : Heap}
theorem ok_keysB {f : Addr} {fd : FuncData} {k : Nat} (F : Fun K "_law_keys" "_law_keys" s__law_keys f fd) (B : Blt mg) (c__law_take : Cal P w K mg base CX0 "_law_take" ["_law_draw", "_law_many"] k spTake)
    (c__law_of : Cal P w K mg base CX0 "_law_of" ["_law_draw", "_law_some"] k (spOf K)) : FnOk P w K mg base CX0 (k + 1) f fd ["_law_draw", "_law_many"] spKeysB := by
  refine F.ok sc__law_keys (fun vs H Q E h => ?_) (fun cdv A outer s H vs Q E hr h => ?_)
  · obtain ⟨d, m, c, ns, rfl, _⟩ := h
    rfl
  · obtain ⟨d, m, c, ns, rfl, m0, m1, hD, q⟩ := h
    refine ⟨_, (pss_cons (ps_set (i := 2) sc__law_keys.nd rfl (Or.inl rfl) (pe_cal c__law_of (hr.mono (by omega)) (by rfl) (pa_cons (pv 0) (pa_cons (pe_lst (pa_cons (pe_op op_sub pe_int pe_int) (pa_cons pe_int (pa_cons (pe_op op_sub pe_int (pe_op op_pow pe_int pe_int)) (pa_cons (pe_op op_sub (pe_op op_pow pe_int pe_int) pe_int) (pa_cons (pe_cal c__law_take (hr.mono (by omega)) (by rfl) (pa_cons (pv 0) (pa_cons (pe_op op_pow pe_int pe_int) pa_nil))) pa_nil)))))) pa_nil))))
  (pss_cons (ps_par (i := 3) (j := 4) rfl sc__law_keys.nd rfl rfl (by decide) rfl rfl (pa_cons (pe_cal c__law_of (hr.mono (by omega)) (by rfl) (pa_cons (pv 0) (pa_cons (pe_lst (pa_cons pe_int (pa_cons pe_int (pa_cons pe_int (pa_cons pe_int pa_nil))))) pa_nil))) (pa_cons (pe_lst pa_nil) pa_nil)) rfl)
  (pss_cons (ps_for PassesOwn.never rfl (pi_range1 (by rfl) B.xrange (pa_cons (pv 1) pa_nil)) (pg_name (i := 5) sc__law_keys.nd rfl (Or.inl rfl))
    (pss_cons (ps_expr (pe_bm PySem.F.plainAttrs_list PySem.F.slot_list_append PySem.F.type_list_append mt_append (pv 4) (pa_cons (pv 2) pa_nil)))
  (pss_one (ps_set (i := 2) sc__law_keys.nd rfl (Or.inl rfl) (pe_op op_add (pe_op op_add (pv 2) pe_int) (pe_cal c__law_take (hr.mono (by omega)) (by rfl) (pa_cons (pv 0) (pa_cons (pv 3) pa_nil))))))))
  (pss_one (ps_ret (pv 4)))))), ?_⟩
    refine ⟨.ref d, rfl, 0, 5, rfl, rfl, 10, 9, rfl, rfl, cpow (by decide) (by decide) (by decide), 0, _, rfl, rfl, 10, 9, rfl, rfl, cpow (by decide) (by decide) (by decide), _, 50000, rfl, rfl, .ref d, rfl, 10, 6, rfl, rfl, cpow (by decide) (by decide) (by decide), d, _, c, ns, rfl, by decide, by decide, hD, fun r H1 r0 r1 hD1 hk1 => ?_⟩
    refine ⟨sz (by show 5 ≤ 100000; decide), fun p np => ⟨d, p, _, c, ns, rfl, SqL.of upd_same, by show 0 < 5; decide, by show 5 ≤ 100000; decide, hD1.ne np, hD1.new np, fun x H2 hx hD2 hk2 => ?_⟩⟩
    have e2 : Ext d H H2 := (Ext.but hk1).trans ((Ext.of (same_new np)).trans (Ext.but hk2))
    obtain ⟨k0, rfl, b0, b1⟩ : ∃ k0, x = .int k0 ∧ -1000000000 ≤ k0 ∧ k0 ≤ 999950000 := by
      simp only [List.mem_cons, List.not_mem_nil, or_false] at hx
      have r2 : r < 1000000 := r1
      rcases hx with rfl | rfl | rfl | rfl | rfl
      · exact ⟨_, rfl, by decide, by decide⟩
      · exact ⟨_, rfl, by decide, by decide⟩
      · exact ⟨_, rfl, by decide, by decide⟩
      · exact ⟨_, rfl, by decide, by decide⟩
      · exact ⟨_, rfl, by omega, by omega⟩
    refine ⟨.ref d, rfl, sz (by show 4 ≤ 100000; decide), fun p2 np2 => ⟨d, p2, _, c, ns, rfl, SqL.of upd_same, by show 0 < 4; decide, by show 4 ≤ 100000; decide, hD2.ne np2, hD2.new np2, fun x H3 hx hD3 hk3 => ?_⟩⟩
    have e3 : Ext d H H3 := e2.trans ((Ext.of (same_new np2)).trans (Ext.but hk3))
    obtain ⟨wd, rfl, w0, w1⟩ : ∃ wd, x = .int wd ∧ 1 ≤ wd ∧ wd ≤ 1000 := by
      simp only [List.mem_cons, List.not_mem_nil, or_false] at hx
      rcases hx with rfl | rfl | rfl | rfl <;> exact ⟨_, rfl, by decide, by decide⟩
    refine ⟨Nat.zero_le _, fun o no => ⟨.int wd, .ref o, rfl, ?_⟩⟩
    have nod := hD3.ne no
    obtain ⟨ob, hob⟩ := hD.at
    obtain ⟨ob3, hob3⟩ := hD3.at
    have noH : H o = none := e3.free hob hob3 no
    refine ⟨.int m, rfl, m, rfl, by omega, by omega, for_range (n := m.toNat) (fun i σ H4 => ∃ key ks y, σ = [some (.ref d), some (.int m), some (.int key), some (.int wd), some (.ref o), y] ∧ ks.length = i ∧ ks.Pairwise (· < ·) ∧ (∀ j ∈ ks, -1000000000 ≤ j ∧ j < key) ∧ -1000000000 ≤ key ∧ key ≤ k0 + 1000 * i ∧ Ext d H H4 ∧ Drw c ns H4 d ∧ H4 o = some (.lst (ks.map V.int)))
      ⟨k0, [], none, rfl, rfl, List.Pairwise.nil, fun _ h => (by cases h), b0, by omega, e3.put noH, hD3.new no, upd_same⟩ ?_ ?_⟩
    · rintro i σ H4 hi ⟨key, ks, y, rfl, lk, pw, bd, kb0, kb1, e4, hD4, ho4⟩
      -- found.append(key)
      refine ⟨.ref o, rfl, .inl ⟨rfl, _, SqL.of ho4⟩, .int key, rfl, o, _, _, rfl, rfl, ho4, szl (by rw [List.length_map]; omega), ?_⟩
      -- key = key + 1 + take(draw, wide)
      refine ⟨.int key, rfl, key, 1, rfl, rfl, .ref d, rfl, .int wd, rfl, d, wd, c, ns, rfl, w0, by omega, hD4.put hD noH, fun r H5 r0 r1 hD5 hk5 => ⟨_, r, rfl, rfl, ?_⟩⟩
      refine ⟨key + 1 + r, ks ++ [key], _, rfl, by rw [List.length_append, lk]; rfl, ?_, ?_, by omega, by omega, (e4.put noH).trans (.but hk5), hD5, ?_⟩
      · rw [List.pairwise_append]
        refine ⟨pw, List.pairwise_singleton _ _, fun a ha b hb => ?_⟩
        rw [List.mem_singleton.mp hb]
        exact (bd a ha).2
      · intro j hj
        rcases List.mem_append.mp hj with h | h
        · have := bd j h; omega
        · rw [List.mem_singleton.mp h]; omega
      · rw [hk5 o nod, upd_same, List.map_append]; rfl
    · rintro σ H4 ⟨key, ks, y, rfl, lk, pw, bd, kb0, kb1, e4, hD4, ho4⟩
      exact ⟨.ref o, rfl, q ks o H4 (by omega) ⟨pw, fun j hj => by have := bd j hj; omega⟩ (fun j hj => by have := bd j hj; omega) e4 hD4 noH ho4⟩
end
end TT
namespace TT
open PySem PySem.Spec PyProof.Rows L2
section
variable {P : Program} {w : World} {K : PySem.W.Frag} {mg : Str → Option Value} {base : Heap}
theorem ok_st1 {f : Addr} {fd : FuncData} {n k : Nat} (F : Fun K "_law_step" "_law_step" s__law_step f fd) (B : Blt mg) (c__law_take : Cal P w K mg base CX0 "_law_take" ["_law_draw", "_law_many"] k spTake) (c__law_of : Cal P w K mg base CX0 "_law_of" ["_law_draw", "_law_some"] k (spOf K)) (c__law_step : Cal P w K mg base CX0 "_law_step" ["_law_draw", "_law_keys_here", "_law_deep"] (n + k) (spPrevSt n)) : FnOk P w K mg base CX0 (n + k + 1) f fd ["_law_draw", "_law_keys_here", "_law_deep"] (spStepN n) := by
  refine F.ok sc__law_step (fun vs H Q E h => ?_) (fun cdv A outer s H vs Q E hr h => ?_)
  · obtain ⟨d, a, ks, c, ns, rfl, _⟩ := h
    rfl
  · obtain ⟨d, a, ks, c, ns, rfl, hA, l0, l1, nad, hD, q⟩ := h
    refine ⟨_, (C8.pss_cut (ps_if (PW.pt (pw_or (pt_cmpR op_eq (pv 2) pe_int (nomark _)) (pw_or1 (pt_cmpR op_gt (pe_cal c__law_take (hr.mono (by omega)) (by rfl) (pa_cons (pv 0) (pa_cons pe_int pa_nil))) pe_int (nomark _)))))
    (pss_one (ps_ret (pe_cal c__law_of (hr.mono (by omega)) (by rfl) (pa_cons (pv 0) (pa_cons (pv 1) pa_nil)))))
    pss_nil)
  (pss_cons (ps_set (i := 3) sc__law_step.nd rfl (Or.inl rfl) (pe_cal c__law_of (hr.mono (by omega)) (by rfl) (pa_cons (pv 0) (pa_cons (pe_lst (pa_cons pe_int (pa_cons pe_int (pa_cons pe_int (pa_cons pe_int (pa_cons (pe_cal c__law_take (hr.mono (by omega)) (by rfl) (pa_cons (pv 0) (pa_cons pe_int pa_nil))) (pa_cons (pe_op op_pow pe_int pe_int) (pa_cons (pe_cal c__law_take (hr.mono (by omega)) (by rfl) (pa_cons (pv 0) (pa_cons (pe_op op_pow pe_int pe_int) pa_nil))) pa_nil)))))))) pa_nil))))
  (pss_cons (ps_setLc (i := 4) (own := [("_law_k", 5)]) (g := gName 5) (by rfl) sc__law_step.nd rfl rfl (sw_true rfl rfl rfl (by decide +kernel)) (pi_range1 (by rfl) B.xrange (pa_cons (pe_cal c__law_take (hr.mono (by omega)) (by rfl) (pa_cons (pv 0) (pa_cons pe_int pa_nil))) pa_nil)) (blkOk_by (own := [("_law_k", 5)]) (N := ["_law_draw", "_law_keys_here", "_law_deep", "_law_count", "_law_steps", "_law_k"]) (sc := defScope s__law_step) (by decide +kernel)) (fun _ _ _ _ _ => (pg_name (i := 5) sc__law_step.nd rfl (Or.inl rfl))) (fun _ _ _ _ _ => pts_nil) (fun _ _ _ _ _ => (pe_cal c__law_step (hr.mono (by omega)) (by rfl) (pa_cons (pv 0) (pa_cons (pv 1) (pa_cons (pe_op op_sub (pv 2) pe_int) pa_nil))))))
  (pss_one (ps_ret (pe_tup (pa_cons pe_str (pa_cons (pv 3) (pa_cons (pe_cal c__law_of (hr.mono (by omega)) (by rfl) (pa_cons (pv 0) (pa_cons (pe_lst (pa_cons (pe_callTy call_tuple_of (by rfl) B.xtuple (by decide +kernel) (pa_cons (pv 4) pa_nil)) (pa_cons (pv 4) pa_nil))) pa_nil))) pa_nil))))))))), ?_⟩
    have key : ∀ H2, Ext d H H2 → Drw c ns H2 d → tCall (spOf K) [] E0 (tCons (tVar 0) (tCons (tVar 1) tNil)) (L2.start ["_law_draw", "_law_keys_here", "_law_deep", "_law_count", "_law_steps", "_law_k"] [.ref d, .ref a, .int (n : Nat)]) H2 Q := fun H2 e2 hD2 => by
      refine ⟨.ref d, rfl, .ref a, rfl, d, a, _, c, ns, rfl, SqL.of (e2 _ _ nad hA), by rw [List.length_map]; exact l0, by rw [List.length_map]; omega, nad, hD2, fun x H3 hx hD3 hk3 => ?_⟩
      obtain ⟨y, hy, rfl⟩ := List.mem_map.mp hx
      exact q (.k y) _ H3 trivial hy (e2.trans (.but hk3)) hD3 rfl
    refine ⟨fun σ H2 => σ = L2.start ["_law_draw", "_law_keys_here", "_law_deep", "_law_count", "_law_steps", "_law_k"] [.ref d, .ref a, .int (n : Nat)] ∧ Ext d H H2 ∧ Drw c ns H2 d ∧ 0 < n, ?_, ?_⟩
    · refine ⟨_, rfl, rfl, _, rfl, ?_⟩
      by_cases hn : n = 0
      · refine iteTd (by rw [hn]; rfl) (iteTd rfl (key H (.refl _ _) hD))
      · refine iteFd (by simpa using hn) ⟨.ref d, rfl, d, 3, c, ns, rfl, by decide, by decide, hD, fun r H2 r0 r1 hD2 hk2 => ⟨_, 0, rfl, rfl, _, rfl, ite2 (fun _ => key H2 (.but hk2) hD2) (fun _ => ⟨rfl, .but hk2, hD2, by omega⟩)⟩⟩
    rintro σ H2 ⟨rfl, e2, hD2, hn⟩
    cases n with
    | zero => omega
    | succ m =>
      obtain ⟨o2, hd2⟩ := hD2.at
      obtain ⟨o0, hd0⟩ := hD.at
      refine ⟨.ref d, rfl, .ref d, rfl, d, 9, c, ns, rfl, by decide, by decide, hD2, fun r3 H3 a0 a1 hD3 hk3 => ⟨10, 30, rfl, rfl, cpow (by decide) (by decide) (by decide), .ref d, rfl, 10, 30, rfl, rfl, cpow (by decide) (by decide) (by decide), d, _, c, ns, rfl, by decide +kernel, by decide +kernel, hD3, fun r4 H4 b0 b1 hD4 hk4 => ⟨sz (by show 7 ≤ 100000; decide), fun l nl => ⟨d, l, _, c, ns, rfl, SqL.of upd_same, by show 0 < 7; decide, by show 7 ≤ 100000; decide, hD4.ne nl, hD4.new nl, fun x H5 hx5 hD5 hk5 => ?_⟩⟩⟩⟩
      have e5 : Ext d H H5 := e2.trans ((Ext.but hk3).trans ((Ext.but hk4).trans ((Ext.of (same_new nl)).trans (.but hk5))))
      obtain ⟨cc, rfl, c0, c1⟩ : ∃ cc, x = V.int cc ∧ 0 ≤ cc ∧ cc ≤ 1000000000000000000000000000000 := by
        have e30 : (10 : Int) ^ (Int.toNat 30) = 1000000000000000000000000000000 := by decide +kernel
        rw [e30] at b1
        simp only [List.mem_cons, List.not_mem_nil, or_false] at hx5
        rcases hx5 with rfl | rfl | rfl | rfl | rfl | rfl | rfl
        · exact ⟨0, rfl, by decide, by decide⟩
        · exact ⟨1, rfl, by decide, by decide⟩
        · exact ⟨2, rfl, by decide, by decide⟩
        · exact ⟨3, rfl, by decide, by decide⟩
        · exact ⟨r3, rfl, a0, by omega⟩
        · exact ⟨_, rfl, by decide +kernel, by decide +kernel⟩
        · exact ⟨r4, rfl, b0, by omega⟩
      refine ⟨.ref d, rfl, d, 4, c, ns, rfl, by decide, by decide, hD5, fun r6 H6 q0 q1 hD6 hk6 => ?_⟩
      obtain ⟨n6, rfl⟩ : ∃ n : Nat, r6 = n := ⟨r6.toNat, by omega⟩
      have e6 : Ext d H H6 := e5.trans (.but hk6)
      refine ⟨_, rfl, by omega, by omega, fun D nD => lc_steps (n := n6) (fun s => s.dLe m ∧ s.inK ks) hD6 nD (by omega) (fun j H7 Y hj e7 hD7 hY => ⟨rfl, .ref d, rfl, .ref a, rfl, _, rfl, _, 1, rfl, rfl, d, a, ks, c, ns, ?_, (e6.trans e7) _ _ nad hA, l0, l1, nad, hD7, fun s v H8 ds is e8 hD8 hS => hY s v H8 ⟨ds, is⟩ e8 hD8 hS⟩) ?_⟩
      · show [V.ref d, V.ref a, V.int (((m + 1 : Nat) : Int) - 1)] = _
        rw [show (((m + 1 : Nat) : Int) - 1) = ((m : Nat) : Int) by omega]
      intro ss ws H7 ls hs e7 hD7 hDD7 hL7
      have e07 := e6.trans e7
      have lw : ws.length ≤ 6 := by rw [hL7.len, ls]; omega
      have nDd := hD6.ne nD
      have nDH : H D = none := by
        obtain ⟨o6, hd6⟩ := hD6.at
        exact e6.free hd0 hd6 nD
      refine ⟨.int cc, rfl, .ref d, rfl, .ref D, rfl, D, ws, rfl, .inl ⟨SqL.of hDD7, fun tp ntp => ⟨.ref D, rfl, sz (by show 2 ≤ 100000; decide), fun l8 nl8 => ?_⟩⟩⟩
      have g1 := same_new (o := .tup ws) ntp
      have g2 := same_new (o := .lst [.ref tp, .ref D]) nl8
      have hD8 := (hD7.same g1).same g2
      refine ⟨d, l8, _, c, ns, rfl, SqL.of upd_same, by show 0 < 2; decide, by show 2 ≤ 100000; decide, (hD7.same g1).ne nl8, hD8, fun x H9 hx9 hD9 hk9 => ?_⟩
      have e79 : Ext d H7 H9 := (Ext.of (g1.trans g2)).trans (.but hk9)
      have fr : ∀ {b : Addr}, H7 b = none → H b = none := fun {b} hb => by
        obtain ⟨o7, hd7⟩ := hD7.at
        exact e07.free hd0 hd7 hb
      obtain ⟨ib, rfl, nib, hib⟩ : ∃ ib, x = V.ref ib ∧ H ib = none ∧ (H9 ib = some (.lst ws) ∨ H9 ib = some (.tup ws)) := by
        simp only [List.mem_cons, List.not_mem_nil, or_false] at hx9
        rcases hx9 with rfl | rfl
        · refine ⟨tp, rfl, fr ntp, .inr ?_⟩
          rw [hk9 tp (hD7.ne ntp)]
          exact g2 _ _ upd_same
        · exact ⟨D, rfl, nDH, .inl (e79 _ _ nDd hDD7)⟩
      refine ⟨sz (by show 3 ≤ 100000; decide), fun ta nta => ?_⟩
      have g3 := same_new (o := .tup [.str "repeat", .int cc, .ref ib]) nta
      have e09 := e07.trans (e79.trans (.of g3))
      refine q (.r cc ss) (.ref ta) _ (dLeL_of fun s h => (hs s h).1) ⟨c0, c1, by omega, inKL_of fun s h => (hs s h).2⟩ e09 (hD9.same g3) ⟨ta, ib, ws, rfl, nwD_at.mpr ⟨?_, (by simp), upd_same⟩, hib.imp (fun h => nwD_at.mpr ⟨nib, (by simp), g3 _ _ h⟩) (fun h => nwD_at.mpr ⟨nib, (by simp), g3 _ _ h⟩), HL.same (fun b o hb => ?_) _ hL7⟩
      · obtain ⟨o9, hd9⟩ := hD9.at
        exact (e07.trans e79).free hd0 hd9 nta
      · obtain ⟨k1, k2, k3⟩ := nwD_at.mp hb
        have bd : b ≠ d := fun z => by obtain ⟨o6, hd6⟩ := hD6.at; rw [z, hd6] at k1; cases k1
        obtain ⟨o6, hd6⟩ := hD6.at
        exact nwD_at.mpr ⟨e6.free hd0 hd6 k1, (by simp), g3 _ _ (e79 _ _ bd k3)⟩
theorem ok_st {f : Addr} {fd : FuncData} {k : Nat} (F : Fun K "_law_step" "_law_step" s__law_step f fd) (B : Blt mg) (c__law_take : Cal P w K mg base CX0 "_law_take" ["_law_draw", "_law_many"] k spTake) (c__law_of : Cal P w K mg base CX0 "_law_of" ["_law_draw", "_law_some"] k (spOf K)) (gf : mg "_law_step" = some (.ref f)) (bf : Binds K fd ["_law_draw", "_law_keys_here", "_law_deep"] []) : ∀ n, FnOk P w K mg base CX0 (n + k) f fd ["_law_draw", "_law_keys_here", "_law_deep"] (spPrevSt n)
  | 0 => ⟨fun _ _ _ _ h => h.elim, fun _ _ _ _ _ _ _ _ _ _ _ _ _ h => h.elim⟩
  | n + 1 => by
    have h := ok_st1 F B c__law_take c__law_of ⟨f, fd, ok_st F B c__law_take c__law_of gf bf n, gf, F.kp, bf⟩
    rw [show n + 1 + k = n + k + 1 by omega]
    exact h
end
end TT
namespace TT
open PySem PySem.Spec PyProof.Rows L2
section
variable {P : Program} {w : World} {K : PySem.W.Frag} {mg : Str → Option Value} {base : Heap}
theorem ok_hist {f : Addr} {fd : FuncData} {k : Nat} (F : Fun K "_law_history" "_law_history" s__law_history f fd) (B : Blt mg) (c__law_take : Cal P w K mg base CX0 "_law_take" ["_law_draw", "_law_many"] k spTake) (c__law_step : ∀ n : Nat, n ≤ 4 → Cal P w K mg base CX0 "_law_step" ["_law_draw", "_law_keys_here", "_law_deep"] k (spStepN n)) : FnOk P w K mg base CX0 (k + 1) f fd ["_law_draw", "_law_keys_here", "_law_most", "_law_deep"] spHist := by
  refine F.ok sc__law_history (fun vs H Q E h => ?_) (fun cdv A outer s H vs Q E hr h => ?_)
  · obtain ⟨d, a, ks, most, n, c, ns, rfl, _⟩ := h
    rfl
  · obtain ⟨d, a, ks, most, n, c, ns, rfl, hA, l0, l1, m1, hn, nad, hD, q⟩ := h
    have c__law_step := c__law_step n hn
    refine ⟨_, (pss_one (ps_ret (pe_lc (own := [("_law_k", 4)]) (g := gName 4) (by rfl) sc__law_history.nd (pi_range1 (by rfl) B.xrange (pa_cons (pe_cal c__law_take (hr.mono (by omega)) (by rfl) (pa_cons (pv 0) (pa_cons (pe_op op_add (pv 2) pe_int) pa_nil))) pa_nil)) (blkOk_by (own := [("_law_k", 4)]) (N := ["_law_draw", "_law_keys_here", "_law_most", "_law_deep", "_law_k"]) (sc := defScope s__law_history) (by decide +kernel)) (fun _ _ _ _ _ => (pg_name (i := 4) sc__law_history.nd rfl (Or.inl rfl))) (fun _ _ _ _ _ => pts_nil) (fun _ _ _ _ _ => (pe_cal c__law_step (hr.mono (by omega)) (by rfl) (pa_cons (pv 0) (pa_cons (pv 1) (pa_cons (pv 3) pa_nil)))))))), ?_⟩
    refine ⟨.ref d, rfl, _, rfl, _, 1, rfl, rfl, d, _, c, ns, rfl, by omega, by omega, hD, fun r2 H2 a0 a1 hD2 hk2 => ?_⟩
    obtain ⟨n2, rfl⟩ : ∃ n : Nat, r2 = n := ⟨r2.toNat, by omega⟩
    have e2 : Ext d H H2 := .but hk2
    refine ⟨_, rfl, by omega, by omega, fun D nD => lc_steps (n := n2) (fun s => s.dLe n ∧ s.inK ks) hD2 nD (by omega) (fun j H7 Y hj e7 hD7 hY => ⟨rfl, .ref d, rfl, .ref a, rfl, _, rfl, d, a, ks, c, ns, rfl, (e2.trans e7) _ _ nad hA, l0, l1, nad, hD7, fun s v H8 ds is e8 hD8 hS => hY s v H8 ⟨ds, is⟩ e8 hD8 hS⟩) ?_⟩
    intro ss ws H7 ls hs e7 hD7 hDD7 hL7
    obtain ⟨o0, hd0⟩ := hD.at
    obtain ⟨o2, hd2⟩ := hD2.at
    exact q ss ws D H7 (by omega) (dLeL_of fun s h => (hs s h).1) (inKL_of fun s h => (hs s h).2) (e2.trans e7) hD7 (e2.free hd0 hd2 nD) hDD7 (HL.same nwD_same _ hL7)
end
end TT
namespace TT
open PySem PySem.Spec PyProof.Rows L2
section
variable {P : Program} {w : World} {K : PySem.W.Frag} {mg : Str → Option Value} {base : Heap}
theorem ok_wrA1 {f : Addr} {fd : FuncData} {n : Nat} (F : Fun K "_law_written" "_law_written" s__law_written f fd) (B : Blt mg) (c__law_written : Cal P w K mg base CX0 "_law_written" ["_law_steps"] n (spPrevWr K n)) : FnOk P w K mg base CX0 (n + 1) f fd ["_law_steps"] (spWrG K n) := by
  refine F.ok sc__law_written (fun vs H Q E h => ?_) (fun cdv A outer s H vs Q E hr h => ?_)
  · obtain ⟨b, ss, ks, rfl, _⟩ := h
    rfl
  · obtain ⟨b, ss, ks, rfl, ⟨vs, hS, hL⟩, hi, hl, hd, q⟩ := h
    refine ⟨_, (pss_one (ps_ret (pe_callB (cr_sum rfl) (by rfl) B.xsum (by decide +kernel) (pa_cons (pe_lc (own := [("_law_step_here", 1)]) (g := gName 1) (by rfl) sc__law_written.nd (pi_sq (pv 0)) (blkOk_by (own := [("_law_step_here", 1)]) (N := ["_law_steps", "_law_step_here"]) (sc := defScope s__law_written) (by decide +kernel)) (fun _ _ _ _ _ => (pg_name (i := 1) sc__law_written.nd rfl (Or.inl rfl))) (fun _ _ _ _ _ => pts_nil) (fun _ _ _ _ _ => (pe_ifExp (pt_val (pe_callB (call_isiN (K := K) rfl) (by rfl) B.xisinstance (by decide +kernel) (pa_cons (pv 1) (pa_cons (pe_bltn (v := .ty "int") (by rfl) B.xint (by decide +kernel) rfl) pa_nil)))) pe_int (pe_op op_add pe_int (pe_cal c__law_written (hr.mono (by omega)) (by rfl) (pa_cons (pe_ix (ix_tupK (K := K) rfl) (pv 1) pe_int (fun _ _ => rfl)) pa_nil)))))) pa_nil)))), ?_⟩
    refine ⟨.ref b, rfl, b, rfl, rd_sq hS fun J Gw w hG D nD => lc_it w (fun i H3 => Same H H3 ∧ H3 D = some (.lst (((ss.take i).map fun s => ((s.wr : Nat) : Int)).map V.int))) ⟨same_new nD, upd_same⟩ (fun i H3 _ h => hG H3 h.1) ?_ ?_⟩
    · rintro i v Hx H3 hi3 ⟨e3, hD3⟩ ⟨rfl, hv⟩
      have hil : i < ss.length := by rw [← hL.len]; exact hi3
      obtain ⟨s0, hs, hv⟩ := hL.get hv
      have hm := List.mem_of_getElem? hs
      have is := inKL_mem hi hm
      have ds := dLeL_mem hd hm
      have vS := HS.same e3 s0 hv
      have lt : ss.take (i + 1) = ss.take i ++ [s0] := by rw [List.take_add_one, hs]; rfl
      have lz : (((ss.take i).map fun s => ((s.wr : Nat) : Int)).map V.int).length < 1000 := by rw [List.length_map, List.length_map, List.length_take]; omega
      cases s0 with
      | k x =>
        have ev : v = .int x := vS
        subst ev
        refine ⟨rfl, .int x, rfl, ⟨_, _, _, _, true, rfl, .ty _, .base (.int x), kit_ty (by decide +kernel), _, rfl, iteTd rfl ⟨_, hD3, szl (by omega), Same.put e3 nD, ?_⟩⟩⟩
        rw [upd_same, lt, List.map_append, List.map_append]; rfl
      | r c inner =>
        obtain ⟨sa, ib, rfl, hsa, hsi⟩ := seqS_inner (K := K) vS
        cases n with
        | zero => exact ds.elim
        | succ m =>
          refine ⟨rfl, .ref sa, rfl, ⟨_, _, _, _, false, rfl, .ty _, .base (.tup hsa), kit_ty (by decide +kernel), _, rfl, iteFd rfl ?_⟩⟩
          refine rd_ixT 2 rfl (SqT.of hsa) rfl ⟨ib, inner, ks, rfl, hsi, is.2.2.2, by have := is.2.2.1; omega, ds, fun H4 e4 => ⟨1, _, rfl, rfl, _, e4 _ _ hD3, szl (by omega), Same.put (e3.trans e4) nD, ?_⟩⟩
          rw [upd_same, lt, List.map_append, List.map_append]
          show some (HO.lst (_ ++ [V.int (1 + ((wrL inner : Nat) : Int))])) = some (HO.lst (_ ++ [V.int ((1 + wrL inner : Nat) : Int)]))
          rw [show (1 + ((wrL inner : Nat) : Int)) = ((1 + wrL inner : Nat) : Int) by omega]
    · rintro H3 ⟨e3, hD3⟩
      rw [hL.len, List.take_length] at hD3
      refine ⟨D, _, rfl, SqL.of hD3, ?_⟩
      rw [wr_sum]
      exact q H3 e3
theorem ok_wrA {f : Addr} {fd : FuncData} (F : Fun K "_law_written" "_law_written" s__law_written f fd) (B : Blt mg) (gf : mg "_law_written" = some (.ref f)) (bf : Binds K fd ["_law_steps"] []) : ∀ n, FnOk P w K mg base CX0 n f fd ["_law_steps"] (spPrevWr K n)
  | 0 => ⟨fun _ _ _ _ h => h.elim, fun _ _ _ _ _ _ _ _ _ _ _ _ _ h => h.elim⟩
  | n + 1 => ok_wrA1 F B ⟨f, fd, ok_wrA F B gf bf n, gf, F.kp, bf⟩
end
end TT
namespace TT
open PySem PySem.Spec PyProof.Rows L2
section
variable {P : Program} {w : World} {K : PySem.W.Frag} {mg : Str → Option Value} {base : Heap}
theorem ok_lawTx1 {f : Addr} {fd : FuncData} {n : Nat} (F : Fun K "_law_text" "_law_text" s__law_text f fd) (B : Blt mg) (c__law_text : Cal P w K mg base CX0 "_law_text" ["_law_steps"] n (spPrevTx K n)) : FnOk P w K mg base CX0 (n + 1) f fd ["_law_steps"] (spStepsText K n) := by
  refine F.ok sc__law_text (fun vs H Q E h => ?_) (fun cdv A outer s H vs Q E hr h => ?_)
  · obtain ⟨b, vs, ss, rfl, _⟩ := h
    rfl
  · obtain ⟨b, vs, ss, rfl, hS, hL, ho, hd, hl, q⟩ := h
    refine ⟨_, (pss_cons (ps_set (i := 1) sc__law_text.nd rfl (Or.inl rfl) (pe_lst pa_nil))
  (pss_cons (ps_for PassesOwn.never rfl (pi_sq (pv 0)) (pg_name (i := 2) sc__law_text.nd rfl (Or.inl rfl))
    (pss_one (ps_if (pt_val (pe_callB call_isi (by rfl) B.xisinstance (by decide +kernel) (pa_cons (pv 2) (pa_cons (pe_bltn (v := .ty "int") (by rfl) B.xint (by decide +kernel) rfl) pa_nil))))
    (pss_one (ps_expr (pe_bm PySem.F.plainAttrs_list PySem.F.slot_list_append PySem.F.type_list_append mt_append (pv 1) (pa_cons (pe_callTy call_str_int (by rfl) B.xstr (by decide +kernel) (pa_cons (pv 2) pa_nil)) pa_nil))))
    (pss_one (ps_expr (pe_bm PySem.F.plainAttrs_list PySem.F.slot_list_append PySem.F.type_list_append mt_append (pv 1) (pa_cons (pe_op op_add_str (pe_op op_add_str (pe_op op_add_str (pe_callTy call_str_int (by rfl) B.xstr (by decide +kernel) (pa_cons (pe_ix ix_tup (pv 2) pe_int (fun _ _ => rfl)) pa_nil)) pe_str) (pe_cal c__law_text (hr.mono (by omega)) (by rfl) (pa_cons (pe_ix ix_tup (pv 2) pe_int (fun _ _ => rfl)) pa_nil))) pe_str) pa_nil)))))))
  (pss_one (ps_ret (pe_join pe_str (pv 1)))))), ?_⟩
    have ts := txT_sum ss
    have lss : ss.length ≤ 60001 := by omega
    refine ⟨Nat.zero_le _, fun o no => ?_⟩
    have g0 := same_new (o := .lst []) no
    refine ⟨.ref b, rfl, b, rfl, rd_sqW hS g0 fun J Gw w hG => for_it w (fun i σ H3 => ∃ y2, σ = [some (.ref b), some (.ref o), y2] ∧ Same H H3 ∧ H3 o = some (.lst ((((ss.take i).map fun s => SX.S s.tx)).map V.str))) ⟨none, rfl, g0, upd_same⟩ (fun i σ H3 _ h => by obtain ⟨y2, rfl, e3, _⟩ := h; exact hG H3 e3) ?_ ?_⟩
    · rintro i v σ Hx H3 hi3 ⟨y2, rfl, e3, ho3⟩ ⟨rfl, hv⟩
      obtain ⟨s0, hs, hv⟩ := hL.get hv
      have hm := List.mem_of_getElem? hs
      have vS := HS.same e3 s0 hv
      have lt : ss.take (i + 1) = ss.take i ++ [s0] := by rw [List.take_add_one, hs]; rfl
      have tl := tx_in hm
      have os := okL_mem ho hm
      have ds := dLeL_mem hd hm
      have lz : ((((ss.take i).map fun s => SX.S s.tx)).map V.str).length ≤ 60001 := by rw [List.length_map, List.length_map, List.length_take]; omega
      cases s0 with
      | k x =>
        have ev : v = .int x := vS
        subst ev
        refine ⟨.int x, rfl, ⟨_, _, _, _, true, rfl, .ty _, .base (.int x), kit_ty (by decide +kernel), _, rfl, iteTd rfl ?_⟩⟩
        refine ⟨.ref o, rfl, .inl ⟨rfl, _, SqL.of ho3⟩, .int x, rfl, x, rfl, log_small (by have := os.1; have := os.2; omega), o, _, _, rfl, rfl, ho3, szl (by omega), _, rfl, Same.put e3 no, ?_⟩
        rw [upd_same, lt, List.map_append, List.map_append, dg_text]; rfl
      | r c inner =>
        obtain ⟨sa, ib, rfl, hsa, hsi⟩ := seqS_inner (K := K) vS
        cases n with
        | zero => exact ds.elim
        | succ m =>
          refine ⟨.ref sa, rfl, ⟨_, _, _, _, false, rfl, .ty _, .base (.tup hsa), kit_ty (by decide +kernel), _, rfl, iteFd rfl ?_⟩⟩
          have p31 : c.natAbs < 10 ^ 31 := by
            have e : (10 : Nat) ^ 31 = 10000000000000000000000000000000 := by decide
            have := os.1
            have := os.2.1
            omega
          have ltx : (S.r c inner).tx.length = (dg c).length + (2 + ((txT inner).length + 1)) := by
            show (dg c ++ ([42, 40] ++ (txT inner ++ [41]))).length = _
            simp; omega
          have A1 : Str.ofString (toString c) = SX.S (dg c) := dg_text c
          have A2 : SX.S (dg c) ++ (Str.ofString "*(") = SX.S (dg c ++ [42, 40]) := SX.S_cat _ [42, 40]
          have A3 : SX.S (dg c ++ [42, 40]) ++ SX.S (txT inner) = SX.S (dg c ++ [42, 40] ++ txT inner) := SX.S_cat _ _
          have A4 : SX.S (dg c ++ [42, 40] ++ txT inner) ++ (Str.ofString ")") = SX.S (S.r c inner).tx := by
            have := SX.S_cat (dg c ++ [42, 40] ++ txT inner) [41]
            rw [show dg c ++ [42, 40] ++ txT inner ++ [41] = (S.r c inner).tx by show _ = dg c ++ ([42, 40] ++ (txT inner ++ [41])); simp] at this
            exact this
          refine ⟨.ref o, rfl, .inl ⟨rfl, _, SqL.of ho3⟩, ?_⟩
          refine rd_ixT 1 rfl (SqT.of hsa) rfl ⟨c, rfl, log_small ?_, ?_⟩
          · have e : (10 : Nat) ^ 31 ≤ 2 ^ 104 := by decide
            have e2 : (2 : Nat) ^ 104 = 20282409603651670423947251286016 := by decide
            have e3 : (2 : Nat) ^ 100 = 1267650600228229401496703205376 := by decide
            have := os.1
            have := os.2.1
            omega
          rw [A1]
          refine ⟨_, _, rfl, rfl, ?_, ?_⟩
          · rw [SX.S_len]; exact sz (by show (dg c).length + 2 ≤ 100000; omega)
          rw [A2]
          obtain ⟨ws, sq, hLi⟩ := hsi
          refine rd_ixT 2 rfl (SqT.of hsa) rfl ⟨ib, ws, inner, rfl, sq, hLi, os.2.2, ds, by omega, fun H4 e4 => ⟨_, _, rfl, rfl, ?_, ?_⟩⟩
          · rw [SX.S_len, SX.S_len, List.length_append]; exact sz (by show (dg c).length + 2 + _ ≤ 100000; omega)
          rw [A3]
          refine ⟨_, _, rfl, rfl, ?_, ?_⟩
          · rw [SX.S_len, List.length_append, List.length_append]; exact sz (by show (dg c).length + 2 + _ + 1 ≤ 100000; omega)
          rw [A4]
          refine ⟨o, _, _, rfl, rfl, e4 _ _ ho3, szl (by omega), _, rfl, Same.put (e3.trans e4) no, ?_⟩
          rw [upd_same, lt, List.map_append, List.map_append]; rfl
    · rintro σ H3 ⟨y2, rfl, e3, ho3⟩
      rw [hL.len, List.take_length] at ho3
      refine ⟨⟨_, rfl⟩, .ref o, rfl, _, o, ss.map (fun s => SX.S s.tx), rfl, rfl, .inl (SqL.of ho3), ?_, ?_⟩
      · rw [List.length_map]
        show _ + ss.length * 1 ≤ _
        omega
      · rw [join_tx]
        exact q H3 e3
theorem ok_lawTx {f : Addr} {fd : FuncData} (F : Fun K "_law_text" "_law_text" s__law_text f fd) (B : Blt mg) (gf : mg "_law_text" = some (.ref f)) (bf : Binds K fd ["_law_steps"] []) : ∀ n, FnOk P w K mg base CX0 n f fd ["_law_steps"] (spPrevTx K n)
  | 0 => ⟨fun _ _ _ _ h => h.elim, fun _ _ _ _ _ _ _ _ _ _ _ _ _ h => h.elim⟩
  | n + 1 => ok_lawTx1 F B ⟨f, fd, ok_lawTx F B gf bf n, gf, F.kp, bf⟩
end
end TT
namespace TT
open PySem PySem.Spec PyProof.Rows L2
section
variable {P : Program} {w : World} {K : PySem.W.Frag} {mg : Str → Option Value} {base : Heap}
theorem ok_plain1 {f : Addr} {fd : FuncData} {n : Nat} (F : Fun K "_law_plain" "_law_plain" s__law_plain f fd) (B : Blt mg) (c__law_plain : Cal P w K mg base CX0 "_law_plain" ["_law_steps"] n (spPrevPl K n)) : FnOk P w K mg base CX0 (n + 1) f fd ["_law_steps"] (spPlain K n) := by
  refine F.ok sc__law_plain (fun vs H Q E h => ?_) (fun cdv A outer s H vs Q E hr h => ?_)
  · obtain ⟨b, vs, ss, rfl, _⟩ := h
    rfl
  · obtain ⟨b, vs, ss, rfl, hS, hL, hd, hl, hw, q⟩ := h
    refine ⟨_, (pss_one (ps_ret (pe_lc (own := [("_law_step_here", 1)]) (g := gName 1) (by rfl) sc__law_plain.nd (pi_sq (pv 0)) (blkOk_by (own := [("_law_step_here", 1)]) (N := ["_law_steps", "_law_step_here"]) (sc := defScope s__law_plain) (by decide +kernel)) (fun _ _ _ _ _ => (pg_name (i := 1) sc__law_plain.nd rfl (Or.inl rfl))) (fun _ _ _ _ _ => pts_nil) (fun _ _ _ _ _ => (pe_ifExp (pt_val (pe_callB (call_isiN (K := K) rfl) (by rfl) B.xisinstance (by decide +kernel) (pa_cons (pv 1) (pa_cons (pe_bltn (v := .ty "int") (by rfl) B.xint (by decide +kernel) rfl) pa_nil)))) (pv 1) (pe_tup (pa_cons pe_str (pa_cons (pe_ix (ix_tupK (K := K) rfl) (pv 1) pe_int (fun _ _ => rfl)) (pa_cons (pe_callTy (call_tuple_ofK (K := K) rfl) (by rfl) B.xtuple (by decide +kernel) (pa_cons (pe_cal c__law_plain (hr.mono (by omega)) (by rfl) (pa_cons (pe_ix (ix_tupK (K := K) rfl) (pv 1) pe_int (fun _ _ => rfl)) pa_nil)) pa_nil)) pa_nil))))))))), ?_⟩
    refine ⟨.ref b, rfl, b, rfl, rd_sq hS fun J Gw w hG D nD => lc_it w (fun i H3 => Same H H3 ∧ ∃ ws, H3 D = some (.lst ws) ∧ HPL H3 (ss.take i) ws) ⟨same_new nD, [], upd_same, rfl⟩ (fun i H3 _ h => hG H3 h.1) ?_ ?_⟩
    · rintro i v Hx H3 hi3 ⟨e3, ws, hD3, hP3⟩ ⟨rfl, hv⟩
      obtain ⟨s0, hs, hv⟩ := hL.get hv
      have hm := List.mem_of_getElem? hs
      have vS := HS.same e3 s0 hv
      have lt : ss.take (i + 1) = ss.take i ++ [s0] := by rw [List.take_add_one, hs]; rfl
      have ds := dLeL_mem hd hm
      have lw : ws.length ≤ 1000 := by rw [hP3.len, List.length_take]; omega
      cases s0 with
      | k x =>
        have ev : v = .int x := vS
        subst ev
        refine ⟨rfl, .int x, rfl, ⟨_, _, _, _, true, rfl, .ty _, .base (.int x), kit_ty (by decide +kernel), _, rfl, iteTd rfl ⟨.int x, rfl, ws, hD3, szl (by omega), Same.put e3 nD, ws ++ [.int x], upd_same, ?_⟩⟩⟩
        rw [lt]
        exact HPL.put hD3 _ (HPL.snoc (s := .k x) rfl hP3)
      | r c inner =>
        obtain ⟨sa, ib, rfl, hsa, hsi⟩ := seqS_inner (K := K) vS
        obtain ⟨us, sq, hLi⟩ := hsi
        cases n with
        | zero => exact ds.elim
        | succ m =>
          have wi : 1 + wrL inner ≤ wrL ss := by
            have h1 := wrL_take hs
            have h2 := wrL_take_le ss (i + 1)
            have h3 : (S.r c inner).wr = 1 + wrL inner := rfl
            omega
          have li := len_wr inner
          refine ⟨rfl, .ref sa, rfl, ⟨_, _, _, _, false, rfl, .ty _, .base (.tup hsa), kit_ty (by decide +kernel), _, rfl, iteFd rfl ?_⟩⟩
          refine rd_ixT 1 rfl (SqT.of hsa) rfl (rd_ixT 2 rfl (SqT.of hsa) rfl ⟨ib, us, inner, rfl, sq, hLi, ds, by omega, by omega, fun p ps H4 e4 np hp hP4 => ?_⟩)
          have hD4 := e4 _ _ hD3
          refine ⟨_, _, rfl, .inl ⟨SqL.of hp, fun t nt => ?_⟩⟩
          have g1 := same_new (o := .tup ps) nt
          have nD' : D ≠ t := fun z => by rw [← z, hD4] at nt; cases nt
          refine ⟨sz (by show 3 ≤ 100000; decide), fun u nu => ?_⟩
          have g2 := same_new (o := .tup [.str "repeat", .int c, .ref t]) nu
          have hD6 := g2 _ _ (g1 _ _ hD4)
          refine ⟨ws, hD6, szl (by omega), Same.put (e3.trans (e4.trans (g1.trans g2))) nD, ws ++ [.ref u], upd_same, ?_⟩
          rw [lt]
          exact HPL.put hD6 _ (HPL.snoc (s := .r c inner) ⟨u, t, ps, rfl, upd_same, g2 _ _ upd_same, HPL.same (g1.trans g2) _ hP4⟩ (HPL.same (e4.trans (g1.trans g2)) _ hP3))
    · rintro H3 ⟨e3, ws, hD3, hP3⟩
      rw [hL.len, List.take_length] at hP3
      exact q D ws H3 e3 nD hD3 hP3
theorem ok_plain {f : Addr} {fd : FuncData} (F : Fun K "_law_plain" "_law_plain" s__law_plain f fd) (B : Blt mg) (gf : mg "_law_plain" = some (.ref f)) (bf : Binds K fd ["_law_steps"] []) : ∀ n, FnOk P w K mg base CX0 n f fd ["_law_steps"] (spPrevPl K n)
  | 0 => ⟨fun _ _ _ _ h => h.elim, fun _ _ _ _ _ _ _ _ _ _ _ _ _ h => h.elim⟩
  | n + 1 => ok_plain1 F B ⟨f, fd, ok_plain F B gf bf n, gf, F.kp, bf⟩
end
end TT
namespace TT
open PySem PySem.Spec PyProof.Rows L2
section
variable {P : Program} {w : World} {K : PySem.W.Frag} {mg : Str → Option Value} {base : Heap}
theorem ok_law {f : Addr} {fd : FuncData} {k : Nat} (F : Fun K "law" "law" s_law f fd) (B : Blt mg)
    (c__law_start : Cal P w K mg base CX0 "_law_start" ["_law_script"] k (spStart K)) (c__law_of : Cal P w K mg base CX0 "_law_of" ["_law_draw", "_law_some"] k (spOf K)) (c__law_take : Cal P w K mg base CX0 "_law_take" ["_law_draw", "_law_many"] k spTake)
    (c__law_keys : Cal P w K mg base CX0 "_law_keys" ["_law_draw", "_law_many"] k spKeysB) (c__law_same : Cal P w K mg base CX0 "_law_same" ["_law_found", "_law_due"] k (spSameW 12)) (c__law_history : Cal P w K mg base CX0 "_law_history" ["_law_draw", "_law_keys_here", "_law_most", "_law_deep"] k spHist) (c__law_written : Cal P w K mg base CX0 "_law_written" ["_law_steps"] k (spWrG K 4)) (c__law_text : Cal P w K mg base CX0 "_law_text" ["_law_steps"] k (spStepsText K 4)) (c__law_plain : Cal P w K mg base CX0 "_law_plain" ["_law_steps"] k (spPlain K 4))
    (c_format_history : Cal P w K mg base CX0 "format_history" ["history"] k (spFormatH K)) (k_format_history_history : CalN P w K mg base CX0 "format_history" 0 ["history"] k (spFormatH K) (fun _ zs => zs)) (c_parse_history : Cal P w K mg base CX0 "parse_history" ["text"] k spParseH) (k_parse_history_text : CalN P w K mg base CX0 "parse_history" 0 ["text"] k spParseH (fun _ zs => zs)) : FnOk P w K mg base CX0 (k + 1) f fd ["_law_script"] (spLaw K) := by
  refine F.ok sc_law (fun vs H Q E h => ?_) (fun cdv A outer s H vs Q E hr h => ?_)
  · obtain ⟨a, ns, rfl, _⟩ := h
    rfl
  · obtain ⟨a, ns, rfl, hS0, hl, q⟩ := h
    have hu := hu_of hr
    refine ⟨_, (pss_cons (ps_set (i := 1) sc_law.nd rfl (Or.inl rfl) (pe_cal c__law_start (hr.mono (by omega)) (by rfl) (pa_cons (pv 0) pa_nil)))
  (pss_cons (ps_for PassesOwn.never rfl (pi_range1 (by rfl) B.xrange (pa_cons pe_int pa_nil)) (pg_name (i := 2) sc_law.nd rfl (Or.inl rfl))
    (pss_cons (ps_set (i := 3) sc_law.nd rfl (Or.inl rfl) (pe_cal c__law_keys (hr.mono (by omega)) (by rfl) (pa_cons (pv 1) (pa_cons (pe_op op_add pe_int (pe_cal c__law_take (hr.mono (by omega)) (by rfl) (pa_cons (pv 1) (pa_cons pe_int pa_nil)))) pa_nil))))
  (pss_cons (ps_set (i := 4) sc_law.nd rfl (Or.inl rfl) (pe_cal c__law_history (hr.mono (by omega)) (by rfl) (pa_cons (pv 1) (pa_cons (pv 3) (pa_cons pe_int (pa_cons (pe_op op_add pe_int (pe_cal c__law_take (hr.mono (by omega)) (by rfl) (pa_cons (pv 1) (pa_cons pe_int pa_nil)))) pa_nil))))))
  (pss_cons (ps_if (PW.pt (pw_or (pt_cmpR op_gt (pe_cal c__law_written (hr.mono (by omega)) (by rfl) (pa_cons (pv 4) pa_nil)) pe_int (nomark _)) (pw_or1 (pt_cmpR op_gt (pe_callB call_len_str (by rfl) B.xlen PySem.boot_len (pa_cons (pe_cal c__law_text (hr.mono (by omega)) (by rfl) (pa_cons (pv 4) pa_nil)) pa_nil)) pe_int (nomark _)))))
    (pss_one ps_continue)
    pss_nil)
  (pss_cons (ps_par (i := 5) (j := 6) rfl sc_law.nd rfl rfl (by decide) rfl rfl (pa_cons (pe_cal c__law_text (hr.mono (by omega)) (by rfl) (pa_cons (pv 4) pa_nil)) (pa_cons (pe_cal c__law_plain (hr.mono (by omega)) (by rfl) (pa_cons (pv 4) pa_nil)) pa_nil)) rfl)
  (pss_cons (ps_for PassesOwn.never rfl (pi_range1 (by rfl) B.xrange (pa_cons pe_int pa_nil)) (pg_name (i := 7) sc_law.nd rfl (Or.inl rfl))
    (pss_cons (ps_set (i := 8) sc_law.nd rfl (Or.inl rfl) (pe_cal c_parse_history (hr.mono (by omega)) (by rfl) (pa_cons (pv 5) pa_nil)))
  (pss_cons (ps_if (pt_not (pt_val (pe_cal c__law_same (hr.mono (by omega)) (by rfl) (pa_cons (pe_lst (pa_cons (pe_cal c_format_history (hr.mono (by omega)) (by rfl) (pa_cons (pv 4) pa_nil)) (pa_cons (pv 8) pa_nil))) (pa_cons (pe_lst (pa_cons (pv 5) (pa_cons (pv 6) pa_nil))) pa_nil)))))
    (pss_one (ps_ret pe_bl))
    pss_nil)
  (pss_one (ps_expr (pe_bm PySem.F.plainAttrs_list PySem.F.slot_list_append PySem.F.type_list_append mt_append (pv 8) (pa_cons pe_int pa_nil)))))))
  (pss_one (ps_if (pt_not (pt_val (pe_cal c__law_same (hr.mono (by omega)) (by rfl) (pa_cons (pe_lst (pa_cons (pe_calN0 k_format_history_history (hr.mono (by omega)) (by rfl) (pk_cons (pe_callTy call_tuple_of (by rfl) B.xtuple (by decide +kernel) (pa_cons (pv 4) pa_nil)) pk_nil)) (pa_cons (pe_calN0 k_parse_history_text (hr.mono (by omega)) (by rfl) (pk_cons (pv 5) pk_nil)) pa_nil))) (pa_cons (pe_lst (pa_cons (pv 5) (pa_cons (pv 6) pa_nil))) pa_nil)))))
    (pss_one (ps_ret pe_bl))
    pss_nil))))))))
  (pss_cons (ps_set (i := 9) sc_law.nd rfl (Or.inl rfl) (pe_tup (pa_cons pe_str (pa_cons pe_int (pa_cons (pe_tup (pa_cons (pe_tup (pa_cons pe_str (pa_cons pe_int (pa_cons (pe_tup (pa_cons (pe_tup (pa_cons pe_str (pa_cons pe_int (pa_cons (pe_tup (pa_cons (pe_tup (pa_cons pe_str (pa_cons (pe_op op_pow pe_int pe_int) (pa_cons (pe_tup (pa_cons (pe_op op_sub pe_int (pe_op op_pow pe_int pe_int)) pa_nil)) pa_nil)))) pa_nil)) pa_nil)))) pa_nil)) pa_nil)))) pa_nil)) pa_nil)))))
  (pss_one (ps_ret (pe_cal c__law_same (hr.mono (by omega)) (by rfl) (pa_cons (pe_lst (pa_cons (pe_cal c_parse_history (hr.mono (by omega)) (by rfl) (pa_cons (pe_cal c_format_history (hr.mono (by omega)) (by rfl) (pa_cons (pe_lst (pa_cons (pv 9) pa_nil)) pa_nil)) pa_nil)) (pa_cons (pe_cal c_parse_history (hr.mono (by omega)) (by rfl) (pa_cons pe_str pa_nil)) (pa_cons (pe_cal c_format_history (hr.mono (by omega)) (by rfl) (pa_cons (pe_lst pa_nil) pa_nil)) pa_nil)))) (pa_cons (pe_lst (pa_cons (pe_lst (pa_cons (pv 9) pa_nil)) (pa_cons (pe_lst pa_nil) (pa_cons pe_str pa_nil)))) pa_nil)))))))), ?_⟩
    refine ⟨.ref a, rfl, a, ns, rfl, hS0, hl, fun d c ms H1 e1 nd hD1 => ?_⟩
    refine ⟨5, rfl, by decide, by decide, for_range (n := 5) (fun i σ H3 => ∃ y2 y3 y4 y5 y6 y7 y8, σ = [some (.ref a), some (.ref d), y2, y3, y4, y5, y6, y7, y8, none] ∧ Drw c ms H3 d) ⟨none, none, none, none, none, none, none, rfl, hD1⟩ ?_ ?_⟩
    · rintro i σ H0 hi ⟨y2, y3, y4, y5, y6, y7, y8, rfl, hD⟩
      refine ⟨.ref d, rfl, .ref d, rfl, d, 9, c, ms, rfl, by decide, by decide, hD, fun r H2 r0 r1 hD2 hk2 => ⟨1, r, rfl, rfl, d, 1 + r, c, ms, rfl, by omega, by omega, hD2, fun ks p H3 lk hasc hkB e3 hD3 np hp => ?_⟩⟩
      have npd := hD2.ne np
      have kb : ∀ x ∈ ks, -1000000000 ≤ x ∧ x ≤ 1000000000 := hasc.bd
      refine ⟨.ref d, rfl, .ref p, rfl, .ref d, rfl, d, 3, c, ms, rfl, by decide, by decide, hD3, fun r4 H4 r40 r41 hD4 hk4 => ⟨1, r4, rfl, rfl, ?_⟩⟩
      obtain ⟨dn, rfl⟩ : ∃ n : Nat, r4 = n := ⟨r4.toNat, by omega⟩
      have e4 : Ext d H3 H4 := .but hk4
      have hp4 := e4 _ _ npd hp
      have dn1 : (1 + (dn : Int)) = ((1 + dn : Nat) : Int) := by omega
      refine ⟨d, p, ks, 6, 1 + dn, c, ms, by rw [← dn1]; rfl, hp4, by omega, by omega, by decide, by omega, npd, hD4, fun ss vs hh H5 lss dss iss e5 hD5 nhh hhh hHL => ?_⟩
      have dss3 := dLeL_mono (show 1 + dn ≤ 3 by omega) ss dss
      have dss4 := dLeL_mono (show 3 ≤ 4 by decide) ss dss3
      have oks := inKL_ok kb iss
      have lvs : vs.length ≤ 6 := by rw [hHL.len]; exact lss
      have tR := txR_lenB kb ss iss dss3
      have t0 : (txT ss).length ≤ (txR ss).length := by
        cases ss with
        | nil => exact Nat.le_refl _
        | cons x xs => show (x.tx ++ txR xs).length ≤ (32 :: (x.tx ++ txR xs)).length; rw [List.length_cons]; omega
      have t1 : (txT ss).length ≤ 60000 := by
        have : ss.length * (bT 3 + 1) ≤ 6 * (bT 3 + 1) := Nat.mul_le_mul_right _ lss
        have : 6 * (bT 3 + 1) ≤ 60000 := by decide
        omega
      refine ⟨.ref hh, rfl, hh, ss, ks, rfl, ⟨vs, .inl (SqL.of hhh), hHL⟩, iss, by omega, dss4, fun H6 e6 => ⟨_, 100, rfl, rfl, _, rfl, ite2 (fun _ => ⟨_, _, _, _, _, _, _, rfl, hD5.same e6⟩) (fun hw => ?_)⟩⟩
      have wss : wrL ss ≤ 100 := by
        rcases Nat.lt_or_ge 100 (wrL ss) with l | l
        · exact absurd (decide_eq_true (by omega)) hw
        · exact l
      have sl : (SX.S (txT ss)).length ≤ sizeLine := by rw [SX.S_len]; exact sz (by omega)
      refine ⟨.ref hh, rfl, hh, vs, ss, rfl, .inl (SqL.of (e6 _ _ hhh)), HL.same e6 _ hHL, oks, dss4, t1, fun H7 e7 => ⟨_, rfl, sl, _, 4000, rfl, rfl, _, rfl, ite2 (fun _ => ⟨_, _, _, _, _, _, _, rfl, hD5.same (e6.trans e7)⟩) (fun hw2 => ?_)⟩⟩
      have t4 : (txT ss).length ≤ 4000 := by
        rw [SX.S_len] at hw2
        rcases Nat.lt_or_ge 4000 (txT ss).length with l | l
        · exact absurd (decide_eq_true (by omega)) hw2
        · exact l
      have c7 := e6.trans e7
      have hh7 := c7 _ _ hhh
      have hL7 := HL.same c7 _ hHL
      have hD7 := hD5.same c7
      clear e6 e7 c7 hhh hHL hD5 hw hw2 tR t0 hp4 e4 hD4 hD3 e3 e5 hk4 hD2 hD hk2 hp
      refine ⟨.ref hh, rfl, hh, vs, ss, rfl, .inl (SqL.of hh7), hL7, oks, dss4, t1, fun H8 e8 => ⟨.ref hh, rfl, hh, vs, ss, rfl, .inl (SqL.of (e8 _ _ hh7)), HL.same e8 _ hL7, dss4, by omega, by omega, fun pp ws H9 e9 npp hpp hPP => ?_⟩⟩
      have c9 := e8.trans e9
      have hh9 := c9 _ _ hh7
      have hL9 := HL.same c9 _ hL7
      have hD9 := hD7.same c9
      clear e8 e9 c9 hh7 hL7 hD7 npp
      refine ⟨_, _, rfl, 2, rfl, by decide, by decide, for_range (n := 2) (fun j σ HA => ∃ z7 z8, σ = [some (.ref a), some (.ref d), some (.int (0 + i)), some (.ref p), some (.ref hh), some (.str (SX.S (txT ss))), some (.ref pp), z7, z8, none] ∧ Same H9 HA) ⟨y7, y8, rfl, .refl _⟩ ?_ ?_⟩
      · rintro j σ HA hj ⟨z7, z8, rfl, eA⟩
        refine ⟨.str _, rfl, ss, rfl, oks, dss4, wss, by omega, fun q1 us HB eB nq1 hq1 hQ1 => ?_⟩
        have cB := eA.trans eB
        refine ⟨.ref hh, rfl, hh, vs, ss, rfl, .inl (SqL.of (cB _ _ hh9)), HL.same cB _ hL9, oks, dss4, wss, t1, fun HC eC => ⟨.ref q1, rfl, sz (by show 2 ≤ 100000; decide), fun l1 nl1 => ⟨.str _, rfl, .ref pp, rfl, sz (by show 2 ≤ 100000; decide), fun l2 nl2 => ?_⟩⟩⟩
        have g1 := same_new (o := .lst [.str (SX.S (txT ss)), .ref q1]) nl1
        have g2 := same_new (o := .lst [.str (SX.S (txT ss)), .ref pp]) nl2
        have c2 := eC.trans (g1.trans g2)
        have c3 := cB.trans c2
        refine ⟨_, _, rfl, eqvW_two (g2 _ _ upd_same) upd_same (EqvW.flat rfl) (hplist_eqv (n := 4) (k := 2) (c2 _ _ hq1) (c3 _ _ hpp) (HPL.same c2 _ hQ1) (HPL.same c3 _ hPP) dss4 (by omega)), fun HD eD => ⟨true, rfl, iteFd rfl ?_⟩⟩
        have q1D := eD _ _ (c2 _ _ hq1)
        refine ⟨.ref q1, rfl, .inl ⟨rfl, _, SqL.of q1D⟩, q1, us, _, rfl, rfl, q1D, szl (by rw [hQ1.len]; have := len_wr ss; omega), _, _, rfl, Same.put (c3.trans eD) (eA.free nq1)⟩
      rintro σ HA ⟨z7, z8, rfl, eA⟩
      refine ⟨.ref hh, rfl, hh, vs, rfl, .inl ⟨SqL.of (eA _ _ hh9), fun tp ntp => ?_⟩⟩
      have g0 := same_new (o := .tup vs) ntp
      have cA := eA.trans g0
      refine ⟨rfl, rfl, tp, vs, ss, rfl, .inr (SqT.of upd_same), HL.same cA _ hL9, oks, dss4, wss, t1, fun HB eB => ⟨.str _, rfl, rfl, rfl, ss, rfl, oks, dss4, wss, by omega, fun q1 us HC eC nq1 hq1 hQ1 => ⟨sz (by show 2 ≤ 100000; decide), fun l1 nl1 => ⟨.str _, rfl, .ref pp, rfl, sz (by show 2 ≤ 100000; decide), fun l2 nl2 => ?_⟩⟩⟩⟩
      have g1 := same_new (o := .lst [.str (SX.S (txT ss)), .ref q1]) nl1
      have g2 := same_new (o := .lst [.str (SX.S (txT ss)), .ref pp]) nl2
      have c2 := g1.trans g2
      have c3 := cA.trans (eB.trans (eC.trans c2))
      refine ⟨_, _, rfl, eqvW_two (g2 _ _ upd_same) upd_same (EqvW.flat rfl) (hplist_eqv (n := 4) (k := 2) (c2 _ _ hq1) (c3 _ _ hpp) (HPL.same c2 _ hQ1) (HPL.same c3 _ hPP) dss4 (by omega)), fun HD eD => ⟨true, rfl, iteFd rfl ?_⟩⟩
      exact ⟨_, _, _, _, _, _, _, rfl, hD9.same (c3.trans eD)⟩
    · rintro σ H0 ⟨y2, y3, y4, y5, y6, y7, y8, rfl, hD⟩
      have hN0 : (0 : Int) ≤ 10 ^ (30 : Int).toNat := by decide +kernel
      have hN1 : (10 : Int) ^ (30 : Int).toNat ≤ 1000000000000000000000000000000 := by decide +kernel
      refine ⟨10, 30, rfl, rfl, cpow (by decide) (by decide) (by decide), 10, 9, rfl, rfl, cpow (by decide) (by decide) (by decide), 0, _, rfl, rfl, sz (by show 1 ≤ 100000; decide), fun t1 nt1 => ⟨sz (by show 3 ≤ 100000; decide), fun t2 nt2 => ⟨sz (by show 1 ≤ 100000; decide), fun t3 nt3 => ⟨sz (by show 3 ≤ 100000; decide), fun t4 nt4 => ⟨sz (by show 1 ≤ 100000; decide), fun t5 nt5 => ⟨sz (by show 3 ≤ 100000; decide), fun t6 nt6 => ⟨sz (by show 1 ≤ 100000; decide), fun t7 nt7 => ⟨sz (by show 3 ≤ 100000; decide), fun t8 nt8 => ?_⟩⟩⟩⟩⟩⟩⟩⟩
      let x9 : Int := 0 - 10 ^ (9 : Int).toNat
      let D : S := .r 1 [.r 2 [.r 3 [.r (10 ^ (30 : Int).toNat) [.k x9]]]]
      have s8 := same_new (o := .tup [.str "repeat", .int 1, .ref t7]) nt8
      have s7 := same_new (o := .tup [.ref t6]) nt7
      have s6 := same_new (o := .tup [.str "repeat", .int 2, .ref t5]) nt6
      have s5 := same_new (o := .tup [.ref t4]) nt5
      have s4 := same_new (o := .tup [.str "repeat", .int 3, .ref t3]) nt4
      have s3 := same_new (o := .tup [.ref t2]) nt3
      have s2 := same_new (o := .tup [.str "repeat", .int (10 ^ (30 : Int).toNat), .ref t1]) nt2
      have s1 := same_new (o := .tup [.int x9]) nt1
      have k8 := s8
      have k7 := s7.trans k8
      have k6 := s6.trans k7
      have k5 := s5.trans k6
      have k4 := s4.trans k5
      have k3 := s3.trans k4
      have k2 := s2.trans k3
      have k1 := s1.trans k2
      have b1 := k2 _ _ upd_same
      have b2 := k3 _ _ upd_same
      have b3 := k4 _ _ upd_same
      have b4 := k5 _ _ upd_same
      have b5 := k6 _ _ upd_same
      have b6 := k7 _ _ upd_same
      have b7 := k8 _ _ upd_same
      have b8 := upd_same (H := (upd (upd (upd (upd (upd (upd (upd H0 t1 (HO.tup [.int x9])) t2 (HO.tup [.str "repeat", .int (10 ^ (30 : Int).toNat), .ref t1])) t3 (HO.tup [.ref t2])) t4 (HO.tup [.str "repeat", .int 3, .ref t3])) t5 (HO.tup [.ref t4])) t6 (HO.tup [.str "repeat", .int 2, .ref t5])) t7 (HO.tup [.ref t6]))) (a := t8) (o := .tup [.str "repeat", .int 1, .ref t7])
      have hP : HPL (upd (upd (upd (upd (upd (upd (upd (upd H0 t1 (HO.tup [.int x9])) t2 (HO.tup [.str "repeat", .int (10 ^ (30 : Int).toNat), .ref t1])) t3 (HO.tup [.ref t2])) t4 (HO.tup [.str "repeat", .int 3, .ref t3])) t5 (HO.tup [.ref t4])) t6 (HO.tup [.str "repeat", .int 2, .ref t5])) t7 (HO.tup [.ref t6])) t8 (HO.tup [.str "repeat", .int 1, .ref t7])) [D] [.ref t8] := ⟨.ref t8, [], rfl, ⟨t8, t7, [.ref t6], rfl, b8, b7, .ref t6, [], rfl, ⟨t6, t5, [.ref t4], rfl, b6, b5, .ref t4, [], rfl, ⟨t4, t3, [.ref t2], rfl, b4, b3, .ref t2, [], rfl, ⟨t2, t1, [.int x9], rfl, b2, b1, .int x9, [], rfl, rfl, rfl⟩, rfl⟩, rfl⟩, rfl⟩, rfl⟩
      have oD : okL [D] := ⟨⟨by decide, by decide, ⟨by decide, by decide, ⟨by decide, by decide, ⟨hN0, hN1, ⟨by decide +kernel, by decide +kernel⟩, trivial⟩, trivial⟩, trivial⟩, trivial⟩, trivial⟩
      have dD : dLeL [D] 4 := ⟨⟨⟨⟨⟨trivial, trivial⟩, trivial⟩, trivial⟩, trivial⟩, trivial⟩
      have wD : wrL [D] ≤ 100 := by decide
      have lD : (txT [D]).length ≤ 10000 := by decide +kernel
      have e0 : SX.S (txT []) = Str.ofString "" := by decide +kernel
      refine ⟨.ref t8, rfl, sz (by show 1 ≤ 100000; decide), fun l1 nl1 => ⟨l1, [.ref t8], [D], rfl, .inl (SqL.of upd_same), HPL.hl _ (HPL.same (same_new nl1) _ hP), oD, dD, wD, by omega, fun H1 e1 => ⟨[D], rfl, oD, dD, wD, lD, fun q1 us H2 e2 nq1 hq1 hQ1 => ⟨[], by rw [e0]; rfl, trivial, trivial, by decide, by decide, fun q2 us2 H3 e3 nq2 hq2 hQ2 => ⟨Nat.zero_le _, fun l2 nl2 => ⟨l2, [], [], rfl, .inl (SqL.of upd_same), rfl, trivial, trivial, by decide, by decide, fun H4 e4 => ⟨sz (by show 3 ≤ 100000; decide), fun l3 nl3 => ⟨.ref t8, rfl, sz (by show 1 ≤ 100000; decide), fun l4 nl4 => ⟨Nat.zero_le _, fun l5 nl5 => ⟨sz (by show 3 ≤ 100000; decide), fun l6 nl6 => ?_⟩⟩⟩⟩⟩⟩⟩⟩⟩⟩
      have z6 := same_new (o := .lst [.ref l4, .ref l5, .str ""]) nl6
      have z5 := (same_new (o := .lst []) nl5).trans z6
      have z4 := (same_new (o := .lst [.ref t8]) nl4).trans z5
      have z3 := (same_new (o := .lst [.ref q1, .ref q2, .str (SX.S (txT []))]) nl3).trans z4
      have z2 := (same_new (o := .lst []) nl2).trans (e4.trans z3)
      have zq := e3.trans z2
      have za := (same_new (o := .lst [.ref t8]) nl1).trans (e1.trans (e2.trans zq))
      refine ⟨_, _, rfl, .inr ⟨l3, l6, _, _, rfl, rfl, .inl ⟨z4 _ _ upd_same, upd_same⟩, rfl, by show 3 ≤ 6000; decide, fun i u v gu gv => ?_⟩, fun H9 e9 => q _⟩
      match i, gu, gv with
      | 0, gu, gv => cases gu; cases gv; exact hplist_eqv (n := 4) (k := 2) (zq _ _ hq1) (z5 _ _ upd_same) (HPL.same zq _ hQ1) (HPL.same za _ hP) dD (by omega)
      | 1, gu, gv => cases gu; cases gv; exact hplist_eqv (n := 4) (k := 2) (ss := []) (z2 _ _ hq2) (z6 _ _ upd_same) (HPL.same z2 _ hQ2) rfl trivial (by decide)
      | 2, gu, gv => cases gu; cases gv; rw [e0]; exact EqvW.flat rfl
      | i + 3, gu, gv => cases gu
end
end TT
namespace TT
open PySem PySem.Spec PyProof.Rows L2
theorem all_mk {l : PySem.W.OpenLaw} {w : World} {K : PySem.W.Frag} {h : Heap} {mg : Str → Option Value} {fa : Addr} (X : K.In h) (G : h.Ns mainGlobals mg) (hfa : mg "law" = some (.ref fa))
    {f0 : Addr} {od0 an0 : Option Addr} {sl0 : Array (Option Value)} {oc0 kV0 dc0 pm0 cd0 ct0 : Value}
    {f1 : Addr} {od1 an1 : Option Addr} {sl1 : Array (Option Value)} {oc1 kV1 dc1 pm1 cd1 ct1 : Value}
    {f2 : Addr} {od2 an2 : Option Addr} {sl2 : Array (Option Value)} {oc2 kV2 dc2 pm2 cd2 ct2 : Value}
    {f3 : Addr} {od3 an3 : Option Addr} {sl3 : Array (Option Value)} {oc3 kV3 dc3 pm3 cd3 ct3 : Value}
    {f4 : Addr} {od4 an4 : Option Addr} {sl4 : Array (Option Value)} {oc4 kV4 dc4 pm4 cd4 ct4 : Value}
    {f5 : Addr} {od5 an5 : Option Addr} {sl5 : Array (Option Value)} {oc5 kV5 dc5 pm5 cd5 ct5 : Value}
    {f6 : Addr} {od6 an6 : Option Addr} {sl6 : Array (Option Value)} {oc6 kV6 dc6 pm6 cd6 ct6 : Value}
    {f7 : Addr} {od7 an7 : Option Addr} {sl7 : Array (Option Value)} {oc7 kV7 dc7 pm7 cd7 ct7 : Value}
    {f8 : Addr} {od8 an8 : Option Addr} {sl8 : Array (Option Value)} {oc8 kV8 dc8 pm8 cd8 ct8 : Value}
    {f9 : Addr} {od9 an9 : Option Addr} {sl9 : Array (Option Value)} {oc9 kV9 dc9 pm9 cd9 ct9 : Value}
    {f10 : Addr} {od10 an10 : Option Addr} {sl10 : Array (Option Value)} {oc10 kV10 dc10 pm10 cd10 ct10 : Value}
    {f11 : Addr} {od11 an11 : Option Addr} {sl11 : Array (Option Value)} {oc11 kV11 dc11 pm11 cd11 ct11 : Value}
    {f12 : Addr} {od12 an12 : Option Addr} {sl12 : Array (Option Value)} {oc12 kV12 dc12 pm12 cd12 ct12 : Value}
    {f13 : Addr} {od13 an13 : Option Addr} {sl13 : Array (Option Value)} {oc13 kV13 dc13 pm13 cd13 ct13 : Value}
    {f14 : Addr} {od14 an14 : Option Addr} {sl14 : Array (Option Value)} {oc14 kV14 dc14 pm14 cd14 ct14 : Value}
    {f15 : Addr} {od15 an15 : Option Addr} {sl15 : Array (Option Value)} {oc15 kV15 dc15 pm15 cd15 ct15 : Value}
    {f16 : Addr} {od16 an16 : Option Addr} {sl16 : Array (Option Value)} {oc16 kV16 dc16 pm16 cd16 ct16 : Value}
    {f17 : Addr} {od17 an17 : Option Addr} {sl17 : Array (Option Value)} {oc17 kV17 dc17 pm17 cd17 ct17 : Value}
    {f18 : Addr} {od18 an18 : Option Addr} {sl18 : Array (Option Value)} {oc18 kV18 dc18 pm18 cd18 ct18 : Value}
    {f19 : Addr} {od19 an19 : Option Addr} {sl19 : Array (Option Value)} {oc19 kV19 dc19 pm19 cd19 ct19 : Value}
    {f20 : Addr} {od20 an20 : Option Addr} {sl20 : Array (Option Value)} {oc20 kV20 dc20 pm20 cd20 ct20 : Value}
    {f21 : Addr} {od21 an21 : Option Addr} {sl21 : Array (Option Value)} {oc21 kV21 dc21 pm21 cd21 ct21 : Value}
    {f22 : Addr} {od22 an22 : Option Addr} {sl22 : Array (Option Value)} {oc22 kV22 dc22 pm22 cd22 ct22 : Value}
    {t_KEY_LIMIT : Tok}
    {t_MAX_STEPS : Tok}
    {t_MAX_NESTING : Tok}
    {t_COUNT_LIMIT : Tok}
    {t_MAX_DIGITS : Tok}
    (a0 : PySem.W.nsIn K mainGlobals "is_key" = some (some (.ref f0)))
    (l0 : K.lookup f0 = some ⟨oc0, od0, .func (PySem.W.fnOf "is_key" "is_key" (defArgs s_is_key) (defBody s_is_key) (defScope s_is_key) .none kV0 dc0 pm0 an0 cd0 ct0), sl0⟩)
    (c0 : PySem.W.codeIn K cd0 "is_key" = true)
    (k0 : PySem.W.keepIn K (.ref f0) = true)
    (a1 : PySem.W.nsIn K mainGlobals "is_round" = some (some (.ref f1)))
    (l1 : K.lookup f1 = some ⟨oc1, od1, .func (PySem.W.fnOf "is_round" "is_round" (defArgs s_is_round) (defBody s_is_round) (defScope s_is_round) .none kV1 dc1 pm1 an1 cd1 ct1), sl1⟩)
    (c1 : PySem.W.codeIn K cd1 "is_round" = true)
    (k1 : PySem.W.keepIn K (.ref f1) = true)
    (a2 : PySem.W.nsIn K mainGlobals "check_steps" = some (some (.ref f2)))
    (l2 : K.lookup f2 = some ⟨oc2, od2, .func (PySem.W.fnOf "check_steps" "check_steps" (defArgs s_check_steps) (defBody s_check_steps) (defScope s_check_steps) .none kV2 dc2 pm2 an2 cd2 ct2), sl2⟩)
    (c2 : PySem.W.codeIn K cd2 "check_steps" = true)
    (k2 : PySem.W.keepIn K (.ref f2) = true)
    (a3 : PySem.W.nsIn K mainGlobals "check_history" = some (some (.ref f3)))
    (l3 : K.lookup f3 = some ⟨oc3, od3, .func (PySem.W.fnOf "check_history" "check_history" (defArgs s_check_history) (defBody s_check_history) (defScope s_check_history) .none kV3 dc3 pm3 an3 cd3 ct3), sl3⟩)
    (c3 : PySem.W.codeIn K cd3 "check_history" = true)
    (k3 : PySem.W.keepIn K (.ref f3) = true)
    (a4 : PySem.W.nsIn K mainGlobals "parse_integer" = some (some (.ref f4)))
    (l4 : K.lookup f4 = some ⟨oc4, od4, .func (PySem.W.fnOf "parse_integer" "parse_integer" (defArgs s_parse_integer) (defBody s_parse_integer) (defScope s_parse_integer) .none kV4 dc4 pm4 an4 cd4 ct4), sl4⟩)
    (c4 : PySem.W.codeIn K cd4 "parse_integer" = true)
    (k4 : PySem.W.keepIn K (.ref f4) = true)
    (a5 : PySem.W.nsIn K mainGlobals "steps_text" = some (some (.ref f5)))
    (l5 : K.lookup f5 = some ⟨oc5, od5, .func (PySem.W.fnOf "steps_text" "steps_text" (defArgs s_steps_text) (defBody s_steps_text) (defScope s_steps_text) .none kV5 dc5 pm5 an5 cd5 ct5), sl5⟩)
    (c5 : PySem.W.codeIn K cd5 "steps_text" = true)
    (k5 : PySem.W.keepIn K (.ref f5) = true)
    (a6 : PySem.W.nsIn K mainGlobals "step_text" = some (some (.ref f6)))
    (l6 : K.lookup f6 = some ⟨oc6, od6, .func (PySem.W.fnOf "step_text" "step_text" (defArgs s_step_text) (defBody s_step_text) (defScope s_step_text) .none kV6 dc6 pm6 an6 cd6 ct6), sl6⟩)
    (c6 : PySem.W.codeIn K cd6 "step_text" = true)
    (k6 : PySem.W.keepIn K (.ref f6) = true)
    (a7 : PySem.W.nsIn K mainGlobals "format_history" = some (some (.ref f7)))
    (l7 : K.lookup f7 = some ⟨oc7, od7, .func (PySem.W.fnOf "format_history" "format_history" (defArgs s_format_history) (defBody s_format_history) (defScope s_format_history) .none kV7 dc7 pm7 an7 cd7 ct7), sl7⟩)
    (c7 : PySem.W.codeIn K cd7 "format_history" = true)
    (k7 : PySem.W.keepIn K (.ref f7) = true)
    (a8 : PySem.W.nsIn K mainGlobals "integer_end" = some (some (.ref f8)))
    (l8 : K.lookup f8 = some ⟨oc8, od8, .func (PySem.W.fnOf "integer_end" "integer_end" (defArgs s_integer_end) (defBody s_integer_end) (defScope s_integer_end) .none kV8 dc8 pm8 an8 cd8 ct8), sl8⟩)
    (c8 : PySem.W.codeIn K cd8 "integer_end" = true)
    (k8 : PySem.W.keepIn K (.ref f8) = true)
    (a9 : PySem.W.nsIn K mainGlobals "read_step" = some (some (.ref f9)))
    (l9 : K.lookup f9 = some ⟨oc9, od9, .func (PySem.W.fnOf "read_step" "read_step" (defArgs s_read_step) (defBody s_read_step) (defScope s_read_step) .none kV9 dc9 pm9 an9 cd9 ct9), sl9⟩)
    (c9 : PySem.W.codeIn K cd9 "read_step" = true)
    (k9 : PySem.W.keepIn K (.ref f9) = true)
    (a10 : PySem.W.nsIn K mainGlobals "read_steps" = some (some (.ref f10)))
    (l10 : K.lookup f10 = some ⟨oc10, od10, .func (PySem.W.fnOf "read_steps" "read_steps" (defArgs s_read_steps) (defBody s_read_steps) (defScope s_read_steps) .none kV10 dc10 pm10 an10 cd10 ct10), sl10⟩)
    (c10 : PySem.W.codeIn K cd10 "read_steps" = true)
    (k10 : PySem.W.keepIn K (.ref f10) = true)
    (a11 : PySem.W.nsIn K mainGlobals "parse_history" = some (some (.ref f11)))
    (l11 : K.lookup f11 = some ⟨oc11, od11, .func (PySem.W.fnOf "parse_history" "parse_history" (defArgs s_parse_history) (defBody s_parse_history) (defScope s_parse_history) .none kV11 dc11 pm11 an11 cd11 ct11), sl11⟩)
    (c11 : PySem.W.codeIn K cd11 "parse_history" = true)
    (k11 : PySem.W.keepIn K (.ref f11) = true)
    (a12 : PySem.W.nsIn K mainGlobals "_law_start" = some (some (.ref f12)))
    (l12 : K.lookup f12 = some ⟨oc12, od12, .func (PySem.W.fnOf "_law_start" "_law_start" (defArgs s__law_start) (defBody s__law_start) (defScope s__law_start) .none kV12 dc12 pm12 an12 cd12 ct12), sl12⟩)
    (c12 : PySem.W.codeIn K cd12 "_law_start" = true)
    (k12 : PySem.W.keepIn K (.ref f12) = true)
    (a13 : PySem.W.nsIn K mainGlobals "_law_take" = some (some (.ref f13)))
    (l13 : K.lookup f13 = some ⟨oc13, od13, .func (PySem.W.fnOf "_law_take" "_law_take" (defArgs s__law_take) (defBody s__law_take) (defScope s__law_take) .none kV13 dc13 pm13 an13 cd13 ct13), sl13⟩)
    (c13 : PySem.W.codeIn K cd13 "_law_take" = true)
    (k13 : PySem.W.keepIn K (.ref f13) = true)
    (a14 : PySem.W.nsIn K mainGlobals "_law_of" = some (some (.ref f14)))
    (l14 : K.lookup f14 = some ⟨oc14, od14, .func (PySem.W.fnOf "_law_of" "_law_of" (defArgs s__law_of) (defBody s__law_of) (defScope s__law_of) .none kV14 dc14 pm14 an14 cd14 ct14), sl14⟩)
    (c14 : PySem.W.codeIn K cd14 "_law_of" = true)
    (k14 : PySem.W.keepIn K (.ref f14) = true)
    (a15 : PySem.W.nsIn K mainGlobals "_law_same" = some (some (.ref f15)))
    (l15 : K.lookup f15 = some ⟨oc15, od15, .func (PySem.W.fnOf "_law_same" "_law_same" (defArgs s__law_same) (defBody s__law_same) (defScope s__law_same) .none kV15 dc15 pm15 an15 cd15 ct15), sl15⟩)
    (c15 : PySem.W.codeIn K cd15 "_law_same" = true)
    (k15 : PySem.W.keepIn K (.ref f15) = true)
    (a16 : PySem.W.nsIn K mainGlobals "_law_keys" = some (some (.ref f16)))
    (l16 : K.lookup f16 = some ⟨oc16, od16, .func (PySem.W.fnOf "_law_keys" "_law_keys" (defArgs s__law_keys) (defBody s__law_keys) (defScope s__law_keys) .none kV16 dc16 pm16 an16 cd16 ct16), sl16⟩)
    (c16 : PySem.W.codeIn K cd16 "_law_keys" = true)
    (k16 : PySem.W.keepIn K (.ref f16) = true)
    (a17 : PySem.W.nsIn K mainGlobals "_law_step" = some (some (.ref f17)))
    (l17 : K.lookup f17 = some ⟨oc17, od17, .func (PySem.W.fnOf "_law_step" "_law_step" (defArgs s__law_step) (defBody s__law_step) (defScope s__law_step) .none kV17 dc17 pm17 an17 cd17 ct17), sl17⟩)
    (c17 : PySem.W.codeIn K cd17 "_law_step" = true)
    (k17 : PySem.W.keepIn K (.ref f17) = true)
    (a18 : PySem.W.nsIn K mainGlobals "_law_history" = some (some (.ref f18)))
    (l18 : K.lookup f18 = some ⟨oc18, od18, .func (PySem.W.fnOf "_law_history" "_law_history" (defArgs s__law_history) (defBody s__law_history) (defScope s__law_history) .none kV18 dc18 pm18 an18 cd18 ct18), sl18⟩)
    (c18 : PySem.W.codeIn K cd18 "_law_history" = true)
    (k18 : PySem.W.keepIn K (.ref f18) = true)
    (a19 : PySem.W.nsIn K mainGlobals "_law_written" = some (some (.ref f19)))
    (l19 : K.lookup f19 = some ⟨oc19, od19, .func (PySem.W.fnOf "_law_written" "_law_written" (defArgs s__law_written) (defBody s__law_written) (defScope s__law_written) .none kV19 dc19 pm19 an19 cd19 ct19), sl19⟩)
    (c19 : PySem.W.codeIn K cd19 "_law_written" = true)
    (k19 : PySem.W.keepIn K (.ref f19) = true)
    (a20 : PySem.W.nsIn K mainGlobals "_law_text" = some (some (.ref f20)))
    (l20 : K.lookup f20 = some ⟨oc20, od20, .func (PySem.W.fnOf "_law_text" "_law_text" (defArgs s__law_text) (defBody s__law_text) (defScope s__law_text) .none kV20 dc20 pm20 an20 cd20 ct20), sl20⟩)
    (c20 : PySem.W.codeIn K cd20 "_law_text" = true)
    (k20 : PySem.W.keepIn K (.ref f20) = true)
    (a21 : PySem.W.nsIn K mainGlobals "_law_plain" = some (some (.ref f21)))
    (l21 : K.lookup f21 = some ⟨oc21, od21, .func (PySem.W.fnOf "_law_plain" "_law_plain" (defArgs s__law_plain) (defBody s__law_plain) (defScope s__law_plain) .none kV21 dc21 pm21 an21 cd21 ct21), sl21⟩)
    (c21 : PySem.W.codeIn K cd21 "_law_plain" = true)
    (k21 : PySem.W.keepIn K (.ref f21) = true)
    (a22 : PySem.W.nsIn K mainGlobals "law" = some (some (.ref f22)))
    (l22 : K.lookup f22 = some ⟨oc22, od22, .func (PySem.W.fnOf "law" "law" (defArgs s_law) (defBody s_law) (defScope s_law) .none kV22 dc22 pm22 an22 cd22 ct22), sl22⟩)
    (c22 : PySem.W.codeIn K cd22 "law" = true)
    (k22 : PySem.W.keepIn K (.ref f22) = true)
    (b_all : PySem.W.nsIn K mainGlobals "all" = some none)
    (b_bool : PySem.W.nsIn K mainGlobals "bool" = some none)
    (b_int : PySem.W.nsIn K mainGlobals "int" = some none)
    (b_isinstance : PySem.W.nsIn K mainGlobals "isinstance" = some none)
    (b_len : PySem.W.nsIn K mainGlobals "len" = some none)
    (b_list : PySem.W.nsIn K mainGlobals "list" = some none)
    (b_range : PySem.W.nsIn K mainGlobals "range" = some none)
    (b_str : PySem.W.nsIn K mainGlobals "str" = some none)
    (b_sum : PySem.W.nsIn K mainGlobals "sum" = some none)
    (b_tuple : PySem.W.nsIn K mainGlobals "tuple" = some none)
    (b_zip : PySem.W.nsIn K mainGlobals "zip" = some none)
    (g_KEY_LIMIT : PySem.W.nsIn K mainGlobals "KEY_LIMIT" = some (some (.int 1000000000 t_KEY_LIMIT)))
    (g_MAX_STEPS : PySem.W.nsIn K mainGlobals "MAX_STEPS" = some (some (.int 100 t_MAX_STEPS)))
    (g_MAX_NESTING : PySem.W.nsIn K mainGlobals "MAX_NESTING" = some (some (.int 4 t_MAX_NESTING)))
    (g_COUNT_LIMIT : PySem.W.nsIn K mainGlobals "COUNT_LIMIT" = some (some (.int 1000000000000000000000000000000 t_COUNT_LIMIT)))
    (g_MAX_DIGITS : PySem.W.nsIn K mainGlobals "MAX_DIGITS" = some (some (.int 31 t_MAX_DIGITS))) :
    ∃ fd : FuncData, (∀ (s : Shared) (v : Value), BindsTo s fd ⟨[v], []⟩ [("_law_script", v)]) ∧ ∀ base : Heap, K.In base → base.Ns mainGlobals mg → FnOk l.prog w K mg base CX0 14 fa fd ["_law_script"] (spLaw K) := by
  have e := hfa.symm.trans (PySem.W.mg_of X G a22)
  cases e
  have B : Blt mg := ⟨PySem.W.mg_none_of X G b_all, PySem.W.mg_none_of X G b_bool, PySem.W.mg_none_of X G b_int, PySem.W.mg_none_of X G b_isinstance, PySem.W.mg_none_of X G b_len, PySem.W.mg_none_of X G b_list, PySem.W.mg_none_of X G b_range, PySem.W.mg_none_of X G b_str, PySem.W.mg_none_of X G b_sum, PySem.W.mg_none_of X G b_tuple, PySem.W.mg_none_of X G b_zip⟩
  have Gc : Cst mg := ⟨⟨_, PySem.W.mg_of X G g_KEY_LIMIT⟩, ⟨_, PySem.W.mg_of X G g_MAX_STEPS⟩, ⟨_, PySem.W.mg_of X G g_MAX_NESTING⟩, ⟨_, PySem.W.mg_of X G g_COUNT_LIMIT⟩, ⟨_, PySem.W.mg_of X G g_MAX_DIGITS⟩⟩
  refine ⟨PySem.W.fnOf "law" "law" (defArgs s_law) (defBody s_law) (defScope s_law) .none kV22 dc22 pm22 an22 cd22 ct22, fun s v => .of_eq rfl, fun base _ _ => ?_⟩
  have F_is_key := fun_mk (st := s_is_key) l0 c0 k0
  have b_is_key := F_is_key.binds (ps := ["number"]) fun _ _ _ _ _ _ us hl => match us, hl with | [_], _ => rfl
  have g_is_key := PySem.W.mg_of X G a0
  have O_is_key : FnOk l.prog w K mg base CX0 1 f0 _ ["number"] spIsKey := ok_is_key (k := 0) F_is_key Gc  
  have c_is_key : Cal l.prog w K mg base CX0 "is_key" ["number"] 1 spIsKey := ⟨_, _, O_is_key, g_is_key, F_is_key.kp, b_is_key⟩
  have F_is_round := fun_mk (st := s_is_round) l1 c1 k1
  have b_is_round := F_is_round.binds (ps := ["step"]) fun _ _ _ _ _ _ us hl => match us, hl with | [_], _ => rfl
  have g_is_round := PySem.W.mg_of X G a1
  have O_is_round : FnOk l.prog w K mg base CX0 1 f1 _ ["step"] spRound := ok_round (k := 0) F_is_round B Gc  
  have c_is_round : Cal l.prog w K mg base CX0 "is_round" ["step"] 1 spRound := ⟨_, _, O_is_round, g_is_round, F_is_round.kp, b_is_round⟩
  have F_check_steps := fun_mk (st := s_check_steps) l2 c2 k2
  have b_check_steps := F_check_steps.binds (ps := ["steps", "start", "depth"]) fun _ _ _ _ _ _ us hl => match us, hl with | [_, _, _], _ => rfl
  have g_check_steps := PySem.W.mg_of X G a2
  have c_check_steps : Cal l.prog w K mg base CX0 "check_steps" ["steps", "start", "depth"] 6 (spCheck K 4) := ⟨_, _, ok_check F_check_steps B Gc (c_is_key.mono (show 1 ≤ 1 by decide)) (c_is_round.mono (show 1 ≤ 1 by decide)) g_check_steps b_check_steps 5, g_check_steps, F_check_steps.kp, b_check_steps⟩
  have F_check_history := fun_mk (st := s_check_history) l3 c3 k3
  have b_check_history := F_check_history.binds (ps := ["history"]) fun _ _ _ _ _ _ us hl => match us, hl with | [_], _ => rfl
  have g_check_history := PySem.W.mg_of X G a3
  have O_check_history : FnOk l.prog w K mg base CX0 7 f3 _ ["history"] (spCheckH K) := ok_checkH (k := 6) F_check_history (c_check_steps.mono (show 6 ≤ 6 by decide)) 
  have c_check_history : Cal l.prog w K mg base CX0 "check_history" ["history"] 7 (spCheckH K) := ⟨_, _, O_check_history, g_check_history, F_check_history.kp, b_check_history⟩
  have F_parse_integer := fun_mk (st := s_parse_integer) l4 c4 k4
  have b_parse_integer := F_parse_integer.binds (ps := ["text"]) fun _ _ _ _ _ _ us hl => match us, hl with | [_], _ => rfl
  have g_parse_integer := PySem.W.mg_of X G a4
  have O_parse_integer : FnOk l.prog w K mg base CX0 1 f4 _ ["text"] spParseI := ok_parseI (k := 0) F_parse_integer B Gc  
  have c_parse_integer : Cal l.prog w K mg base CX0 "parse_integer" ["text"] 1 spParseI := ⟨_, _, O_parse_integer, g_parse_integer, F_parse_integer.kp, b_parse_integer⟩
  have F_steps_text := fun_mk (st := s_steps_text) l5 c5 k5
  have b_steps_text := F_steps_text.binds (ps := ["steps"]) fun _ _ _ _ _ _ us hl => match us, hl with | [_], _ => rfl
  have g_steps_text := PySem.W.mg_of X G a5
  have F_step_text := fun_mk (st := s_step_text) l6 c6 k6
  have b_step_text := F_step_text.binds (ps := ["step"]) fun _ _ _ _ _ _ us hl => match us, hl with | [_], _ => rfl
  have g_step_text := PySem.W.mg_of X G a6
  have c_steps_text : Cal l.prog w K mg base CX0 "steps_text" ["steps"] 10 (spStepsText K 4) := ⟨_, _, ok_txAll (k := 0) F_steps_text F_step_text B g_steps_text b_steps_text g_step_text b_step_text 5, g_steps_text, F_steps_text.kp, b_steps_text⟩
  have F_format_history := fun_mk (st := s_format_history) l7 c7 k7
  have b_format_history := F_format_history.binds (ps := ["history"]) fun _ _ _ _ _ _ us hl => match us, hl with | [_], _ => rfl
  have g_format_history := PySem.W.mg_of X G a7
  have O_format_history : FnOk l.prog w K mg base CX0 11 f7 _ ["history"] (spFormatH K) := ok_formatH (k := 10) F_format_history (c_check_history.mono (show 7 ≤ 10 by decide)) (c_steps_text.mono (show 10 ≤ 10 by decide)) 
  have c_format_history : Cal l.prog w K mg base CX0 "format_history" ["history"] 11 (spFormatH K) := ⟨_, _, O_format_history, g_format_history, F_format_history.kp, b_format_history⟩
  have n_format_history_history : CalN l.prog w K mg base CX0 "format_history" 0 ["history"] 11 (spFormatH K) (fun _ zs => zs) := ⟨_, _, ["history"], fun _ zs => zs, O_format_history, g_format_history, F_format_history.kp, ⟨fun s us ws _ l1 l2 => match us, ws, l1, l2 with | [], [_], _, _ => .of_eq rfl, fun _ r => r⟩⟩
  have F_integer_end := fun_mk (st := s_integer_end) l8 c8 k8
  have b_integer_end := F_integer_end.binds (ps := ["text", "start"]) fun _ _ _ _ _ _ us hl => match us, hl with | [_, _], _ => rfl
  have g_integer_end := PySem.W.mg_of X G a8
  have O_integer_end : FnOk l.prog w K mg base CX0 1 f8 _ ["text", "start"] spIntEnd := ok_intEnd (k := 0) F_integer_end B  
  have c_integer_end : Cal l.prog w K mg base CX0 "integer_end" ["text", "start"] 1 spIntEnd := ⟨_, _, O_integer_end, g_integer_end, F_integer_end.kp, b_integer_end⟩
  have F_read_step := fun_mk (st := s_read_step) l9 c9 k9
  have b_read_step := F_read_step.binds (ps := ["text", "start", "depth"]) fun _ _ _ _ _ _ us hl => match us, hl with | [_, _, _], _ => rfl
  have g_read_step := PySem.W.mg_of X G a9
  have F_read_steps := fun_mk (st := s_read_steps) l10 c10 k10
  have b_read_steps := F_read_steps.binds (ps := ["text", "start", "depth"]) fun _ _ _ _ _ _ us hl => match us, hl with | [_, _, _], _ => rfl
  have g_read_steps := PySem.W.mg_of X G a10
  have c_read_steps : Cal l.prog w K mg base CX0 "read_steps" ["text", "start", "depth"] 11 (spRdSteps 4) := ⟨_, _, ok_rdAll (k := 1) F_read_steps F_read_step B Gc (c_integer_end.mono (show 1 ≤ 1 by decide)) (c_parse_integer.mono (show 1 ≤ 1 by decide)) g_read_steps b_read_steps g_read_step b_read_step 5, g_read_steps, F_read_steps.kp, b_read_steps⟩
  have F_parse_history := fun_mk (st := s_parse_history) l11 c11 k11
  have b_parse_history := F_parse_history.binds (ps := ["text"]) fun _ _ _ _ _ _ us hl => match us, hl with | [_], _ => rfl
  have g_parse_history := PySem.W.mg_of X G a11
  have O_parse_history : FnOk l.prog w K mg base CX0 12 f11 _ ["text"] spParseH := ok_parseH (k := 11) F_parse_history B (c_read_steps.mono (show 11 ≤ 11 by decide)) (c_check_history.mono (show 7 ≤ 11 by decide)) 
  have c_parse_history : Cal l.prog w K mg base CX0 "parse_history" ["text"] 12 spParseH := ⟨_, _, O_parse_history, g_parse_history, F_parse_history.kp, b_parse_history⟩
  have n_parse_history_text : CalN l.prog w K mg base CX0 "parse_history" 0 ["text"] 12 spParseH (fun _ zs => zs) := ⟨_, _, ["text"], fun _ zs => zs, O_parse_history, g_parse_history, F_parse_history.kp, ⟨fun s us ws _ l1 l2 => match us, ws, l1, l2 with | [], [_], _, _ => .of_eq rfl, fun _ r => r⟩⟩
  have F__law_start := fun_mk (st := s__law_start) l12 c12 k12
  have b__law_start := F__law_start.binds (ps := ["_law_script"]) fun _ _ _ _ _ _ us hl => match us, hl with | [_], _ => rfl
  have g__law_start := PySem.W.mg_of X G a12
  have O__law_start : FnOk l.prog w K mg base CX0 1 f12 _ ["_law_script"] (spStart K) := ok_start (k := 0) F__law_start B  
  have c__law_start : Cal l.prog w K mg base CX0 "_law_start" ["_law_script"] 1 (spStart K) := ⟨_, _, O__law_start, g__law_start, F__law_start.kp, b__law_start⟩
  have F__law_take := fun_mk (st := s__law_take) l13 c13 k13
  have b__law_take := F__law_take.binds (ps := ["_law_draw", "_law_many"]) fun _ _ _ _ _ _ us hl => match us, hl with | [_, _], _ => rfl
  have g__law_take := PySem.W.mg_of X G a13
  have O__law_take : FnOk l.prog w K mg base CX0 1 f13 _ ["_law_draw", "_law_many"] spTake := ok_take (k := 0) F__law_take B  
  have c__law_take : Cal l.prog w K mg base CX0 "_law_take" ["_law_draw", "_law_many"] 1 spTake := ⟨_, _, O__law_take, g__law_take, F__law_take.kp, b__law_take⟩
  have F__law_of := fun_mk (st := s__law_of) l14 c14 k14
  have b__law_of := F__law_of.binds (ps := ["_law_draw", "_law_some"]) fun _ _ _ _ _ _ us hl => match us, hl with | [_, _], _ => rfl
  have g__law_of := PySem.W.mg_of X G a14
  have O__law_of : FnOk l.prog w K mg base CX0 2 f14 _ ["_law_draw", "_law_some"] (spOf K) := ok_of (k := 1) F__law_of B (c__law_take.mono (show 1 ≤ 1 by decide)) 
  have c__law_of : Cal l.prog w K mg base CX0 "_law_of" ["_law_draw", "_law_some"] 2 (spOf K) := ⟨_, _, O__law_of, g__law_of, F__law_of.kp, b__law_of⟩
  have F__law_same := fun_mk (st := s__law_same) l15 c15 k15
  have b__law_same := F__law_same.binds (ps := ["_law_found", "_law_due"]) fun _ _ _ _ _ _ us hl => match us, hl with | [_, _], _ => rfl
  have g__law_same := PySem.W.mg_of X G a15
  have c__law_same : Cal l.prog w K mg base CX0 "_law_same" ["_law_found", "_law_due"] 13 (spSameW 12) := ⟨_, _, ok_same F__law_same B g__law_same b__law_same 13, g__law_same, F__law_same.kp, b__law_same⟩
  have F__law_keys := fun_mk (st := s__law_keys) l16 c16 k16
  have b__law_keys := F__law_keys.binds (ps := ["_law_draw", "_law_many"]) fun _ _ _ _ _ _ us hl => match us, hl with | [_, _], _ => rfl
  have g__law_keys := PySem.W.mg_of X G a16
  have O__law_keys : FnOk l.prog w K mg base CX0 3 f16 _ ["_law_draw", "_law_many"] spKeysB := ok_keysB (k := 2) F__law_keys B (c__law_take.mono (show 1 ≤ 2 by decide)) (c__law_of.mono (show 2 ≤ 2 by decide)) 
  have c__law_keys : Cal l.prog w K mg base CX0 "_law_keys" ["_law_draw", "_law_many"] 3 spKeysB := ⟨_, _, O__law_keys, g__law_keys, F__law_keys.kp, b__law_keys⟩
  have F__law_step := fun_mk (st := s__law_step) l17 c17 k17
  have b__law_step := F__law_step.binds (ps := ["_law_draw", "_law_keys_here", "_law_deep"]) fun _ _ _ _ _ _ us hl => match us, hl with | [_, _, _], _ => rfl
  have g__law_step := PySem.W.mg_of X G a17
  have c__law_step : ∀ n : Nat, n ≤ 4 → Cal l.prog w K mg base CX0 "_law_step" ["_law_draw", "_law_keys_here", "_law_deep"] 7 (spStepN n) := fun n hn => (show Cal l.prog w K mg base CX0 "_law_step" ["_law_draw", "_law_keys_here", "_law_deep"] (n + 1 + 2) (spStepN n) from ⟨_, _, ok_st F__law_step B (c__law_take.mono (show 1 ≤ 2 by decide)) (c__law_of.mono (show 2 ≤ 2 by decide)) g__law_step b__law_step (n + 1), g__law_step, F__law_step.kp, b__law_step⟩).mono (show n + 1 + 2 ≤ 7 by omega)
  have F__law_history := fun_mk (st := s__law_history) l18 c18 k18
  have b__law_history := F__law_history.binds (ps := ["_law_draw", "_law_keys_here", "_law_most", "_law_deep"]) fun _ _ _ _ _ _ us hl => match us, hl with | [_, _, _, _], _ => rfl
  have g__law_history := PySem.W.mg_of X G a18
  have c__law_history : Cal l.prog w K mg base CX0 "_law_history" ["_law_draw", "_law_keys_here", "_law_most", "_law_deep"] 8 spHist := ⟨_, _, ok_hist (k := 7) F__law_history B (c__law_take.mono (show 1 ≤ 7 by decide)) (fun n hn => (c__law_step n hn).mono (show 7 ≤ 7 by decide)), g__law_history, F__law_history.kp, b__law_history⟩
  have F__law_written := fun_mk (st := s__law_written) l19 c19 k19
  have b__law_written := F__law_written.binds (ps := ["_law_steps"]) fun _ _ _ _ _ _ us hl => match us, hl with | [_], _ => rfl
  have g__law_written := PySem.W.mg_of X G a19
  have c__law_written : Cal l.prog w K mg base CX0 "_law_written" ["_law_steps"] 5 (spWrG K 4) := ⟨_, _, ok_wrA F__law_written B g__law_written b__law_written 5, g__law_written, F__law_written.kp, b__law_written⟩
  have F__law_text := fun_mk (st := s__law_text) l20 c20 k20
  have b__law_text := F__law_text.binds (ps := ["_law_steps"]) fun _ _ _ _ _ _ us hl => match us, hl with | [_], _ => rfl
  have g__law_text := PySem.W.mg_of X G a20
  have c__law_text : Cal l.prog w K mg base CX0 "_law_text" ["_law_steps"] 5 (spStepsText K 4) := ⟨_, _, ok_lawTx F__law_text B g__law_text b__law_text 5, g__law_text, F__law_text.kp, b__law_text⟩
  have F__law_plain := fun_mk (st := s__law_plain) l21 c21 k21
  have b__law_plain := F__law_plain.binds (ps := ["_law_steps"]) fun _ _ _ _ _ _ us hl => match us, hl with | [_], _ => rfl
  have g__law_plain := PySem.W.mg_of X G a21
  have c__law_plain : Cal l.prog w K mg base CX0 "_law_plain" ["_law_steps"] 5 (spPlain K 4) := ⟨_, _, ok_plain F__law_plain B g__law_plain b__law_plain 5, g__law_plain, F__law_plain.kp, b__law_plain⟩
  have F_law := fun_mk (st := s_law) l22 c22 k22
  exact ok_law (k := 13) F_law B (c__law_start.mono (by decide)) (c__law_of.mono (by decide)) (c__law_take.mono (by decide)) (c__law_keys.mono (by decide)) (c__law_same.mono (by decide)) (c__law_history.mono (by decide)) (c__law_written.mono (by decide)) (c__law_text.mono (by decide)) (c__law_plain.mono (by decide)) (c_format_history.mono (by decide)) (n_format_history_history.mono (by decide)) (c_parse_history.mono (by decide)) (n_parse_history_text.mono (by decide))
end TT
open PySem PySem.W PyProof.Rows
set_option maxHeartbeats 0 in
theorem PySem.Challenge.cw_touchtrees_k56_texts_of_histories_holds : PySem.Challenge.rw_touchtrees_k56_texts_of_histories.Holds := by
  w_on; o_law; k_head; (case hw => w_witness2)
  k_fill
  refine L2.walk_of (l := PySem.Challenge.rw_touchtrees_k56_texts_of_histories) (n := 63) (k := 14) (x := "_law_script") (CX := fun _ => L2.CX0) (sp := fun w => TT.spLaw _) rfl (by decide) rfl ⟨rfl, by decide, by decide⟩ (fun w h Y => by first | exact PySem.W.km_in_of Y | exact PySem.W.kIn_of Y) ?F (fun _ _ a ns hl _ hS => ⟨a, ns, rfl, hS, hl, fun _ => rfl⟩) (fun _ _ _ _ _ h => h)
  case F =>
    intro w mg fa h KX G hmg
    refine' TT.all_mk KX G hmg ?a0 ?l0 ?c0 ?k0 ?a1 ?l1 ?c1 ?k1 ?a2 ?l2 ?c2 ?k2 ?a3 ?l3 ?c3 ?k3 ?a4 ?l4 ?c4 ?k4 ?a5 ?l5 ?c5 ?k5 ?a6 ?l6 ?c6 ?k6 ?a7 ?l7 ?c7 ?k7 ?a8 ?l8 ?c8 ?k8 ?a9 ?l9 ?c9 ?k9 ?a10 ?l10 ?c10 ?k10 ?a11 ?l11 ?c11 ?k11 ?a12 ?l12 ?c12 ?k12 ?a13 ?l13 ?c13 ?k13 ?a14 ?l14 ?c14 ?k14 ?a15 ?l15 ?c15 ?k15 ?a16 ?l16 ?c16 ?k16 ?a17 ?l17 ?c17 ?k17 ?a18 ?l18 ?c18 ?k18 ?a19 ?l19 ?c19 ?k19 ?a20 ?l20 ?c20 ?k20 ?a21 ?l21 ?c21 ?k21 ?a22 ?l22 ?c22 ?k22 ?b_all ?b_bool ?b_int ?b_isinstance ?b_len ?b_list ?b_range ?b_str ?b_sum ?b_tuple ?b_zip ?g_KEY_LIMIT ?g_MAX_STEPS ?g_MAX_NESTING ?g_COUNT_LIMIT ?g_MAX_DIGITS
    (case a0 => k_is)
    (case l0 => k_is)
    (case c0 => k_is)
    (case k0 => k_is)
    (case a1 => k_is)
    (case l1 => k_is)
    (case c1 => k_is)
    (case k1 => k_is)
    (case a2 => k_is)
    (case l2 => k_is)
    (case c2 => k_is)
    (case k2 => k_is)
    (case a3 => k_is)
    (case l3 => k_is)
    (case c3 => k_is)
    (case k3 => k_is)
    (case a4 => k_is)
    (case l4 => k_is)
    (case c4 => k_is)
    (case k4 => k_is)
    (case a5 => k_is)
    (case l5 => k_is)
    (case c5 => k_is)
    (case k5 => k_is)
    (case a6 => k_is)
    (case l6 => k_is)
    (case c6 => k_is)
    (case k6 => k_is)
    (case a7 => k_is)
    (case l7 => k_is)
    (case c7 => k_is)
    (case k7 => k_is)
    (case a8 => k_is)
    (case l8 => k_is)
    (case c8 => k_is)
    (case k8 => k_is)
    (case a9 => k_is)
    (case l9 => k_is)
    (case c9 => k_is)
    (case k9 => k_is)
    (case a10 => k_is)
    (case l10 => k_is)
    (case c10 => k_is)
    (case k10 => k_is)
    (case a11 => k_is)
    (case l11 => k_is)
    (case c11 => k_is)
    (case k11 => k_is)
    (case a12 => k_is)
    (case l12 => k_is)
    (case c12 => k_is)
    (case k12 => k_is)
    (case a13 => k_is)
    (case l13 => k_is)
    (case c13 => k_is)
    (case k13 => k_is)
    (case a14 => k_is)
    (case l14 => k_is)
    (case c14 => k_is)
    (case k14 => k_is)
    (case a15 => k_is)
    (case l15 => k_is)
    (case c15 => k_is)
    (case k15 => k_is)
    (case a16 => k_is)
    (case l16 => k_is)
    (case c16 => k_is)
    (case k16 => k_is)
    (case a17 => k_is)
    (case l17 => k_is)
    (case c17 => k_is)
    (case k17 => k_is)
    (case a18 => k_is)
    (case l18 => k_is)
    (case c18 => k_is)
    (case k18 => k_is)
    (case a19 => k_is)
    (case l19 => k_is)
    (case c19 => k_is)
    (case k19 => k_is)
    (case a20 => k_is)
    (case l20 => k_is)
    (case c20 => k_is)
    (case k20 => k_is)
    (case a21 => k_is)
    (case l21 => k_is)
    (case c21 => k_is)
    (case k21 => k_is)
    (case a22 => k_is)
    (case l22 => k_is)
    (case c22 => k_is)
    (case k22 => k_is)
    (case b_all => k_is)
    (case b_bool => k_is)
    (case b_int => k_is)
    (case b_isinstance => k_is)
    (case b_len => k_is)
    (case b_list => k_is)
    (case b_range => k_is)
    (case b_str => k_is)
    (case b_sum => k_is)
    (case b_tuple => k_is)
    (case b_zip => k_is)
    (case g_KEY_LIMIT => k_is)
    (case g_MAX_STEPS => k_is)
    (case g_MAX_NESTING => k_is)
    (case g_COUNT_LIMIT => k_is)
    (case g_MAX_DIGITS => k_is)
