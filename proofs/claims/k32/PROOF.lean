import PyProof.Rows.All
import Wide.All
import OpenK.AllK
import Wide.FinOn
import HandS.ForMost
import HandS.More
import HandS.Wide
import HandS.Style
import HandS.IsInst
import HandS.Defaults
import HandS.MakeKwOnly
import HandS.Zip
import HandS.Walk
import HandS.Flow
import HandS.Codes
import HandS.WordsDict
import HandS.SortRule
import HandS.SortInts
import HandS.Exc
import HandS.ExcInit
import HandS.ExcField
import HandS.HotCalls
import HandS.Lambda
import HandS.WordsExc
import KE.KTryMore
import HandS.FStr
import HandS.ExcCtx
import HandS.Hot
import KE.GoesEnum
import HandS.EndOwn
import KE.KNestM
import KE.KExcInit
import HandS.TupAny
import HandS.SortKw
import KE.KIndexOf
import KE.SortData
import KE.KSortTupG
import KE.DatumOrd
import KE.KDictPairs
import HandS.DictTup
import HandS.DictComp
import HandS.Finally
import KE.KDictList
import KE.KDictCopyH
import PySem.Challenge.RW_touchtrees_k32_lists_of_shapes_and_order
set_option Elab.async false
set_option linter.all false
set_option maxRecDepth 100000
set_option maxHeartbeats 4000000
/-! plain mathematics of search trees: insertion, preorder, children, paths, spines, mirrors -/
namespace TT
inductive T where
  | leaf
  | node (l : T) (k : Int) (r : T)

namespace T
def rt : T → Option Int
  | leaf => none
  | node _ k _ => some k
def pre : T → List Int
  | leaf => []
  | node l k r => k :: (l.pre ++ r.pre)
def bst : T → Prop
  | leaf => True
  | node l k r => (∀ x ∈ l.pre, x < k) ∧ (∀ x ∈ r.pre, k < x) ∧ l.bst ∧ r.bst
def ins (key : Int) : T → T
  | leaf => node leaf key leaf
  | node l k r => if key < k then node (l.ins key) k r else node l k (r.ins key)
def lc : T → Int → Option Int
  | leaf, _ => none
  | node l k r, x => if x = k then l.rt else if x < k then l.lc x else r.lc x
def rc : T → Int → Option Int
  | leaf, _ => none
  | node l k r, x => if x = k then r.rt else if x < k then l.rc x else r.rc x
def up : T → Int → Option Int
  | leaf, _ => none
  | node l k r, x => if x < k then (if l.rt = some x then some k else l.up x) else if k < x then (if r.rt = some x then some k else r.up x) else none
/-- where a leaf is put: the parent, and whether to its left -/
def spot (key : Int) : T → Option (Int × Bool)
  | leaf => none
  | node l k r => if key < k then (match l with | leaf => some (k, true) | node _ _ _ => l.spot key) else (match r with | leaf => some (k, false) | node _ _ _ => r.spot key)
def dIns (key : Int) : T → Nat
  | leaf => 0
  | node l k r => (if key < k then l.dIns key else r.dIns key) + 1
def insAll (ks : List Int) (t : T) : T := ks.foldl (fun t k => t.ins k) t
def path (key : Int) : T → List Int
  | leaf => []
  | node l k r => if key = k then [k] else if key < k then k :: l.path key else k :: r.path key
def lsp : T → Nat
  | leaf => 0
  | node l _ _ => l.lsp + 1
def rsp : T → Nat
  | leaf => 0
  | node _ _ r => r.rsp + 1
def mir : T → T
  | leaf => leaf
  | node l k r => node r.mir (-k) l.mir
end T
open T

theorem rt_mem {t : T} {x : Int} (h : t.rt = some x) : x ∈ t.pre := by
  cases t with
  | leaf => cases h
  | node l k r => cases h; exact List.mem_cons_self
theorem mem_node {l r : T} {k x : Int} : x ∈ (node l k r).pre ↔ x = k ∨ x ∈ l.pre ∨ x ∈ r.pre := by
  simp only [pre, List.mem_cons, List.mem_append]
theorem mem_ins {key x : Int} : ∀ {t : T}, x ∈ (t.ins key).pre ↔ x = key ∨ x ∈ t.pre
  | leaf => by simp [ins, pre]
  | node l k r => by
    unfold ins
    split
    · rw [mem_node, mem_node, mem_ins (t := l)]
      constructor
      · rintro (h | (h | h) | h)
        · exact .inr (.inl h)
        · exact .inl h
        · exact .inr (.inr (.inl h))
        · exact .inr (.inr (.inr h))
      · rintro (h | h | h | h)
        · exact .inr (.inl (.inl h))
        · exact .inl h
        · exact .inr (.inl (.inr h))
        · exact .inr (.inr h)
    · rw [mem_node, mem_node, mem_ins (t := r)]
      constructor
      · rintro (h | h | h | h)
        · exact .inr (.inl h)
        · exact .inr (.inr (.inl h))
        · exact .inl h
        · exact .inr (.inr (.inr h))
      · rintro (h | h | h | h)
        · exact .inr (.inr (.inl h))
        · exact .inl h
        · exact .inr (.inl h)
        · exact .inr (.inr (.inr h))
theorem len_ins {key : Int} : ∀ {t : T}, (t.ins key).pre.length = t.pre.length + 1
  | leaf => rfl
  | node l k r => by
    unfold ins
    split
    · simp only [pre, List.length_cons, List.length_append, len_ins]; omega
    · simp only [pre, List.length_cons, List.length_append, len_ins]; omega
theorem bst_ins {key : Int} : ∀ {t : T}, t.bst → key ∉ t.pre → (t.ins key).bst
  | leaf, _, _ => ⟨fun _ h => (by cases h), fun _ h => (by cases h), trivial, trivial⟩
  | node l k r, ⟨h1, h2, h3, h4⟩, hn => by
    rw [mem_node] at hn
    have n1 : key ≠ k := fun e => hn (.inl e)
    have n2 : key ∉ l.pre := fun e => hn (.inr (.inl e))
    have n3 : key ∉ r.pre := fun e => hn (.inr (.inr e))
    unfold ins
    split
    · next h =>
      refine ⟨fun x hx => ?_, h2, bst_ins h3 n2, h4⟩
      rcases mem_ins.mp hx with e | e
      · omega
      · exact h1 x e
    · next h =>
      refine ⟨h1, fun x hx => ?_, h3, bst_ins h4 n3⟩
      rcases mem_ins.mp hx with e | e
      · omega
      · exact h2 x e
theorem rt_ins {key : Int} {t : T} (h : t ≠ leaf) : (t.ins key).rt = t.rt := by
  cases t with
  | leaf => exact absurd rfl h
  | node l k r => unfold ins; split <;> rfl
theorem spot_node {key k : Int} {l r : T} : (node l k r).spot key = if key < k then (if l.rt = none then some (k, true) else l.spot key) else (if r.rt = none then some (k, false) else r.spot key) := by
  unfold spot
  split
  · cases l <;> simp [rt, spot]
  · cases r <;> simp [rt, spot]
theorem rt_none {t : T} (h : t.rt = none) : t = leaf := by
  cases t with
  | leaf => rfl
  | node l k r => cases h
theorem spot_mem {key : Int} : ∀ {t : T} {p : Int} {b : Bool}, t.spot key = some (p, b) → p ∈ t.pre
  | leaf, _, _, h => by cases h
  | node l k r, p, b, h => by
    rw [spot_node] at h
    rw [mem_node]
    split at h
    · split at h
      · cases h; exact .inl rfl
      · exact .inr (.inl (spot_mem h))
    · split at h
      · cases h; exact .inl rfl
      · exact .inr (.inr (spot_mem h))
theorem lc_out : ∀ {t : T} {x : Int}, x ∉ t.pre → t.lc x = none
  | leaf, _, _ => rfl
  | node l k r, x, h => by
    rw [mem_node] at h
    unfold lc
    rw [if_neg (fun e => h (.inl e))]
    split
    · exact lc_out fun e => h (.inr (.inl e))
    · exact lc_out fun e => h (.inr (.inr e))
theorem rc_out : ∀ {t : T} {x : Int}, x ∉ t.pre → t.rc x = none
  | leaf, _, _ => rfl
  | node l k r, x, h => by
    rw [mem_node] at h
    unfold rc
    rw [if_neg (fun e => h (.inl e))]
    split
    · exact rc_out fun e => h (.inr (.inl e))
    · exact rc_out fun e => h (.inr (.inr e))
theorem lc_one {key x : Int} : (node leaf key leaf).lc x = none := by unfold lc; split; rfl; split <;> rfl
theorem rc_one {key x : Int} : (node leaf key leaf).rc x = none := by unfold rc; split; rfl; split <;> rfl
theorem up_one {key x : Int} : (node leaf key leaf).up x = none := by
  unfold up; split
  · rw [if_neg (by intro h; cases h)]; rfl
  · split
    · rw [if_neg (by intro h; cases h)]; rfl
    · rfl
theorem lc_ins {key : Int} : ∀ {t : T}, t.bst → key ∉ t.pre → ∀ x, (t.ins key).lc x = if t.spot key = some (x, true) then some key else t.lc x
  | leaf, _, _, x => by rw [if_neg (by intro h; cases h)]; exact lc_one
  | node l k r, ⟨h1, h2, h3, h4⟩, hn, x => by
    rw [mem_node] at hn
    have n1 : key ≠ k := fun e => hn (.inl e)
    have n2 : key ∉ l.pre := fun e => hn (.inr (.inl e))
    have n3 : key ∉ r.pre := fun e => hn (.inr (.inr e))
    have i1 := lc_ins h3 n2
    have i2 := lc_ins h4 n3
    rw [spot_node]
    unfold ins
    by_cases h : key < k
    · rw [if_pos h, if_pos h]
      by_cases e : l.rt = none
      · cases rt_none e
        rw [if_pos e]
        show (if x = k then some key else if x < k then (node leaf key leaf).lc x else r.lc x) = _
        by_cases ex : x = k
        · subst ex; simp
        · rw [if_neg (show ¬ some (k, true) = some (x, true) from fun z => ex (Prod.mk.inj (Option.some.inj z)).1.symm), lc_one]
          show _ = (if x = k then leaf.rt else if x < k then leaf.lc x else r.lc x)
          rw [if_neg ex, if_neg ex]; rfl
      · rw [if_neg e]
        show (if x = k then (l.ins key).rt else if x < k then (l.ins key).lc x else r.lc x) = _
        rw [rt_ins (fun z => e (by rw [z]; rfl)), i1 x]
        show _ = (if l.spot key = some (x, true) then some key else if x = k then l.rt else if x < k then l.lc x else r.lc x)
        by_cases es : l.spot key = some (x, true)
        · have := h1 _ (spot_mem es)
          rw [if_pos es, if_neg (by omega), if_pos (by omega)]
          simp [es]
        · rw [if_neg es, if_neg es]
    · rw [if_neg h, if_neg h]
      by_cases e : r.rt = none
      · cases rt_none e
        rw [if_pos e]
        show (if x = k then l.rt else if x < k then l.lc x else (node leaf key leaf).lc x) = _
        rw [if_neg (show ¬ some (k, false) = some (x, true) from fun z => Bool.noConfusion (Prod.mk.inj (Option.some.inj z)).2), lc_one]; rfl
      · rw [if_neg e]
        show (if x = k then l.rt else if x < k then l.lc x else (r.ins key).lc x) = _
        rw [i2 x]
        show _ = (if r.spot key = some (x, true) then some key else if x = k then l.rt else if x < k then l.lc x else r.lc x)
        by_cases es : r.spot key = some (x, true)
        · have := h2 _ (spot_mem es)
          rw [if_pos es, if_neg (by omega), if_neg (by omega)]
          simp [es]
        · rw [if_neg es, if_neg es]
theorem rc_ins {key : Int} : ∀ {t : T}, t.bst → key ∉ t.pre → ∀ x, (t.ins key).rc x = if t.spot key = some (x, false) then some key else t.rc x
  | leaf, _, _, x => by rw [if_neg (by intro h; cases h)]; exact rc_one
  | node l k r, ⟨h1, h2, h3, h4⟩, hn, x => by
    rw [mem_node] at hn
    have n1 : key ≠ k := fun e => hn (.inl e)
    have n2 : key ∉ l.pre := fun e => hn (.inr (.inl e))
    have n3 : key ∉ r.pre := fun e => hn (.inr (.inr e))
    have i1 := rc_ins h3 n2
    have i2 := rc_ins h4 n3
    rw [spot_node]
    unfold ins
    by_cases h : key < k
    · rw [if_pos h, if_pos h]
      by_cases e : l.rt = none
      · cases rt_none e
        rw [if_pos e]
        show (if x = k then r.rt else if x < k then (node leaf key leaf).rc x else r.rc x) = _
        rw [if_neg (show ¬ some (k, true) = some (x, false) from fun z => Bool.noConfusion (Prod.mk.inj (Option.some.inj z)).2), rc_one]; rfl
      · rw [if_neg e]
        show (if x = k then r.rt else if x < k then (l.ins key).rc x else r.rc x) = _
        rw [i1 x]
        show _ = (if l.spot key = some (x, false) then some key else if x = k then r.rt else if x < k then l.rc x else r.rc x)
        by_cases es : l.spot key = some (x, false)
        · have := h1 _ (spot_mem es)
          rw [if_pos es, if_neg (by omega), if_pos (by omega)]
          simp [es]
        · rw [if_neg es, if_neg es]
    · rw [if_neg h, if_neg h]
      by_cases e : r.rt = none
      · cases rt_none e
        rw [if_pos e]
        show (if x = k then some key else if x < k then l.rc x else (node leaf key leaf).rc x) = _
        by_cases ex : x = k
        · subst ex; simp
        · rw [if_neg (show ¬ some (k, false) = some (x, false) from fun z => ex (Prod.mk.inj (Option.some.inj z)).1.symm), rc_one]
          show _ = (if x = k then leaf.rt else if x < k then l.rc x else leaf.rc x)
          rw [if_neg ex, if_neg ex]; rfl
      · rw [if_neg e]
        show (if x = k then (r.ins key).rt else if x < k then l.rc x else (r.ins key).rc x) = _
        rw [rt_ins (fun z => e (by rw [z]; rfl)), i2 x]
        show _ = (if r.spot key = some (x, false) then some key else if x = k then r.rt else if x < k then l.rc x else r.rc x)
        by_cases es : r.spot key = some (x, false)
        · have := h2 _ (spot_mem es)
          rw [if_pos es, if_neg (by omega), if_neg (by omega)]
          simp [es]
        · rw [if_neg es, if_neg es]
theorem up_ins {key : Int} : ∀ {t : T}, t.bst → key ∉ t.pre → ∀ x, (t.ins key).up x = if x = key then (t.spot key).map (·.1) else t.up x
  | leaf, _, _, x => by
    show (node leaf key leaf).up x = _
    rw [up_one]; split <;> rfl
  | node l k r, ⟨h1, h2, h3, h4⟩, hn, x => by
    rw [mem_node] at hn
    have n1 : key ≠ k := fun e => hn (.inl e)
    have n2 : key ∉ l.pre := fun e => hn (.inr (.inl e))
    have n3 : key ∉ r.pre := fun e => hn (.inr (.inr e))
    have i1 := up_ins h3 n2
    have i2 := up_ins h4 n3
    rw [spot_node]
    unfold ins
    by_cases h : key < k
    · rw [if_pos h, if_pos h]
      show (if x < k then (if (l.ins key).rt = some x then some k else (l.ins key).up x) else if k < x then (if r.rt = some x then some k else r.up x) else none) = (if x = key then _ else (if x < k then (if l.rt = some x then some k else l.up x) else if k < x then (if r.rt = some x then some k else r.up x) else none))
      by_cases xk : x < k
      · rw [if_pos xk, if_pos xk]
        by_cases e : l.rt = none
        · cases rt_none e
          rw [if_pos e]
          show (if some key = some x then some k else (node leaf key leaf).up x) = _
          rw [up_one]
          by_cases ex : x = key
          · subst ex; simp
          · rw [if_neg (show ¬ some key = some x from fun z => ex (Option.some.inj z).symm), if_neg ex]; rfl
        · rw [if_neg e, rt_ins (fun z => e (by rw [z]; rfl)), i1 x]
          by_cases ex : x = key
          · subst ex
            rw [if_neg (fun z => n2 (rt_mem z)), if_pos rfl, if_pos rfl]
          · rw [if_neg ex, if_neg ex]
      · rw [if_neg xk, if_neg xk, if_neg (show ¬ x = key by omega)]
    · rw [if_neg h, if_neg h]
      show (if x < k then (if l.rt = some x then some k else l.up x) else if k < x then (if (r.ins key).rt = some x then some k else (r.ins key).up x) else none) = (if x = key then _ else (if x < k then (if l.rt = some x then some k else l.up x) else if k < x then (if r.rt = some x then some k else r.up x) else none))
      by_cases xk : x < k
      · rw [if_pos xk, if_pos xk, if_neg (show ¬ x = key by omega)]
      · rw [if_neg xk, if_neg xk]
        by_cases kx : k < x
        · rw [if_pos kx, if_pos kx]
          by_cases e : r.rt = none
          · cases rt_none e
            rw [if_pos e]
            show (if some key = some x then some k else (node leaf key leaf).up x) = _
            rw [up_one]
            by_cases ex : x = key
            · subst ex; simp
            · rw [if_neg (show ¬ some key = some x from fun z => ex (Option.some.inj z).symm), if_neg ex]; rfl
          · rw [if_neg e, rt_ins (fun z => e (by rw [z]; rfl)), i2 x]
            by_cases ex : x = key
            · subst ex
              rw [if_neg (fun z => n3 (rt_mem z)), if_pos rfl, if_pos rfl]
            · rw [if_neg ex, if_neg ex]
        · rw [if_neg kx, if_neg kx, if_neg (show ¬ x = key by omega)]
theorem dIns_le {key : Int} : ∀ {t : T}, t.dIns key ≤ t.pre.length
  | leaf => Nat.le_refl _
  | node l k r => by
    have i1 := dIns_le (key := key) (t := l)
    have i2 := dIns_le (key := key) (t := r)
    unfold dIns
    simp only [pre, List.length_cons, List.length_append]
    split <;> omega
/-- s is a subtree of t, as far as children go -/
def Sub (s t : T) : Prop := ∀ x ∈ s.pre, t.lc x = s.lc x ∧ t.rc x = s.rc x
theorem Sub.refl (t : T) : Sub t t := fun _ _ => ⟨rfl, rfl⟩
theorem Sub.l {l r t : T} {k : Int} (h : Sub (node l k r) t) (b : (node l k r).bst) : Sub l t := fun x hx => by
  have := b.1 x hx
  obtain ⟨a, c⟩ := h x (mem_node.mpr (.inr (.inl hx)))
  rw [a, c]
  show (if x = k then l.rt else if x < k then l.lc x else r.lc x) = _ ∧ (if x = k then r.rt else if x < k then l.rc x else r.rc x) = _
  rw [if_neg (show ¬ x = k by omega), if_neg (show ¬ x = k by omega), if_pos this, if_pos this]
  exact ⟨rfl, rfl⟩
theorem Sub.r {l r t : T} {k : Int} (h : Sub (node l k r) t) (b : (node l k r).bst) : Sub r t := fun x hx => by
  have := b.2.1 x hx
  obtain ⟨a, c⟩ := h x (mem_node.mpr (.inr (.inr hx)))
  rw [a, c]
  show (if x = k then l.rt else if x < k then l.lc x else r.lc x) = _ ∧ (if x = k then r.rt else if x < k then l.rc x else r.rc x) = _
  rw [if_neg (show ¬ x = k by omega), if_neg (show ¬ x = k by omega), if_neg (show ¬ x < k by omega), if_neg (show ¬ x < k by omega)]
  exact ⟨rfl, rfl⟩
theorem Sub.top {l r t : T} {k : Int} (h : Sub (node l k r) t) : t.lc k = l.rt ∧ t.rc k = r.rt := by
  obtain ⟨a, c⟩ := h k (mem_node.mpr (.inl rfl))
  rw [a, c]
  unfold lc rc
  rw [if_pos rfl, if_pos rfl]
  exact ⟨rfl, rfl⟩
/-! ### all keys of a list -/
theorem mem_insAll {x : Int} : ∀ {ks : List Int} {t : T}, x ∈ (insAll ks t).pre ↔ x ∈ ks ∨ x ∈ t.pre
  | [], t => by simp [insAll]
  | k :: ks, t => by
    show x ∈ (insAll ks (t.ins k)).pre ↔ _
    rw [mem_insAll, mem_ins, List.mem_cons]
    constructor
    · rintro (h | h | h)
      · exact .inl (.inr h)
      · exact .inl (.inl h)
      · exact .inr h
    · rintro ((h | h) | h)
      · exact .inr (.inl h)
      · exact .inl h
      · exact .inr (.inr h)
theorem len_insAll : ∀ {ks : List Int} {t : T}, (insAll ks t).pre.length = t.pre.length + ks.length
  | [], t => rfl
  | k :: ks, t => by
    show (insAll ks (t.ins k)).pre.length = _
    rw [len_insAll, len_ins, List.length_cons]; omega
theorem bst_insAll : ∀ {ks : List Int} {t : T}, t.bst → ks.Nodup → (∀ k ∈ ks, k ∉ t.pre) → (insAll ks t).bst
  | [], _, h, _, _ => h
  | k :: ks, t, h, nd, hn => by
    rw [List.nodup_cons] at nd
    refine bst_insAll (ks := ks) (t := t.ins k) (bst_ins h (hn k List.mem_cons_self)) nd.2 fun j hj hm => ?_
    rcases mem_ins.mp hm with e | e
    · subst e; exact nd.1 hj
    · exact hn j (List.mem_cons_of_mem _ hj) e
theorem insAll_take_succ {ks : List Int} {i : Nat} {k : Int} (h : ks[i]? = some k) {t : T} : insAll (ks.take (i + 1)) t = (insAll (ks.take i) t).ins k := by
  rw [List.take_add_one, h]
  unfold insAll
  rw [List.foldl_append]; rfl
theorem insAll_split : ∀ (ks : List Int) (l r : T) (k : Int), insAll ks (node l k r) = node (insAll (ks.filter fun x => decide (x < k)) l) k (insAll (ks.filter fun x => !decide (x < k)) r)
  | [], _, _, _ => rfl
  | x :: ks, l, r, k => by
    show insAll ks ((node l k r).ins x) = _
    unfold ins
    by_cases h : x < k
    · rw [if_pos h, insAll_split ks, List.filter_cons_of_pos (by simpa using h), List.filter_cons_of_neg (by simpa using h)]; rfl
    · rw [if_neg h, insAll_split ks, List.filter_cons_of_neg (by simpa using h), List.filter_cons_of_pos (by simpa using h)]; rfl
theorem filter_all {p : Int → Bool} {l : List Int} (h : ∀ x ∈ l, p x = true) : l.filter p = l := List.filter_eq_self.mpr h
theorem filter_none {p : Int → Bool} {l : List Int} (h : ∀ x ∈ l, p x = false) : l.filter p = [] := List.filter_eq_nil_iff.mpr fun x hx => by rw [h x hx]; exact Bool.false_ne_true
theorem pre_lt {l r : T} {k : Int} (b : (node l k r).bst) : (node l k r).pre.filter (fun x => decide (x < k)) = l.pre := by
  show (k :: (l.pre ++ r.pre)).filter _ = _
  rw [List.filter_cons_of_neg (by simp), List.filter_append, filter_all fun x hx => decide_eq_true (b.1 x hx), filter_none fun x hx => decide_eq_false (by have := b.2.1 x hx; omega), List.append_nil]
theorem pre_gt {l r : T} {k : Int} (b : (node l k r).bst) : (node l k r).pre.filter (fun x => decide (k < x)) = r.pre := by
  show (k :: (l.pre ++ r.pre)).filter _ = _
  rw [List.filter_cons_of_neg (by simp), List.filter_append, filter_none fun x hx => decide_eq_false (by have := b.1 x hx; omega), filter_all fun x hx => decide_eq_true (b.2.1 x hx), List.nil_append]
theorem insAll_pre : ∀ {t : T}, t.bst → insAll t.pre leaf = t
  | leaf, _ => rfl
  | node l k r, b => by
    show insAll (l.pre ++ r.pre) (node leaf k leaf) = _
    rw [insAll_split, List.filter_append, List.filter_append]
    rw [filter_all (p := fun x => decide (x < k)) fun x hx => decide_eq_true (b.1 x hx), filter_none (p := fun x => decide (x < k)) (l := r.pre) fun x hx => decide_eq_false (by have := b.2.1 x hx; omega)]
    rw [filter_none (p := fun x => !decide (x < k)) (l := l.pre) fun x hx => by simp [b.1 x hx], filter_all (p := fun x => !decide (x < k)) (l := r.pre) fun x hx => by have := b.2.1 x hx; simp; omega]
    rw [List.append_nil, List.nil_append, insAll_pre b.2.2.1, insAll_pre b.2.2.2]
theorem nodup_pre : ∀ {t : T}, t.bst → t.pre.Nodup
  | leaf, _ => List.nodup_nil
  | node l k r, b => by
    show (k :: (l.pre ++ r.pre)).Nodup
    rw [List.nodup_cons, List.nodup_append]
    refine ⟨fun h => ?_, nodup_pre b.2.2.1, nodup_pre b.2.2.2, fun x hx y hy => ?_⟩
    · rcases List.mem_append.mp h with e | e
      · have := b.1 _ e; omega
      · have := b.2.1 _ e; omega
    · have := b.1 _ hx; have := b.2.1 _ hy; omega
/-! ### paths, spines -/
theorem path_min : ∀ {t : T} {m : Int}, t.bst → m ∈ t.pre → (∀ y ∈ t.pre, m ≤ y) → (t.path m).length = t.lsp
  | leaf, _, _, h, _ => by cases h
  | node l k r, m, b, hm, hmin => by
    have mk := hmin k (mem_node.mpr (.inl rfl))
    cases l with
    | leaf =>
      have e : m = k := by
        rcases mem_node.mp hm with e | e | e
        · exact e
        · cases e
        · have := b.2.1 _ e; omega
      unfold path lsp
      rw [if_pos e]; rfl
    | node a x c =>
      have hx : x < k := b.1 x (mem_node.mpr (.inl rfl))
      have mx := hmin x (mem_node.mpr (.inr (.inl (mem_node.mpr (.inl rfl)))))
      unfold path
      rw [if_neg (by omega), if_pos (by omega)]
      show ((node a x c).path m).length + 1 = (node a x c).lsp + 1
      rw [path_min b.2.2.1 ?_ fun y hy => hmin y (mem_node.mpr (.inr (.inl hy)))]
      rcases mem_node.mp hm with e | e | e
      · omega
      · exact e
      · have := b.2.1 _ e; omega
theorem path_max : ∀ {t : T} {m : Int}, t.bst → m ∈ t.pre → (∀ y ∈ t.pre, y ≤ m) → (t.path m).length = t.rsp
  | leaf, _, _, h, _ => by cases h
  | node l k r, m, b, hm, hmax => by
    have mk := hmax k (mem_node.mpr (.inl rfl))
    cases r with
    | leaf =>
      have e : m = k := by
        rcases mem_node.mp hm with e | e | e
        · exact e
        · have := b.1 _ e; omega
        · cases e
      unfold path rsp
      rw [if_pos e]; rfl
    | node a x c =>
      have hx : k < x := b.2.1 x (mem_node.mpr (.inl rfl))
      have mx := hmax x (mem_node.mpr (.inr (.inr (mem_node.mpr (.inl rfl)))))
      unfold path
      rw [if_neg (by omega), if_neg (by omega)]
      show ((node a x c).path m).length + 1 = (node a x c).rsp + 1
      rw [path_max b.2.2.2 ?_ fun y hy => hmax y (mem_node.mpr (.inr (.inr hy)))]
      rcases mem_node.mp hm with e | e | e
      · omega
      · have := b.1 _ e; omega
      · exact e
theorem lsp_le : ∀ {t : T}, t.lsp ≤ t.pre.length
  | leaf => Nat.le_refl _
  | node l k r => by
    have := lsp_le (t := l)
    simp only [lsp, pre, List.length_cons, List.length_append]; omega
theorem rsp_le : ∀ {t : T}, t.rsp ≤ t.pre.length
  | leaf => Nat.le_refl _
  | node l k r => by
    have := rsp_le (t := r)
    simp only [rsp, pre, List.length_cons, List.length_append]; omega
/-! ### mirrors -/
theorem mir_mir : ∀ {t : T}, t.mir.mir = t
  | leaf => rfl
  | node l k r => by simp only [mir, mir_mir, Int.neg_neg]
theorem mem_mir {x : Int} : ∀ {t : T}, x ∈ t.mir.pre ↔ -x ∈ t.pre
  | leaf => by simp [mir, pre]
  | node l k r => by
    show x ∈ (node r.mir (-k) l.mir).pre ↔ _
    rw [mem_node, mem_node, mem_mir, mem_mir]
    constructor
    · rintro (h | h | h)
      · exact .inl (by omega)
      · exact .inr (.inr h)
      · exact .inr (.inl h)
    · rintro (h | h | h)
      · exact .inl (by omega)
      · exact .inr (.inr h)
      · exact .inr (.inl h)
theorem len_mir : ∀ {t : T}, t.mir.pre.length = t.pre.length
  | leaf => rfl
  | node l k r => by simp only [mir, pre, List.length_cons, List.length_append, len_mir]; omega
theorem bst_mir : ∀ {t : T}, t.bst → t.mir.bst
  | leaf, _ => trivial
  | node l k r, b => ⟨fun x hx => by have := b.2.1 _ (mem_mir.mp hx); omega, fun x hx => by have := b.1 _ (mem_mir.mp hx); omega, bst_mir b.2.2.2, bst_mir b.2.2.1⟩
theorem rt_mir : ∀ {t : T}, t.mir.rt = t.rt.map (fun x => -x)
  | leaf => rfl
  | node _ _ _ => rfl
theorem lc_mir {x : Int} : ∀ {t : T}, t.mir.lc x = (t.rc (-x)).map (fun y => -y)
  | leaf => rfl
  | node l k r => by
    show (if x = -k then r.mir.rt else if x < -k then r.mir.lc x else l.mir.lc x) = ((if -x = k then r.rt else if -x < k then l.rc (-x) else r.rc (-x))).map _
    by_cases h : x = -k
    · rw [if_pos h, if_pos (show -x = k by omega), rt_mir]
    · rw [if_neg h, if_neg (show ¬ -x = k by omega)]
      by_cases g : x < -k
      · rw [if_pos g, if_neg (show ¬ -x < k by omega), lc_mir]
      · rw [if_neg g, if_pos (show -x < k by omega), lc_mir]
theorem rc_mir {x : Int} : ∀ {t : T}, t.mir.rc x = (t.lc (-x)).map (fun y => -y)
  | leaf => rfl
  | node l k r => by
    show (if x = -k then l.mir.rt else if x < -k then r.mir.rc x else l.mir.rc x) = ((if -x = k then l.rt else if -x < k then l.lc (-x) else r.lc (-x))).map _
    by_cases h : x = -k
    · rw [if_pos h, if_pos (show -x = k by omega), rt_mir]
    · rw [if_neg h, if_neg (show ¬ -x = k by omega)]
      by_cases g : x < -k
      · rw [if_pos g, if_neg (show ¬ -x < k by omega), rc_mir]
      · rw [if_neg g, if_pos (show -x < k by omega), rc_mir]
end TT
namespace TT
open PySem PySem.Spec PyProof.Rows L2
/-! ### defs that are called by name -/
/-- the def x: it is called by its parameters ps, keeps sp, at level k -/
structure Cal (P : Program) (w : World) (K : PySem.W.Frag) (mg : Str → Option Value) (base : Heap) (CX : CXT) (x : Str) (ps : List Str) (k : Nat) (sp : Sp) : Prop where
  ex : ∃ f fd, FnOk P w K mg base CX k f fd ps sp ∧ mg x = some (.ref f) ∧ PySem.W.keepIn K (.ref f) = true ∧ Binds K fd ps []
theorem Cal.mono {P : Program} {w : World} {K : PySem.W.Frag} {mg : Str → Option Value} {base : Heap} {CX : CXT} {x : Str} {ps : List Str} {j k : Nat} {sp : Sp} (c : Cal P w K mg base CX x ps j sp) (h : j ≤ k) : Cal P w K mg base CX x ps k sp := by
  obtain ⟨f, fd, o, a, b, d⟩ := c.ex
  exact ⟨f, fd, o.mono h, a, b, d⟩
/-- the same with keywords ks behind n values -/
structure CalN (P : Program) (w : World) (K : PySem.W.Frag) (mg : Str → Option Value) (base : Heap) (CX : CXT) (x : Str) (n : Nat) (ks : List Str) (k : Nat) (sp : Sp) (gV : List V → List V → List V) : Prop where
  ex : ∃ f fd ps g, FnOk P w K mg base CX k f fd ps sp ∧ mg x = some (.ref f) ∧ PySem.W.keepIn K (.ref f) = true ∧ KBn K fd ps n ks g gV
section
variable {X : Cx} {ps ks : List Str} {k n : Nat} {sp : Sp} {x : Str} {e : Expr} {es : List Expr} {kws : List Keyword} {t tk : TA} {p pos : Pos} {gV : List V → List V → List V}
theorem pe_cal (c : Cal X.prog X.w X.K X.mg X.base CX0 x ps k sp) (hr : Room k X.A) (hg : Gl X x) (ha : PA X (e :: es) t) (hdb : (x == ("__debug__" : Str)) = false := by decide) (he : starEach (e :: es) X.env = (false, eval e X.env) :: starEach es X.env := by rfl)
    (hpl : (backTo pos (starEach es X.env)).any (·.1) = false := by rfl) : PE X (.Call (.Name x p) (e :: es) [] pos) (tCall sp [] E0 t) := by
  obtain ⟨f, fd, o, a, b, d⟩ := c.ex
  exact pe_call o hr hg a b d .nil pass0 ha hdb he hpl
theorem pe_cal0 (c : Cal X.prog X.w X.K X.mg X.base CX0 x ps k sp) (hr : Room k X.A) (hg : Gl X x) (hdb : (x == ("__debug__" : Str)) = false := by decide) : PE X (.Call (.Name x p) [] [] pos) (tCall sp [] E0 tNil) := by
  obtain ⟨f, fd, o, a, b, d⟩ := c.ex
  exact pe_call0 o hr hg a b d .nil pass0 hdb
theorem pe_calN (c : CalN X.prog X.w X.K X.mg X.base CX0 x n ks k sp gV) (hr : Room k X.A) (hg : Gl X x) (ha : PA X (e :: es) t) (hkw : PK X kws tk) (hall : (backToKw pos (keywordEach kws X.env)).all (·.1.isSome) = true := by rfl)
    (hks : (backToKw pos (keywordEach kws X.env)).filterMap (·.1) = ks := by rfl) (hdb : (x == ("__debug__" : Str)) = false := by decide) (he : starEach (e :: es) X.env = (false, eval e X.env) :: starEach es X.env := by rfl)
    (hpl : ((backTo pos (starEach (e :: es) X.env)).any (·.1) || (backToKw pos (keywordEach kws X.env)).any (·.1.isNone)) = false := by rfl) : PE X (.Call (.Name x p) (e :: es) kws pos) (tCallN n ks.length sp gV E0 t tk) := by
  obtain ⟨f, fd, ps, g, o, a, b, d⟩ := c.ex
  exact pe_callN o hr hg a b d pass0 ha hkw hall hks hdb he hpl
end
section
variable {X : Cx} {ps ks : List Str} {k n : Nat} {sp : Sp} {x : Str} {e : Expr} {es : List Expr} {kws : List Keyword} {t tk : TA} {p pos : Pos} {gV : List V → List V → List V} {dvs : List V}
/-- f(k = v, ..): keywords alone -/
theorem pe_calN0 (c : CalN X.prog X.w X.K X.mg X.base CX0 x 0 ks k sp gV) (hr : Room k X.A) (hg : Gl X x) (hkw : PK X kws tk) (hall : (backToKw pos (keywordEach kws X.env)).all (·.1.isSome) = true := by rfl)
    (hks : (backToKw pos (keywordEach kws X.env)).filterMap (·.1) = ks := by rfl) (hdb : (x == ("__debug__" : Str)) = false := by decide)
    (hpl : ((backTo pos (starEach [] X.env)).any (·.1) || (backToKw pos (keywordEach kws X.env)).any (·.1.isNone)) = false := by rfl) : PE X (.Call (.Name x p) [] kws pos) (tCallN 0 ks.length sp gV E0 tNil tk) := by
  obtain ⟨f, fd, ps, g, o, a, b, d⟩ := c.ex
  refine ⟨fun pins s0 σ H Q I0 hq => wpAny_Call_Name_kw (ld_glob I0 hg a (PySem.W.callWith_KW0 (h₀ := X.base) I0.ok.mod.kin b hall (thn (hkw.run pos pins s0 σ H _ I0 hq) fun ws1 s1 ⟨zs1, H1, I1, r1, _, z2, q1⟩ => ⟨I1.kIn, ?_⟩) hpl) hdb)⟩
  rw [hks]
  exact run_fnN (us := []) (vs := []) o hr d pass0 I1 .nil r1 rfl z2 q1
/-- the def x with the defaults dvs behind what is written -/
structure CalD (P : Program) (w : World) (K : PySem.W.Frag) (mg : Str → Option Value) (base : Heap) (CX : CXT) (x : Str) (dvs : List V) (k : Nat) (sp : Sp) : Prop where
  ex : ∃ f fd ps ds, FnOk P w K mg base CX k f fd ps sp ∧ mg x = some (.ref f) ∧ PySem.W.keepIn K (.ref f) = true ∧ Binds K fd ps ds ∧ Vals dvs ds
theorem pe_calD (c : CalD X.prog X.w X.K X.mg X.base CX0 x dvs k sp) (hr : Room k X.A) (hg : Gl X x) (ha : PA X (e :: es) t) (hdb : (x == ("__debug__" : Str)) = false := by decide) (he : starEach (e :: es) X.env = (false, eval e X.env) :: starEach es X.env := by rfl)
    (hpl : (backTo pos (starEach es X.env)).any (·.1) = false := by rfl) : PE X (.Call (.Name x p) (e :: es) [] pos) (tCall sp dvs E0 t) := by
  obtain ⟨f, fd, ps, ds, o, a, b, d, v⟩ := c.ex
  exact pe_call o hr hg a b d v pass0 ha hdb he hpl
end
theorem CalN.mono {P : Program} {w : World} {K : PySem.W.Frag} {mg : Str → Option Value} {base : Heap} {CX : CXT} {x : Str} {n : Nat} {ks : List Str} {j k : Nat} {sp : Sp} {gV : List V → List V → List V} (c : CalN P w K mg base CX x n ks j sp gV) (h : j ≤ k) : CalN P w K mg base CX x n ks k sp gV := by
  obtain ⟨f, fd, ps, g, o, r⟩ := c.ex
  exact ⟨f, fd, ps, g, o.mono h, r⟩
theorem CalD.mono {P : Program} {w : World} {K : PySem.W.Frag} {mg : Str → Option Value} {base : Heap} {CX : CXT} {x : Str} {dvs : List V} {j k : Nat} {sp : Sp} (c : CalD P w K mg base CX x dvs j sp) (h : j ≤ k) : CalD P w K mg base CX x dvs k sp := by
  obtain ⟨f, fd, ps, ds, o, r⟩ := c.ex
  exact ⟨f, fd, ps, ds, o.mono h, r⟩
theorem vals_take {n : Nat} : ∀ {zs : List V} {ws : List Value}, Vals zs ws → Vals (zs.take n) (ws.take n) := by
  induction n with
  | zero => intro zs ws _; exact .nil
  | succ n ih =>
    intro zs ws h
    cases h with
    | nil => exact .nil
    | cons r t => exact .cons r (ih t)
/-! ### min, max of a tuple of ints -/
section
variable {prog : Program} {w : World} {A : Around} {E : Value → Shared → Prop} {s : Shared} {l : Addr} {xs : Array (Int × Tok)} {its : List Value} {ns : List Int} {Q : Value → Shared → Prop}
theorem iter_intTup {Q : Value → Shared → Prop} (hl : s.heap.IsTuple l (intItems xs))
    (h : ∀ s₂ : Shared, s₂ = { s with heap := s.heap.push { cls := .type "tuple_iterator", data := .fields #[.ref l, .int 0 0] } } →
      (s₂.heap.IsTupleIter s.heap.objs.size l 0 ∧ s₂.heap.IsTuple l (intItems xs)) → (∀ b ∈ [s.heap.objs.size, l], b < s₂.heap.objs.size) → l ≠ s.heap.objs.size → Q (.ref s.heap.objs.size) s₂) :
    wpAny (model prog w) A (pyIter (.ref l)) Q E s := by
  have hlt : l < s.heap.objs.size := by obtain ⟨_, e, _⟩ := hl; exact Heap.lt_size e
  refine wpAny_pyIter_tuple hl (h _ rfl ⟨⟨_, Heap.get?_push_size _ rfl, rfl, rfl⟩, ?_⟩ (fun b hb => ?_) (Nat.ne_of_lt hlt))
  · obtain ⟨o, e, r⟩ := hl
    exact ⟨o, Heap.get?_push_of_some _ e, r⟩
  · show b < (s.heap.push _).objs.size
    rw [Heap.size_push]
    rcases List.mem_cons.mp hb with rfl | hb
    · exact Nat.lt_succ_self _
    · rcases List.mem_cons.mp hb with rfl | hb
      · exact Nat.lt_succ_of_lt hlt
      · cases hb
theorem old_keptT {h' : Heap} (hk : ∀ b o, b ∉ [s.heap.objs.size] → (s.heap.push { cls := .type "tuple_iterator", data := .fields #[.ref l, .int 0 0] }).get? b = some o → h'.get? b = some o) :
    ∀ b o, s.heap.get? b = some o → h'.get? b = some o := fun b o e => by
  refine hk b o (fun hm => ?_) (Heap.get?_push_of_some _ e)
  rcases List.mem_cons.mp hm with e1 | hm
  · exact absurd (e1 ▸ Heap.lt_size e) (Nat.lt_irrefl _)
  · cases hm
theorem max_rawT (hh : A.handled = none) (hl : s.heap.IsTuple l its.toArray) (hi : IntsAre its ns) (hne : 0 < ns.length)
    (h : ∀ h' tk M t', (∀ b o, s.heap.get? b = some o → h'.get? b = some o) → M ∈ ns → (∀ a, a ∈ ns → a ≤ M) → Q (.int M t') { s with heap := h', toks := tk }) : wpAny (model prog w) A (call (.builtin "max") [.ref l]) Q E s := by
  obtain ⟨xs, e⟩ := hi.allInts.items
  have hn : numsOf (intItems xs).toList = ns := by rw [← e]; exact hi.numsOf
  rw [nums_intItems] at hn
  subst hn
  rw [e] at hl
  have hsz : 0 < xs.size := by simpa using hne
  refine call_max_walk (iter_intTup hl fun s₂ e2 st hfp hlI => ?_)
  subst e2
  refine ⟨_, _, _, _, _, _, _, rfl, Walks.tuple (A := A.in1) hh _ l hlI (intItems xs), st, hfp, by simpa [intItems] using hsz, CmpOf.ints_gt (numAt xs) (fun _ _ => intItems_at), fun v h' tk hP hk => ?_⟩
  have hv : (intItems xs)[argBest (fun i j => decide (numAt xs i > numAt xs j)) (xs.size - 1)]? = some v := by simpa [intItems] using hP
  obtain ⟨t, rfl⟩ := intItems_at hv
  obtain ⟨h1, h2⟩ := argBest_gt (numAt xs) (xs.size - 1)
  refine h h' tk _ t (old_keptT hk) ?_ fun a ha => ?_
  · rw [numAt_eq]; exact PySem.getD_mem (by rw [List.length_map, Array.length_toList]; omega)
  · obtain ⟨j, hj, rfl⟩ := mem_getD ha
    rw [List.length_map, Array.length_toList] at hj
    rw [← numAt_eq]; exact h2 j (by omega)
theorem min_rawT (hh : A.handled = none) (hl : s.heap.IsTuple l its.toArray) (hi : IntsAre its ns) (hne : 0 < ns.length)
    (h : ∀ h' tk M t', (∀ b o, s.heap.get? b = some o → h'.get? b = some o) → M ∈ ns → (∀ a, a ∈ ns → M ≤ a) → Q (.int M t') { s with heap := h', toks := tk }) : wpAny (model prog w) A (call (.builtin "min") [.ref l]) Q E s := by
  obtain ⟨xs, e⟩ := hi.allInts.items
  have hn : numsOf (intItems xs).toList = ns := by rw [← e]; exact hi.numsOf
  rw [nums_intItems] at hn
  subst hn
  rw [e] at hl
  have hsz : 0 < xs.size := by simpa using hne
  refine call_min_walk (iter_intTup hl fun s₂ e2 st hfp hlI => ?_)
  subst e2
  refine ⟨_, _, _, _, _, _, _, rfl, Walks.tuple (A := A.in1) hh _ l hlI (intItems xs), st, hfp, by simpa [intItems] using hsz, CmpOf.ints_lt (numAt xs) (fun _ _ => intItems_at), fun v h' tk hP hk => ?_⟩
  have hv : (intItems xs)[argBest (fun i j => decide (numAt xs i < numAt xs j)) (xs.size - 1)]? = some v := by simpa [intItems] using hP
  obtain ⟨t, rfl⟩ := intItems_at hv
  obtain ⟨h1, h2⟩ := argBest_lt (numAt xs) (xs.size - 1)
  refine h h' tk _ t (old_keptT hk) ?_ fun a ha => ?_
  · rw [numAt_eq]; exact PySem.getD_mem (by rw [List.length_map, Array.length_toList]; omega)
  · obtain ⟨j, hj, rfl⟩ := mem_getD ha
    rw [List.length_map, Array.length_toList] at hj
    rw [← numAt_eq]; exact h2 j (by omega)
end
section
variable {X : Cx}
def rMaxT (K : PySem.W.Frag) : List V → Hp → VK → Prop := fun vs H Q => ∃ (a : Addr) (ns : List Int), vs = [V.ref a] ∧ SqT K H a (ns.map V.int) ∧ 0 < ns.length ∧ ∀ m, m ∈ ns → (∀ y, y ∈ ns → y ≤ m) → Q (.int m) H
def rMinT (K : PySem.W.Frag) : List V → Hp → VK → Prop := fun vs H Q => ∃ (a : Addr) (ns : List Int), vs = [V.ref a] ∧ SqT K H a (ns.map V.int) ∧ 0 < ns.length ∧ ∀ m, m ∈ ns → (∀ y, y ∈ ns → m ≤ y) → Q (.int m) H
theorem cr_maxT (hc : X.calm = true) : CallR X (.builtin "max") (rMaxT X.K) := by
  intro pins s σ H vs us Q I r h
  obtain ⟨a, ns, rfl, hs, hne, q⟩ := h
  obtain ⟨its, rv, hl, _⟩ := I.tuple hs
  rw [Vals.ref1 r]
  exact max_rawT (I.ok.hd hc) hl rv.ints hne fun h' tk m t' hk h1 h2 => ⟨.int _, H, I.kept hk, ⟨_, rfl⟩, q m h1 h2⟩
theorem cr_minT (hc : X.calm = true) : CallR X (.builtin "min") (rMinT X.K) := by
  intro pins s σ H vs us Q I r h
  obtain ⟨a, ns, rfl, hs, hne, q⟩ := h
  obtain ⟨its, rv, hl, _⟩ := I.tuple hs
  rw [Vals.ref1 r]
  exact min_rawT (I.ok.hd hc) hl rv.ints hne fun h' tk m t' hk h1 h2 => ⟨.int _, H, I.kept hk, ⟨_, rfl⟩, q m h1 h2⟩
end
/-! ### rules with the written part named (within a comprehension) -/
section
variable {X : Cx} {K : PySem.W.Frag}
theorem ix_listK (h : X.K = K) : IxR X (rIxL K) := h ▸ ix_list
theorem ix_tupK (h : X.K = K) : IxR X (rIxT K) := h ▸ ix_tup
theorem ix_seqK (h : X.K = K) : IxR X (rIx K) := h ▸ ix_seq
theorem sl_listK (h : X.K = K) : SlR X (rSlL K) := h ▸ sl_list
theorem sl_tupK (h : X.K = K) : SlR X (rSlT K) := h ▸ sl_tup
theorem call_len_seqK (h : X.K = K) : CallR X (.builtin "len") (fun xs H Q => ∃ p ys, xs = [V.ref p] ∧ (SqL K H p ys ∨ SqT K H p ys) ∧ Q (.int ys.length) H) := h ▸ call_len_seq
theorem call_list_ofK (h : X.K = K) : CallR X (.type "list") (fun xs H Q => ∃ p ys, xs = [V.ref p] ∧ (SqL K H p ys ∨ SqT K H p ys) ∧ ∀ l, H l = none → Q (.ref l) (upd H l (.lst ys))) := h ▸ call_list_of
theorem call_tuple_ofK (h : X.K = K) : CallR X (.type "tuple") (fun xs H Q => ∃ p ys, xs = [V.ref p] ∧ ((SqL K H p ys ∧ ∀ l, H l = none → Q (.ref l) (upd H l (.tup ys))) ∨ (SqT K H p ys ∧ Q (.ref p) H))) := h ▸ call_tuple_of
theorem op_in_seqK (h : X.K = K) : OpR X (compareOp .In) (rIn K false) := h ▸ op_in_seq
theorem op_notIn_seqK (h : X.K = K) : OpR X (compareOp .NotIn) (rIn K true) := h ▸ op_notIn_seq
theorem op_eqDK (h : X.K = K) (hu : X.A.units + 64 < cLine) : OpR X (compareOp .Eq) (rEqD K) := h ▸ op_eqD hu
theorem op_neDK (h : X.K = K) (hu : X.A.units + 64 < cLine) : OpR X (compareOp .NotEq) (rNeD K) := h ▸ op_neD hu
theorem op_catTK (h : X.K = K) : OpR X (binaryOp .Add) (rCatT K) := h ▸ op_catT
theorem cr_allK (h : X.K = K) (hc : X.calm = true) : CallR X (.builtin "all") (rAll K) := h ▸ cr_all hc
theorem cr_anyK (h : X.K = K) (hc : X.calm = true) : CallR X (.builtin "any") (rAny K) := h ▸ cr_any hc
end
/-! ### heaps -/
theorem same_new {H : Hp} {p : Addr} {o : HO} (h : H p = none) : Same H (upd H p o) := fun b x e => by
  rw [upd_ne (ne_of_none e h)]
  exact e
theorem Same.tup {K : PySem.W.Frag} {H H' : Hp} {a : Addr} {xs : List V} (e : Same H H') (h : SqT K H a xs) : SqT K H' a xs := by
  rcases h with (h | ⟨o, h⟩) | h
  · exact .inl (.inl (e _ _ h))
  · exact .inl (.inr ⟨o, e _ _ h⟩)
  · exact .inr h
/-- all that was tracked is as it was, but at d -/
def Ext (d : Addr) (H H' : Hp) : Prop := ∀ b o, b ≠ d → H b = some o → H' b = some o
theorem Ext.refl (d : Addr) (H : Hp) : Ext d H H := fun _ _ _ h => h
theorem Ext.trans {d : Addr} {H H1 H2 : Hp} (a : Ext d H H1) (b : Ext d H1 H2) : Ext d H H2 := fun c o n h => b c o n (a c o n h)
theorem Ext.of {d : Addr} {H H' : Hp} (a : Same H H') : Ext d H H' := fun c o _ h => a c o h
theorem Ext.free {d : Addr} {H H' : Hp} {o : HO} (e : Ext d H H') (hd : H d = some o) {o' : HO} (hd' : H' d = some o') {l : Addr} (h : H' l = Option.none) : H l = Option.none := by
  cases q : H l with
  | none => rfl
  | some o2 =>
    by_cases n : l = d
    · subst n
      rw [hd'] at h
      cases h
    · rw [e l o2 n q] at h
      cases h
theorem Ext.seq {d : Addr} {K : PySem.W.Frag} {H H' : Hp} {a : Addr} {xs : List V} (e : Ext d H H') (n : a ≠ d) (h : SqL K H a xs) : SqL K H' a xs := by
  rcases h with (h | ⟨o, h⟩) | h
  · exact .inl (.inl (e _ _ n h))
  · exact .inl (.inr ⟨o, e _ _ n h⟩)
  · exact .inr h
end TT
namespace TT
open PySem PySem.Spec PyProof.Rows L2
/-! ### readings of small pieces -/
section
variable {K : PySem.W.Frag} {σ : L2.St} {H : Hp} {Q : VK}
theorem rd_ixL {i : Nat} {d : Addr} {xs : List V} (j : Nat) {v : V} (hσ : σ[i]? = some (some (.ref d))) (hL : SqL K H d xs) (hx : xs[j]? = some v) (q : Q v H) : tOp (rIxL K) (tVar i) (tC (.int (j : Int))) σ H Q := ⟨_, hσ, d, xs, j, v, rfl, rfl, hL, atI_nat hx, q⟩
theorem rd_ixT {i : Nat} {d : Addr} {xs : List V} (j : Nat) {v : V} (hσ : σ[i]? = some (some (.ref d))) (hL : SqT K H d xs) (hx : xs[j]? = some v) (q : Q v H) : tOp (rIxT K) (tVar i) (tC (.int (j : Int))) σ H Q := ⟨_, hσ, d, xs, j, v, rfl, rfl, hL, atI_nat hx, q⟩
/-- d['x'] of a tracked dict -/
theorem rd_dS {i : Nat} {d : Addr} {kvs : List (Key × V)} {v : V} (x : Str) (hσ : σ[i]? = some (some (.ref d))) (hd : H d = some (.dK kvs)) (hx : valV kvs (Sum.inr x) = some v) (q : Q v H) : tDGet (tVar i) (tC (.str x)) σ H Q :=
  ⟨_, hσ, d, v, rfl, by have := DGet.k (k := Sum.inr x) hd; rwa [hx] at this, q⟩
end
theorem iteFd {c : Bool} {A B : Prop} (e : c = false) (h : B) : if c = true then A else B := by
  rw [e, if_neg Bool.false_ne_true]
  exact h
theorem iteTd {c : Bool} {A B : Prop} (e : c = true) (h : A) : if c = true then A else B := by
  rw [e, if_pos rfl]
  exact h
theorem atI_int {α : Type} {xs : List α} {i : Int} {v : α} (h0 : 0 ≤ i) (h : xs[i.toNat]? = some v) : atI xs i = some v := by
  have := atI_nat h
  rwa [Int.toNat_of_nonneg h0] at this
theorem sz {n : Nat} (h : n ≤ 100000) : n ≤ sizeLine := Nat.le_trans h (by decide)
theorem szl {n : Nat} (h : n < 100000) : n < sizeLine := Nat.lt_of_lt_of_le h (by decide)
theorem cutV_map (ns : List Int) (lo hi : Option Int) : ∃ ms : List Int, cutV (ns.map V.int) lo hi = ms.map V.int ∧ ms.length ≤ ns.length := by
  refine ⟨(ns.drop (HT.sIx (ns.map V.int).length 0 lo)).take (HT.sIx (ns.map V.int).length (ns.map V.int).length hi - HT.sIx (ns.map V.int).length 0 lo), ?_, ?_⟩
  · unfold cutV
    rw [List.map_take, List.map_drop]
  · rw [List.length_take, List.length_drop]
    omega
/-! ### lists of ints as data -/
theorem dp_ints {K : PySem.W.Frag} {H : Hp} : ∀ ns : List Int, DpAll K H (ns.map V.int) (ns.map PyData.int)
  | [] => .nil
  | n :: ns => .cons (.int n) (dp_ints ns)
theorem lay_ints : ∀ ns : List Int, PyData.canLayAll0 (ns.map PyData.int) = true
  | [] => rfl
  | n :: ns => by
    show (PyData.canLay0 (.int n) && PyData.canLayAll0 (ns.map PyData.int)) = true
    rw [lay_ints ns]; rfl
theorem depth_ints : ∀ ns : List Int, PyData.depthAll (ns.map PyData.int) = 0
  | [] => rfl
  | n :: ns => by
    show max (PyData.depth (.int n)) (PyData.depthAll (ns.map PyData.int)) = 0
    rw [depth_ints ns]; rfl
theorem shaped_ints (ns : List Int) : SeqAt.shaped (.list (ns.map PyData.int)) = true := by
  show (PyData.canLayAll0 (ns.map PyData.int) && decide (PyData.depthAll (ns.map PyData.int) + 1 ≤ 64)) = true
  rw [lay_ints, depth_ints]; rfl
theorem shaped_intsT (ns : List Int) : SeqAt.shaped (.tuple (ns.map PyData.int)) = true := by
  show (PyData.canLayAll0 (ns.map PyData.int) && decide (PyData.depthAll (ns.map PyData.int) + 1 ≤ 64)) = true
  rw [lay_ints, depth_ints]; rfl
theorem eqv_ints : ∀ ns ms : List Int, PyData.eqvAll (ns.map PyData.int) (ms.map PyData.int) = decide (ns = ms)
  | [], [] => rfl
  | [], _ :: _ => rfl
  | _ :: _, [] => rfl
  | n :: ns, m :: ms => by
    show ((n == m) && PyData.eqvAll (ns.map PyData.int) (ms.map PyData.int)) = _
    rw [eqv_ints ns ms]
    by_cases h : n = m
    · subst h
      rw [beq_self_eq_true, Bool.true_and]
      by_cases g : ns = ms
      · rw [decide_eq_true g, decide_eq_true (by rw [g])]
      · rw [decide_eq_false g, decide_eq_false (fun z => g (List.cons.inj z).2)]
    · rw [beq_eq_false_iff_ne.mpr h, Bool.false_and, decide_eq_false (fun z => h (List.cons.inj z).1)]
/-- xs == ys, xs != ys of int lists -/
theorem rd_neL {K : PySem.W.Frag} {H : Hp} {a b : Addr} {ns ms : List Int} {Q : VK} (ha : SqL K H a (ns.map V.int)) (hb : SqL K H b (ms.map V.int)) (q : Q (.bl (!decide (ns = ms))) H) : rNeD K (.ref a) (.ref b) H Q :=
  ⟨_, _, .lst ha (dp_ints ns), .lst hb (dp_ints ms), shaped_ints ns, shaped_ints ms, by show Q (.bl (!PyData.eqvAll _ _)) H; rw [eqv_ints]; exact q⟩
theorem rd_eqL {K : PySem.W.Frag} {H : Hp} {a b : Addr} {ns ms : List Int} {Q : VK} (ha : SqL K H a (ns.map V.int)) (hb : SqL K H b (ms.map V.int)) (q : Q (.bl (decide (ns = ms))) H) : rEqD K (.ref a) (.ref b) H Q :=
  ⟨_, _, .lst ha (dp_ints ns), .lst hb (dp_ints ms), shaped_ints ns, shaped_ints ms, by show Q (.bl (PyData.eqvAll _ _)) H; rw [eqv_ints]; exact q⟩
theorem rd_neT {K : PySem.W.Frag} {H : Hp} {a b : Addr} {ns ms : List Int} {Q : VK} (ha : SqT K H a (ns.map V.int)) (hb : SqT K H b (ms.map V.int)) (q : Q (.bl (!decide (ns = ms))) H) : rNeD K (.ref a) (.ref b) H Q :=
  ⟨_, _, .tup ha (dp_ints ns), .tup hb (dp_ints ms), shaped_intsT ns, shaped_intsT ms, by show Q (.bl (!PyData.eqvAll _ _)) H; rw [eqv_ints]; exact q⟩
/-! ### the law's draws -/
abbrev MM : Int := 2305843009213693951
def Drw (c : Addr) (ns : List Int) (H : Hp) (d : Addr) : Prop := ∃ (i b z : Int), H d = some (.lst [.ref c, .int i, .int b, .int z]) ∧ H c = some (.lst (ns.map V.int)) ∧ c ≠ d ∧ 0 ≤ i ∧ 0 ≤ b ∧ 0 ≤ z ∧ z < MM
theorem Drw.at {c : Addr} {ns : List Int} {H : Hp} {d : Addr} (h : Drw c ns H d) : ∃ o, H d = some o := by
  obtain ⟨i, b, z, e, _⟩ := h
  exact ⟨_, e⟩
theorem Drw.same {c : Addr} {ns : List Int} {H H' : Hp} {d : Addr} (h : Drw c ns H d) (e : Same H H') : Drw c ns H' d := by
  obtain ⟨i, b, z, e1, e2, r⟩ := h
  exact ⟨i, b, z, e _ _ e1, e _ _ e2, r⟩
theorem Drw.new {c : Addr} {ns : List Int} {H : Hp} {d p : Addr} {o : HO} (h : Drw c ns H d) (np : H p = none) : Drw c ns (upd H p o) d := h.same (same_new np)
theorem Drw.ne {c : Addr} {ns : List Int} {H : Hp} {d p : Addr} (h : Drw c ns H d) (np : H p = none) : p ≠ d := fun e => by
  obtain ⟨o, ho⟩ := h.at
  rw [e, ho] at np
  cases np
theorem Drw.nec {c : Addr} {ns : List Int} {H : Hp} {d p : Addr} (h : Drw c ns H d) (np : H p = none) : p ≠ c := fun e => by
  obtain ⟨i, b, z, e1, e2, r⟩ := h
  rw [e, e2] at np
  cases np
/-- an object that an earlier heap did not know may change -/
theorem Drw.put {c : Addr} {ns : List Int} {H0 H : Hp} {d p : Addr} {o : HO} (h : Drw c ns H d) (h0 : Drw c ns H0 d) (np : H0 p = none) : Drw c ns (upd H p o) d := by
  obtain ⟨i, b, z, e1, e2, r⟩ := h
  exact ⟨i, b, z, by rw [upd_ne (h0.ne np).symm]; exact e1, by rw [upd_ne (h0.nec np).symm]; exact e2, r⟩
/-- an object that the earlier heap H0 did not know may change -/
theorem Ext.put {d p : Addr} {H0 H : Hp} {o : HO} (e : Ext d H0 H) (np : H0 p = none) : Ext d H0 (upd H p o) := fun b u n h => by
  rw [upd_ne (ne_of_none h np)]
  exact e b u n h
theorem Same.put {p : Addr} {H0 H : Hp} {o : HO} (e : Same H0 H) (np : H0 p = none) : Same H0 (upd H p o) := fun b u h => by
  rw [upd_ne (ne_of_none h np)]
  exact e b u h
theorem Ext.but {d : Addr} {H H' : Hp} (h : ∀ b, b ≠ d → H' b = H b) : Ext d H H' := fun b o n e => by rw [h b n]; exact e
/-- a list stays where it is: it is not d, for d holds something else -/
def spTake : Sp := fun vs H Q _ => ∃ (d : Addr) (m : Int) (c : Addr) (ns : List Int), vs = [.ref d, .int m] ∧ 1 ≤ m ∧ m < 2 ^ 200 ∧ Drw c ns H d ∧ ∀ r H', 0 ≤ r → r < m → Drw c ns H' d → (∀ b, b ≠ d → H' b = H b) → Q (.int r) H'
def spOf (K : PySem.W.Frag) : Sp := fun vs H Q _ => ∃ (d a : Addr) (xs : List V) (c : Addr) (ns : List Int), vs = [.ref d, .ref a] ∧ SqL K H a xs ∧ 0 < xs.length ∧ xs.length ≤ 100000 ∧ a ≠ d ∧ Drw c ns H d ∧ ∀ x H', x ∈ xs → Drw c ns H' d → (∀ b, b ≠ d → H' b = H b) → Q x H'
def spStart (K : PySem.W.Frag) : Sp := fun vs H Q _ => ∃ (a : Addr) (ns : List Int), vs = [.ref a] ∧ SqL K H a (ns.map V.int) ∧ ns.length ≤ 63 ∧ ∀ d c ms H', Same H H' → H d = none → Drw c ms H' d → Q (.ref d) H'
def spShuf (K : PySem.W.Frag) : Sp := fun vs H Q _ => ∃ (d a : Addr) (xs : List V) (c : Addr) (ns : List Int), vs = [.ref d, .ref a] ∧ SqL K H a xs ∧ xs.length ≤ 1000 ∧ a ≠ d ∧ Drw c ns H d ∧
  ∀ ys p H', ys.Perm xs → Ext d H H' → Drw c ns H' d → H p = none → H' p = some (.lst ys) → Q (.ref p) H'
/-- ascending keys within the bounds -/
structure Asc (ks : List Int) : Prop where
  lt : ks.Pairwise (· < ·)
  bd : ∀ k ∈ ks, -1000000000 ≤ k ∧ k ≤ 1000000000
def spKeys : Sp := fun vs H Q _ => ∃ (d : Addr) (m : Int) (c : Addr) (ns : List Int), vs = [.ref d, .int m] ∧ 0 ≤ m ∧ m ≤ 49 ∧ Drw c ns H d ∧
  ∀ ks p H', (ks.length : Int) = m → Asc ks → Ext d H H' → Drw c ns H' d → H p = none → H' p = some (.lst (ks.map V.int)) → Q (.ref p) H'
def spSize : Sp := fun vs H Q _ => ∃ (d : Addr) (m : Int) (c : Addr) (ns : List Int), vs = [.ref d, .int m] ∧ 0 ≤ m ∧ m ≤ 1000 ∧ Drw c ns H d ∧ ∀ r H', 0 ≤ r → r ≤ m → Ext d H H' → Drw c ns H' d → Q (.int r) H'
end TT
namespace TT
open PySem PySem.Spec PyProof.Rows L2
/-! ### a tree of nodes in dicts -/
/-- a dict from ints to ints, as a function -/
structure Mp (kvs : List (Key × V)) (f : Int → Option Int) (n : Nat) : Prop where
  all : ∀ p ∈ kvs, ∃ a b, p = (Sum.inl a, V.int b)
  val : ∀ x, valV kvs (Sum.inl x) = (f x).map V.int
  len : kvs.length ≤ n
  nd : (kvs.map (·.1)).Nodup
theorem putK_len (c : List (Key × V)) (k : Key) (x : V) : (putK c k x).length ≤ c.length + 1 := by
  unfold putK
  split
  · rw [List.length_map]; omega
  · rw [List.length_append]; exact Nat.le_refl _
theorem mem_putK {c : List (Key × V)} {k : Key} {x : V} {p : Key × V} (h : p ∈ putK c k x) : p ∈ c ∨ p = (k, x) := by
  unfold putK at h
  split at h
  · obtain ⟨q, hq, e⟩ := List.mem_map.mp h
    split at e
    · next e2 => rw [e2] at e; exact .inr e.symm
    · exact .inl (e ▸ hq)
  · rcases List.mem_append.mp h with h | h
    · exact .inl h
    · exact .inr (List.mem_singleton.mp h)
theorem Mp.nil {n : Nat} : Mp [] (fun _ => none) n := ⟨fun _ h => (by cases h), fun _ => rfl, Nat.zero_le _, List.nodup_nil⟩
theorem nd_put {kvs : List (Key × V)} {k : Key} (v : V) (hn : (kvs.map (·.1)).Nodup) : ((putK kvs k v).map (·.1)).Nodup := by
  cases h : valV kvs k with
  | none => exact nd_putK v hn h
  | some y =>
    have ha : (kvs.any fun kv => decide (kv.1 = k)) = true := by rw [valV_any, h]; rfl
    unfold putK
    rw [if_pos ha, List.map_map]
    have : ((fun p : Key × V => p.1) ∘ fun kv => if kv.1 = k then (kv.1, v) else kv) = fun p => p.1 := funext fun p => by
      show (if p.1 = k then (p.1, v) else p).1 = p.1
      split <;> rfl
    rw [this]
    exact hn
theorem Mp.put {kvs : List (Key × V)} {f : Int → Option Int} {n : Nat} (h : Mp kvs f n) (x y : Int) : Mp (putK kvs (Sum.inl x) (.int y)) (fun z => if z = x then some y else f z) (n + 1) := by
  refine ⟨fun p hp => ?_, fun z => ?_, ?_, nd_put _ h.nd⟩
  · rcases mem_putK hp with h' | rfl
    · exact h.all p h'
    · exact ⟨_, _, rfl⟩
  · rw [valV_put]
    by_cases e : z = x
    · rw [if_pos (by rw [e]), if_pos e]; rfl
    · rw [if_neg (fun z => e (Sum.inl.inj z)), if_neg e]; exact h.val z
  · have := putK_len kvs (Sum.inl x) (.int y)
    have := h.len
    omega
theorem Mp.eq {kvs : List (Key × V)} {f g : Int → Option Int} {n m : Nat} (h : Mp kvs f n) (e : ∀ x, f x = g x) (l : n ≤ m) : Mp kvs g m := ⟨h.all, fun x => by rw [h.val x, e x], Nat.le_trans h.len l, h.nd⟩
theorem valV_drop {y k : Key} : ∀ (kvs : List (Key × V)), valV (dropK kvs k) y = if y = k then none else valV kvs y
  | [] => by
    show none = _
    split <;> rfl
  | p :: r => by
    by_cases e : p.1 = k
    · rw [dropK_pos e, valV_drop r]
      by_cases g : y = k
      · rw [if_pos g, if_pos g]
      · rw [if_neg g, if_neg g, valV_neg (fun z => g (z.symm.trans e))]
    · rw [dropK_neg e]
      by_cases g : p.1 = y
      · rw [valV_pos g, valV_pos g, if_neg (fun z => e (g.trans z))]
      · rw [valV_neg g, valV_drop r, valV_neg g]
theorem Mp.pop {kvs : List (Key × V)} {f : Int → Option Int} {n : Nat} (h : Mp kvs f n) (x : Int) : Mp (dropK kvs (Sum.inl x)) (fun z => if z = x then none else f z) n := by
  refine ⟨fun p hp => h.all p (dropK_mem hp), fun z => ?_, Nat.le_trans (dropK_le ..) h.len, nd_dropK h.nd⟩
  rw [valV_drop]
  by_cases e : z = x
  · rw [if_pos (by rw [e]), if_pos e]; rfl
  · rw [if_neg (fun q => e (Sum.inl.inj q)), if_neg e]; exact h.val z
theorem nodup_len : ∀ {l m : List Key}, l.Nodup → l ⊆ m → l.length ≤ m.length
  | [], _, _, _ => Nat.zero_le _
  | x :: l, m, nd, h => by
    obtain ⟨h1, h2⟩ := List.nodup_cons.mp nd
    have hx := h List.mem_cons_self
    have h3 := nodup_len (m := m.filter fun y => !decide (y = x)) h2 fun y hy => List.mem_filter.mpr ⟨h (List.mem_cons_of_mem _ hy), by
      have ne : y ≠ x := fun z => h1 (z ▸ hy)
      simp [ne]⟩
    have h4 : (m.filter fun y => !decide (y = x)).length < m.length := List.length_filter_lt_length_iff_exists.mpr ⟨x, hx, by simp⟩
    rw [List.length_cons]
    omega
theorem Mp.small {kvs : List (Key × V)} {f : Int → Option Int} {n : Nat} {l : List Int} (h : Mp kvs f n) (hl : ∀ x, f x ≠ none → x ∈ l) : Mp kvs f l.length := by
  refine ⟨h.all, h.val, ?_, h.nd⟩
  have sub : (kvs.map (·.1)) ⊆ l.map Sum.inl := fun k hk => by
    obtain ⟨p, hp, rfl⟩ := List.mem_map.mp hk
    obtain ⟨a, b, rfl⟩ := h.all p hp
    refine List.mem_map.mpr ⟨a, hl a fun z => ?_, rfl⟩
    have hv := h.val a
    rw [z] at hv
    exact valV_not hv hk
  have := nodup_len h.nd sub
  rwa [List.length_map, List.length_map] at this
def oV : Option Int → V
  | none => .non
  | some k => .int k
abbrev nodK (rt : Option Int) (L R U : Addr) : List (Key × V) := [(Sum.inr "root", oV rt), (Sum.inr "left", .ref L), (Sum.inr "right", .ref R), (Sum.inr "up", .ref U)]
structure Nod (H : Hp) (m L R U : Addr) (rt : Option Int) (lf rf uf : Int → Option Int) (n : Nat) : Prop where
  hm : H m = some (.dK (nodK rt L R U))
  l : ∃ lk, H L = some (.dK lk) ∧ Mp lk lf n
  r : ∃ rk, H R = some (.dK rk) ∧ Mp rk rf n
  u : ∃ uk, H U = some (.dK uk) ∧ Mp uk uf n
  mL : m ≠ L
  mR : m ≠ R
  mU : m ≠ U
  LR : L ≠ R
  LU : L ≠ U
  RU : R ≠ U
abbrev TrAt (H : Hp) (m L R U : Addr) (t : T) (n : Nat) : Prop := Nod H m L R U t.rt t.lc t.rc t.up n
theorem Nod.same {H H' : Hp} {m L R U : Addr} {rt : Option Int} {lf rf uf : Int → Option Int} {n : Nat} (h : Nod H m L R U rt lf rf uf n) (e : Same H H') : Nod H' m L R U rt lf rf uf n := by
  obtain ⟨lk, h1, h2⟩ := h.l
  obtain ⟨rk, h3, h4⟩ := h.r
  obtain ⟨uk, h5, h6⟩ := h.u
  exact ⟨e _ _ h.hm, ⟨lk, e _ _ h1, h2⟩, ⟨rk, e _ _ h3, h4⟩, ⟨uk, e _ _ h5, h6⟩, h.mL, h.mR, h.mU, h.LR, h.LU, h.RU⟩
theorem nod_root {rt : Option Int} {L R U : Addr} : valV (nodK rt L R U) (Sum.inr "root") = some (oV rt) := by rfl
theorem nod_left {rt : Option Int} {L R U : Addr} : valV (nodK rt L R U) (Sum.inr "left") = some (.ref L) := by rfl
theorem nod_right {rt : Option Int} {L R U : Addr} : valV (nodK rt L R U) (Sum.inr "right") = some (.ref R) := by rfl
theorem nod_up {rt : Option Int} {L R U : Addr} : valV (nodK rt L R U) (Sum.inr "up") = some (.ref U) := by rfl
theorem nod_put {rt : Option Int} {L R U : Addr} {y : Option Int} : putK (nodK rt L R U) (Sum.inr "root") (oV y) = nodK y L R U := by rfl
def spEmpty : Sp := fun vs H Q _ => vs = [] ∧ ∀ m L R U H', Same H H' → H m = none → H L = none → H R = none → H U = none → Nod H' m L R U none (fun _ => none) (fun _ => none) (fun _ => none) 0 → Q (.ref m) H'
def spPlace : Sp := fun vs H Q _ => ∃ (m : Addr) (key : Int) (L R U : Addr) (t : T) (n : Nat), vs = [.ref m, .int key] ∧ TrAt H m L R U t n ∧ t.bst ∧ key ∉ t.pre ∧ t.pre.length ≤ 58 ∧ n ≤ 1000 ∧
  ∀ H', TrAt H' m L R U (t.ins key) (n + 1) → (∀ b, b ≠ m → b ≠ L → b ≠ R → b ≠ U → H' b = H b) → Q (.int (t.dIns key)) H'
/-- the tree of the keys of a list or tuple -/
def spTree (K : PySem.W.Frag) : Sp := fun vs H Q _ => ∃ (a : Addr) (ks : List Int), vs = [.ref a] ∧ (SqL K H a (ks.map V.int) ∨ SqT K H a (ks.map V.int)) ∧ ks.Nodup ∧ ks.length ≤ 58 ∧
  ∀ m L R U H', Same H H' → H m = none → H L = none → H R = none → H U = none → TrAt H' m L R U (T.insAll ks T.leaf) ks.length → Q (.ref m) H'
def spShape : Sp := fun vs H Q _ => ∃ (m L R U : Addr) (t : T) (uf : Int → Option Int) (n : Nat), vs = [.ref m] ∧ Nod H m L R U t.rt t.lc t.rc uf n ∧ t.bst ∧ t.pre.length ≤ 1000 ∧
  ∀ p H', Same H H' → H p = none → H' p = some (.tup (t.pre.map V.int)) → Q (.ref p) H'
def spSome (K : PySem.W.Frag) : Sp := fun vs H Q _ => ∃ (d a : Addr) (ks : List Int) (c : Addr) (ns : List Int), vs = [.ref d, .ref a] ∧ SqL K H a (ks.map V.int) ∧ Asc ks ∧ ks.length ≤ 49 ∧ a ≠ d ∧ Drw c ns H d ∧
  ∀ (t : T) p H', t.bst → t.pre.Perm ks → Ext d H H' → Drw c ns H' d → H p = none → H' p = some (.tup (t.pre.map V.int)) → Q (.ref p) H'
theorem Nod.insL {H : Hp} {m L R U : Addr} {t : T} {n : Nat} {key x : Int} {lk uk : List (Key × V)} (hT : TrAt H m L R U t n) (hb : t.bst) (hk : key ∉ t.pre) (e : t.spot key = some (x, true)) (hl : Mp lk t.lc n) (hu : Mp uk t.up n) :
    TrAt (upd (upd H L (.dK (putK lk (Sum.inl x) (.int key)))) U (.dK (putK uk (Sum.inl key) (.int x)))) m L R U (t.ins key) (n + 1) := by
  have nl : t ≠ T.leaf := fun z => by rw [z] at e; cases e
  obtain ⟨rk, h3, h4⟩ := hT.r
  refine ⟨?_, ⟨_, by rw [upd_ne hT.LU, upd_same], (hl.put x key).eq (fun z => ?_) (Nat.le_refl _)⟩, ⟨rk, by rw [upd_ne hT.RU, upd_ne hT.LR.symm]; exact h3, h4.eq (fun z => ?_) (Nat.le_succ _)⟩, ⟨_, upd_same, (hu.put key x).eq (fun z => ?_) (Nat.le_refl _)⟩, hT.mL, hT.mR, hT.mU, hT.LR, hT.LU, hT.RU⟩
  · rw [upd_ne hT.mU, upd_ne hT.mL, rt_ins nl]; exact hT.hm
  · rw [lc_ins hb hk, e]
    by_cases ez : z = x
    · subst ez; rw [if_pos rfl, if_pos rfl]
    · rw [if_neg ez, if_neg (fun q => ez (Prod.mk.inj (Option.some.inj q)).1.symm)]
  · rw [rc_ins hb hk, e, if_neg (fun q => Bool.noConfusion (Prod.mk.inj (Option.some.inj q)).2)]
  · rw [up_ins hb hk, e]; rfl
theorem Nod.insR {H : Hp} {m L R U : Addr} {t : T} {n : Nat} {key x : Int} {rk uk : List (Key × V)} (hT : TrAt H m L R U t n) (hb : t.bst) (hk : key ∉ t.pre) (e : t.spot key = some (x, false)) (hr : Mp rk t.rc n) (hu : Mp uk t.up n) :
    TrAt (upd (upd H R (.dK (putK rk (Sum.inl x) (.int key)))) U (.dK (putK uk (Sum.inl key) (.int x)))) m L R U (t.ins key) (n + 1) := by
  have nl : t ≠ T.leaf := fun z => by rw [z] at e; cases e
  obtain ⟨lk, h3, h4⟩ := hT.l
  refine ⟨?_, ⟨lk, by rw [upd_ne hT.LU, upd_ne hT.LR]; exact h3, h4.eq (fun z => ?_) (Nat.le_succ _)⟩, ⟨_, by rw [upd_ne hT.RU, upd_same], (hr.put x key).eq (fun z => ?_) (Nat.le_refl _)⟩, ⟨_, upd_same, (hu.put key x).eq (fun z => ?_) (Nat.le_refl _)⟩, hT.mL, hT.mR, hT.mU, hT.LR, hT.LU, hT.RU⟩
  · rw [upd_ne hT.mU, upd_ne hT.mR, rt_ins nl]; exact hT.hm
  · rw [lc_ins hb hk, e, if_neg (fun q => Bool.noConfusion (Prod.mk.inj (Option.some.inj q)).2)]
  · rw [rc_ins hb hk, e]
    by_cases ez : z = x
    · subst ez; rw [if_pos rfl, if_pos rfl]
    · rw [if_neg ez, if_neg (fun q => ez (Prod.mk.inj (Option.some.inj q)).1.symm)]
  · rw [up_ins hb hk, e]; rfl
/-! ### readings -/
section
variable {K : PySem.W.Frag} {σ : L2.St} {H : Hp} {Q : VK}
theorem dg_s {kvs : List (Key × V)} {v : V} {d : Addr} (x : Str) (hd : H d = some (.dK kvs)) (hx : valV kvs (Sum.inr x) = some v) : DGet H d (.str x) (some v) := by
  have := DGet.k (k := Sum.inr x) hd
  rwa [hx] at this
theorem dg_in {kvs : List (Key × V)} {f : Int → Option Int} {n : Nat} {d : Addr} {x : Int} (hd : H d = some (.dK kvs)) (h : Mp kvs f n) : DGet H d (.int x) ((f x).map V.int) := by
  have := DGet.k (k := Sum.inl x) hd
  rwa [h.val x] at this
theorem dp_in {kvs : List (Key × V)} {f : Int → Option Int} {n : Nat} {d : Addr} {x y : Int} (hd : H d = some (.dK kvs)) (h : Mp kvs f n) (hn : n ≤ 99999) : DPut H d (.int x) (.int y) (upd H d (.dK (putK kvs (Sum.inl x) (.int y)))) :=
  DPut.k (k := Sum.inl x) hd (szl (by have := h.len; omega))
end
end TT
namespace TT
open PySem PySem.Spec PyProof.Rows L2
/-! from K06e -/
/-! ### the preorder by a stack -/
abbrev Nd := T × Int × T
def ndT (n : Nd) : T := T.node n.1 n.2.1 n.2.2
def pres : List Nd → List Int
  | [] => []
  | n :: ns => pres ns ++ (ndT n).pre
theorem pres_append (ts us : List Nd) : pres (ts ++ us) = pres us ++ pres ts := by
  induction ts with
  | nil => simp [pres]
  | cons t ts ih => simp [pres, ih]
theorem len_pres : ∀ ts : List Nd, ts.length ≤ (pres ts).length
  | [] => Nat.le_refl _
  | n :: ts => by
    have := len_pres ts
    show ts.length + 1 ≤ (pres ts ++ (ndT n).pre).length
    rw [List.length_append]
    show _ ≤ _ + (n.2.1 :: (n.1.pre ++ n.2.2.pre)).length
    rw [List.length_cons]
    omega
def kid : T → List Nd
  | T.leaf => []
  | T.node l x r => [(l, x, r)]
def roots (ts : List Nd) : List Int := ts.map (·.2.1)
theorem pres_kid (t : T) : pres (kid t) = t.pre := by cases t <;> simp [kid, pres, T.pre, ndT]
/-! from K06f -/
def zigI (n k : Nat) : Nat := if k % 2 = 0 then k / 2 else n - 1 - k / 2
def zig (ks : List Int) (m : Nat) : List Int := (List.range m).map fun k => ks.getD (zigI ks.length k) 0
theorem asc_nodup {ks : List Int} (h : Asc ks) : ks.Nodup := h.lt.imp fun a => by omega
theorem getD_inj {ks : List Int} (h : ks.Nodup) {i j : Nat} (hi : i < ks.length) (hj : j < ks.length) (e : ks.getD i 0 = ks.getD j 0) : i = j := by
  rw [List.getD_eq_getElem?_getD, List.getD_eq_getElem?_getD, List.getElem?_eq_getElem hi, List.getElem?_eq_getElem hj] at e
  exact (List.getElem?_inj hi h).mp (by rw [List.getElem?_eq_getElem hi, List.getElem?_eq_getElem hj]; exact congrArg some e)
theorem zig_nodup {ks : List Int} (h : ks.Nodup) : (zig ks ks.length).Nodup := by
  unfold zig List.Nodup
  rw [List.pairwise_map]
  refine List.Pairwise.imp_of_mem ?_ List.pairwise_lt_range
  intro a b ha hb hab e
  rw [List.mem_range] at ha hb
  have := getD_inj h (i := zigI ks.length a) (j := zigI ks.length b) (by unfold zigI; split <;> omega) (by unfold zigI; split <;> omega) e
  unfold zigI at this
  split at this <;> split at this <;> omega
theorem getD_mem' {ks : List Int} {i : Nat} (hi : i < ks.length) : ks.getD i 0 ∈ ks := by
  rw [List.getD_eq_getElem?_getD, List.getElem?_eq_getElem hi]; exact List.getElem_mem hi
theorem zig_mem {ks : List Int} {x : Int} : x ∈ zig ks ks.length ↔ x ∈ ks := by
  unfold zig
  rw [List.mem_map]
  constructor
  · rintro ⟨k, hk, rfl⟩
    rw [List.mem_range] at hk
    exact getD_mem' (by unfold zigI; split <;> omega)
  · intro hx
    obtain ⟨j, hj, rfl⟩ := List.getElem_of_mem hx
    by_cases h : 2 * j < ks.length
    · refine ⟨2 * j, List.mem_range.mpr h, ?_⟩
      have : zigI ks.length (2 * j) = j := by unfold zigI; rw [if_pos (by omega)]; omega
      rw [this, List.getD_eq_getElem?_getD, List.getElem?_eq_getElem hj]; rfl
    · refine ⟨2 * (ks.length - 1 - j) + 1, List.mem_range.mpr (by omega), ?_⟩
      have : zigI ks.length (2 * (ks.length - 1 - j) + 1) = j := by unfold zigI; rw [if_neg (by omega)]; omega
      rw [this, List.getD_eq_getElem?_getD, List.getElem?_eq_getElem hj]; rfl
theorem zig_perm {ks : List Int} (h : ks.Nodup) : (zig ks ks.length).Perm ks := (List.perm_ext_iff_of_nodup (zig_nodup h) h).mpr fun _ => zig_mem
theorem insAll_perm {ks : List Int} (h : ks.Nodup) : (T.insAll ks T.leaf).pre.Perm ks := by
  refine (List.perm_ext_iff_of_nodup (nodup_pre (bst_insAll (t := T.leaf) trivial h fun _ _ z => (by cases z))) h).mpr fun x => ?_
  rw [mem_insAll]
  exact ⟨fun z => z.elim id fun z => (by cases z), fun z => .inl z⟩
/-! from K06g -/
/-- the same data on both sides, at most n deep -/
def Eqv (H : Hp) : Nat → V → V → Prop
  | 0, x, y => flatV x = true ∧ x = y
  | n + 1, x, y => (flatV x = true ∧ x = y) ∨ ∃ a b xs ys, x = .ref a ∧ y = .ref b ∧ ((H a = some (.lst xs) ∧ H b = some (.lst ys)) ∨ (H a = some (.tup xs) ∧ H b = some (.tup ys))) ∧ xs.length = ys.length ∧ xs.length ≤ 1000 ∧ ∀ (i : Nat) u v, xs[i]? = some u → ys[i]? = some v → Eqv H n u v
theorem Eqv.same {H H' : Hp} (e : Same H H') : ∀ {n : Nat} {x y : V}, Eqv H n x y → Eqv H' n x y
  | 0, _, _, h => (show flatV _ = true ∧ _ from h)
  | n + 1, _, _, h => by
    rcases h with h | ⟨a, b, xs, ys, e1, e2, h1, h2, h3, h4⟩
    · exact .inl h
    · refine .inr ⟨a, b, xs, ys, e1, e2, ?_, h2, h3, fun i u v a1 a2 => (h4 i u v a1 a2).same e⟩
      rcases h1 with ⟨p, q⟩ | ⟨p, q⟩
      · exact .inl ⟨e _ _ p, e _ _ q⟩
      · exact .inr ⟨e _ _ p, e _ _ q⟩
def spSame (n : Nat) : Sp := fun vs H Q _ => ∃ x y, vs = [x, y] ∧ Eqv H n x y ∧ ∀ H', Same H H' → Q (.bl true) H'
theorem Eqv.cases {H : Hp} : ∀ {n : Nat} {x y : V}, Eqv H n x y → (flatV x = true ∧ x = y) ∨ ∃ m a b xs ys, n = m + 1 ∧ x = .ref a ∧ y = .ref b ∧ ((H a = some (.lst xs) ∧ H b = some (.lst ys)) ∨ (H a = some (.tup xs) ∧ H b = some (.tup ys))) ∧ xs.length = ys.length ∧ xs.length ≤ 1000 ∧ ∀ (i : Nat) u v, xs[i]? = some u → ys[i]? = some v → Eqv H m u v
  | 0, _, _, h => .inl h
  | n + 1, _, _, h => by
    rcases h with h | ⟨a, b, xs, ys, h⟩
    · exact .inl h
    · exact .inr ⟨n, a, b, xs, ys, rfl, h⟩
/-- what the calls within may lean on -/
def spPrev : Nat → Sp
  | 0 => fun _ _ _ _ => False
  | n + 1 => spSame n
/-! ### isinstance -/
section
variable {K : PySem.W.Frag} {H : Hp} {Q : VK}
theorem kLT {t : String} {r1 r2 : Bool} (h1 : kitB t "list" = some r1) (h2 : kitB t "tuple" = some r2) : PySem.W.kitAny K (.type t) [.type "list", .type "tuple"] = some (r1 || r2) := by
  refine kitAny_cons (kit_ty h1) (fun e => ?_) (fun e => by rw [e]; rfl)
  subst e
  refine kitAny_cons (r := false || r2) (kit_ty h2) (fun e => ?_) (fun e => by rw [e]; rfl)
  subst e
  exact kitAny_nil
end
theorem walk_zipT {K : PySem.W.Frag} {a b : Addr} {xs ys : List V} {n : Nat} (hn : n = min xs.length ys.length) : Walk (RZ.ItzT K a b) n (fun H => SqT K H a xs ∧ SqT K H b ys) (YPair (fun i => xs[i]?) (fun i => ys[i]?)) := by
  subst hn
  refine ⟨fun i H hi g => ?_, fun H g => ⟨xs, ys, g.1, g.2, by omega⟩, fun i H v H' hi g y => ?_⟩
  · exact ⟨xs, ys, xs[i]'(by omega), ys[i]'(by omega), g.1, g.2, List.getElem?_eq_getElem _, List.getElem?_eq_getElem _⟩
  · obtain ⟨T, x, z, a1, a2, a3, a4, a5⟩ := y
    exact ⟨T, x, z, a1, a2, a3, a4 _ g.1, a5 _ g.2⟩
/-! from K06h -/
def okLo : Option Int → Int → Bool
  | none, _ => true
  | some l, x => decide (l < x)
def okHi : Option Int → Int → Bool
  | none, _ => true
  | some h, x => decide (x < h)
def T.lt : T → T
  | T.leaf => T.leaf
  | T.node l _ _ => l
def T.rtr : T → T
  | T.leaf => T.leaf
  | T.node _ _ r => r
def spRestrict (K : PySem.W.Frag) : Sp := fun vs H Q _ => ∃ (a : Addr) (ks : List Int) (lo hi : Option Int), vs = [.ref a, oV lo, oV hi] ∧ SqT K H a (ks.map V.int) ∧ ks.length ≤ 1000 ∧
  ∀ p H', Same H H' → H p = none → H' p = some (.tup ((ks.filter fun x => okLo lo x && okHi hi x).map V.int)) → Q (.ref p) H'
def spParts (K : PySem.W.Frag) : Sp := fun vs H Q _ => ∃ (a : Addr) (t : T), vs = [.ref a] ∧ SqT K H a (t.pre.map V.int) ∧ t.bst ∧ t.pre.length ≤ 1000 ∧
  ∀ p l r H', Same H H' → H p = none → H' p = some (.tup [.ref l, .ref r]) → H' l = some (.tup (t.lt.pre.map V.int)) → H' r = some (.tup (t.rtr.pre.map V.int)) → Q (.ref p) H'
def spSearch (K : PySem.W.Frag) : Sp := fun vs H Q _ => ∃ (a : Addr) (key : Int) (t : T), vs = [.ref a, .int key] ∧ SqT K H a (t.pre.map V.int) ∧ t.bst ∧ t.pre.length ≤ 1000 ∧
  ∀ p H', Same H H' → H p = none → H' p = some (.lst ((t.path key).map V.int)) → Q (.ref p) H'
def spSpL (K : PySem.W.Frag) : Sp := fun vs H Q _ => ∃ (a : Addr) (t : T), vs = [.ref a] ∧ SqT K H a (t.pre.map V.int) ∧ t.bst ∧ t.pre.length ≤ 1000 ∧
  ∀ p H', Same H H' → H p = none → H' p = some (.tup [.int (t.lsp : Int), .int (t.rsp : Int)]) → Q (.ref p) H'
def spMir (K : PySem.W.Frag) (n : Nat) : Sp := fun vs H Q _ => ∃ (a : Addr) (t : T), vs = [.ref a] ∧ SqT K H a (t.pre.map V.int) ∧ t.bst ∧ t.pre.length < n ∧ t.pre.length ≤ 1000 ∧
  ∀ p H', Same H H' → H' p = some (.tup (t.mir.pre.map V.int)) → Q (.ref p) H'
section
variable {K : PySem.W.Frag} {σ : L2.St} {H : Hp}
theorem rd_lo {i j : Nat} {lo : Option Int} {x : Int} {Q : Bool → Hp → Prop} (h1 : σ[i]? = some (some (oV lo))) (h3 : σ[j]? = some (some (.int x))) (q : Q (okLo lo x) H) : tOr (tB (tIsN (tVar i))) (tTest (tOp (rI0 fun i j => .bl (decide (i < j))) (tVar i) (tVar j))) σ H Q := by
  cases lo with
  | none => exact ⟨_, h1, _, rfl, iteTd rfl q⟩
  | some l => exact ⟨_, h1, _, rfl, iteFd rfl ⟨_, h1, _, h3, l, x, rfl, rfl, _, rfl, q⟩⟩
theorem rd_hi {i j : Nat} {hi : Option Int} {x : Int} {Q : Bool → Hp → Prop} (h1 : σ[i]? = some (some (oV hi))) (h3 : σ[j]? = some (some (.int x))) (q : Q (okHi hi x) H) : tOr (tB (tIsN (tVar i))) (tTest (tOp (rI0 fun i j => .bl (decide (i < j))) (tVar j) (tVar i))) σ H Q := by
  cases hi with
  | none => exact ⟨_, h1, _, rfl, iteTd rfl q⟩
  | some l => exact ⟨_, h1, _, rfl, iteFd rfl ⟨_, h3, _, h1, x, l, rfl, rfl, _, rfl, q⟩⟩
theorem rd_catT {a b : Addr} {xs ys : List V} {Q : VK} (ha : H a = some (.tup xs)) (hb : SqT K H b ys) (h0 : xs ≠ []) (hl : xs.length + ys.length ≤ 100000) (q : ∀ p H', Same H H' → H' p = some (.tup (xs ++ ys)) → Q (.ref p) H') : rCatT K (.ref a) (.ref b) H Q := by
  refine ⟨a, b, xs, ys, rfl, rfl, SqT.of ha, hb, h0, sz hl, fun e => ?_, fun _ p np => q p _ (same_new np) upd_same⟩
  subst e
  exact q a H (.refl H) (by rw [List.append_nil]; exact ha)
end
/-! from K06k -/
def sideS (b : Bool) : Str := if b then "left" else "right"
def T.sp (b : Bool) (t : T) : Nat := if b then t.lsp else t.rsp
def spSpine : Sp := fun vs H Q _ => ∃ (m L R U : Addr) (t : T) (uf : Int → Option Int) (n : Nat) (b : Bool), vs = [.ref m, .str (sideS b)] ∧ Nod H m L R U t.rt t.lc t.rc uf n ∧ t.bst ∧ t.pre.length ≤ 41 ∧ Q (.int (t.sp b : Int)) H
theorem sp_node {b : Bool} {l r : T} {x : Int} : (T.node l x r).sp b = (if b then l.sp b else r.sp b) + 1 := by cases b <;> rfl
theorem sp_le {b : Bool} {t : T} : t.sp b ≤ t.pre.length := by cases b; exact rsp_le; exact lsp_le
/-! from K06l -/
/-! ### the mirror's dicts -/
def keysI (kvs : List (Key × V)) : List Int := kvs.filterMap fun p => match p.1 with | Sum.inl a => some a | Sum.inr _ => none
theorem valV_out {y : Int} : ∀ {kvs : List (Key × V)}, y ∉ keysI kvs → valV kvs (Sum.inl y) = none
  | [], _ => rfl
  | (Sum.inl a, v) :: kvs, h => by
    have h' : y ∉ a :: keysI kvs := h
    rw [List.mem_cons, not_or] at h'
    rw [valV_neg (fun e => h'.1 (Sum.inl.inj e).symm)]
    exact valV_out h'.2
  | (Sum.inr a, v) :: kvs, h => by
    rw [valV_neg (fun e => by cases e)]
    exact valV_out h
/-- what the loop over a dict has put so far -/
def mirF (lf : Int → Option Int) (done : List Int) (x : Int) : Option Int := if -x ∈ done then (lf (-x)).map (fun y => -y) else none
theorem mirF_all {kvs : List (Key × V)} {lf : Int → Option Int} {n : Nat} (h : Mp kvs lf n) (x : Int) : mirF lf (keysI kvs) x = (lf (-x)).map (fun y => -y) := by
  unfold mirF
  by_cases e : -x ∈ keysI kvs
  · rw [if_pos e]
  · rw [if_neg e]
    have := h.val (-x)
    rw [valV_out e] at this
    cases hz : lf (-x) with
    | none => rfl
    | some y => rw [hz] at this; cases this
theorem mp_turn {kvs : List (Key × V)} {lf : Int → Option Int} {n i : Nat} {a b : Int} {v : V} {rk : List (Key × V)} (h : Mp kvs lf n) (hi : kvs[i]? = some (Sum.inl a, v)) (hv : lf a = some b) (hr : Mp rk (mirF lf (keysI (kvs.take i))) i) :
    Mp (putK rk (Sum.inl (0 - a)) (.int (0 - b))) (mirF lf (keysI (kvs.take (i + 1)))) (i + 1) := by
  refine (hr.put (0 - a) (0 - b)).eq (fun z => ?_) (Nat.le_refl _)
  have hk : keysI (kvs.take (i + 1)) = keysI (kvs.take i) ++ [a] := by
    rw [List.take_add_one, hi]
    unfold keysI
    rw [List.filterMap_append]; rfl
  unfold mirF
  rw [hk]
  by_cases e : z = 0 - a
  · have ea : -z = a := by omega
    rw [if_pos e, ea, if_pos (by simp), hv]
    show some (0 - b) = some (-b)
    rw [Int.zero_sub]
  · rw [if_neg e]
    have ne : -z ≠ a := by omega
    by_cases m : -z ∈ keysI (kvs.take i)
    · rw [if_pos m, if_pos (by simp [m])]
    · rw [if_neg m, if_neg (by simp [m, ne])]
theorem mp_none {lf : Int → Option Int} : Mp [] (mirF lf []) 0 := by
  refine ⟨fun _ h => (by cases h), fun x => ?_, Nat.le_refl _, List.nodup_nil⟩
  show none = _
  unfold mirF
  rw [if_neg (by simp)]
  rfl
theorem mp_has {kvs : List (Key × V)} {lf : Int → Option Int} {n i : Nat} {a : Int} {v : V} (h : Mp kvs lf n) (hi : kvs[i]? = some (Sum.inl a, v)) : ∃ b, lf a = some b := by
  have h1 : (kvs.any fun kv => decide (kv.1 = Sum.inl a)) = true := List.any_eq_true.mpr ⟨_, List.mem_of_getElem? hi, decide_eq_true rfl⟩
  rw [valV_any, h.val a] at h1
  cases hz : lf a with
  | none => rw [hz] at h1; cases h1
  | some b => exact ⟨b, rfl⟩
/-- for key in m[sd]: turned[td][0 - key] = 0 - m[sd][key] -/
theorem rd_mloop {H : Hp} {D : Ends} {v0 v1 v2 v3 v6 : Option V} {m m2 S Z : Addr} {mk mk2 sk : List (Key × V)} {sf : Int → Option Int} {n : Nat} (sd td : Str)
    (hm : H m = some (.dK mk)) (hsd : valV mk (Sum.inr sd) = some (.ref S)) (hS : H S = some (.dK sk)) (hf : Mp sk sf n) (hn : n ≤ 1000) (hm2 : H m2 = some (.dK mk2)) (htd : valV mk2 (Sum.inr td) = some (.ref Z)) (hZ : H Z = some (.dK []))
    (mS : m ≠ S) (m2S : m2 ≠ S) (ZS : Z ≠ S) (Zm : Z ≠ m) (Zm2 : Z ≠ m2)
    (q : ∀ y H' zk, (∀ b, b ≠ Z → H' b = H b) → H' Z = some (.dK zk) → Mp zk (fun x => (sf (-x)).map fun y => -y) n → D.nx [v0, v1, v2, v3, some (.ref m), some (.ref m2), y] H') :
    tLock (tFor (iKeys (tDGet (tVar 4) (tC (.str sd)))) (gName 6) (sDPut (tDGet (tVar 5) (tC (.str td))) (tOp (rI0 fun i j => .int (i - j)) (tC (.int 0)) (tVar 6)) (tOp (rI0 fun i j => .int (i - j)) (tC (.int 0)) (tDGet (tDGet (tVar 4) (tC (.str sd))) (tVar 6))))) D [v0, v1, v2, v3, some (.ref m), some (.ref m2), v6] H := by
  refine ⟨S, .dK sk, hS, trivial, fun od => ?_⟩
  refine rd_dS sd rfl (by rw [upd_ne mS]; exact hm) hsd ⟨S, od, rfl, .inl ⟨sk, upd_same, ?_⟩⟩
  refine for_it walk_keys (fun i σ' H3 => ∃ y zk, σ' = [v0, v1, v2, v3, some (.ref m), some (.ref m2), y] ∧ (∀ b, b ≠ Z → H3 b = upd H S (.frz od (.dK sk)) b) ∧ H3 Z = some (.dK zk) ∧ Mp zk (mirF sf (keysI (sk.take i))) i)
    ⟨v6, [], rfl, fun _ _ => rfl, by rw [upd_ne ZS]; exact hZ, mp_none⟩ ?_ ?_ ?_
  · rintro i σ' H3 _ ⟨y, zk, rfl, hb, _, _⟩
    rw [hb S ZS.symm, upd_same]
  · rintro i x σ' H3 H4 hi ⟨y, zk, rfl, hb, hz, hM⟩ ⟨rfl, ke, v, hk, rfl⟩
    obtain ⟨a, b0, hab⟩ := hf.all _ (List.mem_of_getElem? hk)
    cases hab
    obtain ⟨b, hv⟩ := mp_has hf hk
    have hm3 : H4 m = some (.dK mk) := by rw [hb m Zm.symm, upd_ne mS]; exact hm
    have hS3 : H4 S = some (.frz od (.dK sk)) := by rw [hb S ZS.symm, upd_same]
    have hm23 : H4 m2 = some (.dK mk2) := by rw [hb m2 Zm2.symm, upd_ne m2S]; exact hm2
    refine rd_dS sd rfl hm3 hsd ⟨.int a, rfl, S, .int b, rfl, .inl ⟨sk, Sum.inl a, .inr ⟨od, hS3⟩, rfl, by rw [hf.val a, hv]; rfl⟩, 0, b, rfl, rfl, ?_⟩
    refine rd_dS td rfl hm23 htd ⟨.int a, rfl, 0, a, rfl, rfl, Z, _, rfl, dp_in hz hM (by have := hf.len; omega), ?_⟩
    refine ⟨_, _, rfl, fun c hc => by rw [upd_ne hc]; exact hb c hc, upd_same, mp_turn hf hk hv hM⟩
  · rintro σ' H3 ⟨y, zk, rfl, hb, hz, hM⟩
    rw [List.take_length] at hM
    refine ⟨by rw [hb S ZS.symm, upd_same], q y _ zk (fun c hc => ?_) (by rw [upd_ne ZS]; exact hz) (hM.eq (mirF_all hf) hf.len)⟩
    by_cases e : c = S
    · rw [e, upd_same]; exact hS.symm
    · rw [upd_ne e, hb c hc, upd_ne e]
def spLaw (K : PySem.W.Frag) : Sp := fun vs H Q _ => ∃ (a : Addr) (ns : List Int), vs = [.ref a] ∧ SqL K H a (ns.map V.int) ∧ ns.length ≤ 63 ∧ ∀ H', Q (.bl true) H'
theorem eqv_ints1 {H : Hp} {a b : Addr} {ns : List Int} (ha : H a = some (.tup (ns.map V.int))) (hb : H b = some (.tup (ns.map V.int))) (hl : ns.length ≤ 1000) : Eqv H 1 (.ref a) (.ref b) := by
  refine .inr ⟨a, b, _, _, rfl, rfl, .inr ⟨ha, hb⟩, rfl, by rw [List.length_map]; exact hl, fun i u v h1 h2 => ?_⟩
  rw [h1] at h2
  cases h2
  rw [List.getElem?_map] at h1
  obtain ⟨n, _, rfl⟩ := Option.map_eq_some_iff.mp h1
  exact ⟨rfl, rfl⟩
theorem eqv_pair {H : Hp} {a b : Addr} {n : Nat} {x y u v : V} (ha : H a = some (.lst [x, y])) (hb : H b = some (.lst [u, v])) (h1 : Eqv H n x u) (h2 : Eqv H n y v) : Eqv H (n + 1) (.ref a) (.ref b) := by
  refine .inr ⟨a, b, _, _, rfl, rfl, .inl ⟨ha, hb⟩, rfl, by show 2 ≤ 1000; decide, fun i p q g1 g2 => ?_⟩
  match i, g1, g2 with
  | 0, g1, g2 => cases g1; cases g2; exact h1
  | 1, g1, g2 => cases g1; cases g2; exact h2
  | i + 2, g1, _ => simp at g1
theorem cpow {i j : Int} (h1 : 0 ≤ j) (h2 : j ≤ 1000) (h3 : i.natAbs < 2 ^ 64) : CPow i j := ⟨h1, by omega, h3⟩
end TT
namespace TT
open PySem PySem.Spec PyProof.Rows L2
open T
/-! ### chains of parents -/
theorem up_out : ∀ {t : T} {x : Int}, x ∉ t.pre → t.up x = none
  | leaf, _, _ => rfl
  | node l k r, x, h => by
    rw [mem_node] at h
    have h1 : x ∉ l.pre := fun e => h (.inr (.inl e))
    have h2 : x ∉ r.pre := fun e => h (.inr (.inr e))
    unfold up
    rw [if_neg (fun e => h1 (rt_mem e)), if_neg (fun e => h2 (rt_mem e)), up_out h1, up_out h2]
    split
    · rfl
    · split <;> rfl
theorem path_mem {x : Int} : ∀ {t : T}, t.bst → x ∈ t.pre → t.path x ≠ [] ∧ ∀ y ∈ t.path x, y ∈ t.pre
  | leaf, _, h => by cases h
  | node l k r, b, h => by
    unfold path
    by_cases e : x = k
    · rw [if_pos e]
      exact ⟨by simp, fun y hy => by rw [List.mem_singleton.mp hy]; exact mem_node.mpr (.inl rfl)⟩
    · rw [if_neg e]
      by_cases g : x < k
      · rw [if_pos g]
        have hx : x ∈ l.pre := by
          rcases mem_node.mp h with h | h | h
          · exact absurd h e
          · exact h
          · have := b.2.1 _ h; omega
        refine ⟨by simp, fun y hy => ?_⟩
        rcases List.mem_cons.mp hy with rfl | hy
        · exact mem_node.mpr (.inl rfl)
        · exact mem_node.mpr (.inr (.inl ((path_mem b.2.2.1 hx).2 y hy)))
      · rw [if_neg g]
        have hx : x ∈ r.pre := by
          rcases mem_node.mp h with h | h | h
          · exact absurd h e
          · have := b.1 _ h; omega
          · exact h
        refine ⟨by simp, fun y hy => ?_⟩
        rcases List.mem_cons.mp hy with rfl | hy
        · exact mem_node.mpr (.inl rfl)
        · exact mem_node.mpr (.inr (.inr ((path_mem b.2.2.2 hx).2 y hy)))
theorem path_l {l r : T} {k x : Int} (b : (node l k r).bst) (h : x ∈ l.pre) : (node l k r).path x = k :: l.path x := by
  have := b.1 x h
  show (if x = k then [k] else if x < k then k :: l.path x else k :: r.path x) = _
  rw [if_neg (by omega), if_pos this]
theorem path_r {l r : T} {k x : Int} (b : (node l k r).bst) (h : x ∈ r.pre) : (node l k r).path x = k :: r.path x := by
  have := b.2.1 x h
  show (if x = k then [k] else if x < k then k :: l.path x else k :: r.path x) = _
  rw [if_neg (by omega), if_neg (by omega)]
theorem path_k {l r : T} {k : Int} : (node l k r).path k = [k] := by
  show (if k = k then [k] else _) = _
  rw [if_pos rfl]
theorem path_rt {t : T} {x : Int} (h : t.rt = some x) : t.path x = [x] := by
  cases t with
  | leaf => cases h
  | node l k r => cases h; exact path_k
/-- the parent, and the path to it -/
theorem up_path {x : Int} : ∀ {t : T}, t.bst → x ∈ t.pre → (t.up x = none ∧ t.path x = [x]) ∨ ∃ p, t.up x = some p ∧ p ∈ t.pre ∧ t.path x = t.path p ++ [x]
  | leaf, _, h => by cases h
  | node l k r, b, h => by
    rcases mem_node.mp h with e | hx | hx
    · subst e
      left
      refine ⟨?_, path_k⟩
      unfold up
      rw [if_neg (by omega), if_neg (by omega)]
    · have lt := b.1 x hx
      right
      rw [path_l b hx]
      show ∃ p, (if x < k then (if l.rt = some x then some k else l.up x) else _) = some p ∧ _
      rw [if_pos lt]
      by_cases er : l.rt = some x
      · rw [if_pos er]
        exact ⟨k, rfl, mem_node.mpr (.inl rfl), by rw [path_k, path_rt er]; rfl⟩
      · rw [if_neg er]
        rcases up_path b.2.2.1 hx with ⟨h1, h2⟩ | ⟨p, h1, h2, h3⟩
        · exfalso
          cases l with
          | leaf => cases hx
          | node l1 k1 r1 =>
            apply er
            have : (node l1 k1 r1).path x = if x = k1 then [k1] else if x < k1 then k1 :: l1.path x else k1 :: r1.path x := rfl
            rw [h2] at this
            split at this
            · next e => rw [e]; rfl
            · split at this
              · have := (List.cons.inj this).1; rw [this]; rfl
              · have := (List.cons.inj this).1; rw [this]; rfl
        · exact ⟨p, h1, mem_node.mpr (.inr (.inl h2)), by rw [path_l b h2, h3]; rfl⟩
    · have lt := b.2.1 x hx
      right
      rw [path_r b hx]
      show ∃ p, (if x < k then _ else if k < x then (if r.rt = some x then some k else r.up x) else none) = some p ∧ _
      rw [if_neg (by omega), if_pos lt]
      by_cases er : r.rt = some x
      · rw [if_pos er]
        exact ⟨k, rfl, mem_node.mpr (.inl rfl), by rw [path_k, path_rt er]; rfl⟩
      · rw [if_neg er]
        rcases up_path b.2.2.2 hx with ⟨h1, h2⟩ | ⟨p, h1, h2, h3⟩
        · exfalso
          cases r with
          | leaf => cases hx
          | node l1 k1 r1 =>
            apply er
            have : (node l1 k1 r1).path x = if x = k1 then [k1] else if x < k1 then k1 :: l1.path x else k1 :: r1.path x := rfl
            rw [h2] at this
            split at this
            · next e => rw [e]; rfl
            · split at this
              · have := (List.cons.inj this).1; rw [this]; rfl
              · have := (List.cons.inj this).1; rw [this]; rfl
        · exact ⟨p, h1, mem_node.mpr (.inr (.inr h2)), by rw [path_r b h2, h3]; rfl⟩
/-- the keys above, the parent first -/
def T.anc (t : T) (x : Int) : List Int := (t.path x).dropLast.reverse
theorem path_len {x : Int} : ∀ {t : T}, (t.path x).length ≤ t.pre.length
  | leaf => Nat.le_refl _
  | node l k r => by
    have i1 := path_len (x := x) (t := l)
    have i2 := path_len (x := x) (t := r)
    unfold path
    show _ ≤ (k :: (l.pre ++ r.pre)).length
    rw [List.length_cons, List.length_append]
    split
    · simp
    · split <;> (rw [List.length_cons]; omega)
/-! ### orders in which a tree grows -/
def T.Rank (ρ : Int → Nat) : T → Prop
  | leaf => True
  | node l k r => (∀ y ∈ l.pre, ρ k < ρ y) ∧ (∀ y ∈ r.pre, ρ k < ρ y) ∧ l.Rank ρ ∧ r.Rank ρ
theorem Rank.up {ρ ρ' : Int → Nat} : ∀ {t : T}, t.Rank ρ → (∀ x ∈ t.pre, ρ' x = ρ x + 1) → t.Rank ρ'
  | leaf, _, _ => trivial
  | node l k r, h, e => by
    have ek := e k (mem_node.mpr (.inl rfl))
    have el : ∀ x ∈ l.pre, ρ' x = ρ x + 1 := fun x hx => e x (mem_node.mpr (.inr (.inl hx)))
    have er : ∀ x ∈ r.pre, ρ' x = ρ x + 1 := fun x hx => e x (mem_node.mpr (.inr (.inr hx)))
    exact ⟨fun y hy => by have := h.1 y hy; rw [ek, el y hy]; omega, fun y hy => by have := h.2.1 y hy; rw [ek, er y hy]; omega, Rank.up h.2.2.1 el, Rank.up h.2.2.2 er⟩
theorem grown {ρ : Int → Nat} : ∀ {t : T} {os : List Int}, t.bst → t.Rank ρ → os.Perm t.pre → os.Pairwise (fun a b => ρ a ≤ ρ b) → insAll os leaf = t
  | leaf, os, _, _, pm, _ => by
    have : os = [] := pm.eq_nil
    subst this; rfl
  | node l k r, os, b, hr, pm, pw => by
    cases os with
    | nil => exact absurd pm.length_eq (by simp [pre])
    | cons o os =>
      have hk : k ∈ o :: os := pm.mem_iff.mpr (mem_node.mpr (.inl rfl))
      have ho : o ∈ (node l k r).pre := pm.mem_iff.mp List.mem_cons_self
      have eo : o = k := by
        rcases List.mem_cons.mp hk with e | hk
        · exact e.symm
        · have le := List.rel_of_pairwise_cons pw hk
          rcases mem_node.mp ho with e | h | h
          · exact e
          · have := hr.1 o h; omega
          · have := hr.2.1 o h; omega
      subst eo
      have pm2 : os.Perm (l.pre ++ r.pre) := (List.perm_cons _).mp pm
      have pw2 := (List.pairwise_cons.mp pw).2
      show insAll os (node leaf o leaf) = _
      rw [insAll_split]
      have f1 : (l.pre ++ r.pre).filter (fun x => decide (x < o)) = l.pre := by
        rw [List.filter_append, filter_all fun x hx => decide_eq_true (b.1 x hx), filter_none fun x hx => decide_eq_false (by have := b.2.1 x hx; omega), List.append_nil]
      have f2 : (l.pre ++ r.pre).filter (fun x => !decide (x < o)) = r.pre := by
        rw [List.filter_append, filter_none (l := l.pre) fun x hx => by simp [b.1 x hx], filter_all (l := r.pre) fun x hx => by have := b.2.1 x hx; simp; omega, List.nil_append]
      rw [grown b.2.2.1 hr.2.2.1 (by have := pm2.filter (fun x => decide (x < o)); rwa [f1] at this) (pw2.filter _),
        grown b.2.2.2 hr.2.2.2 (by have := pm2.filter (fun x => !decide (x < o)); rwa [f2] at this) (pw2.filter _)]
/-! ### the restriction as a tree -/
def T.restr (lo hi : Option Int) : T → T
  | leaf => leaf
  | node l k r => if okLo lo k = false then r.restr lo hi else if okHi hi k = false then l.restr lo hi else node (l.restr lo hi) k (r.restr lo hi)
theorem okLo_mono {lo : Option Int} {x y : Int} (h : okLo lo x = false) (le : y ≤ x) : okLo lo y = false := by
  cases lo with
  | none => cases h
  | some l => exact decide_eq_false (by have := of_decide_eq_false h; omega)
theorem okHi_mono {hi : Option Int} {x y : Int} (h : okHi hi x = false) (le : x ≤ y) : okHi hi y = false := by
  cases hi with
  | none => cases h
  | some l => exact decide_eq_false (by have := of_decide_eq_false h; omega)
theorem restr_pre {lo hi : Option Int} : ∀ {t : T}, t.bst → (t.restr lo hi).pre = t.pre.filter fun x => okLo lo x && okHi hi x
  | leaf, _ => rfl
  | node l k r, b => by
    show (if okLo lo k = false then r.restr lo hi else if okHi hi k = false then l.restr lo hi else node (l.restr lo hi) k (r.restr lo hi)).pre = (k :: (l.pre ++ r.pre)).filter _
    by_cases h1 : okLo lo k = false
    · rw [if_pos h1, List.filter_cons_of_neg (by simp [h1]), List.filter_append, filter_none (l := l.pre) fun x hx => by rw [okLo_mono h1 (Int.le_of_lt (b.1 x hx))]; rfl, List.nil_append]
      exact restr_pre b.2.2.2
    · rw [if_neg h1]
      by_cases h2 : okHi hi k = false
      · rw [if_pos h2, List.filter_cons_of_neg (by simp [h2]), List.filter_append, filter_none (l := r.pre) fun x hx => by rw [okHi_mono h2 (Int.le_of_lt (b.2.1 x hx)), Bool.and_false], List.append_nil]
        exact restr_pre b.2.2.1
      · rw [if_neg h2, List.filter_cons_of_pos (by simp [h1, h2]), List.filter_append]
        show k :: ((l.restr lo hi).pre ++ (r.restr lo hi).pre) = _
        rw [restr_pre b.2.2.1, restr_pre b.2.2.2]
theorem restr_sub {lo hi : Option Int} {t : T} (b : t.bst) {x : Int} (h : x ∈ (t.restr lo hi).pre) : x ∈ t.pre := by
  rw [restr_pre b] at h
  exact (List.mem_filter.mp h).1
theorem restr_bst {lo hi : Option Int} : ∀ {t : T}, t.bst → (t.restr lo hi).bst
  | leaf, _ => trivial
  | node l k r, b => by
    show (if okLo lo k = false then r.restr lo hi else if okHi hi k = false then l.restr lo hi else node (l.restr lo hi) k (r.restr lo hi)).bst
    split
    · exact restr_bst b.2.2.2
    · split
      · exact restr_bst b.2.2.1
      · exact ⟨fun x hx => b.1 x (restr_sub b.2.2.1 hx), fun x hx => b.2.1 x (restr_sub b.2.2.2 hx), restr_bst b.2.2.1, restr_bst b.2.2.2⟩
theorem restr_rank {lo hi : Option Int} : ∀ {t : T}, t.bst → (t.restr lo hi).Rank fun x => (t.path x).length
  | leaf, _ => trivial
  | node l k r, b => by
    have hl : (l.restr lo hi).Rank fun x => ((node l k r).path x).length := Rank.up (restr_rank b.2.2.1) fun x hx => by
      rw [path_l b (restr_sub b.2.2.1 hx), List.length_cons]
    have hr : (r.restr lo hi).Rank fun x => ((node l k r).path x).length := Rank.up (restr_rank b.2.2.2) fun x hx => by
      rw [path_r b (restr_sub b.2.2.2 hx), List.length_cons]
    show (if okLo lo k = false then r.restr lo hi else if okHi hi k = false then l.restr lo hi else node (l.restr lo hi) k (r.restr lo hi)).Rank _
    split
    · exact hr
    · split
      · exact hl
      · refine ⟨fun y hy => ?_, fun y hy => ?_, hl, hr⟩
        · have h := restr_sub b.2.2.1 hy
          have := List.length_pos_iff.mpr (path_mem b.2.2.1 h).1
          show ((node l k r).path k).length < ((node l k r).path y).length
          rw [path_k, path_l b h]
          simp only [List.length_cons, List.length_nil]
          omega
        · have h := restr_sub b.2.2.2 hy
          have := List.length_pos_iff.mpr (path_mem b.2.2.2 h).1
          show ((node l k r).path k).length < ((node l k r).path y).length
          rw [path_k, path_r b h]
          simp only [List.length_cons, List.length_nil]
          omega
/-! ### promises -/
theorem path_last {t : T} {x : Int} (b : t.bst) (h : x ∈ t.pre) : t.path x = (t.path x).dropLast ++ [x] := by
  rcases up_path b h with ⟨_, e⟩ | ⟨p, _, _, e⟩ <;> rw [e]
  · rfl
  · rw [List.dropLast_concat]
theorem anc_top {t : T} {x : Int} (e : t.path x = [x]) : t.anc x = [] := by unfold T.anc; rw [e]; rfl
theorem anc_up {t : T} {x p : Int} (b : t.bst) (hp : p ∈ t.pre) (e : t.path x = t.path p ++ [x]) : t.anc x = p :: t.anc p := by
  unfold T.anc
  rw [e, List.dropLast_concat]
  conv => lhs; rw [path_last b hp]
  rw [List.reverse_append]; rfl
theorem anc_len {t : T} {x : Int} (b : t.bst) (h : x ∈ t.pre) : (t.anc x).length + 1 = (t.path x).length := by
  have := List.length_pos_iff.mpr (path_mem b h).1
  unfold T.anc
  rw [List.length_reverse, List.length_dropLast]; omega
def spRoot (K : PySem.W.Frag) : Sp := fun vs H Q _ => ∃ (a : Addr) (ks : List Int), vs = [.ref a] ∧ SqT K H a (ks.map V.int) ∧ Q (oV ks.head?) H
def spAbove : Sp := fun vs H Q _ => ∃ (m : Addr) (key : Int) (L R U : Addr) (t : T) (n : Nat), vs = [.ref m, .int key] ∧ TrAt H m L R U t n ∧ t.bst ∧ key ∈ t.pre ∧ t.pre.length ≤ 1000 ∧
  ∀ p H', Same H H' → H p = none → H' p = some (.lst ((t.anc key).map V.int)) → Q (.ref p) H'
def spBound (K : PySem.W.Frag) : Sp := fun vs H Q _ => ∃ (d a : Addr) (ks : List Int) (c : Addr) (ns : List Int), vs = [.ref d, .ref a] ∧ SqL K H a (ks.map V.int) ∧ ks.length ≤ 1000 ∧ a ≠ d ∧ Drw c ns H d ∧
  ∀ b H', Ext d H H' → Drw c ns H' d → Q (oV b) H'
def spRestd (K : PySem.W.Frag) : Sp := fun vs H Q _ => ∃ (a : Addr) (t : T) (lo hi : Option Int), vs = [.ref a, oV lo, oV hi] ∧ SqT K H a (t.pre.map V.int) ∧ t.bst ∧ t.pre.length ≤ 58 ∧
  ∀ p H', Same H H' → H' p = some (.tup ((t.pre.filter fun x => okLo lo x && okHi hi x).map V.int)) → Q (.ref p) H'
theorem rd_gt {σ : L2.St} {H : Hp} {i j : Nat} {lo : Option Int} {x : Int} {Q : Bool → Hp → Prop} (h1 : σ[i]? = some (some (oV lo))) (h3 : σ[j]? = some (some (.int x))) (q : Q (okLo lo x) H) : tOr (tB (tIsN (tVar i))) (tTest (tOp (rI0 fun i j => .bl (decide (j < i))) (tVar j) (tVar i))) σ H Q := by
  cases lo with
  | none => exact ⟨_, h1, _, rfl, iteTd rfl q⟩
  | some l => exact ⟨_, h1, _, rfl, iteFd rfl ⟨_, h3, _, h1, x, l, rfl, rfl, _, rfl, q⟩⟩
theorem Eqv.up {H : Hp} : ∀ {n : Nat} {x y : V}, Eqv H n x y → Eqv H (n + 1) x y
  | 0, _, _, h => .inl h
  | n + 1, _, _, h => by
    rcases h with h | ⟨a, b, xs, ys, e1, e2, h1, h2, h3, h4⟩
    · exact .inl h
    · exact .inr ⟨a, b, xs, ys, e1, e2, h1, h2, h3, fun i u v g1 g2 => (h4 i u v g1 g2).up⟩
end TT
namespace TT
open PySem PySem.Spec PyProof.Rows L2
open T
/-! ### sorted of a tuple of ints -/
section
variable {prog : Program} {w : World} {A : Around} {E : Value → Shared → Prop} {s : Shared}
theorem gather_tup {t : Addr} {us : List Value} {R : List Value → Shared → Prop} (ht : s.heap.IsTuple t us.toArray) (fit : us.length ≤ sizeLine)
    (q : R us { s with heap := (s.heap.push (seqObj "list" #[] 0)).update s.heap.objs.size (Obj.mapSeq (· ++ us.toArray)) }) : wpAny (model prog w) A (collect (.ref t)) R E s := by
  obtain ⟨ob, g0, c0, m0, d0⟩ := ht
  have g1 : (s.heap.push (seqObj "list" #[] 0)).get? t = some ob := Heap.get?_push_of_some _ g0
  unfold collect
  refine wpAny_bind (wpAny_runValue (codeAny_builtin entry_proto_collect' ?_)); show wpAny _ _ (do again (.builtin "list.__iadd__" ⟨[← newList [], .ref t], []⟩)) _ _ s
  refine wpAny_bind (wpAny_newList (wpAny_pure ⟨Code.quiet_builtin _ (by decide +kernel), codeAny_builtin entry_list_iadd' ?_⟩)); show wpAny _ _ (Builtin.List.listExtendWith (.ref s.heap.objs.size) (.ref t) (.ref s.heap.objs.size)) _ _ { s with heap := s.heap.push (seqObj "list" #[] 0) }
  unfold Builtin.List.listExtendWith
  refine wpAny_bind (wpAny_typeOf (T := "tuple") ⟨ob, g1, c0⟩ ?_)
  rw [if_pos (by rw [show (Value.type "tuple" == Value.type "tuple") = true by rfl]; simp)]
  refine wpAny_bind (listItems_at g1 d0 (wpAny_bind (listItems_at (xs := #[]) (n := 0) (Heap.get?_push_size _ rfl) rfl ?_)))
  rw [if_neg (by simp)]
  refine wpAny_bind (listUpdate_at (xs := #[]) (n := 0) (Heap.get?_push_size _ rfl) rfl (wpAny_pure ?_) (Nat.zero_le _) (by show (#[] ++ us.toArray).size ≤ sizeLine + 1; simp only [Array.size_append, List.size_toArray, List.length_nil]; omega))
  show wpAny (model prog w) A (load s.heap.objs.size >>= fun o => match o.data with
      | .seq xs _ => pure xs.toList
      | _ => unsupported "internal:collect") R E { s with heap := (s.heap.push (seqObj "list" #[] 0)).update s.heap.objs.size (Obj.mapSeq (· ++ us.toArray)) }
  refine wpAny_bind (wpAny_load (get?_update_seq (Heap.get?_push_size _ rfl) _) ?_); show wpAny _ _ (pure ((#[] : Array Value) ++ us.toArray).toList) R E _
  rw [show ((#[] : Array Value) ++ us.toArray).toList = us by simp]; exact wpAny_pure q
theorem sorted_tupI {t : Addr} {us : List Value} {ns : List Int} {R : Value → Shared → Prop} (ht : s.heap.IsTuple t us.toArray) (hI : IntsAre us ns) (h64 : us.length < 64)
    (q : ∀ (out : Array Value) (ms : List Int), IntsAre out.toList ms → ms.Perm ns → ms.Pairwise (· ≤ ·) → R (.ref (s.heap.objs.size + 1)) { s with heap := sortedAll s.heap us out }) :
    wpAny (model prog w) A (call (.builtin "sorted") [.ref t]) R E s := by
  refine Calls.call_function_entry kind_sorted plain_sorted entry_sorted (args_sorted1 _) ?_; unfold Builtin.«sorted»
  refine wpAny_bind (m := checkCount "sorted" 1 1 _) (wpAny_pure (wpAny_bind (gather_tup ht (small64 h64) (wpAny_bind (wpAny_newList ?_ (small64 h64))))))
  have z : ((s.heap.push (seqObj "list" #[] 0)).update s.heap.objs.size (Obj.mapSeq (· ++ us.toArray))).objs.size = s.heap.objs.size + 1 := (Heap.size_update ..).trans (size_push' ..)
  have at1 : (((s.heap.push (seqObj "list" #[] 0)).update s.heap.objs.size (Obj.mapSeq (· ++ us.toArray))).push (seqObj "list" us.toArray 0)).get? (s.heap.objs.size + 1) = some (seqObj "list" us.toArray 0) := z ▸ Heap.get?_push_size _ rfl
  show wpAny _ _ _ _ _ { s with heap := ((s.heap.push (seqObj "list" #[] 0)).update s.heap.objs.size (Obj.mapSeq (· ++ us.toArray))).push (seqObj "list" us.toArray 0) }; rw [z]
  exact wpAny_bind (wpAny_holding (wpAny_call_entry slot_list_sort ⟨_, at1, rfl⟩ entry_list_sort (list_sort_tree at1 hI h64 fun out ms a1 a2 a3 => ⟨_, rfl, wpAny_pure ⟨_, rfl, q out ms a1 a2 a3⟩⟩) (args_list_sort _)))
end
section
variable {X : Cx}
def rSortedTI (K : PySem.W.Frag) : List V → Hp → VK → Prop := fun vs H Q => ∃ (a : Addr) (ns : List Int), vs = [V.ref a] ∧ SqT K H a (ns.map V.int) ∧ ns.length < 64 ∧
  ∀ (ms : List Int) (p : Addr), ms.Perm ns → ms.Pairwise (· ≤ ·) → H p = none → Q (.ref p) (upd H p (.lst (ms.map V.int)))
theorem cr_sortedTI : CallR X (.builtin "sorted") (rSortedTI X.K) := by
  intro pins s σ H vs us Q I r h
  obtain ⟨a, ns, rfl, hs, hl, q⟩ := h
  obtain ⟨its, rv, ht, _⟩ := I.tuple hs
  have hi := rv.ints
  rw [Vals.ref1 r]
  refine sorted_tupI ht hi (by rw [hi.length]; exact hl) fun out ms h1 h2 h3 => ?_
  obtain ⟨ep, he⟩ := PyProof.Rows.sortedAll_at s.heap its out
  have fits : (ms.map V.int).length ≤ sizeLine := by rw [List.length_map, h2.length_eq]; exact small64 hl
  exact ⟨.ref _, upd H (s.heap.objs.size + 1) (.lst (ms.map V.int)), I.laid (t' := s.toks) (fun _ _ => PyProof.Rows.sortedAll_old) (Nat.le_succ _) ⟨fits, out.toList, ep, vals_of_ints h1, he⟩, rfl, q ms _ h2 h3 (I.hok.fresh (Nat.le_succ _))⟩
end
end TT
namespace TT
open PySem PySem.Spec PyProof.Rows L2
open T
/-! ### touches, as lists and as trees -/
def topL (x : Int) (ks : List Int) : List Int := x :: (ks.filter (fun y => okLo none y && okHi (some x) y) ++ ks.filter (fun y => okLo (some x) y && okHi none y))
def T.tch (t : T) (x : Int) : T := node (t.restr none (some x)) x (t.restr (some x) none)
def T.dep (t : T) (x : Int) : Nat := (t.path x).length - 1
theorem tch_pre {t : T} {x : Int} (b : t.bst) : (t.tch x).pre = topL x t.pre := by
  show x :: ((t.restr none (some x)).pre ++ (t.restr (some x) none).pre) = _
  rw [restr_pre b, restr_pre b]; rfl
theorem mem_topL {x y : Int} {ks : List Int} : y ∈ topL x ks ↔ y = x ∨ y ∈ ks := by
  unfold topL
  rw [List.mem_cons, List.mem_append, List.mem_filter, List.mem_filter]
  show y = x ∨ (y ∈ ks ∧ (true && decide (y < x)) = true) ∨ (y ∈ ks ∧ (decide (x < y) && true) = true) ↔ _
  rw [Bool.true_and, Bool.and_true, decide_eq_true_eq, decide_eq_true_eq]
  constructor
  · rintro (h | h | h)
    · exact .inl h
    · exact .inr h.1
    · exact .inr h.1
  · rintro (h | h)
    · exact .inl h
    · rcases Int.lt_trichotomy y x with g | g | g
      · exact .inr (.inl ⟨h, g⟩)
      · exact .inl g
      · exact .inr (.inr ⟨h, g⟩)
theorem tch_bst {t : T} {x : Int} (b : t.bst) : (t.tch x).bst := by
  refine ⟨fun y hy => ?_, fun y hy => ?_, restr_bst b, restr_bst b⟩
  · rw [restr_pre b] at hy
    have := (List.mem_filter.mp hy).2
    exact of_decide_eq_true (by simpa [okLo, okHi] using this)
  · rw [restr_pre b] at hy
    have := (List.mem_filter.mp hy).2
    exact of_decide_eq_true (by simpa [okLo, okHi] using this)
theorem tch_mem {t : T} {x y : Int} (b : t.bst) : y ∈ (t.tch x).pre ↔ y = x ∨ y ∈ t.pre := by rw [tch_pre b, mem_topL]
theorem tch_mem' {t : T} {x y : Int} (b : t.bst) (h : x ∈ t.pre) : y ∈ (t.tch x).pre ↔ y ∈ t.pre := by
  rw [tch_mem b]
  exact ⟨fun z => z.elim (fun e => e ▸ h) id, .inr⟩
theorem tch_perm {t : T} {x : Int} (b : t.bst) (h : x ∈ t.pre) : (t.tch x).pre.Perm t.pre :=
  (List.perm_ext_iff_of_nodup (nodup_pre (tch_bst b)) (nodup_pre b)).mpr fun _ => tch_mem' b h
theorem tch_len {t : T} {x : Int} (b : t.bst) (h : x ∈ t.pre) : (t.tch x).pre.length = t.pre.length := (tch_perm b h).length_eq
theorem topL_len {x : Int} {ks : List Int} : (topL x ks).length ≤ ks.length + 1 := by
  unfold topL
  rw [List.length_cons, List.length_append]
  have key : ∀ l : List Int, (l.filter (fun y => okLo none y && okHi (some x) y)).length + (l.filter (fun y => okLo (some x) y && okHi none y)).length ≤ l.length := by
    intro l
    induction l with
    | nil => exact Nat.le_refl _
    | cons a l ih =>
      rw [List.filter_cons, List.filter_cons]
      show (if (true && decide (a < x)) = true then _ else _ : List Int).length + (if (decide (x < a) && true) = true then _ else _ : List Int).length ≤ _
      rw [Bool.true_and, Bool.and_true, List.length_cons]
      by_cases h1 : a < x
      · rw [if_pos (decide_eq_true h1), if_neg (by simp; omega), List.length_cons]; omega
      · rw [if_neg (by simp; omega)]
        split
        · rw [List.length_cons]; omega
        · omega
  have := key ks
  omega
theorem restr_mirL {x : Int} : ∀ {t : T}, (t.restr none (some x)).mir = t.mir.restr (some (-x)) none
  | leaf => rfl
  | node l k r => by
    show (if decide (k < x) = false then l.restr none (some x) else node (l.restr none (some x)) k (r.restr none (some x))).mir = if decide (-x < -k) = false then l.mir.restr (some (-x)) none else node (r.mir.restr (some (-x)) none) (-k) (l.mir.restr (some (-x)) none)
    by_cases h : k < x
    · rw [if_neg (by simp [h]), if_neg (by simp; omega), ← restr_mirL, ← restr_mirL]; rfl
    · rw [if_pos (decide_eq_false h), if_pos (decide_eq_false (by omega)), ← restr_mirL]
theorem restr_mirR {x : Int} : ∀ {t : T}, (t.restr (some x) none).mir = t.mir.restr none (some (-x))
  | leaf => rfl
  | node l k r => by
    show (if decide (x < k) = false then r.restr (some x) none else node (l.restr (some x) none) k (r.restr (some x) none)).mir = if decide (-k < -x) = false then r.mir.restr none (some (-x)) else node (r.mir.restr none (some (-x))) (-k) (l.mir.restr none (some (-x)))
    by_cases h : x < k
    · rw [if_neg (by simp [h]), if_neg (by simp; omega), ← restr_mirR, ← restr_mirR]; rfl
    · rw [if_pos (decide_eq_false h), if_pos (decide_eq_false (by omega)), ← restr_mirR]
theorem tch_mir {t : T} {x : Int} : (t.tch x).mir = t.mir.tch (-x) := by
  show node (t.restr (some x) none).mir (-x) (t.restr none (some x)).mir = _
  rw [restr_mirL, restr_mirR]; rfl
theorem filter_swap {p q : Int → Bool} (ks : List Int) : (ks.filter p).filter q = (ks.filter q).filter p := by
  rw [List.filter_filter, List.filter_filter]
  exact List.filter_congr fun x _ => Bool.and_comm _ _
/-- a restriction behind a touch of one of its keys -/
theorem topL_in {x : Int} {ks : List Int} {p : Int → Bool} (h : p x = true) : (topL x ks).filter p = topL x (ks.filter p) := by
  unfold topL
  rw [List.filter_cons_of_pos h, List.filter_append, filter_swap, filter_swap ks (p := fun y => okLo (some x) y && okHi none y)]
/-- a restriction behind a touch of another key -/
theorem topL_out {x : Int} {ks : List Int} {lo hi : Option Int} (h : (okLo lo x && okHi hi x) = false) : (topL x ks).filter (fun y => okLo lo y && okHi hi y) = ks.filter fun y => okLo lo y && okHi hi y := by
  unfold topL
  rw [List.filter_cons_of_neg (by rw [h]; exact Bool.false_ne_true), List.filter_append]
  cases hl : okLo lo x with
  | false =>
    rw [List.filter_filter, List.filter_filter, filter_none (p := fun a => (okLo lo a && okHi hi a) && (okLo none a && okHi (some x) a)) fun y _ => ?_, List.nil_append]
    · refine List.filter_congr fun y _ => ?_
      by_cases g : x < y
      · show ((okLo lo y && okHi hi y) && (decide (x < y) && true)) = _
        rw [decide_eq_true g]; simp
      · rw [okLo_mono hl (Int.not_lt.mp g)]; rfl
    · by_cases g : x < y
      · show ((okLo lo y && okHi hi y) && (true && decide (y < x))) = false
        rw [decide_eq_false (show ¬ y < x by omega)]; simp
      · rw [okLo_mono hl (Int.not_lt.mp g)]; rfl
  | true =>
    have hh : okHi hi x = false := by rw [hl] at h; exact h
    rw [List.filter_filter, List.filter_filter, filter_none (p := fun a => (okLo lo a && okHi hi a) && (okLo (some x) a && okHi none a)) fun y _ => ?_, List.append_nil]
    · refine List.filter_congr fun y _ => ?_
      by_cases g : y < x
      · show ((okLo lo y && okHi hi y) && (true && decide (y < x))) = _
        rw [decide_eq_true g]; simp
      · rw [okHi_mono hh (Int.not_lt.mp g)]; simp
    · by_cases g : y < x
      · show ((okLo lo y && okHi hi y) && (decide (x < y) && true)) = false
        rw [decide_eq_false (show ¬ x < y by omega)]; simp
      · rw [okHi_mono hh (Int.not_lt.mp g)]; simp
/-! ### slices, members -/
theorem atI_last (xs : List V) (v : V) : atI (xs ++ [v]) (-1) = some v := by
  simp [atI, ixN]
  rw [if_pos (by omega)]
  have e : (-1 + ((xs.length : Int) + 1)).toNat = xs.length := by omega
  simp [e]
theorem take_min (xs : List V) (k : Nat) : xs.take (min k xs.length) = xs.take k := by
  rcases Nat.le_total k xs.length with h | h
  · rw [Nat.min_eq_left h]
  · rw [Nat.min_eq_right h, List.take_of_length_le (Nat.le_refl _), List.take_of_length_le h]
theorem drop_min (xs : List V) (k : Nat) : xs.drop (min k xs.length) = xs.drop k := by
  rcases Nat.le_total k xs.length with h | h
  · rw [Nat.min_eq_left h]
  · rw [Nat.min_eq_right h, List.drop_of_length_le (Nat.le_refl _), List.drop_of_length_le h]
theorem cut_hi (xs : List V) (k : Nat) : cutV xs none (some (k : Int)) = xs.take k := by
  unfold cutV
  rw [HT.sIx_none, HT.sIx_nat, Nat.sub_zero, List.drop_zero, take_min]
theorem cut_lo (xs : List V) (k : Nat) : cutV xs (some (k : Int)) none = xs.drop k := by
  unfold cutV
  rw [HT.sIx_none, HT.sIx_nat, drop_min]
  exact List.take_of_length_le (by rw [List.length_drop]; omega)
theorem cut_one (xs : List V) (k : Nat) : cutV xs (some (k : Int)) (some ((k + 1 : Nat) : Int)) = (xs.drop k).take 1 := by
  unfold cutV
  rw [HT.sIx_nat, HT.sIx_nat, drop_min]
  rcases Nat.lt_or_ge k xs.length with h | h
  · rw [show min (k + 1) xs.length - min k xs.length = 1 by omega]
  · rw [List.drop_of_length_le h]; simp
theorem cut_hiI (ks : List Int) (k : Nat) : cutV (ks.map V.int) none (some (k : Int)) = (ks.take k).map V.int := by rw [cut_hi, List.map_take]
theorem cut_loI (ks : List Int) (k : Nat) : cutV (ks.map V.int) (some (k : Int)) none = (ks.drop k).map V.int := by rw [cut_lo, List.map_drop]
theorem cut_oneI (ks : List Int) (k : Nat) : cutV (ks.map V.int) (some (k : Int)) (some ((k + 1 : Nat) : Int)) = ((ks.drop k).take 1).map V.int := by rw [cut_one, List.map_take, List.map_drop]
theorem flat_ints (l : List Int) : (l.map V.int).all flatV = true := by
  rw [List.all_eq_true]
  intro x hx
  obtain ⟨i, _, rfl⟩ := List.mem_map.mp hx
  rfl
theorem inV_int (x : Int) (l : List Int) : inV (.int x) (l.map V.int) = true ↔ x ∈ l := by
  unfold inV
  rw [List.any_eq_true]
  constructor
  · rintro ⟨y, hy, h⟩
    obtain ⟨i, hi, rfl⟩ := List.mem_map.mp hy
    simp [eqV] at h
    rw [← h]
    exact hi
  · intro h
    exact ⟨.int x, List.mem_map.mpr ⟨x, h, rfl⟩, by simp [eqV]⟩
/-! ### promises -/
def spReq (K : PySem.W.Frag) : Sp := fun vs H Q _ => ∃ (a : Addr) (ks : List Int) (key : Int), vs = [.ref a, .int key] ∧ (SqL K H a (ks.map V.int) ∨ SqT K H a (ks.map V.int)) ∧ key ∈ ks ∧ Q .non H
def spPathTo (K : PySem.W.Frag) : Sp := fun vs H Q _ => ∃ (a : Addr) (key : Int) (t : T), vs = [.ref a, .int key] ∧ SqT K H a (t.pre.map V.int) ∧ t.bst ∧ t.pre.length ≤ 1000 ∧ key ∈ t.pre ∧
  ∀ p H', Same H H' → H p = none → H' p = some (.lst ((t.path key).map V.int)) → Q (.ref p) H'
def spDepth (K : PySem.W.Frag) : Sp := fun vs H Q _ => ∃ (a : Addr) (key : Int) (t : T), vs = [.ref a, .int key] ∧ SqT K H a (t.pre.map V.int) ∧ t.bst ∧ t.pre.length ≤ 1000 ∧ key ∈ t.pre ∧
  ∀ H', Same H H' → Q (.int (t.dep key : Int)) H'
def spPut (K : PySem.W.Frag) : Sp := fun vs H Q _ => ∃ (a : Addr) (key : Int) (ks : List Int), vs = [.ref a, .int key] ∧ SqT K H a (ks.map V.int) ∧ ks.length ≤ 1000 ∧
  ∀ p H', Same H H' → H' p = some (.tup ((topL key ks).map V.int)) → Q (.ref p) H'
def spTouch (K : PySem.W.Frag) : Sp := fun vs H Q _ => ∃ (a : Addr) (key : Int) (t : T), vs = [.ref a, .int key] ∧ SqT K H a (t.pre.map V.int) ∧ t.bst ∧ t.pre.length ≤ 1000 ∧ key ∈ t.pre ∧
  ∀ p q H', Same H H' → H' p = some (.tup [.ref q, .int (t.dep key : Int)]) → H' q = some (.tup ((t.tch key).pre.map V.int)) → Q (.ref p) H'

/-! ### comprehensions over ints -/
section
variable {K : PySem.W.Frag} {a : Addr} {ks : List Int} {g : TG} {tt : L2.TT} {te : TE} {vs : List Nat} {σ : L2.St} {H1 : Hp} {D : Addr} {Qd : Hp → Prop}
theorem lc_fT (p : Int → Bool) (f : Int → V) (hS : SqT K H1 a (ks.map V.int)) (nD : H1 D = none) (hl : ks.length ≤ 1000)
    (hs : ∀ x H2 (Y : VK) (N : Hp → Prop), x ∈ ks → Same H1 H2 → (p x = true → ∀ H3, Same H2 H3 → Y (f x) H3) → (p x = false → ∀ H3, Same H2 H3 → N H3) →
      g (.int x) (wipe σ vs) H2 fun σ2 H3 => wipe σ2 vs = wipe σ vs ∧ tt σ2 H3 fun b H4 => if b = true then te σ2 H4 Y else N H4)
    (hd : ∀ H2, Same H1 H2 → H2 D = some (.lst ((ks.filter p).map f)) → Qd H2) :
    ∃ W : Nat → Nat → Hp → Prop, (∃ m, W 0 m (upd H1 D (.lst []))) ∧ ∀ i m H, W i m H →
      ((Itt K a).stop i H ∧ Qd H) ∨ ((Itt K a).go i H ∧ ∃ Nx : Hp → Prop, (∀ H', Nx H' → ∃ m', m' < m ∧ W (i + 1) m' H') ∧ ∀ x H', (Itt K a).yld i H x H' → g x (wipe σ vs) H' fun σ2 H2 => wipe σ2 vs = wipe σ vs ∧ tt σ2 H2 fun b H3 =>
        if b = true then te σ2 H3 fun y H4 => ∃ acc, H4 D = some (.lst acc) ∧ acc.length < sizeLine ∧ Nx (upd H4 D (.lst (acc ++ [y]))) else Nx H3) := by
  refine lc_tup (xs := ks.map V.int) (fun i H2 => Same H1 H2 ∧ H2 D = some (.lst (((ks.take i).filter p).map f))) ⟨same_new nD, upd_same⟩ (fun i H2 _ h => Same.tup h.1 hS) ?_ ?_
  · rintro i v H2 hv ⟨e2, hD⟩
    rw [List.getElem?_map] at hv
    obtain ⟨x, hx, rfl⟩ := Option.map_eq_some_iff.mp hv
    have ht : ks.take (i + 1) = ks.take i ++ [x] := by rw [List.take_add_one, hx]; rfl
    refine hs x H2 _ _ (List.mem_of_getElem? hx) e2 (fun hp H3 e3 => ?_) (fun hp H3 e3 => ?_)
    · refine ⟨_, e3 _ _ hD, szl ?_, Same.put (e2.trans e3) nD, ?_⟩
      · rw [List.length_map]
        have := List.length_filter_le p (ks.take i)
        have := List.length_take_le' i ks
        omega
      · rw [upd_same, ht, List.filter_append, List.map_append, List.filter_cons_of_pos hp]; rfl
    · refine ⟨e2.trans e3, ?_⟩
      rw [e3 _ _ hD, ht, List.filter_append, List.filter_cons_of_neg (by rw [hp]; exact Bool.false_ne_true), List.filter_nil, List.append_nil]
  · rintro H2 ⟨e2, hD⟩
    rw [List.length_map, List.take_length] at hD
    exact hd H2 e2 hD
theorem lc_fL (p : Int → Bool) (f : Int → V) (hS : SqL K H1 a (ks.map V.int)) (nD : H1 D = none) (hl : ks.length ≤ 1000)
    (hs : ∀ x H2 (Y : VK) (N : Hp → Prop), x ∈ ks → Same H1 H2 → (p x = true → ∀ H3, Same H2 H3 → Y (f x) H3) → (p x = false → ∀ H3, Same H2 H3 → N H3) →
      g (.int x) (wipe σ vs) H2 fun σ2 H3 => wipe σ2 vs = wipe σ vs ∧ tt σ2 H3 fun b H4 => if b = true then te σ2 H4 Y else N H4)
    (hd : ∀ H2, Same H1 H2 → H2 D = some (.lst ((ks.filter p).map f)) → Qd H2) :
    ∃ W : Nat → Nat → Hp → Prop, (∃ m, W 0 m (upd H1 D (.lst []))) ∧ ∀ i m H, W i m H →
      ((Itl K a).stop i H ∧ Qd H) ∨ ((Itl K a).go i H ∧ ∃ Nx : Hp → Prop, (∀ H', Nx H' → ∃ m', m' < m ∧ W (i + 1) m' H') ∧ ∀ x H', (Itl K a).yld i H x H' → g x (wipe σ vs) H' fun σ2 H2 => wipe σ2 vs = wipe σ vs ∧ tt σ2 H2 fun b H3 =>
        if b = true then te σ2 H3 fun y H4 => ∃ acc, H4 D = some (.lst acc) ∧ acc.length < sizeLine ∧ Nx (upd H4 D (.lst (acc ++ [y]))) else Nx H3) := by
  refine lc_list (xs := ks.map V.int) (fun i H2 => Same H1 H2 ∧ H2 D = some (.lst (((ks.take i).filter p).map f))) ⟨same_new nD, upd_same⟩ (fun i H2 _ h => Same.seq h.1 hS) ?_ ?_
  · rintro i v H2 hv ⟨e2, hD⟩
    rw [List.getElem?_map] at hv
    obtain ⟨x, hx, rfl⟩ := Option.map_eq_some_iff.mp hv
    have ht : ks.take (i + 1) = ks.take i ++ [x] := by rw [List.take_add_one, hx]; rfl
    refine hs x H2 _ _ (List.mem_of_getElem? hx) e2 (fun hp H3 e3 => ?_) (fun hp H3 e3 => ?_)
    · refine ⟨_, e3 _ _ hD, szl ?_, Same.put (e2.trans e3) nD, ?_⟩
      · rw [List.length_map]
        have := List.length_filter_le p (ks.take i)
        have := List.length_take_le' i ks
        omega
      · rw [upd_same, ht, List.filter_append, List.map_append, List.filter_cons_of_pos hp]; rfl
    · refine ⟨e2.trans e3, ?_⟩
      rw [e3 _ _ hD, ht, List.filter_append, List.filter_cons_of_neg (by rw [hp]; exact Bool.false_ne_true), List.filter_nil, List.append_nil]
  · rintro H2 ⟨e2, hD⟩
    rw [List.length_map, List.take_length] at hD
    exact hd H2 e2 hD
end
def RemOf (t : T) (key : Int) (gs : List Int) (tot : Int) : Prop :=
  ((∀ y ∈ t.pre, ¬ y < key) ∧ gs = (t.tch key).pre.filter (fun y => !decide (V.int y = V.int key)) ∧ tot = (t.dep key : Int)) ∨
  ∃ m, m ∈ t.pre ∧ m < key ∧ (∀ y ∈ t.pre, y < key → y ≤ m) ∧ gs = ((t.tch key).tch m).pre.filter (fun y => !decide (V.int y = V.int key)) ∧ tot = (t.dep key : Int) + ((t.tch key).dep m : Int)
def spRemove (K : PySem.W.Frag) : Sp := fun vs H Q _ => ∃ (a : Addr) (key : Int) (t : T), vs = [.ref a, .int key] ∧ SqT K H a (t.pre.map V.int) ∧ t.bst ∧ t.pre.length ≤ 1000 ∧ key ∈ t.pre ∧
  ∀ p q gs tot H', Same H H' → RemOf t key gs tot → H' p = some (.tup [.ref q, .int tot]) → H' q = some (.tup (gs.map V.int)) → Q (.ref p) H'

section
variable {σ : L2.St} {H : Hp} {Q : VK}
theorem rd_loV {i j : Nat} {lo : Option Int} {x : Int} (h1 : σ[i]? = some (some (oV lo))) (h3 : σ[j]? = some (some (.int x))) (q : Q (.bl (okLo lo x)) H) : tOrV (tIsN (tVar i)) (tOp (rI0 fun i j => .bl (decide (i < j))) (tVar i) (tVar j)) σ H Q := by
  cases lo with
  | none => exact ⟨_, h1, _, rfl, iteTd rfl q⟩
  | some l => exact ⟨_, h1, _, rfl, iteFd rfl ⟨_, h1, _, h3, l, x, rfl, rfl, q⟩⟩
theorem rd_hiV {i j : Nat} {hi : Option Int} {x : Int} (h1 : σ[i]? = some (some (oV hi))) (h3 : σ[j]? = some (some (.int x))) (q : Q (.bl (okHi hi x)) H) : tOrV (tIsN (tVar i)) (tOp (rI0 fun i j => .bl (decide (i < j))) (tVar j) (tVar i)) σ H Q := by
  cases hi with
  | none => exact ⟨_, h1, _, rfl, iteTd rfl q⟩
  | some l => exact ⟨_, h1, _, rfl, iteFd rfl ⟨_, h3, _, h1, x, l, rfl, rfl, q⟩⟩
end

theorem rd_inV {σ : L2.St} {H : Hp} {Q : VK} {i i2 j : Nat} {lo hi : Option Int} {x : Int} (h1 : σ[i]? = some (some (oV lo))) (h2 : σ[i2]? = some (some (oV hi))) (h3 : σ[j]? = some (some (.int x))) (q : Q (.bl (okLo lo x && okHi hi x)) H) :
    tAndV (tOrV (tIsN (tVar i)) (tOp (rI0 fun i j => .bl (decide (i < j))) (tVar i) (tVar j))) (tOrV (tIsN (tVar i2)) (tOp (rI0 fun i j => .bl (decide (i < j))) (tVar j) (tVar i2))) σ H Q := by
  refine rd_loV h1 h3 ⟨_, rfl, ?_⟩
  cases e : okLo lo x with
  | false => rw [e] at q; exact iteFd rfl q
  | true => rw [e] at q; exact iteTd rfl (rd_hiV h2 h3 q)
/-! ### what is left behind a removal -/
theorem int_ne {x y : Int} : (!decide (V.int x = V.int y)) = true ↔ x ≠ y := by
  rw [Bool.not_eq_true', decide_eq_false_iff_not]
  exact ⟨fun h e => h (by rw [e]), fun h e => h (V.int.inj e)⟩
theorem rem_high {t : T} {key tot : Int} {gs : List Int} (b : t.bst) (h : RemOf t key gs tot) : (gs.filter fun y => okLo (some key) y && okHi none y) = t.pre.filter fun y => okLo (some key) y && okHi none y := by
  have drop : ∀ l : List Int, (l.filter fun y => !decide (V.int y = V.int key)).filter (fun y => okLo (some key) y && okHi none y) = l.filter fun y => okLo (some key) y && okHi none y := fun l => by
    rw [List.filter_filter]
    refine List.filter_congr fun y _ => ?_
    by_cases g : key < y
    · rw [int_ne.mpr (by omega), Bool.and_true]
    · show (decide (key < y) && true && _) = (decide (key < y) && true)
      rw [decide_eq_false g]; rfl
  rcases h with ⟨_, rfl, _⟩ | ⟨m, hm, lt, _, rfl, _⟩
  · rw [drop, tch_pre b, topL_out (by show (decide (key < key) && true) = false; simp)]
  · rw [drop, tch_pre (tch_bst b), topL_out (by show (decide (key < m) && true) = false; simp; omega), tch_pre b, topL_out (by show (decide (key < key) && true) = false; simp)]
theorem rem_perm {t : T} {key tot : Int} {gs : List Int} (b : t.bst) (hk : key ∈ t.pre) (h : RemOf t key gs tot) : gs.Perm (t.pre.filter fun y => !decide (V.int y = V.int key)) := by
  have nd : gs.Nodup := by
    rcases h with ⟨_, rfl, _⟩ | ⟨m, _, _, _, rfl, _⟩
    · exact (nodup_pre (tch_bst b)).filter _
    · exact (nodup_pre (tch_bst (tch_bst b))).filter _
  refine (List.perm_ext_iff_of_nodup nd ((nodup_pre b).filter _)).mpr fun y => ?_
  rcases h with ⟨_, rfl, _⟩ | ⟨m, hm, _, _, rfl, _⟩
  · rw [List.mem_filter, List.mem_filter, tch_mem' b hk]
  · rw [List.mem_filter, List.mem_filter, tch_mem' (tch_bst b) ((tch_mem' b hk).mpr hm), tch_mem' b hk]
theorem rem_none {t : T} {key tot : Int} {gs : List Int} (b : t.bst) (h : RemOf t key gs tot) (n : ∀ y ∈ t.pre, ¬ y < key) : gs = t.pre.filter fun y => okLo (some key) y && okHi none y := by
  rcases h with ⟨_, rfl, _⟩ | ⟨m, hm, lt, _⟩
  · rw [tch_pre b]
    unfold topL
    rw [List.filter_cons_of_neg (by simp), List.filter_append, filter_none (l := t.pre.filter _) fun y hy => ?_, List.nil_append, filter_all fun y hy => ?_]
    · have := of_decide_eq_true (p := key < y) (by simpa [okLo, okHi] using (List.mem_filter.mp hy).2)
      exact int_ne.mpr (by omega)
    · have := of_decide_eq_true (p := y < key) (by simpa [okLo, okHi] using (List.mem_filter.mp hy).2)
      exact absurd this (n y (List.mem_filter.mp hy).1)
  · exact absurd lt (n m hm)
theorem rem_head {t : T} {key tot : Int} {gs : List Int} (h : RemOf t key gs tot) {y0 : Int} (h0 : y0 ∈ t.pre) (l0 : y0 < key) : ∃ m r, gs = m :: r ∧ m ∈ t.pre ∧ m < key ∧ ∀ y ∈ t.pre, y < key → y ≤ m := by
  rcases h with ⟨n, _, _⟩ | ⟨m, hm, lt, g, rfl, _⟩
  · exact absurd l0 (n y0 h0)
  · exact ⟨m, (((t.tch key).restr none (some m)).pre ++ ((t.tch key).restr (some m) none).pre).filter _, List.filter_cons_of_pos (int_ne.mpr (by omega)), hm, lt, g⟩
theorem perm_sorted {l m : List Int} (h : l.Perm m) (hl : l.Pairwise (· ≤ ·)) (hm : m.Pairwise (· ≤ ·)) : l = m := h.eq_of_pairwise (fun a b _ _ h1 h2 => Int.le_antisymm h1 h2) hl hm
end TT
namespace TT
open PySem PySem.Spec PyProof.Rows L2
open T
/-! ### paths and trees -/
theorem path_sub {t : T} {x y : Int} : x ∈ t.path y → x ∈ t.pre := by
  induction t with
  | leaf => intro h; cases h
  | node l k r ihl ihr =>
    intro h
    unfold path at h
    rw [mem_node]
    split at h
    · exact .inl (List.mem_singleton.mp h)
    · split at h
      · rcases List.mem_cons.mp h with e | h
        · exact .inl e
        · exact .inr (.inl (ihl h))
      · rcases List.mem_cons.mp h with e | h
        · exact .inl e
        · exact .inr (.inr (ihr h))
theorem path_self {t : T} {x : Int} (b : t.bst) (h : x ∈ t.pre) : x ∈ t.path x := by
  rw [path_last b h]; simp
/-- a tree is known by its keys and by which ones are on which paths -/
theorem tree_ext : ∀ {u v : T}, u.bst → v.bst → (∀ z, z ∈ u.pre ↔ z ∈ v.pre) → (∀ x y, x ∈ u.pre → y ∈ u.pre → (x ∈ u.path y ↔ x ∈ v.path y)) → u = v
  | leaf, leaf, _, _, _, _ => rfl
  | leaf, node l k r, _, _, hm, _ => by
    have := (hm k).mpr (mem_node.mpr (.inl rfl))
    cases this
  | node l k r, leaf, _, _, hm, _ => by
    have := (hm k).mp (mem_node.mpr (.inl rfl))
    cases this
  | node l k r, node l' k' r', b, b', hm, hp => by
    have k1 : k ∈ (node l k r).pre := mem_node.mpr (.inl rfl)
    have k2 : k' ∈ (node l k r).pre := (hm k').mpr (mem_node.mpr (.inl rfl))
    have e : k = k' := by
      have h1 : k ∈ (node l k r).path k' := by
        unfold path
        split
        · exact List.mem_singleton.mpr rfl
        · split <;> exact List.mem_cons_self
      have := (hp k k' k1 k2).mp h1
      rw [path_k] at this
      exact List.mem_singleton.mp this
    subst e
    have ml : ∀ z, z ∈ l.pre ↔ z ∈ l'.pre := fun z => by
      constructor
      · intro h
        have lt := b.1 z h
        rcases mem_node.mp ((hm z).mp (mem_node.mpr (.inr (.inl h)))) with e | e | e
        · omega
        · exact e
        · have := b'.2.1 z e; omega
      · intro h
        have lt := b'.1 z h
        rcases mem_node.mp ((hm z).mpr (mem_node.mpr (.inr (.inl h)))) with e | e | e
        · omega
        · exact e
        · have := b.2.1 z e; omega
    have mr : ∀ z, z ∈ r.pre ↔ z ∈ r'.pre := fun z => by
      constructor
      · intro h
        have lt := b.2.1 z h
        rcases mem_node.mp ((hm z).mp (mem_node.mpr (.inr (.inr h)))) with e | e | e
        · omega
        · have := b'.1 z e; omega
        · exact e
      · intro h
        have lt := b'.2.1 z h
        rcases mem_node.mp ((hm z).mpr (mem_node.mpr (.inr (.inr h)))) with e | e | e
        · omega
        · have := b.1 z e; omega
        · exact e
    have el : l = l' := tree_ext b.2.2.1 b'.2.2.1 ml fun x y hx hy => by
      have h := hp x y (mem_node.mpr (.inr (.inl hx))) (mem_node.mpr (.inr (.inl hy)))
      rw [path_l b hy, path_l b' ((ml y).mp hy)] at h
      have lt := b.1 x hx
      simp only [List.mem_cons, show x ≠ k by omega, false_or] at h
      exact h
    have er : r = r' := tree_ext b.2.2.2 b'.2.2.2 mr fun x y hx hy => by
      have h := hp x y (mem_node.mpr (.inr (.inr hx))) (mem_node.mpr (.inr (.inr hy)))
      rw [path_r b hy, path_r b' ((mr y).mp hy)] at h
      have lt := b.2.1 x hx
      simp only [List.mem_cons, show x ≠ k by omega, false_or] at h
      exact h
    rw [el, er]
/-- the path in a restriction -/
theorem restr_path {lo hi : Option Int} {y : Int} (ok : (okLo lo y && okHi hi y) = true) : ∀ {t : T}, t.bst → (t.restr lo hi).path y = (t.path y).filter fun x => okLo lo x && okHi hi x
  | leaf, _ => rfl
  | node l k r, b => by
    have ok1 : okLo lo y = true := (Bool.and_eq_true_iff.mp ok).1
    have ok2 : okHi hi y = true := (Bool.and_eq_true_iff.mp ok).2
    show (if okLo lo k = false then r.restr lo hi else if okHi hi k = false then l.restr lo hi else node (l.restr lo hi) k (r.restr lo hi)).path y = ((if y = k then [k] else if y < k then k :: l.path y else k :: r.path y) : List Int).filter _
    by_cases h1 : okLo lo k = false
    · have hy : k < y := by
        rcases Int.lt_or_le k y with h | h
        · exact h
        · rw [okLo_mono h1 h] at ok1; cases ok1
      rw [if_pos h1, if_neg (show ¬ y = k by omega), if_neg (show ¬ y < k by omega), List.filter_cons_of_neg (by simp [h1])]
      exact restr_path ok b.2.2.2
    · rw [if_neg h1]
      by_cases h2 : okHi hi k = false
      · have hy : y < k := by
          rcases Int.lt_or_le y k with h | h
          · exact h
          · rw [okHi_mono h2 h] at ok2; cases ok2
        rw [if_pos h2, if_neg (show ¬ y = k by omega), if_pos hy, List.filter_cons_of_neg (by simp [h2])]
        exact restr_path ok b.2.2.1
      · rw [if_neg h2]
        have okk : (okLo lo k && okHi hi k) = true := by
          rw [Bool.not_eq_false] at h1 h2
          rw [h1, h2]; rfl
        show (if y = k then [k] else if y < k then k :: (l.restr lo hi).path y else k :: (r.restr lo hi).path y) = _
        split
        · rw [List.filter_cons_of_pos (p := fun x => okLo lo x && okHi hi x) okk]; rfl
        · split
          · rw [List.filter_cons_of_pos (p := fun x => okLo lo x && okHi hi x) okk, restr_path ok b.2.2.1]
          · rw [List.filter_cons_of_pos (p := fun x => okLo lo x && okHi hi x) okk, restr_path ok b.2.2.2]
/-- w lies between x and y -/
def btw (x y w : Int) : Bool := decide (min x y ≤ w ∧ w ≤ max x y)
theorem tch_path {t : T} {w x y : Int} (b : t.bst) : x ∈ (t.tch w).path y ↔ if btw x y w = true then w = x else x ∈ t.path y := by
  show x ∈ ((if y = w then [w] else if y < w then w :: (t.restr none (some w)).path y else w :: (t.restr (some w) none).path y) : List Int) ↔ _
  have bt : btw x y w = true ↔ (x ≤ w ∧ w ≤ y) ∨ (y ≤ w ∧ w ≤ x) := by
    unfold btw
    rw [decide_eq_true_iff]
    omega
  by_cases e : y = w
  · rw [if_pos e, if_pos (bt.mpr (by omega)), List.mem_singleton]
    exact eq_comm
  · rw [if_neg e]
    by_cases lt : y < w
    · rw [if_pos lt, List.mem_cons, restr_path (by show (true && decide (y < w)) = true; rw [decide_eq_true lt]; rfl) b, List.mem_filter]
      by_cases hb : btw x y w = true
      · rw [if_pos hb]
        have := bt.mp hb
        constructor
        · rintro (h | ⟨_, h⟩)
          · exact h.symm
          · have := of_decide_eq_true (p := x < w) (by simpa [okLo, okHi] using h)
            omega
        · exact fun h => .inl h.symm
      · rw [if_neg hb]
        have hn : x < w := by
          rcases Int.lt_or_le x w with h | h
          · exact h
          · exact absurd (bt.mpr (by omega)) hb
        constructor
        · rintro (h | ⟨h, _⟩)
          · omega
          · exact h
        · intro h
          exact .inr ⟨h, by show (true && decide (x < w)) = true; rw [decide_eq_true hn]; rfl⟩
    · rw [if_neg lt, List.mem_cons, restr_path (by show (decide (w < y) && true) = true; rw [decide_eq_true (show w < y by omega)]; rfl) b, List.mem_filter]
      by_cases hb : btw x y w = true
      · rw [if_pos hb]
        have := bt.mp hb
        constructor
        · rintro (h | ⟨_, h⟩)
          · exact h.symm
          · have := of_decide_eq_true (p := w < x) (by simpa [okLo, okHi] using h)
            omega
        · exact fun h => .inl h.symm
      · rw [if_neg hb]
        have hn : w < x := by
          rcases Int.lt_or_le w x with h | h
          · exact h
          · exact absurd (bt.mpr (by omega)) hb
        constructor
        · rintro (h | ⟨h, _⟩)
          · omega
          · exact h
        · intro h
          exact .inr ⟨h, by show (decide (w < x) && true) = true; rw [decide_eq_true hn]; rfl⟩
/-! ### lists of touches -/
def T.tchs (t : T) (xs : List Int) : T := xs.foldl T.tch t
theorem tchs_snoc {t : T} {xs : List Int} {w : Int} : t.tchs (xs ++ [w]) = (t.tchs xs).tch w := by
  unfold T.tchs; rw [List.foldl_append]; rfl
theorem tchs_app {t : T} {xs ys : List Int} : t.tchs (xs ++ ys) = (t.tchs xs).tchs ys := by
  unfold T.tchs; rw [List.foldl_append]
theorem tchs_bst : ∀ {xs : List Int} {t : T}, t.bst → (t.tchs xs).bst
  | [], _, b => b
  | x :: xs, t, b => tchs_bst (xs := xs) (t := t.tch x) (tch_bst b)
theorem tchs_mem : ∀ {xs : List Int} {t : T}, t.bst → (∀ x ∈ xs, x ∈ t.pre) → ∀ {y : Int}, y ∈ (t.tchs xs).pre ↔ y ∈ t.pre
  | [], _, _, _, _ => Iff.rfl
  | x :: xs, t, b, h, y => by
    have hx := h x List.mem_cons_self
    show y ∈ ((t.tch x).tchs xs).pre ↔ _
    rw [tchs_mem (tch_bst b) (fun z hz => (tch_mem' b hx).mpr (h z (List.mem_cons_of_mem _ hz))), tch_mem' b hx]
theorem tchs_perm {xs : List Int} {t : T} (b : t.bst) (h : ∀ x ∈ xs, x ∈ t.pre) : (t.tchs xs).pre.Perm t.pre := (List.perm_ext_iff_of_nodup (nodup_pre (tchs_bst b)) (nodup_pre b)).mpr fun _ => tchs_mem b h
theorem tchs_len {xs : List Int} {t : T} (b : t.bst) (h : ∀ x ∈ xs, x ∈ t.pre) : (t.tchs xs).pre.length = t.pre.length := (tchs_perm b h).length_eq
/-- x on the path to y, by the last touch between them; ys is read from the last touch on -/
def byL (t : T) (ys : List Int) (x y : Int) : Prop := match ys.find? (btw x y) with
  | some w => w = x
  | none => x ∈ t.path y
theorem tchs_path {t : T} (b : t.bst) (x y : Int) : ∀ ys : List Int, x ∈ (t.tchs ys.reverse).path y ↔ byL t ys x y
  | [] => Iff.rfl
  | w :: ys => by
    rw [List.reverse_cons, tchs_snoc, tch_path (tchs_bst b)]
    unfold byL
    rw [List.find?_cons]
    cases h : btw x y w with
    | true => exact Iff.rfl
    | false =>
      rw [if_neg Bool.false_ne_true, tchs_path b x y ys]; rfl
theorem byL_absorb {t : T} {w x y : Int} (b : t.bst) : ∀ {ys : List Int}, w ∈ ys → (byL (t.tch w) ys x y ↔ byL t ys x y) := fun {ys} h => by
  unfold byL
  cases e : ys.find? (btw x y) with
  | some z => exact Iff.rfl
  | none =>
    have := List.find?_eq_none.mp e w h
    show x ∈ (t.tch w).path y ↔ x ∈ t.path y
    rw [tch_path b, if_neg this]
theorem tchs_absorb {t : T} {w : Int} {ys : List Int} (b : t.bst) (h : ∀ x ∈ ys, x ∈ t.pre) (hw : w ∈ ys) : (t.tch w).tchs ys = t.tchs ys := by
  have hwt := h w hw
  refine tree_ext (tchs_bst (tch_bst b)) (tchs_bst b) (fun z => ?_) fun x y _ _ => ?_
  · rw [tchs_mem (tch_bst b) fun z hz => (tch_mem' b hwt).mpr (h z hz), tchs_mem b h, tch_mem' b hwt]
  · have e : ys = ys.reverse.reverse := (List.reverse_reverse _).symm
    rw [e, tchs_path (tch_bst b), tchs_path b, byL_absorb b (List.mem_reverse.mpr hw)]
/-- further touches of keys that are touched again do not matter -/
theorem tchs_absorbs {t : T} {zs : List Int} : ∀ {ws : List Int}, t.bst → (∀ x ∈ zs, x ∈ t.pre) → (∀ w ∈ ws, w ∈ zs) → t.tchs (ws ++ zs) = t.tchs zs := by
  intro ws
  induction ws generalizing t with
  | nil => intros; rfl
  | cons w ws ih =>
    intro b hz hw
    have hwz := hw w List.mem_cons_self
    show (t.tch w).tchs (ws ++ zs) = _
    rw [ih (tch_bst b) (fun x hx => (tch_mem' b (hz w hwz)).mpr (hz x hx)) (fun x hx => hw x (List.mem_cons_of_mem _ hx)), tchs_absorb b hz hwz]
/-! ### the order of the last touches -/
def addL (acc : List Int) (k : Int) : List Int := if k ∈ acc then acc else acc ++ [k]
def lastL (xs : List Int) : List Int := xs.reverse.foldl addL []
theorem lastL_cons {x : Int} {xs : List Int} : lastL (x :: xs) = addL (lastL xs) x := by
  unfold lastL; rw [List.reverse_cons, List.foldl_append]; rfl
theorem mem_lastL {y : Int} : ∀ {xs : List Int}, y ∈ lastL xs ↔ y ∈ xs
  | [] => Iff.rfl
  | x :: xs => by
    rw [lastL_cons]
    unfold addL
    split
    · next h =>
      rw [mem_lastL, List.mem_cons]
      exact ⟨.inr, fun z => z.elim (fun e => e ▸ mem_lastL.mp h) id⟩
    · rw [List.mem_append, List.mem_singleton, mem_lastL, List.mem_cons]
      exact Or.comm
theorem lastL_nodup : ∀ {xs : List Int}, (lastL xs).Nodup
  | [] => List.nodup_nil
  | x :: xs => by
    rw [lastL_cons]
    unfold addL
    split
    · exact lastL_nodup
    · next h => 
      rw [List.nodup_append]
      exact ⟨lastL_nodup, by simp, fun a ha b hb => by rw [List.mem_singleton.mp hb]; exact fun e => h (e ▸ ha)⟩
theorem tchs_last {t : T} : ∀ {xs : List Int}, t.bst → (∀ x ∈ xs, x ∈ t.pre) → t.tchs (lastL xs).reverse = t.tchs xs := by
  intro xs
  induction xs generalizing t with
  | nil => intros; rfl
  | cons x xs ih =>
    intro b h
    have hx := h x List.mem_cons_self
    have hxs : ∀ z ∈ xs, z ∈ t.pre := fun z hz => h z (List.mem_cons_of_mem _ hz)
    rw [lastL_cons]
    unfold addL
    split
    · next hm =>
      rw [ih b hxs]
      exact (tchs_absorb b hxs (mem_lastL.mp hm)).symm
    · rw [List.reverse_append]
      show (t.tch x).tchs (lastL xs).reverse = (t.tch x).tchs xs
      exact ih (tch_bst b) fun z hz => (tch_mem' b hx).mpr (hxs z hz)
end TT
namespace TT
open PySem PySem.Spec PyProof.Rows L2
open T
/-! ### promises -/
def costs (t : T) : List Int → List Int
  | [] => []
  | x :: xs => (t.dep x : Int) :: costs (t.tch x) xs
theorem costs_snoc {w : Int} : ∀ {xs : List Int} {t : T}, costs t (xs ++ [w]) = costs t xs ++ [((t.tchs xs).dep w : Int)]
  | [], _ => rfl
  | x :: xs, t => by
    show (t.dep x : Int) :: costs (t.tch x) (xs ++ [w]) = (t.dep x : Int) :: (costs (t.tch x) xs ++ _)
    rw [costs_snoc]; rfl
theorem costs_len : ∀ {xs : List Int} {t : T}, (costs t xs).length = xs.length
  | [], _ => rfl
  | x :: xs, t => by
    show (costs (t.tch x) xs).length + 1 = _
    rw [costs_len]; rfl
def spTouchAll (K : PySem.W.Frag) : Sp := fun vs H Q _ => ∃ (a b : Addr) (xs : List Int) (t : T), vs = [.ref a, .ref b] ∧ SqT K H a (t.pre.map V.int) ∧ SqL K H b (xs.map V.int) ∧ t.bst ∧ t.pre.length ≤ 1000 ∧ xs.length ≤ 1000 ∧ (∀ x ∈ xs, x ∈ t.pre) ∧
  ∀ p q r H', Same H H' → H r = none → H' p = some (.tup [.ref q, .ref r]) → SqT K H' q ((t.tchs xs).pre.map V.int) → H' r = some (.lst ((costs t xs).map V.int)) → Q (.ref p) H'
def T.abv (t : T) (x y : Int) : Bool := !decide (V.int x = V.int y) && inV (.int x) ((t.path y).map V.int)
theorem abv_iff {t : T} {x y : Int} : t.abv x y = true ↔ x ≠ y ∧ x ∈ t.path y := by
  unfold T.abv
  rw [Bool.and_eq_true_iff, int_ne, inV_int]
def spAboveQ (K : PySem.W.Frag) : Sp := fun vs H Q _ => ∃ (a : Addr) (x y : Int) (t : T), vs = [.ref a, .int x, .int y] ∧ SqT K H a (t.pre.map V.int) ∧ t.bst ∧ t.pre.length ≤ 1000 ∧ x ∈ t.pre ∧ y ∈ t.pre ∧ ∀ H', Same H H' → Q (.bl (t.abv x y)) H'
theorem anc_iff {t : T} {x y : Int} (b : t.bst) (hy : y ∈ t.pre) (ne : x ≠ y) : x ∈ t.anc y ↔ x ∈ t.path y := by
  unfold T.anc
  rw [List.mem_reverse]
  conv => rhs; rw [path_last b hy]
  rw [List.mem_append, List.mem_singleton]
  exact ⟨.inl, fun h => h.elim id fun e => absurd e ne⟩
theorem path_nodup : ∀ {t : T} {x : Int}, t.bst → (t.path x).Nodup
  | leaf, _, _ => List.nodup_nil
  | node l k r, x, b => by
    unfold path
    split
    · simp
    · split
      · exact List.nodup_cons.mpr ⟨fun h => by have := b.1 k (path_sub h); omega, path_nodup b.2.2.1⟩
      · exact List.nodup_cons.mpr ⟨fun h => by have := b.2.1 k (path_sub h); omega, path_nodup b.2.2.2⟩
theorem anc_self {t : T} {x : Int} (b : t.bst) (h : x ∈ t.pre) : x ∉ t.anc x := by
  unfold T.anc
  rw [List.mem_reverse]
  intro hx
  have nd := path_nodup (x := x) b
  rw [path_last b h, List.nodup_append] at nd
  exact nd.2.2 x hx x (List.mem_singleton.mpr rfl) rfl
def spTouches (K : PySem.W.Frag) : Sp := fun vs H Q _ => ∃ (d a : Addr) (ks : List Int) (most : Int) (c : Addr) (ns : List Int), vs = [.ref d, .ref a, .int most] ∧ SqL K H a (ks.map V.int) ∧ 0 < ks.length ∧ ks.length ≤ 1000 ∧ 0 ≤ most ∧ most ≤ 1000 ∧ a ≠ d ∧ Drw c ns H d ∧
  ∀ (xs : List Int) p H', (∀ x ∈ xs, x ∈ ks) → (xs.length : Int) ≤ most → Ext d H H' → Drw c ns H' d → H p = none → H' p = some (.lst (xs.map V.int)) → Q (.ref p) H'
def spLast (K : PySem.W.Frag) : Sp := fun vs H Q _ => ∃ (a : Addr) (xs : List Int), vs = [.ref a] ∧ SqL K H a (xs.map V.int) ∧ xs.length ≤ 1000 ∧
  ∀ p H', Same H H' → H p = none → H' p = some (.lst ((lastL xs).map V.int)) → Q (.ref p) H'
theorem addL_len : ∀ (l acc : List Int), (l.foldl addL acc).length ≤ acc.length + l.length
  | [], acc => Nat.le_refl _
  | x :: l, acc => by
    have := addL_len l (addL acc x)
    have h : (addL acc x).length ≤ acc.length + 1 := by
      unfold addL
      split
      · omega
      · rw [List.length_append]; exact Nat.le_refl _
    show (l.foldl addL (addL acc x)).length ≤ _
    rw [List.length_cons]
    omega
theorem foldl_snoc {l : List Int} {i : Nat} {x : Int} (h : l[i]? = some x) : (l.take (i + 1)).foldl addL [] = addL ((l.take i).foldl addL []) x := by
  rw [List.take_add_one, h, List.foldl_append]; rfl
/-- what by_last answers; ys from the last touch on -/
def byLB (t : T) (ys : List Int) (x y : Int) : Bool := match ys.find? (btw x y) with
  | some w => decide (V.int w = V.int x)
  | none => inV (.int x) ((t.anc y).map V.int)
theorem byLB_iff {t : T} {ys : List Int} {x y : Int} (b : t.bst) (hy : y ∈ t.pre) (ne : x ≠ y) : byLB t ys x y = true ↔ byL t ys x y := by
  unfold byLB byL
  split
  · rw [decide_eq_true_iff]; exact ⟨V.int.inj, fun e => by rw [e]⟩
  · rw [inV_int, anc_iff b hy ne]
def spByLast (K : PySem.W.Frag) : Sp := fun vs H Q _ => ∃ (a l : Addr) (xs : List Int) (x y : Int) (t : T), vs = [.ref a, .ref l, .int x, .int y] ∧ SqT K H a (t.pre.map V.int) ∧ SqL K H l (xs.map V.int) ∧ t.bst ∧ t.pre.length ≤ 58 ∧ xs.length ≤ 1000 ∧ (∀ w ∈ xs, w ∈ t.pre) ∧ y ∈ t.pre ∧
  ∀ H', Same H H' → Q (.bl (byLB t xs.reverse x y)) H'
theorem addL_in {acc : List Int} {x : Int} (h : x ∈ acc) : addL acc x = acc := if_pos h
theorem addL_out {acc : List Int} {x : Int} (h : x ∉ acc) : addL acc x = acc ++ [x] := if_neg h
theorem anc_abv {t : T} {x y : Int} (b : t.bst) (hy : y ∈ t.pre) : inV (.int x) ((t.anc y).map V.int) = t.abv x y := by
  rw [Bool.eq_iff_iff, inV_int, abv_iff]
  by_cases e : x = y
  · subst e
    exact ⟨fun h => absurd h (anc_self b hy), fun h => absurd rfl h.1⟩
  · rw [anc_iff b hy e]
    exact ⟨fun h => ⟨e, h⟩, fun h => h.2⟩
theorem byLB_abv {t : T} {xs : List Int} {x y : Int} (b : t.bst) (hy : y ∈ t.pre) (e : x ≠ y) : byLB t xs.reverse x y = (t.tchs xs).abv x y := by
  rw [Bool.eq_iff_iff, byLB_iff b hy e, abv_iff, ← tchs_path b, List.reverse_reverse]
  exact ⟨fun h => ⟨e, h⟩, fun h => h.2⟩
theorem Drw.tup {K : PySem.W.Frag} {c d a : Addr} {ns : List Int} {H H' : Hp} {xs : List V} (hD : Drw c ns H d) (e : Ext d H H') (h : SqT K H a xs) : SqT K H' a xs := by
  obtain ⟨i, b, z, hd, _⟩ := hD
  rcases h with (h | ⟨o, h⟩) | h
  · exact .inl (.inl (e _ _ (fun z => by rw [z, hd] at h; cases h) h))
  · exact .inl (.inr ⟨o, e _ _ (fun z => by rw [z, hd] at h; cases h) h⟩)
  · exact .inr h
theorem idx_first {L : List Int} {i : Nat} {x : Int} (nd : L.Nodup) (h : L[i]? = some x) : ∀ (m : Nat) (z : V), m < i → (L.map V.int)[m]? = some z → eqV z (.int x) = false := fun m z lt hz => by
  rw [List.getElem?_map] at hz
  obtain ⟨y, hy, rfl⟩ := Option.map_eq_some_iff.mp hz
  have hi := (List.getElem?_eq_some_iff.mp h).1
  cases e : eqV (V.int y) (.int x) with
  | false => rfl
  | true =>
    have : y = x := by simpa [eqV] using e
    subst this
    have := (List.getElem?_inj (show m < L.length by omega) nd).mp (hy.trans h.symm)
    omega
end TT
namespace TT
open PySem PySem.Spec PyProof.Rows L2
open T
/-! ### a key rotated with its parent -/
def T.rot (x : Int) : T → T
  | leaf => leaf
  | node l k r => if x < k then (if l.rt = some x then node l.lt x (node l.rtr k r) else node (l.rot x) k r) else if k < x then (if r.rt = some x then node (node l k r.lt) x r.rtr else node l k (r.rot x)) else node l k r
theorem rt_eta {l : T} {x : Int} (h : l.rt = some x) : l = node l.lt x l.rtr := by
  cases l with
  | leaf => cases h
  | node a y b => cases h; rfl
theorem mem_rot {x y : Int} : ∀ {t : T}, y ∈ (t.rot x).pre ↔ y ∈ t.pre
  | leaf => Iff.rfl
  | node l k r => by
    unfold rot
    split
    · split
      · next h =>
        conv => rhs; rw [rt_eta h]
        simp only [mem_node]
        constructor
        · rintro (h | h | h | h | h)
          · exact .inr (.inl (.inl h))
          · exact .inr (.inl (.inr (.inl h)))
          · exact .inl h
          · exact .inr (.inl (.inr (.inr h)))
          · exact .inr (.inr h)
        · rintro (h | (h | h | h) | h)
          · exact .inr (.inr (.inl h))
          · exact .inl h
          · exact .inr (.inl h)
          · exact .inr (.inr (.inr (.inl h)))
          · exact .inr (.inr (.inr (.inr h)))
      · rw [mem_node, mem_node, mem_rot]
    · split
      · split
        · next h =>
          conv => rhs; rw [rt_eta h]
          simp only [mem_node]
          constructor
          · rintro (h | (h | h | h) | h)
            · exact .inr (.inr (.inl h))
            · exact .inl h
            · exact .inr (.inl h)
            · exact .inr (.inr (.inr (.inl h)))
            · exact .inr (.inr (.inr (.inr h)))
          · rintro (h | h | h | h | h)
            · exact .inr (.inl (.inl h))
            · exact .inr (.inl (.inr (.inl h)))
            · exact .inl h
            · exact .inr (.inl (.inr (.inr h)))
            · exact .inr (.inr h)
        · rw [mem_node, mem_node, mem_rot]
      · exact Iff.rfl
theorem bst_rot {x : Int} : ∀ {t : T}, t.bst → (t.rot x).bst
  | leaf, _ => trivial
  | node l k r, b => by
    unfold rot
    split
    · next lt =>
      split
      · next h =>
        have e := rt_eta h
        rw [e] at b
        obtain ⟨h1, h2, ⟨h3, h4, h5, h6⟩, h7⟩ := b
        refine ⟨h3, fun y hy => ?_, h5, ⟨fun y hy => h1 y (mem_node.mpr (.inr (.inr hy))), h2, h6, h7⟩⟩
        rcases mem_node.mp hy with g | g | g
        · omega
        · exact h4 y g
        · have := h2 y g; omega
      · exact ⟨fun y hy => b.1 y (mem_rot.mp hy), b.2.1, bst_rot b.2.2.1, b.2.2.2⟩
    · split
      · next lt =>
        split
        · next h =>
          have e := rt_eta h
          rw [e] at b
          obtain ⟨h1, h2, h7, ⟨h3, h4, h5, h6⟩⟩ := b
          refine ⟨fun y hy => ?_, h4, ⟨h1, fun y hy => h2 y (mem_node.mpr (.inr (.inl hy))), h7, h5⟩, h6⟩
          rcases mem_node.mp hy with g | g | g
          · omega
          · have := h1 y g; omega
          · exact h3 y g
        · exact ⟨b.1, fun y hy => b.2.1 y (mem_rot.mp hy), b.2.2.1, bst_rot b.2.2.2⟩
      · exact b
theorem rot_perm {t : T} {x : Int} (b : t.bst) : (t.rot x).pre.Perm t.pre := (List.perm_ext_iff_of_nodup (nodup_pre (bst_rot b)) (nodup_pre b)).mpr fun _ => mem_rot
theorem rot_len {t : T} {x : Int} (b : t.bst) : (t.rot x).pre.length = t.pre.length := (rot_perm b).length_eq
/-! ### parents -/
theorem up_in {t : T} {x p : Int} (h : t.up x = some p) : x ∈ t.pre := Classical.byContradiction fun n => by rw [up_out n] at h; cases h
theorem up_mem {t : T} {x p : Int} (b : t.bst) (h : t.up x = some p) : p ∈ t.pre ∧ x ≠ p ∧ t.path x = t.path p ++ [x] := by
  rcases up_path b (up_in h) with ⟨h1, _⟩ | ⟨q, h1, h2, h3⟩
  · rw [h1] at h; cases h
  · rw [h1] at h; cases h
    refine ⟨h2, fun e => ?_, h3⟩
    subst e
    have := congrArg List.length h3
    rw [List.length_append] at this
    simp at this
theorem up_rt {t : T} {x : Int} (b : t.bst) (hx : x ∈ t.pre) : t.up x = none ↔ t.rt = some x := by
  cases t with
  | leaf => cases hx
  | node l k r =>
    constructor
    · intro h
      rcases up_path b hx with ⟨_, e⟩ | ⟨q, h1, _, _⟩
      · have : (node l k r).path x = if x = k then [k] else if x < k then k :: l.path x else k :: r.path x := rfl
        rw [e] at this
        split at this
        · next e => rw [e]; rfl
        · split at this
          · rw [(List.cons.inj this).1]; rfl
          · rw [(List.cons.inj this).1]; rfl
      · rw [h1] at h; cases h
    · intro h
      cases h
      unfold up
      rw [if_neg (Int.lt_irrefl _), if_neg (Int.lt_irrefl _)]
theorem up_nodeL {l r : T} {k x : Int} (h : x < k) : (node l k r).up x = if l.rt = some x then some k else l.up x := by
  show (if x < k then (if l.rt = some x then some k else l.up x) else _) = _
  rw [if_pos h]
theorem up_nodeR {l r : T} {k x : Int} (h : k < x) : (node l k r).up x = if r.rt = some x then some k else r.up x := by
  show (if x < k then _ else if k < x then (if r.rt = some x then some k else r.up x) else none) = _
  rw [if_neg (by omega), if_pos h]
theorem up_root {l r : T} {k : Int} : (node l k r).up k = none := by
  unfold up
  rw [if_neg (Int.lt_irrefl _), if_neg (Int.lt_irrefl _)]
/-- where the key's parent is: at the root, or within one side -/
theorem up_cases {l r : T} {k x p : Int} (b : (node l k r).bst) (h : (node l k r).up x = some p) :
    (x < k ∧ l.rt = some x ∧ p = k) ∨ (x < k ∧ ¬ l.rt = some x ∧ l.up x = some p ∧ p < k) ∨ (k < x ∧ r.rt = some x ∧ p = k) ∨ (k < x ∧ ¬ r.rt = some x ∧ r.up x = some p ∧ k < p) := by
  rcases Int.lt_trichotomy x k with g | g | g
  · rw [up_nodeL g] at h
    split at h
    · next e => exact .inl ⟨g, e, (Option.some.inj h).symm⟩
    · next e => exact .inr (.inl ⟨g, e, h, b.1 p (up_mem b.2.2.1 h).1⟩)
  · subst g
    rw [up_root] at h; cases h
  · rw [up_nodeR g] at h
    split at h
    · next e => exact .inr (.inr (.inl ⟨g, e, (Option.some.inj h).symm⟩))
    · next e => exact .inr (.inr (.inr ⟨g, e, h, b.2.1 p (up_mem b.2.2.2 h).1⟩))
theorem rt_rot {x p : Int} : ∀ {t : T}, t.bst → t.up x = some p → (t.rot x).rt = if t.up p = none then some x else t.rt
  | leaf, _, h => by cases h
  | node l k r, b, h => by
    rcases up_cases b h with ⟨g, e, rfl⟩ | ⟨g, e, hu, lp⟩ | ⟨g, e, rfl⟩ | ⟨g, e, hu, lp⟩
    · unfold rot
      rw [if_pos g, if_pos e, if_pos up_root]; rfl
    · have : ¬ (node l k r).up p = none := fun z => by
        have := (up_rt b (mem_node.mpr (.inr (.inl (up_mem b.2.2.1 hu).1)))).mp z
        cases this
        omega
      unfold rot
      rw [if_pos g, if_neg e, if_neg this]; rfl
    · unfold rot
      rw [if_neg (by omega), if_pos g, if_pos e, if_pos up_root]; rfl
    · have : ¬ (node l k r).up p = none := fun z => by
        have := (up_rt b (mem_node.mpr (.inr (.inr (up_mem b.2.2.2 hu).1)))).mp z
        cases this
        omega
      unfold rot
      rw [if_neg (by omega), if_pos g, if_neg e, if_neg this]; rfl
theorem lc_nodeE {l r : T} {k z : Int} : (node l k r).lc z = if z = k then l.rt else if z < k then l.lc z else r.lc z := rfl
theorem rc_nodeE {l r : T} {k z : Int} : (node l k r).rc z = if z = k then r.rt else if z < k then l.rc z else r.rc z := rfl
/-- what the dict of left children becomes -/
def lcR (t : T) (x p z : Int) : Option Int := if x < p then (if z = p then t.rc x else if t.up p = some z ∧ x < z then some x else t.lc z) else (if z = x then some p else if t.up p = some z ∧ x < z then some x else t.lc z)
def rcR (t : T) (x p z : Int) : Option Int := if x < p then (if z = x then some p else if t.up p = some z ∧ z < x then some x else t.rc z) else (if z = p then t.lc x else if t.up p = some z ∧ z < x then some x else t.rc z)
theorem lc_rot {x p : Int} : ∀ {t : T}, t.bst → t.up x = some p → ∀ z, (t.rot x).lc z = lcR t x p z
  | leaf, _, h, _ => by cases h
  | node l k r, b, h, z => by
    unfold lcR
    rcases up_cases b h with ⟨g, e, rfl⟩ | ⟨g, e, hu, lp⟩ | ⟨g, e, rfl⟩ | ⟨g, e, hu, lp⟩
    · unfold rot
      rw [if_pos g, if_pos e, if_pos g, up_root]
      have el := rt_eta e
      have h1 : l.rc x = l.rtr.rt := by rw [el, rc_nodeE, if_pos rfl]; rfl
      have h2 : ∀ z, l.lc z = if z = x then l.lt.rt else if z < x then l.lt.lc z else l.rtr.lc z := fun z => by conv => lhs; rw [el, lc_nodeE]
      simp only [lc_nodeE, rc_nodeE, h2, h1, if_neg (show ¬ x = p by omega), if_pos g]
      by_cases z1 : z = p
      · subst z1
        rw [if_neg (by omega), if_neg (by omega), if_pos rfl, if_pos rfl]
      · have n2 : ¬ ((none : Option Int) = some z ∧ x < z) := fun q => by cases q.1
        simp only [if_neg z1, if_neg n2]
        by_cases z2 : z < p
        · simp only [if_pos z2]
        · simp only [if_neg z2, if_neg (show ¬ z = x by omega), if_neg (show ¬ z < x by omega)]
    · have mp := (up_mem b.2.2.1 hu).1
      have ih := lc_rot b.2.2.1 hu
      unfold lcR at ih
      have hup : (node l k r).up p = if l.rt = some p then some k else l.up p := up_nodeL lp
      have hrc : (node l k r).rc x = l.rc x := by rw [rc_nodeE, if_neg (by omega), if_pos g]
      unfold rot
      rw [if_pos g, if_neg e, lc_nodeE, hrc, hup, lc_nodeE]
      by_cases z1 : z = k
      · subst z1
        rw [if_pos rfl, rt_rot b.2.2.1 hu, if_neg (show ¬ z = p by omega), if_neg (show ¬ z = x by omega), if_pos rfl, ite_self]
        by_cases er : l.rt = some p
        · rw [if_pos ((up_rt b.2.2.1 mp).mpr er), if_pos ⟨if_pos er, g⟩]
        · rw [if_neg (fun q => er ((up_rt b.2.2.1 mp).mp q)), if_neg (fun q => ?_)]
          have := q.1
          rw [if_neg er] at this
          have := b.1 _ (up_mem b.2.2.1 this).1
          omega
      · rw [if_neg z1, if_neg z1]
        by_cases z2 : z < k
        · rw [if_pos z2, if_pos z2, ih z]
          by_cases er : l.rt = some p
          · rw [if_pos er, (up_rt b.2.2.1 mp).mpr er]
            have n1 : ¬ (some k = some z ∧ x < z) := fun q => z1 (Option.some.inj q.1).symm
            have n2 : ¬ ((none : Option Int) = some z ∧ x < z) := fun q => by cases q.1
            rw [if_neg n1, if_neg n2]
          · rw [if_neg er]
        · have n2 : ¬ ((if l.rt = some p then some k else l.up p) = some z ∧ x < z) := fun q => by
            have := q.1
            split at this
            · exact z1 (Option.some.inj this).symm
            · have := b.1 _ (up_mem b.2.2.1 this).1
              omega
          simp only [if_neg z2, if_neg (show ¬ z = p by omega), if_neg (show ¬ z = x by omega), if_neg n2, ite_self]
    · unfold rot
      rw [if_neg (show ¬ x < p by omega), if_pos g, if_pos e, if_neg (show ¬ x < p by omega), up_root]
      have el := rt_eta e
      have h2 : ∀ z, r.lc z = if z = x then r.lt.rt else if z < x then r.lt.lc z else r.rtr.lc z := fun z => by conv => lhs; rw [el, lc_nodeE]
      simp only [lc_nodeE, h2]
      by_cases z1 : z = x
      · rw [if_pos z1, if_pos z1]; rfl
      · have n2 : ¬ ((none : Option Int) = some z ∧ x < z) := fun q => by cases q.1
        simp only [if_neg z1, if_neg n2]
        by_cases z2 : z = p
        · simp only [if_pos z2, if_pos (show z < x by omega)]
        · simp only [if_neg z2]
          by_cases z3 : z < p
          · simp only [if_pos z3, if_pos (show z < x by omega)]
          · simp only [if_neg z3]
    · have mp := (up_mem b.2.2.2 hu).1
      have ih := lc_rot b.2.2.2 hu
      unfold lcR at ih
      have hup : (node l k r).up p = if r.rt = some p then some k else r.up p := up_nodeR lp
      have hrc : (node l k r).rc x = r.rc x := by rw [rc_nodeE, if_neg (by omega), if_neg (by omega)]
      unfold rot
      rw [if_neg (show ¬ x < k by omega), if_pos g, if_neg e, lc_nodeE, hrc, hup, lc_nodeE]
      by_cases z1 : z = k
      · subst z1
        have n2 : ¬ ((if r.rt = some p then some z else r.up p) = some z ∧ x < z) := fun q => by omega
        simp only [if_true, if_neg (show ¬ z = p by omega), if_neg (show ¬ z = x by omega), if_neg n2, ite_self]
      · rw [if_neg z1, if_neg z1]
        by_cases z2 : z < k
        · have n2 : ¬ ((if r.rt = some p then some k else r.up p) = some z ∧ x < z) := fun q => by omega
          simp only [if_pos z2, if_neg (show ¬ z = p by omega), if_neg (show ¬ z = x by omega), if_neg n2, ite_self]
        · rw [if_neg z2, if_neg z2, ih z]
          by_cases er : r.rt = some p
          · rw [if_pos er, (up_rt b.2.2.2 mp).mpr er]
            have n1 : ¬ (some k = some z ∧ x < z) := fun q => z1 (Option.some.inj q.1).symm
            have n2 : ¬ ((none : Option Int) = some z ∧ x < z) := fun q => by cases q.1
            rw [if_neg n1, if_neg n2]
          · rw [if_neg er]
/-! ### children and parents -/
theorem lc_up {x z : Int} : ∀ {t : T}, t.bst → t.lc x = some z → t.up z = some x ∧ z < x
  | leaf, _, h => by cases h
  | node l k r, b, h => by
    rw [lc_nodeE] at h
    split at h
    · next e =>
      subst e
      have := b.1 z (rt_mem h)
      exact ⟨by rw [up_nodeL this, if_pos h], this⟩
    · split at h
      · obtain ⟨h1, h2⟩ := lc_up b.2.2.1 h
        have hz := up_in h1
        have := b.1 z hz
        refine ⟨?_, h2⟩
        rw [up_nodeL this, if_neg (fun e => ?_), h1]
        rw [(up_rt b.2.2.1 hz).mpr e] at h1; cases h1
      · obtain ⟨h1, h2⟩ := lc_up b.2.2.2 h
        have hz := up_in h1
        have := b.2.1 z hz
        refine ⟨?_, h2⟩
        rw [up_nodeR this, if_neg (fun e => ?_), h1]
        rw [(up_rt b.2.2.2 hz).mpr e] at h1; cases h1
theorem rc_up {x z : Int} : ∀ {t : T}, t.bst → t.rc x = some z → t.up z = some x ∧ x < z
  | leaf, _, h => by cases h
  | node l k r, b, h => by
    rw [rc_nodeE] at h
    split at h
    · next e =>
      subst e
      have := b.2.1 z (rt_mem h)
      exact ⟨by rw [up_nodeR this, if_pos h], this⟩
    · split at h
      · obtain ⟨h1, h2⟩ := rc_up b.2.2.1 h
        have hz := up_in h1
        have := b.1 z hz
        refine ⟨?_, h2⟩
        rw [up_nodeL this, if_neg (fun e => ?_), h1]
        rw [(up_rt b.2.2.1 hz).mpr e] at h1; cases h1
      · obtain ⟨h1, h2⟩ := rc_up b.2.2.2 h
        have hz := up_in h1
        have := b.2.1 z hz
        refine ⟨?_, h2⟩
        rw [up_nodeR this, if_neg (fun e => ?_), h1]
        rw [(up_rt b.2.2.2 hz).mpr e] at h1; cases h1
/-- the child that changes its parent -/
def ch (t : T) (x p : Int) : Option Int := if x < p then t.rc x else t.lc x
theorem ch_up {t : T} {x p z : Int} (b : t.bst) (h : ch t x p = some z) : t.up z = some x := by
  unfold ch at h
  split at h
  · exact (rc_up b h).1
  · exact (lc_up b h).1
def upR (t : T) (x p z : Int) : Option Int := if z = x then t.up p else if z = p then some x else if ch t x p = some z then some p else t.up z
theorem up_rot {x p : Int} : ∀ {t : T}, t.bst → t.up x = some p → ∀ z, (t.rot x).up z = upR t x p z
  | leaf, _, h, _ => by cases h
  | node l k r, b, h, z => by
    rcases up_cases b h with ⟨g, e, rfl⟩ | ⟨g, e, hu, lp⟩ | ⟨g, e, rfl⟩ | ⟨g, e, hu, lp⟩
    · have el := rt_eta e
      obtain ⟨b1, b2, b3, b4⟩ := b
      have hc : ch (node l p r) x p = l.rtr.rt := by
        unfold ch
        rw [if_pos g, rc_nodeE, if_neg (by omega), if_pos g]
        rw [el, rc_nodeE, if_pos rfl]; rfl
      have hl : ∀ {z}, l.up z = (node l.lt x l.rtr).up z := fun {z} => by rw [← el]
      rw [el] at b3
      have m1 : ∀ {z}, l.rtr.rt = some z → x < z ∧ z < p := fun {z} hz => ⟨b3.2.1 z (rt_mem hz), b1 z (by rw [el]; exact mem_node.mpr (.inr (.inr (rt_mem hz))))⟩
      unfold upR rot
      rw [if_pos g, if_pos e, hc, up_root]
      rcases Int.lt_trichotomy z x with z1 | z1 | z1
      · have n1 : ¬ l.rtr.rt = some z := fun q => by have := m1 q; omega
        have n2 : ¬ some x = some z := fun q => by have := Option.some.inj q; omega
        rw [up_nodeL z1, if_neg (show ¬ z = x by omega), if_neg (show ¬ z = p by omega), if_neg n1, up_nodeL (show z < p by omega), e, if_neg n2, hl, up_nodeL z1]
      · subst z1
        rw [if_pos rfl, up_root]
      · rw [up_nodeR z1, if_neg (show ¬ z = x by omega)]
        show (if some p = some z then some x else (node l.rtr p r).up z) = _
        rcases Int.lt_trichotomy z p with z2 | z2 | z2
        · have n2 : ¬ some x = some z := fun q => by have := Option.some.inj q; omega
          have n3 : ¬ some p = some z := fun q => by have := Option.some.inj q; omega
          rw [if_neg n3, up_nodeL z2, if_neg (show ¬ z = p by omega), up_nodeL z2, e, if_neg n2, hl, up_nodeR z1]
          by_cases hb : l.rtr.rt = some z
          · simp only [if_pos hb]
          · simp only [if_neg hb]
        · rw [if_pos (by rw [z2]), if_pos z2]
        · have n1 : ¬ l.rtr.rt = some z := fun q => by have := m1 q; omega
          have n3 : ¬ some p = some z := fun q => by have := Option.some.inj q; omega
          rw [if_neg n3, up_nodeR z2, if_neg (show ¬ z = p by omega), if_neg n1, up_nodeR z2]
    · have mp := (up_mem b.2.2.1 hu).1
      have ih := up_rot b.2.2.1 hu
      have hc : ch (node l k r) x p = ch l x p := by
        unfold ch
        rw [rc_nodeE, lc_nodeE, if_neg (show ¬ x = k by omega), if_neg (show ¬ x = k by omega), if_pos g, if_pos g]
      have hup : (node l k r).up p = if l.rt = some p then some k else l.up p := up_nodeL lp
      unfold rot
      rw [if_pos g, if_neg e]
      unfold upR
      rw [hc, hup]
      unfold upR at ih
      rcases Int.lt_trichotomy z k with z1 | z1 | z1
      · rw [up_nodeL z1, rt_rot b.2.2.1 hu, ih z, up_nodeL z1]
        by_cases er : l.rt = some p
        · have en := (up_rt b.2.2.1 mp).mpr er
          rw [if_pos en, er, if_pos rfl, en]
          by_cases z2 : z = x
          · rw [if_pos (by rw [z2]), if_pos z2]
          · rw [if_neg (fun q => z2 (Option.some.inj q).symm), if_neg z2, if_neg z2]
            by_cases z3 : z = p
            · rw [if_pos z3, if_pos z3]
            · rw [if_neg z3, if_neg z3, if_neg (fun q => z3 (Option.some.inj q).symm)]
        · have en : ¬ l.up p = none := fun q => er ((up_rt b.2.2.1 mp).mp q)
          rw [if_neg en, if_neg er]
          by_cases z2 : z = x
          · rw [if_pos z2, if_pos z2, if_neg (by rw [z2]; exact e)]
          · rw [if_neg z2, if_neg z2]
            by_cases z3 : z = p
            · rw [if_pos z3, if_pos z3, if_neg (by rw [z3]; exact er)]
            · rw [if_neg z3, if_neg z3]
              by_cases z4 : l.rt = some z
              · have : ¬ ch l x p = some z := fun q => by
                  have h1 := ch_up b.2.2.1 q
                  rw [(up_rt b.2.2.1 (rt_mem z4)).mpr z4] at h1; cases h1
                rw [if_pos z4, if_neg this, if_pos z4]
              · rw [if_neg z4, if_neg z4]
      · subst z1
        have n1 : ¬ ch l x p = some z := fun q => by
          have := b.1 z (up_in (ch_up b.2.2.1 q))
          omega
        rw [up_root, if_neg (show ¬ z = x by omega), if_neg (show ¬ z = p by omega), if_neg n1, up_root]
      · have n1 : ¬ ch l x p = some z := fun q => by
          have := b.1 z (up_in (ch_up b.2.2.1 q))
          omega
        rw [up_nodeR z1, if_neg (show ¬ z = x by omega), if_neg (show ¬ z = p by omega), if_neg n1, up_nodeR z1]
    · have el := rt_eta e
      obtain ⟨b1, b2, b4, b3⟩ := b
      have hc : ch (node l p r) x p = r.lt.rt := by
        unfold ch
        rw [if_neg (by omega), lc_nodeE, if_neg (by omega), if_neg (by omega)]
        rw [el, lc_nodeE, if_pos rfl]; rfl
      have hl : ∀ {z}, r.up z = (node r.lt x r.rtr).up z := fun {z} => by rw [← el]
      rw [el] at b3
      have m1 : ∀ {z}, r.lt.rt = some z → z < x ∧ p < z := fun {z} hz => ⟨b3.1 z (rt_mem hz), b2 z (by rw [el]; exact mem_node.mpr (.inr (.inl (rt_mem hz))))⟩
      unfold upR rot
      rw [if_neg (show ¬ x < p by omega), if_pos g, if_pos e, hc, up_root]
      rcases Int.lt_trichotomy z x with z1 | z1 | z1
      · rw [up_nodeL z1, if_neg (show ¬ z = x by omega)]
        show (if some p = some z then some x else (node l p r.lt).up z) = _
        rcases Int.lt_trichotomy z p with z2 | z2 | z2
        · have n1 : ¬ r.lt.rt = some z := fun q => by have := m1 q; omega
          have n3 : ¬ some p = some z := fun q => by have := Option.some.inj q; omega
          rw [if_neg n3, up_nodeL z2, if_neg (show ¬ z = p by omega), if_neg n1, up_nodeL z2]
        · rw [if_pos (by rw [z2]), if_pos z2]
        · have n2 : ¬ some x = some z := fun q => by have := Option.some.inj q; omega
          have n3 : ¬ some p = some z := fun q => by have := Option.some.inj q; omega
          rw [if_neg n3, up_nodeR z2, if_neg (show ¬ z = p by omega), up_nodeR z2, e, if_neg n2, hl, up_nodeL z1]
          by_cases hb : r.lt.rt = some z
          · simp only [if_pos hb]
          · simp only [if_neg hb]
      · subst z1
        rw [if_pos rfl, up_root]
      · have n1 : ¬ r.lt.rt = some z := fun q => by have := m1 q; omega
        have n2 : ¬ some x = some z := fun q => by have := Option.some.inj q; omega
        rw [up_nodeR z1, if_neg (show ¬ z = x by omega), if_neg (show ¬ z = p by omega), if_neg n1, up_nodeR (show p < z by omega), e, if_neg n2, hl, up_nodeR z1]
    · have mp := (up_mem b.2.2.2 hu).1
      have ih := up_rot b.2.2.2 hu
      have hc : ch (node l k r) x p = ch r x p := by
        unfold ch
        rw [rc_nodeE, lc_nodeE, if_neg (show ¬ x = k by omega), if_neg (show ¬ x = k by omega), if_neg (show ¬ x < k by omega), if_neg (show ¬ x < k by omega)]
      have hup : (node l k r).up p = if r.rt = some p then some k else r.up p := up_nodeR lp
      unfold rot
      rw [if_neg (show ¬ x < k by omega), if_pos g, if_neg e]
      unfold upR
      rw [hc, hup]
      unfold upR at ih
      rcases Int.lt_trichotomy z k with z1 | z1 | z1
      · have n1 : ¬ ch r x p = some z := fun q => by
          have := b.2.1 z (up_in (ch_up b.2.2.2 q))
          omega
        rw [up_nodeL z1, if_neg (show ¬ z = x by omega), if_neg (show ¬ z = p by omega), if_neg n1, up_nodeL z1]
      · subst z1
        have n1 : ¬ ch r x p = some z := fun q => by
          have := b.2.1 z (up_in (ch_up b.2.2.2 q))
          omega
        rw [up_root, if_neg (show ¬ z = x by omega), if_neg (show ¬ z = p by omega), if_neg n1, up_root]
      · rw [up_nodeR z1, rt_rot b.2.2.2 hu, ih z, up_nodeR z1]
        by_cases er : r.rt = some p
        · have en := (up_rt b.2.2.2 mp).mpr er
          rw [if_pos en, er, if_pos rfl, en]
          by_cases z2 : z = x
          · rw [if_pos (by rw [z2]), if_pos z2]
          · rw [if_neg (fun q => z2 (Option.some.inj q).symm), if_neg z2, if_neg z2]
            by_cases z3 : z = p
            · rw [if_pos z3, if_pos z3]
            · rw [if_neg z3, if_neg z3, if_neg (fun q => z3 (Option.some.inj q).symm)]
        · have en : ¬ r.up p = none := fun q => er ((up_rt b.2.2.2 mp).mp q)
          rw [if_neg en, if_neg er]
          by_cases z2 : z = x
          · rw [if_pos z2, if_pos z2, if_neg (by rw [z2]; exact e)]
          · rw [if_neg z2, if_neg z2]
            by_cases z3 : z = p
            · rw [if_pos z3, if_pos z3, if_neg (by rw [z3]; exact er)]
            · rw [if_neg z3, if_neg z3]
              by_cases z4 : r.rt = some z
              · have : ¬ ch r x p = some z := fun q => by
                  have h1 := ch_up b.2.2.2 q
                  rw [(up_rt b.2.2.2 (rt_mem z4)).mpr z4] at h1; cases h1
                rw [if_pos z4, if_neg this, if_pos z4]
              · rw [if_neg z4, if_neg z4]
/-! ### by mirror -/
theorem lt_mir {t : T} : t.mir.lt = t.rtr.mir := by cases t <;> rfl
theorem rtr_mir {t : T} : t.mir.rtr = t.lt.mir := by cases t <;> rfl
theorem rt_mir' {t : T} {x : Int} : t.mir.rt = some (-x) ↔ t.rt = some x := by
  rw [rt_mir]
  cases t.rt with
  | none => exact ⟨fun h => (by cases h), fun h => (by cases h)⟩
  | some y =>
    show some (-y) = some (-x) ↔ _
    constructor
    · intro h
      have := Option.some.inj h
      rw [show y = x by omega]
    · intro h
      rw [Option.some.inj h]
theorem mir_rot {x : Int} : ∀ {t : T}, (t.rot x).mir = t.mir.rot (-x)
  | leaf => rfl
  | node l k r => by
    show (if x < k then (if l.rt = some x then node l.lt x (node l.rtr k r) else node (l.rot x) k r) else if k < x then (if r.rt = some x then node (node l k r.lt) x r.rtr else node l k (r.rot x)) else node l k r).mir =
      if -x < -k then (if r.mir.rt = some (-x) then node r.mir.lt (-x) (node r.mir.rtr (-k) l.mir) else node (r.mir.rot (-x)) (-k) l.mir) else if -k < -x then (if l.mir.rt = some (-x) then node (node r.mir (-k) l.mir.lt) (-x) l.mir.rtr else node r.mir (-k) (l.mir.rot (-x))) else node r.mir (-k) l.mir
    rw [← mir_rot, ← mir_rot]
    simp only [rt_mir', lt_mir, rtr_mir]
    rcases Int.lt_trichotomy x k with g | g | g
    · rw [if_pos g, if_neg (show ¬ -x < -k by omega), if_pos (show -k < -x by omega)]
      split <;> rfl
    · rw [if_neg (show ¬ x < k by omega), if_neg (show ¬ k < x by omega), if_neg (show ¬ -x < -k by omega), if_neg (show ¬ -k < -x by omega)]; rfl
    · rw [if_neg (show ¬ x < k by omega), if_pos g, if_pos (show -x < -k by omega)]
      split <;> rfl
theorem up_mir {x : Int} : ∀ {t : T}, t.mir.up x = (t.up (-x)).map (fun y => -y)
  | leaf => rfl
  | node l k r => by
    have e1 : ∀ {s : T}, s.mir.rt = some x ↔ s.rt = some (-x) := fun {s} => by
      have := @rt_mir' s (-x)
      rwa [Int.neg_neg] at this
    show (if x < -k then (if r.mir.rt = some x then some (-k) else r.mir.up x) else if -k < x then (if l.mir.rt = some x then some (-k) else l.mir.up x) else none) = ((if -x < k then (if l.rt = some (-x) then some k else l.up (-x)) else if k < -x then (if r.rt = some (-x) then some k else r.up (-x)) else none) : Option Int).map _
    rw [up_mir, up_mir]
    simp only [e1]
    rcases Int.lt_trichotomy x (-k) with g | g | g
    · rw [if_pos g, if_neg (show ¬ -x < k by omega), if_pos (show k < -x by omega)]
      split <;> rfl
    · rw [if_neg (show ¬ x < -k by omega), if_neg (show ¬ -k < x by omega), if_neg (show ¬ -x < k by omega), if_neg (show ¬ k < -x by omega)]; rfl
    · rw [if_neg (show ¬ x < -k by omega), if_pos g, if_pos (show -x < k by omega)]
      split <;> rfl
theorem map_neg {o : Option Int} : (o.map fun y => -y).map (fun y => -y) = o := by
  cases o with
  | none => rfl
  | some y => show some (- -y) = _; rw [Int.neg_neg]
theorem rc_rot {x p : Int} {t : T} (b : t.bst) (h : t.up x = some p) (z : Int) : (t.rot x).rc z = rcR t x p z := by
  have ne := (up_mem b h).2.1
  have h1 : ((t.rot x).rc z) = ((t.rot x).mir.lc (-z)).map fun y => -y := by rw [lc_mir, Int.neg_neg, map_neg]
  have hu : t.mir.up (-x) = some (-p) := by rw [up_mir, Int.neg_neg, h]; rfl
  rw [h1, mir_rot, lc_rot (bst_mir b) hu]
  unfold lcR rcR
  have hup : ∀ w : Int, t.mir.up (-p) = some (-w) ↔ t.up p = some w := fun w => by
    rw [up_mir, Int.neg_neg]
    cases t.up p with
    | none => exact ⟨fun q => (by cases q), fun q => (by cases q)⟩
    | some y =>
      show some (-y) = some (-w) ↔ _
      constructor
      · intro q
        have := Option.some.inj q
        rw [show y = w by omega]
      · intro q
        rw [Option.some.inj q]
  rw [rc_mir, lc_mir, Int.neg_neg, Int.neg_neg]
  simp only [hup]
  have c1 : (-z = -p) = (z = p) := by apply propext; omega
  have c2 : (-z = -x) = (z = x) := by apply propext; omega
  have c3 : (-x < -z) = (z < x) := by apply propext; omega
  have c4 : (-x < -p) = ¬ (x < p) := by apply propext; omega
  simp only [c1, c2, c3, c4]
  by_cases g : x < p
  · rw [if_neg (not_not_intro g), if_pos g]
    split
    · show some (- -p) = _; rw [Int.neg_neg]
    · split
      · show some (- -x) = _; rw [Int.neg_neg]
      · rw [map_neg]
  · rw [if_pos g, if_neg g]
    split
    · rw [map_neg]
    · split
      · show some (- -x) = _; rw [Int.neg_neg]
      · rw [map_neg]
/-! ### rotations lead to the touch -/
theorem root_restr {x : Int} {l : T} (e : l.rt = some x) : l.restr none (some x) = l.lt.restr none (some x) ∧ l.restr (some x) none = l.rtr.restr (some x) none := by
  cases l with
  | leaf => cases e
  | node a y b =>
    cases e
    constructor
    · show (if decide (x < x) = false then a.restr none (some x) else _) = _
      rw [if_pos (decide_eq_false (Int.lt_irrefl _))]; rfl
    · show (if decide (x < x) = false then b.restr (some x) none else _) = _
      rw [if_pos (decide_eq_false (Int.lt_irrefl _))]; rfl
theorem rot_restr {x : Int} : ∀ {t : T}, t.bst → (t.rot x).restr none (some x) = t.restr none (some x) ∧ (t.rot x).restr (some x) none = t.restr (some x) none
  | leaf, _ => ⟨rfl, rfl⟩
  | node l k r, b => by
    have e1 : ∀ {l r : T} {k : Int}, (node l k r).restr none (some x) = if decide (k < x) = false then l.restr none (some x) else node (l.restr none (some x)) k (r.restr none (some x)) := rfl
    have e2 : ∀ {l r : T} {k : Int}, (node l k r).restr (some x) none = if decide (x < k) = false then r.restr (some x) none else node (l.restr (some x) none) k (r.restr (some x) none) := rfl
    rcases Int.lt_trichotomy x k with g | g | g
    · unfold rot
      rw [if_pos g]
      by_cases e : l.rt = some x
      · obtain ⟨h1, h2⟩ := root_restr e
        rw [if_pos e]
        simp only [e1, e2, h1, h2, decide_eq_false (Int.lt_irrefl x), decide_eq_false (show ¬ k < x by omega), decide_eq_true g, if_true, if_neg (show ¬ true = false from fun z => Bool.noConfusion z), and_self]
      · obtain ⟨i1, i2⟩ := rot_restr (x := x) b.2.2.1
        rw [if_neg e, e1, e1, e2, e2, i1, i2]
        exact ⟨rfl, rfl⟩
    · subst g
      unfold rot
      rw [if_neg (Int.lt_irrefl _), if_neg (Int.lt_irrefl _)]
      exact ⟨rfl, rfl⟩
    · unfold rot
      rw [if_neg (show ¬ x < k by omega), if_pos g]
      by_cases e : r.rt = some x
      · obtain ⟨h1, h2⟩ := root_restr e
        rw [if_pos e]
        simp only [e1, e2, h1, h2, decide_eq_false (Int.lt_irrefl x), decide_eq_false (show ¬ x < k by omega), decide_eq_true g, if_true, if_neg (show ¬ true = false from fun z => Bool.noConfusion z), and_self]
      · obtain ⟨i1, i2⟩ := rot_restr (x := x) b.2.2.2
        rw [if_neg e, e1, e1, e2, e2, i1, i2]
        exact ⟨rfl, rfl⟩
theorem rot_tch {t : T} {x : Int} (b : t.bst) : (t.rot x).tch x = t.tch x := by
  unfold T.tch
  rw [(rot_restr b).1, (rot_restr b).2]
theorem tch_root {t : T} {x : Int} (b : t.bst) (h : t.rt = some x) : t.tch x = t := by
  refine tree_ext (tch_bst b) b (fun z => tch_mem' b (rt_mem h)) fun y z _ hz => ?_
  rw [tch_path b]
  cases t with
  | leaf => cases h
  | node l k r =>
    cases h
    split
    · next hb =>
      have hbt : (y ≤ x ∧ x ≤ z) ∨ (z ≤ x ∧ x ≤ y) := by
        have := of_decide_eq_true hb
        omega
      constructor
      · intro e
        subst e
        unfold path
        split
        · exact List.mem_singleton.mpr rfl
        · split <;> exact List.mem_cons_self
      · intro hy
        unfold path at hy
        split at hy
        · exact (List.mem_singleton.mp hy).symm
        · split at hy
          · rcases List.mem_cons.mp hy with e | e
            · exact e.symm
            · have := b.1 y (path_sub e); omega
          · rcases List.mem_cons.mp hy with e | e
            · exact e.symm
            · have := b.2.1 y (path_sub e); omega
    · exact Iff.rfl
theorem rot_dep {x p : Int} : ∀ {t : T}, t.bst → t.up x = some p → ((t.rot x).path x).length + 1 = (t.path x).length
  | leaf, _, h => by cases h
  | node l k r, b, h => by
    rcases up_cases b h with ⟨g, e, rfl⟩ | ⟨g, e, hu, lp⟩ | ⟨g, e, rfl⟩ | ⟨g, e, hu, lp⟩
    · unfold rot
      rw [if_pos g, if_pos e, path_k, path_l b (rt_mem e), path_rt e]; rfl
    · unfold rot
      rw [if_pos g, if_neg e, path_l b (up_in hu)]
      show (if x = k then [k] else if x < k then k :: (l.rot x).path x else k :: r.path x : List Int).length + 1 = _
      rw [if_neg (by omega), if_pos g, List.length_cons, List.length_cons, rot_dep b.2.2.1 hu]
    · unfold rot
      rw [if_neg (show ¬ x < p by omega), if_pos g, if_pos e, path_k, path_r b (rt_mem e), path_rt e]; rfl
    · unfold rot
      rw [if_neg (show ¬ x < k by omega), if_pos g, if_neg e, path_r b (up_in hu)]
      show (if x = k then [k] else if x < k then k :: l.path x else k :: (r.rot x).path x : List Int).length + 1 = _
      rw [if_neg (by omega), if_neg (by omega), List.length_cons, List.length_cons, rot_dep b.2.2.2 hu]
/-! ### nodes in dicts, rotated -/
def setO (f : Int → Option Int) (a : Int) (o : Option Int) : Int → Option Int := fun z => if z = a then o else f z
def upO (uf : Int → Option Int) (a : Int) : Option Int → Int → Option Int
  | none => uf
  | some k => setO uf k (some a)
theorem Mp.set {kvs : List (Key × V)} {f : Int → Option Int} {n : Nat} (h : Mp kvs f n) (x y : Int) : Mp (putK kvs (Sum.inl x) (.int y)) (setO f x (some y)) (n + 1) := h.put x y
theorem Mp.cut {kvs : List (Key × V)} {f : Int → Option Int} {n : Nat} (h : Mp kvs f n) (x : Int) : Mp (dropK kvs (Sum.inl x)) (setO f x none) (n + 1) := (h.pop x).eq (fun _ => rfl) (Nat.le_succ _)
theorem Mp.no {kvs : List (Key × V)} {f : Int → Option Int} {n : Nat} (h : Mp kvs f n) {x : Int} (e : f x = none) : Mp kvs (setO f x none) (n + 1) := h.eq (fun z => by
  unfold setO
  split
  · next q => rw [q]; exact e
  · rfl) (Nat.le_succ _)
theorem Mp.more {kvs : List (Key × V)} {f : Int → Option Int} {n : Nat} (h : Mp kvs f n) : Mp kvs f (n + 1) := h.eq (fun _ => rfl) (Nat.le_succ _)
theorem Nod.tight {H : Hp} {m L R U : Addr} {t : T} {n : Nat} (b : t.bst) (h : TrAt H m L R U t n) : TrAt H m L R U t t.pre.length := by
  obtain ⟨lk, h1, h2⟩ := h.l
  obtain ⟨rk, h3, h4⟩ := h.r
  obtain ⟨uk, h5, h6⟩ := h.u
  have k1 : ∀ x, t.lc x ≠ none → x ∈ t.pre := fun x hx => Classical.byContradiction fun q => hx (lc_out q)
  have k2 : ∀ x, t.rc x ≠ none → x ∈ t.pre := fun x hx => Classical.byContradiction fun q => hx (rc_out q)
  have k3 : ∀ x, t.up x ≠ none → x ∈ t.pre := fun x hx => Classical.byContradiction fun q => hx (up_out q)
  exact ⟨h.hm, ⟨lk, h1, h2.small k1⟩, ⟨rk, h3, h4.small k2⟩, ⟨uk, h5, h6.small k3⟩, h.mL, h.mR, h.mU, h.LR, h.LU, h.RU⟩
def Fr (m L R U : Addr) (H H' : Hp) : Prop := ∀ b, b ≠ m → b ≠ L → b ≠ R → b ≠ U → H' b = H b
theorem Fr.trans {m L R U : Addr} {H H1 H2 : Hp} (a : Fr m L R U H H1) (b : Fr m L R U H1 H2) : Fr m L R U H H2 := fun c c1 c2 c3 c4 => by rw [b c c1 c2 c3 c4, a c c1 c2 c3 c4]
def spHang : Sp := fun vs H Q _ => ∃ (m : Addr) (bl : Bool) (ab : Int) (key : Option Int) (L R U : Addr) (rt : Option Int) (lf rf uf : Int → Option Int) (n : Nat), vs = [.ref m, .str (sideS bl), .int ab, oV key] ∧ Nod H m L R U rt lf rf uf n ∧ n ≤ 1000 ∧
  ∀ H', Nod H' m L R U rt (if bl = true then setO lf ab key else lf) (if bl = true then rf else setO rf ab key) (upO uf ab key) (n + 1) → Fr m L R U H H' → Q .non H'
def spRotate : Sp := fun vs H Q _ => ∃ (m : Addr) (x p : Int) (L R U : Addr) (t : T) (n : Nat), vs = [.ref m, .int x] ∧ TrAt H m L R U t n ∧ t.bst ∧ t.up x = some p ∧ n ≤ 900 ∧
  ∀ H', TrAt H' m L R U (t.rot x) t.pre.length → Fr m L R U H H' → Q .non H'
def spTouchN : Sp := fun vs H Q _ => ∃ (m : Addr) (x : Int) (L R U : Addr) (t : T) (n : Nat), vs = [.ref m, .int x] ∧ TrAt H m L R U t n ∧ t.bst ∧ x ∈ t.pre ∧ t.pre.length ≤ 900 ∧ n ≤ 900 ∧
  ∀ H', TrAt H' m L R U (t.tch x) t.pre.length → Fr m L R U H H' → Q (.int (t.dep x : Int)) H'
theorem getD_oV {o : Option Int} : ((o.map V.int).getD .non) = oV o := by cases o <;> rfl
theorem Nod.eq {H : Hp} {m L R U : Addr} {rt rt' : Option Int} {lf rf uf lf' rf' uf' : Int → Option Int} {n : Nat} (h : Nod H m L R U rt lf rf uf n) (e0 : rt = rt') (e1 : ∀ z, lf z = lf' z) (e2 : ∀ z, rf z = rf' z) (e3 : ∀ z, uf z = uf' z) : Nod H m L R U rt' lf' rf' uf' n := by
  rw [← e0, ← funext e1, ← funext e2, ← funext e3]
  exact h
end TT
namespace TT
open PySem PySem.Spec PyProof.Rows L2
open T
/-! ### what the dicts are behind a rotation -/
section
variable {t : T} {x p : Int}
/-- left children, right children, parents: behind the first two hangs -/
def lf2 (t : T) (x p : Int) : Int → Option Int := if (!decide (x < p)) = true then setO (if decide (x < p) = true then setO t.lc p (t.rc x) else t.lc) x (some p) else (if decide (x < p) = true then setO t.lc p (t.rc x) else t.lc)
def rf2 (t : T) (x p : Int) : Int → Option Int := if (!decide (x < p)) = true then (if decide (x < p) = true then t.rc else setO t.rc p (t.lc x)) else setO (if decide (x < p) = true then t.rc else setO t.rc p (t.lc x)) x (some p)
def uf2 (t : T) (x p : Int) : Int → Option Int := upO (upO t.up p (ch t x p)) x (some p)
theorem lf2_at (z : Int) : lf2 t x p z = if x < p then (if z = p then t.rc x else t.lc z) else (if z = x then some p else t.lc z) := by
  unfold lf2
  by_cases lt : x < p
  · rw [decide_eq_true lt, if_pos lt]; rfl
  · rw [decide_eq_false lt, if_neg lt]; rfl
theorem rf2_at (z : Int) : rf2 t x p z = if x < p then (if z = x then some p else t.rc z) else (if z = p then t.lc x else t.rc z) := by
  unfold rf2
  by_cases lt : x < p
  · rw [decide_eq_true lt, if_pos lt]; rfl
  · rw [decide_eq_false lt, if_neg lt]; rfl
theorem uf2_at (z : Int) : uf2 t x p z = if z = p then some x else if ch t x p = some z then some p else t.up z := by
  show (if z = p then some x else upO t.up p (ch t x p) z) = _
  split
  · rfl
  · cases ch t x p with
    | none => rw [if_neg (fun q => by cases q)]; rfl
    | some q =>
      show (if z = q then some p else t.up z) = _
      by_cases e : z = q
      · rw [if_pos e, if_pos (by rw [e])]
      · rw [if_neg e, if_neg (fun h => e (Option.some.inj h).symm)]
theorem up_far {g : Int} (b : t.bst) (hp : t.up x = some p) (hg : t.up p = some g) : g ≠ x ∧ g ≠ p := by
  have h1 := up_mem b hp
  have h2 := up_mem b hg
  refine ⟨fun e => ?_, fun e => h2.2.1 e.symm⟩
  subst e
  have l1 := congrArg List.length h1.2.2
  have l2 := congrArg List.length h2.2.2
  rw [List.length_append] at l1 l2
  simp only [List.length_cons, List.length_nil] at l1 l2
  omega
theorem lf_none (b : t.bst) (hp : t.up x = some p) (hg : t.up p = none) (z : Int) : lf2 t x p z = (t.rot x).lc z := by
  have n : ¬ ((none : Option Int) = some z ∧ x < z) := fun q => by cases q.1
  rw [lf2_at, lc_rot b hp]
  unfold lcR
  simp only [hg, if_neg n]
theorem rf_none (b : t.bst) (hp : t.up x = some p) (hg : t.up p = none) (z : Int) : rf2 t x p z = (t.rot x).rc z := by
  have n : ¬ ((none : Option Int) = some z ∧ z < x) := fun q => by cases q.1
  rw [rf2_at, rc_rot b hp]
  unfold rcR
  simp only [hg, if_neg n]
theorem uf_none (b : t.bst) (hp : t.up x = some p) (hg : t.up p = none) (z : Int) : (if z = x then none else uf2 t x p z) = (t.rot x).up z := by
  rw [uf2_at, up_rot b hp]
  unfold upR
  rw [hg]
theorem uf2_x (b : t.bst) (hp : t.up x = some p) : uf2 t x p x = some p := by
  rw [uf2_at, if_neg (up_mem b hp).2.1, if_neg (fun q => ?_), hp]
  have := ch_up b q
  rw [hp] at this
  exact (up_mem b hp).2.1 (Option.some.inj this).symm
theorem lf_some {g : Int} (b : t.bst) (hp : t.up x = some p) (hg : t.up p = some g) (z : Int) : (if decide (x < g) = true then setO (lf2 t x p) g (some x) else lf2 t x p) z = (t.rot x).lc z := by
  obtain ⟨n1, n2⟩ := up_far b hp hg
  rw [lc_rot b hp]
  unfold lcR
  rw [hg]
  by_cases lt : x < g
  · rw [if_pos (decide_eq_true lt)]
    show (if z = g then some x else lf2 t x p z) = _
    rw [lf2_at]
    by_cases e : z = g
    · subst e
      rw [if_pos rfl]
      simp only [if_neg n1, if_neg n2, ite_self, true_and, if_pos lt]
    · have n : ¬ (some g = some z ∧ x < z) := fun q => e (Option.some.inj q.1).symm
      simp only [if_neg e, if_neg n]
  · have n : ¬ (some g = some z ∧ x < z) := fun q => by
      have := Option.some.inj q.1
      omega
    rw [if_neg (by simp [lt]), lf2_at]
    simp only [if_neg n]
theorem rf_some {g : Int} (b : t.bst) (hp : t.up x = some p) (hg : t.up p = some g) (z : Int) : (if decide (x < g) = true then rf2 t x p else setO (rf2 t x p) g (some x)) z = (t.rot x).rc z := by
  obtain ⟨n1, n2⟩ := up_far b hp hg
  rw [rc_rot b hp]
  unfold rcR
  rw [hg]
  by_cases lt : x < g
  · have n : ¬ (some g = some z ∧ z < x) := fun q => by
      have := Option.some.inj q.1
      omega
    rw [if_pos (decide_eq_true lt), rf2_at]
    simp only [if_neg n]
  · rw [if_neg (by simp [lt])]
    show (if z = g then some x else rf2 t x p z) = _
    rw [rf2_at]
    by_cases e : z = g
    · subst e
      rw [if_pos rfl]
      simp only [if_neg n1, if_neg n2, ite_self, true_and, if_pos (show z < x by omega)]
    · have n : ¬ (some g = some z ∧ z < x) := fun q => e (Option.some.inj q.1).symm
      simp only [if_neg e, if_neg n]
theorem uf_some {g : Int} (b : t.bst) (hp : t.up x = some p) (hg : t.up p = some g) (z : Int) : upO (uf2 t x p) g (some x) z = (t.rot x).up z := by
  show (if z = x then some g else uf2 t x p z) = _
  rw [uf2_at, up_rot b hp]
  unfold upR
  rw [hg]
end
end TT
namespace TT
open PySem PySem.Spec PyProof.Rows L2
/-! ### except clauses that name a tuple of classes -/
theorem flying_push {B h h' : Heap} {l : List Env} {e : Addr} {Z : Obj → Prop} (fl : HandSPX.FlyingZ B l e Z h) (k : ∀ b o, h.get? b = some o → h'.get? b = some o) : HandSPX.FlyingZ B l e Z h' := by
  obtain ⟨a1, a2, a3, oe, vs, T, oT, ts, b1, b2, b3, b4, b5, b6, b7, b8, b9⟩ := fl
  exact ⟨fun b o x => k b o (a1 b o x), a2, a3.of_keeps fun b o x _ => ⟨o, k b o x, rfl⟩, oe, vs, T, oT, ts, k _ _ b1, b2, b3, b4, b5, b6, k _ _ b7, b8, b9⟩
/-- what the clause «except (x1, x2) as n» wishes: slot i is n's; the class is one of the two -/
def wTwo (K : PySem.W.Frag) (c1 c2 : Value) (i : Nat) (ts : Addr → Value → Option Addr → TS) (D : Ends) : WX := fun cls d σ H => PySem.W.exmAny K cls [c1, c2] = some true ∧
  ∀ a, H a = none → ts a cls d { nx := fun σ' H' => D.nx (σ'.set i none) H', rt := D.rt, bk := fun σ' H' => D.bk (σ'.set i none) H', ct := fun σ' H' => D.ct (σ'.set i none) H' } (σ.set i (some (.ref a))) H
/-- the same of «except (x1, x2, x3):» -/
def wThree (K : PySem.W.Frag) (c1 c2 c3 : Value) (ts : Addr → Value → Option Addr → TS) (D : Ends) : WX := fun cls d σ H => PySem.W.exmAny K cls [c1, c2, c3] = some true ∧ ∀ a, H a = none → ts a cls d D σ H
section
variable {X : Cx} {x1 x2 x3 n : Str} {c1 c2 c3 : Value} {i : Nat} {body suite : List Stmt} {b₀ : Stmt} {q1 q2 q3 qt pos' pos : Pos} {kk : Nat} {more : List ExceptHandler} {tb : WX → TS} {ts : Addr → Value → Option Addr → TS}
theorem ps_try_two (hs : X.stack = X.env :: X.outer) (hf : X.env.frame = some X.env.locals) (hN : X.N.Nodup) (hi : X.N[i]? = some n) (hln : X.env.kindOf n = some .local)
    (g1 : Gl X x1) (m1 : X.mg x1 = some c1) (g2 : Gl X x2) (m2 : X.mg x2 = some c2) (d1 : (x1 == ("__debug__" : Str)) = false) (d2 : (x2 == ("__debug__" : Str)) = false)
    (hb : ∀ (W : WX) (pn : List (Addr × Obj)) (xe : Value → Shared → Prop), Takes (X.tr pn xe) W → PassesOwn (model X.prog X.w) X.A X.env xe → PSs (X.tr pn xe) body (tb W))
    (hsu : ∀ (a : Addr) (oe : Obj) (cls : Value) (d : Option Addr) (pn : List (Addr × Obj)), Zc cls d oe → (∃ vs, oe.data = .fields vs) → PSs (X.suite a ((a, oe) :: pn)) (b₀ :: suite) (ts a cls d)) :
    PS X (.Try body (.ExceptHandler (some (.Tuple [.Name x1 q1, .Name x2 q2] kk qt)) (some n) (b₀ :: suite) pos' :: more) [] [] pos) (fun D σ H => tb (wTwo X.K c1 c2 i ts D) D σ H) := by
  refine ⟨fun pins s σ H D I hw => ?_⟩
  have ok := I.ok
  have frames : X.A.frames = some (X.env :: X.outer) := by rw [ok.frames, hs]
  refine wpAny_Try_except (wpAny_mono ((hb (wTwo X.K c1 c2 i ts D) (X.pn ++ pins) _ (fun u s' air => ?_) PassesOwn.looking).run [] s σ H D (I.toTry _) hw) (fun fl s1 got => ?_) (fun _ _ z => z))
  · obtain ⟨a, B, sI, pins', σ', H', cls, d, rfl, JT, nb, up, sky, na, os, ag, hx, hgo⟩ := air
    have J : Inv X pins σ' H' sI := JT.ofTry ok
    have sky2 : Sky B (X.env :: X.outer) a (Zc cls d) X.env.locals s'.heap := by rw [← hs]; exact sky
    refine Sky.land Zc.steady frames hf sky2 fun h3 fl3 up3 => ?_
    have J3 : Inv X pins σ' H' { s' with heap := h3 } := J.landed nb fl3.1 (up.trans up3) os ag
    obtain ⟨oe, vs, at3, z3, dat3⟩ := fl3.there
    have away : a ∉ frs (X.env :: X.outer) := fun mem => by
      obtain ⟨_, o', e', nf⟩ := fl3.2.2.1.mem mem
      rw [at3] at e'
      cases e'
      exact nf _ dat3
    have nL : a ≠ X.env.locals := fun z => away (List.mem_filterMap.mpr ⟨X.env, List.mem_cons_self, by rw [hf, z]⟩)
    have nF : a ∉ X.fs := fun mem => by
      obtain ⟨e, he, q⟩ := List.mem_filterMap.mp mem
      exact away (List.mem_filterMap.mpr ⟨e, List.mem_cons_of_mem _ he, q⟩)
    have S3 := J3.suite at3 dat3 na nL nF
    refine wpAny_handleBy_cons (codeAny_handlers_test ?_) (by intro q; cases q)
    refine wpAny_Tuple_spliced (Calls.spliced_cons (ld_glob (X := X.suite a ((a, oe) :: (X.pn ++ pins))) S3 g1 m1 (Calls.spliced_cons (ld_glob (X := X.suite a ((a, oe) :: (X.pn ++ pins))) S3 g2 m2 (Calls.spliced_nil ⟨by show 2 ≤ sizeLine; decide, ?_⟩) d2)) d1))
    have kp : ∀ b o, h3.get? b = some o → (h3.push { cls := .type "tuple", data := .seq [c1, c2].toArray }).get? b = some o := fun b o e => Heap.get?_push_of_some _ e
    have look : PySem.W.Looks (model X.prog X.w) (h3.push { cls := .type "tuple", data := .seq [c1, c2].toArray }) (typeOf (.ref a)) cls := fun A Q E s k q => wpAny_typeOf_ref (k _ _ (kp _ _ at3)) (by rw [z3.1]; exact q)
    have match2 := PySem.W.exm_tup2 (M := model X.prog X.w) (J3.kIn.keeps kp) look (Heap.get?_push_size _ rfl) hx
    refine match2.here (codeAny_handlers_suite_as (HandSPX.lands_againZ (flying_push fl3 kp) fun h4 fl4 up4 => ?_))
    have J4 : Inv X pins σ' H' { s' with heap := h4 } := J.landed nb fl4.1 (((up.trans up3).trans (.of_keeps kp)).trans up4) os ag
    obtain ⟨oe4, vs4, at4, z4, dat4⟩ := fl4.there
    refine store_ok (X := X.suite a ((a, oe4) :: (X.pn ++ pins))) (v := .ref a) (J4.suite at4 dat4 na nL nF) hN hi (.inl hln) rfl (fun s5 S5 => ?_) (.inr hln)
    refine wpAny_mono ((hsu a oe4 cls d (X.pn ++ pins) z4 ⟨_, dat4⟩).run [] s5 _ H' _ S5 (hgo a na)) (fun fl s6 sp => ?_) (fun _ _ z => False.elim z)
    have close : ∀ {σ6 : L2.St} {H6 : Hp} {R : Shared → Prop}, Inv (X.suite a ((a, oe4) :: (X.pn ++ pins))) [] σ6 H6 s6 → (∀ s7, Inv X pins (σ6.set i none) H6 s7 → R s7) → wpAny (model X.prog X.w) X.A (do bindName X.env n .none; unbindBehindTheSuite X.env n pos') (fun _ s7 => R s7) X.xe s6 :=
      fun S6 hq => gone_ok (S6.unsuite ok) hN hi hln hq
    cases fl with
    | next => obtain ⟨σ6, H6, S6, q6⟩ := sp; exact close S6 fun s7 J7 => ⟨_, _, J7, q6⟩
    | brk => obtain ⟨σ6, H6, S6, q6⟩ := sp; exact close S6 fun s7 J7 => ⟨_, _, J7, q6⟩
    | cont => obtain ⟨σ6, H6, S6, q6⟩ := sp; exact close S6 fun s7 J7 => ⟨_, _, J7, q6⟩
    | ret u => obtain ⟨v6, σ6, H6, S6, r6, q6⟩ := sp; exact close S6 fun s7 J7 => ⟨_, _, _, J7, r6, q6⟩
  · cases fl with
    | next => obtain ⟨σ', H', JT, q⟩ := got; exact wpAny_execs_nil ⟨σ', H', JT.ofTry ok, q⟩
    | brk => obtain ⟨σ', H', JT, q⟩ := got; exact ⟨σ', H', JT.ofTry ok, q⟩
    | cont => obtain ⟨σ', H', JT, q⟩ := got; exact ⟨σ', H', JT.ofTry ok, q⟩
    | ret u => obtain ⟨v, σ', H', JT, r, q⟩ := got; exact ⟨v, σ', H', JT.ofTry ok, r, q⟩
end
/-! ### a function read off a class, called: C.f(e, ..) -/
structure ClsFn (K : PySem.W.Frag) (C : Addr) (nm : Str) (f : Addr) : Prop where
  ga : PySem.W.specialIn K (.ref C) "__getattribute__" = some (some (.builtin "type.__getattribute__"))
  rd : PySem.W.readsIn K C (.type "type") = true
  fc : PySem.W.findCls K (.ref C) (.type "type") nm = some (.val (.ref f))
  hd : PySem.W.handedIn (.ref f) = true
section
variable {X : Cx} {CX : CXT} {k : Nat} {C f : Addr} {fd : FuncData} {ps : List Str} {sp : Sp} {E : XK} {x nm : Str} {p1 p2 pos : Pos} {e : Expr} {es : List Expr} {t : TA}
theorem pe_clsfn {pl : Sem Bool} (g : Gl X x) (m : X.mg x = some (.ref C)) (c : ClsFn X.K C nm f) (F : FnOk X.prog X.w X.K X.mg X.base CX k f fd ps sp) (hr : Room k X.A) (hk : PySem.W.keepIn X.K (.ref f) = true) (hb : Binds X.K fd ps []) (hx : Passes CX X E) (ha : PA X (e :: es) t)
    (hc : eval (.Call (.Attribute (.Name x p1) nm p2) (e :: es) [] pos) X.env = (do
      let ov ← eval (.Name x p1) X.env
      standAt p2.atName
      let (f, first) ← holding [ov] (getMethod ov nm pl)
      callWith pos f first (backTo pos (starEach (e :: es) X.env)) (backToKw pos (keywordEach [] X.env))) := by rfl)
    (hdb : (x == ("__debug__" : Str)) = false := by decide) (he : starEach (e :: es) X.env = (false, eval e X.env) :: starEach es X.env := by rfl) (hpl : (backTo pos (starEach es X.env)).any (·.1) = false := by rfl) :
    PE X (.Call (.Attribute (.Name x p1) nm p2) (e :: es) [] pos) (tCall sp [] E t) := by
  refine ⟨fun pins s σ H Q I hq => PySem.W.methodCall_KW (ld_glob I g m ?_ hdb) hc⟩
  refine PySem.W.method_cls I.kIn c.ga (PySem.W.cls_value I.kIn c.rd c.fc c.hd ?_)
  refine PySem.W.callWith_K (h₀ := X.base) I.ok.mod.kin hk (thn (ha.run pos pins _ σ H _ (I.tok _) hq) fun us s2 ⟨vs, H2, I2, r2, q2⟩ => ⟨I2.kIn, ?_⟩) he hpl
  exact run_fn F hr hb .nil hx I2 r2 q2
end
end TT
namespace TT
open PySem PySem.Spec PyProof.Rows L2 HotX
/-! ### a pair unpacked while an exception is handled -/
section
variable {prog : Program} {w : World} {A : Around} {E : Value → Shared → Prop} {s : Shared}
theorem nxtup_hot {it t x1 : Addr} {i : Nat} {vs : Array Value} {Q : Option Value → Shared → Prop} (hot : HotAt A x1 s.heap) (a1 : s.heap.IsTupleIter it t i) (a2 : s.heap.IsTuple t vs) (a3 : vs[i]? = none) (ne : x1 ≠ it)
    (q : ∀ h', Heap.ExtBut it s.heap h' → Q none { s with heap := h' }) : wpAny (model prog w) A (pyNext (.ref it)) Q E s := by
  obtain ⟨oi, gi, ci, di⟩ := id a1
  obtain ⟨ot, gt, _, nt, dt⟩ := a2
  obtain ⟨hh, ox, vx, gx, dx, cx⟩ := hot
  unfold pyNext
  refine wpAny_bind (wpAny_attempt (wpAny_callSpecial?_slot (name := Str.ofString "__next__") a1.typeIs F.slot_tuple_iterator_next (wpAny_call_entry F.slot_tuple_iterator_next a1.typeIs F.entry_tuple_iterator_next ?_ (F.args_tuple_iterator_next_1 _))))
  show wpAny (model prog w) _ (field (.ref it) 0 >>= _) _ _ s
  refine wpAny_bind (wpAny_field gi di (x := Value.ref t) rfl ?_)
  show wpAny (model prog w) _ (if (Value.ref t == Value.none) = true then _ else _) _ _ s
  rw [if_neg (fun z : (Value.ref t == Value.none) = true => Bool.false_ne_true z)]
  show wpAny (model prog w) _ (field (.ref it) 1 >>= _) _ _ s
  refine wpAny_bind (wpAny_field gi di (x := Value.int i 0) rfl ?_)
  show wpAny (model prog w) _ (seqItems? (.ref t) >>= _) _ _ s
  refine wpAny_bind (wpAny_seqItems gt dt ?_)
  simp only [Int.toNat_natCast, a3]
  refine wpAny_bind (wpAny_rule (wpAny_bind (wpAny_setField gi di (by simp) ?_)))
  have gx2 : (s.heap.update it (Obj.mapFields (·.setIfInBounds 0 Value.none))).get? x1 = some ox := (Heap.get?_update_other _ _ (Ne.symm ne)).trans gx
  show wpAny (model prog w) _ (newExc (.type "StopIteration") [] >>= _) _ _ _
  refine wpAny_bind ?_
  simp only [newExc, newTuple]
  refine wpAny_bind (wpAny_newObj_type ?_ (by size_fits))
  refine wpAny_bind (m := firstArgMember _ _) (wpAny_of_eq (a := Value.none) (by first | (simp only [firstArgMember]; rfl) | rfl) ?_)
  refine wpAny_newObj_type ?_ (by size_fits)
  refine raiseNew_hot ⟨hh, ox, vx, Heap.get?_push_of_some _ (Heap.get?_push_of_some _ gx2), dx, cx⟩ (Nat.ne_of_lt (Heap.lt_size (Heap.get?_push_of_some _ gx2))) (Heap.get?_push_size _ rfl) rfl (by first | (simp; done) | (simp; omega)) ?_
  refine wpAny_bind (wpAny_isInstance (T := "StopIteration") (b := true) ⟨_, Heap.get?_update_self _ (Heap.get?_push_size _ rfl) rfl, rfl⟩ isSubtype_stop ?_)
  refine wpAny_pure (q _ fun b o nb e => ?_)
  have e2 := (Heap.get?_update_other s.heap (Obj.mapFields (·.setIfInBounds 0 Value.none)) (Ne.symm nb)).trans e
  rw [Heap.get?_update_other _ _ (Nat.ne_of_gt (Heap.lt_size (Heap.get?_push_of_some _ e2)))]
  exact Heap.get?_push_of_some _ (Heap.get?_push_of_some _ e2)
theorem unpack_hot {t x1 : Addr} {vs : Array Value} {Q : List Value → Shared → Prop} (hot : HotAt A x1 s.heap) (a2 : s.heap.IsTuple t vs) (q : ∀ h', Heap.ExtBut s.heap.objs.size s.heap h' → Q vs.toList { s with heap := h' }) :
    wpAny (model prog w) A (unpackItems (.ref t) vs.size none) Q E s := by
  have nt : t ≠ s.heap.objs.size := by
    obtain ⟨o, ho, _⟩ := a2
    exact Nat.ne_of_lt (Heap.lt_size ho)
  obtain ⟨hh, ox, vx, gx, dx, cx⟩ := hot
  have nx : x1 ≠ s.heap.objs.size := Nat.ne_of_lt (Heap.lt_size gx)
  unfold unpackItems notIterableAtAll
  refine wpAny_bind (wpAny_bind (wpAny_specialOf a2.typeIs F.slot_tuple_iter.lookup (wpAny_pure ?_)))
  simp only [Bool.false_eq_true, if_false]
  refine wpAny_bind (wpAny_holding (wpAny_pyIter_tuple a2 (wpAny_bind (wpAny_holding (wpAny_draw_tuple nt vs.size 0 _ _ ⟨_, Heap.get?_push_size _ rfl, rfl, rfl⟩ (a2.push _) (by omega) fun h1 b1 b2 => ?_)))))
  have whole : List.take vs.size (List.drop 0 vs.toList) = vs.toList := by rw [List.drop_zero]; exact List.take_of_length_le (by simp)
  rw [whole, if_neg (by simp)]
  have ex : h1.get? x1 = some ox := b2.extBut x1 ox nx (Heap.get?_push_of_some _ gx)
  refine wpAny_bind (wpAny_holding (nxtup_hot ⟨hh, ox, vx, ex, dx, cx⟩ b1 ((a2.push _).extBut b2.extBut nt) (by simp) nx fun h2 b3 => ?_))
  simp only [Option.isSome_none, Bool.false_eq_true, if_false]
  exact wpAny_pure (q h2 fun b o nb e => b3 b o nb (b2.extBut b o nb (Heap.get?_push_of_some _ e)))
end
section
variable {X : Cx} {pos : Pos}
theorem ps_par_hot {i j : Nat} {x y : Str} {a b : Expr} {ta : TA} {px py pt : Pos} {kt k2 pt2} (hc : L2H.HotC X) (hN : X.N.Nodup) (hi : X.N[i]? = some x) (hj : X.N[j]? = some y) (hij : i ≠ j)
    (hx : X.env.scope.names.lookup x = some .local) (hy : X.env.scope.names.lookup y = some .local) (ha : PA X [a, b] ta)
    (hw : swappedStores [.Tuple [.Name x px, .Name y py] kt pt] (.Tuple [a, b] k2 pt2) X.env = pure (some [x, y]))
    (hs : swapsWithSole [.Tuple [.Name x px, .Name y py] kt pt] (.Tuple [a, b] k2 pt2) pos.line X.env = pure false := by rfl) :
    PS X (.Assign [.Tuple [.Name x px, .Name y py] kt pt] (.Tuple [a, b] k2 pt2) pos) (tPar i j ta) := ⟨fun pins s σ H D I h => by
  rw [exec_Assign_arm]
  refine wpAny_bind (wpAny_standAt ?_)
  rw [hs]
  refine wpAny_bind (wpAny_pure ?_)
  rw [if_neg (by decide)]
  refine wpAny_bind (Tuple_ (thn (ha.run _ pins s σ H _ I h) fun us s1 ⟨vs, H1, I1, r1, v, w', e1, q1⟩ => ?_))
  subst e1
  cases r1 with
  | @cons _ u1 _ _ rv r2 =>
    cases r2 with
    | @cons _ u2 _ _ rw2 r3 =>
      cases r3
      refine wpAny_newObj_type ?_ (by show 2 ≤ sizeLine; decide)
      have I2 : Inv X pins σ H1 { s1 with heap := s1.heap.push { cls := .type "tuple", data := .seq [u1, u2].toArray } } := I1.kept (t' := s1.toks) fun b o e => Heap.get?_push_of_some _ e
      obtain ⟨x1, hot⟩ := hc.at I2
      rw [hw]
      refine wpAny_bind (wpAny_pure ?_)
      show wpAny (model X.prog X.w) X.A (do rule "assign.swapped-stores"; let items ← unpackItems (.ref s1.heap.objs.size) 2 none; assignInOrder [fun v => bindName X.env y v, fun v => bindName X.env x v] items.reverse; pure Flow.next) _ _ _
      refine wpAny_bind (wpAny_rule (wpAny_bind (unpack_hot (vs := #[u1, u2]) hot ⟨_, Heap.get?_push_size _ rfl, rfl, _, rfl⟩ fun h' e' => ?_)))
      have I3 := I2.kept (h' := h') (t' := s1.toks) fun b o e => e' b o (Nat.ne_of_lt (Heap.lt_size e)) e
      show wpAny _ _ (assignInOrder [fun v => bindName X.env y v, fun v => bindName X.env x v] [u2, u1] >>= fun _ => pure Flow.next) _ _ _
      refine wpAny_bind (assignInOrder_cons (wpAny_bindName (store_ok I3 hN hj (.inl hy) rw2 (fun s2 I4 => assignInOrder_cons (wpAny_bindName (store_ok I4 hN hi (.inl hx) rv (fun s3 I5 => assignInOrder_nil (wpAny_pure ?_)) (.inr hx)))) (.inr hy))))
      rw [List.set_comm _ _ (Ne.symm hij)] at I5
      exact ⟨_, H1, I5, q1⟩⟩
end
/-! ### defs that let an exception out whose context is None -/
section
variable {P : Program} {w : World} {K : PySem.W.Frag} {mg : Str → Option Value} {base : Heap}
theorem okN {x qual : Str} {st : Stmt} {f : Addr} {fd : FuncData} {N ps : List Str} {k : Nat} {sp : Sp} (F : Fun K x qual st f fd) (S : FnScope N ps (defScope st)) (len : ∀ vs H Q E, sp vs H Q E → vs.length = ps.length)
    (hb : ∀ (cdv : Value) (A : Around) (outer : List Env) (s : Shared) (H : Hp) (vs : List V) (Q : VK) (E : XK), Room k (A.deeper (envOfC qual (defScope st) s.heap.objs.size f cdv)) → sp vs H Q E →
      ∃ t, PSs (cxOf (L2N.CX P w) P w K mg base N qual (defScope st) f cdv A outer s H E) (defBody st) t ∧ t { nx := fun _ H' => Q .non H', rt := Q } (start N vs) H) : FnOk P w K mg base (L2N.CX P w) (k + 1) f fd ps sp := by
  obtain ⟨oc, od, kV, doc, pm, an, cdv, ct, osl, rfl, lk, hcd⟩ := F.ex
  exact fn_of lk hcd S len fun A outer s H vs Q E hr h => hb cdv A outer s H vs Q E hr h
variable {N : List Str} {qual : Str} {scope : Scope} {f : Addr} {cdv : Value} {A : Around} {outer : List Env} {s : Shared} {H : Hp} {E : XK}
theorem takesN : L2N.Takes (cxOf (L2N.CX P w) P w K mg base N qual scope f cdv A outer s H E) (fun c d _ H' => E c d H') := L2N.takes_of rfl rfl rfl rfl
theorem passN : Passes (L2N.CX P w) (cxOf (L2N.CX P w) P w K mg base N qual scope f cdv A outer s H E) E := L2N.passes_call takesN fun _ _ _ _ h => h
theorem ownN : PassesOwn (model P w) (cxOf (L2N.CX P w) P w K mg base N qual scope f cdv A outer s H E).A (cxOf (L2N.CX P w) P w K mg base N qual scope f cdv A outer s H E).env (cxOf (L2N.CX P w) P w K mg base N qual scope f cdv A outer s H E).xe := L2.passes_of (X := cxOf (L2N.CX P w) P w K mg base N qual scope f cdv A outer s H E) rfl
end
section
variable {X : Cx} {CX : CXT} {k : Nat} {ps : List Str} {sp : Sp} {E : XK} {x : Str} {p pos : Pos} {e : Expr} {es : List Expr} {t : TA}
theorem pe_calX (c : Cal X.prog X.w X.K X.mg X.base CX x ps k sp) (hx : Passes CX X E) (hr : Room k X.A) (hg : Gl X x) (ha : PA X (e :: es) t) (hdb : (x == ("__debug__" : Str)) = false := by decide) (he : starEach (e :: es) X.env = (false, eval e X.env) :: starEach es X.env := by rfl)
    (hpl : (backTo pos (starEach es X.env)).any (·.1) = false := by rfl) : PE X (.Call (.Name x p) (e :: es) [] pos) (tCall sp [] E t) := by
  obtain ⟨f, fd, o, a, b, d⟩ := c
  exact pe_call o hr hg a b d .nil hx ha hdb he hpl
end
/-! ### an own exception is made; its context is None -/
section
variable {X : Cx} {e : Expr} {es : List Expr} {ta : TA} {p pos : Pos}
theorem pmk_oexN {CX : CXT} {x : Str} {C fI : Addr} {k : Nat} {fd : FuncData} {ps : List Str} {sp : Sp} (T : OexC X.K C) (iC : PySem.W.findIn X.K (.ref C) "__init__" = some (some (.ref fI))) (tI : PySem.W.typeIn X.K (.ref fI) = some (.type "function"))
    (F1 : FnOk X.prog X.w X.K X.mg X.base CX k fI fd ps sp) (hr : Room (k + 1) X.A) (hb : Binds X.K fd ps []) (hx : Passes CX X (fun _ _ _ => False)) (hg : Gl X x) (hm : X.mg x = some (.ref C)) (ha : PA X (e :: es) ta)
    (hdb : (x == ("__debug__" : Str)) = false := by decide) (he : starEach (e :: es) X.env = (false, eval e X.env) :: starEach es X.env := by rfl) (hpl : (backTo pos (starEach es X.env)).any (·.1) = false := by rfl) :
    L2N.PMk X (.Call (.Name x p) (e :: es) [] pos) (tMkO C sp [] ta) := by
  intro pins s σ H Q I h
  obtain ⟨nm, q, N, bs, bm, sn, sub, ab, col, dd, k0, k1, k2, k3, k5, hC, hbm⟩ := T.cls
  refine wpAny_Call_Name_kw (ld_glob I hg hm (PySem.W.callWith_K (h₀ := X.base) I.ok.mod.kin T.kC (thn (ha.run pos pins s σ H _ I h) fun us s1 ⟨vs, H1, I1, r1, hz, q1⟩ => ⟨I1.kIn, ?_⟩) he hpl) hdb)
  show wpAny _ _ (call (.ref C) us) _ _ _
  obtain ⟨hp, g, dr, tk, os⟩ := s1
  have up1 : hp.objs.size ≤ hp.objs.size + 1 := Nat.le_succ _
  have hq := q1 (hp.objs.size + 1) (I1.hok.fresh up1)
  rw [List.append_nil] at hq
  have kk : ∀ b o, hp.get? b = some o → ((hp.push (PySem.W.kdv_tup us)).push (PySem.HandSPX.excO C hp.objs.size)).get? b = some o := fun b o z => Heap.get?_push_of_some _ (Heap.get?_push_of_some _ z)
  have at1 : ((hp.push (PySem.W.kdv_tup us)).push (PySem.HandSPX.excO C hp.objs.size)).get? (hp.objs.size + 1) = some (PySem.HandSPX.excO C hp.objs.size) := by heap_get
  have I2 : Inv X pins σ (upd H1 (hp.objs.size + 1) (exo _ C none)) ⟨_, g, dr, tk, os⟩ := I1.laid (t' := tk) (a := hp.objs.size + 1) (o := exo (hp.objs.size + 1) C none) (h' := (hp.push (PySem.W.kdv_tup us)).push (PySem.HandSPX.excO C hp.objs.size)) kk up1 (exo_ok at1)
  have r2 : Vals (V.ref (hp.objs.size + 1) :: vs) (Value.ref (hp.objs.size + 1) :: us) := .cons rfl r1
  have bnd := hb _ (Value.ref (hp.objs.size + 1) :: us) I2.kIn (by rw [List.append_nil]; exact r2.length.symm.trans (F1.len _ _ _ _ hq))
  rw [List.append_nil] at bnd
  have few : us.length ≤ sizeLine := by
    rw [← Paired.length r1, sizeLine_eq]
    omega
  refine wpAny_call (PySem.HandSPX.call_own F.excBase_ValueError (fun Y => PySem.HandSPX.refsVE_contains Y bm hbm) (I1.kIn _ _ hC) (PySem.W.looks_findIn I1.kIn iC) (fun self => PySem.W.bind_fn I1.kIn self tI) few
    (codeAny_mono (F1.run _ X.stack _ _ ⟨Value.ref (hp.objs.size + 1) :: us, []⟩ (Value.ref (hp.objs.size + 1) :: us) _ _ (fun _ _ _ => False) (hr.make C us []) (I2.env0.make C us []) bnd r2 hq) fun r s' hq' => ?_))
  cases r with
  | error er => exact hx pins σ _ _ er s' I2 hq'
  | ok fl =>
    cases fl with
    | next => exact False.elim hq'
    | brk => exact False.elim hq'
    | cont => exact False.elim hq'
    | ret u =>
      obtain ⟨v, H2, os2, bare2, un2, hok2, rv, ev, d, fs, ea, ed, hd1, q2⟩ := hq'
      subst ev
      obtain ⟨h2, g2, d2, t2, os'⟩ := s'
      obtain ⟨t0, G, J, kG, ge, hoe, na⟩ := mk_end0 (d2 := d2) (t2 := t2) I1 up1 kk un2 hok2 os2 bare2 ea ed hd1
      exact ⟨rv, hp.objs.size + 1, _, _, ⟨G, g2, d2, t2, os'⟩, _, .ref C, some d, rfl, J, kG, ge, hoe, ⟨rfl, rfl, fun vs z => by cases z; rfl⟩, rfl, rfl, na, rfl, bare2, raises_own T.exC T.tyC, q2⟩
end
/-! ### except (x1, x2) as n, its exceptions' context None -/
section
variable {X : Cx} {x1 x2 x3 n : Str} {c1 c2 c3 : Value} {i : Nat} {body suite : List Stmt} {b₀ : Stmt} {q1 q2 q3 qt pos' pos : Pos} {kk : Nat} {more : List ExceptHandler} {tb : WX → TS} {ts : Addr → Obj → TS}
def wTwoN (K : PySem.W.Frag) (c1 c2 : Value) (i : Nat) (ts : Addr → Obj → TS) (D : Ends) : WX := fun cls d σ H => PySem.W.exmAny K cls [c1, c2] = some true ∧
  ∀ a oe, H a = none → L2N.Zn cls d oe → ts a oe { nx := fun σ' H' => D.nx (σ'.set i none) H', rt := D.rt, bk := fun σ' H' => D.bk (σ'.set i none) H', ct := fun σ' H' => D.ct (σ'.set i none) H' } (σ.set i (some (.ref a))) H
def wThreeN (K : PySem.W.Frag) (c1 c2 c3 : Value) (ts : TS) (D : Ends) : WX := fun cls d σ H => PySem.W.exmAny K cls [c1, c2, c3] = some true ∧ ts D σ H
theorem ps_try_twoN (hs : X.stack = X.env :: X.outer) (hf : X.env.frame = some X.env.locals) (hN : X.N.Nodup) (hi : X.N[i]? = some n) (hln : X.env.kindOf n = some .local)
    (g1 : Gl X x1) (m1 : X.mg x1 = some c1) (g2 : Gl X x2) (m2 : X.mg x2 = some c2) (d1 : (x1 == ("__debug__" : Str)) = false) (d2 : (x2 == ("__debug__" : Str)) = false)
    (hb : ∀ (W : WX) (pn : List (Addr × Obj)) (xe : Value → Shared → Prop), L2N.Takes (X.tr pn xe) W → PassesOwn (model X.prog X.w) X.A X.env xe → PSs (X.tr pn xe) body (tb W))
    (hsu : ∀ (a : Addr) (oe : Obj) (pn : List (Addr × Obj)), (∃ vs : Array Value, oe.data = .fields vs ∧ vs[2]? = some .none) → PSs (X.suite a ((a, oe) :: pn)) (b₀ :: suite) (ts a oe)) :
    PS X (.Try body (.ExceptHandler (some (.Tuple [.Name x1 q1, .Name x2 q2] kk qt)) (some n) (b₀ :: suite) pos' :: more) [] [] pos) (fun D σ H => tb (wTwoN X.K c1 c2 i ts D) D σ H) := by
  refine ⟨fun pins s σ H D I hw => ?_⟩
  have ok := I.ok
  have frames : X.A.frames = some (X.env :: X.outer) := by rw [ok.frames, hs]
  refine wpAny_Try_except (wpAny_mono ((hb (wTwoN X.K c1 c2 i ts D) (X.pn ++ pins) _ (fun u s' air => ?_) PassesOwn.looking).run [] s σ H D (I.toTry _) hw) (fun fl s1 got => ?_) (fun _ _ z => z))
  · obtain ⟨a, B, sI, pins', σ', H', cls, d, rfl, JT, nb, up, sky, na, os, ag, hx, hgo⟩ := air
    have J : Inv X pins σ' H' sI := JT.ofTry ok
    have sky2 : Sky B (X.env :: X.outer) a (L2N.Zn cls d) X.env.locals s'.heap := by rw [← hs]; exact sky
    refine L2N.Sky.land L2N.Zn.steady frames hf sky2 fun h3 fl3 up3 => ?_
    have J3 : Inv X pins σ' H' { s' with heap := h3 } := J.landed nb fl3.1 (up.trans up3) os ag
    obtain ⟨oe, vs, at3, z3, dat3⟩ := fl3.there
    have away : a ∉ frs (X.env :: X.outer) := fun mem => by
      obtain ⟨_, o', e', nf⟩ := fl3.2.2.1.mem mem
      rw [at3] at e'
      cases e'
      exact nf _ dat3
    have nL : a ≠ X.env.locals := fun z => away (List.mem_filterMap.mpr ⟨X.env, List.mem_cons_self, by rw [hf, z]⟩)
    have nF : a ∉ X.fs := fun mem => by
      obtain ⟨e, he, q⟩ := List.mem_filterMap.mp mem
      exact away (List.mem_filterMap.mpr ⟨e, List.mem_cons_of_mem _ he, q⟩)
    have S3 := J3.suite at3 dat3 na nL nF
    refine wpAny_handleBy_cons (codeAny_handlers_test ?_) (by intro q; cases q)
    refine wpAny_Tuple_spliced (Calls.spliced_cons (ld_glob (X := X.suite a ((a, oe) :: (X.pn ++ pins))) S3 g1 m1 (Calls.spliced_cons (ld_glob (X := X.suite a ((a, oe) :: (X.pn ++ pins))) S3 g2 m2 (Calls.spliced_nil ⟨by show 2 ≤ sizeLine; decide, ?_⟩) d2)) d1))
    have kp : ∀ b o, h3.get? b = some o → (h3.push { cls := .type "tuple", data := .seq [c1, c2].toArray }).get? b = some o := fun b o e => Heap.get?_push_of_some _ e
    have look : PySem.W.Looks (model X.prog X.w) (h3.push { cls := .type "tuple", data := .seq [c1, c2].toArray }) (typeOf (.ref a)) cls := fun A Q E s k q => wpAny_typeOf_ref (k _ _ (kp _ _ at3)) (by rw [z3.1]; exact q)
    have match2 := PySem.W.exm_tup2 (M := model X.prog X.w) (J3.kIn.keeps kp) look (Heap.get?_push_size _ rfl) hx
    refine match2.here (codeAny_handlers_suite_as (HandSPX.lands_againZ (flying_push fl3 kp) fun h4 fl4 up4 => ?_))
    have J4 : Inv X pins σ' H' { s' with heap := h4 } := J.landed nb fl4.1 (((up.trans up3).trans (.of_keeps kp)).trans up4) os ag
    obtain ⟨oe4, vs4, at4, z4, dat4⟩ := fl4.there
    refine store_ok (X := X.suite a ((a, oe4) :: (X.pn ++ pins))) (v := .ref a) (J4.suite at4 dat4 na nL nF) hN hi (.inl hln) rfl (fun s5 S5 => ?_) (.inr hln)
    refine wpAny_mono ((hsu a oe4 (X.pn ++ pins) ⟨_, dat4, z4.2.2 _ dat4⟩).run [] s5 _ H' _ S5 (hgo a oe4 na z4)) (fun fl s6 sp => ?_) (fun _ _ z => False.elim z)
    have close : ∀ {σ6 : L2.St} {H6 : Hp} {R : Shared → Prop}, Inv (X.suite a ((a, oe4) :: (X.pn ++ pins))) [] σ6 H6 s6 → (∀ s7, Inv X pins (σ6.set i none) H6 s7 → R s7) → wpAny (model X.prog X.w) X.A (do bindName X.env n .none; unbindBehindTheSuite X.env n pos') (fun _ s7 => R s7) X.xe s6 :=
      fun S6 hq => gone_ok (S6.unsuite ok) hN hi hln hq
    cases fl with
    | next => obtain ⟨σ6, H6, S6, q6⟩ := sp; exact close S6 fun s7 J7 => ⟨_, _, J7, q6⟩
    | brk => obtain ⟨σ6, H6, S6, q6⟩ := sp; exact close S6 fun s7 J7 => ⟨_, _, J7, q6⟩
    | cont => obtain ⟨σ6, H6, S6, q6⟩ := sp; exact close S6 fun s7 J7 => ⟨_, _, J7, q6⟩
    | ret u => obtain ⟨v6, σ6, H6, S6, r6, q6⟩ := sp; exact close S6 fun s7 J7 => ⟨_, _, _, J7, r6, q6⟩
  · cases fl with
    | next => obtain ⟨σ', H', JT, q⟩ := got; exact wpAny_execs_nil ⟨σ', H', JT.ofTry ok, q⟩
    | brk => obtain ⟨σ', H', JT, q⟩ := got; exact ⟨σ', H', JT.ofTry ok, q⟩
    | cont => obtain ⟨σ', H', JT, q⟩ := got; exact ⟨σ', H', JT.ofTry ok, q⟩
    | ret u => obtain ⟨v, σ', H', JT, r, q⟩ := got; exact ⟨v, σ', H', JT.ofTry ok, r, q⟩
/-- except (x1, x2, x3): no name -/
theorem ps_try_threeN {ts : TS} (hs : X.stack = X.env :: X.outer) (hf : X.env.frame = some X.env.locals)
    (g1 : Gl X x1) (m1 : X.mg x1 = some c1) (g2 : Gl X x2) (m2 : X.mg x2 = some c2) (g3 : Gl X x3) (m3 : X.mg x3 = some c3) (d1 : (x1 == ("__debug__" : Str)) = false) (d2 : (x2 == ("__debug__" : Str)) = false) (d3 : (x3 == ("__debug__" : Str)) = false)
    (hb : ∀ (W : WX) (pn : List (Addr × Obj)) (xe : Value → Shared → Prop), L2N.Takes (X.tr pn xe) W → PassesOwn (model X.prog X.w) X.A X.env xe → PSs (X.tr pn xe) body (tb W))
    (hsu : ∀ (a : Addr) (oe : Obj) (pn : List (Addr × Obj)), PSs (X.suite a ((a, oe) :: pn)) (b₀ :: suite) ts) :
    PS X (.Try body (.ExceptHandler (some (.Tuple [.Name x1 q1, .Name x2 q2, .Name x3 q3] kk qt)) none (b₀ :: suite) pos' :: more) [] [] pos) (fun D σ H => tb (wThreeN X.K c1 c2 c3 ts D) D σ H) := by
  refine ⟨fun pins s σ H D I hw => ?_⟩
  have ok := I.ok
  have frames : X.A.frames = some (X.env :: X.outer) := by rw [ok.frames, hs]
  refine wpAny_Try_except (wpAny_mono ((hb (wThreeN X.K c1 c2 c3 ts D) (X.pn ++ pins) _ (fun u s' air => ?_) PassesOwn.looking).run [] s σ H D (I.toTry _) hw) (fun fl s1 got => ?_) (fun _ _ z => z))
  · obtain ⟨a, B, sI, pins', σ', H', cls, d, rfl, JT, nb, up, sky, na, os, ag, hx, hgo⟩ := air
    have J : Inv X pins σ' H' sI := JT.ofTry ok
    have sky2 : Sky B (X.env :: X.outer) a (L2N.Zn cls d) X.env.locals s'.heap := by rw [← hs]; exact sky
    refine L2N.Sky.land L2N.Zn.steady frames hf sky2 fun h3 fl3 up3 => ?_
    have J3 : Inv X pins σ' H' { s' with heap := h3 } := J.landed nb fl3.1 (up.trans up3) os ag
    obtain ⟨oe, vs, at3, z3, dat3⟩ := fl3.there
    have away : a ∉ frs (X.env :: X.outer) := fun mem => by
      obtain ⟨_, o', e', nf⟩ := fl3.2.2.1.mem mem
      rw [at3] at e'
      cases e'
      exact nf _ dat3
    have nL : a ≠ X.env.locals := fun z => away (List.mem_filterMap.mpr ⟨X.env, List.mem_cons_self, by rw [hf, z]⟩)
    have nF : a ∉ X.fs := fun mem => by
      obtain ⟨e, he, q⟩ := List.mem_filterMap.mp mem
      exact away (List.mem_filterMap.mpr ⟨e, List.mem_cons_of_mem _ he, q⟩)
    have S3 := J3.suite at3 dat3 na nL nF
    refine wpAny_handleBy_cons (codeAny_handlers_test ?_) (by intro q; cases q)
    refine wpAny_Tuple_spliced (Calls.spliced_cons (ld_glob (X := X.suite a ((a, oe) :: (X.pn ++ pins))) S3 g1 m1 (Calls.spliced_cons (ld_glob (X := X.suite a ((a, oe) :: (X.pn ++ pins))) S3 g2 m2 (Calls.spliced_cons (ld_glob (X := X.suite a ((a, oe) :: (X.pn ++ pins))) S3 g3 m3 (Calls.spliced_nil ⟨by show 3 ≤ sizeLine; decide, ?_⟩) d3)) d2)) d1))
    have kp : ∀ b o, h3.get? b = some o → (h3.push { cls := .type "tuple", data := .seq [c1, c2, c3].toArray }).get? b = some o := fun b o e => Heap.get?_push_of_some _ e
    have look : PySem.W.Looks (model X.prog X.w) (h3.push { cls := .type "tuple", data := .seq [c1, c2, c3].toArray }) (typeOf (.ref a)) cls := fun A Q E s k q => wpAny_typeOf_ref (k _ _ (kp _ _ at3)) (by rw [z3.1]; exact q)
    have match3 := PySem.W.exm_tup3 (M := model X.prog X.w) (J3.kIn.keeps kp) look (Heap.get?_push_size _ rfl) hx
    refine match3.here (codeAny_handlers_suite (HandSPX.lands_againZ (flying_push fl3 kp) fun h4 fl4 up4 => ?_))
    have J4 : Inv X pins σ' H' { s' with heap := h4 } := J.landed nb fl4.1 (((up.trans up3).trans (.of_keeps kp)).trans up4) os ag
    obtain ⟨oe4, vs4, at4, z4, dat4⟩ := fl4.there
    refine wpAny_mono ((hsu a oe4 (X.pn ++ pins)).run [] _ _ H' _ (J4.suite at4 dat4 na nL nF) hgo) (fun fl s6 sp => ?_) (fun _ _ z => False.elim z)
    cases fl with
    | next => obtain ⟨σ6, H6, S6, q6⟩ := sp; exact ⟨_, _, S6.unsuite ok, q6⟩
    | brk => obtain ⟨σ6, H6, S6, q6⟩ := sp; exact ⟨_, _, S6.unsuite ok, q6⟩
    | cont => obtain ⟨σ6, H6, S6, q6⟩ := sp; exact ⟨_, _, S6.unsuite ok, q6⟩
    | ret u => obtain ⟨v6, σ6, H6, S6, r6, q6⟩ := sp; exact ⟨_, _, _, S6.unsuite ok, r6, q6⟩
  · cases fl with
    | next => obtain ⟨σ', H', JT, q⟩ := got; exact wpAny_execs_nil ⟨σ', H', JT.ofTry ok, q⟩
    | brk => obtain ⟨σ', H', JT, q⟩ := got; exact ⟨σ', H', JT.ofTry ok, q⟩
    | cont => obtain ⟨σ', H', JT, q⟩ := got; exact ⟨σ', H', JT.ofTry ok, q⟩
    | ret u => obtain ⟨v, σ', H', JT, r, q⟩ := got; exact ⟨v, σ', H', JT.ofTry ok, r, q⟩
end
/-! ### a lambda handed to a def, what it lets out has no context -/
open LamX
def lamN (X : Cx) (A : Around) (outer : List Env) (s : Shared) (H : Hp) (E : XK) (scope : Scope) (f c' : Addr) : Cx :=
  (lamCx X A outer s H E scope f c').tr [] fun e s' => wpAny (model X.prog X.w) (A.deeper (lamEnv X scope s.heap.objs.size f c')) (leaving (lamEnv X scope s.heap.objs.size f c') e) (fun _ s'' => L2N.CX X.prog X.w outer H s E e s'') (fun e' s'' => L2N.CX X.prog X.w outer H s E e' s'') s'
section
variable {X : Cx} {A : Around} {outer : List Env} {s : Shared} {H : Hp} {E : XK} {scope : Scope} {f c' : Addr}
theorem takesL : L2N.Takes (lamN X A outer s H E scope f c') (fun c d _ H' => E c d H') := L2N.takes_of rfl rfl rfl rfl
theorem passLN : Passes (L2N.CX X.prog X.w) (lamN X A outer s H E scope f c') E := L2N.passes_call takesL fun _ _ _ _ h => h
end
section
variable {X : Cx} {pins : List (Addr × Obj)} {σ : L2.St} {H : Hp} {s : Shared}
theorem pe_actN {CXg : CXT} {Eg : XK} {Ng : List Str} {qg : Str} {sg : Scope} {g f c' : Addr} {cdg pm ctv : Value} {params : Arguments} {body : Expr} {scope : Scope} {k i : Nat} {a : Str} {pn : List (Addr × Obj)} {xe : Value → Shared → Prop} {W : WX} {E : XK} {tb : TE} {p1 p2 : Pos}
    (I : Inv X pins σ H s) (L : LamS X.env.scope scope) (hf : s.heap.get? f = some (PySem.W.kla_obj "<lambda>" (X.env.qual ++ "<lambda>") params body scope (cloFrom X.env.cells scope.names []) pm c' ctv)) (hfn : H f = none) (hfr : f ∉ frs X.stack)
    (hbind : bindArgs (PySem.W.kla_fn "<lambda>" (X.env.qual ++ "<lambda>") params body scope (cloFrom X.env.cells scope.names []) pm (.ref c') ctv) ⟨[], []⟩ = pure [])
    (tk : L2N.Takes ((cxOf CXg X.prog X.w X.K X.mg X.base Ng qg sg g cdg X.A X.stack s H Eg).tr pn xe) W) (hr : Room (k + 1) (X.A.deeper (envOfC qg sg s.heap.objs.size g cdg)))
    (hbody : ∀ (A : Around) (outer : List Env) (s : Shared) (H : Hp), Room k (A.deeper (lamEnv X scope s.heap.objs.size f c')) → PE (lamN X A outer s H E scope f c') body tb)
    (hN : Ng[i]? = some a) (hv : Vis sg a) (hd : (a == ("__debug__" : Str)) = false := by decide) (hcd : (a == ("__classdict__" : Str)) = false := by decide) :
    PE ((cxOf CXg X.prog X.w X.K X.mg X.base Ng qg sg g cdg X.A X.stack s H Eg).tr pn xe) (.Call (.Name a p1) [] [] p2)
      (fun σZ HZ Q => (∀ cls d H', E cls d H' → W cls d σZ H') ∧ σZ[i]? = some (some (.ref f)) ∧ HZ c' = some (CodeO c' (X.env.qual ++ "<lambda>")) ∧ tb σ HZ Q) := ⟨fun pinsZ sZ σZ HZ Q IZ h => by
  obtain ⟨hW, hs, hc, ht⟩ := h
  refine wpAny_Call_Name_kw (thn ((pe_var (pos := p1) (i := i) hN hv hd hcd).run pinsZ sZ σZ HZ (fun v H1 => v = .ref f ∧ H1 = HZ) IZ ⟨.ref f, hs, rfl, rfl⟩) fun u s1 ⟨v, H1, I1, r1, ev, eH⟩ => ?_)
  subst ev
  rw [eH] at I1
  obtain rfl : u = Value.ref f := r1
  have of1 := I1.base.keep f _ hf hfn hfr (fun z => nomatch (show f ∈ ([] : List Addr) from z))
  refine PySem.W.callWith_F0 ⟨_, _, _, _, of1⟩ ?_
  have un : Un (frs X.stack) [] H HZ s.heap s1.heap := I1.base
  obtain ⟨⟨oc, vs, t, hoc, hdc, hvc⟩, _, _⟩ := I1.hok c' _ hc
  refine wpAny_call (codeAny_mono (R := CR (L2N.CX X.prog X.w) (envOfC qg sg s.heap.objs.size g cdg :: X.stack) X.prog X.w HZ s1 Q E) (PySem.W.kla_callFunE hr.depth of1 rfl L.co L.gen rfl ⟨c', oc, vs, t, rfl, hoc, hdc, hvc⟩ ?_) fun r s' hq => ?_)
  · rw [show bindArgs (PySem.W.kla_fn "<lambda>" (X.env.qual ++ "<lambda>") params body scope (cloFrom X.env.cells scope.names []) pm (.ref c') ctv) ⟨[] ++ [], []⟩ = pure [] from hbind]
    refine wpAny_pure (wpAny_newFunctionEnv (fun y hy => (L.own y hy).2) (fun y hy => absurd hy (by simp)) (fun h₁ hns hsb => ⟨I1.nolimit.fresh _ hsb, ?_⟩) L.kind)
    show codeAny _ _ (.expr body (lamEnv X scope s1.heap.objs.size f c')) _ _
    have kp : ∀ b o, s1.heap.get? b = some o → h₁.get? b = some o := fun b o z => hsb.extBut b o (Nat.ne_of_lt (Heap.lt_size z)) (Heap.get?_push_of_some _ z)
    have J0 : Inv (lamCx X (X.A.deeper (envOfC qg sg s.heap.objs.size g cdg)) (envOfC qg sg s.heap.objs.size g cdg :: X.stack) s1 HZ E scope f c') [] σ HZ { s1 with heap := h₁, toks := s1.toks + ([] : List (Str × Value)).length } := lam_start2 I L I1.env0 hr.hd un hns kp
    have J := J0.toTry (fun e s' => wpAny (model X.prog X.w) ((X.A.deeper (envOfC qg sg s.heap.objs.size g cdg)).deeper (lamEnv X scope s1.heap.objs.size f c')) (leaving (lamEnv X scope s1.heap.objs.size f c') e) (fun _ s'' => L2N.CX X.prog X.w (envOfC qg sg s.heap.objs.size g cdg :: X.stack) HZ s1 E e s'') (fun e' s'' => L2N.CX X.prog X.w (envOfC qg sg s.heap.objs.size g cdg :: X.stack) HZ s1 E e' s'') s')
    refine PySem.W.kla_codeExpr (wpAny_mono ((hbody _ _ s1 HZ (hr.deeper _)).run [] _ _ HZ Q J ht) (fun v s' hq => ?_) fun e s' hq => hq)
    obtain ⟨w', H', J', rv, q⟩ := hq
    exact ⟨w', H', J'.os, J'.bare, J'.base, J'.hok, rv, q⟩
  · cases r with
    | error e => exact tk e s' (L2N.XE.of_call I1 hW hq)
    | ok fl =>
      cases fl with
      | ret u => exact I1.after hq
      | next => exact False.elim hq
      | brk => exact False.elim hq
      | cont => exact False.elim hq⟩
end
/-- as GivesTo, of exceptions without a context -/
def GivN (X : Cx) (Ng : List Str) (x : Str) (sg : Scope) (g : Addr) (cdg : Value) (bg : List Stmt) (a : Str) (q : Str) (k : Nat) (TO : (XK → Hp → VK → Prop) → Hp → VK → Prop) : Prop :=
  ∀ (f c' : Addr) (s : Shared) (H : Hp) (Q : VK) (tl : XK → Hp → VK → Prop), Room k (X.A.deeper (envOfC x sg s.heap.objs.size g cdg)) →
    (∀ (W : WX) (pn : List (Addr × Obj)) (xe : Value → Shared → Prop) (E : XK) (p1 p2 : Pos), L2N.Takes ((cxOf C8.CX0 X.prog X.w X.K X.mg X.base Ng x sg g cdg X.A X.stack s H C8.E0).tr pn xe) W →
      PE ((cxOf C8.CX0 X.prog X.w X.K X.mg X.base Ng x sg g cdg X.A X.stack s H C8.E0).tr pn xe) (.Call (.Name a p1) [] [] p2) (fun σZ HZ Q => (∀ cls d H', E cls d H' → W cls d σZ H') ∧ σZ[0]? = some (some (.ref f)) ∧ HZ c' = some (CodeO c' q) ∧ tl E HZ Q)) →
    H c' = some (CodeO c' q) → TO tl H Q →
    ∃ t, PSs (cxOf C8.CX0 X.prog X.w X.K X.mg X.base Ng x sg g cdg X.A X.stack s H C8.E0).nox bg t ∧ t { nx := fun _ H' => Q .non H', rt := Q } (L2.start Ng [.ref f]) H
section
variable {X : Cx}
theorem pe_lamN {T : List (Addr × Str)} {TO : (XK → Hp → VK → Prop) → Hp → VK → Prop} {x a : Str} {g c P : Addr} {k : Nat} {pg : Arguments} {bg : List Stmt} {sg : Scope} {dV kV doc pm cdv ct oc : Value} {an od : Option Addr} {osl : Array (Option Value)} {Ng : List Str}
    {params : Arguments} {body : Expr} {scope : Scope} {t : XK → TE} {p lpos pos : Pos} (hg : Gl X x) (hm : X.mg x = some (.ref g)) (hk : PySem.W.keepIn X.K (.ref g) = true)
    (lk : X.K.lookup g = some ⟨oc, od, .func (PySem.W.fnOf x x pg bg sg dV kV doc pm an cdv ct), osl⟩) (hcg : PySem.W.codeIn X.K cdv x = true) (hb : L2.Binds X.K (PySem.W.fnOf x x pg bg sg dV kV doc pm an cdv ct) [a] []) (Sg : FnScope Ng [a] sg) (hNg : Ng[0]? = some a) (hva : Vis sg a)
    (hG : GivN X Ng x sg g cdv bg a (X.env.qual ++ "<lambda>") (k + 1) TO)
    (TB : TabB X.base X.mg c P) (hcode : X.env.code = .ref c) (hmT : (P, X.env.qual ++ "<lambda>") ∈ T) (hu : ∀ p ∈ T, p.1 = P → p.2 = X.env.qual ++ "<lambda>") (hr : Room (k + 2) X.A) (L : LamS X.env.scope scope) (hdef : defaultsOf params X.env = ([], []))
    (hbind : ∀ (q : Str) (cl : List (Str × Addr)) (pm cv ctv : Value), bindArgs (PySem.W.kla_fn "<lambda>" q params body scope cl pm cv ctv) ⟨[], []⟩ = pure [])
    (hbody : ∀ (A : Around) (outer : List Env) (s : Shared) (H : Hp) (E : XK) (f c' : Addr), Room k (A.deeper (lamEnv X scope s.heap.objs.size f c')) → PE (lamN X A outer s H E scope f c') body (t E))
    (hdb : (x == ("__debug__" : Str)) = false := by decide) (hd : (a == ("__debug__" : Str)) = false := by decide) (hcd : (a == ("__classdict__" : Str)) = false := by decide) :
    PE X (.Call (.Name x p) [.Lambda params body scope lpos] [] pos) (tLam T TO t) := ⟨fun pins s σ H Q I h => by
  obtain ⟨hT, h⟩ := h
  refine wpAny_Call_Name_kw (ld_glob I hg hm (PySem.W.callWith_K (h₀ := X.base) I.ok.mod.kin hk ?_ (by rfl) (by rfl)) hdb)
  show wpAny _ _ (spliced ((false, eval (.Lambda params body scope lpos) X.env) :: backTo pos (starEach [] X.env))) _ _ s
  refine Calls.spliced_cons (lam_make2 I TB hcode hmT hu hT hdef (L.has I.ok) fun f c' pm' ctv H1 s' I1 eN T1 hf hfn hfr hco => Calls.spliced_nil ⟨I1.kIn, ?_⟩)
  refine wpAny_call (codeAny_mono (R := CR C8.CX0 X.stack X.prog X.w H1 s' Q C8.E0) (run_ofS (N := Ng) (ps := [a]) (us := [.ref f]) (vs := [.ref f]) lk hcg Sg hr I1.env0 (hb s' [.ref f] I1.kIn rfl) (.cons rfl .nil) rfl fun hr' => ?_) fun r s2 hq => ?_)
  · obtain ⟨t', ht', hq'⟩ := hG f c' s' H1 Q (fun E H' Q' => t E σ H' Q') hr' (fun W pn xe E p1 p2 tk => pe_actN (i := 0) I1 L hf hfn hfr (hbind _ _ _ _ _) tk hr' (fun A outer s H hr2 => hbody A outer s H E f c' hr2) hNg hva hd hcd) hco (h H1 eN T1)
    exact ⟨t', ht'.nox, hq'⟩
  · cases r with
    | error e => exact (show False from hq).elim
    | ok fl =>
      cases fl with
      | ret u => exact I1.after hq
      | next => exact False.elim hq
      | brk => exact False.elim hq
      | cont => exact False.elim hq⟩
end
end TT
namespace TT
open PySem PySem.Spec PyProof.Rows L2 HotX L2H LamX
/-! ### a def called in an except suite, its promise told of the handled exception -/
structure FnE (P : Program) (w : World) (K : PySem.W.Frag) (mg : Str → Option Value) (base : Heap) (CX : CXT) (k : Nat) (f : Addr) (fd : FuncData) (ps : List Str) (sp : Addr × Obj → Sp) : Prop where
  len : ∀ p vs H Q E, sp p vs H Q E → vs.length = ps.length
  run : ∀ (A : Around) (outer : List Env) (s : Shared) (H : Hp) (args : Args) (us : List Value) (vs : List V) (Q : VK) (E : XK) (p : Addr × Obj), RoomH k A → Hot1 A p → PinOk outer H s p → Env0 P w K mg base A outer s H → BindsTo s fd args (ps.zip us) → Vals vs us → sp p vs H Q E →
    codeAny (model P w) A (.call (.ref f) args) (CR CX outer P w H s Q E) s
section
variable {P : Program} {w : World} {K : PySem.W.Frag} {mg : Str → Option Value} {base : Heap} {CX : CXT}
theorem fnE_of {k : Nat} {x qual : Str} {st : Stmt} {f : Addr} {fd : FuncData} {N ps : List Str} {sp : Addr × Obj → Sp} (Fn : Fun K x qual st f fd) (S : FnScope N ps (defScope st)) (len : ∀ p vs H Q E, sp p vs H Q E → vs.length = ps.length)
    (hbody : ∀ (cdv : Value) (A : Around) (outer : List Env) (s : Shared) (H : Hp) (vs : List V) (Q : VK) (E : XK) (p : Addr × Obj), Hot1 A p → RoomH k (A.deeper (envOfC qual (defScope st) s.heap.objs.size f cdv)) → sp p vs H Q E →
      ∃ t, PSs (cxH CX P w K mg base N qual (defScope st) f cdv A outer s H E p) (defBody st) t ∧ t { nx := fun _ H' => Q .non H', rt := Q } (L2.start N vs) H) : FnE P w K mg base CX (k + 1) f fd ps sp := by
  obtain ⟨oc, od, kV, doc, pm, an, cdv, ct, osl, rfl, lk, hcd⟩ := Fn.ex
  refine ⟨len, fun A outer s H args us vs Q E p hr hot hpin e0 hb r hsp => ?_⟩
  have hl := len _ _ _ _ _ hsp
  have old : ∀ b o, base.get? b = some o → s.heap.get? b = some o := fun b o e => (e0.bs b o e).1
  have KX : K.In s.heap := e0.mod.kin.keeps old
  have kinds : ∀ y ∈ ps.zip us, (defScope st).names.lookup y.1 = some .local ∨ ((defScope st).names.lookup y.1 = some .cell ∧ ((cellsFrom (s.heap.objs.size + 1) (defScope st).names []).lookup y.1).isSome = true) := by
    rintro ⟨n, v⟩ hy
    exact (S.par n (List.of_mem_zip hy).1).imp id fun q => ⟨q, PySem.W.cellsFrom_some _ _ _ (.inl q)⟩
  refine codeAny_call_function hr.depth (KX _ _ lk) rfl S.co S.gen rfl (PySem.W.codeRec_of KX hcd) (hb _ _ _ _ (wpAny_newFunctionEnv_cells S.kind kinds fun env he s1 x => ?_))
  subst he
  refine ⟨(e0.mod.nolimit.keeps old).keeps x.toInCall.keep, codeAny_func ?_⟩
  obtain ⟨t, ht, hq⟩ := hbody cdv A outer s H vs Q E p hot (hr.deeper _) hsp
  refine wpAny_mono (ht.run [] s1 (L2.start N vs) H _ (inv_startH S hpin e0 hl r x) hq) (fun fl s' hs => ?_) fun e s' hs => hs
  cases fl with
  | ret u => obtain ⟨v, σ', H', J, rv, q⟩ := hs; exact ⟨v, H', J.os, J.bare, J.base, J.hok, rv, q⟩
  | next => obtain ⟨σ', H', J, q⟩ := hs; exact ⟨.non, H', J.os, J.bare, J.base, J.hok, rfl, q⟩
  | brk => obtain ⟨_, _, _, q⟩ := hs; exact False.elim q
  | cont => obtain ⟨_, _, _, q⟩ := hs; exact False.elim q
end
/-- a def of the module that is called so -/
structure CalE (P : Program) (w : World) (K : PySem.W.Frag) (mg : Str → Option Value) (base : Heap) (x : Str) (ps : List Str) (k : Nat) (sp : Addr × Obj → Sp) : Prop where
  ex : ∃ (f : Addr) (fd : FuncData), FnE P w K mg base CX0 k f fd ps sp ∧ mg x = some (.ref f) ∧ PySem.W.keepIn K (.ref f) = true ∧ Binds K fd ps []
section
variable {X : Cx} {k : Nat} {ps : List Str} {sp : Addr × Obj → Sp} {x : Str} {q pos : Pos} {e : Expr} {es : List Expr} {t : TA} {p : Addr × Obj}
def tCallE (sp : Addr × Obj → Sp) (p : Addr × Obj) (t : TA) : TE := fun σ H Q => t σ H fun vs H1 => sp p vs H1 Q E0
theorem pe_calE (c : CalE X.prog X.w X.K X.mg X.base x ps k sp) (hot : Hot1 X.A p) (hp : p ∈ X.pn) (hr : RoomH k X.A) (hg : Gl X x) (ha : PA X (e :: es) t)
    (hdb : (x == ("__debug__" : Str)) = false := by decide) (he : starEach (e :: es) X.env = (false, eval e X.env) :: starEach es X.env := by rfl) (hpl : (backTo pos (starEach es X.env)).any (·.1) = false := by rfl) :
    PE X (.Call (.Name x q) (e :: es) [] pos) (tCallE sp p t) := ⟨fun pins s σ H Q I h => by
  obtain ⟨f, fd, Fn, hm, hk, hb⟩ := c.ex
  refine wpAny_Call_Name_kw (ld_glob I hg hm (PySem.W.callWith_K (h₀ := X.base) I.ok.mod.kin hk (thn (ha.run pos pins s σ H _ I h) fun us s1 ⟨vs, H1, I1, r, z⟩ => ⟨I1.kIn, ?_⟩) he hpl) hdb)
  have hl : us.length = ps.length := by rw [← r.length]; exact Fn.len _ _ _ _ _ z
  have b := hb s1 us I1.kIn (by rw [List.append_nil]; exact hl)
  rw [List.append_nil] at b
  have P1 := I1.pin p (List.mem_append_left _ hp)
  have hpin : PinOk X.stack H1 s1 p := ⟨P1.1, P1.2.1, fun hm => (List.mem_cons.mp (I1.stkSub p.1 hm)).elim P1.2.2.1 P1.2.2.2.1, P1.2.2.2.2⟩
  show wpAny (model X.prog X.w) X.A (call (.ref f) us) _ _ _
  refine wpAny_call (codeAny_mono (Fn.run X.A X.stack s1 H1 ⟨us, []⟩ us vs Q E0 p hr hot hpin I1.env0 b r z) fun r s' hq => ?_)
  cases r with
  | error e => exact False.elim hq
  | ok fl =>
    cases fl with
    | ret u => exact I1.after hq
    | next => exact False.elim hq
    | brk => exact False.elim hq
    | cont => exact False.elim hq⟩
/-- e.f of the handled exception -/
def tXp (K : PySem.W.Frag) (p : Addr × Obj) (f : Str) (te : TE) : TE := fun σ H Q => te σ H fun x H1 => x = .ref p.1 ∧ ∃ (C dd : Addr) (fs : List (Str × V)) (v : V), p.2.cls = .ref C ∧ XfC K C ∧ PySem.W.findIn K (.ref C) f = some none ∧ p.2.dict = some dd ∧ H1 dd = some (.xd fs) ∧ fs.lookup f = some v ∧ Q v H1
theorem pe_xp {te : TE} {n : Str} (hot : Hot1 X.A p) (hp : p ∈ X.pn) (he : PE X e te) (hb : attributeBase e n X.env (eval e X.env) = eval e X.env := by rfl) : PE X (.Attribute e n pos) (tXp X.K p n te) := ⟨fun pins s σ H Q I h => by
  refine attr_of hb (thn (he.run pins s σ H _ I h) fun u s1 ⟨x, H1, I1, rx, ex, C, dd, fs, v, ec, T, hno, ed, ea, l, q⟩ => ?_)
  subst ex
  obtain rfl : u = Value.ref p.1 := rx
  have ha := (I1.pin p (List.mem_append_left _ hp)).1
  obtain ⟨_, vs, hd, _⟩ := hot
  obtain ⟨mA, hns, hr⟩ : ObjOk X.prog X.w H1 s1.heap dd (.xd fs) := I1.hok dd _ ea
  obtain ⟨od, ho, hl⟩ := lookIn_ns hns
  obtain ⟨u, hu, ru⟩ := RelO.some_of (v := v) (o := mA n) (by rw [← l]; exact hr n)
  have J : PySem.W.InstAt s1.heap p.1 p.2 C (some od) := ⟨ha, ec, by unfold PySem.W.notCls; rw [hd] <;> rfl, by rw [ed]; exact ho⟩
  exact HandSPX.exc_get I1.kIn J T.ga T.gg T.exC (PySem.W.findObj_own T.hdC hno rfl (by rw [hl, hu])) (handed_of ru) ⟨v, H1, I1.tok _, ru, q⟩⟩
end
end TT
namespace TT
open PySem PySem.Spec PyProof.Rows L2
/-! ### enumerate of a tuple -/
theorem meets_enum1 {v : Value} {o : Obj} {H : Heap → Prop} (B : Begins v o H) : Meets (Builtin.«enumerate.__new__» ⟨[.type "enumerate", v], []⟩) (fun _ R s => H s.heap ∧
      R (.ok (.ret (.ref (s.heap.push o).objs.size))) { s with heap := (s.heap.push o).push { cls := .type "enumerate", data := .fields #[.none, .bool false, .ref s.heap.objs.size, rawInt 0, .none, .none] } }) :=
  .of_wp fun prog w A R s h => by
    obtain ⟨hp, g, d, tk, os⟩ := s
    obtain ⟨h1, h⟩ := h
    have hsub := sub_enumerate
    have q1 : ∀ {A' : Around} {E : Value → Shared → Prop} {Q : Value → Shared → Prop}, Q (.ref hp.objs.size) ⟨hp.push o, g, d, tk, os⟩ → wpAny (model prog w) A' (pyIter v) Q E ⟨hp, g, d, tk, os⟩ :=
      fun q => B.iter prog w _ _ ⟨hp, g, d, tk, os⟩ _ h1 q
    wp_walk using q1
    all_goals (try exact ⟨_, rfl, h⟩)
    all_goals (refine wpAny_stack_any fun st => wpAny_pure ?_; split)
    · rename_i c _ _ _ _ _
      cases (c == Value.type "enumerate") <;> (wp_walk using q1; exact ⟨_, rfl, h⟩)
    · wp_walk using q1
      exact ⟨_, rfl, h⟩
/-- the tuple at a, each item behind its place in a new pair -/
def ItuT (K : PySem.W.Frag) (a : Addr) : It :=
  ⟨fun i H => ∃ (xs : List V) (x : V), SqT K H a xs ∧ xs[i]? = some x, fun i H v H' => ∃ T x, v = .ref T ∧ H T = none ∧ H' = upd H T (.tup [.int (i : Nat), x]) ∧ ∀ xs, SqT K H a xs → xs[i]? = some x, fun i H => ∃ xs : List V, SqT K H a xs ∧ xs.length ≤ i⟩
theorem turn_enumT {P : Program} {w : World} {K : PySem.W.Frag} {elts : List Expr} {kk : Nat} {tpos : Pos} (a e it : Addr) :
    Turn P w K (.Tuple elts kk tpos) (ItuT K a) [e, it] e (fun i h => (∃ old, IsEnum h e it ((i : Nat) : Int) old) ∧ h.IsTupleIter it a i ∧ e ≠ it) where
  mem := by simp
  obj := fun i h st b hb => by
    obtain ⟨⟨old, he⟩, ⟨o, ho, hc, hd⟩, _⟩ := st
    rcases (show b = e ∨ b = it by simpa using hb) with rfl | rfl
    · exact ⟨_, he, fun v q => nomatch q⟩
    · exact ⟨o, ho, fun v q => by rw [hd] at q; cases q⟩
  keep := fun i h h' st k => by
    obtain ⟨⟨old, he⟩, ⟨o, ho, r⟩, hne⟩ := st
    exact ⟨⟨old, k e (by simp) _ he⟩, ⟨o, k it (by simp) o ho, r⟩, hne⟩
  item := by
    intro X hP hw hK hc i pins s σ H E I hf st hg
    subst hP hw hK
    obtain ⟨⟨old, he⟩, hit, hne⟩ := st
    obtain ⟨xs, x, hq, hx⟩ := hg
    obtain ⟨its, rv, tp, hz⟩ := I.tuple hq
    obtain ⟨u, hu, ru⟩ := rv.get hx
    obtain ⟨oi, gi, ci, di⟩ := id hit
    obtain ⟨ot, gt, ct, nt, dt⟩ := id tp
    have nai : a ≠ it := fun z => by
      rw [z, gi] at gt
      cases gt
      rw [ci] at ct
      exact absurd ct (by decide)
    have nea : e ≠ a := fun z => by
      rw [← z, he] at gt
      cases gt
      exact absurd (show Value.type "enumerate" = Value.type "tuple" from ct) (by decide)
    have hel : e < s.heap.objs.size := Heap.lt_size he
    have hil : it < s.heap.objs.size := Heap.lt_size gi
    have lt : i < its.toArray.size := by
      have := (List.getElem?_eq_some_iff.mp hu).1
      simpa using this
    refine wpAny_pyNext_enum_itemD (D := Draws.tuple (A := X.A.in1) (show X.A.in1.handled = none from I.ok.hd hc) it a nai its.toArray) he ⟨hit, tp⟩ lt hne (by simp [hne, nea]) fun y h' tk hy ho st' hT hsz hk => ?_
    obtain rfl : u = y := by
      have hy' : its.toArray[i]? = some y := hy
      have hu' : its.toArray[i]? = some u := by simpa using hu
      exact Option.some.inj (hu'.symm.trans hy')
    refine ⟨_, rfl, wpAny_letOwnedTupleGo_enum (s := { s with heap := h', toks := tk + 1 }) ho fun h'' he' sb => ?_⟩
    have hT2 : h''.get? s.heap.objs.size = some { cls := .type "tuple", data := .seq #[.int i tk, u] } := (sb.2 _ (Nat.ne_of_gt hel)).trans hT
    have new : ObjOk X.prog X.w (upd H s.heap.objs.size (.tup [.int (i : Nat), x])) h'' s.heap.objs.size (.tup [.int (i : Nat), x]) :=
      ⟨by show 2 ≤ sizeLine; decide, [.int i tk, u], .cons ⟨_, rfl⟩ (.cons ru .nil), ⟨_, hT2, rfl, _, rfl⟩⟩
    have I1 : Inv X pins σ (upd H s.heap.objs.size (.tup [.int (i : Nat), x])) { s with heap := h'', toks := tk + 1 } :=
      I.turnedNew (ch := [e, it]) (fun b ob hb q => (sb.2 b (fun z => hb (by simp [z]))).trans (hk b ob (fun z => hb (by simp [z])) (fun z => hb (by simp [z])) q)) hf (Nat.le_refl _) new
    refine ⟨.ref s.heap.objs.size, _, I1, rfl, ⟨_, x, rfl, I.hok.fresh (Nat.le_refl _), rfl, fun ys hy => by rw [I.tuple_inj hy hq]; exact hx⟩, ⟨⟨u, ?_⟩, ?_, hne⟩, fun b hb => ?_⟩
    · rw [show ((i + 1 : Nat) : Int) = (i : Int) + 1 by omega]
      exact he'
    · obtain ⟨o2, g2, r2⟩ := st'.1
      exact ⟨o2, (sb.2 it (Ne.symm hne)).trans g2, r2⟩
    · have hb' : b < s.heap.objs.size := by rcases (show b = e ∨ b = it by simpa using hb) with rfl | rfl <;> assumption
      rw [upd_ne (Nat.ne_of_lt hb')]
      exact (hf b hb).1
  done := by
    intro X hP hw hK hc i pins s σ H E I hf st hg
    subst hP hw hK
    obtain ⟨⟨old, he⟩, hit, hne⟩ := st
    obtain ⟨xs, hq, hx⟩ := hg
    obtain ⟨its, rv, tp, hz⟩ := I.tuple hq
    obtain ⟨f0, f1, f2, f3, f4, f5⟩ := hf it (by simp)
    have hl := rv.length
    obtain ⟨oi, gi, ci, di⟩ := id hit
    obtain ⟨ot, gt, ct, nt, dt⟩ := id tp
    have hT : s.TypeIs (.ref e) "enumerate" := ⟨_, he, rfl⟩
    unfold pyNext
    refine wpAny_bind (wpAny_attempt (wpAny_callSpecial?_slot (name := Str.ofString "__next__") hT F.slot_enumerate_next (wpAny_call_entry F.slot_enumerate_next hT F.entry_enumerate_next ?_ (F.args_enumerate_next_1 _))))
    show wpAny (model X.prog X.w) _ (field (.ref e) 2 >>= _) _ _ _
    refine wpAny_bind (wpAny_field he rfl (x := .ref it) rfl (wpAny_bind (wpAny_nextOf_tuple_end (I.ok.hd hc) hit tp (by simp; omega) fun h' x he' hx' => ?_)))
    obtain ⟨o, ho, hc2⟩ := hx'
    refine wpAny_bind (wpAny_isInstance (T := "StopIteration") (b := true) ⟨o, ho, hc2⟩ isSubtype_stop (wpAny_pure ⟨rfl, ?_⟩))
    exact I.turned (t' := s.toks) (fun b o hb q => he' b o hb q) f0 f1 f3 f4 f5
  self := fun A i s Q E st h => by
    obtain ⟨⟨_, he⟩, _⟩ := st
    exact wpAny_pyIter_enum he h
def iEnumT (K : PySem.W.Frag) (ta : TA) : TI := fun σ H R => ta σ H fun vs H1 => ∃ a xs, vs = [.ref a] ∧ SqT K H1 a xs ∧ R (ItuT K a) H1
theorem pi_enumT {X : Cx} {e : Expr} {ta : TA} {p pos tpos : Pos} {elts : List Expr} {kk : Nat} (hg : Gl X "enumerate") (hm : X.mg "enumerate" = none) (ha : PA X [e] ta) (hs : starEach [e] X.env = [(false, eval e X.env)] := by rfl) :
    PI X (.Tuple elts kk tpos) (.Call (.Name "enumerate" p) [e] [] pos) (iEnumT X.K ta) := ⟨fun pins s σ H R I h => by
  refine Call_ (ld_blt I hg hm boot_enumerate (PyProof.Rows.callWith_type1 (thn (ha.run pos pins s σ H _ I h) fun us s1 ⟨vs, H1, I1, r1, a, xs, ex, hq, q⟩ => ?_) hs rfl))
  subst ex
  cases r1 with
  | cons r rr =>
    cases rr
    cases r
    obtain ⟨its, rv, tp, hz⟩ := I1.tuple hq
    refine callType_new F.called_enumerate (by decide) (F.typeCall_enumerate_1 _) (F.newCall_enumerate_1 _) (fun obj => F.args_object_init_2 obj _) F.entry_enumerate_new (meets_enum1 (begins_tuple a its.toArray)) ⟨tp, ?_⟩
    have hsz : (s1.heap.push { cls := .type "tuple_iterator", data := .fields #[.ref a, .int 0 0] }).objs.size = s1.heap.objs.size + 1 := Heap.size_push ..
    show _ ∧ _
    rw [hsz]
    have he : IsEnum ((s1.heap.push { cls := .type "tuple_iterator", data := .fields #[.ref a, .int 0 0] }).push { cls := .type "enumerate", data := .fields #[.none, .bool false, .ref s1.heap.objs.size, rawInt 0, .none, .none] }) (s1.heap.objs.size + 1) s1.heap.objs.size 0 .none := by
      have z := Heap.get?_push_size (s1.heap.push { cls := .type "tuple_iterator", data := .fields #[.ref a, .int 0 0] }) (o := { cls := .type "enumerate", data := .fields #[.none, .bool false, .ref s1.heap.objs.size, rawInt 0, .none, .none] }) rfl
      rw [hsz] at z
      exact z
    refine ⟨⟨_, he, rfl⟩, wpAny_pyIter_enum he ?_⟩
    have kp : ∀ b o, s1.heap.get? b = some o → ((s1.heap.push { cls := .type "tuple_iterator", data := .fields #[.ref a, .int 0 0] }).push { cls := .type "enumerate", data := .fields #[.none, .bool false, .ref s1.heap.objs.size, rawInt 0, .none, .none] }).get? b = some o := fun b o x => Heap.get?_push_of_some _ (Heap.get?_push_of_some _ x)
    refine ⟨s1.heap.objs.size + 1, [s1.heap.objs.size + 1, s1.heap.objs.size], _, _, H1, rfl, I1.kept (t' := s1.toks) kp, turn_enumT a (s1.heap.objs.size + 1) s1.heap.objs.size, ⟨⟨.none, he⟩, ⟨_, Heap.get?_push_of_some _ (Heap.get?_push_size _ rfl), rfl, rfl⟩, Nat.succ_ne_self _⟩, fun b hb => ?_, q⟩
    have up1 : s1.heap.objs.size ≤ b := by
      rcases (show b = s1.heap.objs.size + 1 ∨ b = s1.heap.objs.size by simpa using hb) with rfl | rfl
      · exact Nat.le_add_right _ _
      · exact Nat.le_refl _
    exact I1.fpOk up1 (I1.hok.fresh up1)⟩
/-! ### an own error is made by its name -/
structure MkE (P : Program) (w : World) (K : PySem.W.Frag) (mg : Str → Option Value) (base : Heap) (x : Str) (ps : List Str) (k : Nat) (C : Addr) (sp : Sp) : Prop where
  T : OexC K C
  ex : ∃ (fI : Addr) (fd : FuncData), PySem.W.findIn K (.ref C) "__init__" = some (some (.ref fI)) ∧ PySem.W.typeIn K (.ref fI) = some (.type "function") ∧ FnOk P w K mg base CX0 k fI fd ps sp ∧ Binds K fd ps [] ∧ mg x = some (.ref C)
theorem MkE.mono {P : Program} {w : World} {K : PySem.W.Frag} {mg : Str → Option Value} {base : Heap} {x : Str} {ps : List Str} {j k : Nat} {C : Addr} {sp : Sp} (c : MkE P w K mg base x ps j C sp) (h : j ≤ k) : MkE P w K mg base x ps k C sp := by
  obtain ⟨T, fI, fd, a, b, o, r⟩ := c
  exact ⟨T, fI, fd, a, b, o.mono h, r⟩
section
variable {X : Cx} {x : Str} {ps : List Str} {k : Nat} {C : Addr} {sp : Sp} {e : Expr} {es : List Expr} {ta : TA} {p pos rp : Pos} {W : WX}
theorem ps_raiseE (hc : X.calm = true) (tk : L2N.Takes X W) (c : MkE X.prog X.w X.K X.mg X.base x ps k C sp) (hr : Room (k + 1) X.A) (hg : Gl X x) (ha : PA X (e :: es) ta)
    (hdb : (x == ("__debug__" : Str)) = false := by decide) (he : starEach (e :: es) X.env = (false, eval e X.env) :: starEach es X.env := by rfl) (hpl : (backTo pos (starEach es X.env)).any (·.1) = false := by rfl) :
    PS X (.Raise (some (.Call (.Name x p) (e :: es) [] pos)) none rp) (fun _ σ H => tMkO C sp [] ta σ H fun cls d H' => W cls d σ H') := by
  obtain ⟨T, fI, fd, a, b, o, r, m⟩ := c
  exact L2N.ps_raise hc tk (pmk_oexN T a b o hr r pass0 hg m ha hdb he hpl)
end
end TT
namespace TT
open PySem PySem.Spec PyProof.Rows L2 LamX
/-! ### rows that are no shapes: the first key that cannot stand -/
/-- u stands before a greater key -/
def Pat (l : List Int) (u : Int) : Prop := ∃ j v, l[j]? = some v ∧ u ∈ l.take j ∧ u < v
def BadAt (l : List Int) (x : Int) : Prop := x ∈ l ∨ ∃ u, Pat l u ∧ x < u
def MisAt (ks : List Int) : Option Nat → Prop
  | none => ∀ k x, ks[k]? = some x → ¬ BadAt (ks.take k) x
  | some k => (∃ x, ks[k]? = some x ∧ BadAt (ks.take k) x) ∧ ∀ j x, j < k → ks[j]? = some x → ¬ BadAt (ks.take j) x
theorem MisAt.uniq {ks : List Int} : ∀ {r r' : Option Nat}, MisAt ks r → MisAt ks r' → r = r'
  | none, none, _, _ => rfl
  | none, some k, h, ⟨⟨x, a, b⟩, _⟩ => absurd b (h k x a)
  | some k, none, ⟨⟨x, a, b⟩, _⟩, h => absurd b (h k x a)
  | some k, some k', ⟨⟨x, a, b⟩, h⟩, ⟨⟨x', a', b'⟩, h'⟩ => by
    rcases Nat.lt_trichotomy k k' with l | l | l
    · exact absurd b (h' k x l a)
    · rw [l]
    · exact absurd b' (h k' x' l a')
theorem Pat.app {l : List Int} {u x : Int} (h : Pat l u) : Pat (l ++ [x]) u := by
  obtain ⟨j, v, a, b, c⟩ := h
  have lt := (List.getElem?_eq_some_iff.mp a).1
  exact ⟨j, v, by rw [List.getElem?_append_left lt]; exact a, by rw [List.take_append_of_le_length (Nat.le_of_lt lt)]; exact b, c⟩
theorem Pat.new {l : List Int} {u x : Int} (h : u ∈ l) (c : u < x) : Pat (l ++ [x]) u := ⟨l.length, x, by simp, by simpa using h, c⟩
theorem Pat.cases {l : List Int} {u x : Int} (h : Pat (l ++ [x]) u) : Pat l u ∨ (u ∈ l ∧ u < x) := by
  obtain ⟨j, v, a, b, c⟩ := h
  rcases Nat.lt_or_ge j l.length with lt | ge
  · rw [List.getElem?_append_left lt] at a
    rw [List.take_append_of_le_length (Nat.le_of_lt lt)] at b
    exact .inl ⟨j, v, a, b, c⟩
  · have lt2 := (List.getElem?_eq_some_iff.mp a).1
    simp at lt2
    obtain rfl : j = l.length := by omega
    simp at a b
    subst a
    exact .inr ⟨b, c⟩
/-- the keys that wait, and the greatest that is left behind -/
structure Wt (l : List Int) (wt : List Int) (low : Option Int) : Prop where
  all : ∀ y ∈ l, y ∈ wt ∨ ∃ z, low = some z ∧ y ≤ z
  dec : wt.Pairwise (· > ·)
  lo : ∀ z, low = some z → ∀ y ∈ wt, z < y
  sub : ∀ y ∈ wt, y ∈ l
  pat : ∀ z, low = some z → Pat l z
  six : ∀ u, Pat l u → ∃ z, low = some z ∧ u ≤ z
  len : wt.length ≤ l.length
theorem Wt.nil : Wt [] [] none := ⟨fun _ h => (by simp at h), .nil, fun _ h => (by cases h), fun _ h => (by simp at h), fun _ h => (by cases h), fun u ⟨j, v, a, _⟩ => by simp at a, Nat.le_refl _⟩
/-- while x lets keys go -/
structure Wx (l : List Int) (x : Int) (wt : List Int) (low : Option Int) : Prop where
  all : ∀ y ∈ l, y ∈ wt ∨ ∃ z, low = some z ∧ y ≤ z
  dec : wt.Pairwise (· > ·)
  lo : ∀ z, low = some z → ∀ y ∈ wt, z < y
  sub : ∀ y ∈ wt, y ∈ l
  pat : ∀ z, low = some z → Pat l z ∨ (z ∈ l ∧ z ≤ x)
  six : ∀ u, Pat l u → ∃ z, low = some z ∧ u ≤ z
  len : wt.length ≤ l.length
theorem Wt.x {l wt : List Int} {low : Option Int} (h : Wt l wt low) (x : Int) : Wx l x wt low := ⟨h.all, h.dec, h.lo, h.sub, fun z e => .inl (h.pat z e), h.six, h.len⟩
theorem Wx.pop {l w : List Int} {x t : Int} {low : Option Int} (h : Wx l x (w ++ [t]) low) (c : t ≤ x) : Wx l x w (some t) := by
  have d := List.pairwise_append.mp h.dec
  refine ⟨fun y hy => ?_, d.1, fun z e y hy => ?_, fun y hy => h.sub y (List.mem_append_left _ hy), fun z e => ?_, fun u p => ?_, by have := h.len; rw [List.length_append] at this; omega⟩
  · rcases h.all y hy with m | ⟨z, e, le⟩
    · rcases List.mem_append.mp m with m | m
      · exact .inl m
      · rw [List.mem_singleton.mp m]; exact .inr ⟨t, rfl, Int.le_refl _⟩
    · have := h.lo z e t (by simp)
      exact .inr ⟨t, rfl, by omega⟩
  · cases e
    exact d.2.2 y hy _ (by simp)
  · cases e
    exact .inr ⟨h.sub _ (by simp), c⟩
  · obtain ⟨z, e, le⟩ := h.six u p
    have := h.lo z e t (by simp)
    exact ⟨t, rfl, by omega⟩
theorem Wx.over {l wt : List Int} {x : Int} {low : Option Int} (h : Wx l x wt low) (e : ∀ t, wt.getLast? = some t → x < t) : ∀ y ∈ wt, x < y := by
  intro y hy
  rcases List.eq_nil_or_concat wt with rfl | ⟨w, t, rfl⟩
  · simp at hy
  · rw [List.concat_eq_append] at *
    have xt := e t (by simp)
    rcases List.mem_append.mp hy with m | m
    · have := (List.pairwise_append.mp h.dec).2.2 y m t (by simp)
      omega
    · rw [List.mem_singleton.mp m]; exact xt
theorem Wx.bad {l wt : List Int} {x z : Int} {low : Option Int} (h : Wx l x wt low) (e : low = some z) (c : x ≤ z) : BadAt l x := by
  rcases h.pat z e with p | ⟨m, le⟩
  · by_cases q : x = z
    · obtain ⟨j, v, a, b, _⟩ := p
      exact .inl (by rw [q]; exact List.mem_of_mem_take b)
    · exact .inr ⟨z, p, by omega⟩
  · obtain rfl : x = z := by omega
    exact .inl m
theorem Wx.good {l wt : List Int} {x : Int} {low : Option Int} (h : Wx l x wt low) (o : ∀ y ∈ wt, x < y) (c : ∀ z, low = some z → z < x) : ¬ BadAt l x ∧ Wt (l ++ [x]) (wt ++ [x]) low := by
  refine ⟨?_, fun y hy => ?_, List.pairwise_append.mpr ⟨h.dec, .cons (by simp) .nil, fun y hy z hz => ?_⟩, fun z e y hy => ?_, fun y hy => ?_, fun z e => ?_, fun u p => ?_, by have := h.len; simp; omega⟩
  · rintro (m | ⟨u, p, lt⟩)
    · rcases h.all x m with m | ⟨z, e, le⟩
      · have := o x m; omega
      · have := c z e; omega
    · obtain ⟨z, e, le⟩ := h.six u p
      have := c z e
      omega
  · rcases List.mem_append.mp hy with m | m
    · exact (h.all y m).imp (List.mem_append_left _) id
    · exact .inl (List.mem_append_right _ m)
  · rw [List.mem_singleton.mp hz]; exact o y hy
  · rcases List.mem_append.mp hy with m | m
    · exact h.lo z e y m
    · rw [List.mem_singleton.mp m]; exact c z e
  · rcases List.mem_append.mp hy with m | m
    · exact List.mem_append_left _ (h.sub y m)
    · exact List.mem_append_right _ m
  · rcases h.pat z e with p | ⟨m, _⟩
    · exact p.app
    · exact .new m (c z e)
  · rcases p.cases with p | ⟨m, lt⟩
    · exact h.six u p
    · rcases h.all u m with m | r
      · have := o u m; omega
      · exact r
/-- the walk over enumerate of a tuple -/
theorem for_enumT {K : PySem.W.Frag} {a : Addr} {xs : List V} {g : TG} {tb : TS} {D : Ends} {σ : L2.St} {H : Hp} (Pv : Nat → L2.St → Hp → Prop) (h0 : Pv 0 σ H) (hl : ∀ i σ H, i ≤ xs.length → Pv i σ H → SqT K H a xs)
    (hs : ∀ i x T σ H, xs[i]? = some x → Pv i σ H → H T = none → g (.ref T) σ (upd H T (.tup [.int (i : Nat), x])) fun σ2 H2 => tb { D with nx := Pv (i + 1), ct := Pv (i + 1), bk := D.nx } σ2 H2) (hd : ∀ σ H, Pv xs.length σ H → D.nx σ H) :
    ∃ W : Nat → Nat → L2.St → Hp → Prop, (∃ m, W 0 m σ H) ∧ ∀ i m σ H, W i m σ H →
      ((ItuT K a).stop i H ∧ D.nx σ H) ∨ ((ItuT K a).go i H ∧ ∃ N : L2.St → Hp → Prop, (∀ σ' H', N σ' H' → ∃ m', m' < m ∧ W (i + 1) m' σ' H') ∧ ∀ x H', (ItuT K a).yld i H x H' → g x σ H' fun σ2 H2 => tb { D with nx := N, ct := N, bk := D.nx } σ2 H2) := by
  refine ⟨fun i m σ H => m = xs.length - i ∧ i ≤ xs.length ∧ Pv i σ H, ⟨xs.length, by simp, Nat.zero_le _, h0⟩, ?_⟩
  rintro i m σ H ⟨rfl, hi, p⟩
  have q := hl i σ H hi p
  rcases Nat.lt_or_ge i xs.length with lt | ge
  · refine .inr ⟨⟨xs, xs[i], q, by simp [lt]⟩, Pv (i + 1), fun σ' H' p' => ⟨xs.length - (i + 1), by omega, rfl, lt, p'⟩, ?_⟩
    rintro x H' ⟨T, y, rfl, nT, rfl, hy⟩
    exact hs i y T σ H (hy xs q) p nT
  · obtain rfl : i = xs.length := by omega
    exact .inl ⟨⟨xs, q, Nat.le_refl _⟩, hd σ H p⟩
theorem str_app (a b : Str) : (a ++ b).length = a.length + b.length := by
  show (a.cps ++ b.cps).size = a.cps.size + b.cps.size
  simp
theorem int_len {i : Int} (h : i.natAbs.log2 < 1920) : (Str.ofString (toString i)).length ≤ 2000 := by
  have e := int_text_length_le (k := 1920) (by decide) h
  rw [PySem.ofString_length]
  omega
theorem fits_app {a b : Str} {m n : Nat} (ha : a.length ≤ m) (hb : b.length ≤ n) (h : m + n ≤ 100000) : (a ++ b).length ≤ sizeLine := sz (by rw [str_app]; omega)
theorem le_app {a b : Str} {m n : Nat} (ha : a.length ≤ m) (hb : b.length ≤ n) : (a ++ b).length ≤ m + n := by rw [str_app]; omega
/-! ### keys -/
def okK (n : Int) : Bool := decide (-1000000000 ≤ n ∧ n ≤ 1000000000)
/-! ### what an own error bears -/
def fieldOf (tag : Str) : Str :=
  if inV (.str tag) [.str "BadKey", .str "DuplicateKey", .str "AtRoot", .str "Overlap", .str "KeysDiffer", .str "BadWeight", .str "NoKey"] = true then "key" else
  if inV (.str tag) [.str "BadShape", .str "BadStep", .str "BadCost", .str "Contradiction", .str "ParseError"] = true then "pos" else
  if inV (.str tag) [.str "TooManyKeys", .str "TooLong", .str "TooManyTrees", .str "TooManyWatches"] = true then "limit" else
  if inV (.str tag) [.str "BadName", .str "NameTaken", .str "SameName", .str "NoTree"] = true then "name" else
  if tag = "BadSize" then "size" else if tag = "BadCommand" then "word" else "number"
/-- an error of the class at C with this dict, its tag and its field -/
structure Bears (K : PySem.W.Frag) (H : Hp) (C dd : Addr) (tag : Str) (v : V) : Prop where
  xf : XfC K C
  ft : PySem.W.findIn K (.ref C) "tag" = some none
  ff : PySem.W.findIn K (.ref C) (fieldOf tag) = some none
  ex : ∃ fs : List (Str × V), H dd = some (.xd fs) ∧ fs.lookup ("tag" : Str) = some (V.str tag) ∧ fs.lookup (fieldOf tag) = some v
theorem Bears.same {K : PySem.W.Frag} {H H' : Hp} {C dd : Addr} {tag : Str} {v : V} (b : Bears K H C dd tag v) (e : Same H H') : Bears K H' C dd tag v := by
  obtain ⟨a, b, c, fs, d, r⟩ := b
  exact ⟨a, b, c, fs, e _ _ d, r⟩
def spField (K : PySem.W.Frag) (p : Addr × Obj) : Sp := fun vs H Q _ => ∃ (C dd : Addr) (tag : Str) (v : V), vs = [.ref p.1] ∧ p.2.cls = .ref C ∧ p.2.dict = some dd ∧ Bears K H C dd tag v ∧ ∀ H', Same H H' → Q v H'
/-- an error that _law_outcome tells -/
def Xo (K : PySem.W.Frag) (cT cM : Value) (Q : VK) : XK := fun cls d H' => PySem.W.exmAny K cls [cT, cM] = some true ∧ ∃ (C dd : Addr) (tag : Str) (v : V), cls = .ref C ∧ d = some dd ∧ Bears K H' C dd tag v ∧ ∀ p H'', Same H' H'' → H' p = none → H'' p = some (.tup [.non, .str tag, v]) → Q (.ref p) H''
/-- _law_outcome: a call's answer, or the error's tag and field -/
def tOut (K : PySem.W.Frag) (cT cM : Value) (tl : XK → Hp → VK → Prop) (H : Hp) (Q : VK) : Prop := ∀ (H1 : Hp) (E : XK) (R : VK), Same H H1 → (∀ cls d H', Xo K cT cM Q cls d H' → E cls d H') →
  (∀ v H', (∀ p H'', Same H' H'' → H' p = none → H'' p = some (.tup [v, .str "", .non]) → Q (.ref p) H'') → R v H') → tl E H1 R
/-- an __init__ that calls its base's and stores one field -/
def spTreeI (K : PySem.W.Frag) : Sp := fun vs H Q _ => ∃ (a C : Addr) (tag told : Str), vs = [.ref a, .str tag, .str told] ∧ OexC K C ∧ H a = some (exo a C none) ∧ PySem.W.findIn K (.ref C) "tag" = some none ∧
  ∀ dx, H dx = none → dx ≠ a → Q .non (upd (upd H dx (exd dx [("tag", .str tag)])) a (exo a C (some dx)))
def spOwnI (K : PySem.W.Frag) (tag fn : Str) : Sp := fun vs H Q _ => ∃ (a C : Addr) (n : Int), vs = [.ref a, .int n] ∧ n.natAbs.log2 < 1920 ∧ OexC K C ∧ H a = some (exo a C none) ∧ PySem.W.findIn K (.ref C) "tag" = some none ∧ PySem.W.findIn K (.ref C) fn = some none ∧
  ∀ dx, H dx = none → dx ≠ a → Q .non (upd (upd (upd H dx (exd dx [("tag", .str tag)])) a (exo a C (some dx))) dx (exd dx [(fn, .int n), ("tag", .str tag)]))
/-- raise of such an error, read -/
theorem rd_raise {K : PySem.W.Frag} {tag fn : Str} {C : Addr} {n : Int} {H : Hp} {Q : XK} {σ : L2.St} {te : TE} (T : OexC K C) (hn : n.natAbs.log2 < 1920) (ft : PySem.W.findIn K (.ref C) "tag" = some none) (ff : PySem.W.findIn K (.ref C) fn = some none)
    (ht : ∀ R : VK, R (.int n) H → te σ H R) (q : ∀ d Hf, Same H Hf → Hf d = some (.xd [(fn, .int n), ("tag", .str tag)]) → Q (.ref C) (some d) Hf) : tMkO C (spOwnI K tag fn) [] (tCons te tNil) σ H Q := by
  refine ht _ ⟨by show 1 ≤ 1000; decide, fun a na => ⟨a, C, n, rfl, hn, T, upd_same, ft, ff, fun dx ndx nda => ⟨rfl, dx, _, ?_, upd_same, ?_, ?_⟩⟩⟩
  · rw [upd_ne (Ne.symm nda), upd_same]
  · rwa [upd_ne nda] at ndx
  · refine q dx _ (fun b o e => ?_) upd_same
    have nb : b ≠ a := ne_of_none e na
    rw [upd_ne nda] at ndx
    have nd : b ≠ dx := ne_of_none e ndx
    rw [upd_ne nd, del_ne nb, upd_ne nd, upd_ne nb, upd_ne nd, upd_ne nb]
    exact e
/-! ### the program's checks -/
def spIsKey : Sp := fun vs H Q _ => ∃ n : Int, vs = [.int n] ∧ Q (.bl (okK n)) H
def spChk (K : PySem.W.Frag) (C1 C2 : Addr) : Sp := fun vs H Q E => ∃ (a : Addr) (ks : List Int), vs = [.ref a] ∧ SqT K H a (ks.map V.int) ∧ ks.length ≤ 1000 ∧ (∀ n ∈ ks, n.natAbs.log2 < 1920) ∧
  (40 < ks.length → ∀ d Hf, Same H Hf → Hf d = some (.xd [("limit", .int 40), ("tag", .str "TooManyKeys")]) → E (.ref C1) (some d) Hf) ∧
  (ks.length ≤ 40 → ∀ n, ks.find? (fun n => !okK n) = some n → ∀ d Hf, Same H Hf → Hf d = some (.xd [("key", .int n), ("tag", .str "BadKey")]) → E (.ref C2) (some d) Hf) ∧
  (ks.length ≤ 40 → ks.find? (fun n => !okK n) = none → Q .non H)
def nV : Option Nat → V
  | none => .non
  | some k => .int (k : Int)
def spFirst (K : PySem.W.Frag) : Sp := fun vs H Q _ => ∃ (a : Addr) (ks : List Int), vs = [.ref a] ∧ SqT K H a (ks.map V.int) ∧ ks.length ≤ 1000 ∧ ∀ r H', Same H H' → MisAt ks r → Q (nV r) H'
def spCS (K : PySem.W.Frag) (C1 C2 C3 : Addr) : Sp := fun vs H Q E => ∃ (a : Addr) (ks : List Int), vs = [.ref a] ∧ SqT K H a (ks.map V.int) ∧ ks.length ≤ 1000 ∧ (∀ n ∈ ks, n.natAbs.log2 < 1920) ∧
  (40 < ks.length → ∀ d Hf, Same H Hf → Hf d = some (.xd [("limit", .int 40), ("tag", .str "TooManyKeys")]) → E (.ref C1) (some d) Hf) ∧
  (ks.length ≤ 40 → ∀ n, ks.find? (fun n => !okK n) = some n → ∀ d Hf, Same H Hf → Hf d = some (.xd [("key", .int n), ("tag", .str "BadKey")]) → E (.ref C2) (some d) Hf) ∧
  (ks.length ≤ 40 → ks.find? (fun n => !okK n) = none → ∀ r, MisAt ks (some r) → ∀ d Hf, Same H Hf → Hf d = some (.xd [("pos", .int (r : Int)), ("tag", .str "BadShape")]) → E (.ref C3) (some d) Hf) ∧
  (ks.length ≤ 40 → ks.find? (fun n => !okK n) = none → MisAt ks none → ∀ H', Same H H' → Q .non H')
/-- is it a shape -/
def isSh (ks : List Int) : Prop := ks.length ≤ 40 ∧ ks.find? (fun n => !okK n) = none ∧ MisAt ks none
def spIsSh (K : PySem.W.Frag) : Sp := fun vs H Q _ => ∃ (a : Addr) (ks : List Int), vs = [.ref a] ∧ SqT K H a (ks.map V.int) ∧ ks.length ≤ 1000 ∧ (∀ n ∈ ks, n.natAbs.log2 < 1920) ∧ (isSh ks → ∀ H', Same H H' → Q (.bl true) H') ∧ (¬ isSh ks → ∀ H', Same H H' → Q (.bl false) H')
def spMis (K : PySem.W.Frag) : Sp := fun vs H Q _ => ∃ (a : Addr) (ks : List Int), vs = [.ref a] ∧ SqL K H a (ks.map V.int) ∧ ks.length ≤ 1000 ∧ ∀ r H', Same H H' → MisAt ks r → Q (nV r) H'
/-- small ints and the two great ones of the law -/
def Kn (ks : List Int) : Prop := ∀ n ∈ ks, n.natAbs.log2 < 1920
def spChg (K : PySem.W.Frag) : Sp := fun vs H Q _ => ∃ (d a : Addr) (ks : List Int) (c : Addr) (ns : List Int), vs = [.ref d, .ref a] ∧ SqL K H a (ks.map V.int) ∧ ks.length ≤ 1000 ∧ Kn ks ∧ a ≠ d ∧ Drw c ns H d ∧
  ∀ ks' p H', ks'.length ≤ ks.length + 1 → Kn ks' → Ext d H H' → Drw c ns H' d → H p = none → H' p = some (.lst (ks'.map V.int)) → Q (.ref p) H'
/-! ### the law -/
theorem log_small {n : Int} (h : n.natAbs < 2 ^ 100) : n.natAbs.log2 < 1920 := by
  by_cases z : n.natAbs = 0
  · rw [z]; decide
  · exact (Nat.log2_lt z).mpr (Nat.lt_trans h (Nat.pow_lt_pow_right (by decide) (by decide)))
/-- what stands through a turn -/
structure Row (K : PySem.W.Frag) (c d : Addr) (ms : List Int) (T : List (Addr × Str)) (H : Hp) (rp : Addr) (ks : List Int) : Prop where
  dr : Drw c ms H d
  tb : Tabs T H
  at_ : H rp = some (.lst (ks.map V.int))
  ne : rp ≠ d
  kn : Kn ks
  len : ks.length ≤ 43
theorem Row.same {K : PySem.W.Frag} {c d : Addr} {ms : List Int} {T : List (Addr × Str)} {H H' : Hp} {rp : Addr} {ks : List Int} (h : Row K c d ms T H rp ks) (e : Same H H') : Row K c d ms T H' rp ks := ⟨h.dr.same e, h.tb.ext e, e _ _ h.at_, h.ne, h.kn, h.len⟩
def d0 : Option Nat → Str × V
  | some k => ("BadShape", .int (k : Int))
  | none => ("", .non)
def d1 (ks : List Int) (r : Option Nat) : Str × V := match ks.find? (fun n => !okK n) with
  | some n => ("BadKey", .int n)
  | none => d0 r
def dueOf (ks : List Int) (r : Option Nat) : Str × V := if 40 < ks.length then ("TooManyKeys", .int 40) else d1 ks r

def spLawT (K : PySem.W.Frag) (PT : Addr) : Sp := fun vs H Q _ => ∃ (a : Addr) (ns : List Int), vs = [.ref a] ∧ SqL K H a (ns.map V.int) ∧ ns.length ≤ 63 ∧ H PT = some (.tbl #[]) ∧ ∀ H', Q (.bl true) H'
theorem tabs_ext {T : List (Addr × Str)} {H H' : Hp} {c d : Addr} {ns : List Int} (t : Tabs T H) (e : Ext d H H') (hD : Drw c ns H d) : Tabs T H' := fun p hp => by
  obtain ⟨ps, h1, h2, h3⟩ := t p hp
  obtain ⟨i, b, z, hd, _⟩ := hD
  refine ⟨ps, e _ _ (fun q => by rw [q, hd] at h1; cases h1) h1, h2, fun pos cv hc => ?_⟩
  obtain ⟨c0, e1, e2⟩ := h3 pos cv hc
  refine ⟨c0, e1, e _ _ (fun q => ?_) e2⟩
  rw [q, hd] at e2
  unfold CodeO at e2
  cases e2
theorem drw_extN {c d : Addr} {ns : List Int} {H H' : Hp} (h : Drw c ns H d) (e : ExtN H H') : Drw c ns H' d := by
  obtain ⟨i, b, z, h1, h2, r⟩ := h
  exact ⟨i, b, z, e _ _ h1 (fun ps q => by cases q), e _ _ h2 (fun ps q => by cases q), r⟩
theorem Row.extN {K : PySem.W.Frag} {c d : Addr} {ms : List Int} {T : List (Addr × Str)} {H H' : Hp} {rp : Addr} {ks : List Int} (h : Row K c d ms T H rp ks) (e : ExtN H H') (t : Tabs T H') : Row K c d ms T H' rp ks := ⟨drw_extN h.dr e, t, e _ _ h.at_ (fun ps q => by cases q), h.ne, h.kn, h.len⟩
theorem bears_mk {K : PySem.W.Frag} {H : Hp} {C dd : Addr} {tag fn : Str} {v : V} (x : XfC K C) (f1 : PySem.W.findIn K (.ref C) "tag" = some none) (f2 : PySem.W.findIn K (.ref C) fn = some none) (h : H dd = some (.xd [(fn, v), ("tag", .str tag)])) (e : fieldOf tag = fn) (n : (("tag" : Str) == fn) = false) : Bears K H C dd tag v := by
  refine ⟨x, f1, by rw [e]; exact f2, _, h, ?_, by rw [e]; simp [List.lookup]⟩
  simp [List.lookup, n]
theorem rd_out {K : PySem.W.Frag} {c d rp du C1 C2 C3 : Addr} {cT cM : Value} {ms ks : List Int} {T : List (Addr × Str)} {H : Hp} {r : Option Nat} {σ : L2.St} {i : Nat} {Q : VK} (hσ : σ[i]? = some (some (.ref rp))) (R : Row K c d ms T H rp ks) (hm : MisAt ks r) (hdu : H du = some (.tup [.str (dueOf ks r).1, (dueOf ks r).2]))
    (n1 : PySem.W.exmAny K (.ref C1) [cT, cM] = some true) (n2 : PySem.W.exmAny K (.ref C2) [cT, cM] = some true) (n3 : PySem.W.exmAny K (.ref C3) [cT, cM] = some true)
    (X1 : XfC K C1) (X2 : XfC K C2) (X3 : XfC K C3) (f1 : PySem.W.findIn K (.ref C1) "tag" = some none) (f2 : PySem.W.findIn K (.ref C1) "limit" = some none) (f3 : PySem.W.findIn K (.ref C2) "tag" = some none) (f4 : PySem.W.findIn K (.ref C2) "key" = some none) (f5 : PySem.W.findIn K (.ref C3) "tag" = some none) (f6 : PySem.W.findIn K (.ref C3) "pos" = some none)
    (fin : ∀ p Hx, Row K c d ms T Hx rp ks → Hx du = some (.tup [.str (dueOf ks r).1, (dueOf ks r).2]) → Hx p = some (.tup [.non, .str (dueOf ks r).1, (dueOf ks r).2]) → Q (.ref p) Hx) :
    tLam T (tOut K cT cM) (fun E => tCall (spCS K C1 C2 C3) [] E (tCons (tCB (fun xs H Q => ∃ p ys, xs = [V.ref p] ∧ ((SqL K H p ys ∧ ∀ (l : Addr), H l = none → Q (V.ref l) (upd H l (HO.tup ys))) ∨ SqT K H p ys ∧ Q (V.ref p) H)) (tCons (tVar i) tNil)) tNil)) σ H Q := by
  refine ⟨R.tb, fun H1 eN hT1 H2 E' R' e2 hE hR => ?_⟩
  have R2 := (R.extN eN hT1).same e2
  have hd2 : H2 du = some (.tup [.str (dueOf ks r).1, (dueOf ks r).2]) := e2 _ _ (eN _ _ hdu (fun ps q => by cases q))
  refine ⟨.ref rp, hσ, rp, _, rfl, .inl ⟨SqL.of R2.at_, fun l nl => ⟨l, ks, rfl, SqT.of upd_same, by have := R.len; omega, R.kn, ?_, ?_, ?_, ?_⟩⟩⟩
  · intro h40 dd Hf e hd
    have ed : dueOf ks r = (("TooManyKeys" : Str), (.int 40 : V)) := by unfold dueOf; rw [if_pos h40]
    refine hE _ _ _ ⟨n1, C1, dd, "TooManyKeys", .int 40, rfl, rfl, bears_mk X1 f1 f2 hd (by decide +kernel) (by decide +kernel), fun p Hx ex np hp => ?_⟩
    have es := (same_new nl).trans (e.trans ex)
    exact fin p Hx (R2.same es) (es _ _ hd2) (by rw [ed]; exact hp)
  · intro h40 n hf dd Hf e hd
    have ed : dueOf ks r = (("BadKey" : Str), (.int n : V)) := by unfold dueOf d1; rw [if_neg (by omega), hf]
    refine hE _ _ _ ⟨n2, C2, dd, "BadKey", .int n, rfl, rfl, bears_mk X2 f3 f4 hd (by decide +kernel) (by decide +kernel), fun p Hx ex np hp => ?_⟩
    have es := (same_new nl).trans (e.trans ex)
    exact fin p Hx (R2.same es) (es _ _ hd2) (by rw [ed]; exact hp)
  · intro h40 hf k hk dd Hf e hd
    cases hm.uniq hk
    have ed : dueOf ks (some k) = (("BadShape" : Str), (.int (k : Int) : V)) := by unfold dueOf d1; rw [if_neg (by omega), hf]; rfl
    refine hE _ _ _ ⟨n3, C3, dd, "BadShape", .int (k : Int), rfl, rfl, bears_mk X3 f5 f6 hd (by decide +kernel) (by decide +kernel), fun p Hx ex np hp => ?_⟩
    have es := (same_new nl).trans (e.trans ex)
    exact fin p Hx (R2.same es) (es _ _ hd2) (by rw [ed]; exact hp)
  · intro h40 hf hk H' e
    cases hm.uniq hk
    have ed : dueOf ks none = (("" : Str), (.non : V)) := by unfold dueOf d1; rw [if_neg (by omega), hf]; rfl
    refine hR _ _ fun p Hx ex np hp => ?_
    have es := (same_new nl).trans (e.trans ex)
    exact fin p Hx (R2.same es) (es _ _ hd2) (by rw [ed]; exact hp)
theorem due_sh {ks : List Int} {r : Option Nat} (hm : MisAt ks r) : (isSh ks ∧ dueOf ks r = (("" : Str), (.non : V))) ∨ (¬ isSh ks ∧ ∃ tg n, dueOf ks r = (tg, .int n) ∧ PyData.strOk tg = true) := by
  unfold dueOf isSh
  by_cases h40 : 40 < ks.length
  · exact .inr ⟨fun z => (by omega), _, _, by rw [if_pos h40], by decide +kernel⟩
  rw [if_neg h40]
  unfold d1
  cases hf : ks.find? (fun n => !okK n) with
  | some n => exact .inr ⟨fun z => (by cases z.2.1), _, _, rfl, by decide +kernel⟩
  | none =>
    cases r with
    | some k => exact .inr ⟨fun z => (by cases z.2.2.uniq hm), _, _, rfl, by decide +kernel⟩
    | none => exact .inl ⟨⟨by omega, rfl, hm⟩, rfl⟩
theorem shaped2 {tg : Str} {y : PyData} (hs : PyData.strOk tg = true) (h : y = .none ∨ ∃ n, y = .int n) : SeqAt.shaped (.tuple [.str tg, y]) = true := by
  rcases h with rfl | ⟨n, rfl⟩ <;> simp [SeqAt.shaped, PyData.canLay0, PyData.canLayAll0, PyData.depth, PyData.depthAll, hs]
theorem rd_due {K : PySem.W.Frag} {H : Hp} {du p : Addr} {ks : List Int} {r : Option Nat} {Q : VK} (hm : MisAt ks r) (h1 : H du = some (.tup [.str (dueOf ks r).1, (dueOf ks r).2])) (h2 : H p = some (.tup [.str "", .non])) (q : ∀ b : Bool, (b = true ∧ isSh ks) ∨ (b = false ∧ ¬ isSh ks) → Q (.bl b) H) : rEqD K (.ref du) (.ref p) H Q := by
  rcases due_sh hm with ⟨sh, e⟩ | ⟨sh, tg, n, e, hs⟩
  · rw [e] at h1
    exact ⟨_, _, .tup (SqT.of h1) (.cons (.str _) (.cons .non .nil)), .tup (SqT.of h2) (.cons (.str _) (.cons .non .nil)), shaped2 (by decide +kernel) (.inl rfl), shaped2 (by decide +kernel) (.inl rfl), q _ (.inl ⟨by decide +kernel, sh⟩)⟩
  · rw [e] at h1
    refine ⟨_, _, .tup (SqT.of h1) (.cons (.str _) (.cons (.int _) .nil)), .tup (SqT.of h2) (.cons (.str _) (.cons .non .nil)), shaped2 hs (.inr ⟨n, rfl⟩), shaped2 (by decide +kernel) (.inl rfl), q _ (.inr ⟨?_, sh⟩)⟩
    show (PyData.eqv (.str tg) (.str "") && (PyData.eqv (.int n) .none && PyData.eqvAll [] [])) = false
    rw [show PyData.eqv (.int n) .none = false from rfl]
    simp
theorem CalE.mono {P : Program} {w : World} {K : PySem.W.Frag} {mg : Str → Option Value} {base : Heap} {x : Str} {ps : List Str} {j k : Nat} {sp : Addr × Obj → Sp} (c : CalE P w K mg base x ps j sp) (h : j ≤ k) : CalE P w K mg base x ps k sp := by
  obtain ⟨f, fd, o, r⟩ := c.ex
  exact ⟨f, fd, ⟨o.len, fun A outer s H args us vs Q E p hr => o.run A outer s H args us vs Q E p (hr.mono h)⟩, r⟩
/-! ### what the written part says, by a test -/
def oexB (K : PySem.W.Frag) (C : Addr) : Bool := match K.lookup C with
  | some ⟨.type "type", _, .cls cd, sl⟩ => (match cd.mro, sl.toList with
    | .ref C' :: bm, [_, _, _, _, some (.builtin n), _] => C' == C && n == "ValueError.__new__" && !cd.hasDel && cd.hasDict && PySem.HandSPX.refsVE bm
    | _, _ => false)
  | _ => false
theorem oexB_cls {K : PySem.W.Frag} {C : Addr} (q : oexB K C = true) : ∃ nm q N bs bm sn sub ab col dd k0 k1 k2 k3 k5, K.lookup C = some (excClassObj nm q C N bs bm true sn sub ab col dd k0 k1 k2 k3 k5 "ValueError.__new__") ∧ PySem.HandSPX.refsVE bm = true := by
  unfold oexB at q
  split at q
  · rename_i dd cd sl ho
    split at q
    · rename_i C' bm k0 k1 k2 k3 n k5 hm hs
      simp only [Bool.and_eq_true, beq_iff_eq, Bool.not_eq_true'] at q
      obtain ⟨⟨⟨⟨rfl, rfl⟩, hdel⟩, hdct⟩, hv⟩ := q
      obtain ⟨nm, bs, mro, ns, qn, hd, sn, sub, ab, col, del⟩ := cd
      dsimp only at hm hdel hdct
      subst hm hdel hdct
      obtain ⟨l⟩ := sl
      simp only at hs
      subst hs
      exact ⟨nm, qn, ns, bs, bm, sn, sub, ab, col, dd, k0, k1, k2, k3, k5, ho, hv⟩
    · cases q
  · cases q
end TT
/-! own exceptions over LookupError, made by an __init__ of their own -/
namespace TT
open PySem PySem.Spec PyProof.Rows L2
abbrev leTail : List Value := [.type "LookupError", .type "Exception", .type "BaseException", .type "object"]
/-- own classes, then the classes above LookupError -/
inductive OverL : List Value → Prop
  | base : OverL leTail
  | own (c : Addr) (r : List Value) : OverL r → OverL (.ref c :: r)
def overB : List Value → Bool
  | .ref _ :: r => overB r
  | l => l == leTail
theorem overB_ok : ∀ l : List Value, overB l = true → OverL l := by
  intro l
  induction l with
  | nil => intro e; exact absurd e (by decide)
  | cons a r ih =>
    intro e
    unfold overB at e
    split at e
    · next h => obtain ⟨rfl, rfl⟩ := List.cons.inj h; exact .own _ _ (ih e)
    · rw [beq_iff_eq.mp e]; exact .base
theorem OverL.pass {l : List Value} (o : OverL l) (self : Value) : PySem.refuseLoop self "__setattr__" l = pure () := by
  induction o with
  | base => exact PySem.F.store_LookupError.passes self
  | own c r _ ih => rw [PySem.refuseLoop_ref]; exact ih
theorem OverL.has {l : List Value} (o : OverL l) (Y : String) : l.contains (.type Y) = leTail.contains (.type Y) := by
  induction o with
  | base => rfl
  | own c r _ ih => rw [List.contains_cons, ih]; rfl
theorem OverL.some {l : List Value} (o : OverL l) : l.isEmpty = false := by cases o <;> rfl

/-! ### self.name = v on such an exception -/
section
open Builtin Builtin.ObjectAttr
variable {prog : Program} {w : World} {A : Around} {E : Value → Shared → Prop} {R : Result → Shared → Prop} {hp : Heap} {gs : Array GenState} {dr : Drawn} {tt : Nat} {os : OsState} {K : PySem.W.Frag} {nm : Str} {tk : Tok} {v : Value} {x C : Addr} {cd : ClassData}
theorem osaL {ox : Obj} {od : Option Obj} (X : K.In hp) (I : PySem.W.InstAt hp x ox C od) (hcd : PySem.W.clsIn K C = some cd) (o : OverL cd.mro) (ha : PySem.W.findIn K (.ref C) nm = some none)
    (q : wpAny (model prog w) A.in1 (storeInOwnDict (.ref x) (.ref C) (.str nm tk) nm v false) (fun fin s' => match fin with
      | .done f => R (.ok f) s'
      | .again c' => c'.quiet = true ∧ codeAny (model prog w) A c' R s') (fun e s' => R (.error e) s') ⟨hp, gs, dr, tt, os⟩) : codeAny (model prog w) A (.call (.builtin "object.__setattr__") ⟨[.ref x, .str nm tk, v], []⟩) R ⟨hp, gs, dr, tt, os⟩ := by
  have st := PySem.F.store_object
  have inO : PySem.W.Looks (model prog w) hp (isInstance (.ref x) (.type "object")) true := I.type.andThen (PySem.W.looks_mroIn X (by unfold PySem.W.mroIn; rw [hcd, Option.bind_some, if_neg (by rw [o.some]; decide), o.has]; decide +kernel))
  refine codeAny_call_builtin st.slot.plain st.entry (@PySem.W.check_slot (model prog w) _ _ ⟨hp, gs, dr, tt, os⟩ "object.__setattr__" "object" "__setattr__" (.ref x) [.str nm tk, v] [] _ st.kind st.split inO (st.args (.ref x) (.str nm tk) v) ?_)
  have l1 : PySem.W.Looks (model prog w) hp (mroOf (.ref C)) cd.mro := (PySem.W.looks_clsIn X hcd).andThen .now
  have l2 : PySem.W.Looks (model prog w) hp (storeTaker? none) none := .now
  rw [PySem.W.osa_eq, PySem.refuse_eq]; refine wpAny_bind (wpAny_bind (I.type.at (wpAny_bind (l1.at ?_)))); rw [o.pass]
  exact wpAny_pure (wpAny_bind (I.type.at (wpAny_bind ((PySem.W.looks_findIn X ha).at (wpAny_bind (l2.at q))))))
theorem osaL_new {fv : Array Value} (X : K.In hp) (hx : hp.get? x = some { cls := .ref C, data := .fields fv }) (hcd : PySem.W.clsIn K C = some cd) (o : OverL cd.mro) (hh : cd.hasDict = true) (ha : PySem.W.findIn K (.ref C) nm = some none)
    (q : ∀ h' tk' dx, (∀ b o, b ≠ x → hp.get? b = some o → h'.get? b = some o) → hp.objs.size ≤ dx → dx ≠ x → h'.get? x = some { cls := .ref C, dict := some dx, data := .fields fv } → h'.Ns1 dx (fun y => if y = nm then some v else none) → R (.ok (.ret .none)) ⟨h', gs, dr, tk', os⟩) :
    codeAny (model prog w) A (.call (.builtin "object.__setattr__") ⟨[.ref x, .str nm tk, v], []⟩) R ⟨hp, gs, dr, tt, os⟩ := by
  have nx : x ≠ hp.objs.size := Nat.ne_of_lt (Heap.lt_size hx)
  refine osaL X (od := none) ⟨hx, rfl, rfl, trivial⟩ hcd o ha ?_
  have lc : PySem.W.Looks (model prog w) hp (classData C) cd := PySem.W.looks_clsIn X hcd
  obtain ⟨c1, c2, c3, c4, c5, c6, c7, c8, c9, c10, c11⟩ := cd; dsimp only at hh; subst hh; unfold storeInOwnDict ownDictForStores
  repeat (first | with_reducible refine PySem.HandSPX.store_in_new ?_ ?_ | with_reducible refine wpAny_loadPart_at hx ?_ | with_reducible refine lc.at ?_ | wp_step)
  · exact ⟨_, #[], _, (Heap.get?_update_ne _ _ _ _ nx.symm).trans (Heap.get?_push_at rfl rfl), rfl, fun e he => absurd he (by simp), fun _ => rfl⟩
  · intro h' tk' n1 sb
    exact q h' tk' hp.objs.size (fun b o hb ho => (sb.2 b (Nat.ne_of_lt (Heap.lt_size ho))).trans ((Heap.get?_update_ne _ _ _ _ hb).trans (Heap.get?_push_of_some _ ho))) (Nat.le_refl _) nx.symm ((sb.2 x nx).trans (Heap.get?_update_self _ (Heap.get?_push_of_some _ hx) rfl)) n1
theorem osaL_old {fv : Array Value} {dx : Addr} {m0 : Str → Option Value} {nl : List Str} (X : K.In hp) (hx : hp.get? x = some { cls := .ref C, dict := some dx, data := .fields fv }) (hns : hp.Ns1 dx m0) (hw : Within m0 nl) (hz : nl.length ≤ 1000) (hcd : PySem.W.clsIn K C = some cd) (o : OverL cd.mro) (hh : cd.hasDict = true)
    (ha : PySem.W.findIn K (.ref C) nm = some none) (q : ∀ h' tk', (∀ b o, b ≠ dx → hp.get? b = some o → h'.get? b = some o) → h'.Ns1 dx (fun y => if y = nm then some v else m0 y) → R (.ok (.ret .none)) ⟨h', gs, dr, tk', os⟩) :
    codeAny (model prog w) A (.call (.builtin "object.__setattr__") ⟨[.ref x, .str nm tk, v], []⟩) R ⟨hp, gs, dr, tt, os⟩ := by
  obtain ⟨oD, _, _, at1, _, _⟩ := hns.count hw
  refine osaL X (od := some oD) ⟨hx, rfl, rfl, at1⟩ hcd o ha ?_
  have lc : PySem.W.Looks (model prog w) hp (classData C) cd := PySem.W.looks_clsIn X hcd
  obtain ⟨c1, c2, c3, c4, c5, c6, c7, c8, c9, c10, c11⟩ := cd; dsimp only at hh; subst hh; unfold storeInOwnDict ownDictForStores
  repeat (first | with_reducible refine PySem.OEX.store_in_old hns hw hz ?_ | with_reducible refine wpAny_loadPart_at hx ?_ | with_reducible refine lc.at ?_ | wp_step)
  exact fun h' tk' n1 sb => q h' tk' (fun b o hb ho => (sb.2 b hb).trans ho) n1
end
/-- what the written part says of such a class -/
structure OexL (K : PySem.W.Frag) (C : Addr) : Prop where
  cls : ∃ nm q N bs bm sn sub ab col dd k0 k1 k2 k3 k5, K.lookup C = some (excClassObj nm q C N bs bm true sn sub ab col dd k0 k1 k2 k3 k5 "LookupError.__new__") ∧ OverL bm
  sa : PySem.W.findIn K (.ref C) "__setattr__" = some (some (.builtin "object.__setattr__"))
  exC : PySem.W.subIn K (.ref C) (.type "BaseException") = some true
  tyC : PySem.W.typeIn K (.ref C) = some (.type "type")
  kC : PySem.W.keepIn K (.ref C) = true
section
variable {X : Cx} {pins : List (Addr × Obj)} {σ : L2.St} {H : Hp} {s : Shared} {a C dx : Addr} {f : Str} {y : V} {u : Value} {fs : List (Str × V)} {Q : Unit → Shared → Prop} {E : Value → Shared → Prop} {A : Around}
theorem OexL.cd {K : PySem.W.Frag} {C : Addr} (T : OexL K C) : ∃ cd, PySem.W.clsIn K C = some cd ∧ OverL cd.mro ∧ cd.hasDict = true := by
  obtain ⟨nm, q, N, bs, bm, sn, sub, ab, col, dd, k0, k1, k2, k3, k5, hC, ob⟩ := T.cls
  exact ⟨{ name := nm, bases := bs, mro := .ref C :: bm, ns := N, qualname := q, hasDict := true, slotNames := sn, subclasses := sub, abstract := ab, collection := col, hasDel := false }, by unfold PySem.W.clsIn; rw [hC] <;> rfl, .own _ _ ob, rfl⟩
theorem ostL_new (T : OexL X.K C) (I : Inv X pins σ H s) (e : H a = some (exo a C none)) (hno : PySem.W.findIn X.K (.ref C) f = some none) (ry : RelV y u)
    (q : ∀ dx s', H dx = none → dx ≠ a → Inv X pins σ (upd (upd H dx (exd dx [(f, y)])) a (exo a C (some dx))) s' → Q () s') : wpAny (model X.prog X.w) A (setAttr (.ref a) f u) Q E s := by
  obtain ⟨cd, hcl, oc, hh⟩ := T.cd
  obtain ⟨t1, at0⟩ := exo_at I.hok e
  obtain ⟨hp, gs, dr, t, os⟩ := s
  refine PySem.W.set_plain I.kIn (ox := { cls := .ref C, dict := none, data := .fields #[.ref t1, .none, .none, .none, .bool false, .none] }) (od := none) ⟨at0, rfl, rfl, trivial⟩ T.sa (osaL_new I.kIn at0 hcl oc hh hno (fun h' tk' dx kp up nda hx hn => ?_))
  have fr : H dx = none := I.hok.fresh up
  have ndx : ∀ {b : Addr} {o : Obj}, hp.get? b = some o → b ≠ dx := fun {b o} z => Nat.ne_of_lt (Nat.lt_of_lt_of_le (Heap.lt_size z) up)
  have nda2 : ∀ {b : Addr}, H b = none → b ≠ a := fun {b} n z => by rw [z, e] at n; cases n
  have U : Un X.fs [] H (upd (upd H dx (exd dx [(f, y)])) a (exo a C (some dx))) hp h' := {
    keep := fun b o z n _ _ => kp b o (nda2 n) z
    slot := fun b o z n _ _ => ⟨o.slots, kp b o (nda2 n) z⟩
    free := fun b o z n _ => by rw [upd_ne (nda2 n), upd_ne (ndx z)]; exact n
    there := fun b o z _ => by
      by_cases hb : b = a
      · exact ⟨_, by rw [hb]; exact hx⟩
      · exact ⟨o, kp b o hb z⟩
    tups := fun b xs z => by rw [upd_ne (at_ne e z exo_tup), upd_ne (ne_of_none z fr)]; exact z
    frzs := fun b o v z => by rw [upd_ne (at_ne e z exo_frz), upd_ne (ne_of_none z fr)]; exact z
    tbls := fun b ps z => ⟨#[], by rw [upd_ne (at_ne e z exo_tbl), upd_ne (ne_of_none z fr), z]; simp⟩ }
  refine q dx _ fr nda (I.un (t' := tk') U fun b o z => ?_)
  by_cases hb : b = a
  · subst hb; rw [upd_same] at z; cases z; exact exo_ok hx
  · rw [upd_ne hb] at z
    by_cases hd : b = dx
    · subst hd; rw [upd_same] at z; cases z; exact exd_ok hn (relO_put (fs := []) ry fun _ => True.intro)
    · rw [upd_ne hd] at z
      refine (I.hok b o z).stay (fun c v hc w' => kp c v ?_ w') (fun c hc => by rw [upd_ne (at_ne e hc exo_own), upd_ne (ne_of_none hc fr)]; exact hc) (fun c xs hc => by rw [upd_ne (at_ne e hc exo_tup), upd_ne (ne_of_none hc fr)]; exact hc)
      exact hc.elim (fun hc => hc ▸ hb) fun hc => at_ne e hc exo_own
theorem ostL_old (T : OexL X.K C) (I : Inv X pins σ H s) (e : H a = some (exo a C (some dx))) (ed : H dx = some (exd dx fs)) (hl : fs.length ≤ 900) (hno : PySem.W.findIn X.K (.ref C) f = some none) (ry : RelV y u)
    (q : ∀ s', Inv X pins σ (upd H dx (exd dx ((f, y) :: fs))) s' → Q () s') : wpAny (model X.prog X.w) A (setAttr (.ref a) f u) Q E s := by
  obtain ⟨cd, hcl, oc, hh⟩ := T.cd
  obtain ⟨t1, at0⟩ := exo_at I.hok e
  obtain ⟨mA, hns, rel⟩ := exd_at I.hok ed
  have hw := within_of rel
  obtain ⟨hp, gs, dr, t, os⟩ := s
  obtain ⟨oD, _, _, at1, _, _⟩ := hns.count hw
  refine PySem.W.set_plain I.kIn (ox := { cls := .ref C, dict := some dx, data := .fields #[.ref t1, .none, .none, .none, .bool false, .none] }) (od := some oD) ⟨at0, rfl, rfl, at1⟩ T.sa (osaL_old I.kIn at0 hns hw (by rw [List.length_map]; omega) hcl oc hh hno (fun h' tk' kp hn => ?_))
  have hd : ∃ o, h'.get? dx = some o := hn.elim fun o h => h.elim fun _ h => h.elim fun _ h => ⟨o, h.1⟩
  exact q _ (I.write (t' := tk') (x := dx) (e := dx) (o := exd dx ((f, y) :: fs)) (by rw [ed]; exact True.intro) (.inl rfl) kp hd (exd_ok hn (relO_put ry rel)))
theorem oinitL {us : List Value} {R : Value → Shared → Prop} (T : OexL X.K C) (I : Inv X pins σ H s) (e : H a = some (exo a C none)) (hl : us.length ≤ sizeLine) (q : ∀ s', Inv X pins σ H s' → R .none s') : wpAny (model X.prog X.w) A (call (.builtin "LookupError.__init__") (.ref a :: us)) R E s := by
  obtain ⟨nm, qn, N, bs, bm, sn, sub, ab, col, dd, k0, k1, k2, k3, k5, hC, ob⟩ := T.cls
  obtain ⟨t1, at0⟩ := exo_at I.hok e
  obtain ⟨hp, gs, dr, t, os⟩ := s
  refine wpAny_call (PySem.HandSPX.init_base PySem.F.excBase_LookupError (fun Y => ob.has Y) (I.kIn _ _ hC) at0 hl fun h' t2 kp hx => ?_)
  have J := I.write (t' := t) (x := a) (e := a) (o := exo a C none) (by rw [e]; exact True.intro) (.inl rfl) kp ⟨_, hx⟩ (exo_ok hx)
  rw [show upd H a (exo a C none) = H from funext fun b => if hb : b = a then by rw [hb, upd_same, e] else upd_ne hb] at J
  exact q _ J
end

/-! ### readings and rules -/
def tLeI (K : PySem.W.Frag) (ta : TA) : TE := fun σ H Q => ta σ H fun vs H1 => ∃ (a C : Addr) (ws : List V), vs = .ref a :: ws ∧ ws.length ≤ 1000 ∧ OexL K C ∧ H1 a = some (exo a C none) ∧ Q .non H1
def tOstL (K : PySem.W.Frag) (f : Str) (to te : TE) : TS := fun D σ H => te σ H fun y H1 => to σ H1 fun x H2 => ∃ a C : Addr, x = .ref a ∧ OexL K C ∧ PySem.W.findIn K (.ref C) f = some none ∧
  ((H2 a = some (exo a C none) ∧ ∀ dx, H2 dx = none → dx ≠ a → D.nx σ (upd (upd H2 dx (exd dx [(f, y)])) a (exo a C (some dx)))) ∨ ∃ (dx : Addr) (fs : List (Str × V)), H2 a = some (exo a C (some dx)) ∧ H2 dx = some (exd dx fs) ∧ fs.length ≤ 900 ∧ D.nx σ (upd H2 dx (exd dx ((f, y) :: fs))))
theorem typ_LE : typeOf (.type "LookupError") = pure (.type "type") := by kernel_rfl
theorem boot_LE : bootBuiltins "LookupError" = some (.type "LookupError") := by decide +kernel
section
variable {X : Cx} {o e : Expr} {es : List Expr} {to te : TE} {ta : TA} {f : Str} {p p' p1 p2 pos : Pos}
theorem pe_leinit {pl : Sem Bool} (hg : Gl X "LookupError") (hm : X.mg "LookupError" = none) (vV : PySem.W.findCls X.K (.type "LookupError") (.type "type") "__init__" = some (.val (.builtin "LookupError.__init__"))) (ha : PA X (e :: es) ta)
    (hc : eval (.Call (.Attribute (.Name "LookupError" p1) "__init__" p2) (e :: es) [] pos) X.env = (do
      let cls ← eval (.Name "LookupError" p1) X.env
      standAt p2.atName
      let (fn, fst) ← holding [cls] (getMethod cls "__init__" pl)
      callWith pos fn fst (backTo pos (starEach (e :: es) X.env)) (backToKw pos (keywordEach [] X.env))) := by rfl)
    (he : starEach (e :: es) X.env = (false, eval e X.env) :: starEach es X.env := by rfl) (hpl : (backTo pos (starEach es X.env)).any (·.1) = false := by rfl) : PE X (.Call (.Attribute (.Name "LookupError" p1) "__init__" p2) (e :: es) [] pos) (tLeI X.K ta) := by
  refine ⟨fun pins s σ H Q I h => PySem.W.methodCall_KW (ld_blt I hg hm boot_LE ?_ (by decide) (by decide)) hc⟩
  obtain ⟨m, fr⟩ := I.fr
  refine PySem.W.method_type fr I.ok.mod.kin typ_LE (by decide +kernel) vV (by decide +kernel) ?_; show wpAny _ _ (callWith pos (Value.builtin "LookupError.__init__") [] (backTo pos (starEach (e :: es) X.env)) []) _ _ _
  refine PyProof.Rows.callWith_method1 (thn (ha.run pos pins _ σ H _ (I.tok _) h) fun us s1 ⟨vs, H1, I1, r1, a, C, ws, ev, hl, T, ea, q⟩ => ?_) he hpl
  subst ev
  cases r1 with
  | @cons _ u0 _ ur ra rr =>
    obtain rfl : u0 = Value.ref a := ra
    exact oinitL T I1 ea (by rw [← Paired.length rr, sizeLine_eq]; omega) fun s' J => ⟨.non, H1, J, rfl, q⟩
theorem ps_ostL (ho : PE X o to) (he : PE X e te) (hs : swapsWith e (some (.Attribute o f p')) pos.line X.env = pure false := by rfl) : PS X (.Assign [.Attribute o f p'] e pos) (tOstL X.K f to te) := by
  refine ⟨fun pins s σ H D I h => plainObj_wpAny_Assign_Attribute (thn (he.run pins s σ H _ I h) fun v s1 ⟨y, H1, I1, r1, q1⟩ => thn (ho.run pins s1 σ H1 _ I1 q1) fun u s2 ⟨x, H2, I2, r2, a, C, ex, T, hno, q⟩ => ?_) hs⟩
  subst ex
  obtain rfl : u = Value.ref a := r2
  rcases q with ⟨ea, q⟩ | ⟨dx, fs, ea, ed, hl, q⟩
  · exact ostL_new T I2 ea hno r1 fun dx s' n ne J => ⟨σ, _, J, q dx n ne⟩
  · exact ostL_old T I2 ea ed hl hno r1 fun s' J => ⟨σ, _, J, q⟩
theorem pmk_oexL {CX : CXT} {x : Str} {C fI : Addr} {k : Nat} {fd : FuncData} {ps : List Str} {sp : Sp} (T : OexL X.K C) (iC : PySem.W.findIn X.K (.ref C) "__init__" = some (some (.ref fI))) (tI : PySem.W.typeIn X.K (.ref fI) = some (.type "function"))
    (F1 : FnOk X.prog X.w X.K X.mg X.base CX k fI fd ps sp) (hr : Room (k + 1) X.A) (hb : Binds X.K fd ps []) (hx : Passes CX X (fun _ _ _ => False)) (hg : Gl X x) (hm : X.mg x = some (.ref C)) (ha : PA X (e :: es) ta)
    (hdb : (x == ("__debug__" : Str)) = false := by decide) (he : starEach (e :: es) X.env = (false, eval e X.env) :: starEach es X.env := by rfl) (hpl : (backTo pos (starEach es X.env)).any (·.1) = false := by rfl) :
    L2N.PMk X (.Call (.Name x p) (e :: es) [] pos) (tMkO C sp [] ta) := by
  intro pins s σ H Q I h
  obtain ⟨nm, q, N, bs, bm, sn, sub, ab, col, dd, k0, k1, k2, k3, k5, hC, ob⟩ := T.cls
  refine wpAny_Call_Name_kw (ld_glob I hg hm (PySem.W.callWith_K (h₀ := X.base) I.ok.mod.kin T.kC (thn (ha.run pos pins s σ H _ I h) fun us s1 ⟨vs, H1, I1, r1, hz, q1⟩ => ⟨I1.kIn, ?_⟩) he hpl) hdb)
  show wpAny _ _ (call (.ref C) us) _ _ _
  obtain ⟨hp, g, dr, tk, os⟩ := s1
  have up1 : hp.objs.size ≤ hp.objs.size + 1 := Nat.le_succ _
  have hq := q1 (hp.objs.size + 1) (I1.hok.fresh up1)
  rw [List.append_nil] at hq
  have kk : ∀ b o, hp.get? b = some o → ((hp.push (PySem.W.kdv_tup us)).push (PySem.HandSPX.excO C hp.objs.size)).get? b = some o := fun b o z => Heap.get?_push_of_some _ (Heap.get?_push_of_some _ z)
  have at1 : ((hp.push (PySem.W.kdv_tup us)).push (PySem.HandSPX.excO C hp.objs.size)).get? (hp.objs.size + 1) = some (PySem.HandSPX.excO C hp.objs.size) := by heap_get
  have I2 : Inv X pins σ (upd H1 (hp.objs.size + 1) (exo _ C none)) ⟨_, g, dr, tk, os⟩ := I1.laid (t' := tk) (a := hp.objs.size + 1) (o := exo (hp.objs.size + 1) C none) (h' := (hp.push (PySem.W.kdv_tup us)).push (PySem.HandSPX.excO C hp.objs.size)) kk up1 (exo_ok at1)
  have r2 : Vals (V.ref (hp.objs.size + 1) :: vs) (Value.ref (hp.objs.size + 1) :: us) := .cons rfl r1
  have bnd := hb _ (Value.ref (hp.objs.size + 1) :: us) I2.kIn (by rw [List.append_nil]; exact r2.length.symm.trans (F1.len _ _ _ _ hq))
  rw [List.append_nil] at bnd
  have few : us.length ≤ sizeLine := by
    rw [← Paired.length r1, sizeLine_eq]
    omega
  refine wpAny_call (PySem.HandSPX.call_own PySem.F.excBase_LookupError (fun Y => ob.has Y) (I1.kIn _ _ hC) (PySem.W.looks_findIn I1.kIn iC) (fun self => PySem.W.bind_fn I1.kIn self tI) few
    (codeAny_mono (F1.run _ X.stack _ _ ⟨Value.ref (hp.objs.size + 1) :: us, []⟩ (Value.ref (hp.objs.size + 1) :: us) _ _ (fun _ _ _ => False) (hr.make C us []) (I2.env0.make C us []) bnd r2 hq) fun r s' hq' => ?_))
  cases r with
  | error er => exact hx pins σ _ _ er s' I2 hq'
  | ok fl =>
    cases fl with
    | next => exact False.elim hq'
    | brk => exact False.elim hq'
    | cont => exact False.elim hq'
    | ret u =>
      obtain ⟨v, H2, os2, bare2, un2, hok2, rv, ev, d, fs, ea, ed, hd1, q2⟩ := hq'
      subst ev
      obtain ⟨h2, g2, d2, t2, os'⟩ := s'
      obtain ⟨t0, G, J, kG, ge, hoe, na⟩ := mk_end0 (d2 := d2) (t2 := t2) I1 up1 kk un2 hok2 os2 bare2 ea ed hd1
      exact ⟨rv, hp.objs.size + 1, _, _, ⟨G, g2, d2, t2, os'⟩, _, .ref C, some d, rfl, J, kG, ge, hoe, ⟨rfl, rfl, fun vs z => by cases z; rfl⟩, rfl, rfl, na, rfl, bare2, raises_own T.exC T.tyC, q2⟩
end
/-! ### made by its name, and raised -/
structure MkL (P : Program) (w : World) (K : PySem.W.Frag) (mg : Str → Option Value) (base : Heap) (x : Str) (ps : List Str) (k : Nat) (C : Addr) (sp : Sp) : Prop where
  T : OexL K C
  ex : ∃ (fI : Addr) (fd : FuncData), PySem.W.findIn K (.ref C) "__init__" = some (some (.ref fI)) ∧ PySem.W.typeIn K (.ref fI) = some (.type "function") ∧ FnOk P w K mg base CX0 k fI fd ps sp ∧ Binds K fd ps [] ∧ mg x = some (.ref C)
theorem MkL.mono {P : Program} {w : World} {K : PySem.W.Frag} {mg : Str → Option Value} {base : Heap} {x : Str} {ps : List Str} {j k : Nat} {C : Addr} {sp : Sp} (c : MkL P w K mg base x ps j C sp) (h : j ≤ k) : MkL P w K mg base x ps k C sp := by
  obtain ⟨T, fI, fd, a, b, o, r⟩ := c
  exact ⟨T, fI, fd, a, b, o.mono h, r⟩
section
variable {X : Cx} {x : Str} {ps : List Str} {k : Nat} {C : Addr} {sp : Sp} {e : Expr} {es : List Expr} {ta : TA} {p pos rp : Pos} {W : WX}
theorem ps_raiseL (hc : X.calm = true) (tk : L2N.Takes X W) (c : MkL X.prog X.w X.K X.mg X.base x ps k C sp) (hr : Room (k + 1) X.A) (hg : Gl X x) (ha : PA X (e :: es) ta)
    (hdb : (x == ("__debug__" : Str)) = false := by decide) (he : starEach (e :: es) X.env = (false, eval e X.env) :: starEach es X.env := by rfl) (hpl : (backTo pos (starEach es X.env)).any (·.1) = false := by rfl) :
    PS X (.Raise (some (.Call (.Name x p) (e :: es) [] pos)) none rp) (fun _ σ H => tMkO C sp [] ta σ H fun cls d H' => W cls d σ H') := by
  obtain ⟨T, fI, fd, a, b, o, r, m⟩ := c
  exact L2N.ps_raise hc tk (pmk_oexL T a b o hr r pass0 hg m ha hdb he hpl)
end
def spMissI (K : PySem.W.Frag) : Sp := fun vs H Q _ => ∃ (a C : Addr) (tag told : Str), vs = [.ref a, .str tag, .str told] ∧ OexL K C ∧ H a = some (exo a C none) ∧ PySem.W.findIn K (.ref C) "tag" = some none ∧
  ∀ dx, H dx = none → dx ≠ a → Q .non (upd (upd H dx (exd dx [("tag", .str tag)])) a (exo a C (some dx)))
def spOwnL (K : PySem.W.Frag) (tag fn : Str) : Sp := fun vs H Q _ => ∃ (a C : Addr) (n : Int), vs = [.ref a, .int n] ∧ n.natAbs.log2 < 1920 ∧ OexL K C ∧ H a = some (exo a C none) ∧ PySem.W.findIn K (.ref C) "tag" = some none ∧ PySem.W.findIn K (.ref C) fn = some none ∧
  ∀ dx, H dx = none → dx ≠ a → Q .non (upd (upd (upd H dx (exd dx [("tag", .str tag)])) a (exo a C (some dx))) dx (exd dx [(fn, .int n), ("tag", .str tag)]))
theorem rd_raiseL {K : PySem.W.Frag} {tag fn : Str} {C : Addr} {n : Int} {H : Hp} {Q : XK} {σ : L2.St} {te : TE} (T : OexL K C) (hn : n.natAbs.log2 < 1920) (ft : PySem.W.findIn K (.ref C) "tag" = some none) (ff : PySem.W.findIn K (.ref C) fn = some none)
    (ht : ∀ R : VK, R (.int n) H → te σ H R) (q : ∀ d Hf, Same H Hf → Hf d = some (.xd [(fn, .int n), ("tag", .str tag)]) → Q (.ref C) (some d) Hf) : tMkO C (spOwnL K tag fn) [] (tCons te tNil) σ H Q := by
  refine ht _ ⟨by show 1 ≤ 1000; decide, fun a na => ⟨a, C, n, rfl, hn, T, upd_same, ft, ff, fun dx ndx nda => ⟨rfl, dx, _, ?_, upd_same, ?_, ?_⟩⟩⟩
  · rw [upd_ne (Ne.symm nda), upd_same]
  · rwa [upd_ne nda] at ndx
  · refine q dx _ (fun b o e => ?_) upd_same
    have nb : b ≠ a := ne_of_none e na
    rw [upd_ne nda] at ndx
    have nd : b ≠ dx := ne_of_none e ndx
    rw [upd_ne nd, del_ne nb, upd_ne nd, upd_ne nb, upd_ne nd, upd_ne nb]
    exact e
def oexLB (K : PySem.W.Frag) (C : Addr) : Bool := match K.lookup C with
  | some ⟨.type "type", _, .cls cd, sl⟩ => (match cd.mro, sl.toList with
    | .ref C' :: bm, [_, _, _, _, some (.builtin n), _] => C' == C && n == "LookupError.__new__" && !cd.hasDel && cd.hasDict && overB bm
    | _, _ => false)
  | _ => false
theorem oexLB_cls {K : PySem.W.Frag} {C : Addr} (q : oexLB K C = true) : ∃ nm q N bs bm sn sub ab col dd k0 k1 k2 k3 k5, K.lookup C = some (excClassObj nm q C N bs bm true sn sub ab col dd k0 k1 k2 k3 k5 "LookupError.__new__") ∧ OverL bm := by
  unfold oexLB at q
  split at q
  · rename_i dd cd sl ho
    split at q
    · rename_i C' bm k0 k1 k2 k3 n k5 hm hs
      simp only [Bool.and_eq_true, beq_iff_eq, Bool.not_eq_true'] at q
      obtain ⟨⟨⟨⟨rfl, rfl⟩, hdel⟩, hdct⟩, hv⟩ := q
      obtain ⟨nm, bs, mro, ns, qn, hd, sn, sub, ab, col, del⟩ := cd
      dsimp only at hm hdel hdct
      subst hm hdel hdct
      obtain ⟨l⟩ := sl
      simp only at hs
      subst hs
      exact ⟨nm, qn, ns, bs, bm, sn, sub, ab, col, dd, k0, k1, k2, k3, k5, ho, overB_ok _ hv⟩
    · cases q
  · cases q
end TT
/-! a lambda that a def hands on to another def -/
namespace TT
open PySem PySem.Spec PyProof.Rows L2 HotX LamX
theorem Un.comp {fs fs' : List Addr} {H H1 H2 : Hp} {h h1 h2 : Heap} (a : Un fs [] H H1 h h1) (b : Un fs' [] H1 H2 h1 h2) (sub : ∀ x ∈ fs', x ∈ fs ∨ h.get? x = none) (sup : ∀ x ∈ fs, x ∈ fs') : Un fs [] H H2 h h2 where
  keep := fun x o e n nf nx => b.keep x o (a.keep x o e n nf nx) (a.free x o e n nx) (fun m => (sub x m).elim nf fun z => by rw [z] at e; cases e) nx
  slot := fun x o e n mf nx => by
    obtain ⟨sl, e1⟩ := a.slot x o e n mf nx
    obtain ⟨sl2, e2⟩ := b.slot x _ e1 (a.free x o e n nx) (sup x mf) nx
    exact ⟨sl2, e2⟩
  free := fun x o e n nx => by
    obtain ⟨sl, e1⟩ := a.any e n nx
    exact b.free x _ e1 (a.free x o e n nx) nx
  there := fun x o e nx => by
    obtain ⟨o1, e1⟩ := a.there x o e nx
    exact b.there x o1 e1 nx
  tups := fun x xs e => b.tups x xs (a.tups x xs e)
  frzs := fun x o u e => b.frzs x o u (a.frzs x o u e)
  tbls := fun x ps e => by
    obtain ⟨m1, e1⟩ := a.tbls x ps e
    obtain ⟨m2, e2⟩ := b.tbls x _ e1
    exact ⟨m1 ++ m2, by rw [e2, Array.append_assoc]⟩
section
variable {X : Cx} {pins : List (Addr × Obj)} {σ : L2.St} {H : Hp} {s : Shared}
/-- the lambda called in a frame however deep -/
theorem pe_actG {CXg : CXT} {Eg : XK} {Ng : List Str} {qg : Str} {sg : Scope} {g f c' : Addr} {cdg pm ctv : Value} {params : Arguments} {body : Expr} {scope : Scope} {k i : Nat} {a : Str} {pn : List (Addr × Obj)} {xe : Value → Shared → Prop} {W : WX} {E : XK} {tb : TE} {p1 p2 : Pos} {YA : Around} {Ys : List Env} {s0 : Shared} {H0 : Hp}
    (I : Inv X pins σ H s) (L : LamS X.env.scope scope) (hf : s.heap.get? f = some (PySem.W.kla_obj "<lambda>" (X.env.qual ++ "<lambda>") params body scope (cloFrom X.env.cells scope.names []) pm c' ctv)) (hfn : H f = none) (hfr : f ∉ frs X.stack)
    (hbind : bindArgs (PySem.W.kla_fn "<lambda>" (X.env.qual ++ "<lambda>") params body scope (cloFrom X.env.cells scope.names []) pm (.ref c') ctv) ⟨[], []⟩ = pure [])
    (link : Un (frs X.stack) [] H H0 s.heap s0.heap) (sub : ∀ b ∈ frs Ys, b ∈ frs X.stack ∨ s.heap.get? b = none) (sup : ∀ b ∈ frs X.stack, b ∈ frs Ys)
    (tk : L2N.Takes ((cxOf CXg X.prog X.w X.K X.mg X.base Ng qg sg g cdg YA Ys s0 H0 Eg).tr pn xe) W) (hr : Room (k + 1) (YA.deeper (envOfC qg sg s0.heap.objs.size g cdg)))
    (hbody : ∀ (A : Around) (outer : List Env) (s : Shared) (H : Hp), Room k (A.deeper (lamEnv X scope s.heap.objs.size f c')) → PE (lamN X A outer s H E scope f c') body tb)
    (hN : Ng[i]? = some a) (hv : Vis sg a) (hd : (a == ("__debug__" : Str)) = false := by decide) (hcd : (a == ("__classdict__" : Str)) = false := by decide) :
    PE ((cxOf CXg X.prog X.w X.K X.mg X.base Ng qg sg g cdg YA Ys s0 H0 Eg).tr pn xe) (.Call (.Name a p1) [] [] p2)
      (fun σZ HZ Q => (∀ cls d H', E cls d H' → W cls d σZ H') ∧ σZ[i]? = some (some (.ref f)) ∧ HZ c' = some (CodeO c' (X.env.qual ++ "<lambda>")) ∧ tb σ HZ Q) := ⟨fun pinsZ sZ σZ HZ Q IZ h => by
  obtain ⟨hW, hs, hc, ht⟩ := h
  refine wpAny_Call_Name_kw (thn ((pe_var (pos := p1) (i := i) hN hv hd hcd).run pinsZ sZ σZ HZ (fun v H1 => v = .ref f ∧ H1 = HZ) IZ ⟨.ref f, hs, rfl, rfl⟩) fun u s1 ⟨v, H1, I1, r1, ev, eH⟩ => ?_)
  subst ev
  rw [eH] at I1
  obtain rfl : u = Value.ref f := r1
  have un : Un (frs X.stack) [] H HZ s.heap s1.heap := Un.comp link I1.base sub sup
  have of1 := un.keep f _ hf hfn hfr (fun z => nomatch (show f ∈ ([] : List Addr) from z))
  refine PySem.W.callWith_F0 ⟨_, _, _, _, of1⟩ ?_
  obtain ⟨⟨oc, vs, t, hoc, hdc, hvc⟩, _, _⟩ := I1.hok c' _ hc
  refine wpAny_call (codeAny_mono (R := CR (L2N.CX X.prog X.w) (envOfC qg sg s0.heap.objs.size g cdg :: Ys) X.prog X.w HZ s1 Q E) (PySem.W.kla_callFunE hr.depth of1 rfl L.co L.gen rfl ⟨c', oc, vs, t, rfl, hoc, hdc, hvc⟩ ?_) fun r s' hq => ?_)
  · rw [show bindArgs (PySem.W.kla_fn "<lambda>" (X.env.qual ++ "<lambda>") params body scope (cloFrom X.env.cells scope.names []) pm (.ref c') ctv) ⟨[] ++ [], []⟩ = pure [] from hbind]
    refine wpAny_pure (wpAny_newFunctionEnv (fun y hy => (L.own y hy).2) (fun y hy => absurd hy (by simp)) (fun h₁ hns hsb => ⟨I1.nolimit.fresh _ hsb, ?_⟩) L.kind)
    show codeAny _ _ (.expr body (lamEnv X scope s1.heap.objs.size f c')) _ _
    have kp : ∀ b o, s1.heap.get? b = some o → h₁.get? b = some o := fun b o z => hsb.extBut b o (Nat.ne_of_lt (Heap.lt_size z)) (Heap.get?_push_of_some _ z)
    have J0 : Inv (lamCx X (YA.deeper (envOfC qg sg s0.heap.objs.size g cdg)) (envOfC qg sg s0.heap.objs.size g cdg :: Ys) s1 HZ E scope f c') [] σ HZ { s1 with heap := h₁, toks := s1.toks + ([] : List (Str × Value)).length } := lam_start2 I L I1.env0 hr.hd un hns kp
    have J := J0.toTry (fun e s' => wpAny (model X.prog X.w) ((YA.deeper (envOfC qg sg s0.heap.objs.size g cdg)).deeper (lamEnv X scope s1.heap.objs.size f c')) (leaving (lamEnv X scope s1.heap.objs.size f c') e) (fun _ s'' => L2N.CX X.prog X.w (envOfC qg sg s0.heap.objs.size g cdg :: Ys) HZ s1 E e s'') (fun e' s'' => L2N.CX X.prog X.w (envOfC qg sg s0.heap.objs.size g cdg :: Ys) HZ s1 E e' s'') s')
    refine PySem.W.kla_codeExpr (wpAny_mono ((hbody _ _ s1 HZ (hr.deeper _)).run [] _ _ HZ Q J ht) (fun v s' hq => ?_) fun e s' hq => hq)
    obtain ⟨w', H', J', rv, q⟩ := hq
    exact ⟨w', H', J'.os, J'.bare, J'.base, J'.hok, rv, q⟩
  · cases r with
    | error e => exact tk e s' (L2N.XE.of_call I1 hW hq)
    | ok fl =>
      cases fl with
      | ret u => exact I1.after hq
      | next => exact False.elim hq
      | brk => exact False.elim hq
      | cont => exact False.elim hq⟩
end

/-- the lambda f may be called in any frame above X's -/
def ActG (X : Cx) (f c' : Addr) (s : Shared) (H : Hp) (q : Str) (k : Nat) (tl : XK → Hp → VK → Prop) : Prop :=
  ∀ (Ng : List Str) (qg : Str) (sg : Scope) (g : Addr) (cdg : Value) (YA : Around) (Ys : List Env) (s0 : Shared) (H0 : Hp) (a : Str) (W : WX) (pn : List (Addr × Obj)) (xe : Value → Shared → Prop) (E : XK) (p1 p2 : Pos),
    Un (frs X.stack) [] H H0 s.heap s0.heap → (∀ b ∈ frs Ys, b ∈ frs X.stack ∨ s.heap.get? b = none) → (∀ b ∈ frs X.stack, b ∈ frs Ys) → Ng[0]? = some a → Vis sg a → (a == ("__debug__" : Str)) = false → (a == ("__classdict__" : Str)) = false → Room (k + 1) (YA.deeper (envOfC qg sg s0.heap.objs.size g cdg)) →
    L2N.Takes ((cxOf C8.CX0 X.prog X.w X.K X.mg X.base Ng qg sg g cdg YA Ys s0 H0 C8.E0).tr pn xe) W →
    PE ((cxOf C8.CX0 X.prog X.w X.K X.mg X.base Ng qg sg g cdg YA Ys s0 H0 C8.E0).tr pn xe) (.Call (.Name a p1) [] [] p2) (fun σZ HZ Q => (∀ cls d H', E cls d H' → W cls d σZ H') ∧ σZ[0]? = some (some (.ref f)) ∧ HZ c' = some (CodeO c' q) ∧ tl E HZ Q)
/-- a def that is given the lambda -/
def GivM (X : Cx) (Ng : List Str) (x : Str) (sg : Scope) (g : Addr) (cdg : Value) (bg : List Stmt) (q : Str) (j k : Nat) (TO : (XK → Hp → VK → Prop) → Hp → VK → Prop) : Prop :=
  ∀ (f c' : Addr) (s : Shared) (H : Hp) (Q : VK) (tl : XK → Hp → VK → Prop), Room k (X.A.deeper (envOfC x sg s.heap.objs.size g cdg)) → ActG X f c' s H q j tl → H c' = some (CodeO c' q) → TO tl H Q →
    ∃ t, PSs (cxOf C8.CX0 X.prog X.w X.K X.mg X.base Ng x sg g cdg X.A X.stack s H C8.E0).nox bg t ∧ t { nx := fun _ H' => Q .non H', rt := Q } (L2.start Ng [.ref f]) H
section
variable {X : Cx}
theorem pe_lamM {T : List (Addr × Str)} {TO : (XK → Hp → VK → Prop) → Hp → VK → Prop} {x a : Str} {g c P : Addr} {j k : Nat} {pg : Arguments} {bg : List Stmt} {sg : Scope} {dV kV doc pm cdv ct oc : Value} {an od : Option Addr} {osl : Array (Option Value)} {Ng : List Str}
    {params : Arguments} {body : Expr} {scope : Scope} {t : XK → TE} {p lpos pos : Pos} (hg : Gl X x) (hm : X.mg x = some (.ref g)) (hk : PySem.W.keepIn X.K (.ref g) = true)
    (lk : X.K.lookup g = some ⟨oc, od, .func (PySem.W.fnOf x x pg bg sg dV kV doc pm an cdv ct), osl⟩) (hcg : PySem.W.codeIn X.K cdv x = true) (hb : L2.Binds X.K (PySem.W.fnOf x x pg bg sg dV kV doc pm an cdv ct) [a] []) (Sg : FnScope Ng [a] sg)
    (hG : GivM X Ng x sg g cdv bg (X.env.qual ++ "<lambda>") j k TO)
    (TB : TabB X.base X.mg c P) (hcode : X.env.code = .ref c) (hmT : (P, X.env.qual ++ "<lambda>") ∈ T) (hu : ∀ p ∈ T, p.1 = P → p.2 = X.env.qual ++ "<lambda>") (hr : Room (k + 1) X.A) (L : LamS X.env.scope scope) (hdef : defaultsOf params X.env = ([], []))
    (hbind : ∀ (q : Str) (cl : List (Str × Addr)) (pm cv ctv : Value), bindArgs (PySem.W.kla_fn "<lambda>" q params body scope cl pm cv ctv) ⟨[], []⟩ = pure [])
    (hbody : ∀ (A : Around) (outer : List Env) (s : Shared) (H : Hp) (E : XK) (f c' : Addr), Room j (A.deeper (lamEnv X scope s.heap.objs.size f c')) → PE (lamN X A outer s H E scope f c') body (t E))
    (hdb : (x == ("__debug__" : Str)) = false := by decide) : PE X (.Call (.Name x p) [.Lambda params body scope lpos] [] pos) (tLam T TO t) := ⟨fun pins s σ H Q I h => by
  obtain ⟨hT, h⟩ := h
  refine wpAny_Call_Name_kw (ld_glob I hg hm (PySem.W.callWith_K (h₀ := X.base) I.ok.mod.kin hk ?_ (by rfl) (by rfl)) hdb)
  show wpAny _ _ (spliced ((false, eval (.Lambda params body scope lpos) X.env) :: backTo pos (starEach [] X.env))) _ _ s
  refine Calls.spliced_cons (lam_make2 I TB hcode hmT hu hT hdef (L.has I.ok) fun f c' pm' ctv H1 s' I1 eN T1 hf hfn hfr hco => Calls.spliced_nil ⟨I1.kIn, ?_⟩)
  refine wpAny_call (codeAny_mono (R := CR C8.CX0 X.stack X.prog X.w H1 s' Q C8.E0) (run_ofS (N := Ng) (ps := [a]) (us := [.ref f]) (vs := [.ref f]) lk hcg Sg hr I1.env0 (hb s' [.ref f] I1.kIn rfl) (.cons rfl .nil) rfl fun hr' => ?_) fun r s2 hq => ?_)
  · obtain ⟨t', ht', hq'⟩ := hG f c' s' H1 Q (fun E H' Q' => t E σ H' Q') hr' (fun Ng qg sg g cdg YA Ys s0 H0 a W pn xe E p1 p2 link sub sup hN hv d1 d2 hr2 tk => pe_actG (i := 0) I1 L hf hfn hfr (hbind _ _ _ _ _) link sub sup tk hr2 (fun A outer s H hr3 => hbody A outer s H E f c' hr3) hN hv d1 d2) hco (h H1 eN T1)
    exact ⟨t', ht'.nox, hq'⟩
  · cases r with
    | error e => exact (show False from hq).elim
    | ok fl =>
      cases fl with
      | ret u => exact I1.after hq
      | next => exact False.elim hq
      | brk => exact False.elim hq
      | cont => exact False.elim hq⟩
/-- GivN for a frame at once -/
theorem GivM.of {Ng : List Str} {x a q : Str} {sg : Scope} {g : Addr} {cdg : Value} {bg : List Stmt} {k : Nat} {TO : (XK → Hp → VK → Prop) → Hp → VK → Prop} (hG : GivN X Ng x sg g cdg bg a q (k + 1) TO) (hN : Ng[0]? = some a) (hv : Vis sg a) (d1 : (a == ("__debug__" : Str)) = false := by decide) (d2 : (a == ("__classdict__" : Str)) = false := by decide) :
    GivM X Ng x sg g cdg bg q k (k + 1) TO := fun f c' s H Q tl hr act hc h =>
  hG f c' s H Q tl hr (fun W pn xe E p1 p2 tk => act Ng x sg g cdg X.A X.stack s H a W pn xe E p1 p2 (Un.refl) (fun _ h => .inl h) (fun _ h => h) hN hv d1 d2 hr tk) hc h
/-- in the frame of the def: the lambda is handed on to y -/
theorem pe_onN {Ne : List Str} {xe ye ae ao : Str} {se so : Scope} {ge go : Addr} {cde : Value} {s : Shared} {H : Hp} {f c' : Addr} {q : Str} {j : Nat} {tl : XK → Hp → VK → Prop} {TO : (XK → Hp → VK → Prop) → Hp → VK → Prop} {No : List Str} {po : Arguments} {bo : List Stmt} {dV kV doc pm cdv ct oc : Value} {an od : Option Addr} {osl : Array (Option Value)} {p p1 pos : Pos}
    (hg : Gl (cxOf C8.CX0 X.prog X.w X.K X.mg X.base Ne xe se ge cde X.A X.stack s H C8.E0).nox ye) (hm : X.mg ye = some (.ref go)) (hk : PySem.W.keepIn X.K (.ref go) = true)
    (lk : X.K.lookup go = some ⟨oc, od, .func (PySem.W.fnOf ye ye po bo so dV kV doc pm an cdv ct), osl⟩) (hcg : PySem.W.codeIn X.K cdv ye = true) (hb : L2.Binds X.K (PySem.W.fnOf ye ye po bo so dV kV doc pm an cdv ct) [ao] []) (So : FnScope No [ao] so) (hNo : No[0]? = some ao) (hva : Vis so ao)
    (hG : GivN (cxOf C8.CX0 X.prog X.w X.K X.mg X.base Ne xe se ge cde X.A X.stack s H C8.E0).nox No ye so go cdv bo ao q (j + 1) TO) (hr : Room (j + 2) (X.A.deeper (envOfC xe se s.heap.objs.size ge cde))) (act : ActG X f c' s H q j tl)
    (hv0 : PE (cxOf C8.CX0 X.prog X.w X.K X.mg X.base Ne xe se ge cde X.A X.stack s H C8.E0).nox (.Name ae p1) (tVar 0))
    (hdb : (ye == ("__debug__" : Str)) = false := by decide) (d1 : (ao == ("__debug__" : Str)) = false := by decide) (d2 : (ao == ("__classdict__" : Str)) = false := by decide) :
    PE (cxOf C8.CX0 X.prog X.w X.K X.mg X.base Ne xe se ge cde X.A X.stack s H C8.E0).nox (.Call (.Name ye p) [.Name ae p1] [] pos) (fun σE HE Q => σE[0]? = some (some (.ref f)) ∧ HE c' = some (CodeO c' q) ∧ TO tl HE Q) := ⟨fun pins sE σE HE Q IE h => by
  obtain ⟨h0, hc, hT⟩ := h
  refine wpAny_Call_Name_kw (ld_glob IE hg hm (PySem.W.callWith_K (h₀ := X.base) IE.ok.mod.kin hk (thn ((pa_cons hv0 pa_nil).run pos pins sE σE HE (fun vs H1 => vs = [.ref f] ∧ H1 = HE) IE ⟨.ref f, h0, rfl, rfl⟩) fun us s1 ⟨vs, H1, I1, r1, ev, eH⟩ => ⟨I1.kIn, ?_⟩) (by rfl) (by rfl)) hdb)
  subst ev
  rw [eH] at I1
  obtain rfl := Vals.ref1 r1
  refine wpAny_call (codeAny_mono (R := CR C8.CX0 (envOfC xe se s.heap.objs.size ge cde :: X.stack) X.prog X.w HE s1 Q C8.E0) (run_ofS (N := No) (ps := [ao]) (us := [.ref f]) (vs := [.ref f]) lk hcg So hr I1.env0 (hb s1 [.ref f] I1.kIn rfl) (.cons rfl .nil) rfl fun hr' => ?_) fun r s2 hq => ?_)
  · have sub : ∀ b ∈ frs (envOfC xe se s.heap.objs.size ge cde :: X.stack), b ∈ frs X.stack ∨ s.heap.get? b = none := fun b hb => by
      obtain ⟨e, he, hfr⟩ := List.mem_filterMap.mp hb
      rcases List.mem_cons.mp he with rfl | he
      · right
        obtain rfl := Option.some.inj hfr
        cases e : s.heap.get? s.heap.objs.size with
        | none => rfl
        | some o => exact absurd (Heap.lt_size e) (Nat.lt_irrefl _)
      · exact .inl (List.mem_filterMap.mpr ⟨e, he, hfr⟩)
    have sup : ∀ b ∈ frs X.stack, b ∈ frs (envOfC xe se s.heap.objs.size ge cde :: X.stack) := fun b hb => by
      obtain ⟨e, he, hfr⟩ := List.mem_filterMap.mp hb
      exact List.mem_filterMap.mpr ⟨e, List.mem_cons_of_mem _ he, hfr⟩
    obtain ⟨t', ht', hq'⟩ := hG f c' s1 HE Q tl hr' (fun W pn xe' E p1 p2 tk => act No ye so go cdv _ _ s1 HE ao W pn xe' E p1 p2 I1.base sub sup hNo hva d1 d2 hr' tk) hc hT
    exact ⟨t', ht'.nox, hq'⟩
  · cases r with
    | error e => exact (show False from hq).elim
    | ok fl =>
      cases fl with
      | ret u => exact I1.after hq
      | next => exact False.elim hq
      | brk => exact False.elim hq
      | cont => exact False.elim hq⟩
end
end TT
namespace TT
open PySem PySem.Spec PyProof.Rows L2 LamX
open T
/-! ### promises of defs that may raise NoKey -/
def ENo (C : Addr) (key : Int) (H : Hp) (E : XK) : Prop := ∀ d Hf, Same H Hf → Hf d = some (.xd [("key", .int key), ("tag", .str "NoKey")]) → E (.ref C) (some d) Hf
theorem ENo.same {C : Addr} {key : Int} {H H1 : Hp} {E : XK} (h : ENo C key H E) (e : Same H H1) : ENo C key H1 E := fun d Hf e2 hd => h d Hf (e.trans e2) hd
def spReqX (K : PySem.W.Frag) (C : Addr) : Sp := fun vs H Q E => ∃ (a : Addr) (ks : List Int) (key : Int), vs = [.ref a, .int key] ∧ (SqL K H a (ks.map V.int) ∨ SqT K H a (ks.map V.int)) ∧ key.natAbs.log2 < 1920 ∧ (key ∈ ks → Q .non H) ∧ (key ∉ ks → ENo C key H E)
def spPathToX (K : PySem.W.Frag) (C : Addr) : Sp := fun vs H Q E => ∃ (a : Addr) (key : Int) (t : T), vs = [.ref a, .int key] ∧ SqT K H a (t.pre.map V.int) ∧ t.bst ∧ t.pre.length ≤ 1000 ∧ key.natAbs.log2 < 1920 ∧
  (key ∈ t.pre → ∀ p H', Same H H' → H p = none → H' p = some (.lst ((t.path key).map V.int)) → Q (.ref p) H') ∧ (key ∉ t.pre → ENo C key H E)
def spDepthX (K : PySem.W.Frag) (C : Addr) : Sp := fun vs H Q E => ∃ (a : Addr) (key : Int) (t : T), vs = [.ref a, .int key] ∧ SqT K H a (t.pre.map V.int) ∧ t.bst ∧ t.pre.length ≤ 1000 ∧ key.natAbs.log2 < 1920 ∧
  (key ∈ t.pre → ∀ H', Same H H' → Q (.int (t.dep key : Int)) H') ∧ (key ∉ t.pre → ENo C key H E)
def spTouchX (K : PySem.W.Frag) (C : Addr) : Sp := fun vs H Q E => ∃ (a : Addr) (key : Int) (t : T), vs = [.ref a, .int key] ∧ SqT K H a (t.pre.map V.int) ∧ t.bst ∧ t.pre.length ≤ 1000 ∧ key.natAbs.log2 < 1920 ∧
  (key ∈ t.pre → ∀ p q H', Same H H' → H' p = some (.tup [.ref q, .int (t.dep key : Int)]) → H' q = some (.tup ((t.tch key).pre.map V.int)) → Q (.ref p) H') ∧ (key ∉ t.pre → ENo C key H E)
def spTouchAllX (K : PySem.W.Frag) (C : Addr) : Sp := fun vs H Q E => ∃ (a b : Addr) (xs : List Int) (t : T), vs = [.ref a, .ref b] ∧ H a = some (.tup (t.pre.map V.int)) ∧ (SqL K H b (xs.map V.int) ∨ SqT K H b (xs.map V.int)) ∧ t.bst ∧ t.pre.length ≤ 1000 ∧ xs.length ≤ 1000 ∧ Kn xs ∧
  ((∀ x ∈ xs, x ∈ t.pre) → ∀ p q r H', Same H H' → H r = none → H' p = some (.tup [.ref q, .ref r]) → H' q = some (.tup ((t.tchs xs).pre.map V.int)) → H' r = some (.lst ((costs t xs).map V.int)) → Q (.ref p) H') ∧
  (∀ us key ws, xs = us ++ key :: ws → (∀ x ∈ us, x ∈ t.pre) → key ∉ t.pre → ENo C key H E)
/-- what _law_error tells: the outcome without the answer -/
def tErr (K : PySem.W.Frag) (cT cM : Value) (tl : XK → Hp → VK → Prop) (H : Hp) (Q : VK) : Prop := tOut K cT cM tl H fun v H' => ∃ (p : Addr) (x : V) (tag : Str) (y : V), v = .ref p ∧ H' p = some (.tup [x, .str tag, y]) ∧ ∀ r, H' r = none → Q (.ref r) (upd H' r (.tup [.str tag, y]))
def spStrange (K : PySem.W.Frag) : Sp := fun vs H Q _ => ∃ (d a : Addr) (ks : List Int) (c : Addr) (ns : List Int), vs = [.ref d, .ref a] ∧ H a = some (.lst (ks.map V.int)) ∧ Asc ks ∧ ks.length ≤ 1000 ∧ a ≠ d ∧ Drw c ns H d ∧
  ∀ x H', x ∉ ks → -1000000001 ≤ x → x ≤ 1000000001 → Ext d H H' → Drw c ns H' d → Q (.int x) H'
def spBehind (K : PySem.W.Frag) : Sp := fun vs H Q _ => ∃ (a b : Addr) (xs : List Int) (t : T), vs = [.ref a, .ref b] ∧ SqT K H a (t.pre.map V.int) ∧ SqL K H b (xs.map V.int) ∧ t.bst ∧ t.pre.length ≤ 58 ∧ xs.length ≤ 1000 ∧ (∀ x ∈ xs, x ∈ t.pre) ∧
  ∀ p q r H', Same H H' → H r = none → H' p = some (.tup [.ref q, .ref r]) → H' q = some (.tup ((t.tchs xs).pre.map V.int)) → H' r = some (.lst ((costs t xs).map V.int)) → Q (.ref p) H'
theorem passF {X : Cx} : Passes (L2N.CX X.prog X.w) X (fun _ _ _ => False) := fun _ _ _ _ _ _ _ h => by
  obtain ⟨_, _, _, _, _, _, _, _, _, _, _, _, z⟩ := h
  exact z.elim
section
variable {X : Cx} {CX : CXT} {ps ks : List Str} {k n : Nat} {sp : Sp} {x : Str} {e : Expr} {es : List Expr} {kws : List Keyword} {t tk : TA} {p pos : Pos} {gV : List V → List V → List V} {E : XK}
theorem pe_calN0X (c : CalN X.prog X.w X.K X.mg X.base CX x 0 ks k sp gV) (hx : Passes CX X E) (hr : Room k X.A) (hg : Gl X x) (hkw : PK X kws tk) (hall : (backToKw pos (keywordEach kws X.env)).all (·.1.isSome) = true := by rfl)
    (hks : (backToKw pos (keywordEach kws X.env)).filterMap (·.1) = ks := by rfl) (hdb : (x == ("__debug__" : Str)) = false := by decide)
    (hpl : ((backTo pos (starEach [] X.env)).any (·.1) || (backToKw pos (keywordEach kws X.env)).any (·.1.isNone)) = false := by rfl) : PE X (.Call (.Name x p) [] kws pos) (tCallN 0 ks.length sp gV E tNil tk) := by
  obtain ⟨f, fd, ps, g, o, a, b, d⟩ := c.ex
  refine ⟨fun pins s0 σ H Q I0 hq => wpAny_Call_Name_kw (ld_glob I0 hg a (PySem.W.callWith_KW0 (h₀ := X.base) I0.ok.mod.kin b hall (thn (hkw.run pos pins s0 σ H _ I0 hq) fun ws1 s1 ⟨zs1, H1, I1, r1, _, z2, q1⟩ => ⟨I1.kIn, ?_⟩) hpl) hdb)⟩
  rw [hks]
  exact run_fnN (us := []) (vs := []) o hr d hx I1 .nil r1 rfl z2 q1
end
theorem first_out {P : Int → Prop} : ∀ {us as : List Int} {key odd : Int} {ws zs : List Int}, us ++ key :: ws = as ++ odd :: zs → (∀ x ∈ us, P x) → ¬ P key → (∀ x ∈ as, P x) → ¬ P odd → key = odd
  | [], [], _, _, _, _, e, _, _, _, _ => (List.cons.inj e).1
  | [], a :: as, _, _, _, _, e, _, hk, ha, _ => by
    have := (List.cons.inj e).1
    exact absurd (ha a List.mem_cons_self) (this ▸ hk)
  | u :: us, [], _, _, _, _, e, hu, _, _, ho => by
    have := (List.cons.inj e).1
    exact absurd (hu u List.mem_cons_self) (this ▸ ho)
  | u :: us, a :: as, _, _, _, _, e, hu, hk, ha, ho => first_out (List.cons.inj e).2 (fun x h => hu x (List.mem_cons_of_mem _ h)) hk (fun x h => ha x (List.mem_cons_of_mem _ h)) ho
theorem rd_neE {K : PySem.W.Frag} {H : Hp} {a b : Addr} {tag : Str} {n : Int} {Q : VK} (ha : H a = some (.tup [.str tag, .int n])) (hb : H b = some (.tup [.str tag, .int n])) (hs : PyData.strOk tag = true) (q : Q (.bl false) H) : rNeD K (.ref a) (.ref b) H Q := by
  refine ⟨_, _, .tup (SqT.of ha) (.cons (.str _) (.cons (.int _) .nil)), .tup (SqT.of hb) (.cons (.str _) (.cons (.int _) .nil)), shaped2 hs (.inr ⟨n, rfl⟩), shaped2 hs (.inr ⟨n, rfl⟩), ?_⟩
  have e : PyData.eqv (.tuple [.str tag, .int n]) (.tuple [.str tag, .int n]) = true := by
    show ((PyData.eqv (.str tag) (.str tag)) && ((n == n) && PyData.eqvAll [] [])) = true
    rw [show PyData.eqv (.str tag) (.str tag) = (tag == tag) from rfl]
    simp [PyData.eqvAll]
  rw [e]
  exact q
/-- pairs of a tuple of ints and a list of ints -/
theorem eqv_ints1L {H : Hp} {a b : Addr} {ns : List Int} (ha : H a = some (.lst (ns.map V.int))) (hb : H b = some (.lst (ns.map V.int))) (hl : ns.length ≤ 1000) : Eqv H 1 (.ref a) (.ref b) := by
  refine .inr ⟨a, b, _, _, rfl, rfl, .inl ⟨ha, hb⟩, rfl, by rw [List.length_map]; exact hl, fun i u v h1 h2 => ?_⟩
  rw [h1] at h2
  cases h2
  rw [List.getElem?_map] at h1
  obtain ⟨n, _, rfl⟩ := Option.map_eq_some_iff.mp h1
  exact ⟨rfl, rfl⟩
theorem eqv_pairT {H : Hp} {a b : Addr} {n : Nat} {x y u v : V} (ha : H a = some (.tup [x, y])) (hb : H b = some (.tup [u, v])) (h1 : Eqv H n x u) (h2 : Eqv H n y v) : Eqv H (n + 1) (.ref a) (.ref b) := by
  refine .inr ⟨a, b, _, _, rfl, rfl, .inr ⟨ha, hb⟩, rfl, by show 2 ≤ 1000; decide, fun i p q g1 g2 => ?_⟩
  match i, g1, g2 with
  | 0, g1, g2 => cases g1; cases g2; exact h1
  | 1, g1, g2 => cases g1; cases g2; exact h2
  | i + 2, g1, _ => simp at g1
theorem kn_of {ks : List Int} (h : ∀ n ∈ ks, -2000000000 ≤ n ∧ n ≤ 2000000000) : Kn ks := fun n hn => log_small (by have := h n hn; omega)
end TT
namespace TT
open PySem PySem.Spec PyProof.Rows L2 LamX
open T
/-! ### a key inserted as a leaf, then touched -/
theorem ins_path {key : Int} : ∀ {t : T}, t.bst → key ∉ t.pre → (t.ins key).path key = t.path key ++ [key]
  | leaf, _, _ => by show (node leaf key leaf).path key = _; rw [path_k]; rfl
  | node l k r, b, h => by
    rw [mem_node] at h
    have n1 : key ≠ k := fun e => h (.inl e)
    have n2 : key ∉ l.pre := fun e => h (.inr (.inl e))
    have n3 : key ∉ r.pre := fun e => h (.inr (.inr e))
    unfold ins
    have e : (node l k r).path key = if key = k then [k] else if key < k then k :: l.path key else k :: r.path key := rfl
    rw [e, if_neg n1]
    split
    · next lt =>
      show (if key = k then [k] else if key < k then k :: (l.ins key).path key else k :: r.path key) = _
      rw [if_neg n1, if_pos lt, ins_path b.2.2.1 n2]; rfl
    · next lt =>
      show (if key = k then [k] else if key < k then k :: l.path key else k :: (r.ins key).path key) = _
      rw [if_neg n1, if_neg lt, ins_path b.2.2.2 n3]; rfl
theorem ins_filter {key : Int} {p : Int → Bool} (hp : p key = false) : ∀ {t : T}, (t.ins key).pre.filter p = t.pre.filter p
  | leaf => by
    show [key].filter p = [].filter p
    rw [List.filter_cons_of_neg (by rw [hp]; exact Bool.false_ne_true)]
  | node l k r => by
    unfold ins
    split
    · show (k :: ((l.ins key).pre ++ r.pre)).filter p = (k :: (l.pre ++ r.pre)).filter p
      rw [List.filter_cons, List.filter_cons, List.filter_append, List.filter_append, ins_filter hp]
    · show (k :: (l.pre ++ (r.ins key).pre)).filter p = (k :: (l.pre ++ r.pre)).filter p
      rw [List.filter_cons, List.filter_cons, List.filter_append, List.filter_append, ins_filter hp]
theorem ins_top {key : Int} {t : T} (b : t.bst) (h : key ∉ t.pre) : ((t.ins key).tch key).pre = topL key t.pre := by
  rw [tch_pre (bst_ins b h)]
  unfold topL
  rw [ins_filter (by show (true && decide (key < key)) = false; simp), ins_filter (by show (decide (key < key) && true) = false; simp)]
theorem ins_dep {key : Int} {t : T} (b : t.bst) (h : key ∉ t.pre) : (t.ins key).dep key = (t.path key).length := by
  unfold T.dep
  rw [ins_path b h, List.length_append]; rfl
def EOw (C : Addr) (tag fn : Str) (n : Int) (H : Hp) (E : XK) : Prop := ∀ d Hf, Same H Hf → Hf d = some (.xd [(fn, .int n), ("tag", .str tag)]) → E (.ref C) (some d) Hf
theorem EOw.same {C : Addr} {tag fn : Str} {n : Int} {H H1 : Hp} {E : XK} (h : EOw C tag fn n H E) (e : Same H H1) : EOw C tag fn n H1 E := fun d Hf e2 hd => h d Hf (e.trans e2) hd
def spInsX (K : PySem.W.Frag) (C1 C2 C3 : Addr) : Sp := fun vs H Q E => ∃ (a : Addr) (key : Int) (t : T), vs = [.ref a, .int key] ∧ SqT K H a (t.pre.map V.int) ∧ t.bst ∧ t.pre.length ≤ 1000 ∧ key.natAbs.log2 < 1920 ∧
  (okK key = false → EOw C1 "BadKey" "key" key H E) ∧ (okK key = true → key ∈ t.pre → EOw C2 "DuplicateKey" "key" key H E) ∧ (okK key = true → key ∉ t.pre → 40 ≤ t.pre.length → EOw C3 "TooManyKeys" "limit" 40 H E) ∧
  (okK key = true → key ∉ t.pre → t.pre.length < 40 → ∀ p q H', Same H H' → H' p = some (.tup [.ref q, .int ((t.path key).length : Int)]) → H' q = some (.tup ((topL key t.pre).map V.int)) → Q (.ref p) H')
theorem cutV_mem {xs : List V} {lo hi : Option Int} {v : V} (h : v ∈ cutV xs lo hi) : v ∈ xs := by
  unfold cutV at h
  exact List.mem_of_mem_drop (List.mem_of_mem_take h)
theorem cutV_len {xs : List V} {lo hi : Option Int} : (cutV xs lo hi).length ≤ xs.length := by
  unfold cutV
  rw [List.length_take, List.length_drop]
  omega
/-- what an insertion is due to tell -/
def DueI (H : Hp) (du : Addr) (key : Int) (t : T) : Prop :=
  (okK key = false ∧ H du = some (.tup [.non, .str "BadKey", .int key])) ∨ (okK key = true ∧ key ∈ t.pre ∧ H du = some (.tup [.non, .str "DuplicateKey", .int key])) ∨
  (okK key = true ∧ key ∉ t.pre ∧ t.pre.length = 40 ∧ H du = some (.tup [.non, .str "TooManyKeys", .int 40])) ∨
  (okK key = true ∧ key ∉ t.pre ∧ t.pre.length < 40 ∧ ∃ pq q, H du = some (.tup [.ref pq, .str "", .non]) ∧ H pq = some (.tup [.ref q, .int ((t.path key).length : Int)]) ∧ H q = some (.tup ((topL key t.pre).map V.int)))
theorem DueI.same {H H' : Hp} {du : Addr} {key : Int} {t : T} (h : DueI H du key t) (e : Same H H') : DueI H' du key t := by
  rcases h with ⟨a, b⟩ | ⟨a, b, c⟩ | ⟨a, b, c, d⟩ | ⟨a, b, c, pq, q, d1, d2, d3⟩
  · exact .inl ⟨a, e _ _ b⟩
  · exact .inr (.inl ⟨a, b, e _ _ c⟩)
  · exact .inr (.inr (.inl ⟨a, b, c, e _ _ d⟩))
  · exact .inr (.inr (.inr ⟨a, b, c, pq, q, e _ _ d1, e _ _ d2, e _ _ d3⟩))
theorem eqv_tri {H : Hp} {a b : Addr} {n : Nat} {x y z u v w : V} (ha : H a = some (.tup [x, y, z])) (hb : H b = some (.tup [u, v, w])) (h1 : Eqv H n x u) (h2 : Eqv H n y v) (h3 : Eqv H n z w) : Eqv H (n + 1) (.ref a) (.ref b) := by
  refine .inr ⟨a, b, _, _, rfl, rfl, .inr ⟨ha, hb⟩, rfl, by show 3 ≤ 1000; decide, fun i p q g1 g2 => ?_⟩
  match i, g1, g2 with
  | 0, g1, g2 => cases g1; cases g2; exact h1
  | 1, g1, g2 => cases g1; cases g2; exact h2
  | 2, g1, g2 => cases g1; cases g2; exact h3
  | i + 3, g1, _ => simp at g1
theorem eqv_flat {H : Hp} {x : V} (h : flatV x = true) : ∀ {n : Nat}, Eqv H n x x
  | 0 => ⟨h, rfl⟩
  | n + 1 => .inl ⟨h, rfl⟩
theorem topL_len40 {key : Int} {t : T} (h : t.pre.length < 40) : (topL key t.pre).length ≤ 1000 := by have := topL_len (x := key) (ks := t.pre); omega
/-- the outcome of an insertion, by what is due -/
theorem ins_out {K : PySem.W.Frag} {C1 C2 C3 : Addr} {cT cM : Value} {s4 du : Addr} {key : Int} {t : T} {H1 : Hp} {E : XK} {R Q : VK} (hs : H1 s4 = some (.tup (t.pre.map V.int))) (hb : t.bst) (hl : t.pre.length ≤ 40) (hn : key.natAbs.log2 < 1920) (D : DueI H1 du key t)
    (n1 : PySem.W.exmAny K (.ref C1) [cT, cM] = some true) (X1 : XfC K C1) (f1 : PySem.W.findIn K (.ref C1) "tag" = some none) (f2 : PySem.W.findIn K (.ref C1) "key" = some none)
    (n2 : PySem.W.exmAny K (.ref C2) [cT, cM] = some true) (X2 : XfC K C2) (f3 : PySem.W.findIn K (.ref C2) "tag" = some none) (f4 : PySem.W.findIn K (.ref C2) "key" = some none)
    (n3 : PySem.W.exmAny K (.ref C3) [cT, cM] = some true) (X3 : XfC K C3) (f5 : PySem.W.findIn K (.ref C3) "tag" = some none) (f6 : PySem.W.findIn K (.ref C3) "limit" = some none)
    (hE : ∀ cls d H', Xo K cT cM Q cls d H' → E cls d H') (hR : ∀ v H', (∀ p H'', Same H' H'' → H' p = none → H'' p = some (.tup [v, .str "", .non]) → Q (.ref p) H'') → R v H')
    (fin : ∀ p Hx, Same H1 Hx → Eqv Hx 3 (.ref p) (.ref du) → Q (.ref p) Hx) : spInsX K C1 C2 C3 [.ref s4, .int key] H1 R E := by
  refine ⟨s4, key, t, rfl, SqT.of hs, hb, by omega, hn, fun ok => ?_, fun ok ki => ?_, fun ok ki l40 => ?_, fun ok ki l40 p q H' e hp hq => ?_⟩
  · rcases D with ⟨_, d⟩ | ⟨a, _⟩ | ⟨a, _⟩ | ⟨a, _⟩
    · exact fun dd Hf e hd => hE _ _ _ ⟨n1, C1, dd, "BadKey", .int key, rfl, rfl, bears_mk X1 f1 f2 hd (by decide +kernel) (by decide +kernel), fun p Hx ex _ hp => fin p Hx (e.trans ex) (eqv_tri hp ((e.trans ex) _ _ d) (eqv_flat rfl) (eqv_flat rfl) (eqv_flat rfl))⟩
    all_goals (rw [ok] at a; cases a)
  · rcases D with ⟨a, _⟩ | ⟨_, _, d⟩ | ⟨_, a, _⟩ | ⟨_, a, _⟩
    · rw [ok] at a; cases a
    · exact fun dd Hf e hd => hE _ _ _ ⟨n2, C2, dd, "DuplicateKey", .int key, rfl, rfl, bears_mk X2 f3 f4 hd (by decide +kernel) (by decide +kernel), fun p Hx ex _ hp => fin p Hx (e.trans ex) (eqv_tri hp ((e.trans ex) _ _ d) (eqv_flat rfl) (eqv_flat rfl) (eqv_flat rfl))⟩
    all_goals exact absurd ki a
  · rcases D with ⟨a, _⟩ | ⟨_, a, _⟩ | ⟨_, _, _, d⟩ | ⟨_, _, a, _⟩
    · rw [ok] at a; cases a
    · exact absurd a ki
    · exact fun dd Hf e hd => hE _ _ _ ⟨n3, C3, dd, "TooManyKeys", .int 40, rfl, rfl, bears_mk X3 f5 f6 hd (by decide +kernel) (by decide +kernel), fun p Hx ex _ hp => fin p Hx (e.trans ex) (eqv_tri hp ((e.trans ex) _ _ d) (eqv_flat rfl) (eqv_flat rfl) (eqv_flat rfl))⟩
    · omega
  · rcases D with ⟨a, _⟩ | ⟨_, a, _⟩ | ⟨_, _, a, _⟩ | ⟨_, _, _, pq, q2, d1, d2, d3⟩
    · rw [ok] at a; cases a
    · exact absurd a ki
    · omega
    · refine hR _ _ fun pp Hx ex _ hpp => fin pp Hx (e.trans ex) (eqv_tri hpp ((e.trans ex) _ _ d1) ?_ (eqv_flat rfl) (eqv_flat rfl))
      exact eqv_pairT (ex _ _ hp) ((e.trans ex) _ _ d2) (eqv_ints1 (ex _ _ hq) ((e.trans ex) _ _ d3) (topL_len40 l40)) (eqv_flat rfl)
end TT
namespace TT
open PySem PySem.Spec PyProof.Rows L2 LamX
open T
/-! ### a promise that asks for less -/
theorem Cal.imp {P : Program} {w : World} {K : PySem.W.Frag} {mg : Str → Option Value} {base : Heap} {CX : CXT} {x : Str} {ps : List Str} {k : Nat} {sp sp' : Sp} (c : Cal P w K mg base CX x ps k sp') (i : ∀ vs H Q E, sp vs H Q E → sp' vs H Q E) : Cal P w K mg base CX x ps k sp := by
  obtain ⟨f, fd, o, a, b, d⟩ := c.ex
  exact ⟨f, fd, ⟨fun vs H Q E h => o.len vs H Q E (i _ _ _ _ h), fun A outer s H args us vs Q E hr he hb hv h => o.run A outer s H args us vs Q E hr he hb hv (i _ _ _ _ h)⟩, a, b, d⟩
def spOfW (K : PySem.W.Frag) : Sp := fun vs H Q _ => ∃ (d a : Addr) (xs : List V) (c : Addr) (ns : List Int), vs = [.ref d, .ref a] ∧ (SqL K H a xs ∨ SqT K H a xs) ∧ 0 < xs.length ∧ xs.length ≤ 100000 ∧ a ≠ d ∧ Drw c ns H d ∧ ∀ x H', x ∈ xs → Drw c ns H' d → (∀ b, b ≠ d → H' b = H b) → Q x H'
theorem spOf_W {K : PySem.W.Frag} : ∀ vs H Q E, spOf K vs H Q E → spOfW K vs H Q E := fun vs H Q E ⟨d, a, xs, c, ns, h1, h2, h3⟩ => ⟨d, a, xs, c, ns, h1, .inl h2, h3⟩
/-- nodes that agree with a tree on its keys; other keys may have stale entries -/
def spShapeW : Sp := fun vs H Q _ => ∃ (m L R U : Addr) (t : T) (lf rf uf : Int → Option Int) (n : Nat), vs = [.ref m] ∧ Nod H m L R U t.rt lf rf uf n ∧ (∀ x ∈ t.pre, lf x = t.lc x ∧ rf x = t.rc x) ∧ t.bst ∧ t.pre.length ≤ 1000 ∧
  ∀ p H', Same H H' → H p = none → H' p = some (.tup (t.pre.map V.int)) → Q (.ref p) H'
theorem spShape_W : ∀ vs H Q E, spShape vs H Q E → spShapeW vs H Q E := fun vs H Q E ⟨m, L, R, U, t, uf, n, h1, h2, h3⟩ => ⟨m, L, R, U, t, _, _, uf, n, h1, h2, fun _ _ => ⟨rfl, rfl⟩, h3⟩
def spRemoveX (K : PySem.W.Frag) (C : Addr) : Sp := fun vs H Q E => ∃ (a : Addr) (key : Int) (t : T), vs = [.ref a, .int key] ∧ SqT K H a (t.pre.map V.int) ∧ t.bst ∧ t.pre.length ≤ 1000 ∧ Kn t.pre ∧ key.natAbs.log2 < 1920 ∧
  (key ∈ t.pre → ∀ p q gs tot H', Same H H' → RemOf t key gs tot → H' p = some (.tup [.ref q, .int tot]) → H' q = some (.tup (gs.map V.int)) → Q (.ref p) H') ∧ (key ∉ t.pre → ENo C key H E)
def spRemoved (K : PySem.W.Frag) : Sp := fun vs H Q _ => ∃ (a : Addr) (key : Int) (t : T), vs = [.ref a, .int key] ∧ SqT K H a (t.pre.map V.int) ∧ t.bst ∧ t.pre.length ≤ 58 ∧ key ∈ t.pre ∧
  ∀ p q (u : T) tot H', Same H H' → u.bst → RemOf t key u.pre tot → H' p = some (.tup [.ref q, .int tot]) → H' q = some (.tup (u.pre.map V.int)) → Q (.ref p) H'
theorem rem_det {t : T} {key tot tot' : Int} {gs gs' : List Int} (h : RemOf t key gs tot) (h' : RemOf t key gs' tot') : gs = gs' ∧ tot = tot' := by
  rcases h with ⟨n, e1, e2⟩ | ⟨m, hm, lt, g, e1, e2⟩ <;> rcases h' with ⟨n', f1, f2⟩ | ⟨m', hm', lt', g', f1, f2⟩
  · exact ⟨e1.trans f1.symm, e2.trans f2.symm⟩
  · exact absurd lt' (n _ hm')
  · exact absurd lt (n' _ hm)
  · have : m = m' := Int.le_antisymm (g' m hm lt) (g m' hm' lt')
    subst this
    exact ⟨e1.trans f1.symm, e2.trans f2.symm⟩
theorem leaf_of {t : T} (h : t.pre = []) : t = leaf := by
  cases t with
  | leaf => rfl
  | node l k r => cases h
theorem rem_A {t : T} {key : Int} (b : t.bst) (n : ∀ y ∈ t.pre, ¬ y < key) : ∃ B, t.tch key = node leaf key B := by
  refine ⟨t.restr (some key) none, ?_⟩
  unfold T.tch
  rw [leaf_of (t := t.restr none (some key))]
  rw [restr_pre b]
  exact filter_none fun x hx => decide_eq_false (n x hx)
theorem rem_B {t : T} {key m : Int} (b : t.bst) (lt : m < key) (g : ∀ y ∈ t.pre, y < key → y ≤ m) : ∃ A B, (t.tch key).tch m = node A m (node leaf key B) := by
  refine ⟨(t.tch key).restr none (some m), (t.restr (some key) none).restr (some m) none, ?_⟩
  have e : (t.tch key).restr (some m) none = node ((t.restr none (some key)).restr (some m) none) key ((t.restr (some key) none).restr (some m) none) := by
    show (if okLo (some m) key = false then _ else if okHi none key = false then _ else _) = _
    rw [if_neg (by show ¬ decide (m < key) = false; simp [lt]), if_neg (by show ¬ true = false; decide)]
  show node _ m ((t.tch key).restr (some m) none) = _
  rw [e, leaf_of (t := (t.restr none (some key)).restr (some m) none)]
  rw [restr_pre (restr_bst b), restr_pre b]
  refine filter_none fun x hx => ?_
  obtain ⟨h1, h2⟩ := List.mem_filter.mp hx
  have h3 : x < key := of_decide_eq_true (p := x < key) (by simpa [okLo, okHi] using h2)
  have := g x h1 h3
  show (decide (m < x) && true) = false
  rw [decide_eq_false (by omega)]; rfl
theorem filt_A {B : T} {key : Int} (b : (node leaf key B).bst) : (node leaf key B).pre.filter (fun y => !decide (V.int y = V.int key)) = B.pre := by
  show (key :: ([] ++ B.pre)).filter _ = _
  rw [List.filter_cons_of_neg (by simp), List.nil_append]
  exact filter_all fun x hx => int_ne.mpr (by have := b.2.1 x hx; omega)
theorem filt_B {A B : T} {m key : Int} (b : (node A m (node leaf key B)).bst) : (node A m (node leaf key B)).pre.filter (fun y => !decide (V.int y = V.int key)) = (node A m B).pre := by
  have k1 : m < key := b.2.1 key (by show key ∈ key :: _; exact List.mem_cons_self)
  show (m :: (A.pre ++ (node leaf key B).pre)).filter _ = m :: (A.pre ++ B.pre)
  rw [List.filter_cons_of_pos (p := fun y => !decide (V.int y = V.int key)) (int_ne.mpr (by omega)), List.filter_append, filt_A b.2.2.2, filter_all fun x hx => int_ne.mpr (by have := b.1 x hx; omega)]
theorem bst_B {A B : T} {m key : Int} (b : (node A m (node leaf key B)).bst) : (node A m B).bst :=
  ⟨b.1, fun x hx => b.2.1 x (by show x ∈ key :: ([] ++ B.pre); exact List.mem_cons_of_mem _ hx), b.2.2.1, b.2.2.2.2.2.2⟩
theorem agr_A {B : T} {key x : Int} (b : (node leaf key B).bst) (hx : x ∈ B.pre) : (node leaf key B).lc x = B.lc x ∧ (node leaf key B).rc x = B.rc x := by
  have := b.2.1 x hx
  rw [lc_nodeE, rc_nodeE, if_neg (by omega), if_neg (by omega), if_neg (by omega), if_neg (by omega)]
  exact ⟨rfl, rfl⟩
theorem agr_B {A B : T} {m key x : Int} (b : (node A m (node leaf key B)).bst) (hx : x ∈ (node A m B).pre) : (node A m (node leaf key B)).lc x = (node A m B).lc x ∧ setO (node A m (node leaf key B)).rc m B.rt x = (node A m B).rc x := by
  unfold setO
  rw [lc_nodeE, rc_nodeE, lc_nodeE (l := A) (r := B), rc_nodeE (l := A) (r := B)]
  by_cases e : x = m
  · simp only [if_pos e, and_self]
  · simp only [if_neg e]
    by_cases l : x < m
    · simp only [if_pos l, and_self]
    · simp only [if_neg l]
      have hB : x ∈ B.pre := by
        rcases List.mem_cons.mp (show x ∈ m :: (A.pre ++ B.pre) from hx) with h | h
        · exact absurd h e
        · rcases List.mem_append.mp h with h | h
          · exact absurd (b.1 x h) l
          · exact h
      exact agr_A b.2.2.2 hB
theorem rcB_key {A B : T} {m key : Int} (b : (node A m (node leaf key B)).bst) : (node A m (node leaf key B)).rc key = B.rt ∧ (node A m (node leaf key B)).up key = some m := by
  have k1 : m < key := b.2.1 key (by show key ∈ key :: _; exact List.mem_cons_self)
  rw [rc_nodeE, if_neg (by omega), if_neg (by omega), rc_nodeE, if_pos rfl, up_nodeR k1]
  exact ⟨rfl, if_pos rfl⟩
theorem rem_out {t : T} {key tot : Int} {gs : List Int} (b : t.bst) (hk : key ∈ t.pre) (h : RemOf t key gs tot) : key ∉ gs ∧ (∀ y ∈ gs, y ∈ t.pre) ∧ gs.length ≤ t.pre.length := by
  have pm := rem_perm b hk h
  refine ⟨fun z => ?_, fun y hy => (List.mem_filter.mp (pm.mem_iff.mp hy)).1, by rw [pm.length_eq]; exact List.length_filter_le _ _⟩
  exact int_ne.mp (List.mem_filter.mp (pm.mem_iff.mp z)).2 rfl
theorem kn32 {n : Int} (hn : n ∈ [(3 : Int), 2]) : -2000000000 ≤ n ∧ n ≤ 2000000000 := by
  rcases List.mem_cons.mp hn with rfl | h
  · decide
  · rw [List.mem_singleton.mp h]; decide
theorem or32 {y : Int} (hy : y ∈ [(3 : Int), 2]) (lt : y < 3) : y ≤ 2 := by omega
end TT
namespace TT
open PySem PySem.Spec PyProof.Rows L2 LamX
open T
/-! ### cuts and joins -/
section
variable {X : Cx} {CX : CXT} {ps ks : List Str} {k n : Nat} {sp : Sp} {x : Str} {e : Expr} {es : List Expr} {kws : List Keyword} {t tk : TA} {p pos : Pos} {gV : List V → List V → List V} {E : XK}
theorem pe_calNX (c : CalN X.prog X.w X.K X.mg X.base CX x n ks k sp gV) (hx : Passes CX X E) (hr : Room k X.A) (hg : Gl X x) (ha : PA X (e :: es) t) (hkw : PK X kws tk) (hall : (backToKw pos (keywordEach kws X.env)).all (·.1.isSome) = true := by rfl)
    (hks : (backToKw pos (keywordEach kws X.env)).filterMap (·.1) = ks := by rfl) (hdb : (x == ("__debug__" : Str)) = false := by decide) (he : starEach (e :: es) X.env = (false, eval e X.env) :: starEach es X.env := by rfl)
    (hpl : ((backTo pos (starEach (e :: es) X.env)).any (·.1) || (backToKw pos (keywordEach kws X.env)).any (·.1.isNone)) = false := by rfl) : PE X (.Call (.Name x p) (e :: es) kws pos) (tCallN n ks.length sp gV E t tk) := by
  obtain ⟨f, fd, ps, g, o, a, b, d⟩ := c.ex
  exact pe_callN o hr hg a b d hx ha hkw hall hks hdb he hpl
end
theorem rd_catA {K : PySem.W.Frag} {H : Hp} {a b : Addr} {xs ys : List V} {Q : VK} (ha : H a = some (.tup xs)) (hb : H b = some (.tup ys)) (hl : xs.length + ys.length ≤ 100000) (q : ∀ p H', Same H H' → H' p = some (.tup (xs ++ ys)) → Q (.ref p) H') : rCatA K (.ref a) (.ref b) H Q := by
  refine ⟨a, b, xs, ys, rfl, rfl, SqT.of ha, SqT.of hb, sz hl, fun e => ?_, fun _ e => ?_, fun _ _ p np => q p _ (same_new np) upd_same⟩
  · exact q b H (.refl _) (by rw [e]; exact hb)
  · exact q a H (.refl _) (by rw [e, List.append_nil]; exact ha)
theorem rd_eqT {K : PySem.W.Frag} {H : Hp} {a b : Addr} {ns ms : List Int} {Q : VK} (ha : SqT K H a (ns.map V.int)) (hb : SqT K H b (ms.map V.int)) (q : Q (.bl (decide (ns = ms))) H) : rEqD K (.ref a) (.ref b) H Q :=
  ⟨_, _, .tup ha (dp_ints ns), .tup hb (dp_ints ms), shaped_intsT ns, shaped_intsT ms, by show Q (.bl (PyData.eqvAll _ _)) H; rw [eqv_ints]; exact q⟩
def spCutX (K : PySem.W.Frag) (C : Addr) : Sp := fun vs H Q E => ∃ (a : Addr) (key : Int) (t : T), vs = [.ref a, .int key] ∧ SqT K H a (t.pre.map V.int) ∧ t.bst ∧ t.pre.length ≤ 1000 ∧ key.natAbs.log2 < 1920 ∧
  (key ∈ t.pre → ∀ p q r H', Same H H' → H' p = some (.tup [.ref q, .ref r, .int (t.dep key : Int)]) → H' q = some (.tup ((key :: (t.restr none (some key)).pre).map V.int)) → H' r = some (.tup ((t.restr (some key) none).pre.map V.int)) → Q (.ref p) H') ∧ (key ∉ t.pre → ENo C key H E)
def MaxOf (l : List Int) (m : Int) : Prop := m ∈ l ∧ ∀ y ∈ l, y ≤ m
theorem MaxOf.uniq {l : List Int} {m n : Int} (h : MaxOf l m) (g : MaxOf l n) : m = n := by have := h.2 n g.1; have := g.2 m h.1; omega
def JnA (t u : T) (gs : List Int) (tot : Int) : Prop := ((t.pre = [] ∨ u.pre = []) ∧ gs = t.pre ++ u.pre ∧ tot = 0) ∨ (t.pre ≠ [] ∧ u.pre ≠ [] ∧ t.pre.length + u.pre.length ≤ 40 ∧ ∃ m, MaxOf t.pre m ∧ (∀ y ∈ u.pre, m < y) ∧ gs = topL m t.pre ++ u.pre ∧ tot = (t.dep m : Int))
def JnO (t u : T) (m : Int) : Prop := MaxOf t.pre m ∧ ∃ y ∈ u.pre, y ≤ m
def JnT (t u : T) : Prop := t.pre ≠ [] ∧ u.pre ≠ [] ∧ 40 < t.pre.length + u.pre.length ∧ ∃ m, MaxOf t.pre m ∧ ∀ y ∈ u.pre, m < y
theorem JnA.det {t u : T} {gs gs' : List Int} {tot tot' : Int} (h : JnA t u gs tot) (g : JnA t u gs' tot') : gs = gs' ∧ tot = tot' := by
  rcases h with ⟨a, rfl, rfl⟩ | ⟨a, b, _, m, hm, _, rfl, rfl⟩ <;> rcases g with ⟨a', rfl, rfl⟩ | ⟨a', b', _, m', hm', _, rfl, rfl⟩
  · exact ⟨rfl, rfl⟩
  · rcases a with a | a
    · exact absurd a a'
    · exact absurd a b'
  · rcases a' with a' | a'
    · exact absurd a' a
    · exact absurd a' b
  · cases hm.uniq hm'; exact ⟨rfl, rfl⟩
theorem JnA.notO {t u : T} {gs : List Int} {tot m : Int} (h : JnA t u gs tot) (g : JnO t u m) : False := by
  obtain ⟨hm, y, hy, le⟩ := g
  rcases h with ⟨a, _⟩ | ⟨_, _, _, m', hm', lt, _⟩
  · rcases a with a | a
    · rw [a] at hm; cases hm.1
    · rw [a] at hy; cases hy
  · cases hm.uniq hm'
    have := lt y hy
    omega
theorem JnA.notT {t u : T} {gs : List Int} {tot : Int} (h : JnA t u gs tot) (g : JnT t u) : False := by
  obtain ⟨h1, h2, h3, _⟩ := g
  rcases h with ⟨a, _⟩ | ⟨_, _, l, _⟩
  · rcases a with a | a
    · exact h1 a
    · exact h2 a
  · omega
theorem JnO.notT {t u : T} {m : Int} (h : JnO t u m) (g : JnT t u) : False := by
  obtain ⟨_, _, _, m', hm', lt⟩ := g
  obtain ⟨hm, y, hy, le⟩ := h
  cases hm.uniq hm'
  have := lt y hy
  omega
def spJoinX (K : PySem.W.Frag) (C1 C2 : Addr) : Sp := fun vs H Q E => ∃ (a b : Addr) (t u : T), vs = [.ref a, .ref b] ∧ H a = some (.tup (t.pre.map V.int)) ∧ H b = some (.tup (u.pre.map V.int)) ∧ t.bst ∧ u.bst ∧ t.pre.length ≤ 1000 ∧ u.pre.length ≤ 1000 ∧ Kn t.pre ∧
  (∀ gs tot, JnA t u gs tot → ∀ p q H', Same H H' → H' p = some (.tup [.ref q, .int tot]) → H' q = some (.tup (gs.map V.int)) → Q (.ref p) H') ∧
  (∀ m, JnO t u m → EOw C1 "Overlap" "key" m H E) ∧ (JnT t u → EOw C2 "TooManyKeys" "limit" 40 H E)
def spJoined (K : PySem.W.Frag) : Sp := fun vs H Q _ => ∃ (a b : Addr) (t u : T), vs = [.ref a, .ref b] ∧ H a = some (.tup (t.pre.map V.int)) ∧ H b = some (.tup (u.pre.map V.int)) ∧ t.bst ∧ u.bst ∧ t.pre.length ≤ 40 ∧ u.pre.length ≤ 40 ∧
  (∀ gs tot, JnA t u gs tot → ∀ p q H', Same H H' → H' p = some (.tup [.ref q, .str "", .non, .int tot]) → H' q = some (.tup (gs.map V.int)) → Q (.ref p) H') ∧
  (∀ m, JnO t u m → ∀ p H', Same H H' → H' p = some (.tup [.non, .str "Overlap", .int m, .int 0]) → Q (.ref p) H') ∧
  (JnT t u → ∀ p H', Same H H' → H' p = some (.tup [.non, .str "TooManyKeys", .int 40, .int 0]) → Q (.ref p) H')
/-- what a join is due to tell -/
def DueJ (H : Hp) (du : Addr) (t u : T) : Prop :=
  (∃ gs tot pq q, JnA t u gs tot ∧ H du = some (.tup [.ref pq, .str "", .non]) ∧ H pq = some (.tup [.ref q, .int tot]) ∧ H q = some (.tup (gs.map V.int))) ∨
  (∃ m, JnO t u m ∧ H du = some (.tup [.non, .str "Overlap", .int m])) ∨ (JnT t u ∧ H du = some (.tup [.non, .str "TooManyKeys", .int 40]))
theorem DueJ.kept {H H' : Hp} {du : Addr} {t u : T} (h : DueJ H du t u) (e : ∀ x xs, H x = some (.tup xs) → H' x = some (.tup xs)) : DueJ H' du t u := by
  rcases h with ⟨gs, tot, pq, q, a, b, c, d⟩ | ⟨m, a, b⟩ | ⟨a, b⟩
  · exact .inl ⟨gs, tot, pq, q, a, e _ _ b, e _ _ c, e _ _ d⟩
  · exact .inr (.inl ⟨m, a, e _ _ b⟩)
  · exact .inr (.inr ⟨a, e _ _ b⟩)
theorem JnA.len {t u : T} {gs : List Int} {tot : Int} (h : JnA t u gs tot) (l1 : t.pre.length ≤ 40) (l2 : u.pre.length ≤ 40) : gs.length ≤ 1000 := by
  rcases h with ⟨_, rfl, _⟩ | ⟨_, _, _, m, _, _, rfl, _⟩
  · rw [List.length_append]; omega
  · rw [List.length_append]; have := topL_len (x := m) (ks := t.pre); omega
theorem join_out {K : PySem.W.Frag} {C1 C2 : Addr} {cT cM : Value} {a b du : Addr} {t u : T} {H1 : Hp} {E : XK} {R Q : VK} (ha : H1 a = some (.tup (t.pre.map V.int))) (hb : H1 b = some (.tup (u.pre.map V.int))) (bt : t.bst) (bu : u.bst) (l1 : t.pre.length ≤ 40) (l2 : u.pre.length ≤ 40) (kn : Kn t.pre) (D : DueJ H1 du t u)
    (n1 : PySem.W.exmAny K (.ref C1) [cT, cM] = some true) (X1 : XfC K C1) (f1 : PySem.W.findIn K (.ref C1) "tag" = some none) (f2 : PySem.W.findIn K (.ref C1) "key" = some none)
    (n2 : PySem.W.exmAny K (.ref C2) [cT, cM] = some true) (X2 : XfC K C2) (f3 : PySem.W.findIn K (.ref C2) "tag" = some none) (f4 : PySem.W.findIn K (.ref C2) "limit" = some none)
    (hE : ∀ cls d H', Xo K cT cM Q cls d H' → E cls d H') (hR : ∀ v H', (∀ p H'', Same H' H'' → H' p = none → H'' p = some (.tup [v, .str "", .non]) → Q (.ref p) H'') → R v H')
    (fin : ∀ p Hx, Same H1 Hx → Eqv Hx 3 (.ref p) (.ref du) → Q (.ref p) Hx) : spJoinX K C1 C2 [.ref a, .ref b] H1 R E := by
  refine ⟨a, b, t, u, rfl, ha, hb, bt, bu, by omega, by omega, kn, fun gs tot j p q H' e hp hq => ?_, fun m j => ?_, fun j => ?_⟩
  · rcases D with ⟨gs', tot', pq, q2, j', d1, d2, d3⟩ | ⟨m, j', _⟩ | ⟨j', _⟩
    · obtain ⟨rfl, rfl⟩ := j.det j'
      refine hR _ _ fun pp Hx ex _ hpp => fin pp Hx (e.trans ex) (eqv_tri hpp ((e.trans ex) _ _ d1) ?_ (eqv_flat rfl) (eqv_flat rfl))
      exact eqv_pairT (ex _ _ hp) ((e.trans ex) _ _ d2) (eqv_ints1 (ex _ _ hq) ((e.trans ex) _ _ d3) (j.len l1 l2)) (eqv_flat rfl)
    · exact (j.notO j').elim
    · exact (j.notT j').elim
  · rcases D with ⟨gs', tot', pq, q2, j', _⟩ | ⟨m', j', d⟩ | ⟨j', _⟩
    · exact (j'.notO j).elim
    · cases j.1.uniq j'.1
      exact fun dd Hf e hd => hE _ _ _ ⟨n1, C1, dd, "Overlap", .int m, rfl, rfl, bears_mk X1 f1 f2 hd (by decide +kernel) (by decide +kernel), fun p Hx ex _ hp => fin p Hx (e.trans ex) (eqv_tri hp ((e.trans ex) _ _ d) (eqv_flat rfl) (eqv_flat rfl) (eqv_flat rfl))⟩
    · exact (j.notT j').elim
  · rcases D with ⟨gs', tot', pq, q2, j', _⟩ | ⟨m', j', _⟩ | ⟨_, d⟩
    · exact (j'.notT j).elim
    · exact (j'.notT j).elim
    · exact fun dd Hf e hd => hE _ _ _ ⟨n2, C2, dd, "TooManyKeys", .int 40, rfl, rfl, bears_mk X2 f3 f4 hd (by decide +kernel) (by decide +kernel), fun p Hx ex _ hp => fin p Hx (e.trans ex) (eqv_tri hp ((e.trans ex) _ _ d) (eqv_flat rfl) (eqv_flat rfl) (eqv_flat rfl))⟩
theorem joined_pre {t u : T} {m : Int} (bt : t.bst) (bu : u.bst) (hm : MaxOf t.pre m) (lt : ∀ y ∈ u.pre, m < y) : insAll u.pre (t.tch m) = node (t.restr none (some m)) m u ∧ (insAll u.pre (t.tch m)).pre = topL m t.pre ++ u.pre := by
  have e0 : t.restr (some m) none = leaf := leaf_of (by
    rw [restr_pre bt]
    refine filter_none fun x hx => ?_
    have := hm.2 x hx
    show (decide (m < x) && true) = false
    rw [Bool.and_true, decide_eq_false_iff_not]
    omega)
  have e1 : insAll u.pre (t.tch m) = node (t.restr none (some m)) m u := by
    unfold T.tch
    rw [e0, insAll_split, filter_none (fun x hx => by have := lt x hx; rw [decide_eq_false_iff_not]; omega), filter_all (fun x hx => by have := lt x hx; rw [Bool.not_eq_true', decide_eq_false_iff_not]; omega), insAll_pre bu]
    rfl
  refine ⟨e1, ?_⟩
  rw [e1]
  have e2 : topL m t.pre = m :: (t.restr none (some m)).pre := by
    rw [← tch_pre bt]
    unfold T.tch
    rw [e0]
    show m :: ((t.restr none (some m)).pre ++ []) = _
    rw [List.append_nil]
  rw [e2]
  rfl
theorem pre_le {l r : T} {k : Int} (b : (node l k r).bst) : (node l k r).pre.filter (fun x => decide (x ≤ k)) = k :: l.pre := by
  have hl : ∀ x ∈ l.pre, x < k := b.1
  have hr : ∀ x ∈ r.pre, k < x := b.2.1
  show (k :: (l.pre ++ r.pre)).filter _ = _
  rw [List.filter_cons_of_pos (by simp), List.filter_append, filter_all (fun x hx => by have := hl x hx; rw [decide_eq_true_iff]; omega), filter_none (fun x hx => by have := hr x hx; rw [decide_eq_false_iff_not]; omega), List.append_nil]
def ToldJ (H : Hp) (tp : Addr) (t u : T) : Prop :=
  (∃ gs tot q, JnA t u gs tot ∧ H tp = some (.tup [.ref q, .str "", .non, .int tot]) ∧ H q = some (.tup (gs.map V.int))) ∨
  (∃ m, JnO t u m ∧ H tp = some (.tup [.non, .str "Overlap", .int m, .int 0])) ∨ (JnT t u ∧ H tp = some (.tup [.non, .str "TooManyKeys", .int 40, .int 0]))
def farL (n : Nat) : List Int := (List.range n).map fun (k : Nat) => (999999991 + (k : Int))
theorem farL_succ (n : Nat) : farL (n + 1) = farL n ++ [999999991 + (n : Int)] := by unfold farL; rw [List.range_succ, List.map_append]; rfl
theorem farL_len (n : Nat) : (farL n).length = n := by unfold farL; rw [List.length_map, List.length_range]
theorem farL_asc {n : Nat} (h : n ≤ 9) : Asc (farL n) := by
  refine ⟨?_, fun k hk => ?_⟩
  · unfold farL
    rw [List.pairwise_map]
    exact List.pairwise_lt_range.imp fun h => by omega
  · obtain ⟨j, hj, rfl⟩ := List.mem_map.mp hk
    have := List.mem_range.mp hj
    omega
theorem kn_sub {l m : List Int} (h : Kn m) (s : ∀ x ∈ l, x ∈ m) : Kn l := fun x hx => h x (s x hx)
/-- a pair of shapes to be joined -/
def PairOk (H : Hp) (v : V) : Prop := ∃ (p a b : Addr) (t u : T), v = .ref p ∧ H p = some (.tup [.ref a, .ref b]) ∧ H a = some (.tup (t.pre.map V.int)) ∧ H b = some (.tup (u.pre.map V.int)) ∧ t.bst ∧ u.bst ∧ t.pre.length ≤ 40 ∧ u.pre.length ≤ 40 ∧ Kn t.pre
theorem PairOk.kept {H H' : Hp} {v : V} (h : PairOk H v) (e : ∀ x xs, H x = some (.tup xs) → H' x = some (.tup xs)) : PairOk H' v := by
  obtain ⟨p, a, b, t, u, h1, h2, h3, h4, r⟩ := h
  exact ⟨p, a, b, t, u, h1, e _ _ h2, e _ _ h3, e _ _ h4, r⟩
end TT
namespace TT
open PySem PySem.Spec PyProof.Rows L2
/-! ### min, max of a list of ints with default=None -/
section
variable {prog : Program} {w : World} {A : Around} {R : Result → Shared → Prop} {I : Addr} {fp wr : List Addr} {n : Nat} {P : Nat → Value → Prop} {St : Nat → Heap → Prop}

theorem maxD_loop (W : Walks prog w A.in1 I fp wr n P St) (bt : Nat → Nat → Bool) (cmp : CmpOf prog w A.in1 .Gt P bt) (S : Addr) (out : S ∉ fp) (dv : Value) : ∀ (m i : Nat) (s : Shared) (best : Value) (ep : Nat), n - (i + 1) = m → i + 1 ≤ n → St (i + 1) s.heap → P (argBest bt i) best →
    s.heap.get? S = some { cls := .type "list", dict := none, data := .seq #[best, best] ep, slots := #[] } → (∀ v h' tk, P (argBest bt (n - 1)) v → (∀ b o, b ∉ wr → b ≠ S → s.heap.get? b = some o → h'.get? b = some o) → R (.ok (.ret v)) { s with heap := h', toks := tk }) →
    codeAny (model prog w) A (.builtin "max.loop" ⟨[.ref I, .none, .ref S], [(Str.ofString "default", dv)]⟩) R s := by
  have outw : S ∉ wr := fun h => out (W.sub _ h)
  have nm : (toString "max" ++ toString ".loop" : String) = "max.loop" := by decide
  intro m
  induction m with
  | zero =>
    intro i s best ep em ei st pb at0 fin
    have ein : i + 1 = n := by omega
    refine codeAny_builtin F.entry_max_loop ?_; rw [Around.under_plainId F.plain_max_loop _]; show wpAny _ A.in1 (seqItems? (.ref S) >>= _) _ _ s
    refine wpAny_bind (wpAny_seqItems at0 rfl ?_); show wpAny _ A.in1 (tryCatch (pyNext (.ref I)) _ >>= _) _ _ s
    refine wpAny_bind (wpAny_tryCatch (W.done s _ _ (ein ▸ st) fun h1 tk keep => ?_)); show wpAny _ A.in1 (updateSeq S (fun _ => #[]) >>= _) _ _ _
    exact wpAny_bind (wpAny_updateSeq (keep S _ outw at0) rfl (wpAny_bind (wpAny_letGo (wpAny_pure (fin best _ tk (by rw [← ein]; exact pb) fun b o bw bS e => (Heap.get?_update_other _ _ (Ne.symm bS)).trans (keep b o bw e))))))
  | succ m ih =>
    intro i s best ep em ei st pb at0 fin
    have lt : i + 1 < n := by omega
    refine codeAny_builtin F.entry_max_loop ?_; rw [Around.under_plainId F.plain_max_loop _]; show wpAny _ A.in1 (seqItems? (.ref S) >>= _) _ _ s
    refine wpAny_bind (wpAny_seqItems at0 rfl ?_); show wpAny _ A.in1 (tryCatch (pyNext (.ref I)) _ >>= _) _ _ s
    refine wpAny_bind (wpAny_tryCatch (W.item (i + 1) s _ _ lt st fun v h1 tk pv1 st1 keep => ?_)); show wpAny _ A.in1 (tryCatch (holding [v, v] (richCompare .Gt v best >>= _)) _ >>= _) _ _ _
    have at1 := keep S _ outw at0
    refine wpAny_bind (wpAny_tryCatch (wpAny_holding (wpAny_bind (cmp (i + 1) (argBest bt i) v best _ _ _ pv1 pb (wpAny_bind (wpAny_holding (wpAny_truthy_bool (wpAny_bind (wpAny_letGo (wpAny_pure ?_))))))))))
    cases eb : bt (i + 1) (argBest bt i) with
    | true =>
      simp only [if_true]; refine wpAny_bind (wpAny_updateSeq at1 rfl (wpAny_bind (wpAny_letGo ?_))); rw [nm]
      refine wpAny_pure ⟨plainId_quiet F.plain_max_loop _, ih (i + 1) _ v _ (by omega) lt (W.frame _ _ _ st1 fun b bf o e => (Heap.get?_update_other _ _ (fun h : S = b => out (by rw [h]; exact bf))).trans e) (by simp only [argBest, eb, if_true]; exact pv1) (Heap.get?_update_self _ at1 rfl) fun v2 h2 tk2 p2 keep2 => fin v2 h2 tk2 p2 fun b o bw bS e => keep2 b o bw bS ((Heap.get?_update_other _ _ (Ne.symm bS)).trans (keep b o bw e))⟩
    | false =>
      simp only [Bool.false_eq_true, if_false]; refine wpAny_bind (wpAny_letGo ?_); rw [nm]
      exact wpAny_pure ⟨plainId_quiet F.plain_max_loop _, ih (i + 1) _ best ep (by omega) lt st1 (by simp only [argBest, eb, Bool.false_eq_true, if_false]; exact pb) at1 fun v2 h2 tk2 p2 keep2 => fin v2 h2 tk2 p2 fun b o bw bS e => keep2 b o bw bS (keep b o bw e)⟩
theorem maxD_first (W : Walks prog w A.in1 I fp wr n P St) (bt : Nat → Nat → Bool) (cmp : CmpOf prog w A.in1 .Gt P bt) (S : Addr) (out : S ∉ fp) (dv : Value) {s : Shared} {ep : Nat} (st : St 0 s.heap) (at0 : s.heap.get? S = some { cls := .type "list", dict := none, data := .seq #[] ep, slots := #[] })
    (fin : ∀ v h' tk, (n = 0 ∧ v = dv) ∨ (0 < n ∧ P (argBest bt (n - 1)) v) → (∀ b o, b ∉ wr → b ≠ S → s.heap.get? b = some o → h'.get? b = some o) → R (.ok (.ret v)) { s with heap := h', toks := tk }) :
    codeAny (model prog w) A (.builtin "max.loop" ⟨[.ref I, .none, .ref S], [(Str.ofString "default", dv)]⟩) R s := by
  have outw : S ∉ wr := fun h => out (W.sub _ h)
  have nm : (toString "max" ++ toString ".loop" : String) = "max.loop" := by decide
  refine codeAny_builtin F.entry_max_loop ?_; rw [Around.under_plainId F.plain_max_loop _]; show wpAny _ A.in1 (seqItems? (.ref S) >>= _) _ _ s
  refine wpAny_bind (wpAny_seqItems at0 rfl ?_); show wpAny _ A.in1 (tryCatch (pyNext (.ref I)) _ >>= _) _ _ s
  by_cases n0 : n = 0
  · subst n0
    refine wpAny_bind (wpAny_tryCatch (W.done s _ _ st fun h1 tk keep => ?_))
    exact wpAny_bind (wpAny_rule (wpAny_pure (fin dv h1 tk (.inl ⟨rfl, rfl⟩) fun b o bw _ e => keep b o bw e)))
  · have np : 0 < n := Nat.pos_of_ne_zero n0
    refine wpAny_bind (wpAny_tryCatch (W.item 0 s _ _ np st fun v h1 tk pv1 st1 keep => ?_)); show wpAny _ A.in1 (updateSeq S (fun _ => #[v, v]) >>= _) _ _ _
    have at1 := keep S _ outw at0
    refine wpAny_bind (wpAny_updateSeq at1 rfl ?_); rw [nm]
    exact wpAny_pure ⟨plainId_quiet F.plain_max_loop _, maxD_loop W bt cmp S out dv _ 0 _ v _ rfl np (W.frame _ _ _ st1 fun b bf o e => (Heap.get?_update_other _ _ (fun h : S = b => out (by rw [h]; exact bf))).trans e) pv1 (Heap.get?_update_self _ at1 rfl) fun v2 h2 tk2 p2 keep2 => fin v2 h2 tk2 (.inr ⟨np, p2⟩) fun b o bw bS e => keep2 b o bw bS ((Heap.get?_update_other _ _ (Ne.symm bS)).trans (keep b o bw e))⟩

theorem minD_loop (W : Walks prog w A.in1 I fp wr n P St) (bt : Nat → Nat → Bool) (cmp : CmpOf prog w A.in1 .Lt P bt) (S : Addr) (out : S ∉ fp) (dv : Value) : ∀ (m i : Nat) (s : Shared) (best : Value) (ep : Nat), n - (i + 1) = m → i + 1 ≤ n → St (i + 1) s.heap → P (argBest bt i) best →
    s.heap.get? S = some { cls := .type "list", dict := none, data := .seq #[best, best] ep, slots := #[] } → (∀ v h' tk, P (argBest bt (n - 1)) v → (∀ b o, b ∉ wr → b ≠ S → s.heap.get? b = some o → h'.get? b = some o) → R (.ok (.ret v)) { s with heap := h', toks := tk }) →
    codeAny (model prog w) A (.builtin "min.loop" ⟨[.ref I, .none, .ref S], [(Str.ofString "default", dv)]⟩) R s := by
  have outw : S ∉ wr := fun h => out (W.sub _ h)
  have nm : (toString "min" ++ toString ".loop" : String) = "min.loop" := by decide
  intro m
  induction m with
  | zero =>
    intro i s best ep em ei st pb at0 fin
    have ein : i + 1 = n := by omega
    refine codeAny_builtin F.entry_min_loop ?_; rw [Around.under_plainId F.plain_min_loop _]; show wpAny _ A.in1 (seqItems? (.ref S) >>= _) _ _ s
    refine wpAny_bind (wpAny_seqItems at0 rfl ?_); show wpAny _ A.in1 (tryCatch (pyNext (.ref I)) _ >>= _) _ _ s
    refine wpAny_bind (wpAny_tryCatch (W.done s _ _ (ein ▸ st) fun h1 tk keep => ?_)); show wpAny _ A.in1 (updateSeq S (fun _ => #[]) >>= _) _ _ _
    exact wpAny_bind (wpAny_updateSeq (keep S _ outw at0) rfl (wpAny_bind (wpAny_letGo (wpAny_pure (fin best _ tk (by rw [← ein]; exact pb) fun b o bw bS e => (Heap.get?_update_other _ _ (Ne.symm bS)).trans (keep b o bw e))))))
  | succ m ih =>
    intro i s best ep em ei st pb at0 fin
    have lt : i + 1 < n := by omega
    refine codeAny_builtin F.entry_min_loop ?_; rw [Around.under_plainId F.plain_min_loop _]; show wpAny _ A.in1 (seqItems? (.ref S) >>= _) _ _ s
    refine wpAny_bind (wpAny_seqItems at0 rfl ?_); show wpAny _ A.in1 (tryCatch (pyNext (.ref I)) _ >>= _) _ _ s
    refine wpAny_bind (wpAny_tryCatch (W.item (i + 1) s _ _ lt st fun v h1 tk pv1 st1 keep => ?_)); show wpAny _ A.in1 (tryCatch (holding [v, v] (richCompare .Lt v best >>= _)) _ >>= _) _ _ _
    have at1 := keep S _ outw at0
    refine wpAny_bind (wpAny_tryCatch (wpAny_holding (wpAny_bind (cmp (i + 1) (argBest bt i) v best _ _ _ pv1 pb (wpAny_bind (wpAny_holding (wpAny_truthy_bool (wpAny_bind (wpAny_letGo (wpAny_pure ?_))))))))))
    cases eb : bt (i + 1) (argBest bt i) with
    | true =>
      simp only [if_true]; refine wpAny_bind (wpAny_updateSeq at1 rfl (wpAny_bind (wpAny_letGo ?_))); rw [nm]
      refine wpAny_pure ⟨plainId_quiet F.plain_min_loop _, ih (i + 1) _ v _ (by omega) lt (W.frame _ _ _ st1 fun b bf o e => (Heap.get?_update_other _ _ (fun h : S = b => out (by rw [h]; exact bf))).trans e) (by simp only [argBest, eb, if_true]; exact pv1) (Heap.get?_update_self _ at1 rfl) fun v2 h2 tk2 p2 keep2 => fin v2 h2 tk2 p2 fun b o bw bS e => keep2 b o bw bS ((Heap.get?_update_other _ _ (Ne.symm bS)).trans (keep b o bw e))⟩
    | false =>
      simp only [Bool.false_eq_true, if_false]; refine wpAny_bind (wpAny_letGo ?_); rw [nm]
      exact wpAny_pure ⟨plainId_quiet F.plain_min_loop _, ih (i + 1) _ best ep (by omega) lt st1 (by simp only [argBest, eb, Bool.false_eq_true, if_false]; exact pb) at1 fun v2 h2 tk2 p2 keep2 => fin v2 h2 tk2 p2 fun b o bw bS e => keep2 b o bw bS (keep b o bw e)⟩
theorem minD_first (W : Walks prog w A.in1 I fp wr n P St) (bt : Nat → Nat → Bool) (cmp : CmpOf prog w A.in1 .Lt P bt) (S : Addr) (out : S ∉ fp) (dv : Value) {s : Shared} {ep : Nat} (st : St 0 s.heap) (at0 : s.heap.get? S = some { cls := .type "list", dict := none, data := .seq #[] ep, slots := #[] })
    (fin : ∀ v h' tk, (n = 0 ∧ v = dv) ∨ (0 < n ∧ P (argBest bt (n - 1)) v) → (∀ b o, b ∉ wr → b ≠ S → s.heap.get? b = some o → h'.get? b = some o) → R (.ok (.ret v)) { s with heap := h', toks := tk }) :
    codeAny (model prog w) A (.builtin "min.loop" ⟨[.ref I, .none, .ref S], [(Str.ofString "default", dv)]⟩) R s := by
  have outw : S ∉ wr := fun h => out (W.sub _ h)
  have nm : (toString "min" ++ toString ".loop" : String) = "min.loop" := by decide
  refine codeAny_builtin F.entry_min_loop ?_; rw [Around.under_plainId F.plain_min_loop _]; show wpAny _ A.in1 (seqItems? (.ref S) >>= _) _ _ s
  refine wpAny_bind (wpAny_seqItems at0 rfl ?_); show wpAny _ A.in1 (tryCatch (pyNext (.ref I)) _ >>= _) _ _ s
  by_cases n0 : n = 0
  · subst n0
    refine wpAny_bind (wpAny_tryCatch (W.done s _ _ st fun h1 tk keep => ?_))
    exact wpAny_bind (wpAny_rule (wpAny_pure (fin dv h1 tk (.inl ⟨rfl, rfl⟩) fun b o bw _ e => keep b o bw e)))
  · have np : 0 < n := Nat.pos_of_ne_zero n0
    refine wpAny_bind (wpAny_tryCatch (W.item 0 s _ _ np st fun v h1 tk pv1 st1 keep => ?_)); show wpAny _ A.in1 (updateSeq S (fun _ => #[v, v]) >>= _) _ _ _
    have at1 := keep S _ outw at0
    refine wpAny_bind (wpAny_updateSeq at1 rfl ?_); rw [nm]
    exact wpAny_pure ⟨plainId_quiet F.plain_min_loop _, minD_loop W bt cmp S out dv _ 0 _ v _ rfl np (W.frame _ _ _ st1 fun b bf o e => (Heap.get?_update_other _ _ (fun h : S = b => out (by rw [h]; exact bf))).trans e) pv1 (Heap.get?_update_self _ at1 rfl) fun v2 h2 tk2 p2 keep2 => fin v2 h2 tk2 (.inr ⟨np, p2⟩) fun b o bw bS e => keep2 b o bw bS ((Heap.get?_update_other _ _ (Ne.symm bS)).trans (keep b o bw e))⟩
end
section
variable {prog : Program} {w : World} {A : Around} {E : Value → Shared → Prop} {s : Shared}
theorem call_treeK {id : String} {b : Builtin} {xs : List Value} {kw : List (Str × Value)} {Q : Value → Shared → Prop} (hk : builtinKind id = none) (hp : plainId id = true) (hb : entryFor table id = some b) (ha : argsOk id ⟨xs, kw⟩)
    (hc : wpAny (model prog w) A.in1 (b ⟨xs, kw⟩) (fun fin s' => match fin with
      | .done f => (match (Except.ok f : Result) with | .ok (.ret v) => Q v s' | .ok _ => False | .error e => E e s')
      | .again c' => c'.quiet = true ∧ codeAny (model prog w) A c' (fun r s' => match r with | .ok (.ret v) => Q v s' | .ok _ => False | .error e => E e s') s') E s) : wpAny (model prog w) A (call (.builtin id) xs kw) Q E s := by
  refine wpAny_call (codeAny_call_builtin hp hb ?_); simp only [checkBuiltinCall, hk]
  cases hsig : Manifest.signature? id with
  | none => exact wpAny_pure hc
  | some sig =>
    simp only [argsOk, hsig] at ha
    show wpAny _ A.in1 (Bind.checkArgs id sig ⟨xs, kw⟩) _ _ s
    rw [show Bind.checkArgs id sig ⟨xs, kw⟩ = pure () from ha]; exact wpAny_pure hc
theorem old_keptL {l : Addr} {h' : Heap} (hk : ∀ b o, b ∉ [s.heap.objs.size] → (s.heap.push { cls := .type "list_iterator", data := .fields #[.ref l, .int 0 0] }).get? b = some o → h'.get? b = some o) : ∀ b o, s.heap.get? b = some o → h'.get? b = some o := fun b o e => by
  refine hk b o (fun hm => ?_) (Heap.get?_push_of_some _ e)
  rcases List.mem_cons.mp hm with e1 | hm
  · exact absurd (e1 ▸ Heap.lt_size e) (Nat.lt_irrefl _)
  · cases hm

theorem args_maxD (a d : Value) : argsOk "max" ⟨[a], [(Str.ofString "default", d)]⟩ := by unfold argsOk; kernel_rfl
theorem call_maxD {x dv : Value} {Q : Value → Shared → Prop} (h : wpAny (model prog w) A.in1 (pyIter x) (fun it s₂ => ∃ I fp wr n P St bt, it = .ref I ∧ Walks prog w A.in1 I fp wr n P St ∧ St 0 s₂.heap ∧ (∀ b ∈ fp, b < s₂.heap.objs.size) ∧ CmpOf prog w A.in1 .Gt P bt ∧
      ∀ v h' tk, (n = 0 ∧ v = dv) ∨ (0 < n ∧ P (argBest bt (n - 1)) v) → (∀ b o, b ∉ wr → s₂.heap.get? b = some o → h'.get? b = some o) → Q v { s₂ with heap := h', toks := tk }) E s) :
    wpAny (model prog w) A (call (.builtin "max") [x] [(Str.ofString "default", dv)]) Q E s := by
  have nm : (toString "max" ++ toString ".loop" : String) = "max.loop" := by decide
  refine call_treeK F.kind_max F.plain_max F.entry_max (args_maxD _ _) ?_
  show wpAny _ A.in1 (Builtin.Builtins.bindParams "max" ["key", "default"] 0 ⟨[], [(Str.ofString "default", dv)]⟩ >>= _) _ _ s
  refine wpAny_bind (wpAny_of_eq (show Builtin.Builtins.bindParams "max" ["key", "default"] 0 ⟨[], [(Str.ofString "default", dv)]⟩ = pure [none, some dv] from rfl) (wpAny_bind (wpAny_pure (wpAny_bind (wpAny_mono h (fun it s2 h2 => ?_) fun _ _ e => e)))))
  obtain ⟨I, fp, wr, n, P, St, bt, rfl, W, st, inH, cmp, fin⟩ := h2
  refine wpAny_bind (wpAny_newObj_type ?_); rw [nm]
  exact wpAny_pure ⟨plainId_quiet F.plain_max_loop _, maxD_first W bt cmp s2.heap.objs.size (fun hm => Nat.lt_irrefl _ (inH _ hm)) dv (W.frame _ _ _ st fun b _ o e => Heap.get?_push_of_some _ e) (Heap.get?_push_size _ rfl) fun v h' tk hP keep => fin v h' tk hP fun b o bw e => keep b o bw (Nat.ne_of_lt (Heap.lt_size e)) (Heap.get?_push_of_some _ e)⟩
theorem maxD_raw {l : Addr} {its : List Value} {ns : List Int} {dv : Value} {Q : Value → Shared → Prop} (hh : A.handled = none) (hl : s.heap.IsList l its.toArray) (hi : IntsAre its ns)
    (q : ∀ h' tk v, (∀ b o, s.heap.get? b = some o → h'.get? b = some o) → (ns = [] ∧ v = dv) ∨ (∃ M t', v = .int M t' ∧ M ∈ ns ∧ ∀ a, a ∈ ns → a ≤ M) → Q v { s with heap := h', toks := tk }) : wpAny (model prog w) A (call (.builtin "max") [.ref l] [(Str.ofString "default", dv)]) Q E s := by
  obtain ⟨xs, e⟩ := hi.allInts.items
  have hn : numsOf (intItems xs).toList = ns := by rw [← e]; exact hi.numsOf
  rw [nums_intItems] at hn; subst hn; rw [e] at hl
  refine call_maxD (iter_intList hl fun s₂ e2 st inH hlI => ?_)
  subst e2
  refine ⟨_, _, _, _, _, _, _, rfl, Walks.list (A := A.in1) hh _ l hlI (intItems xs), st, inH, CmpOf.ints_gt (numAt xs) (fun _ _ => intItems_at), fun v h' tk hP keep => q h' tk v (old_keptL keep) ?_⟩
  rcases hP with ⟨n0, hv⟩ | ⟨np, hP⟩
  · exact .inl ⟨List.eq_nil_of_length_eq_zero (by simpa [intItems] using n0), hv⟩
  · have hv : (intItems xs)[argBest (fun i j => decide (numAt xs i > numAt xs j)) (xs.size - 1)]? = some v := by simpa [intItems] using hP
    have hsz : 0 < xs.size := by simpa [intItems] using np
    obtain ⟨t, rfl⟩ := intItems_at hv
    obtain ⟨h1, h2⟩ := argBest_gt (numAt xs) (xs.size - 1)
    refine .inr ⟨_, t, rfl, by rw [numAt_eq]; exact PySem.getD_mem (by rw [List.length_map, Array.length_toList]; omega), fun a ha => ?_⟩
    obtain ⟨j, hj, rfl⟩ := mem_getD ha; rw [List.length_map, Array.length_toList] at hj
    rw [← numAt_eq]; exact h2 j (by omega)

theorem args_minD (a d : Value) : argsOk "min" ⟨[a], [(Str.ofString "default", d)]⟩ := by unfold argsOk; kernel_rfl
theorem call_minD {x dv : Value} {Q : Value → Shared → Prop} (h : wpAny (model prog w) A.in1 (pyIter x) (fun it s₂ => ∃ I fp wr n P St bt, it = .ref I ∧ Walks prog w A.in1 I fp wr n P St ∧ St 0 s₂.heap ∧ (∀ b ∈ fp, b < s₂.heap.objs.size) ∧ CmpOf prog w A.in1 .Lt P bt ∧
      ∀ v h' tk, (n = 0 ∧ v = dv) ∨ (0 < n ∧ P (argBest bt (n - 1)) v) → (∀ b o, b ∉ wr → s₂.heap.get? b = some o → h'.get? b = some o) → Q v { s₂ with heap := h', toks := tk }) E s) :
    wpAny (model prog w) A (call (.builtin "min") [x] [(Str.ofString "default", dv)]) Q E s := by
  have nm : (toString "min" ++ toString ".loop" : String) = "min.loop" := by decide
  refine call_treeK F.kind_min F.plain_min F.entry_min (args_minD _ _) ?_
  show wpAny _ A.in1 (Builtin.Builtins.bindParams "min" ["key", "default"] 0 ⟨[], [(Str.ofString "default", dv)]⟩ >>= _) _ _ s
  refine wpAny_bind (wpAny_of_eq (show Builtin.Builtins.bindParams "min" ["key", "default"] 0 ⟨[], [(Str.ofString "default", dv)]⟩ = pure [none, some dv] from rfl) (wpAny_bind (wpAny_pure (wpAny_bind (wpAny_mono h (fun it s2 h2 => ?_) fun _ _ e => e)))))
  obtain ⟨I, fp, wr, n, P, St, bt, rfl, W, st, inH, cmp, fin⟩ := h2
  refine wpAny_bind (wpAny_newObj_type ?_); rw [nm]
  exact wpAny_pure ⟨plainId_quiet F.plain_min_loop _, minD_first W bt cmp s2.heap.objs.size (fun hm => Nat.lt_irrefl _ (inH _ hm)) dv (W.frame _ _ _ st fun b _ o e => Heap.get?_push_of_some _ e) (Heap.get?_push_size _ rfl) fun v h' tk hP keep => fin v h' tk hP fun b o bw e => keep b o bw (Nat.ne_of_lt (Heap.lt_size e)) (Heap.get?_push_of_some _ e)⟩
theorem minD_raw {l : Addr} {its : List Value} {ns : List Int} {dv : Value} {Q : Value → Shared → Prop} (hh : A.handled = none) (hl : s.heap.IsList l its.toArray) (hi : IntsAre its ns)
    (q : ∀ h' tk v, (∀ b o, s.heap.get? b = some o → h'.get? b = some o) → (ns = [] ∧ v = dv) ∨ (∃ M t', v = .int M t' ∧ M ∈ ns ∧ ∀ a, a ∈ ns → M ≤ a) → Q v { s with heap := h', toks := tk }) : wpAny (model prog w) A (call (.builtin "min") [.ref l] [(Str.ofString "default", dv)]) Q E s := by
  obtain ⟨xs, e⟩ := hi.allInts.items
  have hn : numsOf (intItems xs).toList = ns := by rw [← e]; exact hi.numsOf
  rw [nums_intItems] at hn; subst hn; rw [e] at hl
  refine call_minD (iter_intList hl fun s₂ e2 st inH hlI => ?_)
  subst e2
  refine ⟨_, _, _, _, _, _, _, rfl, Walks.list (A := A.in1) hh _ l hlI (intItems xs), st, inH, CmpOf.ints_lt (numAt xs) (fun _ _ => intItems_at), fun v h' tk hP keep => q h' tk v (old_keptL keep) ?_⟩
  rcases hP with ⟨n0, hv⟩ | ⟨np, hP⟩
  · exact .inl ⟨List.eq_nil_of_length_eq_zero (by simpa [intItems] using n0), hv⟩
  · have hv : (intItems xs)[argBest (fun i j => decide (numAt xs i < numAt xs j)) (xs.size - 1)]? = some v := by simpa [intItems] using hP
    have hsz : 0 < xs.size := by simpa [intItems] using np
    obtain ⟨t, rfl⟩ := intItems_at hv
    obtain ⟨h1, h2⟩ := argBest_lt (numAt xs) (xs.size - 1)
    refine .inr ⟨_, t, rfl, by rw [numAt_eq]; exact PySem.getD_mem (by rw [List.length_map, Array.length_toList]; omega), fun a ha => ?_⟩
    obtain ⟨j, hj, rfl⟩ := mem_getD ha; rw [List.length_map, Array.length_toList] at hj
    rw [← numAt_eq]; exact h2 j (by omega)
end
section
variable {X : Cx}

def rmaxDef (K : PySem.W.Frag) : List V → List V → Hp → VK → Prop := fun vs zs H Q => ∃ (a : Addr) (ns : List Int), vs = [V.ref a] ∧ zs = [V.non] ∧ SqL K H a (ns.map V.int) ∧ (ns = [] → Q .non H) ∧ ∀ M, M ∈ ns → (∀ a, a ∈ ns → a ≤ M) → Q (.int M) H
theorem cr_maxDef (hc : X.calm = true) : CallRK X (.builtin "max") [Str.ofString "default"] (rmaxDef X.K) := by
  intro pins s σ H vs zs us ws Q I r rz h
  obtain ⟨a, ns, rfl, rfl, hs, q0, q1⟩ := h
  obtain rfl := Vals.ref1 r
  obtain ⟨w1, rfl, e1⟩ := vals1 rz
  obtain rfl : w1 = Value.none := e1
  obtain ⟨its, rv, hl, _⟩ := I.list hs
  refine maxD_raw (I.ok.hd hc) hl.isList rv.ints fun h' tk v hk hv => ?_
  rcases hv with ⟨en, rfl⟩ | ⟨M, t', rfl, m1, m2⟩
  · exact ⟨.non, H, I.kept hk, rfl, q0 en⟩
  · exact ⟨.int _, H, I.kept hk, ⟨_, rfl⟩, q1 M m1 m2⟩

def rminDef (K : PySem.W.Frag) : List V → List V → Hp → VK → Prop := fun vs zs H Q => ∃ (a : Addr) (ns : List Int), vs = [V.ref a] ∧ zs = [V.non] ∧ SqL K H a (ns.map V.int) ∧ (ns = [] → Q .non H) ∧ ∀ M, M ∈ ns → (∀ a, a ∈ ns → M ≤ a) → Q (.int M) H
theorem cr_minDef (hc : X.calm = true) : CallRK X (.builtin "min") [Str.ofString "default"] (rminDef X.K) := by
  intro pins s σ H vs zs us ws Q I r rz h
  obtain ⟨a, ns, rfl, rfl, hs, q0, q1⟩ := h
  obtain rfl := Vals.ref1 r
  obtain ⟨w1, rfl, e1⟩ := vals1 rz
  obtain rfl : w1 = Value.none := e1
  obtain ⟨its, rv, hl, _⟩ := I.list hs
  refine minD_raw (I.ok.hd hc) hl.isList rv.ints fun h' tk v hk hv => ?_
  rcases hv with ⟨en, rfl⟩ | ⟨M, t', rfl, m1, m2⟩
  · exact ⟨.non, H, I.kept hk, rfl, q0 en⟩
  · exact ⟨.int _, H, I.kept hk, ⟨_, rfl⟩, q1 M m1 m2⟩
end
end TT
namespace TT
open PySem PySem.Spec PyProof.Rows L2 LamX
open T
/-! ### the subtree of a key, its bounds, one rotation in preorder -/
def NearL (ks : List Int) (p : Int) : Option Int → Prop
  | none => ∀ y ∈ ks, ¬ y < p
  | some m => m ∈ ks ∧ m < p ∧ ∀ y ∈ ks, y < p → y ≤ m
def NearH (ks : List Int) (p : Int) : Option Int → Prop
  | none => ∀ y ∈ ks, ¬ p < y
  | some m => m ∈ ks ∧ p < m ∧ ∀ y ∈ ks, p < y → m ≤ y
theorem NearL.uniq {ks : List Int} {p : Int} : ∀ {x y : Option Int}, NearL ks p x → NearL ks p y → x = y
  | none, none, _, _ => rfl
  | none, some m, h, g => absurd g.2.1 (h m g.1)
  | some m, none, h, g => absurd h.2.1 (g m h.1)
  | some m, some n, h, g => by have := h.2.2 n g.1 g.2.1; have := g.2.2 m h.1 h.2.1; congr 1; omega
theorem NearH.uniq {ks : List Int} {p : Int} : ∀ {x y : Option Int}, NearH ks p x → NearH ks p y → x = y
  | none, none, _, _ => rfl
  | none, some m, h, g => absurd g.2.1 (h m g.1)
  | some m, none, h, g => absurd h.2.1 (g m h.1)
  | some m, some n, h, g => by have := h.2.2 n g.1 g.2.1; have := g.2.2 m h.1 h.2.1; congr 1; omega
def T.bdL (p : Int) : T → Option Int → Option Int
  | leaf, lo => lo
  | node l k r, lo => if p = k then lo else if p < k then l.bdL p lo else r.bdL p (some k)
def T.bdH (p : Int) : T → Option Int → Option Int
  | leaf, hi => hi
  | node l k r, hi => if p = k then hi else if p < k then l.bdH p (some k) else r.bdH p hi
def T.at (p : Int) : T → T
  | leaf => leaf
  | node l k r => if p = k then node l k r else if p < k then l.at p else r.at p
theorem bdL_near {p : Int} : ∀ {t : T} {lo : Option Int}, t.bst → p ∈ t.pre → NearL (t.path p) p (t.bdL p none) ∧ (t.bdL p lo = (t.bdL p none).or lo)
  | leaf, _, _, h => by cases h
  | node l k r, lo, b, h => by
    have bl : ∀ x ∈ l.pre, x < k := b.1
    have br : ∀ x ∈ r.pre, k < x := b.2.1
    by_cases e : p = k
    · subst e
      rw [path_k]
      have e1 : ∀ lo, (node l p r).bdL p lo = lo := fun lo => if_pos rfl
      rw [e1, e1]
      exact ⟨fun y hy => by rw [List.mem_singleton.mp hy]; omega, rfl⟩
    · rcases Int.lt_or_gt_of_ne e with lt | gt
      · have hp : p ∈ l.pre := by
          rcases mem_node.mp h with h | h | h
          · exact absurd h e
          · exact h
          · have := br p h; omega
        have e1 : ∀ lo, (node l k r).bdL p lo = l.bdL p lo := fun lo => by
          show (if p = k then lo else if p < k then l.bdL p lo else r.bdL p (some k)) = _
          rw [if_neg e, if_pos lt]
        rw [path_l b hp, e1, e1]
        obtain ⟨n1, n2⟩ := bdL_near (lo := lo) b.2.2.1 hp
        refine ⟨?_, n2⟩
        cases q : l.bdL p none with
        | none =>
          rw [q] at n1
          intro y hy
          rcases List.mem_cons.mp hy with rfl | hy
          · omega
          · exact n1 y hy
        | some m =>
          rw [q] at n1
          refine ⟨List.mem_cons_of_mem _ n1.1, n1.2.1, fun y hy ly => ?_⟩
          rcases List.mem_cons.mp hy with rfl | hy
          · omega
          · exact n1.2.2 y hy ly
      · have hp : p ∈ r.pre := by
          rcases mem_node.mp h with h | h | h
          · exact absurd h e
          · have := bl p h; omega
          · exact h
        have e1 : ∀ lo, (node l k r).bdL p lo = r.bdL p (some k) := fun lo => by
          show (if p = k then lo else if p < k then l.bdL p lo else r.bdL p (some k)) = _
          rw [if_neg e, if_neg (by omega)]
        rw [path_r b hp, e1, e1]
        obtain ⟨n1, n2⟩ := bdL_near (lo := some k) b.2.2.2 hp
        rw [n2]
        have hin := (path_mem b.2.2.2 hp).2
        cases q : r.bdL p none with
        | none =>
          rw [q] at n1
          refine ⟨⟨List.mem_cons_self, gt, fun y hy ly => ?_⟩, rfl⟩
          rcases List.mem_cons.mp hy with rfl | hy
          · exact Int.le_refl _
          · exact absurd ly (n1 y hy)
        | some m =>
          rw [q] at n1
          refine ⟨⟨List.mem_cons_of_mem _ n1.1, n1.2.1, fun y hy ly => ?_⟩, rfl⟩
          rcases List.mem_cons.mp hy with rfl | hy
          · have := br m (hin m n1.1); omega
          · exact n1.2.2 y hy ly
theorem bdH_near {p : Int} : ∀ {t : T} {hi : Option Int}, t.bst → p ∈ t.pre → NearH (t.path p) p (t.bdH p none) ∧ (t.bdH p hi = (t.bdH p none).or hi)
  | leaf, _, _, h => by cases h
  | node l k r, hi, b, h => by
    have bl : ∀ x ∈ l.pre, x < k := b.1
    have br : ∀ x ∈ r.pre, k < x := b.2.1
    by_cases e : p = k
    · subst e
      rw [path_k]
      have e1 : ∀ hi, (node l p r).bdH p hi = hi := fun hi => if_pos rfl
      rw [e1, e1]
      exact ⟨fun y hy => by rw [List.mem_singleton.mp hy]; omega, rfl⟩
    · rcases Int.lt_or_gt_of_ne e with lt | gt
      · have hp : p ∈ l.pre := by
          rcases mem_node.mp h with h | h | h
          · exact absurd h e
          · exact h
          · have := br p h; omega
        have e1 : ∀ hi, (node l k r).bdH p hi = l.bdH p (some k) := fun hi => by
          show (if p = k then hi else if p < k then l.bdH p (some k) else r.bdH p hi) = _
          rw [if_neg e, if_pos lt]
        rw [path_l b hp, e1, e1]
        obtain ⟨n1, n2⟩ := bdH_near (hi := some k) b.2.2.1 hp
        rw [n2]
        have hin := (path_mem b.2.2.1 hp).2
        cases q : l.bdH p none with
        | none =>
          rw [q] at n1
          refine ⟨⟨List.mem_cons_self, lt, fun y hy ly => ?_⟩, rfl⟩
          rcases List.mem_cons.mp hy with rfl | hy
          · exact Int.le_refl _
          · exact absurd ly (n1 y hy)
        | some m =>
          rw [q] at n1
          refine ⟨⟨List.mem_cons_of_mem _ n1.1, n1.2.1, fun y hy ly => ?_⟩, rfl⟩
          rcases List.mem_cons.mp hy with rfl | hy
          · have := bl m (hin m n1.1); omega
          · exact n1.2.2 y hy ly
      · have hp : p ∈ r.pre := by
          rcases mem_node.mp h with h | h | h
          · exact absurd h e
          · have := bl p h; omega
          · exact h
        have e1 : ∀ hi, (node l k r).bdH p hi = r.bdH p hi := fun hi => by
          show (if p = k then hi else if p < k then l.bdH p (some k) else r.bdH p hi) = _
          rw [if_neg e, if_neg (by omega)]
        rw [path_r b hp, e1, e1]
        obtain ⟨n1, n2⟩ := bdH_near (hi := hi) b.2.2.2 hp
        refine ⟨?_, n2⟩
        cases q : r.bdH p none with
        | none =>
          rw [q] at n1
          intro y hy
          rcases List.mem_cons.mp hy with rfl | hy
          · omega
          · exact n1 y hy
        | some m =>
          rw [q] at n1
          refine ⟨List.mem_cons_of_mem _ n1.1, n1.2.1, fun y hy ly => ?_⟩
          rcases List.mem_cons.mp hy with rfl | hy
          · omega
          · exact n1.2.2 y hy ly
/-- a lower bound that grew -/
theorem bdL_some {p : Int} : ∀ {t : T} {lo : Int}, t.bst → (∀ x ∈ t.pre, lo < x) → ∃ m, t.bdL p (some lo) = some m ∧ lo ≤ m
  | leaf, lo, _, _ => ⟨lo, rfl, Int.le_refl _⟩
  | node l k r, lo, b, h => by
    show ∃ m, (if p = k then some lo else if p < k then l.bdL p (some lo) else r.bdL p (some k)) = some m ∧ _
    split
    · exact ⟨lo, rfl, Int.le_refl _⟩
    · split
      · exact bdL_some b.2.2.1 fun x hx => h x (mem_node.mpr (.inr (.inl hx)))
      · obtain ⟨m, e, le⟩ := bdL_some (p := p) (lo := k) b.2.2.2 b.2.1
        have := h k (mem_node.mpr (.inl rfl))
        exact ⟨m, e, by omega⟩
theorem bdH_some {p : Int} : ∀ {t : T} {hi : Int}, t.bst → (∀ x ∈ t.pre, x < hi) → ∃ m, t.bdH p (some hi) = some m ∧ m ≤ hi
  | leaf, hi, _, _ => ⟨hi, rfl, Int.le_refl _⟩
  | node l k r, hi, b, h => by
    show ∃ m, (if p = k then some hi else if p < k then l.bdH p (some k) else r.bdH p (some hi)) = some m ∧ _
    split
    · exact ⟨hi, rfl, Int.le_refl _⟩
    · split
      · obtain ⟨m, e, le⟩ := bdH_some (p := p) (hi := k) b.2.2.1 b.1
        have := h k (mem_node.mpr (.inl rfl))
        exact ⟨m, e, by omega⟩
      · exact bdH_some b.2.2.2 fun x hx => h x (mem_node.mpr (.inr (.inr hx)))
theorem at_pre {p : Int} : ∀ {t : T} {lo hi : Option Int}, t.bst → p ∈ t.pre → (∀ x ∈ t.pre, okLo lo x = true ∧ okHi hi x = true) → (t.at p).pre = t.pre.filter fun x => okLo (t.bdL p lo) x && okHi (t.bdH p hi) x
  | leaf, _, _, _, h, _ => by cases h
  | node l k r, lo, hi, b, h, ok => by
    have bl : ∀ x ∈ l.pre, x < k := b.1
    have br : ∀ x ∈ r.pre, k < x := b.2.1
    show (if p = k then node l k r else if p < k then l.at p else r.at p).pre = (node l k r).pre.filter fun x => okLo (if p = k then lo else if p < k then l.bdL p lo else r.bdL p (some k)) x && okHi (if p = k then hi else if p < k then l.bdH p (some k) else r.bdH p hi) x
    by_cases e : p = k
    · simp only [if_pos e]
      rw [filter_all fun x hx => by rw [(ok x hx).1, (ok x hx).2]; rfl]
    · simp only [if_neg e]
      by_cases lt : p < k
      · have hp : p ∈ l.pre := by
          rcases mem_node.mp h with h | h | h
          · exact absurd h e
          · exact h
          · have := br p h; omega
        simp only [if_pos lt]
        rw [at_pre (lo := lo) (hi := some k) b.2.2.1 hp (fun x hx => ⟨(ok x (mem_node.mpr (.inr (.inl hx)))).1, decide_eq_true (bl x hx)⟩)]
        obtain ⟨m, em, le⟩ := bdH_some (p := p) (hi := k) b.2.2.1 bl
        rw [em]
        show _ = (k :: (l.pre ++ r.pre)).filter _
        rw [List.filter_cons_of_neg (by show ¬ ((_ && decide (k < m)) = true); rw [decide_eq_false (by omega), Bool.and_false]; exact Bool.false_ne_true), List.filter_append,
          filter_none (l := r.pre) (fun x hx => by have := br x hx; show (_ && decide (x < m)) = false; rw [decide_eq_false (by omega), Bool.and_false]), List.append_nil]
      · have hp : p ∈ r.pre := by
          rcases mem_node.mp h with h | h | h
          · exact absurd h e
          · have := bl p h; omega
          · exact h
        simp only [if_neg lt]
        rw [at_pre (lo := some k) (hi := hi) b.2.2.2 hp (fun x hx => ⟨decide_eq_true (br x hx), (ok x (mem_node.mpr (.inr (.inr hx)))).2⟩)]
        obtain ⟨m, em, le⟩ := bdL_some (p := p) (lo := k) b.2.2.2 br
        rw [em]
        show _ = (k :: (l.pre ++ r.pre)).filter _
        rw [List.filter_cons_of_neg (by show ¬ ((decide (m < k) && _) = true); rw [decide_eq_false (by omega), Bool.false_and]; exact Bool.false_ne_true), List.filter_append,
          filter_none (l := l.pre) (fun x hx => by have := bl x hx; show (decide (m < x) && _) = false; rw [decide_eq_false (by omega), Bool.false_and]), List.nil_append]
theorem at_near {p : Int} {t : T} {lo hi : Option Int} (b : t.bst) (h : p ∈ t.pre) (n1 : NearL (t.path p) p lo) (n2 : NearH (t.path p) p hi) : t.pre.filter (fun x => okLo lo x && okHi hi x) = (t.at p).pre := by
  rw [at_pre (lo := none) (hi := none) b h (fun _ _ => ⟨rfl, rfl⟩), n1.uniq (bdL_near (lo := none) b h).1, n2.uniq (bdH_near (hi := none) b h).1]
theorem at_bst {p : Int} : ∀ {t : T}, t.bst → (t.at p).bst
  | leaf, _ => trivial
  | node l k r, b => by
    show (if p = k then node l k r else if p < k then l.at p else r.at p).bst
    split
    · exact b
    · split
      · exact at_bst b.2.2.1
      · exact at_bst b.2.2.2
/-- where the subtree stands in the preorder, and what a rotation at it does -/
theorem rot_at {p : Int} : ∀ {t : T}, t.bst → p ∈ t.pre → ∃ A C, t.pre = A ++ (t.at p).pre ++ C ∧ p ∉ A ∧ (∃ S, (t.at p).pre = p :: S) ∧ ∀ x, t.up x = some p → (t.rot x).pre = A ++ topL x (t.at p).pre ++ C
  | leaf, _, h => by cases h
  | node l k r, b, h => by
    have bl : ∀ x ∈ l.pre, x < k := b.1
    have br : ∀ x ∈ r.pre, k < x := b.2.1
    have ea : (node l k r).at p = if p = k then node l k r else if p < k then l.at p else r.at p := rfl
    by_cases e : p = k
    · subst e
      rw [ea, if_pos rfl]
      refine ⟨[], [], by simp, by simp, ⟨_, rfl⟩, fun x hx => ?_⟩
      rw [List.nil_append, List.append_nil, ← tch_pre b, ← rot_tch b]
      have hxi : x ∈ (node l p r).pre := up_in hx
      have rr : ((node l p r).rot x).rt = some x := by rw [rt_rot b hx, up_root, if_pos rfl]
      rw [tch_root (bst_rot b) rr]
    · by_cases lt : p < k
      · have hp : p ∈ l.pre := by
          rcases mem_node.mp h with h | h | h
          · exact absurd h e
          · exact h
          · have := br p h; omega
        rw [ea, if_neg e, if_pos lt]
        obtain ⟨A, C, h1, h2, h3, h4⟩ := rot_at b.2.2.1 hp
        refine ⟨k :: A, C ++ r.pre, ?_, ?_, h3, fun x hx => ?_⟩
        · show k :: (l.pre ++ r.pre) = _
          rw [h1]; simp
        · intro z
          rcases List.mem_cons.mp z with z | z
          · exact e z
          · exact h2 z
        · rcases up_cases b hx with ⟨a1, a2, a3⟩ | ⟨a1, a2, a3, a4⟩ | ⟨a1, a2, a3⟩ | ⟨a1, a2, a3, a4⟩
          · exact absurd a3 e
          · have er : (node l k r).rot x = node (l.rot x) k r := by
              show (if x < k then (if l.rt = some x then _ else _) else _) = _
              rw [if_pos a1, if_neg a2]
            rw [er]
            show k :: ((l.rot x).pre ++ r.pre) = _
            rw [h4 x a3]; simp
          · exact absurd a3 e
          · omega
      · have hp : p ∈ r.pre := by
          rcases mem_node.mp h with h | h | h
          · exact absurd h e
          · have := bl p h; omega
          · exact h
        rw [ea, if_neg e, if_neg lt]
        obtain ⟨A, C, h1, h2, h3, h4⟩ := rot_at b.2.2.2 hp
        refine ⟨k :: (l.pre ++ A), C, ?_, ?_, h3, fun x hx => ?_⟩
        · show k :: (l.pre ++ r.pre) = _
          rw [h1]; simp
        · intro z
          rcases List.mem_cons.mp z with z | z
          · exact e z
          · rcases List.mem_append.mp z with z | z
            · have := bl p z; omega
            · exact h2 z
        · rcases up_cases b hx with ⟨a1, a2, a3⟩ | ⟨a1, a2, a3, a4⟩ | ⟨a1, a2, a3⟩ | ⟨a1, a2, a3, a4⟩
          · exact absurd a3 e
          · omega
          · exact absurd a3 e
          · have er : (node l k r).rot x = node l k (r.rot x) := by
              show (if x < k then _ else if k < x then (if r.rt = some x then _ else _) else _) = _
              rw [if_neg (by omega), if_pos a1, if_neg a2]
            rw [er]
            show k :: (l.pre ++ (r.rot x).pre) = _
            rw [h4 x a3]; simp
theorem idx_pre {A S : List Int} {p : Int} (h : p ∉ A) : (A ++ p :: S).idxOf p = A.length := by
  induction A with
  | nil => simp
  | cons a A ih =>
    have n1 : a ≠ p := fun e => h (by rw [e]; exact List.mem_cons_self)
    have n2 : p ∉ A := fun e => h (List.mem_cons_of_mem _ e)
    rw [List.cons_append, List.idxOf_cons, ih n2, beq_eq_false_iff_ne.mpr n1]
    rfl
theorem atI_m2 (xs : List V) (u v : V) : atI (xs ++ [u, v]) (-2) = some u := by
  simp [atI, ixN]
  rw [if_pos (by omega)]
  have e : (-2 + ((xs.length : Int) + 2)).toNat = xs.length := by omega
  simp [e]
/-! ### t.index(k) of a tuple of ints -/
section
variable {X : Cx}
def rTIndex (K : PySem.W.Frag) : V → List V → Hp → VK → Prop := fun x xs H Q => ∃ (a : Addr) (ns : List Int) (k : Int), x = V.ref a ∧ xs = [V.int k] ∧ SqT K H a (ns.map V.int) ∧ k ∈ ns ∧ Q (.int (ns.idxOf k : Nat)) H
theorem mt_tindex : MtR X "tuple.index" (rTIndex X.K) := by
  intro pins s σ H x xs v us Q I rx rs h
  obtain ⟨a, ns, k, rfl, rfl, hq, hk, q⟩ := h
  cases rx
  obtain ⟨u, rfl, t, rfl⟩ := vals1 rs
  obtain ⟨its, r, pl, hz⟩ := I.tuple hq
  exact PySem.SeqAt.tuple_index_ints pl r.ints hk ⟨.int (ns.idxOf k : Nat), H, I.tok _, ⟨_, rfl⟩, q⟩
end
theorem rd_slA {K : PySem.W.Frag} {H : Hp} {a : Addr} {xs : List V} {lo hi : Option Int} {Q : VK} (ha : H a = some (.tup xs)) (q : ∀ p H', Same H H' → H' p = some (.tup (cutV xs lo hi)) → Q (.ref p) H') : rSlA K (.ref a) lo hi H Q := by
  refine ⟨a, xs, rfl, SqT.of ha, fun hw => q a H (.refl _) ?_, fun _ p np => q p _ (same_new np) upd_same⟩
  unfold cutV
  rw [hw.1, hw.2, List.drop_zero, Nat.sub_zero, List.take_length]
  exact ha
/-! ### promises -/
def spParentX (K : PySem.W.Frag) (C : Addr) : Sp := fun vs H Q E => ∃ (a : Addr) (key : Int) (t : T), vs = [.ref a, .int key] ∧ SqT K H a (t.pre.map V.int) ∧ t.bst ∧ t.pre.length ≤ 1000 ∧ key.natAbs.log2 < 1920 ∧
  (key ∈ t.pre → ∀ H', Same H H' → Q (oV (t.up key)) H') ∧ (key ∉ t.pre → ENo C key H E)
def spNear (K : PySem.W.Frag) : Sp := fun vs H Q _ => ∃ (a : Addr) (ks : List Int) (key : Int), vs = [.ref a, .int key] ∧ SqL K H a (ks.map V.int) ∧ ks.length ≤ 1000 ∧
  ∀ p lo hi H', NearL ks key lo → NearH ks key hi → Same H H' → H p = none → H' p = some (.tup [oV lo, oV hi]) → Q (.ref p) H'
def spBoundsX (K : PySem.W.Frag) (C : Addr) : Sp := fun vs H Q E => ∃ (a : Addr) (key : Int) (t : T), vs = [.ref a, .int key] ∧ SqT K H a (t.pre.map V.int) ∧ t.bst ∧ t.pre.length ≤ 1000 ∧ key.natAbs.log2 < 1920 ∧
  (key ∈ t.pre → ∀ p lo hi H', NearL (t.path key) key lo → NearH (t.path key) key hi → Same H H' → H' p = some (.tup [oV lo, oV hi]) → Q (.ref p) H') ∧ (key ∉ t.pre → ENo C key H E)
def spSubX (K : PySem.W.Frag) (C : Addr) : Sp := fun vs H Q E => ∃ (a : Addr) (key : Int) (t : T), vs = [.ref a, .int key] ∧ SqT K H a (t.pre.map V.int) ∧ t.bst ∧ t.pre.length ≤ 1000 ∧ key.natAbs.log2 < 1920 ∧
  (key ∈ t.pre → ∀ p H', Same H H' → H' p = some (.tup ((t.at key).pre.map V.int)) → Q (.ref p) H') ∧ (key ∉ t.pre → ENo C key H E)
def spRotX (K : PySem.W.Frag) (C1 C2 : Addr) : Sp := fun vs H Q E => ∃ (a : Addr) (key : Int) (t : T), vs = [.ref a, .int key] ∧ H a = some (.tup (t.pre.map V.int)) ∧ t.bst ∧ t.pre.length ≤ 1000 ∧ Kn t.pre ∧ key.natAbs.log2 < 1920 ∧
  (∀ p, t.up key = some p → ∀ q H', Same H H' → H' q = some (.tup ((t.rot key).pre.map V.int)) → Q (.ref q) H') ∧ (key ∈ t.pre → t.up key = none → EOw C2 "AtRoot" "key" key H E) ∧ (key ∉ t.pre → ENo C1 key H E)
end TT
namespace TT
open PySem PySem.Spec PyProof.Rows L2 LamX
open T
/-! ### a def that an expression gives, called -/
def tCallF (S : Addr → Sp → Prop) (te : TE) (t : TA) : TE := fun σ H Q => te σ H fun v H1 => ∃ f sp, v = .ref f ∧ S f sp ∧ t σ H1 fun vs H2 => sp vs H2 Q E0
section
variable {X : Cx} {k : Nat} {S : Addr → Sp → Prop} {e0 e : Expr} {es : List Expr} {te : TE} {t : TA} {pos : Pos}
theorem pe_callF (hS : ∀ f sp, S f sp → ∃ fd ps, FnOk X.prog X.w X.K X.mg X.base CX0 k f fd ps sp ∧ PySem.W.keepIn X.K (.ref f) = true ∧ Binds X.K fd ps []) (hr : Room k X.A) (h0 : PE X e0 te) (ha : PA X (e :: es) t)
    (hev : eval (.Call e0 (e :: es) [] pos) X.env = (do callWith pos (← eval e0 X.env) [] (backTo pos (starEach (e :: es) X.env)) (backToKw pos (keywordEach [] X.env))) := by rfl)
    (he : starEach (e :: es) X.env = (false, eval e X.env) :: starEach es X.env := by rfl) (hpl : (backTo pos (starEach es X.env)).any (·.1) = false := by rfl) : PE X (.Call e0 (e :: es) [] pos) (tCallF S te t) := by
  refine ⟨fun pins s σ H Q I h => Call_ (thn (h0.run pins s σ H _ I h) fun u s1 ⟨v, H1, I1, r1, f, sp, ev, hs, ht⟩ => ?_) hev⟩
  subst ev
  cases r1
  obtain ⟨fd, ps, F, hk, hb⟩ := hS f sp hs
  refine PySem.W.callWith_K (h₀ := X.base) I.ok.mod.kin hk (thn (ha.run pos pins s1 σ H1 _ I1 ht) fun us s2 ⟨vs, H2, I2, r, q⟩ => ⟨I2.kIn, ?_⟩) he hpl
  exact run_fn F hr hb .nil pass0 I2 r (by rw [List.append_nil]; exact q)
end
/-! ### a shape that is built -/
theorem grow_cons {x : Int} {ks : List Int} (h : x ∉ ks) : (insAll (x :: ks) leaf).pre = x :: ((insAll ((x :: ks).filter fun y => decide (y < x)) leaf).pre ++ (insAll ((x :: ks).filter fun y => decide (x < y)) leaf).pre) := by
  have e : insAll (x :: ks) leaf = insAll ks (node leaf x leaf) := rfl
  rw [e, insAll_split, List.filter_cons_of_neg (by simp), List.filter_cons_of_neg (by simp)]
  have e2 : (ks.filter fun y => !decide (y < x)) = ks.filter fun y => decide (x < y) := List.filter_congr fun y hy => by
    have : y ≠ x := fun z => h (z ▸ hy)
    by_cases g : x < y
    · rw [decide_eq_true g, decide_eq_false (by omega)]; rfl
    · rw [decide_eq_false g, decide_eq_true (by omega)]; rfl
  rw [e2]
  rfl
def Sq (K : PySem.W.Frag) (H : Hp) (a : Addr) (xs : List V) : Prop := SqL K H a xs ∨ SqT K H a xs
theorem Sq.same {K : PySem.W.Frag} {H H' : Hp} {a : Addr} {xs : List V} (h : Sq K H a xs) (e : Same H H') : Sq K H' a xs := h.elim (fun h => .inl (e.seq h)) fun h => .inr (Same.tup e h)
def spGrow (K : PySem.W.Frag) (n : Nat) : Sp := fun vs H Q _ => ∃ (a : Addr) (ks : List Int), vs = [.ref a] ∧ Sq K H a (ks.map V.int) ∧ ks.Nodup ∧ ks.length < n ∧ ks.length ≤ 1000 ∧
  ∀ p H', Same H H' → H' p = some (.tup ((insAll ks leaf).pre.map V.int)) → Q (.ref p) H'
def spChkW (K : PySem.W.Frag) (C1 C2 : Addr) : Sp := fun vs H Q E => ∃ (a : Addr) (ks : List Int), vs = [.ref a] ∧ Sq K H a (ks.map V.int) ∧ ks.length ≤ 1000 ∧ Kn ks ∧
  (40 < ks.length → EOw C1 "TooManyKeys" "limit" 40 H E) ∧ (ks.length ≤ 40 → ∀ n, ks.find? (fun n => !okK n) = some n → EOw C2 "BadKey" "key" n H E) ∧ (ks.length ≤ 40 → ks.find? (fun n => !okK n) = none → Q .non H)
/-- d is the first that stands twice -/
def Dup1 (ks : List Int) (d : Int) : Prop := ∃ i, ks[i]? = some d ∧ d ∈ ks.take i ∧ ∀ j x, j < i → ks[j]? = some x → x ∉ ks.take j
theorem Dup1.uniq {ks : List Int} {d e : Int} (h : Dup1 ks d) (g : Dup1 ks e) : d = e := by
  obtain ⟨i, a, b, c⟩ := h
  obtain ⟨j, a', b', c'⟩ := g
  rcases Nat.lt_trichotomy i j with l | l | l
  · exact absurd b (c' i d l a)
  · subst l; rw [a] at a'; exact Option.some.inj a'
  · exact absurd b' (c j e l a')
theorem nodup_at {ks : List Int} (h : ∀ j x, ks[j]? = some x → x ∉ ks.take j) : ks.Nodup := by
  rw [List.Nodup, List.pairwise_iff_getElem]
  intro i j hi hj lt e
  refine h j ks[j] (List.getElem?_eq_getElem hj) ?_
  rw [← e]
  exact List.mem_take_iff_getElem.mpr ⟨i, by omega, rfl⟩
theorem Dup1.not {ks : List Int} {d : Int} (h : Dup1 ks d) (n : ks.Nodup) : False := by
  obtain ⟨i, a, b, _⟩ := h
  obtain ⟨j, hj, e⟩ := List.mem_take_iff_getElem.mp b
  obtain ⟨hi, e2⟩ := List.getElem?_eq_some_iff.mp a
  have := (List.pairwise_iff_getElem.mp n) j i (by omega) hi (by omega)
  exact this (e.trans e2.symm)
def spBuildX (K : PySem.W.Frag) (C1 C2 C3 : Addr) : Sp := fun vs H Q E => ∃ (a : Addr) (ks : List Int), vs = [.ref a] ∧ (H a = some (.lst (ks.map V.int)) ∨ H a = some (.tup (ks.map V.int))) ∧ ks.length ≤ 1000 ∧ Kn ks ∧
  (40 < ks.length → EOw C1 "TooManyKeys" "limit" 40 H E) ∧ (ks.length ≤ 40 → ∀ n, ks.find? (fun n => !okK n) = some n → EOw C2 "BadKey" "key" n H E) ∧
  (ks.length ≤ 40 → ks.find? (fun n => !okK n) = none → ∀ d, Dup1 ks d → EOw C3 "DuplicateKey" "key" d H E) ∧
  (ks.length ≤ 40 → ks.find? (fun n => !okK n) = none → ks.Nodup → ∀ p H', Same H H' → H' p = some (.tup ((insAll ks leaf).pre.map V.int)) → Q (.ref p) H')
/-- what a build is due to tell -/
def DueB (H : Hp) (du : Addr) (ks : List Int) : Prop :=
  (40 < ks.length ∧ H du = some (.tup [.non, .str "TooManyKeys", .int 40])) ∨
  (ks.length ≤ 40 ∧ ∃ n, ks.find? (fun n => !okK n) = some n ∧ H du = some (.tup [.non, .str "BadKey", .int n])) ∨
  (ks.length ≤ 40 ∧ ks.find? (fun n => !okK n) = none ∧ ∃ d, Dup1 ks d ∧ H du = some (.tup [.non, .str "DuplicateKey", .int d])) ∨
  (ks.length ≤ 40 ∧ ks.find? (fun n => !okK n) = none ∧ ks.Nodup ∧ ∃ q, H du = some (.tup [.ref q, .str "", .non]) ∧ H q = some (.tup ((insAll ks leaf).pre.map V.int)))
theorem DueB.kept {H H' : Hp} {du : Addr} {ks : List Int} (h : DueB H du ks) (e : ∀ x xs, H x = some (.tup xs) → H' x = some (.tup xs)) : DueB H' du ks := by
  rcases h with ⟨a, b⟩ | ⟨a, n, b, c⟩ | ⟨a, b, d, c, g⟩ | ⟨a, b, c, q, g1, g2⟩
  · exact .inl ⟨a, e _ _ b⟩
  · exact .inr (.inl ⟨a, n, b, e _ _ c⟩)
  · exact .inr (.inr (.inl ⟨a, b, d, c, e _ _ g⟩))
  · exact .inr (.inr (.inr ⟨a, b, c, q, e _ _ g1, e _ _ g2⟩))
theorem build_out {K : PySem.W.Frag} {C1 C2 C3 : Addr} {cT cM : Value} {a du : Addr} {ks : List Int} {H1 : Hp} {E : XK} {R Q : VK} (ha : H1 a = some (.lst (ks.map V.int)) ∨ H1 a = some (.tup (ks.map V.int))) (hl : ks.length ≤ 1000) (kn : Kn ks) (D : DueB H1 du ks)
    (n1 : PySem.W.exmAny K (.ref C1) [cT, cM] = some true) (X1 : XfC K C1) (f1 : PySem.W.findIn K (.ref C1) "tag" = some none) (f2 : PySem.W.findIn K (.ref C1) "limit" = some none)
    (n2 : PySem.W.exmAny K (.ref C2) [cT, cM] = some true) (X2 : XfC K C2) (f3 : PySem.W.findIn K (.ref C2) "tag" = some none) (f4 : PySem.W.findIn K (.ref C2) "key" = some none)
    (n3 : PySem.W.exmAny K (.ref C3) [cT, cM] = some true) (X3 : XfC K C3) (f5 : PySem.W.findIn K (.ref C3) "tag" = some none) (f6 : PySem.W.findIn K (.ref C3) "key" = some none)
    (hE : ∀ cls d H', Xo K cT cM Q cls d H' → E cls d H') (hR : ∀ v H', (∀ p H'', Same H' H'' → H' p = none → H'' p = some (.tup [v, .str "", .non]) → Q (.ref p) H'') → R v H')
    (fin : ∀ p Hx, Same H1 Hx → Eqv Hx 2 (.ref p) (.ref du) → Q (.ref p) Hx) : spBuildX K C1 C2 C3 [.ref a] H1 R E := by
  refine ⟨a, ks, rfl, ha, hl, kn, fun h40 => ?_, fun h40 n hn => ?_, fun h40 hn d hd => ?_, fun h40 hn nd p H' e hp => ?_⟩
  · rcases D with ⟨_, d⟩ | ⟨z, _⟩ | ⟨z, _⟩ | ⟨z, _⟩
    · exact fun dd Hf e hd => hE _ _ _ ⟨n1, C1, dd, "TooManyKeys", .int 40, rfl, rfl, bears_mk X1 f1 f2 hd (by decide +kernel) (by decide +kernel), fun p Hx ex _ hp => fin p Hx (e.trans ex) (eqv_tri hp ((e.trans ex) _ _ d) (eqv_flat rfl) (eqv_flat rfl) (eqv_flat rfl))⟩
    all_goals omega
  · rcases D with ⟨z, _⟩ | ⟨_, m, hm, d⟩ | ⟨_, z, _⟩ | ⟨_, z, _⟩
    · omega
    · rw [hn] at hm
      cases hm
      exact fun dd Hf e hd => hE _ _ _ ⟨n2, C2, dd, "BadKey", .int n, rfl, rfl, bears_mk X2 f3 f4 hd (by decide +kernel) (by decide +kernel), fun p Hx ex _ hp => fin p Hx (e.trans ex) (eqv_tri hp ((e.trans ex) _ _ d) (eqv_flat rfl) (eqv_flat rfl) (eqv_flat rfl))⟩
    all_goals (rw [hn] at z; cases z)
  · rcases D with ⟨z, _⟩ | ⟨_, m, hm, _⟩ | ⟨_, _, d', hd', du'⟩ | ⟨_, _, z, _⟩
    · omega
    · rw [hn] at hm; cases hm
    · cases hd.uniq hd'
      exact fun dd Hf e hdd => hE _ _ _ ⟨n3, C3, dd, "DuplicateKey", .int d, rfl, rfl, bears_mk X3 f5 f6 hdd (by decide +kernel) (by decide +kernel), fun p Hx ex _ hp => fin p Hx (e.trans ex) (eqv_tri hp ((e.trans ex) _ _ du') (eqv_flat rfl) (eqv_flat rfl) (eqv_flat rfl))⟩
    · exact (hd.not z).elim
  · rcases D with ⟨z, _⟩ | ⟨_, m, hm, _⟩ | ⟨_, _, d', hd', _⟩ | ⟨_, _, _, q, d1, d2⟩
    · omega
    · rw [hn] at hm; cases hm
    · exact (hd'.not nd).elim
    · refine hR _ _ fun pp Hx ex _ hpp => fin pp Hx (e.trans ex) (eqv_tri hpp ((e.trans ex) _ _ d1) ?_ (eqv_flat rfl) (eqv_flat rfl))
      refine eqv_ints1 (ex _ _ hp) ((e.trans ex) _ _ d2) ?_
      rw [len_insAll]
      show 0 + _ ≤ _
      omega
/-- the keys that stand before, in their order -/
def againL (ks : List Int) (m : Nat) : List Int := ((List.range m).filter fun k => decide (ks.getD k 0 ∈ ks.take k)).map fun k => ks.getD k 0
theorem againL_nil {ks : List Int} (h : againL ks ks.length = []) : ks.Nodup := nodup_at fun j x hx hm => by
  have lt := (List.getElem?_eq_some_iff.mp hx).1
  have e : ks.getD j 0 = x := by rw [List.getD_eq_getElem?_getD, hx]; rfl
  have : x ∈ againL ks ks.length := List.mem_map.mpr ⟨j, List.mem_filter.mpr ⟨List.mem_range.mpr lt, decide_eq_true (by rw [e]; exact hm)⟩, e⟩
  rw [h] at this
  cases this
theorem againL_cons {ks l : List Int} {d : Int} (h : againL ks ks.length = d :: l) : Dup1 ks d := by
  unfold againL at h
  cases hf : (List.range ks.length).filter (fun k => decide (ks.getD k 0 ∈ ks.take k)) with
  | nil => rw [hf] at h; cases h
  | cons i r =>
    rw [hf] at h
    have e : ks.getD i 0 = d := (List.cons.inj h).1
    have hi : i ∈ (List.range ks.length).filter (fun k => decide (ks.getD k 0 ∈ ks.take k)) := by rw [hf]; exact List.mem_cons_self
    obtain ⟨h1, h2⟩ := List.mem_filter.mp hi
    have lt := List.mem_range.mp h1
    refine ⟨i, by rw [← e, List.getD_eq_getElem?_getD, List.getElem?_eq_getElem lt]; rfl, by rw [← e]; exact of_decide_eq_true h2, fun j x hj hx hm => ?_⟩
    have ej : ks.getD j 0 = x := by rw [List.getD_eq_getElem?_getD, hx]; rfl
    have hjm : j ∈ (List.range ks.length).filter (fun k => decide (ks.getD k 0 ∈ ks.take k)) := List.mem_filter.mpr ⟨List.mem_range.mpr (by omega), decide_eq_true (by rw [ej]; exact hm)⟩
    have sorted : ((List.range ks.length).filter (fun k => decide (ks.getD k 0 ∈ ks.take k))).Pairwise (· < ·) := List.pairwise_lt_range.sublist (List.filter_sublist)
    rw [hf] at hjm sorted
    rcases List.mem_cons.mp hjm with z | z
    · omega
    · have := (List.pairwise_cons.mp sorted).1 j z
      omega
theorem againL_succ (ks : List Int) (m : Nat) : againL ks (m + 1) = againL ks m ++ if ks.getD m 0 ∈ ks.take m then [ks.getD m 0] else [] := by
  unfold againL
  rw [List.range_succ, List.filter_append, List.map_append]
  congr 1
  by_cases h : ks.getD m 0 ∈ ks.take m
  · rw [List.filter_cons_of_pos (by rw [decide_eq_true_iff]; exact h), if_pos h]; rfl
  · rw [List.filter_cons_of_neg (by rw [decide_eq_true_iff]; exact h), if_neg h]; rfl
theorem againL_len (ks : List Int) (m : Nat) : (againL ks m).length ≤ m := by
  unfold againL
  rw [List.length_map]
  have := List.length_filter_le (fun k => decide (ks.getD k 0 ∈ ks.take k)) (List.range m)
  rwa [List.length_range] at this
def insAtL (ks : List Int) (r : Nat) (n : Int) : List Int := ks.take r ++ n :: ks.drop r
theorem insAtL_map (ks : List Int) (r : Nat) (n : Int) : (ks.map V.int).take r ++ [.int n] ++ (ks.map V.int).drop r = (insAtL ks r n).map V.int := by
  unfold insAtL
  rw [List.map_append, List.map_cons, List.map_take, List.map_drop, List.append_assoc]; rfl
theorem insAtL_len (ks : List Int) (r : Nat) (n : Int) : (insAtL ks r n).length = ks.length + 1 := by
  unfold insAtL
  rw [List.length_append, List.length_cons, List.length_take, List.length_drop]; omega
theorem insAtL_mem {ks : List Int} {r : Nat} {n m : Int} (h : m ∈ insAtL ks r n) : m = n ∨ m ∈ ks := by
  unfold insAtL at h
  rcases List.mem_append.mp h with h | h
  · exact .inr (List.mem_of_mem_take h)
  · rcases List.mem_cons.mp h with h | h
    · exact .inl h
    · exact .inr (List.mem_of_mem_drop h)
theorem tabs_lst {T : List (Addr × Str)} {H : Hp} {o : Addr} {xs ys : List V} (t : Tabs T H) (h : H o = some (.lst xs)) : Tabs T (upd H o (.lst ys)) := fun p hp => by
  obtain ⟨ps, h1, h2, h3⟩ := t p hp
  refine ⟨ps, by rw [upd_ne (fun q => by rw [q, h] at h1; cases h1)]; exact h1, h2, fun pos cv hc => ?_⟩
  obtain ⟨c0, e1, e2⟩ := h3 pos cv hc
  refine ⟨c0, e1, by rw [upd_ne (fun q => by rw [q, h] at e2; unfold CodeO at e2; cases e2)]; exact e2⟩
theorem drw_at {c d o : Addr} {ns : List Int} {H : Hp} {u : HO} (h : Drw c ns H d) (n1 : o ≠ d) (n2 : o ≠ c) : Drw c ns (upd H o u) d := by
  obtain ⟨i, b, z, e1, e2, r⟩ := h
  exact ⟨i, b, z, by rw [upd_ne (Ne.symm n1)]; exact e1, by rw [upd_ne (Ne.symm n2)]; exact e2, r⟩
theorem wide_iff (n : Int) : (decide ((10 : Int) ^ (9 : Int).toNat < (if n < 0 then -n else n)) = true) ↔ okK n = false := by
  have e9 : (10 : Int) ^ (9 : Int).toNat = 1000000000 := by decide
  rw [e9]
  simp only [okK, decide_eq_true_eq, decide_eq_false_iff_not]
  split <;> omega
/-- what is due but for bounds -/
def DueC (H : Hp) (du : Addr) (ks : List Int) : Prop := (∃ d, Dup1 ks d ∧ H du = some (.tup [.non, .str "DuplicateKey", .int d])) ∨ (ks.Nodup ∧ ∃ q, H du = some (.tup [.ref q, .str "", .non]) ∧ H q = some (.tup ((insAll (ks.take 41) leaf).pre.map V.int)))
def DueD (H : Hp) (du : Addr) (ks : List Int) : Prop := (∃ n, ks.find? (fun n => !okK n) = some n ∧ H du = some (.tup [.non, .str "BadKey", .int n])) ∨ (ks.find? (fun n => !okK n) = none ∧ DueC H du ks)
theorem DueC.same {H H' : Hp} {du : Addr} {ks : List Int} (h : DueC H du ks) (e : Same H H') : DueC H' du ks := by
  rcases h with ⟨d, a, b⟩ | ⟨a, q, b, c⟩
  · exact .inl ⟨d, a, e _ _ b⟩
  · exact .inr ⟨a, q, e _ _ b, e _ _ c⟩
theorem DueD.same {H H' : Hp} {du : Addr} {ks : List Int} (h : DueD H du ks) (e : Same H H') : DueD H' du ks := by
  rcases h with ⟨d, a, b⟩ | ⟨a, b⟩
  · exact .inl ⟨d, a, e _ _ b⟩
  · exact .inr ⟨a, b.same e⟩
theorem DueD.to {H : Hp} {du : Addr} {ks : List Int} (h : DueD H du ks) (l : ks.length ≤ 40) : DueB H du ks := by
  rcases h with ⟨n, a, b⟩ | ⟨a, ⟨d, b, c⟩ | ⟨b, q, c, g⟩⟩
  · exact .inr (.inl ⟨l, n, a, b⟩)
  · exact .inr (.inr (.inl ⟨l, a, d, b, c⟩))
  · rw [List.take_of_length_le (by omega)] at g
    exact .inr (.inr (.inr ⟨l, a, b, q, c, g⟩))
def unI : V → Int
  | .int n => n
  | _ => 0
theorem perm_ints {ys : List V} {ks : List Int} (h : ys.Perm (ks.map V.int)) : ∃ zs : List Int, ys = zs.map V.int ∧ zs.Perm ks := by
  refine ⟨ys.map unI, ?_, ?_⟩
  · rw [List.map_map]
    conv => lhs; rw [← List.map_id ys]
    refine List.map_congr_left fun v hv => ?_
    obtain ⟨n, _, rfl⟩ := List.mem_map.mp (h.mem_iff.mp hv)
    rfl
  · have := h.map unI
    rwa [List.map_map, show unI ∘ V.int = id from rfl, List.map_id] at this
theorem find_filter {ks : List Int} {p : Int → Bool} : ks.find? p = (ks.filter p).head? := by rw [List.head?_filter]
end TT
namespace TT
open PySem PySem.Spec PyProof.Rows L2 LamX
open T
/-! ### tuples that are known to have no dict: their methods may be called -/
/-- the tuple at a, with its very object -/
def TupX (H : Hp) (a : Addr) (xs : List V) : Prop := ∃ o : Obj, o.dict = none ∧ H a = some (.frz o (.tup xs))
theorem TupX.sq {K : PySem.W.Frag} {H : Hp} {a : Addr} {xs : List V} (h : TupX H a xs) : SqT K H a xs := by
  obtain ⟨o, _, e⟩ := h
  exact .inl (.inr ⟨o, e⟩)
theorem TupX.same {H H' : Hp} {a : Addr} {xs : List V} (h : TupX H a xs) (e : Same H H') : TupX H' a xs := by
  obtain ⟨o, n, q⟩ := h
  exact ⟨o, n, e _ _ q⟩
section
variable {X : Cx}
/-- tuple(l), l a list: a tuple with its object -/
def rTupX (K : PySem.W.Frag) : List V → Hp → VK → Prop := fun vs H Q => ∃ (a : Addr) (ys : List V), vs = [V.ref a] ∧ SqL K H a ys ∧ ∀ (l : Addr) (o : Obj), o.dict = none → H l = none → Q (.ref l) (upd H l (.frz o (.tup ys)))
theorem call_tupX : CallR X (.type "tuple") (rTupX X.K) := by
  intro pins s σ H vs us Q I r h
  obtain ⟨a, ys, rfl, hq, q⟩ := h
  obtain ⟨u, rfl, ru⟩ := vals1 r
  cases ru
  obtain ⟨its, rv, pl, hz⟩ := I.list hq
  have hl := rv.length
  refine call_tuple_list pl.isList (fun h1 kp => ?_) (by rw [List.size_toArray]; omega)
  have J : Inv X pins σ H { s with heap := h1 } := I.kept (t' := s.toks) kp
  have J2 := J.laid (a := h1.objs.size) (o := .frz { cls := .type "tuple", data := .seq its.toArray } (.tup ys)) (h' := h1.push { cls := .type "tuple", data := .seq its.toArray }) (t' := s.toks)
    (fun b ob e => Heap.get?_push_of_some _ e) (Nat.le_refl _) ⟨Heap.get?_push_size _ rfl, hz, its, rv, IsTup.new _ _⟩
  exact ⟨.ref h1.objs.size, _, J2, rfl, q _ _ rfl (J.hok.fresh (Nat.le_refl _))⟩
/-- t + u: a new tuple comes with its object; the empty one gives the other -/
def rCatX (K : PySem.W.Frag) : R2 := fun x y H Q => ∃ a b xs ys, x = .ref a ∧ y = .ref b ∧ SqT K H a xs ∧ SqT K H b ys ∧ xs.length + ys.length ≤ sizeLine ∧
  (xs = [] → Q (.ref b) H) ∧ (xs ≠ [] → ys = [] → Q (.ref a) H) ∧ (xs ≠ [] → ys ≠ [] → ∀ (p : Addr) (o : Obj), o.dict = none → H p = none → Q (.ref p) (upd H p (.frz o (.tup (xs ++ ys)))))
theorem op_catX : OpR X (binaryOp .Add) (rCatX X.K) := by
  intro pins s σ H x y v u Q I rx ry h
  obtain ⟨a, b, xs, ys, rfl, rfl, ha, hb, hz, q0, q1, q2⟩ := h
  by_cases hx : xs = []
  · exact op_catA pins s σ H _ _ v u Q I rx ry ⟨a, b, xs, ys, rfl, rfl, ha, hb, hz, q0, fun n => absurd hx n, fun n => absurd hx n⟩
  cases rx
  cases ry
  obtain ⟨i1, r1, p1, _⟩ := I.tuple ha
  obtain ⟨i2, r2, p2, _⟩ := I.tuple hb
  refine HT.cat_tup p1 p2 (fun z => hx (r1.nil_iff.mp z)) (fun z => ⟨.ref a, H, I, rfl, q1 hx (r2.nil_iff.mp z)⟩) (fun z => ?_) (by rw [← r1.length, ← r2.length]; exact hz)
  have J := I.laid (a := s.heap.objs.size) (o := .frz { cls := .type "tuple", data := .seq (i1 ++ i2).toArray } (.tup (xs ++ ys))) (h' := s.heap.push { cls := .type "tuple", data := .seq (i1 ++ i2).toArray }) (t' := s.toks)
    (fun c oc e => Heap.get?_push_of_some _ e) (Nat.le_refl _) ⟨Heap.get?_push_size _ rfl, by rw [List.length_append]; exact hz, _, r1.append r2, IsTup.new _ _⟩
  exact ⟨.ref s.heap.objs.size, _, J, rfl, q2 hx (fun n => z (r2.nil_iff.mpr n)) _ _ rfl (I.hok.fresh (Nat.le_refl _))⟩
/-- t.m(e, ..) for such a tuple -/
def tBMX (r : V → List V → Hp → VK → Prop) (to : TE) (t : TA) : TE := fun σ H Q => to σ H fun x H1 => (∃ a xs, x = .ref a ∧ TupX H1 a xs) ∧ t σ H1 fun ys H2 => r x ys H2 Q
variable {o e : Expr} {es : List Expr} {to : TE} {t : TA} {name : Str} {apos cpos : Pos} {id : String} {r : V → List V → Hp → VK → Prop}
theorem pe_bmX (slot : Slot "tuple" name id) (hty : typeOf (.builtin id) = pure (.type "method_descriptor")) (hm : MtR X id r) (ho : PE X o to) (ha : PA X (e :: es) t)
    (hb : attributeBase o name X.env (eval o X.env) = eval o X.env := by rfl)
    (hf : ((backTo cpos (starEach (e :: es) X.env)).all (fun x => !x.1) && (backToKw cpos (keywordEach [] X.env)).all (fun x => x.1.isSome) && decide ((e :: es).length + ([] : List Keyword).length + (if ([] : List Keyword).isEmpty then 0 else 1) < 30)) = true := by rfl)
    (hli : (apos.endLine == cpos.line) = true := by rfl) (hst : starEach (e :: es) X.env = (false, eval e X.env) :: starEach es X.env := by rfl) (hpl : (backTo cpos (starEach es X.env)).any (·.1) = false := by rfl) :
    PE X (.Call (.Attribute o name apos) (e :: es) [] cpos) (tBMX r to t) := by
  refine ⟨fun pins s σ H Q I h => wpAny_Call_method_late hb hf hli rfl (thn (ho.run pins s σ H _ I h) fun v s1 ⟨x, H1, I1, r1, ⟨a, xs, ex, ob, nd, eo⟩, q1⟩ => ?_)⟩
  subst ex
  cases r1
  obtain ⟨g1, _, _, _, g2⟩ := I1.hok a _ eo
  obtain ⟨o2, k1, k2, _⟩ := g2
  rw [g1] at k1
  cases k1
  refine ⟨"tuple", id, PySem.F.plainAttrs_tuple, slot, hty, ⟨ob, g1, k2⟩, fun b eb => by cases eb; exact ⟨ob, g1, nd⟩, ?_⟩
  have hA := ha.run cpos pins s1 σ H1 _ I1 q1
  rw [hst] at hA ⊢
  refine Calls.callWith_builtin (by show (false || (backTo cpos (starEach es X.env)).any (·.1)) = false; rw [hpl] <;> rfl) (Calls.evalArgs_plain ?_)
  exact thn hA fun us s2 ⟨vs, H2, I2, r2, q2⟩ => hm pins s2 σ H2 (.ref a) vs (.ref a) us Q I2 rfl r2 q2
end
def RdT (H : Hp) (a : Addr) (xs : List V) : Prop := H a = some (.tup xs) ∨ ∃ o, H a = some (.frz o (.tup xs))
theorem TupX.rd {H : Hp} {a : Addr} {xs : List V} (h : TupX H a xs) : RdT H a xs := by
  obtain ⟨o, _, e⟩ := h
  exact .inr ⟨o, e⟩
theorem RdT.same {H H' : Hp} {a : Addr} {xs : List V} (h : RdT H a xs) (e : Same H H') : RdT H' a xs := by
  rcases h with h | ⟨o, h⟩
  · exact .inl (e _ _ h)
  · exact .inr ⟨o, e _ _ h⟩
theorem RdT.sq {K : PySem.W.Frag} {H : Hp} {a : Addr} {xs : List V} (h : RdT H a xs) : SqT K H a xs := .inl h
theorem RdT.ty {K : PySem.W.Frag} {H : Hp} {a : Addr} {xs : List V} (h : RdT H a xs) : TyX K H (.ref a) (.type "tuple") := by
  rcases h with h | ⟨o, h⟩
  · exact .base (.tup h)
  · exact .fTuple h
/-- two tuples of the same ints -/
def spSameX : Sp := fun vs H Q _ => ∃ (a b : Addr) (ns : List Int), vs = [.ref a, .ref b] ∧ RdT H a (ns.map V.int) ∧ RdT H b (ns.map V.int) ∧ ns.length ≤ 1000 ∧ ∀ H', Same H H' → Q (.bl true) H'
def spShapeX : Sp := fun vs H Q _ => ∃ (m L R U : Addr) (t : T) (uf : Int → Option Int) (n : Nat), vs = [.ref m] ∧ Nod H m L R U t.rt t.lc t.rc uf n ∧ t.bst ∧ t.pre.length ≤ 1000 ∧
  ∀ p H', Same H H' → H p = none → TupX H' p (t.pre.map V.int) → Q (.ref p) H'
def spSomeX (K : PySem.W.Frag) : Sp := fun vs H Q _ => ∃ (d a : Addr) (ks : List Int) (c : Addr) (ns : List Int), vs = [.ref d, .ref a] ∧ SqL K H a (ks.map V.int) ∧ Asc ks ∧ ks.length ≤ 49 ∧ a ≠ d ∧ Drw c ns H d ∧
  ∀ (t : T) p H', t.bst → t.pre.Perm ks → Ext d H H' → Drw c ns H' d → H p = none → TupX H' p (t.pre.map V.int) → Q (.ref p) H'
def spPutX (K : PySem.W.Frag) : Sp := fun vs H Q _ => ∃ (a : Addr) (key : Int) (ks : List Int), vs = [.ref a, .int key] ∧ SqT K H a (ks.map V.int) ∧ ks.length ≤ 1000 ∧ (∃ y ∈ ks, y ≠ key) ∧ ∀ p H', Same H H' → TupX H' p ((topL key ks).map V.int) → Q (.ref p) H'
def spRotF (K : PySem.W.Frag) (C1 C2 : Addr) : Sp := fun vs H Q E => ∃ (a : Addr) (key : Int) (t : T), vs = [.ref a, .int key] ∧ SqT K H a (t.pre.map V.int) ∧ (key ∈ t.pre → TupX H a (t.pre.map V.int)) ∧ t.bst ∧ t.pre.length ≤ 1000 ∧ Kn t.pre ∧ key.natAbs.log2 < 1920 ∧
  (∀ p, t.up key = some p → ∀ q H', Same H H' → TupX H' q ((t.rot key).pre.map V.int) → Q (.ref q) H') ∧ (key ∈ t.pre → t.up key = none → EOw C2 "AtRoot" "key" key H E) ∧ (key ∉ t.pre → ENo C1 key H E)
theorem rot_rot {x p : Int} : ∀ {t : T}, t.bst → t.up x = some p → (t.rot x).rot p = t
  | leaf, _, h => by cases h
  | node l k r, b, h => by
    have nxp := (up_mem b h).2.1
    rcases up_cases b h with ⟨a1, a2, a3⟩ | ⟨a1, a2, a3, a4⟩ | ⟨a1, a2, a3⟩ | ⟨a1, a2, a3, a4⟩
    · have e : (node l k r).rot x = node l.lt x (node l.rtr k r) := by
        show (if x < k then (if l.rt = some x then _ else _) else _) = _
        rw [if_pos a1, if_pos a2]
      rw [e, a3]
      show (if k < x then _ else if x < k then (if (node l.rtr k r).rt = some k then node (node l.lt x (node l.rtr k r).lt) k (node l.rtr k r).rtr else _) else _) = _
      rw [if_neg (by omega), if_pos a1, if_pos (show (node l.rtr k r).rt = some k from rfl)]
      show node (node l.lt x l.rtr) k r = _
      rw [← rt_eta a2]
    · have e : (node l k r).rot x = node (l.rot x) k r := by
        show (if x < k then (if l.rt = some x then _ else _) else _) = _
        rw [if_pos a1, if_neg a2]
      have hp := (up_mem b.2.2.1 a3).1
      have nr : ¬ (l.rot x).rt = some p := fun z => by
        rw [rt_rot b.2.2.1 a3] at z
        split at z
        · exact nxp (Option.some.inj z)
        · next n => exact n ((up_rt b.2.2.1 hp).mpr z)
      rw [e]
      show (if p < k then (if (l.rot x).rt = some p then _ else node ((l.rot x).rot p) k r) else _) = _
      rw [if_pos a4, if_neg nr, rot_rot b.2.2.1 a3]
    · have e : (node l k r).rot x = node (node l k r.lt) x r.rtr := by
        show (if x < k then _ else if k < x then (if r.rt = some x then _ else _) else _) = _
        rw [if_neg (by omega), if_pos a1, if_pos a2]
      rw [e, a3]
      show (if k < x then (if (node l k r.lt).rt = some k then node (node l k r.lt).lt k (node (node l k r.lt).rtr x r.rtr) else _) else _) = _
      rw [if_pos a1, if_pos (show (node l k r.lt).rt = some k from rfl)]
      show node l k (node r.lt x r.rtr) = _
      rw [← rt_eta a2]
    · have e : (node l k r).rot x = node l k (r.rot x) := by
        show (if x < k then _ else if k < x then (if r.rt = some x then _ else _) else _) = _
        rw [if_neg (by omega), if_pos a1, if_neg a2]
      have hp := (up_mem b.2.2.2 a3).1
      have nr : ¬ (r.rot x).rt = some p := fun z => by
        rw [rt_rot b.2.2.2 a3] at z
        split at z
        · exact nxp (Option.some.inj z)
        · next n => exact n ((up_rt b.2.2.2 hp).mpr z)
      rw [e]
      show (if p < k then _ else if k < p then (if (r.rot x).rt = some p then _ else node l k ((r.rot x).rot p)) else _) = _
      rw [if_neg (by omega), if_pos a4, if_neg nr, rot_rot b.2.2.2 a3]
theorem rot_up {x p : Int} {t : T} (b : t.bst) (h : t.up x = some p) : (t.rot x).up p = some x := by
  rw [up_rot b h]
  unfold upR
  rw [if_neg (fun z => (up_mem b h).2.1 z.symm), if_pos rfl]
theorem rd_eqE {K : PySem.W.Frag} {H : Hp} {a b : Addr} {tag : Str} {n : Int} {Q : VK} (ha : H a = some (.tup [.str tag, .int n])) (hb : H b = some (.tup [.str tag, .int n])) (hs : PyData.strOk tag = true) (q : Q (.bl true) H) : rEqD K (.ref a) (.ref b) H Q := by
  refine ⟨_, _, .tup (SqT.of ha) (.cons (.str _) (.cons (.int _) .nil)), .tup (SqT.of hb) (.cons (.str _) (.cons (.int _) .nil)), shaped2 hs (.inr ⟨n, rfl⟩), shaped2 hs (.inr ⟨n, rfl⟩), ?_⟩
  have e : PyData.eqv (.tuple [.str tag, .int n]) (.tuple [.str tag, .int n]) = true := by
    show ((PyData.eqv (.str tag) (.str tag)) && ((n == n) && PyData.eqvAll [] [])) = true
    rw [show PyData.eqv (.str tag) (.str tag) = (tag == tag) from rfl]
    simp [PyData.eqvAll]
  rw [e]
  exact q
theorem rd_slX {K : PySem.W.Frag} {H : Hp} {a : Addr} {xs : List V} {lo hi : Option Int} {Q : VK} (ha : SqT K H a xs) (q : ∀ p H', Same H H' → SqT K H' p (cutV xs lo hi) → Q (.ref p) H') : rSlA K (.ref a) lo hi H Q := by
  refine ⟨a, xs, rfl, ha, fun hw => q a H (.refl _) ?_, fun _ p np => q p _ (same_new np) (SqT.of upd_same)⟩
  unfold cutV
  rw [hw.1, hw.2, List.drop_zero, Nat.sub_zero, List.take_length]
  exact ha
/-- a sum of tuples whose parts, where they come out themselves, have their objects -/
theorem rd_catX {K : PySem.W.Frag} {H : Hp} {a b : Addr} {xs ys : List V} {Q : VK} (ha : SqT K H a xs) (hb : SqT K H b ys) (hl : xs.length + ys.length ≤ 100000) (h1 : xs = [] → TupX H b ys) (h2 : xs ≠ [] → ys = [] → TupX H a xs)
    (q : ∀ p H', Same H H' → TupX H' p (xs ++ ys) → Q (.ref p) H') : rCatX K (.ref a) (.ref b) H Q := by
  refine ⟨a, b, xs, ys, rfl, rfl, ha, hb, sz hl, fun e => q b H (.refl _) (by rw [e]; exact h1 e), fun n e => q a H (.refl _) (by rw [e, List.append_nil]; exact h2 n e), fun n1 n2 p o nd np => q p _ (same_new np) ⟨o, nd, upd_same⟩⟩
end TT
/-! lambdas as values: kept in a list, with a default or without, called later -/
namespace TT
open PySem PySem.Spec PyProof.Rows L2 HotX LamX
/-- the function of a lambda whose defaults lie at dv -/
abbrev lamF (q : Str) (ar : Arguments) (bd : Expr) (sc : Scope) (cl : List (Str × Addr)) (pm dv cv tv : Value) : FuncData :=
  { PySem.W.kla_fn "<lambda>" q ar bd sc cl pm cv tv with defaults := dv }
abbrev lamOb (q : Str) (ar : Arguments) (bd : Expr) (sc : Scope) (cl : List (Str × Addr)) (pm dv cv tv : Value) : Obj :=
  { cls := .type "function", data := .func (lamF q ar bd sc cl pm dv cv tv) }
section
variable {X : Cx} {pins : List (Addr × Obj)} {σ : L2.St} {H : Hp} {s : Shared}
/-- from the code object on: what is left of a function's making -/
theorem lam_last {q : Str} {ar : Arguments} {bd : Expr} {sc : Scope} {cl : List (Str × Addr)} {dv cv tv : Value} {bm P : Addr} {R : Value → Shared → Prop} {E : Value → Shared → Prop} (I : Inv X pins σ H s) (hb : s.heap.BuiltinsAt X.mg P)
    (h : R (.ref s.heap.objs.size) { s with heap := s.heap.push (lamOb q ar bd sc cl ((X.mg "__name__").getD .none) dv cv tv) }) :
    wpAny (model X.prog X.w) X.A (do
      let b ← builtinsFor mainGlobals X.env.builtins
      let n ← nsGet mainGlobals "__name__"
      let dc ← (pure .none : Sem Value)
      newObj (.type "function") (.func { name := "<lambda>", qualname := q, params := ar, body := .expr bd, scope := sc, globals := mainGlobals, closure := cl, closureTuple := tv, code := cv, builtins := b, defaults := dv, kwdefaults := .none, annotations := none, pyModule := n.getD .none, doc := dc })) R E s := by
  obtain ⟨bm, ob, h1, h2, _, h3, h4, h5, h6, h7⟩ := hb
  have hg : s.heap.Ns mainGlobals X.mg := I.mod.glob.keeps I.bk
  exact wpAny_bind (wpAny_builtinsFor hg h1 h2 h4 h5 h6 h7 (wpAny_bind (wpAny_nsGet hg (wpAny_bind (wpAny_pure (wpAny_newObj_type h (by size_fits)))))))
/-- the function is made: known to its very object -/
theorem lam_tail {T : List (Addr × Str)} {c P : Addr} {ar : Arguments} {bd : Expr} {sc : Scope} {pos : Pos} {dv : Value} {E R : Value → Shared → Prop} (I : Inv X pins σ H s) (TB : TabB X.base X.mg c P) (hcode : X.env.code = .ref c)
    (hm : (P, X.env.qual ++ "<lambda>") ∈ T) (hu : ∀ p ∈ T, p.1 = P → p.2 = X.env.qual ++ "<lambda>") (hT : Tabs T H) (hfree : ∀ y ∈ sc.names, y.2 = .free → ∃ c, X.env.cells.lookup y.1 = some c)
    (h : ∀ (f c' : Addr) (pm tv : Value) (H1 : Hp) (s' : Shared), Inv X pins σ H1 s' → ExtN H H1 → Tabs T H1 → H f = none →
      H1 f = some (.frz (lamOb (X.env.qual ++ "<lambda>") ar bd sc (cloFrom X.env.cells sc.names []) pm dv (.ref c') tv) (.own f)) → H1 c' = some (CodeO c' (X.env.qual ++ "<lambda>")) → R (.ref f) s') :
    wpAny (model X.prog X.w) X.A (makeTail "<lambda>" (X.env.qual ++ "<lambda>") ar (.expr bd) sc X.env dv .none none pos pos.line) R E s := by
  obtain ⟨ps, hP, ht, ha⟩ := hT _ hm
  unfold makeTail
  rw [closure_ok hfree, I.ok.glob]
  refine wpAny_bind (wpAny_pure ?_)
  suffices key : ∀ (tv : Value) (s0 : Shared), Inv X pins σ H s0 → wpAny (model X.prog X.w) X.A (do
      let cv ← functionCode X.env pos pos.line "<lambda>" (X.env.qual ++ "<lambda>") ar sc (.expr bd)
      let b ← builtinsFor mainGlobals X.env.builtins
      let n ← nsGet mainGlobals "__name__"
      let dc ← (pure .none : Sem Value)
      newObj (.type "function") (.func { name := "<lambda>", qualname := X.env.qual ++ "<lambda>", params := ar, body := .expr bd, scope := sc, globals := mainGlobals, closure := cloFrom X.env.cells sc.names [], closureTuple := tv, code := cv, builtins := b, defaults := dv, kwdefaults := .none, annotations := none, pyModule := n.getD .none, doc := dc })) R E s0 by
    dsimp only
    split
    · exact wpAny_bind (wpAny_pure (key .none s I))
    · exact wpAny_bind (wpAny_newTextTuple (key _ _ (I.kept (t' := s.toks) fun b o e => Heap.get?_push_of_some _ e)))
  intro tv s0 I0
  have bP : s0.heap.BuiltinsAt X.mg P := TB.bm.keeps I0.bk
  have hP' : s0.heap.get? P = some { cls := .none, data := .fields ps } := I0.hok P _ hP
  have C : PySem.W.CodeHd s0.heap c P := TB.code.keeps I0.bk
  -- once the code object is there
  have fin : ∀ (c' : Addr) (H1 : Hp) (s1 : Shared), Inv X pins σ H1 s1 → s1.heap.BuiltinsAt X.mg P → ExtN H H1 → Tabs T H1 → H1 c' = some (CodeO c' (X.env.qual ++ "<lambda>")) → (∀ f, s1.heap.objs.size ≤ f → H f = none) →
      R (.ref s1.heap.objs.size) { s1 with heap := s1.heap.push (lamOb (X.env.qual ++ "<lambda>") ar bd sc (cloFrom X.env.cells sc.names []) ((X.mg "__name__").getD .none) dv (.ref c') tv) } := fun c' H1 s1 I1 _ eN T1 hco hn => by
    have nf : H1 s1.heap.objs.size = none := I1.hok.fresh (Nat.le_refl _)
    have sm : ∀ {o : HO} b u, H1 b = some u → upd H1 s1.heap.objs.size o b = some u := fun {o} b u e => by rw [upd_ne (ne_of_none e nf)]; exact e
    refine h _ c' _ tv _ _ (I1.laid (t' := s1.toks) (o := .frz (lamOb (X.env.qual ++ "<lambda>") ar bd sc (cloFrom X.env.cells sc.names []) ((X.mg "__name__").getD .none) dv (.ref c') tv) (.own s1.heap.objs.size)) (fun b o e => Heap.get?_push_of_some _ e) (Nat.le_refl _) ⟨Heap.get?_push_size _ rfl, _, Heap.get?_push_size _ rfl⟩)
      (eN.trans (ExtN.of sm)) (T1.ext sm) (hn _ (Nat.le_refl _)) upd_same (sm _ _ hco)
  cases hc : codeAmong pos ps.toList with
  | some cv =>
    obtain ⟨c', e, hco⟩ := ha pos cv hc
    subst e
    refine wpAny_bind (wpAny_functionCode_hit hcode (C.code hP' ht) hc ?_)
    exact lam_last (P := P) (bm := P) I0 bP (fin c' H s0 I0 bP (ExtN.refl H) hT hco fun f hf => I0.hok.fresh hf)
  | none =>
    refine wpAny_bind (wpAny_functionCodeX hcode (C.code hP' ht) (C.tab hP') hc fun c' h' tk hx hge hlt _ hrec htb _ => ?_)
    obtain ⟨c2, oc, vs, t, e2, hoc, hd, hv⟩ := hrec
    cases e2
    have nC : H c' = none := I0.hok.fresh hge
    have I1 := inv_table (t' := tk) (more := #[rawInt pos.line, rawInt pos.col, .ref c']) (h' := h') I0 hP (fun b o hb e => hx b o hb e) htb.2 hge ⟨oc, vs, t, hoc, hd, hv⟩
    have hE : ExtN H (upd (upd H P (.tbl (ps ++ #[rawInt pos.line, rawInt pos.col, .ref c']))) c' (CodeO c' (X.env.qual ++ "<lambda>"))) := fun b o e n => by
      rw [upd_ne (ne_of_none e nC)]
      by_cases hb : b = P
      · rw [hb, hP] at e; exact absurd (Option.some.inj e).symm (n ps)
      · rw [upd_ne hb]; exact e
    have eL : (ps ++ #[rawInt pos.line, rawInt pos.col, .ref c']).toList = ps.toList ++ [rawInt pos.line, rawInt pos.col, .ref c'] := by simp
    have T1 : Tabs T (upd (upd H P (.tbl (ps ++ #[rawInt pos.line, rawInt pos.col, .ref c']))) c' (CodeO c' (X.env.qual ++ "<lambda>"))) := fun p hp => by
      by_cases hb : p.1 = P
      · rw [hu p hp hb, hb]
        refine ⟨_, by rw [upd_ne (ne_of_none hP nC)]; exact upd_same, by rw [eL]; exact PySem.TriplesOk_snoc _ _ _ _ ht, fun p' cv z => ?_⟩
        rw [eL] at z
        rcases among_app _ ht z with z | z
        · exact let ⟨c0, e1, e2⟩ := ha p' cv z; ⟨c0, e1, hE _ _ e2 codeO_ne⟩
        · exact ⟨c', z, upd_same⟩
      · obtain ⟨qs, a1, a2, a3⟩ := hT p hp
        refine ⟨qs, by rw [upd_ne (ne_of_none a1 nC)]; rw [upd_ne hb]; exact a1, a2, fun p' cv z => ?_⟩
        exact let ⟨c0, e1, e2⟩ := a3 p' cv z; ⟨c0, e1, hE _ _ e2 codeO_ne⟩
    have sz1 : s0.heap.objs.size ≤ h'.objs.size := Nat.le_trans hge (Nat.le_of_lt hlt)
    exact lam_last (P := P) (bm := P) (s := { s0 with heap := h', toks := tk }) I1 (TB.bm.keeps I1.bk) (fin c' _ { s0 with heap := h', toks := tk } I1 (TB.bm.keeps I1.bk) hE T1 upd_same fun f hf => I0.hok.fresh (Nat.le_trans sz1 hf))
/-- what a lambda's default is -/
inductive LamD (env : Env) (ar : Arguments) : Bool → Prop
  | no : defaultsOf ar env = ([], []) → LamD env ar false
  | one {n : Int} {j : Nat} {p : Pos} : defaultsOf ar env = ([eval (.Constant (.int n) j p) env], []) → ar.kwonlyargs = [] → LamD env ar true
/-- the default's tuple, as it lies -/
def DefAt (H : Hp) : Bool → Value → Prop
  | false, dv => dv = .none
  | true, dv => ∃ (d : Addr) (v : Value), dv = .ref d ∧ H d = some (.frz { cls := .type "tuple", data := .seq #[v] } (.own d))
theorem DefAt.ext {H H' : Hp} {b : Bool} {dv : Value} (h : DefAt H b dv) (e : ∀ a o u, H a = some (.frz o u) → H' a = some (.frz o u)) : DefAt H' b dv := by
  cases b with
  | false => exact h
  | true =>
    obtain ⟨d, v, e1, e2⟩ := h
    exact ⟨d, v, e1, e _ _ _ e2⟩
/-- a lambda that lies at f -/
def LamAt (X : Cx) (H : Hp) (f : Addr) (ar : Arguments) (bd : Expr) (sc : Scope) (b : Bool) : Prop :=
  ∃ (c' : Addr) (pm dv tv : Value), H f = some (.frz (lamOb (X.env.qual ++ "<lambda>") ar bd sc (cloFrom X.env.cells sc.names []) pm dv (.ref c') tv) (.own f)) ∧ DefAt H b dv ∧ H c' = some (CodeO c' (X.env.qual ++ "<lambda>"))
theorem LamAt.ext {H H' : Hp} {f : Addr} {ar : Arguments} {bd : Expr} {sc : Scope} {b : Bool} (h : LamAt X H f ar bd sc b) (e : ExtN H H') : LamAt X H' f ar bd sc b := by
  obtain ⟨c', pm, dv, tv, h1, h2, h3⟩ := h
  exact ⟨c', pm, dv, tv, e _ _ h1 (fun ps z => by cases z), h2.ext fun a o u z => e _ _ z fun ps q => (by cases q), e _ _ h3 codeO_ne⟩
def tLamV (T : List (Addr × Str)) (X : Cx) (ar : Arguments) (bd : Expr) (sc : Scope) (b : Bool) : TE := fun _ H Q =>
  Tabs T H ∧ ∀ f H1, ExtN H H1 → Tabs T H1 → H f = none → LamAt X H1 f ar bd sc b → Q (.ref f) H1
/-- lambda: body, as a value -/
theorem pe_lamV {T : List (Addr × Str)} {c P : Addr} {ar : Arguments} {bd : Expr} {sc : Scope} {pos : Pos} {b : Bool} (TB : TabB X.base X.mg c P) (hcode : X.env.code = .ref c)
    (hm : (P, X.env.qual ++ "<lambda>") ∈ T) (hu : ∀ p ∈ T, p.1 = P → p.2 = X.env.qual ++ "<lambda>") (hd : LamD X.env ar b) (hfree : X.Ok → ∀ y ∈ sc.names, y.2 = .free → ∃ c, X.env.cells.lookup y.1 = some c) :
    PE X (.Lambda ar bd sc pos) (tLamV T X ar bd sc b) := ⟨fun pins s σ H Q I h => by
  obtain ⟨hT, h⟩ := h
  cases hd with
  | no hd =>
    refine PySem.W.kla_eval hd ?_
    rw [makeFunction_eq]
    simp only [List.zip_nil_right, List.filterMap_nil, List.isEmpty_nil, if_true, pure_bind]
    exact lam_tail I TB hcode hm hu hT (hfree I.ok) fun f c' pm tv H1 s' I1 eN T1 hn hf hco => ⟨.ref f, H1, I1, rfl, h f H1 eN T1 hn ⟨c', pm, .none, tv, hf, rfl, hco⟩⟩
  | one hd hk =>
    rename_i n j p
    rw [arm_eval_Lambda, hd]
    show wpAny _ _ (do let dv ← evalAll [eval (.Constant (.int n) j p) X.env]; let kdv ← holding dv (evalAllOpt []); makeFunction "<lambda>" (X.env.qual ++ "<lambda>") ar (.expr bd) sc X.env dv kdv [] pos pos.line) _ _ _
    refine wpAny_bind (wpAny_bind (thn ((pe_int (X := X) (pos := p)).run pins s σ H (fun v H1 => v = .int n ∧ H1 = H) I ⟨rfl, rfl⟩) fun u s1 ⟨v, H1, I1, r1, ev, eH⟩ => ?_))
    subst ev
    rw [eH] at I1
    refine wpAny_bind (wpAny_holding (wpAny_pure (wpAny_pure (wpAny_bind (wpAny_holding (wpAny_pure ?_))))))
    rw [makeFunction_eq, hk]
    simp only [List.zip_nil_left, List.filterMap_nil, List.isEmpty_nil, if_true, pure_bind]
    refine wpAny_bind (wpAny_newTextTuple ?_)
    have nf : H s1.heap.objs.size = none := I1.hok.fresh (Nat.le_refl _)
    have I2 := I1.laid (t' := s1.toks) (a := s1.heap.objs.size) (o := .frz { cls := .type "tuple", data := .seq #[u] } (.own s1.heap.objs.size)) (h' := s1.heap.push { cls := .type "tuple", data := .seq [u].toArray }) (fun b o e => Heap.get?_push_of_some _ e) (Nat.le_refl _) ⟨Heap.get?_push_size _ rfl, _, Heap.get?_push_size _ rfl⟩
    have sm := same_new (o := .frz { cls := .type "tuple", data := .seq #[u] } (.own s1.heap.objs.size)) nf
    refine lam_tail I2 TB hcode hm hu (hT.ext sm) (hfree I.ok) fun f c' pm tv H3 s' I3 eN T1 hn hf hco => ⟨.ref f, H3, I3, rfl, h f H3 ((ExtN.of sm).trans eN) T1 ?_ ⟨c', pm, _, tv, hf, ⟨_, u, rfl, eN _ _ upd_same fun ps z => by cases z⟩, hco⟩⟩
    cases hz : H f with
    | none => rfl
    | some o => rw [sm _ _ hz] at hn; cases hn⟩
end
end TT
namespace TT
open PySem PySem.Spec PyProof.Rows L2 HotX LamX
/-- a lambda's names: none that a def of its own would share, what it hides is no name of the maker -/
structure LamW (N : List Str) (so sc : Scope) : Prop where
  kind : sc.kind = .function
  co : sc.isCoroutine = false
  gen : sc.isGenerator = false
  cel : ∀ y ∈ sc.names, y.2 ≠ .cell
  loc : ∀ y ∈ sc.names, y.2 = .local → y.1 ∉ N
  free : ∀ y ∈ sc.names, y.2 = .free → so.names.lookup y.1 = some .cell ∨ so.names.lookup y.1 = some .free
def lamWB (N : List Str) (so sc : Scope) : Bool :=
  decide (sc.kind = .function) && (!sc.isCoroutine && (!sc.isGenerator && (sc.names.all fun y => !decide (y.2 = .cell) && ((!decide (y.2 = .local) || !decide (y.1 ∈ N)) && (!decide (y.2 = .free) || (decide (so.names.lookup y.1 = some .cell) || decide (so.names.lookup y.1 = some .free)))))))
theorem lamW_by {N : List Str} {so sc : Scope} (h : lamWB N so sc = true) : LamW N so sc := by
  unfold lamWB at h
  simp only [Bool.and_eq_true, Bool.or_eq_true, Bool.not_eq_true', decide_eq_true_eq, decide_eq_false_iff_not, List.all_eq_true] at h
  obtain ⟨h1, h2, h3, h4⟩ := h
  exact ⟨h1, h2, h3, fun y hy => (h4 y hy).1, fun y hy e => (h4 y hy).2.1.elim (fun z => absurd e z) id, fun y hy e => (h4 y hy).2.2.elim (fun z => absurd e z) id⟩
theorem LamW.has {X : Cx} {sc : Scope} (L : LamW X.N X.env.scope sc) (ok : X.Ok) : ∀ y ∈ sc.names, y.2 = .free → ∃ c, X.env.cells.lookup y.1 = some c := fun y hy e =>
  ok.has _ ((L.free y hy e).imp id id)
/-- what the lambda's call binds -/
def LamBind (ar : Arguments) (bd : Expr) (sc : Scope) : Bool → Prop
  | false => ∀ (q : Str) (cl : List (Str × Addr)) (pm cv tv : Value), bindArgs (lamF q ar bd sc cl pm .none cv tv) ⟨[], []⟩ = pure []
  | true => ∃ a : Str, sc.names.lookup a = some .local ∧ ∀ (q : Str) (cl : List (Str × Addr)) (pm cv tv : Value) (d : Addr), ∃ k, bindArgs (lamF q ar bd sc cl pm (.ref d) cv tv) ⟨[], []⟩ = seqItems? (.ref d) >>= k ∧ ∀ v, k (some #[v]) = pure [(a, v)]
theorem lam_binds {P : Program} {w : World} {ar : Arguments} {bd : Expr} {sc : Scope} {b : Bool} {H : Hp} {s : Shared} {dv pm cv tv : Value} {q : Str} {cl : List (Str × Addr)} (hb : LamBind ar bd sc b) (hd : DefAt H b dv) (ok : HOk P w H s.heap) :
    ∃ bs : List (Str × Value), (∀ y ∈ bs, sc.names.lookup y.1 = some .local) ∧ BindsTo s (lamF q ar bd sc cl pm dv cv tv) ⟨[], []⟩ bs := by
  cases b with
  | false =>
    have e : dv = .none := hd
    subst e
    exact ⟨[], fun y hy => (by cases hy), BindsTo.of_eq (hb _ _ _ _ _)⟩
  | true =>
    obtain ⟨d, v, rfl, hd⟩ := hd
    obtain ⟨a, ha, hk⟩ := hb
    obtain ⟨k, e1, e2⟩ := hk q cl pm cv tv d
    refine ⟨[(a, v)], fun y hy => by rw [List.mem_singleton.mp hy]; exact ha, fun M A E Q hq => ?_⟩
    rw [e1]
    refine wpAny_bind (wpAny_seqItems (ok d _ hd).1 rfl ?_)
    rw [e2]
    exact wpAny_pure hq
section
variable {X : Cx} {pins : List (Addr × Obj)} {σ : L2.St} {H HZ : Hp} {s s1 : Shared}
/-- the frame of the lambda's body -/
theorem lam_begin {A : Around} {outer : List Env} {E : XK} {sc : Scope} {f c' : Addr} {h1 : Heap} {tk : Nat} {bs : List (Str × Value)} (I : Inv X pins σ H s) (L : LamW X.N X.env.scope sc) (e0 : Env0 X.prog X.w X.K X.mg X.base A outer s1 HZ) (hd : A.handled = none)
    (un : Un (frs X.stack) [] H HZ s.heap s1.heap) (hns : h1.Ns s1.heap.objs.size fun y => bs.reverse.lookup y) (kp : ∀ b o, s1.heap.get? b = some o → h1.get? b = some o) :
    Inv (lamCx X A outer s1 HZ E sc f c') [] σ HZ { s1 with heap := h1, toks := tk } := by
  have back : ∀ {y : Str} {c : Addr}, (cloFrom X.env.cells sc.names []).lookup y = some c → X.env.cells.lookup y = some c := fun {y c} e => by
    rcases cloFrom_mem (PySem.mem_of_lookup e) with hm | ⟨h1, h2⟩
    · exact (by cases hm)
    · obtain ⟨c1, hc⟩ := L.has I.ok _ h1 rfl
      have hc : X.env.cells.lookup y = some c1 := hc
      have : c = c1 := by rw [h2, hc] <;> rfl
      exact this ▸ hc
  have there : ∀ {y : Str}, sc.names.lookup y = some .free → ∃ c, (cloFrom X.env.cells sc.names []).lookup y = some c := fun {y} hl => mem_lookup (cloFrom_has (cells := X.env.cells) (acc := []) (show (y, NameKind.free) ∈ sc.names from PySem.mem_of_lookup hl))
  have stay : ∀ {c : Addr} {v : Option Value}, H c = none → s.heap.IsCell c v → h1.IsCell c v := fun {c v} n ⟨o, ho, hd⟩ =>
    let ⟨_, q⟩ := un.any ho n (by simp)
    ⟨_, kp _ _ q, hd⟩
  have no : ∀ b : Addr, b ∉ ([] : List Addr) := fun b => by simp
  have ok : (lamCx X A outer s1 HZ E sc f c').Ok :=
    { mod := e0.mod, kind := L.kind, glob := rfl, blt := rfl, above := Nat.le_refl _, inj := fun y z c e1 e2 => I.ok.inj y z c (back e1) (back e2), has := fun y hy => ?_, cab := fun y c z _ => Bool.noConfusion (show false = true from z)
      hd := fun _ => hd, frames := Around.frames_deeper e0.frames, stk := .inr ⟨rfl, rfl⟩, exf := fun b z => absurd z (no b), bs := e0.bs, bsz := e0.bsz, noex := fun b _ _ => no b, exfs := fun b z => absurd z (no b), funs := e0.funs, frf := e0.frf }
  · refine { ok := ok, os := rfl, bare := e0.bare, base := Un.kept kp, loc := ⟨_, hns, fun i y v e1 e2 e3 => ?_⟩, cell := fun y c e => ?_, free := e0.hok.fresh (Nat.le_refl _), freeC := fun y c e => ?_, pin := fun q hq => absurd (show q ∈ ([] : List (Addr × Obj)) ++ [] from hq) (by simp), hok := e0.hok.kept kp, len := I.len }
    · have e3 : Vis sc y := e3
      rcases e3 with k | k | k
      · exact absurd (List.mem_of_getElem? (show X.N[i]? = some y from e1)) (L.loc _ (PySem.mem_of_lookup k) rfl)
      · exact absurd rfl (L.cel _ (PySem.mem_of_lookup k))
      · obtain ⟨m, hn, hl⟩ := I.loc
        have fr := L.free _ (PySem.mem_of_lookup k) rfl
        obtain ⟨w', r, q⟩ := hl i y v e1 e2 (.inr fr)
        obtain ⟨c2, h2⟩ := there k
        refine ⟨w', r, .inr ⟨.inr k, c2, h2, ?_⟩⟩
        rcases q with ⟨k', _⟩ | ⟨_, c3, e', z⟩
        · have k' : X.env.scope.names.lookup y = some .local := k'
          exact (fr.elim (fun k2 => by rw [show X.env.scope.names.lookup y = _ from k2] at k'; cases k') fun k2 => by rw [show X.env.scope.names.lookup y = _ from k2] at k'; cases k')
        · rw [back h2] at e'
          cases e'
          exact stay (I.freeC y _ (back h2)) z
    · obtain ⟨w', z⟩ := I.cell y c (back e)
      exact ⟨w', stay (I.freeC y c (back e)) z⟩
    · obtain ⟨v, o, ho, hd⟩ := I.cell y c (back e)
      exact un.free c o ho (I.freeC y c (back e)) (by simp)
  · have hy : sc.names.lookup y = some .cell ∨ sc.names.lookup y = some .free := hy
    exact hy.elim (fun z => absurd rfl (L.cel _ (PySem.mem_of_lookup z))) there
/-- a lambda that lies in the heap, called in a frame however deep -/
theorem pe_actF {CXg : CXT} {Eg : XK} {Ng : List Str} {qg : Str} {sg : Scope} {g f c' : Addr} {cdg pm dv ctv : Value} {ar : Arguments} {bd : Expr} {sc : Scope} {b : Bool} {k i : Nat} {a : Str} {pn : List (Addr × Obj)} {xe : Value → Shared → Prop} {W : WX} {E : XK} {tb : TE} {p1 p2 : Pos} {YA : Around} {Ys : List Env} {s0 : Shared} {H0 : Hp}
    (I : Inv X pins σ H s) (L : LamW X.N X.env.scope sc) (hf : H f = some (.frz (lamOb (X.env.qual ++ "<lambda>") ar bd sc (cloFrom X.env.cells sc.names []) pm dv (.ref c') ctv) (.own f))) (hdv : DefAt H b dv) (hbind : LamBind ar bd sc b)
    (link : Un (frs X.stack) [] H H0 s.heap s0.heap) (sub : ∀ b ∈ frs Ys, b ∈ frs X.stack ∨ s.heap.get? b = none) (sup : ∀ b ∈ frs X.stack, b ∈ frs Ys)
    (tk : L2N.Takes ((cxOf CXg X.prog X.w X.K X.mg X.base Ng qg sg g cdg YA Ys s0 H0 Eg).tr pn xe) W) (hr : Room (k + 1) (YA.deeper (envOfC qg sg s0.heap.objs.size g cdg)))
    (hbody : ∀ (A : Around) (outer : List Env) (s : Shared) (H : Hp), Room k (A.deeper (lamEnv X sc s.heap.objs.size f c')) → PE (lamN X A outer s H E sc f c') bd tb)
    (hN : Ng[i]? = some a) (hv : Vis sg a) (hd : (a == ("__debug__" : Str)) = false := by decide) (hcd : (a == ("__classdict__" : Str)) = false := by decide) :
    PE ((cxOf CXg X.prog X.w X.K X.mg X.base Ng qg sg g cdg YA Ys s0 H0 Eg).tr pn xe) (.Call (.Name a p1) [] [] p2)
      (fun σZ HZ Q => (∀ cls d H', E cls d H' → W cls d σZ H') ∧ σZ[i]? = some (some (.ref f)) ∧ HZ c' = some (CodeO c' (X.env.qual ++ "<lambda>")) ∧ tb σ HZ Q) := ⟨fun pinsZ sZ σZ HZ Q IZ h => by
  obtain ⟨hW, hs, hc, ht⟩ := h
  refine wpAny_Call_Name_kw (thn ((pe_var (pos := p1) (i := i) hN hv hd hcd).run pinsZ sZ σZ HZ (fun v H1 => v = .ref f ∧ H1 = HZ) IZ ⟨.ref f, hs, rfl, rfl⟩) fun u s1 ⟨v, H1, I1, r1, ev, eH⟩ => ?_)
  subst ev
  rw [eH] at I1
  obtain rfl : u = Value.ref f := r1
  have un : Un (frs X.stack) [] H HZ s.heap s1.heap := Un.comp link I1.base sub sup
  have of1 := (I1.hok f _ (un.frzs f _ _ hf)).1
  obtain ⟨bs, hbs, hbt⟩ := lam_binds (q := X.env.qual ++ "<lambda>") (cl := cloFrom X.env.cells sc.names []) (pm := pm) (cv := .ref c') (tv := ctv) hbind (hdv.ext un.frzs) I1.hok
  refine PySem.W.callWith_F0 ⟨_, _, _, _, of1⟩ ?_
  obtain ⟨⟨oc, vs, t, hoc, hdc, hvc⟩, _, _⟩ := I1.hok c' _ hc
  refine wpAny_call (codeAny_mono (R := CR (L2N.CX X.prog X.w) (envOfC qg sg s0.heap.objs.size g cdg :: Ys) X.prog X.w HZ s1 Q E) (PySem.W.kla_callFunE hr.depth of1 rfl L.co L.gen rfl ⟨c', oc, vs, t, rfl, hoc, hdc, hvc⟩ ?_) fun r s' hq => ?_)
  · refine hbt _ _ _ _ ?_
    refine wpAny_newFunctionEnv L.cel hbs (fun h₁ hns hsb => ⟨I1.nolimit.fresh _ hsb, ?_⟩) L.kind
    show codeAny _ _ (.expr bd (lamEnv X sc s1.heap.objs.size f c')) _ _
    have kp : ∀ b o, s1.heap.get? b = some o → h₁.get? b = some o := fun b o z => hsb.extBut b o (Nat.ne_of_lt (Heap.lt_size z)) (Heap.get?_push_of_some _ z)
    have J0 : Inv (lamCx X (YA.deeper (envOfC qg sg s0.heap.objs.size g cdg)) (envOfC qg sg s0.heap.objs.size g cdg :: Ys) s1 HZ E sc f c') [] σ HZ { s1 with heap := h₁, toks := s1.toks + bs.length } := lam_begin I L I1.env0 hr.hd un hns kp
    have J := J0.toTry (fun e s' => wpAny (model X.prog X.w) ((YA.deeper (envOfC qg sg s0.heap.objs.size g cdg)).deeper (lamEnv X sc s1.heap.objs.size f c')) (leaving (lamEnv X sc s1.heap.objs.size f c') e) (fun _ s'' => L2N.CX X.prog X.w (envOfC qg sg s0.heap.objs.size g cdg :: Ys) HZ s1 E e s'') (fun e' s'' => L2N.CX X.prog X.w (envOfC qg sg s0.heap.objs.size g cdg :: Ys) HZ s1 E e' s'') s')
    refine PySem.W.kla_codeExpr (wpAny_mono ((hbody _ _ s1 HZ (hr.deeper _)).run [] _ _ HZ Q J ht) (fun v s' hq => ?_) fun e s' hq => hq)
    obtain ⟨w', H', J', rv, q⟩ := hq
    exact ⟨w', H', J'.os, J'.bare, J'.base, J'.hok, rv, q⟩
  · cases r with
    | error e => exact tk e s' (L2N.XE.of_call I1 hW hq)
    | ok fl =>
      cases fl with
      | ret u => exact I1.after hq
      | next => exact False.elim hq
      | brk => exact False.elim hq
      | cont => exact False.elim hq⟩
end
/-- a lambda that may be called: its text, its names, its body's reading -/
structure LamOk (X : Cx) (j : Nat) (ar : Arguments) (bd : Expr) (sc : Scope) (b : Bool) (t : XK → TE) : Prop where
  L : LamW X.N X.env.scope sc
  bind : LamBind ar bd sc b
  body : ∀ (A : Around) (outer : List Env) (s : Shared) (H : Hp) (E : XK) (f c' : Addr), Room j (A.deeper (lamEnv X sc s.heap.objs.size f c')) → PE (lamN X A outer s H E sc f c') bd (t E)
/-- in a block of X, at any time: X's own state is still as it was -/
def Back (X Y : Cx) (σ : L2.St) : Prop := ∀ pins' σ' H' s', Inv Y pins' σ' H' s' → ∃ pins, Inv X pins σ H' s'
/-- what the lambda at f, handed to a def, is read as -/
def tGiv (X : Cx) (j : Nat) (TO : (XK → Hp → VK → Prop) → Hp → VK → Prop) (i : Nat) (σ : L2.St) : TE := fun σY HY Q =>
  ∃ f ar bd sc b t, σY[i]? = some (some (.ref f)) ∧ LamAt X HY f ar bd sc b ∧ LamOk X j ar bd sc b t ∧ TO (fun E H' Q' => t E σ H' Q') HY Q
section
variable {X : Cx} {σ : L2.St}
/-- x(y), y a name that holds a lambda of X, in a block of X -/
theorem pe_giv {TO : (XK → Hp → VK → Prop) → Hp → VK → Prop} {x a y : Str} {g : Addr} {i j k : Nat} {pg : Arguments} {bg : List Stmt} {sg : Scope} {dV kV doc pm cdv ct oc : Value} {an od : Option Addr} {osl : Array (Option Value)} {Ng : List Str} {p p1 pos : Pos} {s' : Shared} {H' : Hp} {scb : Scope} {cen : Env} {fp : List Addr}
    (hg : Gl (X.blk s' H' scb cen fp) x) (hm : X.mg x = some (.ref g)) (hk : PySem.W.keepIn X.K (.ref g) = true)
    (lk : X.K.lookup g = some ⟨oc, od, .func (PySem.W.fnOf x x pg bg sg dV kV doc pm an cdv ct), osl⟩) (hcg : PySem.W.codeIn X.K cdv x = true) (hb : L2.Binds X.K (PySem.W.fnOf x x pg bg sg dV kV doc pm an cdv ct) [a] []) (Sg : FnScope Ng [a] sg)
    (hG : GivM X Ng x sg g cdv bg (X.env.qual ++ "<lambda>") j k TO) (hr : Room (k + 1) X.A) (hv : PE (X.blk s' H' scb cen fp) (.Name y p1) (tVar i)) (back : Back X (X.blk s' H' scb cen fp) σ)
    (hdb : (x == ("__debug__" : Str)) = false := by decide) :
    PE (X.blk s' H' scb cen fp) (.Call (.Name x p) [.Name y p1] [] pos) (tGiv X j TO i σ) := ⟨fun pins sY σY HY Q IY h => by
  obtain ⟨f, ar, bd, sc, b, t, h0, ⟨c', pmv, dv, tv, hf, hdv, hco⟩, ok, hT⟩ := h
  refine wpAny_Call_Name_kw (ld_glob IY hg hm (PySem.W.callWith_K (h₀ := X.base) IY.ok.mod.kin hk (thn ((pa_cons hv pa_nil).run pos pins sY σY HY (fun vs H1 => vs = [.ref f] ∧ H1 = HY) IY ⟨.ref f, h0, rfl, rfl⟩) fun us s1 ⟨vs, H1, I1, r1, ev, eH⟩ => ⟨I1.kIn, ?_⟩) (by rfl) (by rfl)) hdb)
  subst ev
  rw [eH] at I1
  obtain rfl := Vals.ref1 r1
  obtain ⟨pinsX, IX⟩ := back _ _ _ _ I1
  refine wpAny_call (codeAny_mono (R := CR C8.CX0 X.stack X.prog X.w HY s1 Q C8.E0) (run_ofS (N := Ng) (ps := [a]) (us := [.ref f]) (vs := [.ref f]) lk hcg Sg hr I1.env0 (hb s1 [.ref f] I1.kIn rfl) (.cons rfl .nil) rfl fun hr' => ?_) fun r s2 hq => ?_)
  · obtain ⟨t', ht', hq'⟩ := hG f c' s1 HY Q (fun E H' Q' => t E σ H' Q') hr' (fun Ng qg sg g cdg YA Ys s0 H0 a W pn xe E p1 p2 link sub sup hN hv d1 d2 hr2 tk => pe_actF (i := 0) IX ok.L hf hdv ok.bind link sub sup tk hr2 (fun A outer s H hr3 => ok.body A outer s H E f c' hr3) hN hv d1 d2) hco hT
    exact ⟨t', ht'.nox, hq'⟩
  · cases r with
    | error e => exact (show False from hq).elim
    | ok fl =>
      cases fl with
      | ret u => exact I1.after hq
      | next => exact False.elim hq
      | brk => exact False.elim hq
      | cont => exact False.elim hq⟩
end
end TT
/-! a list comprehension whose element may use the state of the def around it -/
namespace TT
open PySem PySem.Spec PyProof.Rows L2 HotX LamX
section
variable {X : Cx}
/-- the turns of the block: D the new list -/
theorem back_loop {σ : L2.St} {s0 sB : Shared} {H0 HB : Hp} {Q : VK} {elt tg iter : Expr} {sc : Scope} {cen : Env} {vs : List Nat} {pos : Pos} {g : TG} {te : TE} {it D : Addr} {fp : List Addr} {tn : Nat → Heap → Prop} {J : It} {W : Nat → Nat → Hp → Prop} {R : Result → Shared → Prop} {m0 : Nat}
    (hc : X.calm = true) (Tn : Turn X.prog X.w X.K tg J fp it tn) (pg : PG (X.blk s0 H0 sc cen fp) tg g) (pe : PE (X.blk s0 H0 sc cen fp) elt te)
    (turn : ∀ i m H, W i m H → (J.stop i H ∧ Q (.ref D) H) ∨ (J.go i H ∧ ∃ Nx : Hp → Prop, (∀ H', Nx H' → ∃ m', m' < m ∧ W (i + 1) m' H') ∧ ∀ x H', J.yld i H x H' →
      g x (wipe σ vs) H' fun σ2 H2 => wipe σ2 vs = wipe σ vs ∧ te σ2 H2 fun y H4 => ∃ acc, H4 D = some (.lst acc) ∧ acc.length < sizeLine ∧ Nx (upd H4 D (.lst (acc ++ [y])))))
    (IB : Inv (X.blk s0 H0 sc cen fp) [] (wipe σ vs) HB sB) (stB : tn 0 sB.heap) (nB : ∀ b ∈ fp, HB b = none) (wB : W 0 m0 HB)
    (fin : ∀ H' s', Inv (X.blk s0 H0 sc cen fp) [] (wipe σ vs) H' s' → Q (.ref D) H' → R (.ok .next) s') :
    codeAny (model X.prog X.w) X.A (.compLoop (.ListComp elt [⟨tg, iter, [], 0⟩] sc pos) 0 (.ref it) (.ref D) cen) R sB := by
  have clear : ∀ {σ' : L2.St} {H' : Hp} {s' : Shared}, Inv (X.blk s0 H0 sc cen fp) [] σ' H' s' → (∀ b ∈ fp, H' b = none) → ∀ b ∈ fp, FpOk (X.blk s0 H0 sc cen fp) [] H' b := fun I' hn b hb =>
    ⟨hn b hb, (I'.ok.exf b hb).1, I'.ok.exfs b hb, .inl hb, (I'.ok.exf b hb).2, fun p hp => absurd hp (by simp)⟩
  refine compLoop_any (fun n s => ∃ i H, Inv (X.blk s0 H0 sc cen fp) [] (wipe σ vs) H s ∧ tn i s.heap ∧ (∀ b ∈ fp, H b = none) ∧ W i n H) (fun n s ⟨i, H, I, st, nf, w⟩ => ?_) m0 ⟨0, HB, IB, stB, nB, wB⟩
  rcases turn i n H w with ⟨stop, q⟩ | ⟨go, Nx, hNx, step⟩
  · refine thnF (Tn.done (X.blk s0 H0 sc cen fp) rfl rfl rfl hc i [] s _ H (fun _ _ => False) I (clear I nf) st stop) fun r s6 h6 => ?_
    rw [h6.1]
    exact fin H s6 h6.2 q
  · refine thnF (Tn.item (X.blk s0 H0 sc cen fp) rfl rfl rfl hc i [] s _ H (fun _ _ => False) I (clear I nf) st go) fun r s6 ⟨u, hr, h6⟩ => ?_
    rw [hr]
    refine thnF h6 fun _ s7 ⟨x, H7, I7, r7, y7, st7, n7⟩ => ?_
    refine thnF (pg.run _ s7 _ H7 x u _ (I7.pinned (clear I7 n7) (Tn.obj _ _ st7)) r7 (step x H7 y7)) fun _ s8 ⟨σ8, H8, I8, hw8, q8⟩ => ?_
    refine wpAny_tests_nil ?_
    simp only [if_true]
    refine thnF (pe.run _ s8 σ8 H8 _ I8 q8) fun z s10 ⟨yv, H10, I10, r10, acc, hD10, hz10, nx⟩ => app_ok (X := X.blk s0 H0 sc cen fp) I10 hD10 hz10 r10 fun s11 I11 => ?_
    obtain ⟨m', hm, w'⟩ := hNx _ nx
    have at11 : ∀ b ∈ fp, ∀ o, s7.heap.get? b = some o → s11.heap.get? b = some o ∧ upd H10 D (.lst (acc ++ [yv])) b = none := fun b hb o e =>
      (fun z => ⟨z.1, z.2.1⟩) (I11.pin (b, o) (List.mem_append_right _ (List.mem_append_right _ (mem_pinsAt hb e))))
    refine ⟨m', hm, i + 1, _, (I11.unpinned (pins := [])).weak (by rw [← hw8, wipe_length]) (fun j v e => (wipe_some (show (wipe σ8 vs)[j]? = some (some v) by rw [hw8]; exact e)).1), Tn.keep _ _ _ st7 fun b hb o e => (at11 b hb o e).1, fun b hb => ?_, w'⟩
    obtain ⟨o, e, _⟩ := Tn.obj _ _ st7 b hb
    exact (at11 b hb o e).2
/-- the block, from the new list on -/
theorem back_block {pins : List (Addr × Obj)} {σ : L2.St} {s3 : Shared} {H3 : Hp} {Q : VK} {elt tg iter : Expr} {sc : Scope} {own : List (Str × Nat)} {pos : Pos} {g : TG} {te : TE} {it D : Addr} {fp : List Addr} {tn : Nat → Heap → Prop} {J : It} {W : Nat → Nat → Hp → Prop} {m0 : Nat}
    (hc : X.calm = true) (hN : X.N.Nodup) (ok : BlkOk X.N X.env.scope sc own) (Tn : Turn X.prog X.w X.K tg J fp it tn)
    (hg : ∀ s H C cl fp, PG (X.blk s H sc (compEnvC sc cl C X.env) fp) tg g) (he : ∀ s H C cl fp, Back X (X.blk s H sc (compEnvC sc cl C X.env) fp) σ → PE (X.blk s H sc (compEnvC sc cl C X.env) fp) elt te)
    (turn : ∀ i m H, W i m H → (J.stop i H ∧ Q (.ref D) H) ∨ (J.go i H ∧ ∃ Nx : Hp → Prop, (∀ H', Nx H' → ∃ m', m' < m ∧ W (i + 1) m' H') ∧ ∀ x H', J.yld i H x H' →
      g x (wipe σ (own.map (·.2))) H' fun σ2 H2 => wipe σ2 (own.map (·.2)) = wipe σ (own.map (·.2)) ∧ te σ2 H2 fun y H4 => ∃ acc, H4 D = some (.lst acc) ∧ acc.length < sizeLine ∧ Nx (upd H4 D (.lst (acc ++ [y])))))
    (I3 : Inv X pins σ H3 s3) (f3 : ∀ b ∈ fp, FpOk X pins H3 b ∧ b < s3.heap.objs.size) (st3 : tn 0 s3.heap) (w0 : W 0 m0 H3) :
    codeAny (model X.prog X.w) X.A (.compStart (.ListComp elt [⟨tg, iter, [], 0⟩] sc pos) 0 (.ref it) (.ref D) (compEnvC sc (cellsFrom (s3.heap.objs.size + 1) sc.names (cloFrom X.env.cells sc.names [])) s3.heap.objs.size X.env))
      (compPost (model X.prog X.w) X.A X.xe none (EP X pins σ Q) (.ref D) s3.heap.objs.size) { s3 with heap := pushCells (s3.heap.push { cls := .type "dict", data := .dict #[] }) sc.names } := by
  have I4 := block_start I3 ok hN f3
  have st4 := Tn.keep _ _ (pushCells (s3.heap.push { cls := .type "dict", data := .dict #[] }) sc.names) st3 fun b _ o e => pushCells_keeps _ _ _ _ (Heap.get?_push_of_some _ e)
  have toX : ∀ pins' σ' H' s', Inv (X.blk s3 H3 sc (compEnvC sc (cellsFrom (s3.heap.objs.size + 1) sc.names (cloFrom X.env.cells sc.names [])) s3.heap.objs.size X.env) fp) pins' σ' H' s' → Inv X pins σ H' s' := fun pins' σ' H' s' J' =>
    I3.call' (ch := fp) J'.os J'.base J'.hok J'.bare fun b hb => (fun z => ⟨z.2.2.2.1, z.2.1, z.2.2.2.2.1, z.2.2.2.2.2⟩) (f3 b hb).1
  have loop := back_loop (elt := elt) (iter := iter) (pos := pos) (R := compPost (model X.prog X.w) X.A X.xe none (EP X pins σ Q) (.ref D) s3.heap.objs.size) hc Tn (hg s3 H3 _ _ fp) (he s3 H3 _ _ fp fun p a b c z => ⟨pins, toX p a b c z⟩) turn I4 st4 (fun b hb => (f3 b hb).1.1) w0 fun H' s' J' q => by
    obtain ⟨m, hn, _⟩ := J'.loc
    obtain ⟨a0, a1, a2, a3, a4, a5⟩ := I3.fpOk (H' := H') (Nat.le_refl _) J'.free
    exact ⟨m, hn, fun h'' sb => ⟨.ref D, H', (toX _ _ _ _ J').turned (t' := s'.toks) (fun b o hb e => (sb.2 b hb).trans e) a0 a1 a3 a4 a5, rfl, q⟩⟩
  exact codeAny_compStart_list loop (Tn.self X.A 0 _ _ _ st4 loop)
/-- [elt for target in iter] -/
theorem pe_lcB {elt tg iter : Expr} {sc : Scope} {own : List (Str × Nat)} {pos : Pos} {wi : TI} {g : TG} {te : L2.St → TE} (hc : X.calm = true) (hN : X.N.Nodup) (hi : PI X tg iter wi) (ok : BlkOk X.N X.env.scope sc own)
    (hg : ∀ s H C cl fp, PG (X.blk s H sc (compEnvC sc cl C X.env) fp) tg g) (he : ∀ σ s H C cl fp, Back X (X.blk s H sc (compEnvC sc cl C X.env) fp) σ → PE (X.blk s H sc (compEnvC sc cl C X.env) fp) elt (te σ)) (hs : ∀ x, foldedSetIterable iter X.env x = pure x := by intro _; rfl) :
    PE X (.ListComp elt [⟨tg, iter, [], 0⟩] sc pos) (fun σ H Q => tLc wi g tYes (te σ) (own.map (·.2)) σ H Q) := ⟨fun pins s σ H Q I h => by
  have hfr : ∀ y ∈ sc.names, y.2 = .free → ∃ c, X.env.cells.lookup y.1 = some c := fun y hy e => I.ok.has _ ((ok.free y hy e).imp id id)
  rw [eval_ListComp]
  refine wpAny_comprehension_free (use := none) rfl hs (closure_ok hfr) ok.kind (fun y hy e => by rw [ok.uniq y hy, e]) (thn (hi.run pins s σ H _ I h) fun xv s1 hx => thn hx fun itv s2 ⟨it, fp, tn, J, H2, e, I2, Tn, st2, f2, q⟩ => ?_)
  subst e
  refine wpAny_newObj_type (newEnv_comp ?_) (Nat.zero_le _)
  have nD : H2 s2.heap.objs.size = none := I2.hok.fresh (Nat.le_refl _)
  obtain ⟨W, ⟨m0, w0⟩, turn⟩ := q _ nD
  have k3 : ∀ b o, s2.heap.get? b = some o → (s2.heap.push { cls := .type "list", data := .seq ([] : List Value).toArray }).get? b = some o := fun b o e => Heap.get?_push_of_some _ e
  have I3 : Inv X pins σ (upd H2 s2.heap.objs.size (.lst [])) { s2 with heap := s2.heap.push { cls := .type "list", data := .seq ([] : List Value).toArray } } :=
    I2.laid (t' := s2.toks) k3 (Nat.le_refl _) ⟨Nat.zero_le _, [], 0, .nil, Heap.get?_push_size _ rfl⟩
  have f3 : ∀ b ∈ fp, FpOk X pins (upd H2 s2.heap.objs.size (.lst [])) b ∧ b < (s2.heap.push { cls := .type "list", data := .seq ([] : List Value).toArray }).objs.size := fun b hb => by
    obtain ⟨o, e, _⟩ := Tn.obj _ _ st2 b hb
    exact ⟨⟨by rw [upd_ne (Nat.ne_of_lt (Heap.lt_size e))]; exact (f2 b hb).1, (f2 b hb).2⟩, Heap.lt_size (k3 b o e)⟩
  have st3 := Tn.keep _ _ (s2.heap.push { cls := .type "list", data := .seq ([] : List Value).toArray }) st2 fun b _ o e => k3 b o e
  exact back_block hc hN ok Tn hg (he σ) turn I3 f3 st3 w0⟩
end
end TT
namespace TT
open PySem PySem.Spec PyProof.Rows L2 HotX LamX T
/-! ### subtrees by ancestors -/
theorem at_sub {p x : Int} : ∀ {t : T}, x ∈ (t.at p).pre → x ∈ t.pre
  | leaf, h => h
  | node l k r, h => by
    unfold T.at at h
    split at h
    · exact h
    · split at h
      · exact mem_node.mpr (.inr (.inl (at_sub h)))
      · exact mem_node.mpr (.inr (.inr (at_sub h)))
theorem at_len {p : Int} : ∀ {t : T}, (t.at p).pre.length ≤ t.pre.length
  | leaf => Nat.le_refl _
  | node l k r => by
    have h1 := at_len (p := p) (t := l)
    have h2 := at_len (p := p) (t := r)
    have e : (node l k r).pre.length = 1 + l.pre.length + r.pre.length := by
      show (k :: (l.pre ++ r.pre)).length = _
      rw [List.length_cons, List.length_append]; omega
    unfold T.at
    split
    · exact Nat.le_refl _
    · split <;> omega
theorem path_at {p x : Int} : ∀ {t : T}, t.bst → p ∈ t.pre → x ∈ t.pre → (p ∈ t.path x ↔ x ∈ (t.at p).pre)
  | leaf, _, h, _ => by cases h
  | node l k r, b, hp, hx => by
    have bl : ∀ y ∈ l.pre, y < k := b.1
    have br : ∀ y ∈ r.pre, k < y := b.2.1
    have hk : k ∈ (node l k r).path x := by
      rcases mem_node.mp hx with e | e | e
      · rw [e, path_k]; exact List.mem_singleton.mpr rfl
      · rw [path_l b e]; exact List.mem_cons_self
      · rw [path_r b e]; exact List.mem_cons_self
    unfold T.at
    by_cases e : p = k
    · rw [if_pos e, e]
      exact ⟨fun _ => hx, fun _ => hk⟩
    · rw [if_neg e]
      have hp' : p ∈ l.pre ∨ p ∈ r.pre := (mem_node.mp hp).resolve_left e
      by_cases lt : p < k
      · rw [if_pos lt]
        have pl : p ∈ l.pre := hp'.resolve_right fun z => by have := br p z; omega
        rcases mem_node.mp hx with ex | ex | ex
        · rw [ex, path_k]
          refine ⟨fun z => absurd (List.mem_singleton.mp z) e, fun z => ?_⟩
          have := bl k (at_sub z); omega
        · rw [path_l b ex]
          exact ⟨fun z => (path_at b.2.2.1 pl ex).mp ((List.mem_cons.mp z).resolve_left e), fun z => List.mem_cons_of_mem _ ((path_at b.2.2.1 pl ex).mpr z)⟩
        · rw [path_r b ex]
          refine ⟨fun z => ?_, fun z => ?_⟩
          · have := br p ((path_mem b.2.2.2 ex).2 p ((List.mem_cons.mp z).resolve_left e)); omega
          · have := bl x (at_sub z); have := br x ex; omega
      · rw [if_neg lt]
        have pr : p ∈ r.pre := hp'.resolve_left fun z => by have := bl p z; omega
        rcases mem_node.mp hx with ex | ex | ex
        · rw [ex, path_k]
          refine ⟨fun z => absurd (List.mem_singleton.mp z) e, fun z => ?_⟩
          have := br k (at_sub z); omega
        · rw [path_l b ex]
          refine ⟨fun z => ?_, fun z => ?_⟩
          · have := bl p ((path_mem b.2.2.1 ex).2 p ((List.mem_cons.mp z).resolve_left e)); omega
          · have := br x (at_sub z); have := bl x ex; omega
        · rw [path_r b ex]
          exact ⟨fun z => (path_at b.2.2.2 pr ex).mp ((List.mem_cons.mp z).resolve_left e), fun z => List.mem_cons_of_mem _ ((path_at b.2.2.2 pr ex).mpr z)⟩
theorem anc_at {p x : Int} {t : T} (b : t.bst) (hp : p ∈ t.pre) (hx : x ∈ t.pre) : (p ∈ t.anc x ∨ x = p) ↔ x ∈ (t.at p).pre := by
  rw [← path_at b hp hx, path_last b hx, List.mem_append, List.mem_singleton]
  unfold T.anc
  rw [List.mem_reverse]
  exact or_congr Iff.rfl ⟨fun h => h.symm, fun h => h.symm⟩
theorem at_filter {p : Int} {t : T} (b : t.bst) (h : p ∈ t.pre) : t.pre.filter (fun x => decide (x ∈ (t.at p).pre)) = (t.at p).pre := by
  have e := at_near b h (bdL_near (lo := none) b h).1 (bdH_near (hi := none) b h).1
  rw [← e]
  refine List.filter_congr fun x hx => ?_
  rw [Bool.eq_iff_iff, decide_eq_true_eq, List.mem_filter]
  exact ⟨fun z => z.2, fun z => ⟨hx, z⟩⟩
theorem head_rt : ∀ {t : T}, t.pre.head? = t.rt
  | leaf => rfl
  | node _ _ _ => rfl
theorem at_kids {p : Int} : ∀ {t : T}, t.bst → p ∈ t.pre → (t.at p).lt.rt = t.lc p ∧ (t.at p).rtr.rt = t.rc p
  | leaf, _, h => by cases h
  | node l k r, b, h => by
    have bl : ∀ y ∈ l.pre, y < k := b.1
    have br : ∀ y ∈ r.pre, k < y := b.2.1
    unfold T.at T.lc T.rc
    by_cases e : p = k
    · subst e
      simp only [if_true]
      exact ⟨rfl, rfl⟩
    · have hp' : p ∈ l.pre ∨ p ∈ r.pre := (mem_node.mp h).resolve_left e
      rw [if_neg e, if_neg e, if_neg e]
      by_cases lt : p < k
      · rw [if_pos lt, if_pos lt, if_pos lt]
        exact at_kids b.2.2.1 (hp'.resolve_right fun z => by have := br p z; omega)
      · rw [if_neg lt, if_neg lt, if_neg lt]
        exact at_kids b.2.2.2 (hp'.resolve_left fun z => by have := bl p z; omega)
/-! ### walks over the keys of a dict of ints -/
def keyI (p : Key × V) : Int := match p.1 with
  | .inl a => a
  | .inr _ => 0
section
variable {d : Addr} {o : Obj} {kvs : List (Key × V)} {g : TG} {tt : L2.TT} {te : TE} {vs : List Nat} {σ : L2.St} {H1 : Hp} {D : Addr} {Qd : Hp → Prop}
theorem lc_fK (p : Int → Bool) (hK : H1 d = some (.frz o (.dK kvs))) (all : ∀ q ∈ kvs, ∃ a b, q = (Sum.inl a, V.int b)) (nD : H1 D = none) (hl : kvs.length ≤ 1000)
    (hs : ∀ x H2 (Y : VK) (N : Hp → Prop), x ∈ kvs.map keyI → Same H1 H2 → (p x = true → ∀ H3, Same H2 H3 → Y (.int x) H3) → (p x = false → ∀ H3, Same H2 H3 → N H3) →
      g (.int x) (wipe σ vs) H2 fun σ2 H3 => wipe σ2 vs = wipe σ vs ∧ tt σ2 H3 fun b H4 => if b = true then te σ2 H4 Y else N H4)
    (hd : ∀ H2, Same H1 H2 → H2 D = some (.lst (((kvs.map keyI).filter p).map V.int)) → Qd H2) :
    ∃ W : Nat → Nat → Hp → Prop, (∃ m, W 0 m (upd H1 D (.lst []))) ∧ ∀ i m H, W i m H →
      ((Itk d o kvs).stop i H ∧ Qd H) ∨ ((Itk d o kvs).go i H ∧ ∃ Nx : Hp → Prop, (∀ H', Nx H' → ∃ m', m' < m ∧ W (i + 1) m' H') ∧ ∀ x H', (Itk d o kvs).yld i H x H' → g x (wipe σ vs) H' fun σ2 H2 => wipe σ2 vs = wipe σ vs ∧ tt σ2 H2 fun b H3 =>
        if b = true then te σ2 H3 fun y H4 => ∃ acc, H4 D = some (.lst acc) ∧ acc.length < sizeLine ∧ Nx (upd H4 D (.lst (acc ++ [y]))) else Nx H3) := by
  let Pv : Nat → Hp → Prop := fun i H2 => Same H1 H2 ∧ H2 D = some (.lst ((((kvs.map keyI).take i).filter p).map V.int))
  refine ⟨fun i m H => m = kvs.length - i ∧ i ≤ kvs.length ∧ Pv i H, ⟨_, rfl, Nat.zero_le _, same_new nD, upd_same⟩, ?_⟩
  rintro i m H ⟨rfl, hi, e2, hD⟩
  rcases Nat.lt_or_ge i kvs.length with lt | ge
  · refine .inr ⟨⟨e2 _ _ hK, lt⟩, fun H' => Pv (i + 1) H', fun H' h => ⟨_, by omega, rfl, lt, h⟩, ?_⟩
    rintro x H' ⟨rfl, k, v, hk, rfl⟩
    obtain ⟨a, b, eab⟩ := all _ (List.mem_of_getElem? hk)
    cases eab
    have hx : (kvs.map keyI)[i]? = some a := by rw [List.getElem?_map, hk]; rfl
    have ht : (kvs.map keyI).take (i + 1) = (kvs.map keyI).take i ++ [a] := by rw [List.take_add_one, hx]; rfl
    refine hs a _ _ _ (List.mem_of_getElem? hx) e2 (fun hp H3 e3 => ⟨_, e3 _ _ hD, szl ?_, Same.put (e2.trans e3) nD, ?_⟩) (fun hp H3 e3 => ⟨e2.trans e3, ?_⟩)
    · rw [List.length_map]
      have := List.length_filter_le p ((kvs.map keyI).take i)
      have := List.length_take_le' i (kvs.map keyI)
      rw [List.length_map] at this
      omega
    · rw [upd_same, ht, List.filter_append, List.map_append, List.filter_cons_of_pos hp]; rfl
    · rw [e3 _ _ hD, ht, List.filter_append, List.filter_cons_of_neg (by rw [hp]; exact Bool.false_ne_true), List.filter_nil, List.append_nil]
  · refine .inl ⟨⟨e2 _ _ hK, ge⟩, hd H e2 ?_⟩
    rw [hD, List.take_of_length_le (by rw [List.length_map]; exact ge)]
end
theorem mp_key {kvs : List (Key × V)} {f : Int → Option Int} {n : Nat} (h : Mp kvs f n) {x : Int} : x ∈ kvs.map keyI ↔ (f x).isSome = true := by
  have e : (f x).isSome = kvs.any fun kv => decide (kv.1 = Sum.inl x) := by rw [valV_any, h.val x, Option.isSome_map]
  rw [e, List.any_eq_true, List.mem_map]
  constructor
  · rintro ⟨q, hq, rfl⟩
    obtain ⟨a, b, rfl⟩ := h.all q hq
    exact ⟨_, hq, decide_eq_true rfl⟩
  · rintro ⟨q, hq, z⟩
    obtain ⟨a, b, rfl⟩ := h.all q hq
    exact ⟨_, hq, Sum.inl.inj (of_decide_eq_true z)⟩
theorem anc_head {t : T} {x : Int} (b : t.bst) (h : x ∈ t.pre) : ((t.anc x).map V.int ++ [V.non])[0]? = some (oV (t.up x)) := by
  rcases up_path b h with ⟨u, e⟩ | ⟨p, u, hp, e⟩
  · rw [anc_top e, u]; rfl
  · rw [anc_up b hp e, u]; rfl
theorem anc_rev {t : T} {x : Int} (b : t.bst) (h : x ∈ t.pre) : ((t.anc x).map V.int).reverse ++ [V.int x] = (t.path x).map V.int := by
  conv => rhs; rw [path_last b h]
  unfold T.anc
  rw [List.map_append, ← List.map_reverse, List.reverse_reverse]; rfl
theorem anc_mem {t : T} {x y : Int} (b : t.bst) (h : x ∈ t.pre) (ne : y ≠ x) : y ∈ t.anc x ↔ y ∈ t.path x := by
  conv => rhs; rw [path_last b h]
  unfold T.anc
  rw [List.mem_reverse, List.mem_append, List.mem_singleton]
  exact ⟨fun z => .inl z, fun z => z.resolve_right ne⟩
/-- the nearest smaller key, by sorting -/
theorem near_lo {t : T} {x : Int} {zs : List Int} (b : t.bst) (h : x ∈ t.pre) (p : zs.Perm ((t.anc x).filter fun y => decide (y < x))) (s : zs.Pairwise (· ≤ ·)) : NearL (t.path x) x zs.getLast? := by
  have mem : ∀ y, y ∈ zs ↔ y ∈ t.path x ∧ y < x := fun y => by
    rw [p.mem_iff, List.mem_filter, decide_eq_true_eq]
    exact and_congr_left fun lt => anc_mem b h (by omega)
  cases e : zs.getLast? with
  | none =>
    intro y hy lt
    have := (mem y).mpr ⟨hy, lt⟩
    rw [List.getLast?_eq_none_iff.mp e] at this
    cases this
  | some m =>
    obtain ⟨ys, rfl⟩ := List.getLast?_eq_some_iff.mp e
    have hm := (mem m).mp (List.mem_append_right _ (List.mem_singleton.mpr rfl))
    refine ⟨hm.1, hm.2, fun y hy lt => ?_⟩
    rcases List.mem_append.mp ((mem y).mpr ⟨hy, lt⟩) with z | z
    · exact (List.pairwise_append.mp s).2.2 y z m (List.mem_singleton.mpr rfl)
    · rw [List.mem_singleton.mp z]; exact Int.le_refl _
theorem near_hi {t : T} {x : Int} {zs : List Int} (b : t.bst) (h : x ∈ t.pre) (p : zs.Perm ((t.anc x).filter fun y => decide (x < y))) (s : zs.Pairwise (· ≤ ·)) : NearH (t.path x) x zs.head? := by
  have mem : ∀ y, y ∈ zs ↔ y ∈ t.path x ∧ x < y := fun y => by
    rw [p.mem_iff, List.mem_filter, decide_eq_true_eq]
    exact and_congr_left fun lt => anc_mem b h (by omega)
  cases zs with
  | nil =>
    intro y hy lt
    have := (mem y).mpr ⟨hy, lt⟩
    cases this
  | cons m ms =>
    have hm := (mem m).mp List.mem_cons_self
    refine ⟨hm.1, hm.2, fun y hy lt => ?_⟩
    rcases List.mem_cons.mp ((mem y).mpr ⟨hy, lt⟩) with z | z
    · rw [z]; exact Int.le_refl _
    · exact (List.pairwise_cons.mp s).1 y z
theorem head_non (zs : List Int) : (zs.map V.int ++ [V.non])[0]? = some (oV zs.head?) := by cases zs <;> rfl
theorem last_non {zs : List Int} (h : zs ≠ []) : (zs.map V.int ++ [V.non])[zs.length - 1]? = some (oV zs.getLast?) := by
  have l : 0 < zs.length := List.length_pos_iff.mpr h
  rw [List.getElem?_append_left (by rw [List.length_map]; omega), List.getElem?_map, ← List.getLast?_eq_getElem?]
  cases e : zs.getLast? with
  | none => exact absurd (List.getLast?_eq_none_iff.mp e) h
  | some m => rfl
/-! ### equal data, item by item -/
inductive EqvS (H : Hp) (n : Nat) : List V → List V → Prop
  | nil : EqvS H n [] []
  | cons {x y : V} {xs ys : List V} : Eqv H n x y → EqvS H n xs ys → EqvS H n (x :: xs) (y :: ys)
theorem EqvS.len {H : Hp} {n : Nat} {xs ys : List V} (h : EqvS H n xs ys) : xs.length = ys.length := by
  induction h with
  | nil => rfl
  | cons _ _ ih => rw [List.length_cons, List.length_cons, ih]
theorem EqvS.get {H : Hp} {n : Nat} {xs ys : List V} (h : EqvS H n xs ys) : ∀ (i : Nat) u v, xs[i]? = some u → ys[i]? = some v → Eqv H n u v := by
  induction h with
  | nil => intro i u v h; cases h
  | cons e _ ih =>
    intro i u v h1 h2
    cases i with
    | zero => cases h1; cases h2; exact e
    | succ i => exact ih i u v h1 h2
theorem EqvS.same {H H' : Hp} {n : Nat} {xs ys : List V} (h : EqvS H n xs ys) (e : Same H H') : EqvS H' n xs ys := by
  induction h with
  | nil => exact .nil
  | cons a _ ih => exact .cons (a.same e) ih
theorem eqv_lst {H : Hp} {n : Nat} {a b : Addr} {xs ys : List V} (ha : H a = some (.lst xs)) (hb : H b = some (.lst ys)) (hl : xs.length ≤ 1000) (h : EqvS H n xs ys) : Eqv H (n + 1) (.ref a) (.ref b) := .inr ⟨a, b, xs, ys, rfl, rfl, .inl ⟨ha, hb⟩, h.len, hl, h.get⟩
theorem eqv_tup {H : Hp} {n : Nat} {a b : Addr} {xs ys : List V} (ha : H a = some (.tup xs)) (hb : H b = some (.tup ys)) (hl : xs.length ≤ 1000) (h : EqvS H n xs ys) : Eqv H (n + 1) (.ref a) (.ref b) := .inr ⟨a, b, xs, ys, rfl, rfl, .inr ⟨ha, hb⟩, h.len, hl, h.get⟩
theorem eqv_oV {H : Hp} {n : Nat} {o : Option Int} : Eqv H n (oV o) (oV o) := by cases o <;> exact eqv_flat rfl
/-! ### promises -/
def spChildX (K : PySem.W.Frag) (C : Addr) : Sp := fun vs H Q E => ∃ (a : Addr) (key : Int) (t : T), vs = [.ref a, .int key] ∧ SqT K H a (t.pre.map V.int) ∧ t.bst ∧ t.pre.length ≤ 1000 ∧ key.natAbs.log2 < 1920 ∧
  (key ∈ t.pre → ∀ p H', Same H H' → H' p = some (.tup [oV (t.lc key), oV (t.rc key)]) → Q (.ref p) H') ∧ (key ∉ t.pre → ENo C key H E)
/-- _law_above while the dict of parents may be walked -/
def spAboveW : Sp := fun vs H Q _ => ∃ (m : Addr) (key : Int) (L R U : Addr) (uk : List (Key × V)) (t : T) (n : Nat), vs = [.ref m, .int key] ∧ H m = some (.dK (nodK t.rt L R U)) ∧ Rd H U (.dK uk) ∧ Mp uk t.up n ∧ t.bst ∧ key ∈ t.pre ∧ t.pre.length ≤ 1000 ∧
  ∀ p H', Same H H' → H p = none → H' p = some (.lst ((t.anc key).map V.int)) → Q (.ref p) H'
theorem spAbove_W : ∀ vs H Q E, spAbove vs H Q E → spAboveW vs H Q E := fun vs H Q E ⟨m, key, L, R, U, t, n, h1, h2, h3⟩ => by
  obtain ⟨uk, h5, h6⟩ := h2.u
  exact ⟨m, key, L, R, U, uk, t, n, h1, h2.hm, .of h5, h6, h3⟩
def spBelow : Sp := fun vs H Q _ => ∃ (m : Addr) (key : Int) (L R U : Addr) (t : T) (n : Nat), vs = [.ref m, .int key] ∧ TrAt H m L R U t n ∧ t.bst ∧ key ∈ t.pre ∧ t.pre.length ≤ 1000 ∧ n ≤ 1000 ∧
  ∀ p (bs : List Int) H', Same H H' → bs.length ≤ 1001 → (∀ x ∈ t.pre, (x ∈ bs ↔ x ∈ (t.at key).pre)) → H' p = some (.lst (bs.map V.int)) → Q (.ref p) H'
def spPlaceR (K : PySem.W.Frag) : Sp := fun vs H Q _ => ∃ (a m : Addr) (key : Int) (L R U : Addr) (t : T) (n : Nat), vs = [.ref a, .int key, .ref m] ∧ SqT K H a (t.pre.map V.int) ∧ TrAt H m L R U t n ∧ t.bst ∧ key ∈ t.pre ∧ t.pre.length ≤ 60 ∧ n ≤ 1000 ∧ key.natAbs.log2 < 1920 ∧
  ∀ H', Same H H' → Q (.bl true) H'
theorem rd_same {H H' : Hp} {a : Addr} {u : HO} (h : Rd H a u) (e : Same H H') : Rd H' a u := h.imp (e _ _) fun ⟨o, z⟩ => ⟨o, e _ _ z⟩
theorem dg_rd {H : Hp} {kvs : List (Key × V)} {f : Int → Option Int} {n : Nat} {d : Addr} {x : Int} (hd : Rd H d (.dK kvs)) (h : Mp kvs f n) : DGet H d (.int x) ((f x).map V.int) := .inl ⟨kvs, .inl x, hd, rfl, (h.val x).symm⟩
end TT
/-! lambdas in a list, asked one after another for their errors -/
namespace TT
open PySem PySem.Spec PyProof.Rows L2 HotX LamX T
section
variable {K : PySem.W.Frag} {q : Addr} {fs : List Addr} {g : TG} {te : TE} {vs : List Nat} {σ : L2.St} {H1 : Hp} {D : Addr} {Qd : Hp → Prop} {tp : List V}
theorem lc_giv (tp : List V) (hq : SqL K H1 q (fs.map V.ref)) (nD : H1 D = none) (hl : fs.length ≤ 1000)
    (hs : ∀ f H2 (Y : VK), f ∈ fs → Same H1 H2 → (∀ r H3, Same H2 H3 → H3 r = some (.tup tp) → Y (.ref r) H3) → g (.ref f) (wipe σ vs) H2 fun σ2 H3 => wipe σ2 vs = wipe σ vs ∧ te σ2 H3 Y)
    (hd : ∀ (rs : List Addr) H2, Same H1 H2 → rs.length = fs.length → (∀ r ∈ rs, H2 r = some (.tup tp)) → H2 D = some (.lst (rs.map V.ref)) → Qd H2) :
    ∃ W : Nat → Nat → Hp → Prop, (∃ m, W 0 m (upd H1 D (.lst []))) ∧ ∀ i m H, W i m H →
      ((Itl K q).stop i H ∧ Qd H) ∨ ((Itl K q).go i H ∧ ∃ Nx : Hp → Prop, (∀ H', Nx H' → ∃ m', m' < m ∧ W (i + 1) m' H') ∧ ∀ x H', (Itl K q).yld i H x H' → g x (wipe σ vs) H' fun σ2 H2 => wipe σ2 vs = wipe σ vs ∧ tYes σ2 H2 fun b H3 =>
        if b = true then te σ2 H3 fun y H4 => ∃ acc, H4 D = some (.lst acc) ∧ acc.length < sizeLine ∧ Nx (upd H4 D (.lst (acc ++ [y]))) else Nx H3) := by
  refine lc_list (xs := fs.map V.ref) (tt := tYes) (fun i H2 => ∃ rs : List Addr, Same H1 H2 ∧ rs.length = i ∧ (∀ r ∈ rs, H2 r = some (.tup tp)) ∧ H2 D = some (.lst (rs.map V.ref))) ⟨[], same_new nD, rfl, fun _ h => (by cases h), upd_same⟩ (fun i H2 _ ⟨_, h, _⟩ => Same.seq h hq) ?_ ?_
  · rintro i v H2 hv ⟨rs, e2, lr, hr, hD⟩
    rw [List.getElem?_map] at hv
    obtain ⟨x, hx, rfl⟩ := Option.map_eq_some_iff.mp hv
    have li : i < fs.length := (List.getElem?_eq_some_iff.mp hx).1
    refine hs x H2 _ (List.mem_of_getElem? hx) e2 fun r H3 e3 h3 => ⟨_, e3 _ _ hD, szl (by rw [List.length_map]; omega), rs ++ [r], Same.put (e2.trans e3) nD, by rw [List.length_append, lr]; rfl, fun r' hr' => ?_, by rw [upd_same, List.map_append]; rfl⟩
    have ne : ∀ {r'' : Addr}, H3 r'' = some (.tup tp) → upd H3 D (.lst (rs.map V.ref ++ [.ref r])) r'' = some (.tup tp) := fun {r''} h => by
      rw [upd_ne (fun z => by rw [z, e3 _ _ hD] at h; cases h)]; exact h
    rcases List.mem_append.mp hr' with z | z
    · exact ne (e3 _ _ (hr r' z))
    · rw [List.mem_singleton.mp z]; exact ne h3
  · rintro H2 ⟨rs, e2, lr, hr, hD⟩
    rw [List.length_map] at lr
    exact hd rs H2 e2 lr hr hD
end
theorem dpAll_refs {K : PySem.W.Frag} {H : Hp} {tag : Str} {n : Int} : ∀ {rs : List Addr}, (∀ r ∈ rs, H r = some (.tup [.str tag, .int n])) → DpAll K H (rs.map V.ref) (List.replicate rs.length (.tuple [.str tag, .int n]))
  | [], _ => .nil
  | r :: rs, h => .cons (.tup (SqT.of (h r List.mem_cons_self)) (.cons (.str _) (.cons (.int _) .nil))) (dpAll_refs fun r' hr => h r' (List.mem_cons_of_mem _ hr))
theorem eqvAll_rep {d : PyData} (h : PyData.eqv d d = true) : ∀ n : Nat, PyData.eqvAll (List.replicate n d) (List.replicate n d) = true
  | 0 => rfl
  | n + 1 => by
    show (PyData.eqv d d && PyData.eqvAll (List.replicate n d) (List.replicate n d)) = true
    rw [h, eqvAll_rep h n]; rfl
theorem canLay_rep {d : PyData} (h : d.canLay0 = true) : ∀ n : Nat, PyData.canLayAll0 (List.replicate n d) = true
  | 0 => rfl
  | n + 1 => by
    rw [List.replicate_succ, PyData.canLayAll0, h, canLay_rep h n]; rfl
theorem depth_rep {d : PyData} {k : Nat} (h : d.depth ≤ k) : ∀ n : Nat, PyData.depthAll (List.replicate n d) ≤ k
  | 0 => by rw [List.replicate_zero, PyData.depthAll]; exact Nat.zero_le _
  | n + 1 => by
    rw [List.replicate_succ, PyData.depthAll]
    exact Nat.max_le.mpr ⟨h, depth_rep h n⟩
theorem rd_neEs {K : PySem.W.Frag} {H : Hp} {a b : Addr} {rs ws : List Addr} {tag : Str} {n : Int} {Q : VK} (ha : H a = some (.lst (rs.map V.ref))) (hb : H b = some (.lst (ws.map V.ref))) (hr : ∀ r ∈ rs, H r = some (.tup [.str tag, .int n])) (hw : ∀ r ∈ ws, H r = some (.tup [.str tag, .int n])) (hl : rs.length = ws.length) (hz : rs.length ≤ 1000)
    (hs : PyData.strOk tag = true) (q : Q (.bl false) H) : rNeD K (.ref a) (.ref b) H Q := by
  have sh := shaped2 hs (y := .int n) (.inr ⟨n, rfl⟩)
  have c1 := SeqAt.canLay_of_shaped sh
  have dd : PyData.depth (.tuple [.str tag, .int n]) ≤ 2 := by simp [PyData.depth, PyData.depthAll]
  have ed : PyData.eqv (.tuple [.str tag, .int n]) (.tuple [.str tag, .int n]) = true := by
    show ((PyData.eqv (.str tag) (.str tag)) && ((n == n) && PyData.eqvAll [] [])) = true
    rw [show PyData.eqv (.str tag) (.str tag) = (tag == tag) from rfl]
    simp [PyData.eqvAll]
  have sL : SeqAt.shaped (.list (List.replicate rs.length (.tuple [.str tag, .int n]))) = true := by
    unfold SeqAt.shaped
    rw [PyData.canLay0, canLay_rep c1, PyData.depth]
    have := depth_rep dd rs.length
    simp [sizeLine, List.length_replicate]
    omega
  refine ⟨_, _, .lst (SqL.of ha) (dpAll_refs hr), .lst (SqL.of hb) (dpAll_refs hw), sL, by rw [← hl]; exact sL, ?_⟩
  rw [← hl]
  have : PyData.eqv (.list (List.replicate rs.length (.tuple [.str tag, .int n]))) (.list (List.replicate rs.length (.tuple [.str tag, .int n]))) = true := eqvAll_rep ed _
  rw [this]
  exact q
theorem no_err {K : PySem.W.Frag} {cT cM : Value} {C : Addr} {key : Int} {H H1 : Hp} {E : XK} {Y : VK} (n1 : PySem.W.exmAny K (.ref C) [cT, cM] = some true) (X1 : XfC K C) (f1 : PySem.W.findIn K (.ref C) "tag" = some none) (f2 : PySem.W.findIn K (.ref C) "key" = some none) (e1 : Same H H1)
    (hE : ∀ cls d H', Xo K cT cM (fun v H' => ∃ (p : Addr) (x : V) (tag : Str) (y : V), v = .ref p ∧ H' p = some (.tup [x, .str tag, y]) ∧ ∀ r, H' r = none → Y (.ref r) (upd H' r (.tup [.str tag, y]))) cls d H' → E cls d H')
    (fin : ∀ r H3, Same H H3 → H3 r = some (.tup [.str "NoKey", .int key]) → Y (.ref r) H3) : ENo C key H1 E := fun d Hf eF hdd =>
  hE _ _ _ ⟨n1, C, d, "NoKey", .int key, rfl, rfl, bears_mk X1 f1 f2 hdd (by decide +kernel) (by decide +kernel), fun pp Hx ex np hpp => ⟨pp, .non, "NoKey", .int key, rfl, hpp, fun rr nrr => fin rr _ (e1.trans (eF.trans (ex.trans (same_new nrr)))) upd_same⟩⟩
theorem nod_ext {H H' : Hp} {m L R U : Addr} {rt : Option Int} {lf rf uf : Int → Option Int} {n : Nat} {c d : Addr} {ns : List Int} (h : Nod H m L R U rt lf rf uf n) (hD : Drw c ns H d) (e : Ext d H H') : Nod H' m L R U rt lf rf uf n := by
  obtain ⟨_, _, _, hd, _⟩ := hD
  have k : ∀ {b : Addr} {kvs : List (Key × V)}, H b = some (.dK kvs) → H' b = some (.dK kvs) := fun {b kvs} hb => e _ _ (fun z => by rw [z, hd] at hb; cases hb) hb
  obtain ⟨lk, h1, h2⟩ := h.l
  obtain ⟨rk, h3, h4⟩ := h.r
  obtain ⟨uk, h5, h6⟩ := h.u
  exact ⟨k h.hm, ⟨lk, k h1, h2⟩, ⟨rk, k h3, h4⟩, ⟨uk, k h5, h6⟩, h.mL, h.mR, h.mU, h.LR, h.LU, h.RU⟩
/-- a list of drawn items -/
theorem lc_of {c d : Addr} {ms ks : List Int} {n : Nat} {g : TG} {te : TE} {vs : List Nat} {σ : L2.St} {H1 : Hp} {D : Addr} {Qd : Hp → Prop} (hD1 : Drw c ms H1 d) (nD : H1 D = none) (hn : n ≤ 1000)
    (hs : ∀ (i : Nat) H2 (Y : VK), i < n → Ext d H1 H2 → Drw c ms H2 d → (∀ x H3, x ∈ ks → Ext d H2 H3 → Drw c ms H3 d → Y (.int x) H3) → g (.int (0 + i)) (wipe σ vs) H2 fun σ2 H3 => wipe σ2 vs = wipe σ vs ∧ te σ2 H3 Y)
    (hd : ∀ (xs : List Int) H2, xs.length = n → (∀ x ∈ xs, x ∈ ks) → Ext d H1 H2 → Drw c ms H2 d → H2 D = some (.lst (xs.map V.int)) → Qd H2) :
    ∃ W : Nat → Nat → Hp → Prop, (∃ m, W 0 m (upd H1 D (.lst []))) ∧ ∀ i m H, W i m H →
      ((Itr 0 n).stop i H ∧ Qd H) ∨ ((Itr 0 n).go i H ∧ ∃ Nx : Hp → Prop, (∀ H', Nx H' → ∃ m', m' < m ∧ W (i + 1) m' H') ∧ ∀ x H', (Itr 0 n).yld i H x H' → g x (wipe σ vs) H' fun σ2 H2 => wipe σ2 vs = wipe σ vs ∧ tYes σ2 H2 fun b H3 =>
        if b = true then te σ2 H3 fun y H4 => ∃ acc, H4 D = some (.lst acc) ∧ acc.length < sizeLine ∧ Nx (upd H4 D (.lst (acc ++ [y]))) else Nx H3) := by
  have nDd := hD1.ne nD
  refine lc_range (lo := 0) (tt := tYes) (fun i H5 => ∃ ts : List Int, ts.length = i ∧ (∀ z ∈ ts, z ∈ ks) ∧ Ext d H1 H5 ∧ Drw c ms H5 d ∧ H5 D = some (.lst (ts.map V.int))) ⟨[], rfl, fun _ h => (by cases h), Ext.of (same_new nD), hD1.new nD, upd_same⟩ ?_ ?_
  · rintro i H5 hi ⟨ts, lt, mt, e5, hD5, hDD5⟩
    refine hs i H5 _ hi e5 hD5 fun x H3 hx e3 hD3 => ⟨_, e3 _ _ nDd hDD5, szl (by rw [List.length_map]; omega), ts ++ [x], by rw [List.length_append]; exact congrArg (· + 1) lt, fun z hz => ?_, (e5.trans e3).put nD, hD3.put hD1 nD, by rw [upd_same, List.map_append]; rfl⟩
    rcases List.mem_append.mp hz with h | h
    · exact mt z h
    · rw [List.mem_singleton.mp h]; exact hx
  · rintro H5 ⟨ts, lt, mt, e5, hD5, hDD5⟩
    exact hd ts H5 lt mt e5 hD5 hDD5
end TT
/-! equal data with tuples that are known to their objects; rotation after rotation -/
namespace TT
open PySem PySem.Spec PyProof.Rows L2 HotX LamX T
def EqvX (H : Hp) : Nat → V → V → Prop
  | 0, x, y => flatV x = true ∧ x = y
  | n + 1, x, y => (flatV x = true ∧ x = y) ∨ ∃ a b xs ys, x = .ref a ∧ y = .ref b ∧ ((H a = some (.lst xs) ∧ H b = some (.lst ys)) ∨ (RdT H a xs ∧ RdT H b ys)) ∧ xs.length = ys.length ∧ xs.length ≤ 1000 ∧ ∀ (i : Nat) u v, xs[i]? = some u → ys[i]? = some v → EqvX H n u v
theorem EqvX.same {H H' : Hp} (e : Same H H') : ∀ {n : Nat} {x y : V}, EqvX H n x y → EqvX H' n x y
  | 0, _, _, h => (show flatV _ = true ∧ _ from h)
  | n + 1, _, _, h => by
    rcases h with h | ⟨a, b, xs, ys, e1, e2, h1, h2, h3, h4⟩
    · exact .inl h
    · exact .inr ⟨a, b, xs, ys, e1, e2, h1.imp (fun z => ⟨e _ _ z.1, e _ _ z.2⟩) (fun z => ⟨z.1.same e, z.2.same e⟩), h2, h3, fun i u v a1 a2 => (h4 i u v a1 a2).same e⟩
def spSameZ (n : Nat) : Sp := fun vs H Q _ => ∃ x y, vs = [x, y] ∧ EqvX H n x y ∧ ∀ H', Same H H' → Q (.bl true) H'
theorem EqvX.cases {H : Hp} : ∀ {n : Nat} {x y : V}, EqvX H n x y → (flatV x = true ∧ x = y) ∨ ∃ m a b xs ys, n = m + 1 ∧ x = .ref a ∧ y = .ref b ∧ ((H a = some (.lst xs) ∧ H b = some (.lst ys)) ∨ (RdT H a xs ∧ RdT H b ys)) ∧ xs.length = ys.length ∧ xs.length ≤ 1000 ∧ ∀ (i : Nat) u v, xs[i]? = some u → ys[i]? = some v → EqvX H m u v
  | 0, _, _, h => .inl h
  | n + 1, _, _, h => by
    rcases h with h | ⟨a, b, xs, ys, h⟩
    · exact .inl h
    · exact .inr ⟨n, a, b, xs, ys, rfl, h⟩
def spPrevZ : Nat → Sp
  | 0 => fun _ _ _ _ => False
  | n + 1 => spSameZ n
theorem eqvX_flat {H : Hp} {x : V} (h : flatV x = true) : ∀ {n : Nat}, EqvX H n x x
  | 0 => ⟨h, rfl⟩
  | _ + 1 => .inl ⟨h, rfl⟩
theorem eqvX_ints {H : Hp} {a b : Addr} {ns : List Int} {n : Nat} (ha : RdT H a (ns.map V.int)) (hb : RdT H b (ns.map V.int)) (hl : ns.length ≤ 1000) : EqvX H (n + 1) (.ref a) (.ref b) := by
  refine .inr ⟨a, b, _, _, rfl, rfl, .inr ⟨ha, hb⟩, rfl, by rw [List.length_map]; exact hl, fun i u v h1 h2 => ?_⟩
  rw [h1] at h2
  cases h2
  rw [List.getElem?_map] at h1
  obtain ⟨m, _, rfl⟩ := Option.map_eq_some_iff.mp h1
  exact eqvX_flat rfl
theorem eqvX_pair {H : Hp} {a b : Addr} {n : Nat} {x y u v : V} (ha : H a = some (.tup [x, y])) (hb : H b = some (.tup [u, v])) (h1 : EqvX H n x u) (h2 : EqvX H n y v) : EqvX H (n + 1) (.ref a) (.ref b) := by
  refine .inr ⟨a, b, _, _, rfl, rfl, .inr ⟨.inl ha, .inl hb⟩, rfl, by show 2 ≤ 1000; decide, fun i p q g1 g2 => ?_⟩
  match i, g1, g2 with
  | 0, g1, g2 => cases g1; cases g2; exact h1
  | 1, g1, g2 => cases g1; cases g2; exact h2
  | i + 2, g1, _ => simp at g1
/-! ### put_on_top, touch -/
def spPutZ (K : PySem.W.Frag) : Sp := fun vs H Q _ => ∃ (a : Addr) (key : Int) (ks : List Int), vs = [.ref a, .int key] ∧ SqT K H a (ks.map V.int) ∧ ks.length ≤ 1000 ∧ ∀ p H', Same H H' → RdT H' p ((topL key ks).map V.int) → ((∃ y ∈ ks, y ≠ key) → TupX H' p ((topL key ks).map V.int)) → Q (.ref p) H'
theorem spPut_Z {K : PySem.W.Frag} : ∀ vs H Q E, spPutX K vs H Q E → spPutZ K vs H Q E := fun vs H Q E ⟨a, key, ks, h1, h2, h3, h4, q⟩ => ⟨a, key, ks, h1, h2, h3, fun p H' e _ hx => q p H' e (hx h4)⟩
def spTouchZ (K : PySem.W.Frag) (C : Addr) : Sp := fun vs H Q E => ∃ (a : Addr) (key : Int) (t : T), vs = [.ref a, .int key] ∧ SqT K H a (t.pre.map V.int) ∧ t.bst ∧ t.pre.length ≤ 1000 ∧ key.natAbs.log2 < 1920 ∧
  (key ∈ t.pre → ∀ p q H', Same H H' → H' p = some (.tup [.ref q, .int (t.dep key : Int)]) → RdT H' q ((t.tch key).pre.map V.int) → Q (.ref p) H') ∧ (key ∉ t.pre → ENo C key H E)
/-! ### rotation after rotation -/
def rotN (x : Int) : Nat → T → T
  | 0, t => t
  | i + 1, t => (rotN x i t).rot x
section
variable {x : Int} {t : T}
theorem rotN_bst (b : t.bst) : ∀ i, (rotN x i t).bst
  | 0 => b
  | i + 1 => bst_rot (rotN_bst b i)
theorem rotN_mem {y : Int} : ∀ {i : Nat}, y ∈ (rotN x i t).pre ↔ y ∈ t.pre
  | 0 => Iff.rfl
  | _ + 1 => mem_rot.trans rotN_mem
theorem rotN_len (b : t.bst) : ∀ i, (rotN x i t).pre.length = t.pre.length
  | 0 => rfl
  | i + 1 => (rot_len (rotN_bst b i)).trans (rotN_len b i)
theorem rotN_tch (b : t.bst) : ∀ i, (rotN x i t).tch x = t.tch x
  | 0 => rfl
  | i + 1 => (rot_tch (rotN_bst b i)).trans (rotN_tch b i)
theorem path_pos {u : T} (b : u.bst) (h : x ∈ u.pre) : 0 < (u.path x).length := List.length_pos_iff.mpr (path_mem b h).1
theorem up_two {u : T} (b : u.bst) (h : x ∈ u.pre) (l : 2 ≤ (u.path x).length) : ∃ p, u.up x = some p := by
  rcases up_path b h with ⟨_, e⟩ | ⟨p, hp, _⟩
  · rw [e] at l; exact absurd l (by show ¬ 2 ≤ 1; decide)
  · exact ⟨p, hp⟩
theorem rt_one {u : T} (b : u.bst) (h : x ∈ u.pre) (l : (u.path x).length = 1) : u.rt = some x := by
  rcases up_path b h with ⟨hu, _⟩ | ⟨p, hp, hm, e⟩
  · exact (up_rt b h).mp hu
  · have := path_pos b hm
    rw [e, List.length_append] at l
    have l : (u.path p).length + 1 = 1 := l
    omega
theorem rt_not {u : T} (l : 2 ≤ (u.path x).length) : u.rt ≠ some x := fun e => by
  rw [path_rt e] at l
  exact absurd l (by show ¬ 2 ≤ 1; decide)
theorem rotN_dep (b : t.bst) (h : x ∈ t.pre) : ∀ {i : Nat}, i < (t.path x).length → ((rotN x i t).path x).length + i = (t.path x).length
  | 0, _ => rfl
  | i + 1, l => by
    have ih := rotN_dep b h (i := i) (by omega)
    obtain ⟨p, hp⟩ := up_two (rotN_bst (x := x) b i) (rotN_mem.mpr h) (by omega)
    have := rot_dep (rotN_bst b i) hp
    show ((rotN x i t).rot x |>.path x).length + (i + 1) = _
    omega
end
/-- the shapes of the first steps -/
def StepsAt (H : Hp) (x : Int) (t : T) (rs : List Addr) : Prop := ∀ (i : Nat) r, rs[i]? = some r → TupX H r ((rotN x i t).pre.map V.int)
theorem StepsAt.same {H H' : Hp} {x : Int} {t : T} {rs : List Addr} (h : StepsAt H x t rs) (e : Same H H') : StepsAt H' x t rs := fun i r hr => (h i r hr).same e
theorem StepsAt.snoc {H : Hp} {x : Int} {t : T} {rs : List Addr} {r : Addr} (h : StepsAt H x t rs) (hr : TupX H r ((rotN x rs.length t).pre.map V.int)) : StepsAt H x t (rs ++ [r]) := fun i r' h' => by
  rcases Nat.lt_or_ge i rs.length with l | l
  · rw [List.getElem?_append_left l] at h'
    exact h i r' h'
  · rw [List.getElem?_append_right l] at h'
    have : i - rs.length = 0 := by
      rcases Nat.eq_zero_or_pos (i - rs.length) with z | z
      · exact z
      · rw [List.getElem?_eq_none (by show 1 ≤ _; omega)] at h'; cases h'
    rw [this] at h'
    cases h'
    rw [show i = rs.length by omega]
    exact hr
theorem steps_eqv {H : Hp} {x : Int} {t : T} {rs ss : List Addr} {a b : Addr} (bt : t.bst) (hl : t.pre.length ≤ 1000) (h1 : StepsAt H x t rs) (h2 : StepsAt H x t ss) (l : rs.length = ss.length) (lr : rs.length ≤ 1000) (ha : H a = some (.lst (rs.map V.ref))) (hb : H b = some (.lst (ss.map V.ref))) : EqvX H 2 (.ref a) (.ref b) := by
  refine .inr ⟨a, b, _, _, rfl, rfl, .inl ⟨ha, hb⟩, by rw [List.length_map, List.length_map, l], by rw [List.length_map]; exact lr, fun i u v g1 g2 => ?_⟩
  rw [List.getElem?_map] at g1 g2
  obtain ⟨r, hr, rfl⟩ := Option.map_eq_some_iff.mp g1
  obtain ⟨s, hs, rfl⟩ := Option.map_eq_some_iff.mp g2
  exact eqvX_ints (h1 i r hr).rd (h2 i s hs).rd (by rw [rotN_len bt]; exact hl)
def spSteps (K : PySem.W.Frag) (C : Addr) : Sp := fun vs H Q E => ∃ (a : Addr) (key : Int) (t : T), vs = [.ref a, .int key] ∧ SqT K H a (t.pre.map V.int) ∧ (key ∈ t.pre → TupX H a (t.pre.map V.int)) ∧ t.bst ∧ t.pre.length ≤ 1000 ∧ Kn t.pre ∧ key.natAbs.log2 < 1920 ∧
  (key ∈ t.pre → ∀ p rs H', Same H H' → H p = none → rs.length = (t.path key).length → StepsAt H' key t rs → H' p = some (.lst (rs.map V.ref)) → Q (.ref p) H') ∧ (key ∉ t.pre → ENo C key H E)
theorem ne_oV {o : Option Int} {x : Int} : (!decide (oV o = V.int x)) = true ↔ o ≠ some x := by
  rw [Bool.not_eq_true', decide_eq_false_iff_not]
  cases o with
  | none => exact ⟨fun _ z => (by cases z), fun _ z => (by cases z)⟩
  | some y => exact ⟨fun h z => h (by cases z; rfl), fun h z => h (by cases z; rfl)⟩
theorem Nod.put_ne {H : Hp} {m L R U x : Addr} {o : HO} {rt : Option Int} {lf rf uf : Int → Option Int} {n : Nat} (h : Nod H m L R U rt lf rf uf n) (h1 : m ≠ x) (h2 : L ≠ x) (h3 : R ≠ x) (h4 : U ≠ x) : Nod (upd H x o) m L R U rt lf rf uf n := by
  obtain ⟨lk, a1, a2⟩ := h.l
  obtain ⟨rk, a3, a4⟩ := h.r
  obtain ⟨uk, a5, a6⟩ := h.u
  exact ⟨by rw [upd_ne h1]; exact h.hm, ⟨lk, by rw [upd_ne h2]; exact a1, a2⟩, ⟨rk, by rw [upd_ne h3]; exact a3, a4⟩, ⟨uk, by rw [upd_ne h4]; exact a5, a6⟩, h.mL, h.mR, h.mU, h.LR, h.LU, h.RU⟩
end TT
/-! least pairs of a weighted depth and a shape; for k49 -/
namespace TT
open T
/-- the order of tuples of ints -/
def leL : List Int → List Int → Prop
  | [], _ => True
  | _ :: _, [] => False
  | x :: xs, y :: ys => x < y ∨ (x = y ∧ leL xs ys)
theorem leL_refl : ∀ a : List Int, leL a a
  | [] => trivial
  | _ :: a => .inr ⟨rfl, leL_refl a⟩
theorem leL_trans : ∀ {a b c : List Int}, leL a b → leL b c → leL a c
  | [], _, _, _, _ => trivial
  | _ :: _, [], _, h, _ => h.elim
  | _ :: _, _ :: _, [], _, h => h.elim
  | x :: a, y :: b, z :: c, h, g => by
    rcases h with h | ⟨rfl, h⟩
    · rcases g with g | ⟨rfl, g⟩
      · exact .inl (by omega)
      · exact .inl h
    · rcases g with g | ⟨rfl, g⟩
      · exact .inl g
      · exact .inr ⟨rfl, leL_trans h g⟩
theorem leL_total : ∀ a b : List Int, leL a b ∨ leL b a
  | [], _ => .inl trivial
  | _ :: _, [] => .inr trivial
  | x :: a, y :: b => by
    rcases Int.lt_trichotomy x y with h | rfl | h
    · exact .inl (.inl h)
    · exact (leL_total a b).imp (fun h => .inr ⟨rfl, h⟩) fun h => .inr ⟨rfl, h⟩
    · exact .inr (.inl h)
theorem leL_anti : ∀ {a b : List Int}, leL a b → leL b a → a = b
  | [], [], _, _ => rfl
  | [], _ :: _, _, h => h.elim
  | _ :: _, [], h, _ => h.elim
  | x :: a, y :: b, h, g => by
    rcases h with h | ⟨rfl, h⟩
    · rcases g with g | ⟨e, g⟩ <;> omega
    · rcases g with g | ⟨_, g⟩
      · omega
      · rw [leL_anti h g]
theorem leL_app : ∀ {a a' b b' : List Int}, a.length = a'.length → leL a a' → leL b b' → leL (a ++ b) (a' ++ b')
  | [], [], _, _, _, _, h => h
  | [], _ :: _, _, _, e, _, _ => by simp at e
  | _ :: _, [], _, _, e, _, _ => by simp at e
  | x :: a, y :: a', b, b', e, h, g => by
    rcases h with h | ⟨rfl, h⟩
    · exact .inl h
    · exact .inr ⟨rfl, leL_app (by simpa using e) h g⟩
def leB (p q : Int × List Int) : Prop := p.1 < q.1 ∨ (p.1 = q.1 ∧ leL p.2 q.2)
theorem leB_refl (p : Int × List Int) : leB p p := .inr ⟨rfl, leL_refl _⟩
theorem leB_trans {p q r : Int × List Int} (h : leB p q) (g : leB q r) : leB p r := by
  rcases h with h | ⟨e, h⟩
  · rcases g with g | ⟨e2, g⟩
    · exact .inl (by omega)
    · exact .inl (by omega)
  · rcases g with g | ⟨e2, g⟩
    · exact .inl (by omega)
    · exact .inr ⟨by omega, leL_trans h g⟩
theorem leB_anti {p q : Int × List Int} (h : leB p q) (g : leB q p) : p = q := by
  obtain ⟨a, b⟩ := p
  obtain ⟨c, d⟩ := q
  rcases h with h | ⟨e, h⟩
  · rcases g with g | ⟨e2, g⟩
    · have h : a < c := h; have g : c < a := g; omega
    · have h : a < c := h; have e2 : c = a := e2; omega
  · rcases g with g | ⟨_, g⟩
    · have e : a = c := e; have g : c < a := g; omega
    · have e : a = c := e
      have e2 : b = d := leL_anti h g
      rw [e, e2]
theorem leB_fst {p q : Int × List Int} (h : leB p q) : p.1 ≤ q.1 := by
  rcases h with h | ⟨e, _⟩ <;> omega
/-- the keys from left to right -/
def ino : T → List Int
  | leaf => []
  | node l k r => ino l ++ k :: ino r
/-- the sum of weight times depth -/
def wdT (w : Int → Int) : T → Int
  | leaf => 0
  | node l k r => wdT w l + wdT w r + ((ino l).map w).sum + ((ino r).map w).sum
theorem ino_perm : ∀ t : T, (ino t).Perm t.pre
  | leaf => List.Perm.refl _
  | node l k r => by
    show (ino l ++ k :: ino r).Perm (k :: (l.pre ++ r.pre))
    exact List.perm_middle.trans (((ino_perm l).append (ino_perm r)).cons k)
/-- the least pair over the trees of these keys -/
structure Best (w : Int → Int) (ks : List Int) (p : Int × List Int) : Prop where
  ex : ∃ t, ino t = ks ∧ p = (wdT w t, t.pre)
  le : ∀ t, ino t = ks → leB p (wdT w t, t.pre)
theorem Best.uniq {w : Int → Int} {ks : List Int} {p q : Int × List Int} (h : Best w ks p) (g : Best w ks q) : p = q := by
  obtain ⟨t, e1, rfl⟩ := h.ex
  obtain ⟨u, e2, rfl⟩ := g.ex
  exact leB_anti (h.le _ e2) (g.le _ e1)
theorem Best.nil {w : Int → Int} : Best w [] (0, []) := by
  refine ⟨⟨leaf, rfl, rfl⟩, fun t h => ?_⟩
  cases t with
  | leaf => exact leB_refl _
  | node l k r => exact absurd (congrArg List.length h) (by show (ino l ++ k :: ino r).length ≠ 0; rw [List.length_append, List.length_cons]; omega)
/-- a root put above two parts -/
def hang (w : Int → Int) (ls rs : List Int) (k : Int) (p q : Int × List Int) : Int × List Int := (p.1 + q.1 + (ls.map w).sum + (rs.map w).sum, k :: (p.2 ++ q.2))
theorem Best.len {w : Int → Int} {ks : List Int} {p : Int × List Int} (h : Best w ks p) : p.2.length = ks.length := by
  obtain ⟨t, rfl, rfl⟩ := h.ex
  exact (ino_perm t).length_eq.symm
theorem hang_ex {w : Int → Int} {ls rs : List Int} {k : Int} {p q : Int × List Int} (hp : Best w ls p) (hq : Best w rs q) : ∃ t, ino t = ls ++ k :: rs ∧ hang w ls rs k p q = (wdT w t, t.pre) := by
  obtain ⟨t, rfl, rfl⟩ := hp.ex
  obtain ⟨u, rfl, rfl⟩ := hq.ex
  exact ⟨node t k u, rfl, rfl⟩
theorem hang_le {w : Int → Int} {l r : T} {k : Int} {p q : Int × List Int} (hp : Best w (ino l) p) (hq : Best w (ino r) q) : leB (hang w (ino l) (ino r) k p q) (wdT w (node l k r), (node l k r).pre) := by
  have h1 := hp.le l rfl
  have h2 := hq.le r rfl
  have f1 := leB_fst h1
  have f2 := leB_fst h2
  have f1 : p.1 ≤ wdT w l := f1
  have f2 : q.1 ≤ wdT w r := f2
  by_cases e : p.1 = wdT w l ∧ q.1 = wdT w r
  · obtain ⟨e1, e2⟩ := e
    refine .inr ⟨by show p.1 + q.1 + _ + _ = wdT w l + wdT w r + _ + _; rw [e1, e2], ?_⟩
    have g1 : leL p.2 l.pre := by
      rcases h1 with h | ⟨_, h⟩
      · have h : p.1 < wdT w l := h; omega
      · exact h
    have g2 : leL q.2 r.pre := by
      rcases h2 with h | ⟨_, h⟩
      · have h : q.1 < wdT w r := h; omega
      · exact h
    exact .inr ⟨rfl, leL_app (by rw [hp.len]; exact (ino_perm l).length_eq) g1 g2⟩
  · refine .inl ?_
    show p.1 + q.1 + _ + _ < wdT w l + wdT w r + _ + _
    omega
/-- the least over all roots -/
theorem Best.step {w : Int → Int} {ks : List Int} (pl pr : Nat → Int × List Int) (hl : ∀ i, i < ks.length → Best w (ks.take i) (pl i)) (hr : ∀ i, i < ks.length → Best w (ks.drop (i + 1)) (pr i)) {p : Int × List Int}
    (ex : ∃ i k, ks[i]? = some k ∧ p = hang w (ks.take i) (ks.drop (i + 1)) k (pl i) (pr i)) (le : ∀ i k, ks[i]? = some k → leB p (hang w (ks.take i) (ks.drop (i + 1)) k (pl i) (pr i))) : Best w ks p := by
  refine ⟨?_, fun t ht => ?_⟩
  · obtain ⟨i, k, hk, rfl⟩ := ex
    obtain ⟨hi, ek⟩ := List.getElem?_eq_some_iff.mp hk
    obtain ⟨t, h1, h2⟩ := hang_ex (k := k) (hl i hi) (hr i hi)
    refine ⟨t, ?_, h2⟩
    rw [h1, ← ek]
    rw [← List.drop_eq_getElem_cons hi, List.take_append_drop]
  · cases t with
    | leaf =>
      obtain ⟨i, k, hk, _⟩ := ex
      rw [← ht] at hk
      cases hk
    | node l k r =>
      have hk : ks[(ino l).length]? = some k := by rw [← ht]; show (ino l ++ k :: ino r)[(ino l).length]? = some k; rw [List.getElem?_append_right (Nat.le_refl _), Nat.sub_self]; rfl
      have hi := (List.getElem?_eq_some_iff.mp hk).1
      have e1 : ks.take (ino l).length = ino l := by rw [← ht]; exact List.take_left
      have e2 : ks.drop ((ino l).length + 1) = ino r := by
        rw [← ht]
        show (ino l ++ k :: ino r).drop ((ino l).length + 1) = ino r
        rw [← List.drop_drop, List.drop_left]; rfl
      have a := le _ k hk
      have b1 := hl _ hi
      have b2 := hr _ hi
      rw [e1] at b1
      rw [e2] at b2
      rw [e1, e2] at a
      exact leB_trans a (hang_le b1 b2)
theorem leB_total (p q : Int × List Int) : leB p q ∨ leB q p := by
  rcases Int.lt_trichotomy p.1 q.1 with h | h | h
  · exact .inl (.inl h)
  · exact (leL_total p.2 q.2).imp (fun g => .inr ⟨h, g⟩) fun g => .inr ⟨h.symm, g⟩
  · exact .inr (.inl h)
end TT
/-! dicts with pairs of ints as keys; sorted and min over tuples; for k49 -/
namespace TT
open PySem PySem.Spec PyProof.Rows L2 T
/-! ### dict(list of pairs) whose keys are tuples -/
def mergeT (kvs more : List (List L2.Key × V)) : List (List L2.Key × V) := more.foldl (fun acc kv => putK acc kv.1 kv.2) kvs
theorem KT_merge {H : Hp} : ∀ {more : List (List L2.Key × V)} {rs : List (List L2.Key × Addr × Value)} {kvs : List (List L2.Key × V)} {vs : List (List L2.Key × Addr × Value)}, KT H more rs → KT H kvs vs → KT H (mergeT kvs more) (storedAllH vs rs) := by
  intro more rs kvs vs r
  unfold KT at r
  induction r generalizing kvs vs with
  | nil => intro h; exact h
  | @cons p q ps qs h t ih =>
    intro hv
    obtain ⟨h1, h2, h3⟩ := h
    show KT H (mergeT (putK kvs p.1 p.2) ps) (storedAllH (storedH vs q.1 q.2.1 q.2.2) qs)
    rw [← h1]
    exact ih (KT.put hv p.1 h2 h3)
theorem length_mergeT : ∀ (more kvs : List (List L2.Key × V)), (mergeT kvs more).length ≤ kvs.length + more.length
  | [], kvs => Nat.le_refl _
  | p :: ps, kvs => by
    have h1 := length_mergeT ps (putK kvs p.1 p.2)
    have h2 := length_putK kvs p.1 p.2
    show (mergeT (putK kvs p.1 p.2) ps).length ≤ _
    rw [List.length_cons]
    omega
/-- a pair (key tuple, value) in the heap: its address, the key's address, key and value -/
def Pt (H : Hp) (e : Addr × Addr × List L2.Key × V) : Prop := H e.1 = some (.tup [.ref e.2.1, e.2.2.2]) ∧ H e.2.1 = some (.tup (e.2.2.1.map kV))
section
variable {X : Cx}
theorem pairsT_of {pins : List (Addr × Obj)} {σ : L2.St} {H : Hp} {s : Shared} (I : Inv X pins σ H s) : ∀ {es : List (Addr × Addr × List L2.Key × V)}, (∀ e ∈ es, Pt H e) →
    ∃ prs : List (List L2.Key × Addr × Value), KT H (es.map (·.2.2)) prs ∧ prs.length = es.length ∧ ∀ (j : Nat) (q : List L2.Key × Addr × Value), prs[j]? = some q → ∃ e, es[j]? = some e ∧ s.heap.IsTuple e.1 #[.ref q.2.1, q.2.2]
  | [], _ => ⟨[], .nil, rfl, fun j q e => by simp at e⟩
  | e :: es, h => by
    obtain ⟨prs, r, hl, hp⟩ := pairsT_of I (es := es) fun x hx => h x (List.mem_cons_of_mem _ hx)
    obtain ⟨h1, h2⟩ := h e List.mem_cons_self
    obtain ⟨its, rv, ht, _⟩ := I.tuple (SqT.of h1)
    obtain ⟨u, y, ei, ru, ry⟩ := vals2 rv
    subst ei
    cases (show u = Value.ref e.2.1 from ru)
    obtain ⟨o, ho, hc, n, hd⟩ := ht
    refine ⟨(e.2.2.1, e.2.1, y) :: prs, .cons ⟨rfl, h2, ry⟩ r, by rw [List.length_cons, List.length_cons, hl], fun j q z => ?_⟩
    cases j with
    | zero =>
      have e' : (e.2.2.1, e.2.1, y) = q := Option.some.inj z
      subst e'
      exact ⟨e, rfl, ⟨o, ho, hc, n, hd⟩⟩
    | succ j =>
      obtain ⟨e', e1, e2⟩ := hp j q (by simpa using z)
      exact ⟨e', by simpa using e1, e2⟩
/-- dict(xs) of a list of pairs (tuple, value) -/
theorem call_dictPT (hcalm : X.calm = true) (hu : X.A.units + 64 < cLine) : CallR X (.type "dict") (fun xs H Q => ∃ (a : Addr) (es : List (Addr × Addr × List L2.Key × V)), xs = [.ref a] ∧ SqL X.K H a (es.map fun e => V.ref e.1) ∧ (∀ e ∈ es, Pt H e) ∧
    ∀ p, H p = none → Q (.ref p) (upd H p (.dT (mergeT [] (es.map (·.2.2)))))) := by
  intro pins s σ H xs us Q I r q
  obtain ⟨a, es, ex, hq, hp, q⟩ := q
  subst ex
  obtain ⟨u, eu, rx⟩ := vals1 r
  subst eu
  cases rx
  obtain ⟨its, rv, pl, hz⟩ := I.list hq
  have ei : its = (es.map (·.1)).map Value.ref := refs_at (by rw [List.map_map]; exact rv)
  subst ei
  rw [List.length_map] at hz
  obtain ⟨prs, rel, hl, hpr⟩ := pairsT_of I hp
  obtain ⟨o, n, ho, hc, hd, hdat⟩ := pl
  have P := PairArg.list (prog := X.prog) (w := X.w) a (((es.map (·.1)).map Value.ref).toArray) (fun j => ((es.map (·.1)).getD j 0)) (prs.map fun q => (Value.ref q.2.1, q.2.2))
  refine call_dict_pairsH (knd := tupleKind (mixKind X.prog X.w)) (ps := prs) P (I.ok.hd hcalm) (tupleKind_room_in1 (by show X.A.units + 1 + 1 < cLine; omega)) ⟨⟨o, n, ho, hc, hd, hdat⟩, ?_, fun j k v hj => ?_⟩ ⟨by rw [List.length_map], fun i key v hr => ?_⟩ (fun h' hk x hx => ?_) (by rw [List.length_map, hl]; exact hz) fun h' tk hd' hk => ?_
  · simp [hl]
  · rw [List.getElem?_map] at hj
    obtain ⟨q', hq', ee⟩ := Option.map_eq_some_iff.mp hj
    obtain ⟨e, he, ht⟩ := hpr j q' hq'
    injection ee with e1 e2
    subst e1 e2
    have hg : (es.map (·.1)).getD j 0 = e.1 := by simp [List.getD, he]
    show _ = some (Value.ref ((es.map (·.1)).getD j 0)) ∧ PairAt s.heap ((es.map (·.1)).getD j 0) _ _
    rw [hg]
    exact ⟨by simp [he], .inl ht⟩
  · have hr' : (prs.map fun q => (Value.ref q.2.1, q.2.2))[i]? = some (key, v) := hr
    rw [List.getElem?_map] at hr'
    obtain ⟨q', hq', ee⟩ := Option.map_eq_some_iff.mp hr'
    injection ee with e1 e2
    exact ⟨q'.1, q'.2.1, by rw [hq', ← e2], e1.symm⟩
  · have all : ∀ {l : List (List L2.Key × V)} {m : List (List L2.Key × Addr × Value)}, KT H l m → ∀ x ∈ m, H x.2.1 = some (.tup (x.1.map kV)) := by
      intro l m q
      induction q with
      | nil => intro x hx; exact nomatch hx
      | @cons p q ps qs hq t ih =>
        intro x hx
        rcases List.mem_cons.mp hx with e | hx
        · subst e; rw [← hq.1]; exact hq.2.1
        · exact ih x hx
    obtain ⟨o2, i2, n2, ho2, r2⟩ := key_of I.hok (all rel x hx)
    exact ⟨o2, i2, n2, hk _ _ (Nat.ne_of_lt (Heap.lt_size ho2)) (by simp) ho2, r2⟩
  · have hm : (s.heap.objs.size == sysModules) = false := beq_eq_false_iff_ne.mpr (Nat.ne_of_gt I.big)
    have hlen : (mergeT [] (es.map (·.2.2))).length ≤ sizeLine := by
      refine Nat.le_trans (length_mergeT _ []) ?_
      rw [List.length_nil, Nat.zero_add, List.length_map]
      exact hz
    obtain ⟨q2, es2, ep2, hq2, g2, g3, g4, _, g5⟩ := hd'
    have fr : H s.heap.objs.size = none := I.hok.fresh (Nat.le_refl _)
    refine ⟨.ref s.heap.objs.size, upd H s.heap.objs.size (.dT (mergeT [] (es.map (·.2.2)))), I.laid (t' := tk) (fun b o e => hk b o (by simp) e) (Nat.le_refl _) (show ObjOk X.prog X.w _ _ _ (.dT (mergeT [] (es.map (·.2.2)))) from ⟨hlen, hm, _, (KT_merge rel .nil).keeps fun c ys ec => ?_, q2, es2, ep2, hq2, g2, g3, g4, g5⟩), rfl, q _ fr⟩
    rw [upd_ne (fun z => by rw [z, fr] at ec; cases ec)]
    exact ec
end
/-! ### the orders -/
theorem datLt_leL : ∀ a b : List Int, PySem.W.listLt a b = true ↔ ¬ leL b a
  | [], [] => by simp [PySem.W.listLt, leL]
  | [], _ :: _ => by simp [PySem.W.listLt, leL]
  | _ :: _, [] => by simp [PySem.W.listLt, leL]
  | x :: xs, y :: ys => by
    rw [PySem.W.listLt, leL]
    by_cases h : x = y
    · rw [if_pos h, datLt_leL xs ys]
      subst h
      constructor
      · rintro h1 (h2 | ⟨_, h2⟩)
        · omega
        · exact h1 h2
      · intro h1 h2
        exact h1 (.inr ⟨rfl, h2⟩)
    · rw [if_neg h]
      show decide (x < y) = true ↔ _
      rw [decide_eq_true_eq]
      constructor
      · rintro h1 (h2 | ⟨h2, _⟩) <;> omega
      · intro h1
        have : ¬ y < x := fun z => h1 (.inl z)
        omega
def encB (p : Int × List Int) : Int × PySem.W.Tup Int := (p.1, ⟨p.2⟩)
theorem datLt_leB (p q : Int × List Int) : PySem.W.DatumOrd.lt (encB p) (encB q) = true ↔ ¬ leB q p := by
  show (if p.1 = q.1 then PySem.W.listLt p.2 q.2 else decide (p.1 < q.1)) = true ↔ _
  unfold leB
  by_cases h : p.1 = q.1
  · rw [if_pos h, datLt_leL]
    constructor
    · rintro h1 (h2 | ⟨_, h2⟩)
      · omega
      · exact h1 h2
    · intro h1 h2
      exact h1 (.inr ⟨h.symm, h2⟩)
  · rw [if_neg h, decide_eq_true_eq]
    constructor
    · rintro h1 (h2 | ⟨h2, _⟩) <;> omega
    · intro h1
      have : ¬ q.1 < p.1 := fun z => h1 (.inl z)
      omega
theorem minOf_leB : ∀ (ps : List (Int × List Int)) (p : Int × List Int), ∃ m ∈ p :: ps, PySem.W.minOf (encB p) (ps.map encB) = encB m ∧ ∀ q ∈ p :: ps, leB m q
  | [], p => ⟨p, List.mem_cons_self, rfl, fun q hq => by rw [List.mem_singleton.mp hq]; exact leB_refl _⟩
  | q :: ps, p => by
    have e : PySem.W.minOf (encB p) ((q :: ps).map encB) = PySem.W.minOf (if PySem.W.DatumOrd.lt (encB q) (encB p) = true then encB q else encB p) (ps.map encB) := rfl
    rw [e]
    by_cases h : PySem.W.DatumOrd.lt (encB q) (encB p) = true
    · rw [if_pos h]
      have hl := (datLt_leB q p).mp h
      obtain ⟨m, h1, h2, h3⟩ := minOf_leB ps q
      refine ⟨m, List.mem_cons_of_mem _ h1, h2, fun r hr => ?_⟩
      rcases List.mem_cons.mp hr with rfl | hr
      · exact leB_trans (h3 q List.mem_cons_self) ((leB_total q r).resolve_right hl)
      · exact h3 r hr
    · rw [if_neg h]
      have hl : leB p q := Classical.byContradiction fun z => h ((datLt_leB q p).mpr z)
      obtain ⟨m, h1, h2, h3⟩ := minOf_leB ps p
      refine ⟨m, ?_, h2, fun r hr => ?_⟩
      · rcases List.mem_cons.mp h1 with z | z
        · exact z ▸ List.mem_cons_self
        · exact List.mem_cons_of_mem _ (List.mem_cons_of_mem _ z)
      · rcases List.mem_cons.mp hr with rfl | hr
        · exact h3 r List.mem_cons_self
        · rcases List.mem_cons.mp hr with rfl | hr
          · exact leB_trans (h3 p List.mem_cons_self) hl
          · exact h3 r (List.mem_cons_of_mem _ hr)
theorem encB_inj {p q : Int × List Int} (h : encB p = encB q) : p = q := by
  unfold encB at h
  injection h with h1 h2
  injection h2 with h2
  exact Prod.ext h1 h2
section
variable {X : Cx}
theorem reads_ints {pins : List (Addr × Obj)} {σ : L2.St} {H : Hp} {s : Shared} (I : Inv X pins σ H s) {b : Addr} {xs : List Int} (h : SqT X.K H b (xs.map V.int)) : Dp X.K H (.ref b) (.tuple (xs.map PyData.int)) := by
  refine .tup h ?_
  induction xs with
  | nil => exact .nil
  | cons x xs ih => exact .cons (.int x) (by clear h ih; induction xs with | nil => exact .nil | cons y ys ih => exact .cons (.int y) ih)
/-- a pair of an int and a tuple of ints -/
def BpR (K : PySem.W.Frag) (H : Hp) (v : V) (p : Int × List Int) : Prop := ∃ t b, v = .ref t ∧ H t = some (.tup [.int p.1, .ref b]) ∧ H b = some (.tup (p.2.map V.int))
def rMinB (K : PySem.W.Frag) : List V → Hp → VK → Prop := fun vs H Q => ∃ (a : Addr) (zs : List (V × Int × List Int)), vs = [.ref a] ∧ SqL K H a (zs.map (·.1)) ∧ zs ≠ [] ∧ (∀ z ∈ zs, BpR K H z.1 z.2) ∧
  ∀ z ∈ zs, (∀ y ∈ zs, leB z.2 y.2) → Q z.1 H
theorem cr_minB (hc : X.calm = true) (hu : X.A.units + 64 < cLine) : CallR X (.builtin "min") (rMinB X.K) := by
  intro pins s σ H vs us Q I r h
  obtain ⟨a, zs, rfl, hs, hne, hg, q⟩ := h
  obtain ⟨its, rv, hl, _⟩ := I.list hs
  rw [Vals.ref1 r]
  have rd : ∀ z ∈ zs, ∀ u, RelV z.1 u → PySem.W.Holds s.heap u (encB z.2) := fun z hz u ru => by
    obtain ⟨p, b, e, h1, h2⟩ := hg z hz
    rw [e] at ru
    obtain ⟨as, ra⟩ := Dp.reads I (.tuple [.int z.2.1, .tuple (z.2.2.map PyData.int)]) _ u (.tup (SqT.of h1) (.cons (.int _) (.cons (reads_ints I (SqT.of h2)) .nil))) ru
    exact ⟨as, ra⟩
  have ha : ∀ {ys : List (V × Int × List Int)} {us : List Value}, (∀ y ∈ ys, y ∈ zs) → Vals (ys.map (·.1)) us → PySem.W.HoldAll s.heap us (ys.map fun y => encB y.2) := by
    intro ys
    induction ys with
    | nil => intro us _ rv; cases rv; exact PySem.W.HoldAll.nil
    | cons y ys ih =>
      intro us hy rv
      cases rv with
      | cons ry rt => exact PySem.W.HoldAll.cons (rd y (hy y List.mem_cons_self) _ ry) (ih (fun z hz => hy z (List.mem_cons_of_mem _ hz)) rt)
  cases zs with
  | nil => exact absurd rfl hne
  | cons x xs =>
    have hA := ha (fun _ h => h) rv
    rw [List.map_cons] at hA
    refine PySem.W.min_list_datum (vs := its.toArray) (x := encB x.2) (xs := xs.map fun y => encB y.2) (I.ok.hd hc) hl.isList (by simpa using hA) (by show X.A.units + 1 + 2 < cLine; omega) fun i v h' tk hi hv hk => ?_
    have hi' : its[i]? = some v := by simpa using hi
    obtain ⟨y, hy, ry⟩ : ∃ y, (x :: xs)[i]? = some y ∧ RelV y.1 v := by
      cases e : (x :: xs)[i]? with
      | some y =>
        obtain ⟨u, hu, ru⟩ := rv.get (i := i) (by rw [List.getElem?_map, e]; rfl)
        rw [hi'] at hu
        cases hu
        exact ⟨y, rfl, ru⟩
      | none => have := rv.none_of (i := i) (by rw [List.getElem?_map, e]; rfl); rw [this] at hi'; cases hi'
    have hm := List.mem_of_getElem? hy
    have h1 := (rd y hm v ry).keeps hk
    obtain ⟨m, m1, m2, m3⟩ := minOf_leB (xs.map (·.2)) x.2
    rw [List.map_map] at m2
    have hv' : PySem.W.Holds h' v (encB m) := m2 ▸ hv
    obtain ⟨as1, r1⟩ := h1
    obtain ⟨as2, r2⟩ := hv'
    have e12 : PySem.W.Datum.toD (encB y.2) = PySem.W.Datum.toD (encB m) := (PySem.Reads.unique r1 _ _ r2).1
    have e3 : encB y.2 = encB m := by
      have := PySem.W.Datum.eqv (encB y.2) (encB m)
      rw [e12, PySem.W.Datum.eqv (encB m) (encB m)] at this
      simpa using this.symm
    have e4 := encB_inj e3
    exact ⟨y.1, H, I.kept hk, ry, q y hm fun z hz => by
      rw [e4]
      refine m3 z.2 ?_
      show z.2 ∈ (x :: xs).map (·.2)
      exact List.mem_map.mpr ⟨z, hz, rfl⟩⟩
/-! ### sorted of a list of tuples of ints -/
def rSortD (K : PySem.W.Frag) : List V → Hp → VK → Prop := fun vs H Q => ∃ (a : Addr) (zs : List (V × List Int)), vs = [.ref a] ∧ SqL K H a (zs.map (·.1)) ∧ ((∀ z ∈ zs, z.2 ≠ []) ∨ ∃ v, zs = [(v, [])]) ∧ (∀ z ∈ zs, ∃ b, z.1 = .ref b ∧ SqT K H b (z.2.map V.int)) ∧
  ∀ (p : Addr) (ys : List (V × List Int)), ys.Perm zs → ys.Pairwise (fun x y => leL x.2 y.2) → H p = none → Q (.ref p) (upd H p (.lst (ys.map (·.1))))
theorem dataLe_leL {β : Type} (f : β → List Int) (x y : β) : PySem.W.dataLe false (fun z : β => PyData.tuple ((f z).map PyData.int)) x y = true ↔ leL (f x) (f y) := by
  rw [PySem.W.dataLe_eq]
  show (!PySem.W.dataLt (.tuple ((f y).map PyData.int)) (.tuple ((f x).map PyData.int))) = true ↔ _
  have h : PySem.W.dataLt (.tuple ((f y).map PyData.int)) (.tuple ((f x).map PyData.int)) = PySem.W.listLt (f y) (f x) := (PySem.W.DatumOrd.lt_eq (α := PySem.W.Tup Int) ⟨f y⟩ ⟨f x⟩)
  rw [h, Bool.not_eq_true', ← Bool.not_eq_true, datLt_leL]
  exact Classical.not_not
def hdF (z : V × List Int) : List Int := if z.2 = [] then [0] else z.2
theorem cr_sortedD (hu : X.A.units + 64 < cLine) : CallR X (.builtin "sorted") (rSortD X.K) := by
  intro pins s σ H vs us Q I r h
  obtain ⟨a, zs, rfl, hs, hne, hg, q⟩ := h
  obtain ⟨its, rv, hl, hz⟩ := I.list hs
  rw [Vals.ref1 r]
  rcases hne with hne | ⟨v0, rfl⟩
  case inr =>
    obtain ⟨b, e0, hb⟩ := hg (v0, []) List.mem_cons_self
    have e0 : v0 = .ref b := e0
    subst e0
    obtain ⟨it2, rv2, ⟨o, ho, hc, n, hd⟩, _⟩ := I.tuple hb
    have ei : its = [Value.ref b] := refs_at (ps := [b]) rv
    subst ei
    have ei2 : it2 = [] := by
      have := rv2.length
      exact List.eq_nil_of_length_eq_zero (by rw [← this]; rfl)
    subst ei2
    have hk : PyProof.Rows.G.tupKeyC s.heap (fun _ => true) (.ref b) = some [] := by
      unfold PyProof.Rows.G.tupKeyC
      have h1 : PyProof.Rows.G.isTupObj s.heap (.ref b) = true := by
        simp only [PyProof.Rows.G.isTupObj, ho, hc]; decide
      rw [if_pos h1]
      simp only [PyProof.Rows.tupKey, ho, hd]
      rfl
    refine PyProof.Rows.G.sortedG (κ := PyProof.Rows.G.tupKindC s.heap (fun _ => true)) (kd := tuples' true) hl.isList (PyProof.Rows.G.tupKeys (fun v hv => by rw [List.mem_singleton.mp hv]; exact ⟨_, hk⟩)) (fun s₂ k => PyProof.Rows.G.tupC_ltAt (s := s₂) true k) (fun h2 => by simp at h2) hz fun st' hp _ _ => ?_
    have hp2 : (arrOf st').map (·.2) = #[Value.ref b] := by
      have h1 := (Array.perm_iff_toList_perm.mp hp)
      rw [pairsOf_toList] at h1
      have h1 : (arrOf st').toList.Perm [(Value.ref b, Value.ref b)] := h1
      have h2 := List.perm_singleton.mp h1
      apply Array.toList_inj.mp
      rw [Array.toList_map, h2]; rfl
    obtain ⟨ep, he⟩ := PyProof.Rows.sortedAll_at s.heap [Value.ref b] ((arrOf st').map (·.2))
    rw [hp2] at he ⊢
    exact ⟨.ref _, upd H (s.heap.objs.size + 1) (.lst [.ref b]), I.laid (t' := s.toks) (fun _ _ => PyProof.Rows.sortedAll_old) (Nat.le_succ _) ⟨hz, [Value.ref b], ep, rv, he⟩, rfl, q _ [(.ref b, [])] (List.Perm.refl _) (List.pairwise_singleton ..) (I.hok.fresh (Nat.le_succ _))⟩
  case inl =>
  have ee : ∀ z ∈ zs, hdF z = z.2 := fun z hz => if_neg (hne z hz)
  let enc : V × List Int → PyData := fun z => .tuple ((hdF z).map PyData.int)
  have rd : ∀ z ∈ zs, ∀ u, RelV z.1 u → ∃ as, Reads s.heap u (enc z) as := fun z hz u ru => by
    show ∃ as, Reads s.heap u (.tuple ((hdF z).map PyData.int)) as
    rw [ee z hz]
    obtain ⟨b, e, h1⟩ := hg z hz
    rw [e] at ru
    exact Dp.reads I _ _ u (reads_ints I h1) ru
  have each : ∀ {ys : List (V × List Int)} {us : List Value}, (∀ y ∈ ys, y ∈ zs) → Vals (ys.map (·.1)) us → PySem.W.EachIs (fun v (b : V × List Int) => RelV b.1 v) us ys ∧ PySem.W.EachIs (fun v b => ∃ as, Reads s.heap v (enc b) as) us ys := by
    intro ys
    induction ys with
    | nil => intro us _ rv; cases rv; exact ⟨.nil, .nil⟩
    | cons y ys ih =>
      intro us hy rv
      cases rv with
      | cons ry rt =>
        obtain ⟨i1, i2⟩ := ih (fun z hz => hy z (List.mem_cons_of_mem _ hz)) rt
        exact ⟨.cons ry i1, .cons (rd y (hy y List.mem_cons_self) _ ry) i2⟩
  obtain ⟨E1, E2⟩ := each (fun _ h => h) rv
  rw [List.length_map] at hz
  refine PySem.W.sorted_data (vs := its) (bs := zs) (enc := enc) (R := fun v (b : V × List Int) => RelV b.1 v) hl.isList E1 E2 (PySem.W.AllAlike.of fun b b' => ?_) (PySem.W.Sortable.tuples fun b => ?_) hz (fun b hb => ?_) fun out hlo ho => ?_
  · show PySem.W.alike (.tuple _) (.tuple _) = true
    simp only [PySem.W.alike]
    exact PySem.W.alike_ints _ _
  · show ∃ x r, PyData.tuple ((hdF b).map PyData.int) = .tuple (x :: r)
    unfold hdF
    by_cases e : b.2 = []
    · rw [if_pos e]; exact ⟨_, _, rfl⟩
    · rw [if_neg e]
      cases hb : b.2 with
      | nil => exact absurd hb e
      | cons x r => exact ⟨_, _, rfl⟩
  · show X.A.units + 2 + (PyData.tuple _).depth < cLine
    rw [PyData.depth, PySem.W.depth_ints]
    omega
  · obtain ⟨ep, he⟩ := PyProof.Rows.sortedAll_at s.heap its out.toArray
    have vals : ∀ {us : List Value} {ys : List (V × List Int)}, PySem.W.EachIs (fun v (b : V × List Int) => RelV b.1 v) us ys → Vals (ys.map (·.1)) us := by
      intro us ys e
      induction e with
      | nil => exact .nil
      | cons h _ ih => exact .cons h ih
    have hp : (zs.mergeSort (PySem.W.dataLe false enc)).Perm zs := List.mergeSort_perm _ _
    have fits : ((zs.mergeSort (PySem.W.dataLe false enc)).map (·.1)).length ≤ sizeLine := by rw [List.length_map, hp.length_eq]; exact hz
    have hs2 : (zs.mergeSort (PySem.W.dataLe false enc)).Pairwise (fun x y => leL x.2 y.2) := by
      have hd : ∀ a b, PySem.W.dataLe false enc a b = true ↔ leL (hdF a) (hdF b) := fun a b => dataLe_leL hdF a b
      have := List.pairwise_mergeSort (le := PySem.W.dataLe false enc) (fun a b c h1 h2 => (hd a c).mpr (leL_trans ((hd a b).mp h1) ((hd b c).mp h2))) (fun a b => by
        rcases leL_total (hdF a) (hdF b) with z | z
        · rw [(hd a b).mpr z]; rfl
        · rw [(hd b a).mpr z]; simp) zs
      refine List.Pairwise.imp_of_mem (fun {x y} hx hy h => ?_) this
      have h2 := (hd x y).mp h
      rw [ee x (hp.mem_iff.mp hx), ee y (hp.mem_iff.mp hy)] at h2
      exact h2
    exact ⟨.ref _, upd H (s.heap.objs.size + 1) (.lst ((zs.mergeSort (PySem.W.dataLe false enc)).map (·.1))), I.laid (t' := s.toks) (fun _ _ => PyProof.Rows.sortedAll_old) (Nat.le_succ _) ⟨fits, out, ep, vals ho, he⟩, rfl, q _ _ hp hs2 (I.hok.fresh (Nat.le_succ _))⟩
end
end TT
/-! ascending lists by their places -/
namespace TT
open PySem PySem.Spec PyProof.Rows L2 T
theorem asc_idx {ks : List Int} (h : ks.Pairwise (· < ·)) {i j : Nat} {a b : Int} (ha : ks[i]? = some a) (hb : ks[j]? = some b) (l : i < j) : a < b := by
  obtain ⟨hi, ea⟩ := List.getElem?_eq_some_iff.mp ha
  obtain ⟨hj, eb⟩ := List.getElem?_eq_some_iff.mp hb
  have := List.pairwise_iff_getElem.mp h i j hi hj l
  rw [ea, eb] at this
  exact this
theorem asc_inj {ks : List Int} (h : ks.Pairwise (· < ·)) {i j : Nat} {a : Int} (ha : ks[i]? = some a) (hb : ks[j]? = some a) : i = j := by
  rcases Nat.lt_trichotomy i j with l | l | l
  · have := asc_idx h ha hb l; omega
  · exact l
  · have := asc_idx h hb ha l; omega
end TT
/-! lists of rows in the heap -/
namespace TT
open PySem PySem.Spec PyProof.Rows L2 HotX LamX T
/-- rows of ints, each one an object of its own -/
def RS (c : List V → HO) (H : Hp) : List (List Int) → List V → Prop
  | [], vs => vs = []
  | xs :: xss, vs => ∃ r ws, vs = V.ref r :: ws ∧ H r = some (c (xs.map V.int)) ∧ RS c H xss ws
theorem RS.same {c : List V → HO} {H H' : Hp} (e : Same H H') : ∀ {X : List (List Int)} {vs : List V}, RS c H X vs → RS c H' X vs
  | [], _, h => h
  | _ :: _, _, ⟨r, ws, h1, h2, h3⟩ => ⟨r, ws, h1, e _ _ h2, h3.same e⟩
theorem RS.len {c : List V → HO} {H : Hp} : ∀ {X : List (List Int)} {vs : List V}, RS c H X vs → vs.length = X.length
  | [], _, h => by rw [show _ = [] from h]; rfl
  | _ :: _, _, ⟨r, ws, h1, _, h3⟩ => by rw [h1, List.length_cons, List.length_cons, h3.len]
theorem RS.get {c : List V → HO} {H : Hp} : ∀ {X : List (List Int)} {vs : List V}, RS c H X vs → ∀ (i : Nat) v, vs[i]? = some v → ∃ r xs, v = .ref r ∧ X[i]? = some xs ∧ H r = some (c (xs.map V.int))
  | [], _, h, i, v, hv => by rw [show _ = [] from h] at hv; cases hv
  | xs :: X, _, ⟨r, ws, h1, h2, h3⟩, i, v, hv => by
    rw [h1] at hv
    cases i with
    | zero => cases hv; exact ⟨r, xs, rfl, rfl, h2⟩
    | succ i => exact h3.get i v hv
theorem RS.mem {c : List V → HO} {H : Hp} {X : List (List Int)} {vs : List V} (h : RS c H X vs) {v : V} (hv : v ∈ vs) : ∃ r xs, v = .ref r ∧ xs ∈ X ∧ H r = some (c (xs.map V.int)) := by
  obtain ⟨i, hi⟩ := List.getElem?_of_mem hv
  obtain ⟨r, xs, e, g, k⟩ := h.get i v hi
  exact ⟨r, xs, e, List.mem_of_getElem? g, k⟩
theorem RS.app {c : List V → HO} {H : Hp} {Y : List (List Int)} {ws : List V} (g : RS c H Y ws) : ∀ {X : List (List Int)} {vs : List V}, RS c H X vs → RS c H (X ++ Y) (vs ++ ws)
  | [], _, h => by rw [show _ = [] from h]; exact g
  | _ :: _, _, ⟨r, us, h1, h2, h3⟩ => by rw [h1]; exact ⟨r, us ++ ws, rfl, h2, RS.app g h3⟩
theorem RS.one {c : List V → HO} {H : Hp} {r : Addr} {xs : List Int} (h : H r = some (c (xs.map V.int))) : RS c H [xs] [.ref r] := ⟨r, [], rfl, h, rfl⟩
theorem RS.put {c : List V → HO} {H : Hp} {D : Addr} {o : HO} : ∀ {X : List (List Int)} {vs : List V}, RS c H X vs → (∀ r, V.ref r ∈ vs → r ≠ D) → RS c (upd H D o) X vs
  | [], _, h, _ => h
  | _ :: _, _, ⟨r, ws, h1, h2, h3⟩, ne => ⟨r, ws, h1, by rw [upd_ne (ne r (by rw [h1]; exact List.mem_cons_self))]; exact h2, h3.put fun r' hr' => ne r' (by rw [h1]; exact List.mem_cons_of_mem _ hr')⟩
theorem no_ref {xs : List Int} {r : Addr} : V.ref r ∉ xs.map V.int := fun h => by
  obtain ⟨_, _, z⟩ := List.mem_map.mp h
  cases z
/-- a list of rows is none of its rows -/
theorem RS.self {H : Hp} {X : List (List Int)} {vs : List V} {o : Addr} (h : RS .lst H X vs) (ho : H o = some (.lst vs)) : ∀ r, V.ref r ∈ vs → r ≠ o := fun r hr e => by
  obtain ⟨r', xs, e1, _, g⟩ := h.mem hr
  cases e1
  rw [e, ho] at g
  have g := HO.lst.inj (Option.some.inj g)
  rw [g] at hr
  exact no_ref hr
theorem RS.selfT {H : Hp} {X : List (List Int)} {vs ws : List V} {o : Addr} (h : RS .tup H X vs) (ho : H o = some (.lst ws)) : ∀ r, V.ref r ∈ vs → r ≠ o := fun r hr e => by
  obtain ⟨r', xs, e1, _, g⟩ := h.mem hr
  cases e1
  rw [e, ho] at g
  cases g
theorem RS.out {H : Hp} {X : List (List Int)} {vs ws : List V} {o q : Addr} (h : RS .lst H X vs) (ho : H o = some (.lst ws)) (hq : V.ref q ∈ ws) : ∀ r, V.ref r ∈ vs → r ≠ o := fun r hr e => by
  obtain ⟨r', xs, e1, _, g⟩ := h.mem hr
  cases e1
  rw [e, ho] at g
  have g := HO.lst.inj (Option.some.inj g)
  rw [g] at hq
  exact no_ref hq
end TT
/-! lists of rows in the heap; all shapes over a list of keys; for k22, k26, k32, k35 -/
namespace TT
open PySem PySem.Spec PyProof.Rows L2 HotX LamX T
/-! ### all shapes -/
def paired (low : Int) (X Y : List (List Int)) : List (List Int) := X.flatMap fun l => Y.map fun r => low :: (l ++ r.map fun x => low + 1 + x)
theorem flat_len {α β : Type} (f : α → List β) (n : Nat) : ∀ l : List α, (∀ x ∈ l, (f x).length = n) → (l.flatMap f).length = l.length * n
  | [], _ => by simp
  | x :: l, h => by
    rw [List.flatMap_cons, List.length_append, h x List.mem_cons_self, flat_len f n l fun y hy => h y (List.mem_cons_of_mem _ hy), List.length_cons, Nat.succ_mul]
    omega
theorem flat_congr {α β : Type} {f g : α → List β} : ∀ {l : List α}, (∀ x ∈ l, f x = g x) → l.flatMap f = l.flatMap g
  | [], _ => rfl
  | x :: l, h => by rw [List.flatMap_cons, List.flatMap_cons, h x List.mem_cons_self, flat_congr fun y hy => h y (List.mem_cons_of_mem _ hy)]
theorem paired_len {low : Int} {X Y : List (List Int)} : (paired low X Y).length = X.length * Y.length := flat_len _ _ _ fun _ _ => List.length_map _
theorem paired_take {low : Int} {X Y : List (List Int)} {i : Nat} {l : List Int} (h : X[i]? = some l) : paired low (X.take (i + 1)) Y = paired low (X.take i) Y ++ Y.map fun r => low :: (l ++ r.map fun x => low + 1 + x) := by
  unfold paired
  rw [List.take_add_one, h, List.flatMap_append]
  simp
def tabP : Nat → List (List (List Int))
  | 0 => [[[]]]
  | n + 1 => tabP n ++ [(List.range (n + 1)).flatMap fun low => paired (low : Nat) ((tabP n).getD low []) ((tabP n).getD (n - low) [])]
def allP (n : Nat) : List (List Int) := (tabP n).getD n []
theorem tabP_len : ∀ n : Nat, (tabP n).length = n + 1
  | 0 => rfl
  | n + 1 => by show (tabP n ++ [_]).length = _; rw [List.length_append, tabP_len n]; rfl
theorem tabP_get : ∀ {n i : Nat}, i ≤ n → (tabP n)[i]? = some (allP i)
  | 0, i, h => by obtain rfl : i = 0 := by omega
                  rfl
  | n + 1, i, h => by
    by_cases e : i = n + 1
    · subst e
      unfold allP
      rw [List.getD_eq_getElem?_getD, List.getElem?_eq_getElem (by rw [tabP_len]; omega)]; rfl
    · show (tabP n ++ [_])[i]? = _
      rw [List.getElem?_append_left (by rw [tabP_len]; omega), tabP_get (by omega)]
theorem allP_succ (n : Nat) : allP (n + 1) = (List.range (n + 1)).flatMap fun low => paired (low : Nat) (allP low) (allP (n - low)) := by
  unfold allP
  rw [List.getD_eq_getElem?_getD]
  show ((tabP n ++ [_])[n + 1]?).getD [] = _
  rw [List.getElem?_append_right (by rw [tabP_len]; omega), tabP_len, Nat.sub_self]
  show (List.range (n + 1)).flatMap _ = _
  have e : ∀ i, i ≤ n → (tabP n).getD i [] = (tabP i).getD i [] := fun i h => by
    rw [List.getD_eq_getElem?_getD, tabP_get h]; rfl
  refine flat_congr fun low h => ?_
  have := List.mem_range.mp h
  rw [e low (by omega), e (n - low) (by omega)]
theorem tabP_succ (n : Nat) : tabP (n + 1) = tabP n ++ [allP (n + 1)] := by
  have h := tabP_get (n := n + 1) (i := n + 1) (Nat.le_refl _)
  have e : ∃ x, tabP (n + 1) = tabP n ++ [x] := ⟨_, rfl⟩
  obtain ⟨x, e⟩ := e
  rw [e] at h ⊢
  rw [List.getElem?_append_right (by rw [tabP_len]; omega), tabP_len, Nat.sub_self] at h
  rw [Option.some.inj h]
theorem allP_zero : allP 0 = [[]] := rfl
theorem flat_sum {α β : Type} (f : α → List β) : ∀ l : List α, (l.flatMap f).length = (l.map fun x => (f x).length).sum
  | [] => rfl
  | x :: l => by rw [List.flatMap_cons, List.length_append, flat_sum f l]; rfl
theorem allP_len (n : Nat) : (allP (n + 1)).length = ((List.range (n + 1)).map fun low => (allP low).length * (allP (n - low)).length).sum := by
  rw [allP_succ, flat_sum]
  simp only [paired_len]
theorem allP_lens : (allP 0).length = 1 ∧ (allP 1).length = 1 ∧ (allP 2).length = 2 ∧ (allP 3).length = 5 ∧ (allP 4).length = 14 ∧ (allP 5).length = 42 ∧ (allP 6).length = 132 ∧ (allP 7).length = 429 ∧ (allP 8).length = 1430 := by
  have h0 : (allP 0).length = 1 := rfl
  have h1 : (allP 1).length = 1 := by rw [allP_len]; simp [List.range_succ, h0]
  have h2 : (allP 2).length = 2 := by rw [allP_len]; simp [List.range_succ, h0, h1]
  have h3 : (allP 3).length = 5 := by rw [allP_len]; simp [List.range_succ, h0, h1, h2]
  have h4 : (allP 4).length = 14 := by rw [allP_len]; simp [List.range_succ, h0, h1, h2, h3]
  have h5 : (allP 5).length = 42 := by rw [allP_len]; simp [List.range_succ, h0, h1, h2, h3, h4]
  have h6 : (allP 6).length = 132 := by rw [allP_len]; simp [List.range_succ, h0, h1, h2, h3, h4, h5]
  have h7 : (allP 7).length = 429 := by rw [allP_len]; simp [List.range_succ, h0, h1, h2, h3, h4, h5, h6]
  have h8 : (allP 8).length = 1430 := by rw [allP_len]; simp [List.range_succ, h0, h1, h2, h3, h4, h5, h6, h7]
  exact ⟨h0, h1, h2, h3, h4, h5, h6, h7, h8⟩
theorem allP_bd {n : Nat} (h : n ≤ 8) : (allP n).length ≤ 1430 := by
  obtain ⟨h0, h1, h2, h3, h4, h5, h6, h7, h8⟩ := allP_lens
  match n, h with
  | 0, _ => omega
  | 1, _ => omega
  | 2, _ => omega
  | 3, _ => omega
  | 4, _ => omega
  | 5, _ => omega
  | 6, _ => omega
  | 7, _ => omega
  | 8, _ => omega
/-! keys of a tree, each one changed -/
def T.mapK (f : Int → Int) : T → T
  | T.leaf => T.leaf
  | T.node l k r => T.node (T.mapK f l) (f k) (T.mapK f r)
theorem pre_mapK (f : Int → Int) : ∀ t : T, (t.mapK f).pre = t.pre.map f
  | leaf => rfl
  | node l k r => by
    show f k :: ((l.mapK f).pre ++ (r.mapK f).pre) = (k :: (l.pre ++ r.pre)).map f
    rw [pre_mapK f l, pre_mapK f r, List.map_cons, List.map_append]
theorem bst_mapK {f : Int → Int} : ∀ {t : T}, t.bst → (∀ x ∈ t.pre, ∀ y ∈ t.pre, x < y → f x < f y) → (t.mapK f).bst
  | leaf, _, _ => trivial
  | node l k r, b, h => by
    have bl : ∀ z ∈ l.pre, z < k := b.1
    have br : ∀ z ∈ r.pre, k < z := b.2.1
    have hk : k ∈ (node l k r).pre := mem_node.mpr (.inl rfl)
    have hl : ∀ z ∈ l.pre, z ∈ (node l k r).pre := fun z hz => mem_node.mpr (.inr (.inl hz))
    have hr : ∀ z ∈ r.pre, z ∈ (node l k r).pre := fun z hz => mem_node.mpr (.inr (.inr hz))
    refine ⟨fun z hz => ?_, fun z hz => ?_, bst_mapK b.2.2.1 fun x hx y hy => h x (hl x hx) y (hl y hy), bst_mapK b.2.2.2 fun x hx y hy => h x (hr x hx) y (hr y hy)⟩
    · rw [pre_mapK] at hz
      obtain ⟨w, hw, rfl⟩ := List.mem_map.mp hz
      exact h w (hl w hw) k hk (bl w hw)
    · rw [pre_mapK] at hz
      obtain ⟨w, hw, rfl⟩ := List.mem_map.mp hz
      exact h k hk w (hr w hw) (br w hw)
theorem allP_sound : ∀ (n : Nat) {xs : List Int}, xs ∈ allP n → ∃ u : T, u.bst ∧ u.pre = xs ∧ ∀ x, x ∈ u.pre ↔ 0 ≤ x ∧ x < (n : Int)
  | 0, xs, h => by
    rw [allP_zero] at h
    have := List.mem_singleton.mp h
    subst this
    exact ⟨leaf, trivial, rfl, fun x => ⟨fun z => (by cases z), fun z => (by omega)⟩⟩
  | n + 1, xs, h => by
    rw [allP_succ] at h
    obtain ⟨low, hlow, h⟩ := List.mem_flatMap.mp h
    have hlow := List.mem_range.mp hlow
    obtain ⟨l, hl, h⟩ := List.mem_flatMap.mp h
    obtain ⟨r, hr, rfl⟩ := List.mem_map.mp h
    obtain ⟨u, bu, eu, mu⟩ := allP_sound low hl
    obtain ⟨v, bv, ev, mv⟩ := allP_sound (n - low) hr
    have mv' : ∀ z, z ∈ (v.mapK fun x => (low : Int) + 1 + x).pre ↔ (low : Int) + 1 ≤ z ∧ z < (n : Int) + 1 := fun z => by
      rw [pre_mapK, List.mem_map]
      constructor
      · rintro ⟨w, hw, rfl⟩
        have := (mv w).mp hw
        omega
      · intro hz
        exact ⟨z - (low + 1), (mv _).mpr (by omega), by omega⟩
    refine ⟨node u low (v.mapK fun x => (low : Int) + 1 + x), ⟨fun z hz => ?_, fun z hz => ?_, bu, bst_mapK bv fun x _ y _ l => by omega⟩, ?_, fun x => ?_⟩
    · have := (mu z).mp hz; omega
    · have := (mv' z).mp hz; omega
    · show (low : Int) :: (u.pre ++ (v.mapK fun x => (low : Int) + 1 + x).pre) = _
      rw [pre_mapK, eu, ev]
    · rw [mem_node, mu, mv']
      omega
theorem allP_complete : ∀ {t : T} {a : Int} {n : Nat}, t.bst → (∀ x, x ∈ t.pre ↔ a ≤ x ∧ x < a + n) → t.pre.map (fun x => x - a) ∈ allP n
  | leaf, a, n, _, h => by
    have : n = 0 := by
      rcases Nat.eq_zero_or_pos n with e | e
      · exact e
      · have := (h a).mpr (by omega)
        cases this
    subst this
    exact List.mem_singleton.mpr rfl
  | node l k r, a, n, b, h => by
    have bl : ∀ z ∈ l.pre, z < k := b.1
    have br : ∀ z ∈ r.pre, k < z := b.2.1
    have hk := (h k).mp (mem_node.mpr (.inl rfl))
    obtain ⟨m, rfl⟩ : ∃ m, n = m + 1 := ⟨n - 1, by omega⟩
    obtain ⟨low, hlow⟩ : ∃ low : Nat, k = a + low := ⟨(k - a).toNat, by omega⟩
    have ll : low ≤ m := by omega
    have il := allP_complete (t := l) (a := a) (n := low) b.2.2.1 fun x => by
      constructor
      · intro hx
        have := (h x).mp (mem_node.mpr (.inr (.inl hx)))
        have := bl x hx
        omega
      · intro hx
        rcases mem_node.mp ((h x).mpr (by omega)) with e | e | e
        · omega
        · exact e
        · have := br x e; omega
    have ir := allP_complete (t := r) (a := k + 1) (n := m - low) b.2.2.2 fun x => by
      constructor
      · intro hx
        have := (h x).mp (mem_node.mpr (.inr (.inr hx)))
        have := br x hx
        omega
      · intro hx
        rcases mem_node.mp ((h x).mpr (by omega)) with e | e | e
        · omega
        · have := bl x e; omega
        · exact e
    rw [allP_succ]
    refine List.mem_flatMap.mpr ⟨low, List.mem_range.mpr (by omega), List.mem_flatMap.mpr ⟨_, il, List.mem_map.mpr ⟨_, ir, ?_⟩⟩⟩
    show (low : Int) :: (l.pre.map (fun x => x - a) ++ (r.pre.map fun x => x - (k + 1)).map fun x => (low : Int) + 1 + x) = (k :: (l.pre ++ r.pre)).map fun x => x - a
    rw [List.map_cons, List.map_append, List.map_map]
    refine congr (congrArg List.cons (by omega)) (congrArg _ (List.map_congr_left fun x _ => ?_))
    show (low : Int) + 1 + (x - (k + 1)) = x - a
    omega
/-- the shapes over a list, in the law's order -/
def shapesL (ks : List Int) : List (List Int) := (allP ks.length).map fun xs => xs.map fun x => ks.getD x.toNat 0
theorem mem_shapes {ks : List Int} (h : ks.Pairwise (· < ·)) {xs : List Int} : xs ∈ shapesL ks ↔ ∃ t : T, t.bst ∧ t.pre = xs ∧ t.pre.Perm ks := by
  have at' : ∀ {x : Int}, 0 ≤ x → x < (ks.length : Int) → ks[x.toNat]? = some (ks.getD x.toNat 0) := fun {x} h0 h1 => by
    rw [List.getD_eq_getElem?_getD, List.getElem?_eq_getElem (by omega)]; rfl
  have nd : ks.Nodup := h.imp fun z => by omega
  constructor
  · intro hx
    obtain ⟨ps, hp, rfl⟩ := List.mem_map.mp hx
    obtain ⟨u, bu, eu, mu⟩ := allP_sound _ hp
    have b : (u.mapK fun x => ks.getD x.toNat 0).bst := bst_mapK bu fun x hx y hy l => by
      have hx := (mu x).mp hx
      have hy := (mu y).mp hy
      exact asc_idx h (at' hx.1 hx.2) (at' hy.1 hy.2) (by omega)
    refine ⟨_, b, by rw [pre_mapK, eu], (List.perm_ext_iff_of_nodup (nodup_pre b) nd).mpr fun z => ?_⟩
    rw [pre_mapK, List.mem_map]
    constructor
    · rintro ⟨x, hx, rfl⟩
      have hx := (mu x).mp hx
      exact List.mem_of_getElem? (at' hx.1 hx.2)
    · intro hz
      obtain ⟨i, hi⟩ := List.getElem?_of_mem hz
      have li := (List.getElem?_eq_some_iff.mp hi).1
      refine ⟨(i : Int), (mu _).mpr (by omega), ?_⟩
      rw [Int.toNat_natCast, List.getD_eq_getElem?_getD, hi]; rfl
  · rintro ⟨t, b, rfl, p⟩
    have ix : ∀ x ∈ ks, ks[ks.idxOf x]? = some x := fun x hx => by
      have := List.idxOf_lt_length_of_mem hx
      rw [List.getElem?_eq_getElem this, List.getElem_idxOf this]
    have b2 : (t.mapK fun x => (ks.idxOf x : Nat)).bst := bst_mapK b fun x hx y hy l => by
      have hx := ix x (p.mem_iff.mp hx)
      have hy := ix y (p.mem_iff.mp hy)
      rcases Nat.lt_trichotomy (ks.idxOf x) (ks.idxOf y) with g | g | g
      · omega
      · rw [g, hy] at hx; have := Option.some.inj hx; omega
      · have := asc_idx h hy hx g; omega
    have c := allP_complete (a := 0) (n := ks.length) b2 fun z => by
      rw [pre_mapK, List.mem_map]
      constructor
      · rintro ⟨x, hx, rfl⟩
        have := List.idxOf_lt_length_of_mem (p.mem_iff.mp hx)
        omega
      · intro hz
        refine ⟨ks.getD z.toNat 0, p.mem_iff.mpr (List.mem_of_getElem? (at' hz.1 (by omega))), ?_⟩
        have m := List.mem_of_getElem? (at' (x := z) hz.1 (by omega))
        have := asc_inj h (ix _ m) (at' (x := z) hz.1 (by omega))
        omega
    refine List.mem_map.mpr ⟨_, c, ?_⟩
    rw [pre_mapK, List.map_map, List.map_map]
    refine (List.map_congr_left fun x hx => ?_).trans (List.map_id _)
    show ks.getD ((ks.idxOf x : Int) - 0).toNat 0 = x
    rw [Int.sub_zero, Int.toNat_natCast, List.getD_eq_getElem?_getD, ix x (p.mem_iff.mp hx)]; rfl
theorem shapesL_len {ks : List Int} (h : ks.length ≤ 8) : (shapesL ks).length ≤ 1430 := by unfold shapesL; rw [List.length_map]; exact allP_bd h
def RSS (o : Addr) (H : Hp) : List (List (List Int)) → List V → Prop
  | [], vs => vs = []
  | X :: XS, vs => ∃ R ws rs, vs = V.ref R :: ws ∧ R ≠ o ∧ H R = some (.lst rs) ∧ RS .lst H X rs ∧ (∀ r, V.ref r ∈ rs → r ≠ o) ∧ RSS o H XS ws
theorem RSS.same {o : Addr} {H H' : Hp} (e : Same H H') : ∀ {X : List (List (List Int))} {vs : List V}, RSS o H X vs → RSS o H' X vs
  | [], _, h => h
  | _ :: _, _, ⟨R, ws, rs, h1, h2, h3, h4, h5, h6⟩ => ⟨R, ws, rs, h1, h2, e _ _ h3, h4.same e, h5, h6.same e⟩
theorem RSS.put {o : Addr} {H : Hp} {x : HO} : ∀ {X : List (List (List Int))} {vs : List V}, RSS o H X vs → RSS o (upd H o x) X vs
  | [], _, h => h
  | _ :: _, _, ⟨R, ws, rs, h1, h2, h3, h4, h5, h6⟩ => ⟨R, ws, rs, h1, h2, by rw [upd_ne h2]; exact h3, h4.put h5, h5, h6.put⟩
theorem RSS.snoc {o : Addr} {H : Hp} {R : Addr} {Y : List (List Int)} {rs : List V} (h2 : R ≠ o) (h3 : H R = some (.lst rs)) (h4 : RS .lst H Y rs) (h5 : ∀ r, V.ref r ∈ rs → r ≠ o) : ∀ {X : List (List (List Int))} {vs : List V}, RSS o H X vs → RSS o H (X ++ [Y]) (vs ++ [.ref R])
  | [], _, h => by rw [show _ = [] from h]; exact ⟨R, [], rs, rfl, h2, h3, h4, h5, rfl⟩
  | _ :: _, _, ⟨R', ws, rs', g1, g2, g3, g4, g5, g6⟩ => by rw [g1]; exact ⟨R', ws ++ [.ref R], rs', rfl, g2, g3, g4, g5, g6.snoc h2 h3 h4 h5⟩
theorem RSS.len {o : Addr} {H : Hp} : ∀ {X : List (List (List Int))} {vs : List V}, RSS o H X vs → vs.length = X.length
  | [], _, h => by rw [show _ = [] from h]; rfl
  | _ :: _, _, ⟨R, ws, rs, h1, h2, h3, h4, h5, h6⟩ => by rw [h1, List.length_cons, List.length_cons, h6.len]
theorem RSS.get {o : Addr} {H : Hp} : ∀ {X : List (List (List Int))} {vs : List V}, RSS o H X vs → ∀ (i : Nat) Y, X[i]? = some Y → ∃ R rs, vs[i]? = some (.ref R) ∧ H R = some (.lst rs) ∧ RS .lst H Y rs
  | [], _, _, i, Y, hY => by cases hY
  | _ :: _, _, ⟨R, ws, rs, h1, h2, h3, h4, h5, h6⟩, i, Y, hY => by
    rw [h1]
    cases i with
    | zero => cases hY; exact ⟨R, rs, rfl, h3, h4⟩
    | succ i => exact h6.get i Y hY
theorem allP_inner : ∀ (n : Nat) {xs : List Int}, xs ∈ allP n → xs.length = n
  | 0, xs, h => by rw [List.mem_singleton.mp h]; rfl
  | n + 1, xs, h => by
    rw [allP_succ] at h
    obtain ⟨low, hlow, h⟩ := List.mem_flatMap.mp h
    have hlow := List.mem_range.mp hlow
    obtain ⟨l, hl, h⟩ := List.mem_flatMap.mp h
    obtain ⟨r, hr, rfl⟩ := List.mem_map.mp h
    have h1 := allP_inner low hl
    have h2 := allP_inner (n - low) hr
    rw [List.length_cons, List.length_append, List.length_map]
    omega
theorem range_mono {β : Type} {f : Nat → List β} {i : Nat} : ∀ {m : Nat}, i ≤ m → ((List.range i).flatMap f).length ≤ ((List.range m).flatMap f).length
  | 0, h => by obtain rfl : i = 0 := by omega
               exact Nat.le_refl _
  | m + 1, h => by
    by_cases e : i = m + 1
    · subst e; exact Nat.le_refl _
    · have := range_mono (f := f) (i := i) (m := m) (by omega)
      rw [List.range_succ (n := m), List.flatMap_append, List.length_append]
      omega
theorem range_snoc {β : Type} {f : Nat → List β} {i : Nat} : (List.range (i + 1)).flatMap f = (List.range i).flatMap f ++ f i := by
  rw [List.range_succ, List.flatMap_append]
  simp
section
variable {X : Cx} {K : PySem.W.Frag}
theorem pi_listK {tg l : Expr} {tl : TE} (h : X.K = K) (hl : PE X l tl) : PI X tg l (iList K tl) := h ▸ pi_list hl
theorem pi_tupK {tg l : Expr} {tl : TE} (h : X.K = K) (hl : PE X l tl) : PI X tg l (iTup K tl) := h ▸ pi_tup hl
end
/-! ### promises -/
def spPaired (K : PySem.W.Frag) : Sp := fun us H Q _ => ∃ (low : Int) (a b : Addr) (X Y : List (List Int)) (va vb : List V), us = [.int low, .ref a, .ref b] ∧ SqL K H a va ∧ RS .lst H X va ∧ SqL K H b vb ∧ RS .lst H Y vb ∧ X.length * Y.length ≤ 5000 ∧ Y.length ≤ 1430 ∧ (∀ l ∈ X, l.length ≤ 20) ∧ (∀ r ∈ Y, r.length ≤ 20) ∧
  ∀ p ws H', Same H H' → H p = none → H' p = some (.lst ws) → RS .lst H' (paired low X Y) ws → Q (.ref p) H'
def spAllSh (K : PySem.W.Frag) : Sp := fun us H Q _ => ∃ (a : Addr) (ks : List Int), us = [.ref a] ∧ SqL K H a (ks.map V.int) ∧ ks.Pairwise (· < ·) ∧ ks.length ≤ 8 ∧
  ∀ p ws H', Same H H' → H p = none → H' p = some (.lst ws) → RS .tup H' (shapesL ks) ws → Q (.ref p) H'
end TT
/-! all shapes over a list: by their roots, in order; for k32 -/
namespace TT
open PySem PySem.Spec PyProof.Rows L2 HotX LamX T
theorem RS.zip {H : Hp} : ∀ {rows : List (List Int)} {vs : List V}, RS .tup H rows vs → ∃ zs : List (V × List Int), zs.map (·.1) = vs ∧ zs.map (·.2) = rows ∧ ∀ z ∈ zs, ∃ b, z.1 = .ref b ∧ H b = some (.tup (z.2.map V.int))
  | [], _, h => ⟨[], (show _ = [] from h).symm, rfl, fun z hz => by cases hz⟩
  | xs :: rows, _, ⟨r, ws, h1, h2, h3⟩ => by
    obtain ⟨zs, e1, e2, e3⟩ := RS.zip h3
    refine ⟨(.ref r, xs) :: zs, by rw [List.map_cons, e1, h1], by rw [List.map_cons, e2], fun z hz => ?_⟩
    rcases List.mem_cons.mp hz with rfl | hz
    · exact ⟨r, rfl, h2⟩
    · exact e3 z hz
/-- the rows of a root and of two parts -/
def crs (k : Int) (L R : List (List Int)) : List (List Int) := L.flatMap fun l => R.map fun r => k :: (l ++ r)
theorem map_flat {α β γ : Type} (f : β → γ) (g : α → List β) : ∀ l : List α, (l.flatMap g).map f = l.flatMap fun x => (g x).map f
  | [] => rfl
  | x :: l => by rw [List.flatMap_cons, List.map_append, List.flatMap_cons, map_flat f g l]
theorem flat_map {α β γ : Type} (f : α → β) (g : β → List γ) : ∀ l : List α, (l.map f).flatMap g = l.flatMap fun x => g (f x)
  | [] => rfl
  | x :: l => by rw [List.map_cons, List.flatMap_cons, List.flatMap_cons, flat_map f g l]
theorem allP_in {n : Nat} {xs : List Int} (h : xs ∈ allP n) {x : Int} (hx : x ∈ xs) : 0 ≤ x ∧ x < n := by
  obtain ⟨u, _, e, m⟩ := allP_sound _ h
  exact (m x).mp (by rw [e]; exact hx)
theorem shapesL_step {ks : List Int} {n : Nat} (h : ks.length = n + 1) : shapesL ks = (List.range (n + 1)).flatMap fun i => crs (ks.getD i 0) (shapesL (ks.take i)) (shapesL (ks.drop (i + 1))) := by
  unfold shapesL
  rw [h, allP_succ, map_flat]
  refine flat_congr fun i hi => ?_
  have hi := List.mem_range.mp hi
  unfold paired crs
  rw [map_flat, List.length_take, List.length_drop, show min i ks.length = i by omega, show ks.length - (i + 1) = n - i by omega, flat_map]
  refine flat_congr fun l hl => ?_
  rw [List.map_map, List.map_map]
  refine List.map_congr_left fun r hr => ?_
  show ((i : Int) :: (l ++ r.map fun x => (i : Int) + 1 + x)).map (fun x => ks.getD x.toNat 0) = ks.getD i 0 :: (l.map (fun x => (ks.take i).getD x.toNat 0) ++ r.map fun x => (ks.drop (i + 1)).getD x.toNat 0)
  rw [List.map_cons, List.map_append, List.map_map, Int.toNat_natCast]
  refine congrArg _ (congr (congrArg _ (List.map_congr_left fun x hx => ?_)) (List.map_congr_left fun x hx => ?_))
  · have := allP_in hl hx
    rw [List.getD_eq_getElem?_getD, List.getD_eq_getElem?_getD, List.getElem?_take, if_pos (by omega)]
  · have := allP_in hr hx
    show ks.getD ((i : Int) + 1 + x).toNat 0 = _
    rw [List.getD_eq_getElem?_getD, List.getD_eq_getElem?_getD, List.getElem?_drop, show ((i : Int) + 1 + x).toNat = i + 1 + x.toNat by omega]
/-! ### in order -/
def ltL (a b : List Int) : Prop := ¬ leL b a
theorem leL_left : ∀ {l a b : List Int}, leL (l ++ a) (l ++ b) → leL a b
  | [], _, _, h => h
  | x :: l, a, b, h => by
    have h : x < x ∨ (x = x ∧ leL (l ++ a) (l ++ b)) := h
    rcases h with h | h
    · omega
    · exact leL_left h.2
theorem leL_fst : ∀ {l m a b : List Int}, l.length = m.length → leL (l ++ a) (m ++ b) → leL l m
  | [], [], _, _, _, _ => trivial
  | [], _ :: _, _, _, h, _ => by cases h
  | _ :: _, [], _, _, h, _ => by cases h
  | x :: l, y :: m, a, b, e, h => by
    have h : x < y ∨ (x = y ∧ leL (l ++ a) (m ++ b)) := h
    rcases h with h | h
    · exact .inl h
    · exact .inr ⟨h.1, leL_fst (by simpa using e) h.2⟩
theorem shp_len {ks x : List Int} (h : x ∈ shapesL ks) : x.length = ks.length := by
  obtain ⟨ps, hp, rfl⟩ := List.mem_map.mp h
  obtain ⟨u, b, e, m⟩ := allP_sound _ hp
  rw [List.length_map]
  have h1 : (u.pre).Perm ((List.range ks.length).map fun (i : Nat) => (i : Int)) := (List.perm_ext_iff_of_nodup (nodup_pre b) (List.pairwise_map.mpr (List.nodup_range.imp fun h z => h (by omega)))).mpr fun z => by
    rw [m z, List.mem_map]
    constructor
    · intro hz
      exact ⟨z.toNat, List.mem_range.mpr (by omega), by omega⟩
    · rintro ⟨i, hi, rfl⟩
      have := List.mem_range.mp hi
      omega
  have := h1.length_eq
  rw [List.length_map, List.length_range, e] at this
  exact this
theorem shapesL_nil : shapesL [] = [[]] := by decide
theorem shapesL_go : ∀ (N : Nat) {ks : List Int}, ks.length ≤ N → ks.Pairwise (· < ·) → (shapesL ks).Pairwise ltL
  | 0, ks, h, _ => by
    have : ks = [] := List.eq_nil_of_length_eq_zero (by omega)
    subst this
    rw [shapesL_nil]
    exact List.pairwise_singleton _ _
  | N + 1, ks, hN, as => by
    cases hk : ks with
    | nil => rw [shapesL_nil]; exact List.pairwise_singleton _ _
    | cons k0 ks0 =>
    rw [← hk]
    obtain ⟨n, h⟩ : ∃ n, ks.length = n + 1 := ⟨ks0.length, by rw [hk]; rfl⟩
    clear hk
    rw [shapesL_step h]
    have gd : ∀ i, i < n + 1 → ks[i]? = some (ks.getD i 0) := fun i hi => by
      rw [List.getD_eq_getElem?_getD, List.getElem?_eq_getElem (by omega)]; rfl
    refine List.pairwise_flatMap.mpr ⟨fun i hi => ?_, ?_⟩
    · have hi := List.mem_range.mp hi
      unfold crs
      have IL := shapesL_go N (ks := ks.take i) (by rw [List.length_take]; omega) (as.sublist (List.take_sublist ..))
      have IR := shapesL_go N (ks := ks.drop (i + 1)) (by rw [List.length_drop]; omega) (as.sublist (List.drop_sublist ..))
      refine List.pairwise_flatMap.mpr ⟨fun l hl => ?_, ?_⟩
      · refine List.pairwise_map.mpr (IR.imp fun {a b} hab hle => hab ?_)
        have hle : ks.getD i 0 < ks.getD i 0 ∨ (ks.getD i 0 = ks.getD i 0 ∧ leL (l ++ b) (l ++ a)) := hle
        rcases hle with z | z
        · omega
        · exact leL_left z.2
      · refine List.Pairwise.imp_of_mem (fun {l m} hl hm hlm x hx y hy hle => hlm ?_) IL
        obtain ⟨r1, _, rfl⟩ := List.mem_map.mp hx
        obtain ⟨r2, _, rfl⟩ := List.mem_map.mp hy
        have hle : ks.getD i 0 < ks.getD i 0 ∨ (ks.getD i 0 = ks.getD i 0 ∧ leL (m ++ r2) (l ++ r1)) := hle
        rcases hle with z | z
        · omega
        · exact leL_fst (by rw [shp_len hm, shp_len hl]) z.2
    · refine List.Pairwise.imp_of_mem (fun {i j} hi hj hij x hx y hy hle => ?_) List.pairwise_lt_range
      have hi := List.mem_range.mp hi
      have hj := List.mem_range.mp hj
      obtain ⟨l1, _, hx⟩ := List.mem_flatMap.mp hx
      obtain ⟨r1, _, rfl⟩ := List.mem_map.mp hx
      obtain ⟨l2, _, hy⟩ := List.mem_flatMap.mp hy
      obtain ⟨r2, _, rfl⟩ := List.mem_map.mp hy
      have lt := asc_idx as (gd i hi) (gd j hj) hij
      have hle : ks.getD j 0 < ks.getD i 0 ∨ (ks.getD j 0 = ks.getD i 0 ∧ _) := hle
      rcases hle with z | z
      · omega
      · have := z.1; omega
theorem shapesL_asc {ks : List Int} (as : ks.Pairwise (· < ·)) : (shapesL ks).Pairwise ltL := shapesL_go _ (Nat.le_refl _) as
/-- a sorted list of the shapes is the list itself -/
theorem sorted_eq : ∀ {a b : List (List Int)}, a.Pairwise leL → b.Pairwise ltL → a.Perm b → a = b
  | [], b, _, _, p => (List.nil_perm.mp p).symm
  | x :: a, [], _, _, p => by have := p.length_eq; cases this
  | x :: a, y :: b, ha, hb, p => by
    rw [List.pairwise_cons] at ha hb
    have e : x = y := by
      refine leL_anti ?_ ?_
      · rcases List.mem_cons.mp (p.mem_iff.mpr List.mem_cons_self) with z | z
        · rw [z]; exact leL_refl _
        · exact ha.1 y z
      · rcases List.mem_cons.mp (p.mem_iff.mp List.mem_cons_self) with z | z
        · rw [z]; exact leL_refl _
        · exact (leL_total y x).resolve_right (hb.1 x z)
    subst e
    rw [sorted_eq ha.2 hb.2 (List.Perm.cons_inv p)]
theorem zip_sorted {ks : List Int} (as : ks.Pairwise (· < ·)) {zs ys : List (V × List Int)} (e : zs.map (·.2) = shapesL ks) (p : ys.Perm zs) (so : ys.Pairwise fun x y => leL x.2 y.2) : ys.map (·.2) = shapesL ks :=
  sorted_eq (List.pairwise_map.mpr so) (shapesL_asc as) (e ▸ p.map _)
theorem shp_some {ks : List Int} (as : ks.Pairwise (· < ·)) {zs : List (V × List Int)} (e2 : zs.map (·.2) = shapesL ks) : (∀ z ∈ zs, z.2 ≠ []) ∨ ∃ v, zs = [(v, [])] := by
  cases ks with
  | nil =>
    right
    have e : shapesL [] = [[]] := by decide
    rw [e] at e2
    cases zs with
    | nil => cases e2
    | cons z zs =>
      rw [List.map_cons] at e2
      injection e2 with h1 h2
      have h3 : zs = [] := List.map_eq_nil_iff.mp h2
      exact ⟨z.1, by rw [h3, ← h1]⟩
  | cons k ks =>
    left
    intro z hz h
    have m : z.2 ∈ zs.map (·.2) := List.mem_map.mpr ⟨z, hz, rfl⟩
    rw [e2] at m
    obtain ⟨t, b, e, p⟩ := (mem_shapes as).mp m
    rw [e, h] at p
    have := p.length_eq
    cases this
end TT
/-! binomials, as loops hold them -/
namespace TT
open PySem PySem.Spec PyProof.Rows L2 HotX LamX T
/-- what the loop of binomial holds behind k turns -/
def binL (n : Nat) : Nat → Int
  | 0 => 1
  | k + 1 => binL n k * ((n : Int) - k) / ((k : Int) + 1)
theorem binL_bd {n : Nat} : ∀ {k : Nat}, k ≤ n → 0 ≤ binL n k ∧ binL n k ≤ (n : Int) ^ k
  | 0, _ => ⟨by show (0 : Int) ≤ 1; decide, by show (1 : Int) ≤ (n : Int) ^ 0; rw [Int.pow_zero]; exact Int.le_refl _⟩
  | k + 1, h => by
    obtain ⟨h0, h1⟩ := binL_bd (n := n) (k := k) (by omega)
    have m0 : 0 ≤ binL n k * ((n : Int) - k) := Int.mul_nonneg h0 (by omega)
    refine ⟨Int.ediv_nonneg m0 (by omega), ?_⟩
    have a : binL n k * ((n : Int) - k) / ((k : Int) + 1) ≤ binL n k * ((n : Int) - k) := Int.ediv_le_self _ m0
    have b : binL n k * ((n : Int) - k) ≤ binL n k * (n : Int) := Int.mul_le_mul_of_nonneg_left (by omega) h0
    have c : binL n k * (n : Int) ≤ (n : Int) ^ k * (n : Int) := Int.mul_le_mul_of_nonneg_right h1 (by omega)
    rw [Int.pow_succ]
    exact Int.le_trans a (Int.le_trans b c)
def spBin : Sp := fun us H Q _ => ∃ (n c : Nat), us = [.int (n : Int), .int (c : Int)] ∧ c ≤ n ∧ n ≤ 40 ∧ Q (.int (binL n c)) H
theorem binL_wide {n k : Nat} (h : k ≤ n) (l : n ≤ 40) : (binL n k).natAbs < 2 ^ 300 := by
  obtain ⟨c0, c1⟩ := binL_bd (n := n) (k := k) h
  have z1 : n ^ k ≤ 40 ^ k := Nat.pow_le_pow_left l k
  have z2 : (40 : Nat) ^ k ≤ 40 ^ 40 := Nat.pow_le_pow_right (by decide) (by omega)
  have z3 : (40 : Nat) ^ 40 < 2 ^ 300 := by decide +kernel
  have z := Nat.lt_of_le_of_lt (Nat.le_trans z1 z2) z3
  have e : (binL n k).natAbs ≤ n ^ k := by
    rw [← Int.natCast_pow] at c1
    omega
  exact Nat.lt_of_le_of_lt e z
end TT
/-! the number of orders of a row of keys -/
namespace TT
open PySem PySem.Spec PyProof.Rows L2 HotX LamX T
/-- the number of orders of a row of keys -/
def cntN : Nat → List Int → Int
  | 0, _ => 1
  | n + 1, xs => match xs with
    | [] => 1
    | x :: r => binL ((r.filter fun y => decide (y < x)).length + (r.filter fun y => decide (x < y)).length) (r.filter fun y => decide (y < x)).length * cntN n (r.filter fun y => decide (y < x)) * cntN n (r.filter fun y => decide (x < y))
def cntL (xs : List Int) : Int := cntN xs.length xs
theorem cntN_any : ∀ {n m : Nat} {xs : List Int}, xs.length ≤ n → xs.length ≤ m → cntN n xs = cntN m xs
  | 0, 0, _, _, _ => rfl
  | 0, m + 1, [], _, _ => rfl
  | 0, m + 1, _ :: _, h, _ => absurd h (Nat.not_succ_le_zero _)
  | n + 1, 0, [], _, _ => rfl
  | n + 1, 0, _ :: _, _, h => absurd h (Nat.not_succ_le_zero _)
  | n + 1, m + 1, [], _, _ => rfl
  | n + 1, m + 1, x :: r, h, g => by
    have h : r.length ≤ n := Nat.le_of_succ_le_succ h
    have g : r.length ≤ m := Nat.le_of_succ_le_succ g
    have l1 := List.length_filter_le (fun y => decide (y < x)) r
    have l2 := List.length_filter_le (fun y => decide (x < y)) r
    show binL _ _ * cntN n _ * cntN n _ = binL _ _ * cntN m _ * cntN m _
    rw [cntN_any (n := n) (m := m) (xs := r.filter fun y => decide (y < x)) (by omega) (by omega), cntN_any (n := n) (m := m) (xs := r.filter fun y => decide (x < y)) (by omega) (by omega)]
theorem cntL_cons {x : Int} {r : List Int} : cntL (x :: r) = binL ((r.filter fun y => decide (y < x)).length + (r.filter fun y => decide (x < y)).length) (r.filter fun y => decide (y < x)).length * cntL (r.filter fun y => decide (y < x)) * cntL (r.filter fun y => decide (x < y)) := by
  have l1 := List.length_filter_le (fun y => decide (y < x)) r
  have l2 := List.length_filter_le (fun y => decide (x < y)) r
  show binL _ _ * cntN r.length _ * cntN r.length _ = _
  rw [cntN_any (m := (r.filter fun y => decide (y < x)).length) l1 (Nat.le_refl _), cntN_any (m := (r.filter fun y => decide (x < y)).length) l2 (Nat.le_refl _)]
  rfl
theorem parts_len (x : Int) : ∀ r : List Int, (r.filter fun y => decide (y < x)).length + (r.filter fun y => decide (x < y)).length ≤ r.length
  | [] => Nat.le_refl _
  | a :: r => by
    have ih := parts_len x r
    by_cases c : a < x
    · rw [List.filter_cons_of_pos (by simpa using c), List.filter_cons_of_neg (by simp; omega), List.length_cons, List.length_cons]; omega
    · by_cases d : x < a
      · rw [List.filter_cons_of_neg (by simpa using c), List.filter_cons_of_pos (by simpa using d), List.length_cons, List.length_cons]; omega
      · rw [List.filter_cons_of_neg (by simpa using c), List.filter_cons_of_neg (by simpa using d), List.length_cons]; omega
set_option exponentiation.threshold 400 in
/-- at most 300 bits for each key -/
theorem cntN_bd : ∀ {n : Nat} {xs : List Int}, xs.length ≤ 40 → xs.length ≤ n → 0 ≤ cntN n xs ∧ cntN n xs ≤ 2 ^ (300 * xs.length)
  | 0, [], _, _ => ⟨by show (0 : Int) ≤ 1; decide, by show (1 : Int) ≤ 2 ^ (300 * 0); decide⟩
  | 0, _ :: _, _, h => absurd h (Nat.not_succ_le_zero _)
  | n + 1, [], _, _ => ⟨by show (0 : Int) ≤ 1; decide, by show (1 : Int) ≤ 2 ^ (300 * 0); decide⟩
  | n + 1, x :: r, h, g => by
    have h : r.length + 1 ≤ 40 := h
    have g : r.length ≤ n := Nat.le_of_succ_le_succ g
    have l1 := List.length_filter_le (fun y => decide (y < x)) r
    have l2 := List.length_filter_le (fun y => decide (x < y)) r
    have l3 := parts_len x r
    obtain ⟨a0, a1⟩ := cntN_bd (n := n) (xs := r.filter fun y => decide (y < x)) (by omega) (by omega)
    obtain ⟨b0, b1⟩ := cntN_bd (n := n) (xs := r.filter fun y => decide (x < y)) (by omega) (by omega)
    show 0 ≤ binL _ _ * cntN n _ * cntN n _ ∧ binL _ _ * cntN n _ * cntN n _ ≤ 2 ^ (300 * (r.length + 1))
    generalize hp : (r.filter fun y => decide (y < x)).length = p at *
    generalize hq : (r.filter fun y => decide (x < y)).length = q at *
    obtain ⟨c0, c1⟩ := binL_bd (n := p + q) (k := p) (by omega)
    have c2 : binL (p + q) p ≤ 2 ^ 300 := by
      have e1 : (((p + q : Nat) : Int)) ^ p ≤ 2 ^ 300 := by
        have z : (p + q) ^ p ≤ 2 ^ 300 := by
          have z1 : (p + q) ^ p ≤ 40 ^ p := Nat.pow_le_pow_left (by omega) p
          have z2 : (40 : Nat) ^ p ≤ 40 ^ 40 := Nat.pow_le_pow_right (by decide) (by omega)
          have z3 : (40 : Nat) ^ 40 ≤ 2 ^ 300 := by decide +kernel
          exact Nat.le_trans z1 (Nat.le_trans z2 z3)
        have := Int.ofNat_le.mpr z
        rw [Int.natCast_pow, Int.natCast_pow] at this
        exact this
      exact Int.le_trans c1 e1
    refine ⟨Int.mul_nonneg (Int.mul_nonneg c0 a0) b0, ?_⟩
    have s1 : binL (p + q) p * cntN n (r.filter fun y => decide (y < x)) ≤ 2 ^ 300 * 2 ^ (300 * p) := Int.le_trans (Int.mul_le_mul_of_nonneg_right c2 a0) (Int.mul_le_mul_of_nonneg_left a1 (Int.pow_nonneg (by decide)))
    have s2 := Int.le_trans (Int.mul_le_mul_of_nonneg_right s1 b0) (Int.mul_le_mul_of_nonneg_left b1 (Int.mul_nonneg (Int.pow_nonneg (by decide)) (Int.pow_nonneg (by decide))))
    refine Int.le_trans s2 ?_
    rw [← Int.pow_add (2 : Int) 300 (300 * p), ← Int.pow_add (2 : Int) (300 + 300 * p) (300 * q)]
    have z : (2 : Nat) ^ (300 + 300 * p + 300 * q) ≤ 2 ^ (300 * (r.length + 1)) := Nat.pow_le_pow_right (by decide) (by omega)
    have := Int.ofNat_le.mpr z
    rw [Int.natCast_pow, Int.natCast_pow] at this
    exact this
theorem cntL_node {l r : T} {k : Int} (b : (node l k r).bst) : cntL (node l k r).pre = binL (l.pre.length + r.pre.length) l.pre.length * cntL l.pre * cntL r.pre := by
  have bl : ∀ z ∈ l.pre, z < k := b.1
  have br : ∀ z ∈ r.pre, k < z := b.2.1
  show cntL (k :: (l.pre ++ r.pre)) = _
  rw [cntL_cons, List.filter_append, List.filter_append]
  rw [List.filter_eq_self.mpr fun x hx => decide_eq_true (bl x hx), (List.filter_eq_nil_iff (l := r.pre)).mpr fun x hx => by have := br x hx; simp; omega, List.append_nil]
  rw [(List.filter_eq_nil_iff (l := l.pre)).mpr fun x hx => by have := bl x hx; simp; omega, List.filter_eq_self.mpr fun x hx => decide_eq_true (br x hx), List.nil_append]
theorem cntL_wide {xs : List Int} (h : xs.length ≤ 40) {b : Nat} (hb : 300 * xs.length < b) : (cntL xs).natAbs < 2 ^ b := by
  obtain ⟨c0, c1⟩ := cntN_bd (n := xs.length) h (Nat.le_refl _)
  have c0 : 0 ≤ cntL xs := c0
  have c1 : cntL xs ≤ (2 : Int) ^ (300 * xs.length) := c1
  have e : ((2 : Int) ^ (300 * xs.length)) = ((2 ^ (300 * xs.length) : Nat) : Int) := by rw [Int.natCast_pow]; rfl
  rw [e] at c1
  have lt := Nat.pow_lt_pow_right (a := 2) (by decide) hb
  generalize (2 ^ (300 * xs.length) : Nat) = z at c1 lt
  exact Nat.lt_of_le_of_lt (by omega) lt
/-! ### promises -/
def spCntO (K : PySem.W.Frag) (n : Nat) : Sp := fun vs H Q _ => ∃ (a : Addr) (t : T), vs = [.ref a] ∧ SqT K H a (t.pre.map V.int) ∧ t.bst ∧ t.pre.length < n ∧ t.pre.length ≤ 40 ∧ ∀ H', Same H H' → Q (.int (cntL t.pre)) H'
def spBuilds (K : PySem.W.Frag) (n : Nat) : Sp := fun vs H Q _ => ∃ (a : Addr) (xs : List Int), vs = [.ref a] ∧ SqL K H a (xs.map V.int) ∧ xs.length < n ∧ xs.length ≤ 40 ∧ ∀ H', Same H H' → Q (.int (cntL xs)) H'
end TT
/-! sorted(d.items()) of a dict of ints; for k05 -/
namespace TT
open PySem PySem.Spec PyProof.Rows L2 L2.DX
abbrev entI (e : Int × Int) : L2.Key × V := (Sum.inl e.1, V.int e.2)
def rItemsI : V → List V → Hp → VK → Prop := fun x xs H Q => ∃ (a : Addr) (kvs : List (L2.Key × V)), x = .ref a ∧ xs = [] ∧ H a = some (.dK kvs) ∧ ∀ p, H p = none → Q (.ref p) (upd H p (itemsO p a))
theorem mt_itemsI {X : Cx} : MtR X "dict.items" rItemsI := by
  intro pins s σ H x xs v us Q I rx rxs h
  obtain ⟨a, kvs, rfl, rfl, ha, q⟩ := h
  cases rx
  cases rxs
  obtain ⟨z, hd, vs', rel, o, es, ep, ho, hx, hdat, _⟩ := dk_of I.hok ha
  refine DT.callItems (es := es) (ep := ep) hd ⟨o, ho, hx, hdat⟩ ?_
  have hf : H s.heap.objs.size = none := I.hok.fresh (Nat.le_refl _)
  exact ⟨.ref s.heap.objs.size, upd H s.heap.objs.size (itemsO s.heap.objs.size a), I.laid (t' := s.toks) (fun b u e => Heap.get?_push_of_some _ e) (Nat.le_refl _) (itemsO_ok (Heap.get?_push_size _ rfl)), rfl, q _ hf⟩
theorem pairs_get {prog : Program} {w : World} {K : Type} [DecidableEq K] {knd : KeyKind prog w K} : ∀ {es : List DictEntry} {kvs : List (K × Value)} {j : Nat} {e : DictEntry}, Pairs knd es kvs → es[j]? = some e → ∃ kv, kvs[j]? = some kv ∧ knd.is kv.1 e.key = true ∧ e.val = kv.2
  | _, _, j, e, .nil, h => by simp at h
  | _, _, 0, e, .cons (kv := kv) h1 h2 _, h => by
    simp only [List.getElem?_cons_zero] at h
    cases h
    exact ⟨kv, rfl, h1, h2⟩
  | _, _, j + 1, e, .cons h1 h2 t, h => by
    simp only [List.getElem?_cons_succ] at h
    obtain ⟨kv, g1, g2⟩ := pairs_get t h
    exact ⟨kv, by rw [List.getElem?_cons_succ]; exact g1, g2⟩
/-- pairs by their first ints -/
def leF (e f : Int × Int) : Prop := e.1 ≤ f.1
def rSortItI : List V → Hp → VK → Prop := fun vs H Q => ∃ (p a : Addr) (ks : List (Int × Int)), vs = [.ref p] ∧ H p = some (itemsO p a) ∧ H a = some (.dK (ks.map entI)) ∧
  ∀ (H' : Hp) (l : Addr) (zs : List Addr) (kk : Addr → Int × Int), Same H H' → (zs.map kk).Perm ks → (zs.map kk).Pairwise (fun e f => e.1 ≤ f.1) → H' l = some (.lst (zs.map V.ref)) → (∀ b ∈ zs, H' b = some (.tup [.int (kk b).1, .int (kk b).2])) → H l = none → Q (.ref l) H'
theorem lex_fst {x y : Int × Int} (h : SrtO.lexB y x = false) : x.1 ≤ y.1 := by
  rcases Int.lt_or_le y.1 x.1 with l | l
  · have := SrtO.lexB_iff.mpr (.inl l : y.1 < x.1 ∨ (y.1 = x.1 ∧ y.2 < x.2))
    rw [this] at h; cases h
  · exact l
theorem cr_sortedItI {X : Cx} (hc : X.calm = true) : CallR X (.builtin "sorted") rSortItI := by
  intro pins s σ H xs us Q I r h
  obtain ⟨p, a, ks, rfl, hp, ha, q⟩ := h
  obtain rfl := Vals.ref1 r
  have view : s.heap.IsItemsView p a := (show ObjOk X.prog X.w H s.heap p (itemsO p a) from I.hok p _ hp).1
  obtain ⟨z, hd, vs', rel, o, es, ep, ho, hx, hdat, hko, hps, hn⟩ := dk_of I.hok ha
  have l1 : (ks.map entI).length = vs'.length := Paired.length rel
  rw [List.length_map] at l1 z
  have l2 : es.toList.length = vs'.length := hps.length
  rw [Array.length_toList] at l2
  have hh : X.A.handled = none := I.ok.hd hc
  refine DT.sortedI (es := es) (ep := ep) hh view ⟨o, ho, hx, hdat⟩ (by omega) fun h' tk as hk hlt hl hG => ?_
  have lak : as.length = ks.length := by omega
  have nd : as.Nodup := List.Pairwise.imp (fun h => Nat.ne_of_lt h) hG.rise
  have pr : ∀ (j : Nat) (b : Addr), as[j]? = some b → ∃ (e : Int × Int) (t u : Tok), ks[j]? = some e ∧ h'.get? b = some { cls := .type "tuple", data := .seq #[Value.int e.1 t, Value.int e.2 u] } := by
    intro j b hj
    obtain ⟨en, he, hg⟩ := hG.pairs j b hj
    rw [← Array.getElem?_toList] at he
    obtain ⟨kv, hkv, his, hval⟩ := pairs_get hps he
    obtain ⟨e0, he0, r1, r2⟩ := pget rel hkv
    rw [List.getElem?_map] at he0
    obtain ⟨e, hje, rfl⟩ := Option.map_eq_some_iff.mp he0
    have r1 : Sum.inl e.1 = kv.1 := r1
    rw [← r1] at his
    obtain ⟨u, eu⟩ : ∃ u, kv.2 = Value.int e.2 u := r2
    rw [mixKind_is] at his
    rcases keyIs_shape his with ⟨i, t, e1, e2⟩ | ⟨x, t, e1, e2⟩
    · cases e1
      exact ⟨e, t, u, hje, by rw [hg, e2, hval, eu]⟩
    · cases e1
  obtain ⟨kk, hkk⟩ : ∃ kk : Addr → Int × Int, ∀ (j : Nat) (b : Addr) (e : Int × Int), as[j]? = some b → ks[j]? = some e → kk b = e := by
    refine ⟨fun b => (ks[as.idxOf b]?).getD (0, 0), fun j b e hj he => ?_⟩
    have hb := List.mem_of_getElem? hj
    have lt := List.idxOf_lt_length_of_mem hb
    have e1 : as[as.idxOf b]? = some b := by rw [List.getElem?_eq_getElem lt, List.getElem_idxOf lt]
    have : as.idxOf b = j := (List.getElem?_inj lt nd).mp (e1.trans hj.symm)
    show (ks[as.idxOf b]?).getD (0, 0) = e
    rw [this, he]; rfl
  have emap : as.map kk = ks := by
    refine List.ext_getElem? fun j => ?_
    rw [List.getElem?_map]
    cases hj : as[j]? with
    | none =>
      have : as.length ≤ j := List.getElem?_eq_none_iff.mp hj
      rw [List.getElem?_eq_none_iff.mpr (by omega)]; rfl
    | some b =>
      obtain ⟨e, _, _, he, _⟩ := pr j b hj
      rw [he]
      exact congrArg some (hkk j b e hj he)
  have prb : ∀ b ∈ as, ∃ t u : Tok, h'.get? b = some { cls := .type "tuple", data := .seq #[Value.int (kk b).1 t, Value.int (kk b).2 u] } := by
    intro b hb
    obtain ⟨j, hj⟩ := List.mem_iff_getElem?.mp hb
    obtain ⟨e, t, u, he, hg⟩ := pr j b hj
    exact ⟨t, u, by rw [hkk j b e hj he]; exact hg⟩
  -- the heap of the sort
  have hob : (h'.push { cls := .type "list", data := .seq (as.map Value.ref).toArray }).get? h'.objs.size = some (seqObj "list" (as.map Value.ref).toArray 0) := Heap.get?_push_size _ rfl
  have ne0 : ∀ b o, h'.get? b = some o → b ≠ h'.objs.size := fun b o e => Nat.ne_of_lt (Heap.lt_size e)
  have ka : ∀ b o, h'.get? b = some o → (h'.push { cls := .type "list", data := .seq (as.map Value.ref).toArray }).get? b = some o := fun b o e => Heap.get?_push_of_some _ e
  generalize hh2 : h'.push { cls := .type "list", data := .seq (as.map Value.ref).toArray } = h2 at hob ka ⊢
  have kb : ∀ b o, s.heap.get? b = some o → h2.get? b = some o := fun b o e => ka b o (hk b o e)
  have hp2 : ∀ v ∈ as.map Value.ref, Srt.IsPair h2 v (kk (DT.refOf (some v))).1 (kk (DT.refOf (some v))).2 := by
    intro v hv
    obtain ⟨b, hb, rfl⟩ := List.mem_map.mp hv
    obtain ⟨t, u, hg⟩ := prb b hb
    exact ⟨b, _, t, u, _, rfl, ka _ _ hg, rfl, rfl⟩
  refine wpAny_call_entry PyProof.Rows.slot_list_sort ⟨_, hob, rfl⟩ PyProof.Rows.entry_list_sort
    (SrtO.list_sort_ord (s := { s with heap := h2, toks := tk }) (SrtO.swo_lex fun v => kk (DT.refOf (some v))) hob (by rw [List.length_map]; omega) (fun h3 => SrtO.pairs_sortableO (by omega) hp2 fun o e => ?_) fun out h1 h3 => ⟨.none, rfl, ?_⟩) (PyProof.Rows.args_list_sort _)
  · have e' : some o = some (seqObj "list" (as.map Value.ref).toArray 0) := e.symm.trans hob
    cases e'
    intro c
    exact absurd (Value.type.inj c) (by decide)
  · show EP X pins σ Q (.ref h'.objs.size) { s with heap := sortedHeap h2 h'.objs.size (as.map Value.ref) out.toArray, toks := tk }
    have pm := h3.perm
    obtain ⟨zs, ez⟩ : ∃ zs : List Addr, out = zs.map Value.ref := by
      refine ⟨out.map fun v => DT.refOf (some v), ?_⟩
      rw [List.map_map]
      refine (List.map_id' out).symm.trans (List.map_congr_left fun v hv => ?_)
      obtain ⟨b, _, rfl⟩ := List.mem_map.mp (pm.mem_iff.mp hv)
      rfl
    subst ez
    have pz : zs.Perm as := by
      have := pm.map fun v => DT.refOf (some v)
      rw [List.map_map, List.map_map] at this
      have ei : ∀ l : List Addr, l.map ((fun v => DT.refOf (some v)) ∘ Value.ref) = l := fun l => List.map_id' l
      rw [ei, ei] at this
      exact this
    have sz' : (zs.map kk).Pairwise (fun e f => e.1 ≤ f.1) := by
      have h1 : (zs.map Value.ref).Pairwise _ := h1
      rw [List.pairwise_map] at h1 ⊢
      exact h1.imp fun {x y} g => lex_fst g
    have kF : ∀ b o, b ≠ h'.objs.size → h2.get? b = some o → (sortedHeap h2 h'.objs.size (as.map Value.ref) (zs.map Value.ref).toArray).get? b = some o := fun b o hb e => (PyProof.Rows.sortedHeap_old hb (Heap.lt_size e)).trans e
    have kS : ∀ b o, s.heap.get? b = some o → (sortedHeap h2 h'.objs.size (as.map Value.ref) (zs.map Value.ref).toArray).get? b = some o := fun b o e => kF b o (ne0 _ _ (hk b o e)) (kb b o e)
    obtain ⟨eF, heF⟩ := PyProof.Rows.sortedHeap_at (vs := as.map Value.ref) (out := (zs.map Value.ref).toArray) hob
    have I1 : Inv X pins σ H { s with heap := sortedHeap h2 h'.objs.size (as.map Value.ref) (zs.map Value.ref).toArray, toks := tk } := I.kept (t' := tk) kS
    have hn0 : H h'.objs.size = none := I.hok.fresh (Nat.le_of_lt hlt)
    have hlen : (zs.map V.ref).length ≤ sizeLine := by rw [List.length_map, pz.length_eq]; omega
    have rv : Vals (zs.map V.ref) (zs.map Value.ref) := vals_maps V.ref Value.ref zs fun _ _ => rfl
    have I2 : Inv X pins σ (upd H h'.objs.size (.lst (zs.map V.ref))) { s with heap := sortedHeap h2 h'.objs.size (as.map Value.ref) (zs.map Value.ref).toArray, toks := tk } :=
      I1.take (h' := sortedHeap h2 h'.objs.size (as.map Value.ref) (zs.map Value.ref).toArray) (t' := tk) (fun b ob _ e => e) (I.fpOk (Nat.le_of_lt hlt) hn0) ⟨hlen, zs.map Value.ref, eF, rv, heF⟩
    obtain ⟨H2, I3, g, qt⟩ := takeT (P := fun b vs => vs = [.int (kk b).1, .int (kk b).2]) I as _ I2 nd fun b hb => by
      obtain ⟨t, u, hg⟩ := prb b hb
      have hbl : s.heap.objs.size ≤ b := Nat.le_of_lt (hG.above b hb)
      refine ⟨hbl, ?_, [.int (kk b).1, .int (kk b).2], rfl, fun H3 => ⟨(by rw [sizeLine_eq]; show 2 ≤ 16777216; omega), [Value.int (kk b).1 t, Value.int (kk b).2 u], .cons ⟨t, rfl⟩ (.cons ⟨u, rfl⟩ .nil), ⟨_, kF _ _ (ne0 _ _ hg) (ka _ _ hg), rfl, 0, rfl⟩⟩⟩
      rw [upd_ne (ne0 _ _ hg)]
      exact I.hok.fresh hbl
    have gr : ∀ b o, H b = some o → H2 b = some o := fun b o e => g b o (by rw [upd_ne (ne_of_none e hn0)]; exact e)
    refine ⟨.ref h'.objs.size, H2, I3, rfl, q H2 h'.objs.size zs kk gr (by rw [← emap]; exact pz.map kk) sz' (g _ _ upd_same) (fun b hb => ?_) hn0⟩
    obtain ⟨vs, ev, hH⟩ := qt b (pz.mem_iff.mp hb)
    rw [hH, ev]
open T
/-! ### lists of pairs of ints -/
def PrI (H : Hp) : List (Int × Int) → List V → Prop
  | [], vs => vs = []
  | q :: qs, vs => ∃ p ws, vs = V.ref p :: ws ∧ H p = some (.tup [.int q.1, .int q.2]) ∧ PrI H qs ws
theorem PrI.same {H H' : Hp} (e : Same H H') : ∀ {qs : List (Int × Int)} {vs : List V}, PrI H qs vs → PrI H' qs vs
  | [], _, h => h
  | q :: qs, _, ⟨p, ws, h1, h2, h3⟩ => ⟨p, ws, h1, e _ _ h2, h3.same e⟩
theorem PrI.len {H : Hp} : ∀ {qs : List (Int × Int)} {vs : List V}, PrI H qs vs → vs.length = qs.length
  | [], _, h => by rw [show _ = [] from h]; rfl
  | q :: qs, _, ⟨p, ws, h1, _, h3⟩ => by rw [h1, List.length_cons, List.length_cons, h3.len]
theorem PrI.snoc {H : Hp} {p : Addr} {q : Int × Int} (hp : H p = some (.tup [.int q.1, .int q.2])) : ∀ {qs : List (Int × Int)} {vs : List V}, PrI H qs vs → PrI H (qs ++ [q]) (vs ++ [.ref p])
  | [], _, h => by rw [show _ = [] from h]; exact ⟨p, [], rfl, hp, rfl⟩
  | q' :: qs, _, ⟨p', ws, h1, h2, h3⟩ => by rw [h1]; exact ⟨p', ws ++ [.ref p], rfl, h2, h3.snoc hp⟩
theorem PrI.put {H : Hp} {D : Addr} {xs ys : List V} (hD : H D = some (.lst xs)) : ∀ {qs : List (Int × Int)} {vs : List V}, PrI H qs vs → PrI (upd H D (.lst ys)) qs vs
  | [], _, h => h
  | q :: qs, _, ⟨p, ws, h1, h2, h3⟩ => ⟨p, ws, h1, by rw [upd_ne (fun z => by rw [z, hD] at h2; cases h2)]; exact h2, h3.put hD⟩
def piD (q : Int × Int) : PyData := .tuple [.int q.1, .int q.2]
theorem dp_pri {K : PySem.W.Frag} {H : Hp} : ∀ {qs : List (Int × Int)} {vs : List V}, PrI H qs vs → DpAll K H vs (qs.map piD)
  | [], _, h => by rw [show _ = [] from h]; exact .nil
  | q :: qs, _, ⟨p, ws, h1, h2, h3⟩ => by rw [h1]; exact .cons (.tup (SqT.of h2) (.cons (.int _) (.cons (.int _) .nil))) (dp_pri h3)
theorem lay_pri : ∀ qs : List (Int × Int), PyData.canLayAll0 (qs.map piD) = true
  | [] => rfl
  | q :: qs => by
    show (PyData.canLay0 (piD q) && PyData.canLayAll0 (qs.map piD)) = true
    rw [lay_pri qs]; rfl
theorem depth_pri : ∀ qs : List (Int × Int), PyData.depthAll (qs.map piD) ≤ 1
  | [] => Nat.zero_le _
  | q :: qs => by
    show max (PyData.depth (piD q)) (PyData.depthAll (qs.map piD)) ≤ 1
    have := depth_pri qs
    have e : PyData.depth (piD q) = 1 := rfl
    omega
theorem shaped_pri (qs : List (Int × Int)) : SeqAt.shaped (.list (qs.map piD)) = true := by
  show (PyData.canLayAll0 (qs.map piD) && decide (PyData.depthAll (qs.map piD) + 1 ≤ 64)) = true
  rw [lay_pri, Bool.true_and, decide_eq_true]
  have := depth_pri qs
  omega
theorem eqv_pri : ∀ qs rs : List (Int × Int), PyData.eqvAll (qs.map piD) (rs.map piD) = decide (qs = rs)
  | [], [] => rfl
  | [], _ :: _ => rfl
  | _ :: _, [] => rfl
  | q :: qs, r :: rs => by
    show ((q.1 == r.1) && ((q.2 == r.2) && true) && PyData.eqvAll (qs.map piD) (rs.map piD)) = _
    rw [eqv_pri qs rs, Bool.and_true]
    rw [Bool.eq_iff_iff]
    simp [Prod.ext_iff]
theorem rd_nePi {K : PySem.W.Frag} {H : Hp} {a b : Addr} {vs ws : List V} {qs rs : List (Int × Int)} {Q : VK} (ha : SqL K H a vs) (hb : SqL K H b ws) (hv : PrI H qs vs) (hw : PrI H rs ws) (q : Q (.bl (!decide (qs = rs))) H) : rNeD K (.ref a) (.ref b) H Q :=
  ⟨_, _, .lst ha (dp_pri hv), .lst hb (dp_pri hw), shaped_pri qs, shaped_pri rs, by show Q (.bl (!PyData.eqvAll _ _)) H; rw [eqv_pri]; exact q⟩
/-! ### promises -/
def spDepths (K : PySem.W.Frag) : Sp := fun vs H Q _ => ∃ (a : Addr) (t : T), vs = [.ref a] ∧ SqT K H a (t.pre.map V.int) ∧ t.bst ∧ t.pre.length ≤ 1000 ∧
  ∀ p H', Same H H' → H p = none → H' p = some (.dK ((t.pre.map fun x => (x, (t.dep x : Int))).map entI)) → Q (.ref p) H'
def spAboveE (K : PySem.W.Frag) (C : Addr) : Sp := fun vs H Q E => ∃ (a : Addr) (x y : Int) (t : T), vs = [.ref a, .int x, .int y] ∧ SqT K H a (t.pre.map V.int) ∧ t.bst ∧ t.pre.length ≤ 1000 ∧ x.natAbs.log2 < 1920 ∧ y.natAbs.log2 < 1920 ∧
  (x ∈ t.pre → y ∈ t.pre → ∀ H', Same H H' → Q (.bl (t.abv x y)) H') ∧ (x ∉ t.pre → ENo C x H E) ∧ (x ∈ t.pre → y ∉ t.pre → ENo C y H E)
theorem put_new {kvs : List (L2.Key × V)} {k : L2.Key} {v : V} (h : ∀ e ∈ kvs, e.1 ≠ k) : putK kvs k v = kvs ++ [(k, v)] := by
  unfold putK
  rw [if_neg]
  simp only [List.any_eq_true, decide_eq_true_eq, not_exists, not_and]
  exact fun e he => h e he
theorem insAll_snoc {ks : List Int} {x : Int} {t : T} : insAll (ks ++ [x]) t = (insAll ks t).ins x := by
  unfold insAll
  rw [List.foldl_append]; rfl
theorem pri_map {H : Hp} {kk : Addr → Int × Int} : ∀ {zs : List Addr}, (∀ b ∈ zs, H b = some (.tup [.int (kk b).1, .int (kk b).2])) → PrI H (zs.map kk) (zs.map V.ref)
  | [], _ => rfl
  | z :: zs, h => ⟨z, zs.map V.ref, rfl, h z List.mem_cons_self, pri_map fun b hb => h b (List.mem_cons_of_mem _ hb)⟩
/-- pairs sorted by their first ints -/
theorem pairs_eq {g : Int → Int} {ps : List (Int × Int)} {us ks : List Int} (p : ps.Perm (us.map fun x => (x, g x))) (s : ps.Pairwise (fun e f => e.1 ≤ f.1)) (pu : us.Perm ks) (sk : ks.Pairwise (· < ·)) : ps = ks.map fun x => (x, g x) := by
  have f : ∀ e ∈ ps, e = (e.1, g e.1) := fun e he => by
    obtain ⟨x, _, rfl⟩ := List.mem_map.mp (p.mem_iff.mp he)
    rfl
  have p1 : (ps.map (·.1)).Perm ks := by
    have := p.map (·.1)
    rw [List.map_map] at this
    have e : us.map ((fun q : Int × Int => q.1) ∘ fun x => (x, g x)) = us := List.map_id us
    rw [e] at this
    exact this.trans pu
  have e1 : ps.map (·.1) = ks := perm_sorted p1 (List.pairwise_map.mpr s) (sk.imp fun h => Int.le_of_lt h)
  rw [← e1, List.map_map]
  exact (List.map_id ps).symm.trans (List.map_congr_left fun e he => f e he)
theorem eqvS_flat {H : Hp} {n : Nat} : ∀ {xs : List V}, (∀ v ∈ xs, flatV v = true) → EqvS H n xs xs
  | [], _ => .nil
  | x :: xs, h => .cons (eqv_flat (h x List.mem_cons_self)) (eqvS_flat fun v hv => h v (List.mem_cons_of_mem _ hv))
theorem rd_slM {K : PySem.W.Frag} {H : Hp} {a : Addr} {xs : List V} {lo hi : Option Int} {Q : VK} (hS : SqL K H a xs) (q : ∀ nr H5, H nr = none → Same H H5 → H5 nr = some (.lst (cutV xs lo hi)) → Q (.ref nr) H5) : rSlL K (.ref a) lo hi H Q := ⟨a, xs, rfl, hS, fun p np => q p _ np (same_new np) upd_same⟩
section
open HotX LamX
theorem LamAt.lstM {X : Cx} {H : Hp} {f o : Addr} {ar : Arguments} {bd : Expr} {sc : Scope} {b : Bool} {xs ys : List V} (h : LamAt X H f ar bd sc b) (hl : H o = some (.lst xs)) : LamAt X (upd H o (.lst ys)) f ar bd sc b := by
  have e : ∀ b w, H b = some w → (∀ zs, w ≠ .lst zs) → upd H o (.lst ys) b = some w := fun b w hb hn => by
    rw [upd_ne (fun z => by rw [z, hl] at hb; exact hn _ (Option.some.inj hb).symm)]; exact hb
  obtain ⟨c', pm, dv, tv, h1, h2, h3⟩ := h
  exact ⟨c', pm, dv, tv, e _ _ h1 (fun _ z => by cases z), h2.ext fun a o u z => e _ _ z (fun _ q => by cases q), e _ _ h3 (fun _ z => by unfold CodeO at z; cases z)⟩
end
end TT
/-! list(d.values()) -/
namespace TT
open PySem PySem.Spec PyProof.Rows L2 L2.DX
def valuesO (p d : Addr) : HO := .ext fun h => h.IsValuesView p d
theorem valuesO_ok {P : Program} {w : World} {H : Hp} {h : Heap} {p d : Addr} (e : h.get? p = some { cls := .type "dict_values", data := .fields #[.ref d] }) : ObjOk P w H h p (valuesO p d) :=
  ⟨⟨_, e, rfl, rfl⟩, ⟨_, e⟩, fun h1 h2 x k => let ⟨o, ho, r⟩ := x; ⟨o, k o ho, r⟩⟩
section
variable {prog : Program} {w : World} {A : Around} {E : Value → Shared → Prop} {s : Shared}
theorem meetsValues {d : Addr} {es : Array DictEntry} {ep : Nat} (hd : (d == sysModules) = false) :
    MeetsIn prog w (Builtin.«dict.values» ⟨[.ref d], []⟩) (fun _ R s => DT.Raw s.heap d es ep ∧
      R (.ok (.ret (.ref s.heap.objs.size))) { s with heap := s.heap.push { cls := .type "dict_values", data := .fields #[.ref d] } }) :=
  .of_wp fun A R s ⟨hm, h⟩ => by
    show wpAny _ _ (Builtin.Dict.noArgs "values" ⟨[.ref d], []⟩ >>= _) _ _ s
    unfold Builtin.Dict.noArgs
    refine wpAny_bind (wpAny_bind (wpAny_notOrdered_dict hm.typeIs ?_))
    show wpAny _ _ (pure d) _ _ s
    refine wpAny_pure ?_
    show wpAny _ _ (Builtin.Dict.showsAll d >>= _) _ _ s
    unfold Builtin.Dict.showsAll
    rw [if_neg (by rw [hd]; exact Bool.false_ne_true)]
    refine wpAny_bind (wpAny_pure ?_)
    exact wpAny_bind (wpAny_newObj_type (wpAny_pure ⟨_, rfl, h⟩))
theorem callValues {d : Addr} {es : Array DictEntry} {ep : Nat} {Q : Value → Shared → Prop} (hd : (d == sysModules) = false) (hm : DT.Raw s.heap d es ep)
    (h : Q (.ref s.heap.objs.size) { s with heap := s.heap.push { cls := .type "dict_values", data := .fields #[.ref d] } }) : wpAny (model prog w) A (call (.builtin "dict.values") [.ref d]) Q E s :=
  call_meetsIn PySem.F.slot_dict_values hm.typeIs PySem.F.entry_dict_values (PySem.F.args_dict_values_1 _) (meetsValues (es := es) (ep := ep) hd) ⟨hm, h⟩
end
def rValuesI : V → List V → Hp → VK → Prop := fun x xs H Q => ∃ (a : Addr) (kvs : List (L2.Key × V)), x = .ref a ∧ xs = [] ∧ H a = some (.dK kvs) ∧ ∀ p, H p = none → Q (.ref p) (upd H p (valuesO p a))
theorem mt_valuesI {X : Cx} : MtR X "dict.values" rValuesI := by
  intro pins s σ H x xs v us Q I rx rxs h
  obtain ⟨a, kvs, rfl, rfl, ha, q⟩ := h
  cases rx
  cases rxs
  obtain ⟨z, hd, vs', rel, o, es, ep, ho, hx, hdat, _⟩ := dk_of I.hok ha
  refine callValues (es := es) (ep := ep) hd ⟨o, ho, hx, hdat⟩ ?_
  have hf : H s.heap.objs.size = none := I.hok.fresh (Nat.le_refl _)
  exact ⟨.ref s.heap.objs.size, upd H s.heap.objs.size (valuesO s.heap.objs.size a), I.laid (t' := s.toks) (fun b u e => Heap.get?_push_of_some _ e) (Nat.le_refl _) (valuesO_ok (Heap.get?_push_size _ rfl)), rfl, q _ hf⟩
theorem vals_of : ∀ {vs : List V} {its : List Value}, vs.length = its.length → (∀ (j : Nat) v u, vs[j]? = some v → its[j]? = some u → RelV v u) → Vals vs its
  | [], [], _, _ => .nil
  | v :: vs, u :: its, l, h => .cons (h 0 v u rfl rfl) (vals_of (Nat.succ.inj l) fun j v u a b => h (j + 1) v u a b)
  | [], _ :: _, l, _ => by simp at l
  | _ :: _, [], l, _ => by simp at l
def rListVals : List V → Hp → VK → Prop := fun vs H Q => ∃ (p a : Addr) (kvs : List (L2.Key × V)), vs = [.ref p] ∧ H p = some (valuesO p a) ∧ H a = some (.dK kvs) ∧ ∀ l, H l = none → Q (.ref l) (upd H l (.lst (kvs.map (·.2))))
theorem cr_listVals {X : Cx} (hc : X.calm = true) : CallR X (.type "list") rListVals := by
  intro pins s σ H xs us Q I r h
  obtain ⟨p, a, kvs, rfl, hp, ha, q⟩ := h
  obtain rfl := Vals.ref1 r
  have view : s.heap.IsValuesView p a := (show ObjOk X.prog X.w H s.heap p (valuesO p a) from I.hok p _ hp).1
  obtain ⟨z, hd, vs', rel, o, es, ep, ho, hx, hdat, hko, hps, hn⟩ := dk_of I.hok ha
  have hh : X.A.handled = none := I.ok.hd hc
  have l1 : kvs.length = vs'.length := Paired.length rel
  have l2 : es.toList.length = vs'.length := hps.length
  rw [Array.length_toList] at l2
  refine PySem.W.kdl_call (PySem.KdlSrc.rawValues (d := a) (r := p) (es := es) (ep := ep)) hh ⟨view, o, ho, hx, hdat⟩ (by omega) fun h' tk acc c hk hl hacc => ?_
  have vals : Vals (kvs.map (·.2)) acc.toList := by
    have la : acc.toList.length = es.size := by rw [Array.length_toList]; exact hacc.1
    refine vals_of (by rw [List.length_map, la]; omega) fun j v u hv hu => ?_
    rw [Array.getElem?_toList] at hu
    obtain ⟨hi, eu⟩ := hacc.2 j u hu
    have he : es.toList[j]? = some es[j] := by rw [Array.getElem?_toList]; exact Array.getElem?_eq_getElem hi
    obtain ⟨kv, hkv, his, hval⟩ := pairs_get hps he
    obtain ⟨e0, he0, r1, r2⟩ := pget rel hkv
    rw [List.getElem?_map, he0] at hv
    cases hv
    rw [eu, hval]
    exact r2
  exact ⟨.ref s.heap.objs.size, _, I.laid hk (Nat.le_refl _) (show ObjOk X.prog X.w _ h' _ (.lst (kvs.map (·.2))) from ⟨by rw [List.length_map]; exact z, acc.toList, c, vals, by rw [Array.toArray_toList]; exact hl⟩), rfl, q _ (I.hok.fresh (Nat.le_refl _))⟩
end TT
/-! mean costs; for k48 -/
namespace TT
open PySem PySem.Spec PyProof.Rows L2 HotX LamX T
def redI (t b : Int) : Int × Int := (t / ((Int.gcd b t : Nat) : Int), b / ((Int.gcd b t : Nat) : Int))
def wholeI (ws : List Int) (s e : Nat) : Int := ws.sum * ((ws.drop s).take (e + 1 - s)).sum
def stepI (ws : List Int) (s e : Nat) (a : Int × Int) : Int × Int := redI (a.1 * wholeI ws s e + 2 * ws.getD s 0 * ws.getD e 0 * a.2) (a.2 * wholeI ws s e)
def rowI (ws : List Int) (s m : Nat) (a : Int × Int) : Int × Int := (List.range m).foldl (fun a j => stepI ws s (s + 1 + j) a) a
def mcI (ws : List Int) (m : Nat) : Int × Int := (List.range m).foldl (fun a s => rowI ws s (ws.length - (s + 1)) a) (0, 1)
def ordW (ws : List Int) (o : List Nat) : Int × Int × Int := o.foldl (fun a i => (a.1 * ws.getD i 0, a.2.1 * a.2.2, a.2.2 - ws.getD i 0)) (1, 1, ws.sum)
def costW (ws : List Int) (ds : List Int) : Int := (List.zipWith (· * ·) ws ds).sum
def lawStep (ws : List Int) (a : Int × Int) (o : List Nat × List Int) : Int × Int :=
  (a.1 * (ordW ws o.1).2.1 + (ordW ws o.1).1 * costW ws o.2 * a.2, a.2 * (ordW ws o.1).2.1)
def lawP (tab : List (List Nat × List Int)) (ws : List Int) : Int × Int := tab.foldl (lawStep ws) (0, 1)
def insPos {α : Type} (x : α) (row : List α) : List (List α) := (List.range (row.length + 1)).map fun i => row.take i ++ [x] ++ row.drop i
def ordsL {α : Type} (xs : List α) : List (List α) := xs.foldl (fun found x => found.flatMap (insPos x)) [[]]
/-- the depths of 0 .. n - 1 in the search tree of an order -/
def depO (n : Nat) (o : List Nat) : List Int := (List.range n).map fun i => ((((insAll (o.map fun (k : Nat) => (k : Int)) leaf).path (i : Nat)).length : Nat) : Int) - 1
def tabO (n : Nat) : List (List Nat × List Int) := (ordsL (List.range n)).map fun o => (o, depO n o)
/-! ### orders of keys and of places -/
theorem insPos_map {α β : Type} (f : α → β) (x : α) (row : List α) : insPos (f x) (row.map f) = (insPos x row).map (List.map f) := by
  unfold insPos
  rw [List.length_map, List.map_map]
  refine List.map_congr_left fun i _ => ?_
  show (row.map f).take i ++ [f x] ++ (row.map f).drop i = (row.take i ++ [x] ++ row.drop i).map f
  rw [List.map_append, List.map_append, List.map_take, List.map_drop]; rfl
theorem ords_go {α β : Type} (f : α → β) : ∀ (xs : List α) (acc : List (List α)), (xs.map f).foldl (fun found x => found.flatMap (insPos x)) (acc.map (List.map f)) = (xs.foldl (fun found x => found.flatMap (insPos x)) acc).map (List.map f)
  | [], acc => rfl
  | x :: xs, acc => by
    rw [List.map_cons, List.foldl_cons, List.foldl_cons, ← ords_go f xs]
    congr 1
    rw [List.flatMap_map, List.map_flatMap]
    congr 1
    funext row
    exact insPos_map f x row
theorem ords_map {α β : Type} (f : α → β) (xs : List α) : ordsL (xs.map f) = (ordsL xs).map (List.map f) := ords_go f xs [[]]
theorem ins_perm {α : Type} {x : α} {row o : List α} (h : o ∈ insPos x row) : o.Perm (x :: row) := by
  obtain ⟨i, _, rfl⟩ := List.mem_map.mp h
  have : (row.take i ++ [x] ++ row.drop i).Perm (x :: (row.take i ++ row.drop i)) := by
    rw [List.append_assoc]
    exact List.perm_middle
  rwa [List.take_append_drop] at this
theorem ords_perm_go {α : Type} : ∀ (xs : List α) (acc : List (List α)) (ys : List α), (∀ o ∈ acc, o.Perm ys) → ∀ o ∈ xs.foldl (fun found x => found.flatMap (insPos x)) acc, o.Perm (xs ++ ys)
  | [], acc, ys, h, o, ho => h o ho
  | x :: xs, acc, ys, h, o, ho => by
    refine (ords_perm_go xs _ (x :: ys) (fun o' ho' => ?_) o ho).trans List.perm_middle
    obtain ⟨row, hr, hi⟩ := List.mem_flatMap.mp ho'
    exact (ins_perm hi).trans ((h row hr).cons x)
theorem ords_perm {α : Type} {xs o : List α} (h : o ∈ ordsL xs) : o.Perm xs := by
  have := ords_perm_go xs [[]] [] (fun o ho => by rw [List.mem_singleton.mp ho]) o h
  rwa [List.append_nil] at this
theorem range_getD (ks : List Int) : ks = (List.range ks.length).map fun i => ks.getD i 0 := by
  refine List.ext_getElem (by simp) fun i h1 h2 => ?_
  rw [List.getElem_map, List.getElem_range, List.getD_eq_getElem?_getD, List.getElem?_eq_getElem h1]; rfl
theorem ords24 : ((List.range 5).all fun n => decide ((ordsL (List.range n)).length ≤ 24)) = true := by decide +kernel
theorem ords_le {ks : List Int} (h : ks.length ≤ 4) : (ordsL ks).length ≤ 24 := by
  have e : ordsL ks = (ordsL (List.range ks.length)).map (List.map fun i => ks.getD i 0) := by
    conv => lhs; rw [range_getD ks]
    exact ords_map _ _
  rw [e, List.length_map]
  exact of_decide_eq_true (List.all_eq_true.mp ords24 ks.length (List.mem_range.mpr (by omega)))
def mapT (f : Int → Int) : T → T
  | leaf => leaf
  | node l k r => node (mapT f l) (f k) (mapT f r)
theorem map_ins {f : Int → Int} {x : Int} : ∀ {t : T}, (∀ y ∈ t.pre, (x < y ↔ f x < f y)) → (mapT f t).ins (f x) = mapT f (t.ins x)
  | leaf, _ => rfl
  | node l k r, h => by
    have hk := h k (by simp [pre])
    show (if f x < f k then node ((mapT f l).ins (f x)) (f k) (mapT f r) else node (mapT f l) (f k) ((mapT f r).ins (f x))) = mapT f (if x < k then node (l.ins x) k r else node l k (r.ins x))
    by_cases c : x < k
    · rw [if_pos c, if_pos (hk.mp c), map_ins fun y hy => h y (by simp [pre, hy])]; rfl
    · rw [if_neg c, if_neg (fun z => c (hk.mpr z)), map_ins fun y hy => h y (by simp [pre, hy])]; rfl
theorem map_path {f : Int → Int} {x : Int} : ∀ {t : T}, (∀ y ∈ t.pre, (x < y ↔ f x < f y) ∧ (x = y ↔ f x = f y)) → ((mapT f t).path (f x)).length = (t.path x).length
  | leaf, _ => rfl
  | node l k r, h => by
    obtain ⟨hk, he⟩ := h k (by simp [pre])
    show (if f x = f k then [f k] else if f x < f k then f k :: (mapT f l).path (f x) else f k :: (mapT f r).path (f x)).length = (if x = k then [k] else if x < k then k :: l.path x else k :: r.path x).length
    by_cases c : x = k
    · rw [if_pos c, if_pos (he.mp c)]; rfl
    · rw [if_neg c, if_neg (fun z => c (he.mpr z))]
      by_cases d : x < k
      · rw [if_pos d, if_pos (hk.mp d), List.length_cons, List.length_cons, map_path fun y hy => h y (by simp [pre, hy])]
      · rw [if_neg d, if_neg (fun z => d (hk.mpr z)), List.length_cons, List.length_cons, map_path fun y hy => h y (by simp [pre, hy])]
theorem map_insAll {f : Int → Int} : ∀ {os : List Int} {t : T}, (∀ x ∈ os, ∀ y, (y ∈ os ∨ y ∈ t.pre) → (x < y ↔ f x < f y)) → insAll (os.map f) (mapT f t) = mapT f (insAll os t)
  | [], _, _ => rfl
  | x :: os, t, h => by
    show insAll (os.map f) ((mapT f t).ins (f x)) = mapT f (insAll os (t.ins x))
    rw [map_ins fun y hy => h x List.mem_cons_self y (.inr hy)]
    refine map_insAll fun u hu y hy => h u (List.mem_cons_of_mem _ hu) y ?_
    rcases hy with hy | hy
    · exact .inl (List.mem_cons_of_mem _ hy)
    · have : y = x ∨ y ∈ t.pre := by
        have := mem_insAll (x := y) (ks := [x]) (t := t)
        have h2 : y ∈ (insAll [x] t).pre := hy
        rcases this.mp h2 with h | h
        · exact .inl (List.mem_singleton.mp h)
        · exact .inr h
      rcases this with rfl | h
      · exact .inl List.mem_cons_self
      · exact .inr h
/-! ### the law's sum -/
def ordF (g : Int → Int) (a : Int × Int × Int) (o : List Int) : Int × Int × Int := o.foldl (fun a k => (a.1 * g k, a.2.1 * a.2.2, a.2.2 - g k)) a
def costK (ks : List Int) (g : Int → Int) (o : List Int) : Int := (ks.map fun k => g k * ((((insAll o leaf).anc k).length : Nat) : Int)).sum
def lawK (ks : List Int) (g : Int → Int) (a : Int × Int) (o : List Int) : Int × Int :=
  (a.1 * (ordF g (1, 1, (ks.map g).sum) o).2.1 + (ordF g (1, 1, (ks.map g).sum) o).1 * costK ks g o * a.2, a.2 * (ordF g (1, 1, (ks.map g).sum) o).2.1)
def lawKs (ks : List Int) (g : Int → Int) : Int × Int := (ordsL ks).foldl (lawK ks g) (0, 1)
theorem law_step {ks : List Int} {g : Int → Int} (asc : ks.Pairwise (· < ·)) {o : List Nat} (ho : o ∈ ordsL (List.range ks.length)) (a : Int × Int) :
    lawK ks g a (o.map fun i => ks.getD i 0) = lawStep (ks.map g) a (o, depO ks.length o) := by
  have mo : ∀ i ∈ o, i < ks.length := fun i hi => List.mem_range.mp ((ords_perm ho).mem_iff.mp hi)
  have ov : ∀ i ∈ List.range ks.length, i ∈ o := fun i hi => (ords_perm ho).mem_iff.mpr hi
  have gd : ∀ i, i < ks.length → g (ks.getD i 0) = (ks.map g).getD i 0 := fun i hi => by
    rw [List.getD_eq_getElem?_getD, List.getD_eq_getElem?_getD, List.getElem?_map, List.getElem?_eq_getElem hi]; rfl
  have e1 : ordF g (1, 1, (ks.map g).sum) (o.map fun i => ks.getD i 0) = ordW (ks.map g) o := by
    unfold ordF ordW
    generalize ((1, 1, (ks.map g).sum) : Int × Int × Int) = acc
    clear ho ov
    induction o generalizing acc with
    | nil => rfl
    | cons i o ih =>
      rw [List.map_cons, List.foldl_cons, List.foldl_cons, gd i (mo i List.mem_cons_self)]
      exact ih (fun j hj => mo j (List.mem_cons_of_mem _ hj)) _
  have mono : ∀ i j : Nat, i < ks.length → j < ks.length → (((i : Int) < (j : Int)) ↔ ks.getD i 0 < ks.getD j 0) ∧ (((i : Int) = (j : Int)) ↔ ks.getD i 0 = ks.getD j 0) := fun i j hi hj => by
    have lt : ∀ i j : Nat, (hi : i < ks.length) → (hj : j < ks.length) → i < j → ks.getD i 0 < ks.getD j 0 := fun i j hi hj c => by
      rw [List.getD_eq_getElem?_getD, List.getD_eq_getElem?_getD, List.getElem?_eq_getElem hi, List.getElem?_eq_getElem hj]
      exact List.pairwise_iff_getElem.mp asc i j hi hj c
    rcases Nat.lt_trichotomy i j with c | c | c
    · have := lt i j hi hj c
      exact ⟨⟨fun _ => this, fun _ => by omega⟩, ⟨fun z => by omega, fun z => by omega⟩⟩
    · subst c
      exact ⟨⟨fun z => by omega, fun z => by omega⟩, ⟨fun _ => rfl, fun _ => rfl⟩⟩
    · have := lt j i hj hi c
      exact ⟨⟨fun z => by omega, fun z => by omega⟩, ⟨fun z => by omega, fun z => by omega⟩⟩
  let φ : Int → Int := fun z => ks.getD z.toNat 0
  have eo : (o.map fun i => ks.getD i 0) = (o.map fun (k : Nat) => (k : Int)).map φ := by rw [List.map_map]; rfl
  have et : insAll (o.map fun i => ks.getD i 0) leaf = mapT φ (insAll (o.map fun (k : Nat) => (k : Int)) leaf) := by
    rw [eo]
    refine map_insAll (t := leaf) fun x hx y hy => ?_
    obtain ⟨i, hi, rfl⟩ := List.mem_map.mp hx
    rcases hy with hy | hy
    · obtain ⟨j, hj, rfl⟩ := List.mem_map.mp hy
      exact (mono i j (mo i hi) (mo j hj)).1
    · cases hy
  have nd : (o.map fun i => ks.getD i 0).Nodup := by
    have : (o.map fun i => ks.getD i 0).Perm ((List.range ks.length).map fun i => ks.getD i 0) := (ords_perm ho).map _
    have e : ((List.range ks.length).map fun i => ks.getD i 0) = ks := by
      refine List.ext_getElem (by simp) fun i h1 h2 => ?_
      rw [List.getElem_map, List.getElem_range, List.getD_eq_getElem?_getD, List.getElem?_eq_getElem h2]; rfl
    rw [e] at this
    exact this.nodup_iff.mpr (asc.imp fun h => by omega)
  have e2 : costK ks g (o.map fun i => ks.getD i 0) = costW (ks.map g) (depO ks.length o) := by
    unfold costK costW depO
    have em : ∀ F : Int → Int, ks.map F = (List.range ks.length).map fun i => F (ks.getD i 0) := fun F => by
      conv => lhs; rw [range_getD ks]
      rw [List.map_map]; rfl
    have ez : ∀ (f1 f2 : Nat → Int) (l : List Nat), List.zipWith (· * ·) (l.map f1) (l.map f2) = l.map fun i => f1 i * f2 i := fun f1 f2 l => by
      induction l with
      | nil => rfl
      | cons a l ih => rw [List.map_cons, List.map_cons, List.zipWith_cons_cons, ih]; rfl
    rw [em g, ez, em]
    congr 1
    refine List.map_congr_left fun i hi => ?_
    have hi' := List.mem_range.mp hi
    have mem : ks.getD i 0 ∈ (insAll (o.map fun i => ks.getD i 0) leaf).pre := mem_insAll.mpr (.inl (List.mem_map.mpr ⟨i, ov i hi, rfl⟩))
    have al := anc_len (bst_insAll (show leaf.bst from trivial) nd fun _ _ h => by cases h) mem
    have pl : ((insAll (o.map fun i => ks.getD i 0) leaf).path (ks.getD i 0)).length = ((insAll (o.map fun (k : Nat) => (k : Int)) leaf).path (i : Nat)).length := by
      rw [et]
      refine map_path (f := φ) (x := (i : Nat)) fun y hy => ?_
      rcases mem_insAll.mp hy with h | h
      · obtain ⟨j, hj, rfl⟩ := List.mem_map.mp h
        exact mono i j hi' (mo j hj)
      · cases h
    show g (ks.getD i 0) * _ = g (ks.getD i 0) * _
    congr 1
    omega
  unfold lawK lawStep
  rw [e1, e2]
theorem law_eq {ks : List Int} {g : Int → Int} (asc : ks.Pairwise (· < ·)) : lawKs ks g = lawP (tabO ks.length) (ks.map g) := by
  unfold lawKs lawP tabO
  have eo : ordsL ks = (ordsL (List.range ks.length)).map (List.map fun i => ks.getD i 0) := by
    conv => lhs; rw [range_getD ks]
    exact ords_map _ _
  rw [eo, List.foldl_map, List.foldl_map]
  have : ∀ (l : List (List Nat)) (a : Int × Int), (∀ o ∈ l, o ∈ ordsL (List.range ks.length)) → l.foldl (fun a o => lawK ks g a (o.map fun i => ks.getD i 0)) a = l.foldl (fun a o => lawStep (ks.map g) a (o, depO ks.length o)) a := by
    intro l
    induction l with
    | nil => intro a _; rfl
    | cons o l ih =>
      intro a h
      rw [List.foldl_cons, List.foldl_cons, law_step asc (h o List.mem_cons_self)]
      exact ih _ fun o' ho' => h o' (List.mem_cons_of_mem _ ho')
  exact this _ _ fun o ho => ho
end TT
/-! numbers of shapes by their spines; for k31 -/
namespace TT
open PySem PySem.Spec PyProof.Rows L2 HotX LamX T
/-! ### choices -/
def cho : Nat → Nat → Nat
  | _, 0 => 1
  | 0, _ + 1 => 0
  | n + 1, k + 1 => cho n k + cho n (k + 1)
theorem ch_zero : ∀ {n k : Nat}, n < k → cho n k = 0
  | _, 0, h => absurd h (Nat.not_lt_zero _)
  | 0, k + 1, _ => rfl
  | n + 1, k + 1, h => by
    show cho n k + cho n (k + 1) = 0
    rw [ch_zero (by omega : n < k), ch_zero (by omega : n < k + 1)]
theorem ch_left (n : Nat) : cho n 0 = 1 := by cases n <;> rfl
theorem ch_mul : ∀ n k : Nat, cho n (k + 1) * (k + 1) = cho n k * (n - k)
  | 0, 0 => rfl
  | 0, k + 1 => by show 0 * _ = 0 * _; rw [Nat.zero_mul, Nat.zero_mul]
  | n + 1, 0 => by
    have ih : cho n 1 * (0 + 1) = cho n 0 * (n - 0) := ch_mul n 0
    rw [ch_left, Nat.sub_zero] at ih
    show (cho n 0 + cho n 1) * 1 = cho (n + 1) 0 * (n + 1)
    rw [ch_left, ch_left]
    omega
  | n + 1, k + 1 => by
    have h1 := ch_mul n (k + 1)
    have h2 := ch_mul n k
    show (cho n (k + 1) + cho n (k + 2)) * (k + 2) = (cho n k + cho n (k + 1)) * (n + 1 - (k + 1))
    rw [show n + 1 - (k + 1) = n - k by omega, Nat.add_mul, Nat.add_mul, ← h2, h1]
    by_cases c : k < n
    · have e : n - k = (n - (k + 1)) + 1 := by omega
      rw [e]
      simp only [Nat.mul_add, Nat.mul_one]
      omega
    · rw [ch_zero (by omega : n < k + 1)]
      omega
theorem binL_ch {n : Nat} : ∀ {k : Nat}, k ≤ n → binL n k = (cho n k : Int)
  | 0, _ => by rw [ch_left]; rfl
  | k + 1, h => by
    show binL n k * ((n : Int) - k) / ((k : Int) + 1) = _
    rw [binL_ch (by omega : k ≤ n), show ((n : Int) - k) = ((n - k : Nat) : Int) by omega, ← Int.natCast_mul, ← ch_mul, Int.natCast_mul]
    exact Int.mul_ediv_cancel _ (by omega)
/-- what binomial answers -/
def BN (n c : Int) : Int := if c < 0 ∨ n < c then 0 else binL n.toNat c.toNat
theorem BN_ch {n c : Int} (h : 0 ≤ n) : BN n c = if c < 0 then 0 else (cho n.toNat c.toNat : Int) := by
  unfold BN
  by_cases a : c < 0
  · rw [if_pos (.inl a), if_pos a]
  · rw [if_neg a]
    by_cases b : n < c
    · rw [if_pos (.inr b), ch_zero (by omega : n.toNat < c.toNat)]; rfl
    · rw [if_neg (by omega), binL_ch (by omega)]
theorem pascal {n c : Int} (h : 1 ≤ n) : BN n c = BN (n - 1) (c - 1) + BN (n - 1) c := by
  rw [BN_ch (by omega), BN_ch (by omega), BN_ch (by omega)]
  by_cases a : c < 0
  · rw [if_pos a, if_pos (by omega), if_pos a]; rfl
  · rw [if_neg a, if_neg a]
    by_cases b : c = 0
    · subst b
      rw [if_pos (by omega)]
      show ((cho n.toNat 0 : Nat) : Int) = 0 + ((cho (n - 1).toNat 0 : Nat) : Int)
      rw [ch_left, ch_left]; rfl
    · rw [if_neg (by omega)]
      obtain ⟨m, e⟩ : ∃ m : Nat, n = (m : Int) + 1 := ⟨(n - 1).toNat, by omega⟩
      obtain ⟨d, e2⟩ : ∃ d : Nat, c = (d : Int) + 1 := ⟨(c - 1).toNat, by omega⟩
      subst e e2
      rw [show ((m : Int) + 1).toNat = m + 1 by omega, show ((d : Int) + 1).toNat = d + 1 by omega, show ((m : Int) + 1 - 1).toNat = m by omega, show ((d : Int) + 1 - 1).toNat = d by omega]
      rw [show cho (m + 1) (d + 1) = cho m d + cho m (d + 1) from rfl, Int.natCast_add]
theorem BN_one {n : Int} (h : 1 ≤ n) : BN n 1 = n := by
  unfold BN
  rw [if_neg (by omega)]
  show 1 * (((n.toNat : Nat) : Int) - ((0 : Nat) : Int)) / (((0 : Nat) : Int) + 1) = n
  simp
  omega
/-! ### ballots -/
def sfx : List Int → List Int
  | [] => []
  | x :: l => (x + (sfx l).headD 0) :: sfx l
def rowB : Nat → List Int
  | 0 => [1]
  | k + 1 => 0 :: sfx (rowB k)
def Bt (k a : Nat) : Int := (rowB k).getD a 0
theorem sfx_len : ∀ l : List Int, (sfx l).length = l.length
  | [] => rfl
  | x :: l => by show (sfx l).length + 1 = _; rw [sfx_len l]; rfl
theorem rowB_len : ∀ k, (rowB k).length = k + 1
  | 0 => rfl
  | k + 1 => by show (sfx (rowB k)).length + 1 = _; rw [sfx_len, rowB_len k]
theorem sfx_get : ∀ (l : List Int) (a : Nat), (sfx l).getD a 0 = l.getD a 0 + (sfx l).getD (a + 1) 0
  | [], a => rfl
  | x :: l, 0 => by
    show x + (sfx l).headD 0 = x + (sfx l).getD 0 0
    cases sfx l <;> rfl
  | x :: l, a + 1 => sfx_get l a
theorem Bt_0 (a : Nat) : Bt 0 a = if a = 0 then 1 else 0 := by cases a <;> rfl
theorem Bt_z (k : Nat) : Bt (k + 1) 0 = 0 := rfl
theorem Bt_out {k a : Nat} (h : k < a) : Bt k a = 0 := by
  unfold Bt
  rw [List.getD_eq_getElem?_getD, List.getElem?_eq_none_iff.mpr (by rw [rowB_len]; omega)]; rfl
theorem Bt_rec (k a : Nat) : Bt (k + 1) (a + 1) = Bt k a + Bt (k + 1) (a + 2) := sfx_get (rowB k) a
/-! ### sums -/
def sm (f : Nat → Int) : Nat → Int
  | 0 => 0
  | n + 1 => sm f n + f n
theorem sm_list (f : Nat → Int) : ∀ n, ((List.range n).map f).sum = sm f n
  | 0 => rfl
  | n + 1 => by rw [List.range_succ, List.map_append, List.sum_append, sm_list f n]; simp [sm]
theorem sm_shift (f : Nat → Int) : ∀ n, sm f (n + 1) = f 0 + sm (fun i => f (i + 1)) n
  | 0 => by show 0 + f 0 = f 0 + 0; omega
  | n + 1 => by
    show sm f (n + 1) + f (n + 1) = f 0 + (sm (fun i => f (i + 1)) n + f (n + 1))
    rw [sm_shift f n]; omega
theorem sm_congr {f g : Nat → Int} : ∀ {n : Nat}, (∀ i, i < n → f i = g i) → sm f n = sm g n
  | 0, _ => rfl
  | n + 1, h => by show sm f n + f n = sm g n + g n; rw [sm_congr fun i hi => h i (by omega), h n (by omega)]
theorem sm_add (f g : Nat → Int) : ∀ n, sm (fun i => f i + g i) n = sm f n + sm g n
  | 0 => rfl
  | n + 1 => by show sm (fun i => f i + g i) n + (f n + g n) = sm f n + f n + (sm g n + g n); rw [sm_add f g n]; omega
theorem sm_zero {f : Nat → Int} : ∀ {n : Nat}, (∀ i, i < n → f i = 0) → sm f n = 0
  | 0, _ => rfl
  | n + 1, h => by show sm f n + f n = 0; rw [sm_zero fun i hi => h i (by omega), h n (by omega)]; rfl
/-- two spines put together -/
def cv (m x y : Nat) : Int := sm (fun i => Bt i x * Bt (m - i) y) (m + 1)
theorem cv_rec (m x y : Nat) : cv (m + 1) (x + 1) y = cv m x y + cv (m + 1) (x + 2) y := by
  unfold cv
  rw [sm_shift, sm_shift (fun i => Bt i (x + 2) * Bt (m + 1 - i) y)]
  have z1 : Bt 0 (x + 1) = 0 := by rw [Bt_0]; rfl
  have z2 : Bt 0 (x + 2) = 0 := by rw [Bt_0]; rfl
  rw [z1, z2]
  simp only [Int.zero_mul, Int.zero_add]
  rw [← sm_add]
  refine sm_congr fun i hi => ?_
  rw [show m + 1 - (i + 1) = m - i by omega, Bt_rec, Int.add_mul]
theorem cv_zero (m y : Nat) : cv m 0 y = Bt m y := by
  unfold cv
  rw [sm_shift, sm_zero fun i _ => by rw [Bt_z, Int.zero_mul]]
  show 1 * Bt (m - 0) y + 0 = _
  rw [Nat.sub_zero, Int.one_mul, Int.add_zero]
theorem cv_eq : ∀ m x y : Nat, cv m x y = Bt m (x + y)
  | 0, x, y => by
    show 0 + Bt 0 x * Bt 0 y = _
    rw [Int.zero_add, Bt_0, Bt_0, Bt_0]
    by_cases a : x = 0 <;> by_cases b : y = 0 <;> simp [a, b]
  | m + 1, x, y => by
    have main : ∀ d x : Nat, m + 1 < x + d → cv (m + 1) x y = Bt (m + 1) (x + y) := fun d => by
      induction d with
      | zero =>
        intro x h
        rw [Bt_out (by omega)]
        exact sm_zero fun i hi => by rw [Bt_out (by omega : i < x), Int.zero_mul]
      | succ d ih =>
        intro x h
        cases x with
        | zero => rw [cv_zero, Nat.zero_add]
        | succ x =>
          rw [cv_rec, cv_eq m x y, ih (x + 2) (by omega), show x + 1 + y = (x + y) + 1 by omega, show x + 2 + y = (x + y) + 2 by omega]
          exact (Bt_rec m (x + y)).symm
    exact main (m + 2) x (by omega)
/-- the number of shapes over j keys -/
theorem tot_eq (j : Nat) : ∀ n, sm (Bt j) n = Bt (j + 1) 1 - Bt (j + 1) (n + 1)
  | 0 => by show (0 : Int) = Bt (j + 1) 1 - Bt (j + 1) 1; omega
  | n + 1 => by
    have := Bt_rec j n
    show sm (Bt j) n + Bt j n = Bt (j + 1) 1 - Bt (j + 1) (n + 2)
    rw [tot_eq j n]
    omega
/-- the law's row of j keys -/
def rowL (most j : Nat) : List Int := (List.range (most + 1)).map (Bt j)
theorem rowL_sum {most j : Nat} (h : j ≤ most) : (rowL most j).sum = Bt (j + 1) 1 := by
  unfold rowL
  rw [sm_list, tot_eq, Bt_out (by omega : j + 1 < most + 1 + 1)]
  omega
theorem rowL_get {most j a : Nat} (h : a ≤ most) : (rowL most j)[a]? = some (Bt j a) := by
  unfold rowL
  rw [List.getElem?_map, List.getElem?_range (by omega)]; rfl
theorem row_next {k s : Nat} : sm (fun low => Bt low s * Bt (k - low) 1) k = Bt k (s + 1) := by
  have := cv_eq k s 1
  unfold cv at this
  rw [← this]
  show _ = sm _ k + Bt k s * Bt (k - k) 1
  rw [Nat.sub_self, show Bt 0 1 = 0 from rfl, Int.mul_zero, Int.add_zero]
/-! ### the program's formula -/
def chkRow (k : Nat) (row : List Int) : Bool := (List.range k).all fun i => decide (row.getD (i + 1) 0 * ((2 * k - (i + 1) : Nat) : Int) = ((i + 1 : Nat) : Int) * binL (2 * k - (i + 1)) (k - (i + 1)))
def chkAll : Nat → Nat → List Int → Bool
  | 0, _, _ => true
  | f + 1, k, row => chkRow k row && chkAll f (k + 1) (0 :: sfx row)
theorem chk_of : ∀ {f k : Nat}, chkAll f k (rowB k) = true → ∀ j, j < f → chkRow (k + j) (rowB (k + j)) = true
  | 0, _, _, j, h => absurd h (Nat.not_lt_zero _)
  | f + 1, k, c, j, h => by
    have c : (chkRow k (rowB k) && chkAll f (k + 1) (rowB (k + 1))) = true := c
    obtain ⟨c1, c2⟩ := Bool.and_eq_true_iff.mp c
    cases j with
    | zero => exact c1
    | succ j =>
      have := chk_of c2 j (by omega)
      rw [show k + 1 + j = k + (j + 1) by omega] at this
      exact this
set_option exponentiation.threshold 400 in
theorem chk60 : chkAll 60 0 (rowB 0) = true := by decide +kernel
theorem closed {k a : Nat} (hk : k < 60) (h1 : 1 ≤ a) (h2 : a ≤ k) : (a : Int) * binL (2 * k - a) (k - a) / ((2 * k - a : Nat) : Int) = Bt k a := by
  have := chk_of chk60 k hk
  rw [Nat.zero_add] at this
  have := List.all_eq_true.mp this (a - 1) (List.mem_range.mpr (by omega))
  have := of_decide_eq_true this
  rw [show a - 1 + 1 = a by omega] at this
  rw [← this]
  exact Int.mul_ediv_cancel _ (by omega)
/-- count_by_spines, behind its check -/
def cbs (n l r : Int) : Int := if n = 0 then (if l = 0 ∧ r = 0 then 1 else 0) else if l < 1 ∨ r < 1 then 0 else Bt (n - 1).toNat (l + r - 2).toNat
theorem cbs_in {n l r : Int} (h0 : n ≠ 0) (hl : ¬ l < 1) (hr : ¬ r < 1) : cbs n l r = Bt (n - 1).toNat (l + r - 2).toNat := by
  unfold cbs
  rw [if_neg h0, if_neg (by omega)]
set_option exponentiation.threshold 3000 in
theorem BN_wide {n c : Int} (h : n ≤ 250) : (BN n c).natAbs < 2 ^ 2000 := by
  unfold BN
  split
  · exact Nat.two_pow_pos _
  · obtain ⟨c0, c1⟩ := binL_bd (n := n.toNat) (k := c.toNat) (by omega)
    have z1 : n.toNat ^ c.toNat ≤ 250 ^ c.toNat := Nat.pow_le_pow_left (by omega) _
    have z2 : (250 : Nat) ^ c.toNat ≤ 250 ^ 250 := Nat.pow_le_pow_right (by decide) (by omega)
    have z3 : (250 : Nat) ^ 250 < 2 ^ 2000 := by decide +kernel
    have e : (binL n.toNat c.toNat).natAbs ≤ n.toNat ^ c.toNat := by
      rw [← Int.natCast_pow] at c1
      omega
    exact Nat.lt_of_le_of_lt (Nat.le_trans e (Nat.le_trans z1 z2)) z3
set_option exponentiation.threshold 3000 in
theorem binL_wide2 {n k : Nat} (h : k ≤ n) (l : n ≤ 250) : (binL n k).natAbs < 2 ^ 2000 := by
  have := BN_wide (n := (n : Int)) (c := (k : Int)) (by omega)
  unfold BN at this
  rw [if_neg (by omega)] at this
  exact this
theorem bs_err {K : PySem.W.Frag} {cT cM : Value} {C : Addr} {key : Int} {H H1 : Hp} {E : XK} {Y : VK} (n1 : PySem.W.exmAny K (.ref C) [cT, cM] = some true) (X1 : XfC K C) (f1 : PySem.W.findIn K (.ref C) "tag" = some none) (f2 : PySem.W.findIn K (.ref C) "size" = some none) (e1 : Same H H1)
    (hE : ∀ cls d H', Xo K cT cM (fun v H' => ∃ (p : Addr) (x : V) (tag : Str) (y : V), v = .ref p ∧ H' p = some (.tup [x, .str tag, y]) ∧ ∀ r, H' r = none → Y (.ref r) (upd H' r (.tup [.str tag, y]))) cls d H' → E cls d H')
    (fin : ∀ r H3, Same H H3 → H3 r = some (.tup [.str "BadSize", .int key]) → Y (.ref r) H3) : EOw C "BadSize" "size" key H1 E := fun d Hf eF hdd =>
  hE _ _ _ ⟨n1, C, d, "BadSize", .int key, rfl, rfl, bears_mk X1 f1 f2 hdd (by decide +kernel) (by decide +kernel), fun pp Hx ex np hpp => ⟨pp, .non, "BadSize", .int key, rfl, hpp, fun rr nrr => fin rr _ (e1.trans (eF.trans (ex.trans (same_new nrr)))) upd_same⟩⟩
theorem Bt_nn : ∀ k a : Nat, 0 ≤ Bt k a
  | 0, a => by rw [Bt_0]; split <;> decide
  | k + 1, a => by
    cases a with
    | zero => rw [Bt_z]; decide
    | succ a =>
      have main : ∀ d a : Nat, k + 1 < a + d → 0 ≤ Bt (k + 1) a := fun d => by
        induction d with
        | zero => intro a h; rw [Bt_out (by omega)]; decide
        | succ d ih =>
          intro a h
          cases a with
          | zero => rw [Bt_z]; decide
          | succ a =>
            have h1 := Bt_nn k a
            have h2 := ih (a + 2) (by omega)
            rw [Bt_rec]; omega
      exact main (k + 1) (a + 1) (by omega)
theorem bd61 : ((List.range 62).all fun k => (rowB k).all fun x => decide (x.natAbs < 2 ^ 200)) = true := by decide +kernel
theorem Bt_bd {k a : Nat} (h : k ≤ 61) : (Bt k a).natAbs < 2 ^ 200 := by
  have := List.all_eq_true.mp bd61 k (List.mem_range.mpr (by omega))
  unfold Bt
  rw [List.getD_eq_getElem?_getD]
  cases e : (rowB k)[a]? with
  | none => exact Nat.two_pow_pos 200
  | some x => exact of_decide_eq_true (List.all_eq_true.mp this x (List.mem_of_getElem? e))
theorem RS.take {c : List V → HO} {H : Hp} : ∀ {X : List (List Int)} {vs : List V} (n : Nat), RS c H X vs → RS c H (X.take n) (vs.take n)
  | [], _, n, h => by rw [show _ = [] from h]; cases n <;> rfl
  | _ :: _, _, 0, _ => by rfl
  | _ :: _, _, n + 1, ⟨r, ws, h1, h2, h3⟩ => by rw [h1]; exact ⟨r, ws.take n, rfl, h2, RS.take n h3⟩
theorem range_take {α : Type} (f : Nat → α) (n : Nat) : ((List.range (n + 1)).map f).take n = (List.range n).map f := by
  rw [List.range_succ, List.map_append, List.take_left' (by rw [List.length_map, List.length_range])]
section
variable {X : Cx} {K : PySem.W.Frag}
theorem cr_sumK (h : X.K = K) (hc : X.calm = true) : CallR X (.builtin "sum") (rSum K) := h ▸ cr_sum hc
end
theorem row0_eq (m : Nat) : [V.int 1] ++ (List.replicate m [V.int 0]).flatten = (rowL m 0).map V.int := by
  unfold rowL
  induction m with
  | zero => rfl
  | succ m ih =>
    rw [List.range_succ, List.map_append, List.map_append, ← ih, List.replicate_succ', List.flatten_append, List.append_assoc]
    have : Bt 0 (m + 1) = 0 := by rw [Bt_0]; rfl
    rw [show ([m + 1].map (Bt 0)).map V.int = [V.int (Bt 0 (m + 1))] from rfl, this]
    rfl
theorem tot12 : ((List.range 13).all fun n => decide (sm (fun l => sm (fun r => cbs (n : Int) (l : Int) (r : Int)) (n + 1)) (n + 1) = Bt (n + 1) 1)) = true := by decide +kernel
theorem tot_12 {n : Nat} (h : n ≤ 12) : sm (fun l => sm (fun r => cbs (n : Int) (l : Int) (r : Int)) (n + 1)) (n + 1) = Bt (n + 1) 1 := of_decide_eq_true (List.all_eq_true.mp tot12 n (List.mem_range.mpr (by omega)))
theorem ct60 : ((List.range 61).all fun n => decide (BN (2 * (n : Int)) (n : Int) / ((n : Int) + 1) = Bt (n + 1) 1)) = true := by decide +kernel
theorem ct_60 {n : Nat} (h : n ≤ 60) : BN (2 * (n : Int)) (n : Int) / ((n : Int) + 1) = Bt (n + 1) 1 := of_decide_eq_true (List.all_eq_true.mp ct60 n (List.mem_range.mpr (by omega)))
theorem near60 : ((List.range 60).all fun n => decide (Bt (n + 2) 1 * ((n : Int) + 2) = Bt (n + 1) 1 * (4 * ((n : Int) + 1) - 2))) = true := by decide +kernel
theorem near_60 {n : Nat} (h : n < 60) : Bt (n + 2) 1 * ((n : Int) + 2) = Bt (n + 1) 1 * (4 * ((n : Int) + 1) - 2) := of_decide_eq_true (List.all_eq_true.mp near60 n (List.mem_range.mpr h))
theorem cbs_last : cbs 60 60 1 = 1 := by decide +kernel
theorem cbs_far {n l r : Int} (h : 0 < n) (hn : n ≤ 12) (g : 14 ≤ l ∨ 14 ≤ r) : cbs n l r = 0 := by
  unfold cbs
  rw [if_neg (by omega)]
  split
  · rfl
  · exact Bt_out (by omega)
theorem RS.ext {H H' : Hp} {c d : Addr} {ns : List Int} (hD : Drw c ns H d) (e : Ext d H H') : ∀ {X : List (List Int)} {vs : List V}, RS .lst H X vs → RS .lst H' X vs
  | [], _, h => h
  | xs :: _, _, ⟨r, ws, h1, h2, h3⟩ => ⟨r, ws, h1, e _ _ (fun z => by
      obtain ⟨_, _, _, g, _⟩ := hD
      rw [z, g] at h2
      have := HO.lst.inj (Option.some.inj h2)
      cases xs with
      | nil => cases this
      | cons x xs => cases (List.cons.inj this).1) h2, RS.ext hD e h3⟩
/-! ### promises -/
def spBinW : Sp := fun us H Q _ => ∃ (n c : Int), us = [.int n, .int c] ∧ 0 ≤ n ∧ n ≤ 250 ∧ -1000 ≤ c ∧ c ≤ 1000 ∧ Q (.int (BN n c)) H
def spSizeX (C : Addr) : Sp := fun us H Q E => ∃ (n : Int), us = [.int n] ∧ n.natAbs.log2 < 1920 ∧ (0 ≤ n → n ≤ 60 → Q .non H) ∧ (n < 0 ∨ 60 < n → EOw C "BadSize" "size" n H E)
def spCntT (C : Addr) : Sp := fun us H Q E => ∃ (n : Int), us = [.int n] ∧ n.natAbs.log2 < 1920 ∧ (0 ≤ n → n ≤ 60 → Q (.int (BN (2 * n) n / (n + 1))) H) ∧ (n < 0 ∨ 60 < n → EOw C "BadSize" "size" n H E)
def spCbs (C : Addr) : Sp := fun us H Q E => ∃ (n l r : Int), us = [.int n, .int l, .int r] ∧ n.natAbs.log2 < 1920 ∧ -100 ≤ l ∧ l ≤ 100 ∧ -100 ≤ r ∧ r ≤ 100 ∧ (0 ≤ n → n ≤ 60 → Q (.int (cbs n l r)) H) ∧ (n < 0 ∨ 60 < n → EOw C "BadSize" "size" n H E)
/-- the law's rows -/
def spByLeft : Sp := fun us H Q _ => ∃ (n m : Nat), us = [.int (n : Int), .int (m : Int)] ∧ n ≤ m ∧ m ≤ 61 ∧ n ≤ 60 ∧
  ∀ p vs H', Same H H' → H p = none → H' p = some (.lst vs) → RS .lst H' ((List.range (n + 1)).map (rowL m)) vs → Q (.ref p) H'
def spSpined (K : PySem.W.Frag) : Sp := fun us H Q _ => ∃ (a : Addr) (n m : Nat) (l r : Int) (vs : List V), us = [.ref a, .int (n : Int), .int l, .int r] ∧ SqL K H a vs ∧ RS .lst H ((List.range (n + 1)).map (rowL m)) vs ∧ 1 ≤ n ∧ n ≤ 60 ∧ l ≤ m + 1 ∧ r ≤ m + 1 ∧ m ≤ 61 ∧
  ∀ H', Same H H' → Q (.int (cbs n l r)) H'
end TT
/-! numbers of shapes by spines and of orders, for few keys; for k32 -/
namespace TT
open PySem PySem.Spec PyProof.Rows L2 HotX LamX T
/-- the key at a place -/
def plc (ks : List Int) (x : Int) : Int := ks.getD x.toNat 0
theorem plc_mono {ks : List Int} (as : ks.Pairwise (· < ·)) {x y : Int} (hx : 0 ≤ x ∧ x < ks.length) (hy : 0 ≤ y ∧ y < ks.length) : x < y ↔ plc ks x < plc ks y := by
  have gd : ∀ {z : Int}, 0 ≤ z ∧ z < ks.length → ks[z.toNat]? = some (plc ks z) := fun {z} hz => by
    unfold plc
    rw [List.getD_eq_getElem?_getD, List.getElem?_eq_getElem (by omega)]; rfl
  have lt : ∀ {a b : Int}, 0 ≤ a ∧ a < ks.length → 0 ≤ b ∧ b < ks.length → a < b → plc ks a < plc ks b := fun ha hb h => asc_idx as (gd ha) (gd hb) (by omega)
  constructor
  · exact lt hx hy
  · intro h
    rcases Int.lt_trichotomy x y with z | z | z
    · exact z
    · rw [z] at h; omega
    · have := lt hy hx z; omega
theorem plc_inj {ks : List Int} (as : ks.Pairwise (· < ·)) {x y : Int} (hx : 0 ≤ x ∧ x < ks.length) (hy : 0 ≤ y ∧ y < ks.length) (h : plc ks x = plc ks y) : x = y := by
  have h1 := plc_mono as hx hy
  have h2 := plc_mono as hy hx
  omega
theorem plc_lists {ks : List Int} (as : ks.Pairwise (· < ·)) : ∀ {a b : List Int}, (∀ x ∈ a, 0 ≤ x ∧ x < ks.length) → (∀ x ∈ b, 0 ≤ x ∧ x < ks.length) → (a.map (plc ks) = b.map (plc ks) ↔ a = b)
  | [], [], _, _ => by simp
  | [], _ :: _, _, _ => by simp
  | _ :: _, [], _, _ => by simp
  | x :: a, y :: b, ha, hb => by
    rw [List.map_cons, List.map_cons, List.cons.injEq, List.cons.injEq, plc_lists as (fun z hz => ha z (List.mem_cons_of_mem _ hz)) (fun z hz => hb z (List.mem_cons_of_mem _ hz))]
    constructor
    · rintro ⟨h1, h2⟩
      exact ⟨plc_inj as (ha x List.mem_cons_self) (hb y List.mem_cons_self) h1, h2⟩
    · rintro ⟨h1, h2⟩
      exact ⟨by rw [h1], h2⟩
theorem map_pre {f : Int → Int} : ∀ t : T, (mapT f t).pre = t.pre.map f
  | leaf => rfl
  | node l k r => by
    show f k :: ((mapT f l).pre ++ (mapT f r).pre) = (k :: (l.pre ++ r.pre)).map f
    rw [map_pre l, map_pre r, List.map_cons, List.map_append]
theorem map_lsp {f : Int → Int} : ∀ t : T, (mapT f t).lsp = t.lsp
  | leaf => rfl
  | node l k r => by show (mapT f l).lsp + 1 = l.lsp + 1; rw [map_lsp l]
theorem map_rsp {f : Int → Int} : ∀ t : T, (mapT f t).rsp = t.rsp
  | leaf => rfl
  | node l k r => by show (mapT f r).rsp + 1 = r.rsp + 1; rw [map_rsp r]
theorem ins_plc {ks xs : List Int} (as : ks.Pairwise (· < ·)) (h : ∀ x ∈ xs, 0 ≤ x ∧ x < ks.length) : insAll (xs.map (plc ks)) leaf = mapT (plc ks) (insAll xs leaf) :=
  map_insAll (t := leaf) fun x hx y hy => plc_mono as (h x hx) (h y (hy.resolve_right fun z => by cases z))
/-! ### spines -/
def spnL (x : List Int) : Nat × Nat := ((insAll x leaf).lsp, (insAll x leaf).rsp)
theorem spn_map {ks xs : List Int} (as : ks.Pairwise (· < ·)) (h : ∀ x ∈ xs, 0 ≤ x ∧ x < ks.length) : spnL (xs.map (plc ks)) = spnL xs := by
  unfold spnL
  rw [ins_plc as h, map_lsp, map_rsp]
theorem shapesL_plc (ks : List Int) : shapesL ks = (allP ks.length).map fun xs => xs.map (plc ks) := rfl
theorem spn_tab : ((List.range 6).all fun n => (List.range 6).all fun l => (List.range 6).all fun r => decide ((((allP n).filter fun xs => decide (spnL xs = (l, r))).length : Int) = cbs (n : Int) (l : Int) (r : Int))) = true := by decide +kernel
theorem spn_count {ks : List Int} (as : ks.Pairwise (· < ·)) (hk : ks.length ≤ 5) {l r : Nat} (hl : l ≤ 5) (hr : r ≤ 5) : (((shapesL ks).filter fun x => decide (spnL x = (l, r))).length : Int) = cbs (ks.length : Int) (l : Int) (r : Int) := by
  have h := List.all_eq_true.mp (List.all_eq_true.mp (List.all_eq_true.mp spn_tab ks.length (List.mem_range.mpr (by omega))) l (List.mem_range.mpr (by omega))) r (List.mem_range.mpr (by omega))
  rw [← of_decide_eq_true h, shapesL_plc, List.filter_map, List.length_map]
  congr 2
  refine List.filter_congr fun xs hx => ?_
  show decide (spnL (xs.map (plc ks)) = (l, r)) = _
  rw [spn_map as fun x h => allP_in hx h]
/-! ### orders -/
def placesL (n : Nat) : List Int := (List.range n).map fun (i : Nat) => (i : Int)
theorem ks_plc (ks : List Int) : ks = (placesL ks.length).map (plc ks) := by
  conv => lhs; rw [range_getD ks]
  unfold placesL
  rw [List.map_map]
  rfl
theorem ord_tab : ((List.range 6).all fun n => (allP n).all fun xs => decide ((((ordsL (placesL n)).filter fun o => decide ((insAll o leaf).pre = xs)).length : Int) = cntL xs)) = true := by decide +kernel
theorem cntN_map {ks : List Int} (as : ks.Pairwise (· < ·)) : ∀ {n : Nat} {xs : List Int}, (∀ x ∈ xs, 0 ≤ x ∧ x < ks.length) → cntN n (xs.map (plc ks)) = cntN n xs
  | 0, _, _ => rfl
  | n + 1, [], _ => rfl
  | n + 1, x :: r, h => by
    have e1 : (r.map (plc ks)).filter (fun y => decide (y < plc ks x)) = (r.filter fun y => decide (y < x)).map (plc ks) := by
      rw [List.filter_map]
      refine congrArg _ (List.filter_congr fun y hy => ?_)
      show decide (plc ks y < plc ks x) = _
      exact decide_eq_decide.mpr (plc_mono as (h y (List.mem_cons_of_mem _ hy)) (h x List.mem_cons_self)).symm
    have e2 : (r.map (plc ks)).filter (fun y => decide (plc ks x < y)) = (r.filter fun y => decide (x < y)).map (plc ks) := by
      rw [List.filter_map]
      refine congrArg _ (List.filter_congr fun y hy => ?_)
      show decide (plc ks x < plc ks y) = _
      exact decide_eq_decide.mpr (plc_mono as (h x List.mem_cons_self) (h y (List.mem_cons_of_mem _ hy))).symm
    show binL _ _ * cntN n ((r.map (plc ks)).filter _) * cntN n ((r.map (plc ks)).filter _) = binL _ _ * cntN n _ * cntN n _
    rw [e1, e2, List.length_map, List.length_map, cntN_map as fun y hy => h y (List.mem_cons_of_mem _ (List.mem_filter.mp hy).1), cntN_map as fun y hy => h y (List.mem_cons_of_mem _ (List.mem_filter.mp hy).1)]
theorem ord_count {ks x : List Int} (as : ks.Pairwise (· < ·)) (hk : ks.length ≤ 5) (hx : x ∈ shapesL ks) : (((ordsL ks).filter fun o => decide ((insAll o leaf).pre = x)).length : Int) = cntL x := by
  rw [shapesL_plc] at hx
  obtain ⟨xs, hxs, rfl⟩ := List.mem_map.mp hx
  have h := List.all_eq_true.mp (List.all_eq_true.mp ord_tab ks.length (List.mem_range.mpr (by omega))) xs hxs
  have hin : ∀ z ∈ xs, 0 ≤ z ∧ z < ks.length := fun z hz => allP_in hxs hz
  have ec : cntL (xs.map (plc ks)) = cntL xs := by
    unfold cntL
    rw [List.length_map, cntN_map as hin]
  rw [ec, ← of_decide_eq_true h]
  have eo : ordsL ks = (ordsL (placesL ks.length)).map (List.map (plc ks)) := by
    conv => lhs; rw [ks_plc ks]
    exact ords_map _ _
  rw [eo, List.filter_map, List.length_map]
  congr 2
  refine List.filter_congr fun o ho => ?_
  have hp := ords_perm ho
  have hon : ∀ z ∈ o, 0 ≤ z ∧ z < ks.length := fun z hz => by
    have := hp.mem_iff.mp hz
    obtain ⟨i, hi, rfl⟩ := List.mem_map.mp this
    have := List.mem_range.mp hi
    omega
  show decide ((insAll (o.map (plc ks)) leaf).pre = xs.map (plc ks)) = decide ((insAll o leaf).pre = xs)
  rw [ins_plc as hon, map_pre]
  exact decide_eq_decide.mpr (plc_lists as (fun z hz => by
    rcases mem_insAll.mp hz with h | h
    · exact hon z h
    · cases h) hin)
end TT
/-! a def that raises, called with its defaults -/
namespace TT
open PySem PySem.Spec PyProof.Rows L2 HotX LamX T
section
variable {X : Cx} {x : Str} {dvs : List V} {k : Nat} {sp : Sp} {e : Expr} {es : List Expr} {t : TA} {p pos : Pos} {CX : CXT} {E : XK}
theorem pe_calDX (c : CalD X.prog X.w X.K X.mg X.base CX x dvs k sp) (hx : Passes CX X E) (hr : Room k X.A) (hg : Gl X x) (ha : PA X (e :: es) t) (hdb : (x == ("__debug__" : Str)) = false := by decide) (he : starEach (e :: es) X.env = (false, eval e X.env) :: starEach es X.env := by rfl)
    (hpl : (backTo pos (starEach es X.env)).any (·.1) = false := by rfl) : PE X (.Call (.Name x p) (e :: es) [] pos) (tCall sp dvs E t) := by
  obtain ⟨f, fd, ps, ds, o, a, b, d, v⟩ := c.ex
  exact pe_call o hr hg a b d v hx ha hdb he hpl
end
end TT
/-! equal data with long lists -/
namespace TT
open PySem PySem.Spec PyProof.Rows L2 HotX LamX T
def EqvW (H : Hp) : Nat → V → V → Prop
  | 0, x, y => flatV x = true ∧ x = y
  | n + 1, x, y => (flatV x = true ∧ x = y) ∨ ∃ a b xs ys, x = .ref a ∧ y = .ref b ∧ ((H a = some (.lst xs) ∧ H b = some (.lst ys)) ∨ (H a = some (.tup xs) ∧ H b = some (.tup ys))) ∧ xs.length = ys.length ∧ xs.length ≤ 6000 ∧ ∀ (i : Nat) u v, xs[i]? = some u → ys[i]? = some v → EqvW H n u v
theorem EqvW.same {H H' : Hp} (e : Same H H') : ∀ {n : Nat} {x y : V}, EqvW H n x y → EqvW H' n x y
  | 0, _, _, h => (show flatV _ = true ∧ _ from h)
  | n + 1, _, _, h => by
    rcases h with h | ⟨a, b, xs, ys, e1, e2, h1, h2, h3, h4⟩
    · exact .inl h
    · refine .inr ⟨a, b, xs, ys, e1, e2, ?_, h2, h3, fun i u v a1 a2 => (h4 i u v a1 a2).same e⟩
      rcases h1 with ⟨p, q⟩ | ⟨p, q⟩
      · exact .inl ⟨e _ _ p, e _ _ q⟩
      · exact .inr ⟨e _ _ p, e _ _ q⟩
theorem EqvW.extN {H H' : Hp} (e : LamX.ExtN H H') : ∀ {n : Nat} {x y : V}, EqvW H n x y → EqvW H' n x y
  | 0, _, _, h => (show flatV _ = true ∧ _ from h)
  | n + 1, _, _, h => by
    rcases h with h | ⟨a, b, xs, ys, e1, e2, h1, h2, h3, h4⟩
    · exact .inl h
    · refine .inr ⟨a, b, xs, ys, e1, e2, ?_, h2, h3, fun i u v a1 a2 => (h4 i u v a1 a2).extN e⟩
      rcases h1 with ⟨p, q⟩ | ⟨p, q⟩
      · exact .inl ⟨e _ _ p (fun ps z => by cases z), e _ _ q (fun ps z => by cases z)⟩
      · exact .inr ⟨e _ _ p (fun ps z => by cases z), e _ _ q (fun ps z => by cases z)⟩
def spSameW (n : Nat) : Sp := fun vs H Q _ => ∃ x y, vs = [x, y] ∧ EqvW H n x y ∧ ∀ H', Same H H' → Q (.bl true) H'
theorem EqvW.cases {H : Hp} : ∀ {n : Nat} {x y : V}, EqvW H n x y → (flatV x = true ∧ x = y) ∨ ∃ m a b xs ys, n = m + 1 ∧ x = .ref a ∧ y = .ref b ∧ ((H a = some (.lst xs) ∧ H b = some (.lst ys)) ∨ (H a = some (.tup xs) ∧ H b = some (.tup ys))) ∧ xs.length = ys.length ∧ xs.length ≤ 6000 ∧ ∀ (i : Nat) u v, xs[i]? = some u → ys[i]? = some v → EqvW H m u v
  | 0, _, _, h => .inl h
  | n + 1, _, _, h => by
    rcases h with h | ⟨a, b, xs, ys, h⟩
    · exact .inl h
    · exact .inr ⟨n, a, b, xs, ys, rfl, h⟩
def spPrevW : Nat → Sp
  | 0 => fun _ _ _ _ => False
  | n + 1 => spSameW n
theorem EqvW.of {H : Hp} : ∀ {n : Nat} {x y : V}, Eqv H n x y → EqvW H n x y
  | 0, _, _, h => (show flatV _ = true ∧ _ from h)
  | n + 1, _, _, h => by
    rcases h with h | ⟨a, b, xs, ys, e1, e2, h1, h2, h3, h4⟩
    · exact .inl h
    · exact .inr ⟨a, b, xs, ys, e1, e2, h1, h2, by omega, fun i u v a1 a2 => .of (h4 i u v a1 a2)⟩
theorem EqvW.flat {H : Hp} {x : V} (h : flatV x = true) : ∀ {n : Nat}, EqvW H n x x
  | 0 => ⟨h, rfl⟩
  | _ + 1 => .inl ⟨h, rfl⟩
theorem eqvW_ints {H : Hp} {n : Nat} {a b : Addr} {ns : List Int} (ha : H a = some (.lst (ns.map V.int))) (hb : H b = some (.lst (ns.map V.int))) (hl : ns.length ≤ 6000) : EqvW H (n + 1) (.ref a) (.ref b) := by
  refine .inr ⟨a, b, _, _, rfl, rfl, .inl ⟨ha, hb⟩, rfl, by rw [List.length_map]; exact hl, fun i u v h1 h2 => ?_⟩
  rw [h1] at h2
  cases h2
  rw [List.getElem?_map] at h1
  obtain ⟨x, _, rfl⟩ := Option.map_eq_some_iff.mp h1
  exact .flat rfl
theorem eqvW_tri {H : Hp} {a b : Addr} {n : Nat} {x y z u v w : V} (ha : H a = some (.tup [x, y, z])) (hb : H b = some (.tup [u, v, w])) (h1 : EqvW H n x u) (h2 : EqvW H n y v) (h3 : EqvW H n z w) : EqvW H (n + 1) (.ref a) (.ref b) := by
  refine .inr ⟨a, b, _, _, rfl, rfl, .inr ⟨ha, hb⟩, rfl, by show 3 ≤ 6000; decide, fun i p q g1 g2 => ?_⟩
  match i, g1, g2 with
  | 0, g1, g2 => cases g1; cases g2; exact h1
  | 1, g1, g2 => cases g1; cases g2; exact h2
  | 2, g1, g2 => cases g1; cases g2; exact h3
  | n + 3, g1, g2 => cases g1
theorem eqvW_two {H : Hp} {a b : Addr} {n : Nat} {x y u v : V} (ha : H a = some (.lst [x, y])) (hb : H b = some (.lst [u, v])) (h1 : EqvW H n x u) (h2 : EqvW H n y v) : EqvW H (n + 1) (.ref a) (.ref b) := by
  refine .inr ⟨a, b, _, _, rfl, rfl, .inl ⟨ha, hb⟩, rfl, by show 2 ≤ 6000; decide, fun i p q g1 g2 => ?_⟩
  match i, g1, g2 with
  | 0, g1, g2 => cases g1; cases g2; exact h1
  | 1, g1, g2 => cases g1; cases g2; exact h2
  | n + 2, g1, g2 => cases g1
end TT
/-! lists of shapes: promises; for k32 -/
namespace TT
open PySem PySem.Spec PyProof.Rows L2 HotX LamX T
theorem walk_enT {K : PySem.W.Frag} {a : Addr} {xs : List V} : Walk (ItuT K a) xs.length (fun H => SqT K H a xs) (YPair (fun i => some (.int (i : Nat))) (fun i => xs[i]?)) := by
  refine ⟨fun i _ hi q => ⟨xs, xs[i], q, by simp [hi]⟩, fun _ q => ⟨xs, q, Nat.le_refl _⟩, fun i H v H' _ q y => ?_⟩
  obtain ⟨T, x, h1, h2, h3, h4⟩ := y
  exact ⟨T, .int (i : Nat), x, h1, h2, h3, rfl, h4 xs q⟩
theorem op_catAK {X : Cx} {K : PySem.W.Frag} (h : X.K = K) : OpR X (binaryOp .Add) (rCatA K) := h ▸ op_catA
theorem RS.extT {H H' : Hp} {fo : Addr} {us : List V} (hf : H fo = some (.lst us)) (e : Ext fo H H') : ∀ {rows : List (List Int)} {ws : List V}, RS .tup H rows ws → RS .tup H' rows ws
  | [], _, h => h
  | _ :: _, _, ⟨r, ws, h1, h2, h3⟩ => ⟨r, ws, h1, e _ _ (fun z => by rw [z, hf] at h2; cases h2) h2, RS.extT hf e h3⟩
theorem crs_take {k : Int} {L R : List (List Int)} {j : Nat} {l : List Int} (h : L[j]? = some l) : crs k (L.take (j + 1)) R = crs k (L.take j) R ++ R.map fun r => k :: (l ++ r) := by
  unfold crs
  rw [List.take_add_one, h, List.flatMap_append]
  simp
theorem crs_len {k : Int} {L R : List (List Int)} : (crs k L R).length = L.length * R.length := flat_len _ _ _ fun _ _ => List.length_map _
/-- the rows whose roots stand before a place -/
def upTo (ks : List Int) (i : Nat) : List (List Int) := (List.range i).flatMap fun i => crs (ks.getD i 0) (shapesL (ks.take i)) (shapesL (ks.drop (i + 1)))
theorem upTo_succ {ks : List Int} {i : Nat} : upTo ks (i + 1) = upTo ks i ++ crs (ks.getD i 0) (shapesL (ks.take i)) (shapesL (ks.drop (i + 1))) := by
  unfold upTo
  rw [List.range_succ, List.flatMap_append]
  simp
theorem upTo_all {ks : List Int} (h : 0 < ks.length) : upTo ks ks.length = shapesL ks := by
  obtain ⟨n, hn⟩ : ∃ n, ks.length = n + 1 := ⟨ks.length - 1, by omega⟩
  rw [shapesL_step hn, hn]; rfl
theorem upTo_len {ks : List Int} (h : ks.length ≤ 8) {i : Nat} (hi : i ≤ ks.length) : (upTo ks i).length ≤ 1430 := by
  rcases Nat.eq_zero_or_pos ks.length with z | z
  · obtain rfl : i = 0 := by omega
    exact Nat.zero_le _
  · have e : (upTo ks i).length ≤ (upTo ks ks.length).length := by
      obtain ⟨d, hd⟩ : ∃ d, ks.length = i + d := ⟨ks.length - i, by omega⟩
      rw [hd]
      clear hd
      induction d with
      | zero => exact Nat.le_refl _
      | succ d ih =>
        rw [← Nat.add_assoc, upTo_succ, List.length_append]
        omega
    rw [upTo_all z] at e
    exact Nat.le_trans e (shapesL_len h)
theorem RS.ofZip {H : Hp} : ∀ {ys : List (V × List Int)}, (∀ z ∈ ys, ∃ b, z.1 = .ref b ∧ H b = some (.tup (z.2.map V.int))) → RS .tup H (ys.map (·.2)) (ys.map (·.1))
  | [], _ => rfl
  | z :: ys, h => by
    obtain ⟨b, h1, h2⟩ := h z List.mem_cons_self
    exact ⟨b, ys.map (·.1), by rw [List.map_cons, h1], h2, RS.ofZip fun x hx => h x (List.mem_cons_of_mem _ hx)⟩
theorem RS.extD {H H' : Hp} {c d : Addr} {ms : List Int} (hD : Drw c ms H d) (e : Ext d H H') {rows : List (List Int)} {ws : List V} (h : RS .tup H rows ws) : RS .tup H' rows ws := by
  obtain ⟨_, _, _, g, _⟩ := hD
  exact h.extT g e
theorem eqvW_rows {H : Hp} {n : Nat} {a b : Addr} {rows : List (List Int)} {ws us : List V} (ha : H a = some (.lst ws)) (hb : H b = some (.lst us)) (h1 : RS .tup H rows ws) (h2 : RS .tup H rows us) (hl : rows.length ≤ 6000) (hr : ∀ r ∈ rows, r.length ≤ 6000) : EqvW H (n + 2) (.ref a) (.ref b) := by
  refine .inr ⟨a, b, ws, us, rfl, rfl, .inl ⟨ha, hb⟩, by rw [h1.len, h2.len], by rw [h1.len]; exact hl, fun i u v hu hv => ?_⟩
  obtain ⟨p, xs, rfl, hx, hp⟩ := h1.get i u hu
  obtain ⟨q, ys, rfl, hy, hq⟩ := h2.get i v hv
  rw [hx] at hy
  cases hy
  have lx := hr xs (List.mem_of_getElem? hx)
  refine .inr ⟨p, q, xs.map V.int, xs.map V.int, rfl, rfl, .inr ⟨hp, hq⟩, rfl, by rw [List.length_map]; exact lx, fun i u v hu hv => ?_⟩
  rw [hu] at hv
  cases hv
  rw [List.getElem?_map] at hu
  obtain ⟨y, _, rfl⟩ := Option.map_eq_some_iff.mp hu
  exact .flat rfl
theorem ords120 : ((List.range 6).all fun n => decide ((ordsL (List.range n)).length ≤ 120)) = true := by decide +kernel
theorem ords_le5 {ks : List Int} (h : ks.length ≤ 5) : (ordsL ks).length ≤ 120 := by
  have e : ordsL ks = (ordsL (List.range ks.length)).map (List.map fun i => ks.getD i 0) := by
    conv => lhs; rw [range_getD ks]
    exact ords_map _ _
  rw [e, List.length_map]
  exact of_decide_eq_true (List.all_eq_true.mp ords120 ks.length (List.mem_range.mpr (by omega)))
theorem spBin_W : ∀ us H Q E, spBin us H Q E → spBinW us H Q E := fun _ _ _ _ ⟨n, c, h, hc, hn, q⟩ => ⟨n, c, h, by omega, by omega, by omega, by omega, by
  have e : BN (n : Int) (c : Int) = binL n c := by
    unfold BN
    rw [if_neg (by omega)]; rfl
  rw [e]; exact q⟩
def spShO (K : PySem.W.Frag) (n : Nat) : Sp := fun us H Q _ => ∃ (a : Addr) (ks : List Int), us = [.ref a] ∧ Sq K H a (ks.map V.int) ∧ ks.length < n ∧ ks.length ≤ 8 ∧
  ∀ p ws H', Same H H' → H p = none → H' p = some (.lst ws) → RS .tup H' (shapesL ks) ws → Q (.ref p) H'
def spAllX (K : PySem.W.Frag) (C : Addr) : Sp := fun us H Q E => ∃ (a : Addr) (ks : List Int), us = [.ref a] ∧ Sq K H a (ks.map V.int) ∧ ks.length ≤ 100 ∧
  (ks.length ≤ 8 → ∀ p ws H', Same H H' → H p = none → H' p = some (.lst ws) → RS .tup H' (shapesL ks) ws → Q (.ref p) H') ∧ (8 < ks.length → EOw C "TooManyKeys" "limit" 8 H E)
def spBuildsQ (K : PySem.W.Frag) (n : Nat) : Sp := fun vs H Q _ => ∃ (a : Addr) (xs : List Int), vs = [.ref a] ∧ Sq K H a (xs.map V.int) ∧ xs.length < n ∧ xs.length ≤ 40 ∧ ∀ H', Same H H' → Q (.int (cntL xs)) H'
theorem flt1 {α : Type} (p : α → Bool) {x : α} (h : p x = true) : ([x].filter p).length = 1 := by simp [h]
theorem flt0 {α : Type} (p : α → Bool) {x : α} (h : ¬ p x = true) : ([x].filter p).length = 0 := by simp [h]
def spAllOrd5 (K : PySem.W.Frag) : Sp := fun us H Q _ => ∃ (a : Addr) (xs : List Int), us = [.ref a] ∧ SqL K H a (xs.map V.int) ∧ xs.length ≤ 5 ∧
  ∀ p ws H', Same H H' → H p = none → H' p = some (.lst ws) → RS .lst H' (ordsL xs) ws → Q (.ref p) H'
end TT
namespace TT
open PySem PySem.Spec PyProof.Rows L2
def topS (i : Nat) : Stmt := PySem.Challenge.pw_touchtrees_k32_lists_of_shapes_and_order.main.body.getD i (.Pass ⟨0, 0, 0, 0⟩)
def clsB : Stmt → List Stmt
  | .ClassDef (body := b) .. => b
  | _ => []
def clsS (i j : Nat) : Stmt := (clsB (topS i)).getD j (.Pass ⟨0, 0, 0, 0⟩)
abbrev s_restrict : Stmt := topS 7
theorem sc_restrict : FnScope ["shape", "low", "high", "key"] ["shape", "low", "high"] (defScope s_restrict) := ⟨rfl, rfl, rfl, by decide +kernel, rfl, by decide +kernel, by decide +kernel⟩
abbrev s_parts_of : Stmt := topS 8
theorem sc_parts_of : FnScope ["shape", "root"] ["shape"] (defScope s_parts_of) := ⟨rfl, rfl, rfl, by decide +kernel, rfl, by decide +kernel, by decide +kernel⟩
abbrev s_search_path : Stmt := topS 9
theorem sc_search_path : FnScope ["shape", "key", "path", "rest", "root", "left", "right"] ["shape", "key"] (defScope s_search_path) := ⟨rfl, rfl, rfl, by decide +kernel, rfl, by decide +kernel, by decide +kernel⟩
abbrev s_spine_lengths : Stmt := topS 10
theorem sc_spine_lengths : FnScope ["shape"] ["shape"] (defScope s_spine_lengths) := ⟨rfl, rfl, rfl, by decide +kernel, rfl, by decide +kernel, by decide +kernel⟩
abbrev s_binomial : Stmt := topS 14
theorem sc_binomial : FnScope ["size", "chosen", "number", "step"] ["size", "chosen"] (defScope s_binomial) := ⟨rfl, rfl, rfl, by decide +kernel, rfl, by decide +kernel, by decide +kernel⟩
abbrev s_check_size : Stmt := topS 15
theorem sc_check_size : FnScope ["size"] ["size"] (defScope s_check_size) := ⟨rfl, rfl, rfl, by decide +kernel, rfl, by decide +kernel, by decide +kernel⟩
abbrev s_count_by_spines : Stmt := topS 16
theorem sc_count_by_spines : FnScope ["size", "left", "right", "free", "rest"] ["size", "left", "right"] (defScope s_count_by_spines) := ⟨rfl, rfl, rfl, by decide +kernel, rfl, by decide +kernel, by decide +kernel⟩
abbrev s_count_orders : Stmt := topS 17
theorem sc_count_orders : FnScope ["shape", "left", "right"] ["shape"] (defScope s_count_orders) := ⟨rfl, rfl, rfl, by decide +kernel, rfl, by decide +kernel, by decide +kernel⟩
abbrev s_shapes_over : Stmt := topS 18
theorem sc_shapes_over : FnScope ["keys", "found", "at", "root", "rights", "left", "right"] ["keys"] (defScope s_shapes_over) := ⟨rfl, rfl, rfl, by decide +kernel, rfl, by decide +kernel, by decide +kernel⟩
abbrev s_all_shapes : Stmt := topS 19
theorem sc_all_shapes : FnScope ["keys"] ["keys"] (defScope s_all_shapes) := ⟨rfl, rfl, rfl, by decide +kernel, rfl, by decide +kernel, by decide +kernel⟩
abbrev s__law_start : Stmt := topS 21
theorem sc__law_start : FnScope ["_law_script"] ["_law_script"] (defScope s__law_start) := ⟨rfl, rfl, rfl, by decide +kernel, rfl, by decide +kernel, by decide +kernel⟩
abbrev s__law_take : Stmt := topS 22
theorem sc__law_take : FnScope ["_law_draw", "_law_many", "_law_cell", "_law_digit", "_law_square"] ["_law_draw", "_law_many"] (defScope s__law_take) := ⟨rfl, rfl, rfl, by decide +kernel, rfl, by decide +kernel, by decide +kernel⟩
abbrev s__law_of : Stmt := topS 23
theorem sc__law_of : FnScope ["_law_draw", "_law_some"] ["_law_draw", "_law_some"] (defScope s__law_of) := ⟨rfl, rfl, rfl, by decide +kernel, rfl, by decide +kernel, by decide +kernel⟩
abbrev s__law_shuffled : Stmt := topS 24
theorem sc__law_shuffled : FnScope ["_law_draw", "_law_some", "_law_found", "_law_one"] ["_law_draw", "_law_some"] (defScope s__law_shuffled) := ⟨rfl, rfl, rfl, by decide +kernel, rfl, by decide +kernel, by decide +kernel⟩
abbrev s__law_same : Stmt := topS 25
theorem sc__law_same : FnScope ["_law_found", "_law_due", "_law_one", "_law_other"] ["_law_found", "_law_due"] (defScope s__law_same) := ⟨rfl, rfl, rfl, by decide +kernel, rfl, by decide +kernel, by decide +kernel⟩
abbrev s__law_field : Stmt := topS 26
theorem sc__law_field : FnScope ["_law_e"] ["_law_e"] (defScope s__law_field) := ⟨rfl, rfl, rfl, by decide +kernel, rfl, by decide +kernel, by decide +kernel⟩
abbrev s__law_outcome : Stmt := topS 27
theorem sc__law_outcome : FnScope ["_law_ask", "_law_answer", "_law_tag", "_law_field_here", "_law_e"] ["_law_ask"] (defScope s__law_outcome) := ⟨rfl, rfl, rfl, by decide +kernel, rfl, by decide +kernel, by decide +kernel⟩
abbrev s__law_error : Stmt := topS 28
theorem sc__law_error : FnScope ["_law_ask"] ["_law_ask"] (defScope s__law_error) := ⟨rfl, rfl, rfl, by decide +kernel, rfl, by decide +kernel, by decide +kernel⟩
abbrev s__law_keys : Stmt := topS 29
theorem sc__law_keys : FnScope ["_law_draw", "_law_many", "_law_key", "_law_wide", "_law_found", "_law_k"] ["_law_draw", "_law_many"] (defScope s__law_keys) := ⟨rfl, rfl, rfl, by decide +kernel, rfl, by decide +kernel, by decide +kernel⟩
abbrev s__law_size : Stmt := topS 30
theorem sc__law_size : FnScope ["_law_draw", "_law_most"] ["_law_draw", "_law_most"] (defScope s__law_size) := ⟨rfl, rfl, rfl, by decide +kernel, rfl, by decide +kernel, by decide +kernel⟩
abbrev s__law_empty : Stmt := topS 31
theorem sc__law_empty : FnScope [] [] (defScope s__law_empty) := ⟨rfl, rfl, rfl, by decide +kernel, rfl, by decide +kernel, by decide +kernel⟩
abbrev s__law_place : Stmt := topS 32
theorem sc__law_place : FnScope ["_law_m", "_law_key", "_law_here", "_law_above", "_law_step", "_law_side"] ["_law_m", "_law_key"] (defScope s__law_place) := ⟨rfl, rfl, rfl, by decide +kernel, rfl, by decide +kernel, by decide +kernel⟩
abbrev s__law_tree : Stmt := topS 33
theorem sc__law_tree : FnScope ["_law_order", "_law_m", "_law_key"] ["_law_order"] (defScope s__law_tree) := ⟨rfl, rfl, rfl, by decide +kernel, rfl, by decide +kernel, by decide +kernel⟩
abbrev s__law_shape : Stmt := topS 34
theorem sc__law_shape : FnScope ["_law_m", "_law_found", "_law_line", "_law_key", "_law_side"] ["_law_m"] (defScope s__law_shape) := ⟨rfl, rfl, rfl, by decide +kernel, rfl, by decide +kernel, by decide +kernel⟩
abbrev s__law_some_shape : Stmt := topS 35
theorem sc__law_some_shape : FnScope ["_law_draw", "_law_keys_in", "_law_pick", "_law_order", "_law_k"] ["_law_draw", "_law_keys_in"] (defScope s__law_some_shape) := ⟨rfl, rfl, rfl, by decide +kernel, rfl, by decide +kernel, by decide +kernel⟩
abbrev s__law_all_shapes : Stmt := topS 36
theorem sc__law_all_shapes : FnScope ["_law_keys_in", "_law_found", "_law_lists", "_law_size_here", "_law_fresh", "_law_low", "_law_places", "_law_pos"] ["_law_keys_in"] (defScope s__law_all_shapes) := ⟨rfl, rfl, rfl, by decide +kernel, rfl, by decide +kernel, by decide +kernel⟩
abbrev s__law_paired : Stmt := topS 37
theorem sc__law_paired : FnScope ["_law_low", "_law_lefts", "_law_rights", "_law_found", "_law_left", "_law_right", "_law_pos"] ["_law_low", "_law_lefts", "_law_rights"] (defScope s__law_paired) := ⟨rfl, rfl, rfl, by decide +kernel, rfl, by decide +kernel, by decide +kernel⟩
abbrev s__law_choose : Stmt := topS 38
theorem sc__law_choose : FnScope ["_law_size_here", "_law_chosen", "_law_found", "_law_k"] ["_law_size_here", "_law_chosen"] (defScope s__law_choose) := ⟨rfl, rfl, rfl, by decide +kernel, rfl, by decide +kernel, by decide +kernel⟩
abbrev s__law_builds : Stmt := topS 39
theorem sc__law_builds : FnScope ["_law_order", "_law_low", "_law_high", "_law_key"] ["_law_order"] (defScope s__law_builds) := ⟨rfl, rfl, rfl, by decide +kernel, rfl, by decide +kernel, by decide +kernel⟩
abbrev s__law_all_orders : Stmt := topS 40
theorem sc__law_all_orders : FnScope ["_law_some", "_law_found", "_law_one", "_law_longer", "_law_row", "_law_at"] ["_law_some"] (defScope s__law_all_orders) := ⟨rfl, rfl, rfl, by decide +kernel, rfl, by decide +kernel, by decide +kernel⟩
abbrev s_law : Stmt := topS 41
theorem sc_law : FnScope ["_law_script", "_law_draw", "_law_keys_in", "_law_due", "_law_again", "_law_found", "_law_left", "_law_right", "_law_some", "_law_shape_in", "_law_ways", "_law_wide", "_law_more", "_law_order"] ["_law_script"] (defScope s_law) := ⟨rfl, rfl, rfl, by decide +kernel, rfl, by decide +kernel, by decide +kernel⟩
abbrev s_TreeError_init : Stmt := clsS 1 0
theorem sc_TreeError_init : FnScope ["self", "tag", "told"] ["self", "tag", "told"] (defScope s_TreeError_init) := ⟨rfl, rfl, rfl, by decide +kernel, rfl, by decide +kernel, by decide +kernel⟩
abbrev s_TooManyKeys_init : Stmt := clsS 2 0
theorem sc_TooManyKeys_init : FnScope ["self", "limit"] ["self", "limit"] (defScope s_TooManyKeys_init) := ⟨rfl, rfl, rfl, by decide +kernel, rfl, by decide +kernel, by decide +kernel⟩
abbrev s_BadSize_init : Stmt := clsS 3 0
theorem sc_BadSize_init : FnScope ["self", "size"] ["self", "size"] (defScope s_BadSize_init) := ⟨rfl, rfl, rfl, by decide +kernel, rfl, by decide +kernel, by decide +kernel⟩
abbrev s_Missing_init : Stmt := clsS 4 0
theorem sc_Missing_init : FnScope ["self", "tag", "told"] ["self", "tag", "told"] (defScope s_Missing_init) := ⟨rfl, rfl, rfl, by decide +kernel, rfl, by decide +kernel, by decide +kernel⟩
abbrev s_EmptyHistory_init : Stmt := clsS 5 0
theorem sc_EmptyHistory_init : FnScope ["self"] ["self"] (defScope s_EmptyHistory_init) := ⟨rfl, rfl, rfl, by decide +kernel, rfl, by decide +kernel, by decide +kernel⟩
/-- the built-ins that no name of the module hides -/
structure Blt (mg : Str → Option Value) : Prop where
  xall : mg "all" = none
  xbool : mg "bool" = none
  xenumerate : mg "enumerate" = none
  xint : mg "int" = none
  xisinstance : mg "isinstance" = none
  xlen : mg "len" = none
  xlist : mg "list" = none
  xmax : mg "max" = none
  xmin : mg "min" = none
  xrange : mg "range" = none
  xsorted : mg "sorted" = none
  xstr : mg "str" = none
  xtuple : mg "tuple" = none
  xzip : mg "zip" = none
structure Cst (mg : Str → Option Value) : Prop where
  MAX_SIZE : ∃ t : Tok, mg "MAX_SIZE" = some (.int 60 t)
  MAX_LISTED : ∃ t : Tok, mg "MAX_LISTED" = some (.int 8 t)
theorem pg_MAX_SIZE {X : Cx} {p : Pos} (g : Cst X.mg) (hg : Gl X "MAX_SIZE") : PE X (.Name "MAX_SIZE" p) (tC (.int 60)) := by
  obtain ⟨t, h⟩ := g.MAX_SIZE
  exact pe_glob hg h ⟨_, rfl⟩
theorem pg_MAX_LISTED {X : Cx} {p : Pos} (g : Cst X.mg) (hg : Gl X "MAX_LISTED") : PE X (.Name "MAX_LISTED" p) (tC (.int 8)) := by
  obtain ⟨t, h⟩ := g.MAX_LISTED
  exact pe_glob hg h ⟨_, rfl⟩
end TT
namespace TT
open PySem PySem.Spec PyProof.Rows L2
section
variable {P : Program} {w : World} {K : PySem.W.Frag} {mg : Str → Option Value} {base : Heap}
theorem ok_restrict {f : Addr} {fd : FuncData} {k : Nat} {kws : List (Str × V)} (F : FunD K "restrict" "restrict" (defArgs s_restrict) (defBody s_restrict) (defScope s_restrict) [] kws f fd) (B : Blt mg) : FnOk P w K mg base CX0 (k + 1) f fd ["shape", "low", "high"] (spRestrict K) := by
  refine F.ok sc_restrict (fun vs H Q E h => ?_) (fun cdv A outer s H vs Q E hr h => ?_)
  · obtain ⟨a, ks, lo, hi, rfl, _⟩ := h
    rfl
  · obtain ⟨a, ks, lo, hi, rfl, hS, hl, q⟩ := h
    refine ⟨_, (pss_one (ps_ret (pe_callTy call_tuple_of (by rfl) B.xtuple (by decide +kernel) (pa_cons (pe_lc (own := [("key", 3)]) (g := gName 3) (by rfl) sc_restrict.nd (pi_tup (pv 0)) (blkOk_by (own := [("key", 3)]) (N := ["shape", "low", "high", "key"]) (sc := defScope s_restrict) (by decide +kernel)) (fun _ _ _ _ _ => (pg_name (i := 3) sc_restrict.nd rfl (Or.inl rfl))) (fun _ _ _ _ _ => (pts_one (PW.pt (pw_and (PW.pt (pw_or (pt_cmp (pc_isN (pv 1))) (pw_or1 (pt_cmpR op_lt (pv 1) (pv 3) (nomark _))))) (pw_and1 (PW.pt (pw_or (pt_cmp (pc_isN (pv 2))) (pw_or1 (pt_cmpR op_lt (pv 3) (pv 2) (nomark _)))))))))) (fun _ _ _ _ _ => (pv 3))) pa_nil)))), ?_⟩
    refine ⟨.ref a, rfl, a, rfl, ⟨_, hS⟩, fun D nD => ?_⟩
    refine lc_tup (xs := ks.map V.int) (fun i H2 => Same H H2 ∧ H2 D = some (.lst (((ks.take i).filter fun x => okLo lo x && okHi hi x).map V.int))) ⟨same_new nD, upd_same⟩ (fun i H2 _ h => Same.tup h.1 hS) ?_ ?_
    · rintro i v H2 hv ⟨e2, hD2⟩
      rw [List.getElem?_map] at hv
      obtain ⟨x, hx, rfl⟩ := Option.map_eq_some_iff.mp hv
      have hi2 := (List.getElem?_eq_some_iff.mp hx).1
      have ht : ks.take (i + 1) = ks.take i ++ [x] := by rw [List.take_add_one, hx]; rfl
      have hlen : ((ks.take i).filter fun x => okLo lo x && okHi hi x).length ≤ ks.length := Nat.le_trans (List.length_filter_le ..) (List.length_take_le' ..)
      refine ⟨rfl, rd_lo (lo := lo) (x := x) rfl rfl ?_⟩
      have fin : okLo lo x = true → okHi hi x = true → ∃ acc, H2 D = some (.lst acc) ∧ acc.length < sizeLine ∧ (Same H (upd H2 D (.lst (acc ++ [V.int x]))) ∧ (upd H2 D (.lst (acc ++ [V.int x]))) D = some (.lst (((ks.take (i + 1)).filter fun x => okLo lo x && okHi hi x).map V.int))) := by
        intro h1 h2
        refine ⟨_, hD2, szl (by rw [List.length_map]; omega), Same.put e2 nD, ?_⟩
        rw [upd_same, ht, List.filter_append, List.map_append]
        simp [List.filter_cons, h1, h2]
      have skip : (okLo lo x && okHi hi x) = false → (Same H H2 ∧ H2 D = some (.lst (((ks.take (i + 1)).filter fun x => okLo lo x && okHi hi x).map V.int))) := by
        intro h1
        refine ⟨e2, ?_⟩
        rw [hD2, ht, List.filter_append]
        simp [List.filter_cons, h1]
      cases hlo : okLo lo x with
      | false => exact iteFd rfl (iteFd rfl (skip (by rw [hlo]; rfl)))
      | true =>
        refine iteTd rfl (rd_hi (hi := hi) (x := x) rfl rfl ?_)
        cases hhi : okHi hi x with
        | false => exact iteFd rfl (skip (by rw [hlo, hhi]; rfl))
        | true => exact iteTd rfl ⟨_, rfl, fin hlo hhi⟩
    · rintro H2 ⟨e2, hD2⟩
      rw [List.length_map, List.take_length] at hD2
      exact ⟨D, _, rfl, .inl ⟨SqL.of hD2, fun p np => q p _ (e2.trans (same_new np)) (e2.free np) upd_same⟩⟩
end
end TT
namespace TT
open PySem PySem.Spec PyProof.Rows L2
section
variable {P : Program} {w : World} {K : PySem.W.Frag} {mg : Str → Option Value} {base : Heap}
theorem ok_parts {f : Addr} {fd : FuncData} {k : Nat} (F : Fun K "parts_of" "parts_of" s_parts_of f fd) (k_restrict_high : CalN P w K mg base CX0 "restrict" 1 ["high"] k (spRestrict K) (fun vs zs => vs ++ [.non] ++ zs))
    (k_restrict_low : CalN P w K mg base CX0 "restrict" 1 ["low"] k (spRestrict K) (fun vs zs => vs ++ zs ++ [.non])) : FnOk P w K mg base CX0 (k + 1) f fd ["shape"] (spParts K) := by
  refine F.ok sc_parts_of (fun vs H Q E h => ?_) (fun cdv A outer s H vs Q E hr h => ?_)
  · obtain ⟨a, t, rfl, _⟩ := h
    rfl
  · obtain ⟨a, t, rfl, hS, hb, hl, q⟩ := h
    refine ⟨_, (pss_cons (ps_if (pt_not (pt_truth (pv 0) (fun _ => rfl)))
    (pss_one (ps_ret (pe_tup (pa_cons (pe_tup pa_nil) (pa_cons (pe_tup pa_nil) pa_nil)))))
    pss_nil)
  (pss_cons (ps_set (i := 1) sc_parts_of.nd rfl (Or.inl rfl) (pe_ix ix_tup (pv 0) pe_int (fun _ _ => rfl)))
  (pss_one (ps_ret (pe_tup (pa_cons (pe_calN k_restrict_high (hr.mono (by omega)) (by rfl) (pa_cons (pv 0) pa_nil) (pk_cons (pv 1) pk_nil)) (pa_cons (pe_calN k_restrict_low (hr.mono (by omega)) (by rfl) (pa_cons (pv 0) pa_nil) (pk_cons (pv 1) pk_nil)) pa_nil))))))), ?_⟩
    refine ⟨.ref a, rfl, _, .inr (.inl ⟨_, hS, rfl⟩), ?_⟩
    cases t with
    | leaf =>
      refine iteTd rfl ⟨Nat.zero_le _, fun l nl => ⟨Nat.zero_le _, fun r nr => ⟨sz (by show 2 ≤ 100000; decide), fun p np => ?_⟩⟩⟩
      have e1 := same_new (o := .tup []) nl
      have e2 := same_new (o := .tup []) nr
      have e3 := same_new (o := .tup [.ref l, .ref r]) np
      exact q p l r _ (e1.trans (e2.trans e3)) ((e1.trans e2).free np) upd_same (e3 _ _ (e2 _ _ upd_same)) (e3 _ _ upd_same)
    | node tl x tr =>
      refine iteFd rfl (rd_ixT 0 rfl hS rfl ?_)
      refine ⟨.ref a, rfl, .int x, rfl, rfl, rfl, a, _, none, some x, rfl, hS, hl, fun p1 H1 e1 np1 hp1 => ?_⟩
      refine ⟨.ref a, rfl, .int x, rfl, rfl, rfl, a, _, some x, none, rfl, Same.tup e1 hS, hl, fun p2 H2 e2 np2 hp2 => ⟨sz (by show 2 ≤ 100000; decide), fun p np => ?_⟩⟩
      have e3 := same_new (o := .tup [.ref p1, .ref p2]) np
      refine q p p1 p2 _ (e1.trans (e2.trans e3)) ((e1.trans e2).free np) upd_same (e3 _ _ (e2 _ _ ?_)) (e3 _ _ ?_)
      · rw [hp1]
        exact congrArg (fun l : List Int => some (HO.tup (l.map V.int))) (pre_lt hb)
      · rw [hp2, show (fun y => okLo (some x) y && okHi none y) = (fun y => decide (x < y)) from funext fun y => Bool.and_true _]
        exact congrArg (fun l : List Int => some (HO.tup (l.map V.int))) (pre_gt hb)
end
end TT
namespace TT
open PySem PySem.Spec PyProof.Rows L2
section
variable {P : Program} {w : World} {K : PySem.W.Frag} {mg : Str → Option Value} {base : Heap}
theorem ok_search {f : Addr} {fd : FuncData} {k : Nat} (F : Fun K "search_path" "search_path" s_search_path f fd) (c_parts_of : Cal P w K mg base CX0 "parts_of" ["shape"] k (spParts K)) : FnOk P w K mg base CX0 (k + 1) f fd ["shape", "key"] (spSearch K) := by
  refine F.ok sc_search_path (fun vs H Q E h => ?_) (fun cdv A outer s H vs Q E hr h => ?_)
  · obtain ⟨a, key, t, rfl, _⟩ := h
    rfl
  · obtain ⟨a, key, t, rfl, hS, hb, hl, q⟩ := h
    refine ⟨_, (pss_cons (ps_set (i := 2) sc_search_path.nd rfl (Or.inl rfl) (pe_lst pa_nil))
  (pss_cons (ps_set (i := 3) sc_search_path.nd rfl (Or.inl rfl) (pv 0))
  (pss_cons (ps_while PassesOwn.never (pt_truth (pv 3) (fun _ => rfl))
    (pss_cons (ps_set (i := 4) sc_search_path.nd rfl (Or.inl rfl) (pe_ix ix_tup (pv 3) pe_int (fun _ _ => rfl)))
  (pss_cons (ps_expr (pe_bm PySem.F.plainAttrs_list PySem.F.slot_list_append PySem.F.type_list_append mt_append (pv 2) (pa_cons (pv 4) pa_nil)))
  (pss_cons (ps_if (pt_cmpR op_eq (pv 1) (pv 4) (nomark _))
    (pss_one ps_break)
    pss_nil)
  (pss_cons (ps_asg (pe_cal c_parts_of (hr.mono (by omega)) (by rfl) (pa_cons (pv 3) pa_nil)) (pg_tup rfl (pgs_cons (pg_name (i := 5) sc_search_path.nd rfl (Or.inl rfl)) (pgs_cons (pg_name (i := 6) sc_search_path.nd rfl (Or.inl rfl)) pgs_nil))))
  (pss_one (ps_set (i := 3) sc_search_path.nd rfl (Or.inl rfl) (pe_ifExp (pt_cmpR op_lt (pv 1) (pv 4) (nomark _)) (pv 5) (pv 6)))))))))
  (pss_one (ps_ret (pv 2)))))), ?_⟩
    refine ⟨Nat.zero_le _, fun o no => ⟨.ref a, rfl, ?_⟩⟩
    let W : Nat → L2.St → Hp → Prop := fun m σ H3 => ∃ (u : T) (acc : List Int) (b : Addr) (y4 y5 y6 : Option V), σ = [some (.ref a), some (.int key), some (.ref o), some (.ref b), y4, y5, y6] ∧ Same H H3 ∧ H3 o = some (.lst (acc.map V.int)) ∧ SqT K H3 b (u.pre.map V.int) ∧ u.bst ∧ u.pre.length ≤ 1000 ∧ acc.length + u.pre.length ≤ 1000 ∧ acc ++ u.path key = t.path key ∧ m = u.pre.length
    refine ⟨W, ⟨_, t, [], a, none, none, none, rfl, same_new no, upd_same, Same.tup (same_new no) hS, hb, hl, by simpa using hl, rfl, rfl⟩, ?_⟩
    rintro m σ H3 ⟨u, acc, b, y4, y5, y6, rfl, e3, ho, hB, hub, hul, hal, hp, rfl⟩
    refine ⟨.ref b, rfl, _, .inr (.inl ⟨_, hB, rfl⟩), ?_⟩
    cases u with
    | leaf =>
      refine iteFd rfl ⟨.ref o, rfl, q o H3 e3 no ?_⟩
      rw [ho, ← hp]
      simp [T.path]
    | node ul x ur =>
      have hlen : (T.node ul x ur).pre.length = ul.pre.length + ur.pre.length + 1 := by
        show (x :: (ul.pre ++ ur.pre)).length = _
        rw [List.length_cons, List.length_append]
      refine iteTd rfl ⟨fun σ' H' => ∃ m', m' < (T.node ul x ur).pre.length ∧ W m' σ' H', fun _ _ h => h, ?_⟩
      -- root = rest[0]; path.append(root)
      refine rd_ixT 0 rfl hB rfl ⟨.ref o, rfl, .inl ⟨rfl, _, SqL.of ho⟩, .int x, rfl, o, _, _, rfl, rfl, ho, szl (by rw [List.length_map]; omega), ?_⟩
      have e4 : Same H (upd H3 o (.lst (acc.map V.int ++ [.int x]))) := Same.put e3 no
      have ho4 : (upd H3 o (.lst (acc.map V.int ++ [.int x]))) o = some (.lst ((acc ++ [x]).map V.int)) := by rw [upd_same, List.map_append]; rfl
      have hB4 : SqT K (upd H3 o (.lst (acc.map V.int ++ [.int x]))) b ((T.node ul x ur).pre.map V.int) := by
        rcases hB with (h | ⟨z, h⟩) | h
        · refine .inl (.inl ?_)
          rw [upd_ne (fun e => by rw [e, ho] at h; cases h)]
          exact h
        · refine .inl (.inr ⟨z, ?_⟩)
          rw [upd_ne (fun e => by rw [e, ho] at h; cases h)]
          exact h
        · exact .inr h
      generalize (upd H3 o (.lst (acc.map V.int ++ [.int x]))) = H4 at e4 ho4 hB4
      have hpath : (T.node ul x ur).path key = if key = x then [x] else if key < x then x :: ul.path key else x :: ur.path key := rfl
      -- if key == root: break
      refine ⟨.int key, rfl, .int x, rfl, rfl, _, rfl, ite2 (fun e => ?_) (fun e => ?_)⟩
      · have ek : key = x := V.int.inj (of_decide_eq_true e)
        refine ⟨.ref o, rfl, q o H4 e4 no ?_⟩
        rw [ho4, ← hp, hpath, if_pos ek]
      · have nk : ¬ key = x := fun z => e (decide_eq_true (congrArg V.int z))
        rw [hpath, if_neg nk] at hp
        -- left, right = parts_of(rest)
        refine ⟨.ref b, rfl, b, _, rfl, hB4, hub, hul, fun p l r H5 e5 np hp5 hl5 hr5 => ?_⟩
        refine ⟨p, _, rfl, SqT.of hp5, rfl, .ref l, [.ref r], rfl, .ref r, [], rfl, rfl, ?_⟩
        -- rest = left if key < root else right
        refine ⟨.int key, rfl, .int x, rfl, key, x, rfl, rfl, _, rfl, ite2 (fun e6 => ?_) (fun e6 => ?_)⟩
        · have lt : key < x := of_decide_eq_true e6
          rw [if_pos lt] at hp
          refine ⟨.ref l, rfl, _, ?_, ul, acc ++ [x], l, _, _, _, rfl, e4.trans e5, e5 _ _ ho4, SqT.of hl5, hub.2.2.1, by omega, by rw [List.length_append]; show acc.length + 1 + _ ≤ _; omega, ?_, rfl⟩
          · omega
          · rw [← hp, List.append_assoc]; rfl
        · have ge : ¬ key < x := fun z => e6 (decide_eq_true z)
          rw [if_neg ge] at hp
          refine ⟨.ref r, rfl, _, ?_, ur, acc ++ [x], r, _, _, _, rfl, e4.trans e5, e5 _ _ ho4, SqT.of hr5, hub.2.2.2, by omega, by rw [List.length_append]; show acc.length + 1 + _ ≤ _; omega, ?_, rfl⟩
          · omega
          · rw [← hp, List.append_assoc]; rfl
end
end TT
namespace TT
open PySem PySem.Spec PyProof.Rows L2
section
variable {P : Program} {w : World} {K : PySem.W.Frag} {mg : Str → Option Value} {base : Heap}
theorem ok_spl {f : Addr} {fd : FuncData} {k : Nat} (F : Fun K "spine_lengths" "spine_lengths" s_spine_lengths f fd) (B : Blt mg) (c_search_path : Cal P w K mg base CX0 "search_path" ["shape", "key"] k (spSearch K)) : FnOk P w K mg base CX0 (k + 1) f fd ["shape"] (spSpL K) := by
  refine F.ok sc_spine_lengths (fun vs H Q E h => ?_) (fun cdv A outer s H vs Q E hr h => ?_)
  · obtain ⟨a, t, rfl, _⟩ := h
    rfl
  · obtain ⟨a, t, rfl, hS, hb, hl, q⟩ := h
    refine ⟨_, (pss_cons (ps_if (pt_not (pt_truth (pv 0) (fun _ => rfl)))
    (pss_one (ps_ret (pe_tup (pa_cons pe_int (pa_cons pe_int pa_nil)))))
    pss_nil)
  (pss_one (ps_ret (pe_tup (pa_cons (pe_callB call_len_seq (by rfl) B.xlen PySem.boot_len (pa_cons (pe_cal c_search_path (hr.mono (by omega)) (by rfl) (pa_cons (pv 0) (pa_cons (pe_callB (cr_minT rfl) (by rfl) B.xmin (by decide +kernel) (pa_cons (pv 0) pa_nil)) pa_nil))) pa_nil)) (pa_cons (pe_callB call_len_seq (by rfl) B.xlen PySem.boot_len (pa_cons (pe_cal c_search_path (hr.mono (by omega)) (by rfl) (pa_cons (pv 0) (pa_cons (pe_callB (cr_maxT rfl) (by rfl) B.xmax (by decide +kernel) (pa_cons (pv 0) pa_nil)) pa_nil))) pa_nil)) pa_nil)))))), ?_⟩
    refine ⟨.ref a, rfl, _, .inr (.inl ⟨_, hS, rfl⟩), ?_⟩
    cases t with
    | leaf => exact iteTd rfl ⟨sz (by show 2 ≤ 100000; decide), fun p np => q p _ (same_new np) np upd_same⟩
    | node tl x tr =>
      have l0 : 0 < (T.node tl x tr).pre.length := by show 0 < (x :: _).length; rw [List.length_cons]; omega
      refine iteFd rfl ⟨.ref a, rfl, .ref a, rfl, a, _, rfl, hS, l0, fun m1 h1 h2 => ⟨a, m1, _, rfl, hS, hb, hl, fun p1 H1 e1 np1 hp1 => ⟨p1, _, rfl, .inl (SqL.of hp1), ?_⟩⟩⟩
      refine ⟨.ref a, rfl, .ref a, rfl, a, _, rfl, Same.tup e1 hS, l0, fun m2 h3 h4 => ⟨a, m2, _, rfl, Same.tup e1 hS, hb, hl, fun p2 H2 e2 np2 hp2 => ⟨p2, _, rfl, .inl (SqL.of hp2), sz (by show 2 ≤ 100000; decide), fun p np => ?_⟩⟩⟩
      refine q p _ ((e1.trans e2).trans (same_new np)) ((e1.trans e2).free np) ?_
      rw [upd_same, List.length_map, List.length_map, path_min hb h1 h2, path_max hb h3 h4]
end
end TT
namespace TT
open PySem PySem.Spec PyProof.Rows L2
section
variable {P : Program} {w : World} {K : PySem.W.Frag} {mg : Str → Option Value} {base : Heap}
theorem ok_binW {f : Addr} {fd : FuncData} {k : Nat} (F : Fun K "binomial" "binomial" s_binomial f fd) (B : Blt mg) : FnOk P w K mg base CX0 (k + 1) f fd ["size", "chosen"] spBinW := by
  refine F.ok sc_binomial (fun vs H Q E h => ?_) (fun cdv A outer s H vs Q E hr h => ?_)
  · obtain ⟨n, c, rfl, _⟩ := h
    rfl
  · obtain ⟨n, c, rfl, hn, hn2, hc, hc2, q⟩ := h
    refine ⟨_, (pss_cons (ps_if (PW.pt (pw_or (pt_cmpR op_lt (pv 1) pe_int (nomark _)) (pw_or1 (pt_cmpR op_gt (pv 1) (pv 0) (nomark _)))))
    (pss_one (ps_ret pe_int))
    pss_nil)
  (pss_cons (ps_set (i := 2) sc_binomial.nd rfl (Or.inl rfl) pe_int)
  (pss_cons (ps_for PassesOwn.never rfl (pi_range1 (by rfl) B.xrange (pa_cons (pv 1) pa_nil)) (pg_name (i := 3) sc_binomial.nd rfl (Or.inl rfl))
    (pss_one (ps_set (i := 2) sc_binomial.nd rfl (Or.inl rfl) (pe_op op_fdivW (pe_op op_mulW (pv 2) (pe_op op_sub (pv 0) (pv 3))) (pe_op op_add (pv 3) pe_int)))))
  (pss_one (ps_ret (pv 2)))))), ?_⟩
    by_cases a : c < 0
    · refine ⟨.int c, rfl, _, 0, rfl, rfl, _, rfl, iteTd (decide_eq_true a) ?_⟩
      have : BN n c = 0 := by unfold BN; rw [if_pos (.inl a)]
      rw [this] at q
      exact q
    · refine ⟨.int c, rfl, _, 0, rfl, rfl, _, rfl, iteFd (decide_eq_false a) ⟨.int c, rfl, .int n, rfl, _, _, rfl, rfl, _, rfl, ?_⟩⟩
      by_cases b : n < c
      · refine iteTd (decide_eq_true b) ?_
        have : BN n c = 0 := by unfold BN; rw [if_pos (.inr b)]
        rw [this] at q
        exact q
      · refine iteFd (decide_eq_false b) ?_
        have e : BN n c = binL n.toNat c.toNat := by unfold BN; rw [if_neg (by omega)]
        rw [e] at q
        refine ⟨.int c, rfl, c, rfl, by omega, by omega, for_range (n := c.toNat) (fun i σ H3 => ∃ y3, σ = [some (.int n), some (.int c), some (.int (binL n.toNat i)), y3] ∧ H3 = H) ⟨none, rfl, rfl⟩ ?_ ?_⟩
        · rintro i σ H3 hi ⟨y3, rfl, rfl⟩
          have b0 := binL_wide2 (n := n.toNat) (k := i) (by omega) (by omega)
          have p10 : (2 : Nat) ^ 10 = 1024 := by decide
          have m1 : CMulW (binL n.toNat i) (n - (0 + i)) := wide_mul (a := 2000) (b := 10) b0 (by omega) (by decide) (by decide) (by decide)
          have d1 : CDivW (binL n.toNat i * (n - (0 + i))) (0 + (i : Int) + 1) := wide_div (b := 10) (by omega) (by omega) (by decide) (by decide)
          refine ⟨_, rfl, .int n, rfl, .int (0 + i), rfl, _, _, rfl, rfl, _, _, rfl, rfl, m1, .int (0 + i), rfl, _, 1, rfl, rfl, _, _, rfl, rfl, d1, some (.int (0 + i)), ?_, rfl⟩
          rw [Int.zero_add]
          show _ = [some (V.int n), some (V.int c), some (V.int (binL n.toNat i * (((n.toNat : Nat) : Int) - i) / ((i : Int) + 1))), _]
          rw [show ((n.toNat : Nat) : Int) = n by omega]; rfl
        · rintro σ H3 ⟨y3, rfl, rfl⟩
          exact ⟨_, rfl, q⟩
end
end TT
namespace TT
open PySem PySem.Spec PyProof.Rows L2
section
variable {P : Program} {w : World} {K : PySem.W.Frag} {mg : Str → Option Value} {base : Heap}
theorem ok_sizeX {f : Addr} {fd : FuncData} {k : Nat} {C : Addr} (F : Fun K "check_size" "check_size" s_check_size f fd) (G : Cst mg) (x_BadSize : MkE P w K mg base "BadSize" ["self", "size"] k C (spOwnI K "BadSize" "size")) (f1 : PySem.W.findIn K (.ref C) "tag" = some none) (f2 : PySem.W.findIn K (.ref C) "size" = some none) : FnOk P w K mg base (L2N.CX P w) (k + 2) f fd ["size"] (spSizeX C) := by
  refine okN F sc_check_size (fun vs H Q E h => ?_) (fun cdv A outer s H vs Q E hr h => ?_)
  · obtain ⟨n, rfl, _⟩ := h
    rfl
  · obtain ⟨n, rfl, hn, q1, q2⟩ := h
    refine ⟨_, (pss_one (ps_if (PW.pt (pw_or (pt_cmpR op_lt (pv 0) pe_int (nomark _)) (pw_or1 (pt_cmpR op_gt (pv 0) (pg_MAX_SIZE G (by rfl)) (nomark _)))))
    (pss_one (ps_raiseE rfl takesN x_BadSize (hr.mono (by omega)) (by rfl) (pa_cons (pv 0) pa_nil)))
    pss_nil)), ?_⟩
    have hot : ∀ R : VK, R (.int n) H → tVar 0 [some (.int n)] H R := fun R h => ⟨.int n, rfl, h⟩
    by_cases a : n < 0
    · refine ⟨.int n, rfl, n, 0, rfl, rfl, _, rfl, iteTd (decide_eq_true a) ?_⟩
      exact rd_raise x_BadSize.T hn f1 f2 (fun R h => ⟨.int n, rfl, h⟩) (q2 (.inl a))
    · refine ⟨.int n, rfl, n, 0, rfl, rfl, _, rfl, iteFd (decide_eq_false a) ⟨.int n, rfl, n, 60, rfl, rfl, _, rfl, ?_⟩⟩
      by_cases b : 60 < n
      · refine iteTd (decide_eq_true b) ?_
        exact rd_raise x_BadSize.T hn f1 f2 (fun R h => ⟨.int n, rfl, h⟩) (q2 (.inr b))
      · exact iteFd (decide_eq_false b) (q1 (by omega) (by omega))
end
end TT
namespace TT
open PySem PySem.Spec PyProof.Rows L2
section
variable {P : Program} {w : World} {K : PySem.W.Frag} {mg : Str → Option Value} {base : Heap}
theorem ok_cbs {f : Addr} {fd : FuncData} {k : Nat} {C : Addr} (F : Fun K "count_by_spines" "count_by_spines" s_count_by_spines f fd) (c_check_size : Cal P w K mg base (L2N.CX P w) "check_size" ["size"] k (spSizeX C)) (c_binomial : Cal P w K mg base CX0 "binomial" ["size", "chosen"] k spBinW) : FnOk P w K mg base (L2N.CX P w) (k + 1) f fd ["size", "left", "right"] (spCbs C) := by
  refine okN F sc_count_by_spines (fun vs H Q E h => ?_) (fun cdv A outer s H vs Q E hr h => ?_)
  · obtain ⟨n, l, r, rfl, _⟩ := h
    rfl
  · obtain ⟨n, l, r, rfl, hn, l0, l1, r0, r1, q1, q2⟩ := h
    refine ⟨_, (pss_cons (ps_expr (pe_calX c_check_size passN (hr.mono (by omega)) (by rfl) (pa_cons (pv 0) pa_nil)))
  (pss_cons (ps_if (pt_cmpR op_eq (pv 0) pe_int (nomark _))
    (pss_one (ps_ret (pe_ifExp (PW.pt (pw_and (pt_cmpR op_eq (pv 1) pe_int (nomark _)) (pw_and1 (pt_cmpR op_eq (pv 2) pe_int (nomark _))))) pe_int pe_int)))
    pss_nil)
  (pss_cons (ps_set (i := 3) sc_count_by_spines.nd rfl (Or.inl rfl) (pe_op op_sub (pe_op op_add (pv 1) (pv 2)) pe_int))
  (pss_cons (ps_set (i := 4) sc_count_by_spines.nd rfl (Or.inl rfl) (pe_op op_sub (pe_op op_sub (pv 0) (pv 3)) pe_int))
  (pss_cons (ps_if (PW.pt (pw_or (pt_cmpR op_lt (pv 1) pe_int (nomark _)) (pw_or (pt_cmpR op_lt (pv 2) pe_int (nomark _)) (pw_or1 (pt_cmpR op_lt (pv 4) pe_int (nomark _))))))
    (pss_one (ps_ret pe_int))
    pss_nil)
  (pss_cons (ps_if (pt_cmpR op_eq (pv 3) pe_int (nomark _))
    (pss_one (ps_ret (pe_ifExp (pt_cmpR op_eq (pv 4) pe_int (nomark _)) pe_int pe_int)))
    pss_nil)
  (pss_one (ps_ret (pe_op op_fdivW (pe_op op_mulW (pv 3) (pe_cal c_binomial (hr.mono (by omega)) (by rfl) (pa_cons (pe_op op_add (pe_op op_mulW pe_int (pv 4)) (pv 3)) (pa_cons (pv 4) pa_nil)))) (pe_op op_add (pe_op op_mulW pe_int (pv 4)) (pv 3))))))))))), ?_⟩
    refine ⟨.int n, rfl, n, rfl, hn, fun h0 h1 => ?_, q2⟩
    have q := q1 h0 h1
    have p10 : (2 : Nat) ^ 10 = 1024 := by decide
    refine ⟨.int n, rfl, rfl, _, rfl, ?_⟩
    by_cases c0 : n = 0
    · subst c0
      refine iteTd rfl ?_
      unfold cbs at q
      rw [if_pos rfl] at q
      by_cases a : l = 0
      · refine ⟨.int l, rfl, rfl, _, rfl, iteTd (by simp [a]) ⟨.int r, rfl, rfl, _, rfl, ?_⟩⟩
        by_cases b : r = 0
        · rw [if_pos ⟨a, b⟩] at q
          exact iteTd (by simp [b]) q
        · rw [if_neg fun z => b z.2] at q
          exact iteFd (by simp [b]) q
      · refine ⟨.int l, rfl, rfl, _, rfl, iteFd (by simp [a]) ?_⟩
        rw [if_neg fun z => a z.1] at q
        exact q
    · refine iteFd (by simp [c0]) ?_
      refine ⟨.int l, rfl, .int r, rfl, _, _, rfl, rfl, _, 2, rfl, rfl, .int n, rfl, .int (l + r - 2), rfl, _, _, rfl, rfl, _, 1, rfl, rfl, ?_⟩
      unfold cbs at q
      rw [if_neg c0] at q
      refine ⟨.int l, rfl, l, 1, rfl, rfl, _, rfl, ?_⟩
      by_cases a : l < 1
      · rw [if_pos (.inl a)] at q
        exact iteTd (decide_eq_true a) q
      refine iteFd (decide_eq_false a) ⟨.int r, rfl, r, 1, rfl, rfl, _, rfl, ?_⟩
      by_cases b : r < 1
      · rw [if_pos (.inr b)] at q
        exact iteTd (decide_eq_true b) q
      rw [if_neg (by omega)] at q
      refine iteFd (decide_eq_false b) ⟨.int (n - (l + r - 2) - 1), rfl, _, 0, rfl, rfl, _, rfl, ?_⟩
      by_cases c : n - (l + r - 2) - 1 < 0
      · rw [Bt_out (by omega)] at q
        exact iteTd (decide_eq_true c) q
      refine iteFd (decide_eq_false c) ⟨.int (l + r - 2), rfl, rfl, _, rfl, ?_⟩
      by_cases z : l + r - 2 = 0
      · refine iteTd (by simp [z]) ⟨.int (n - (l + r - 2) - 1), rfl, rfl, _, rfl, ?_⟩
        rw [show (l + r - 2).toNat = 0 by omega] at q
        by_cases y : n - (l + r - 2) - 1 = 0
        · rw [show (n - 1).toNat = 0 by omega] at q
          exact iteTd (by simp [y]) q
        · obtain ⟨m, em⟩ : ∃ m, (n - 1).toNat = m + 1 := ⟨(n - 2).toNat, by omega⟩
          rw [em, Bt_z] at q
          exact iteFd (by simp [y]) q
      refine iteFd (by simp [z]) ?_
      have sml : ∀ x : Int, -1000 ≤ x → x ≤ 1000 → x.natAbs < 2 ^ 10 := fun x h1 h2 => by omega
      have m1 : CMulW 2 (n - (l + r - 2) - 1) := wide_mul (a := 10) (b := 10) (by decide) (sml _ (by omega) (by omega)) (by decide) (by decide) (by decide)
      have m2 : CMulW (l + r - 2) (BN (2 * (n - (l + r - 2) - 1) + (l + r - 2)) (n - (l + r - 2) - 1)) := wide_mul (a := 10) (b := 2000) (sml _ (by omega) (by omega)) (BN_wide (by omega)) (by decide) (by decide) (by decide)
      have d1 : CDivW ((l + r - 2) * BN (2 * (n - (l + r - 2) - 1) + (l + r - 2)) (n - (l + r - 2) - 1)) (2 * (n - (l + r - 2) - 1) + (l + r - 2)) := wide_div (b := 10) (by omega) (sml _ (by omega) (by omega)) (by decide) (by decide)
      refine ⟨.int (l + r - 2), rfl, .int (n - (l + r - 2) - 1), rfl, _, _, rfl, rfl, m1, .int (l + r - 2), rfl, _, _, rfl, rfl, .int (n - (l + r - 2) - 1), rfl, _, _, rfl, by omega, by omega, by omega, by omega, _, _, rfl, rfl, m2, .int (n - (l + r - 2) - 1), rfl, _, _, rfl, rfl, m1, .int (l + r - 2), rfl, _, _, rfl, rfl, _, _, rfl, rfl, d1, ?_⟩
      obtain ⟨kk, ek⟩ : ∃ kk : Nat, n = (kk : Int) + 1 := ⟨(n - 1).toNat, by omega⟩
      obtain ⟨aa, ea⟩ : ∃ aa : Nat, l + r - 2 = (aa : Int) := ⟨(l + r - 2).toNat, by omega⟩
      rw [ea] at q z c ⊢
      subst ek
      rw [show ((kk : Int) + 1 - 1).toNat = kk by omega, Int.toNat_natCast, ← closed (k := kk) (a := aa) (by omega) (by omega) (by omega)] at q
      have e1 : 2 * ((kk : Int) + 1 - aa - 1) + aa = ((2 * kk - aa : Nat) : Int) := by omega
      have e2 : ((kk : Int) + 1 - aa - 1) = ((kk - aa : Nat) : Int) := by omega
      rw [e1, e2]
      have e3 : BN ((2 * kk - aa : Nat) : Int) ((kk - aa : Nat) : Int) = binL (2 * kk - aa) (kk - aa) := by
        unfold BN
        rw [if_neg (by omega)]; rfl
      rw [e3]
      exact q
end
end TT
namespace TT
open PySem PySem.Spec PyProof.Rows L2
section
variable {P : Program} {w : World} {K : PySem.W.Frag} {mg : Str → Option Value} {base : Heap}
theorem ok_cntO1 {f : Addr} {fd : FuncData} {n k : Nat} (F : Fun K "count_orders" "count_orders" s_count_orders f fd) (B : Blt mg) (c_parts_of : Cal P w K mg base CX0 "parts_of" ["shape"] k (spParts K)) (c_binomial : Cal P w K mg base CX0 "binomial" ["size", "chosen"] k spBin) (c_count_orders : Cal P w K mg base CX0 "count_orders" ["shape"] (n + k) (spCntO K n)) : FnOk P w K mg base CX0 (n + k + 1) f fd ["shape"] (spCntO K (n + 1)) := by
  refine F.ok sc_count_orders (fun vs H Q E h => ?_) (fun cdv A outer s H vs Q E hr h => ?_)
  · obtain ⟨a, t, rfl, _⟩ := h
    rfl
  · obtain ⟨a, t, rfl, hS, hb, hn, hl, q⟩ := h
    refine ⟨_, (pss_cons (ps_if (pt_not (pt_truth (pv 0) (fun _ => rfl)))
    (pss_one (ps_ret pe_int))
    pss_nil)
  (pss_cons (ps_asg (pe_cal c_parts_of (hr.mono (by omega)) (by rfl) (pa_cons (pv 0) pa_nil)) (pg_tup rfl (pgs_cons (pg_name (i := 1) sc_count_orders.nd rfl (Or.inl rfl)) (pgs_cons (pg_name (i := 2) sc_count_orders.nd rfl (Or.inl rfl)) pgs_nil))))
  (pss_one (ps_ret (pe_op op_mulW (pe_op op_mulW (pe_cal c_binomial (hr.mono (by omega)) (by rfl) (pa_cons (pe_op op_add (pe_callB call_len_seq (by rfl) B.xlen PySem.boot_len (pa_cons (pv 1) pa_nil)) (pe_callB call_len_seq (by rfl) B.xlen PySem.boot_len (pa_cons (pv 2) pa_nil))) (pa_cons (pe_callB call_len_seq (by rfl) B.xlen PySem.boot_len (pa_cons (pv 1) pa_nil)) pa_nil))) (pe_cal c_count_orders (hr.mono (by omega)) (by rfl) (pa_cons (pv 1) pa_nil))) (pe_cal c_count_orders (hr.mono (by omega)) (by rfl) (pa_cons (pv 2) pa_nil))))))), ?_⟩
    refine ⟨.ref a, rfl, _, .inr (.inl ⟨_, hS, rfl⟩), ?_⟩
    cases t with
    | leaf => exact iteTd rfl (q H (.refl _))
    | node tl x tr =>
      have hlen : (T.node tl x tr).pre.length = tl.pre.length + tr.pre.length + 1 := by
        show (x :: (tl.pre ++ tr.pre)).length = _
        rw [List.length_cons, List.length_append]
      refine iteFd rfl ⟨.ref a, rfl, a, _, rfl, hS, hb, by omega, fun p l r H1 e1 np hp hl1 hr1 => ?_⟩
      refine ⟨p, _, rfl, SqT.of hp, rfl, .ref l, [.ref r], rfl, .ref r, [], rfl, rfl, ?_⟩
      have w1 : (binL (tl.pre.length + tr.pre.length) tl.pre.length).natAbs < 2 ^ 300 := binL_wide (by omega) (by omega)
      have w2 := cntL_wide (xs := tl.pre) (by omega) (b := 12001) (by omega)
      have w3 := cntL_wide (xs := tr.pre) (by omega) (b := 12001) (by omega)
      have m1 := wide_mul w1 w2 (by decide) (by decide) (by decide)
      have m2 := wide_mul (wide_lt w1 w2) w3 (by decide) (by decide) (by decide)
      refine ⟨.ref l, rfl, l, _, rfl, .inr (SqT.of hl1), .ref r, rfl, r, _, rfl, .inr (SqT.of hr1), _, _, rfl, rfl, .ref l, rfl, l, _, rfl, .inr (SqT.of hl1), tl.pre.length + tr.pre.length, tl.pre.length, ?_, by omega, by omega, ?_⟩
      · rw [List.length_map, List.length_map]; rfl
      refine ⟨.ref l, rfl, l, tl, rfl, SqT.of hl1, hb.2.2.1, by omega, by omega, fun H2 e2 => ⟨_, _, rfl, rfl, m1, ?_⟩⟩
      refine ⟨.ref r, rfl, r, tr, rfl, SqT.of (e2 _ _ hr1), hb.2.2.2, by omega, by omega, fun H3 e3 => ⟨_, _, rfl, rfl, m2, ?_⟩⟩
      have := q H3 (e1.trans (e2.trans e3))
      rw [cntL_node hb] at this
      exact this
theorem ok_cntO {f : Addr} {fd : FuncData} {k : Nat} (F : Fun K "count_orders" "count_orders" s_count_orders f fd) (B : Blt mg) (c_parts_of : Cal P w K mg base CX0 "parts_of" ["shape"] k (spParts K)) (c_binomial : Cal P w K mg base CX0 "binomial" ["size", "chosen"] k spBin) (gf : mg "count_orders" = some (.ref f)) (bf : Binds K fd ["shape"] []) : ∀ n, FnOk P w K mg base CX0 (n + k) f fd ["shape"] (spCntO K n)
  | 0 => ⟨fun _ _ _ _ h => by obtain ⟨_, _, _, _, _, h, _⟩ := h; omega, fun _ _ _ _ _ _ _ _ _ _ _ _ _ h => by obtain ⟨_, _, _, _, _, h, _⟩ := h; omega⟩
  | n + 1 => by
    have h := ok_cntO1 F B c_parts_of c_binomial ⟨f, fd, ok_cntO F B c_parts_of c_binomial gf bf n, gf, F.kp, bf⟩
    rw [show n + 1 + k = n + k + 1 by omega]
    exact h
end
end TT
namespace TT
open PySem PySem.Spec PyProof.Rows L2
section
variable {P : Program} {w : World} {K : PySem.W.Frag} {mg : Str → Option Value} {base : Heap}
theorem ok_shO1 {f : Addr} {fd : FuncData} {n k : Nat} (F : Fun K "shapes_over" "shapes_over" s_shapes_over f fd) (B : Blt mg) (c_shapes_over : Cal P w K mg base CX0 "shapes_over" ["keys"] (n + k) (spShO K n)) : FnOk P w K mg base CX0 (n + k + 1) f fd ["keys"] (spShO K (n + 1)) := by
  refine F.ok sc_shapes_over (fun vs H Q E h => ?_) (fun cdv A outer s H vs Q E hr h => ?_)
  · obtain ⟨a, ks, rfl, _⟩ := h
    rfl
  · obtain ⟨a, ks, rfl, hA, hn, l8, q⟩ := h
    have hu := hu_of hr
    rcases hA with hA | hA
    · refine ⟨_, (pss_cons (ps_if (pt_not (pt_truth (pv 0) (fun _ => rfl)))
    (pss_one (ps_ret (pe_lst (pa_cons (pe_tup pa_nil) pa_nil))))
    pss_nil)
  (pss_cons (ps_set (i := 1) sc_shapes_over.nd rfl (Or.inl rfl) (pe_lst pa_nil))
  (pss_cons (ps_for PassesOwn.never rfl (pi_enum (by rfl) B.xenumerate (pa_cons (pv 0) pa_nil)) (pg_tup rfl (pgs_cons (pg_name (i := 2) sc_shapes_over.nd rfl (Or.inl rfl)) (pgs_cons (pg_name (i := 3) sc_shapes_over.nd rfl (Or.inr rfl)) pgs_nil)))
    (pss_cons (ps_set (i := 4) sc_shapes_over.nd rfl (Or.inl rfl) (pe_cal c_shapes_over (hr.mono (by omega)) (by rfl) (pa_cons (pe_slice sl_list (pv 0) (po_some (pe_op op_add (pv 2) pe_int)) po_none) pa_nil)))
  (pss_one (ps_for PassesOwn.never rfl (pi_list (pe_cal c_shapes_over (hr.mono (by omega)) (by rfl) (pa_cons (pe_slice sl_list (pv 0) po_none (po_some (pv 2))) pa_nil))) (pg_name (i := 5) sc_shapes_over.nd rfl (Or.inr rfl))
    (pss_one (ps_expr (pe_bm PySem.F.plainAttrs_list PySem.F.slot_list_extend PySem.F.type_list_extend mt_extend (pv 1) (pa_cons (pe_lc (own := [("right", 6)]) (g := gName 6) (by rfl) sc_shapes_over.nd (pi_list (pv 4)) (blkOk_by (own := [("right", 6)]) (N := ["keys", "found", "at", "root", "rights", "left", "right"]) (sc := defScope s_shapes_over) (by decide +kernel)) (fun _ _ _ _ _ => (pg_name (i := 6) sc_shapes_over.nd rfl (Or.inl rfl))) (fun _ _ _ _ _ => pts_nil) (fun _ _ _ _ _ => (pe_op (op_catAK (K := K) rfl) (pe_op (op_catAK (K := K) rfl) (pe_tup (pa_cons (pv 3) pa_nil)) (pv 5)) (pv 6)))) pa_nil))))))))
  (pss_one (ps_ret (pv 1)))))), ?_⟩
      refine ⟨.ref a, rfl, _, .inl ⟨_, hA, rfl⟩, ?_⟩
      by_cases k0 : ks = []
      · subst k0
        refine iteTd rfl ⟨Nat.zero_le _, fun e ne => ⟨sz (by show 1 ≤ 100000; decide), fun p np => ?_⟩⟩
        have g1 := same_new (o := .tup []) ne
        have g2 := same_new (o := .lst [.ref e]) np
        exact q p [.ref e] _ (g1.trans g2) (g1.free np) upd_same (by rw [shapesL_nil]; exact RS.one (g2 _ _ upd_same))
      have kpos : 0 < ks.length := List.length_pos_iff.mpr k0
      refine iteFd (by cases ks with | nil => exact absurd rfl k0 | cons => rfl) ?_
      refine ⟨Nat.zero_le _, fun fo nfo => ?_⟩
      have g1 := same_new (o := .lst []) nfo
      refine ⟨.ref a, rfl, a, _, rfl, id (Same.seq g1 hA), for_it (walk_enum (xs := ks.map V.int)) (fun i σ H3 => ∃ y2 y3 y4 y5 ws, σ = [some (.ref a), some (.ref fo), y2, y3, y4, y5, none] ∧ Same H H3 ∧ H3 fo = some (.lst ws) ∧ RS .tup H3 (upTo ks i) ws) ⟨none, none, none, none, [], rfl, g1, upd_same, rfl⟩ (fun i σ H3 _ ⟨_, _, _, _, _, _, e, _⟩ => id (Same.seq e hA)) ?_ ?_⟩
      · rintro i v σ H3 H3' hi ⟨y2, y3, y4, y5, ws, rfl, e3, hfo, hR⟩ ⟨T, z1, z2, rfl, nT, rfl, ez1, hv⟩
        cases ez1
        have hv : (ks.map V.int)[i]? = some z2 := hv
        rw [List.getElem?_map] at hv
        obtain ⟨x, hx, rfl⟩ := Option.map_eq_some_iff.mp hv
        have hi2 := (List.getElem?_eq_some_iff.mp hx).1
        have g4 := same_new (o := .tup [.int (i : Nat), .int x]) nT
        have e4 := e3.trans g4
        refine ⟨T, _, rfl, SqT.of upd_same, rfl, .int (i : Nat), _, rfl, .int x, _, rfl, rfl, ?_⟩
        have hfo4 := g4 _ _ hfo
        have hR4 := hR.same g4
        have hA4 := Same.seq e4 hA
        generalize L2.upd H3 T (.tup [.int (i : Nat), .int x]) = H4 at e4 hfo4 hR4 hA4 ⊢
        clear g4 nT hfo hR e3
        refine ⟨.ref a, rfl, .int (i : Nat), rfl, _, 1, rfl, rfl, _, rfl, ?_⟩
        unfold tNoPart
        refine rd_slM hA4 fun sl H5 nsl e5 hsl => ?_
        rw [show ((i : Nat) : Int) + 1 = ((i + 1 : Nat) : Int) from rfl, cut_loI] at hsl
        refine ⟨sl, ks.drop (i + 1), rfl, .inl (SqL.of hsl), by rw [List.length_drop]; omega, by rw [List.length_drop]; omega, fun pr wr H6 e6 npr hpr hRr => ?_⟩
        have e46 := e5.trans e6
        have hfo6 := e46 _ _ hfo4
        have hA6 := Same.seq e46 hA4
        refine ⟨.ref a, rfl, .int (i : Nat), rfl, _, rfl, rd_slM hA6 fun s2 H7 ns2 e7 hs2 => ?_⟩
        rw [cut_hiI] at hs2
        have hfo7 := e7 _ _ hfo6
        refine ⟨s2, ks.take i, rfl, .inl (SqL.of hs2), by rw [List.length_take]; omega, by rw [List.length_take]; omega, fun pl wl H8 e8 npl hpl hRl => ?_⟩
        have e68 := e7.trans e8
        have e48 := e46.trans e68
        have hfo8 := e68 _ _ hfo6
        have hR8 := hR4.same e48
        have hpr8 := e68 _ _ hpr
        have hRr8 := hRr.same e68
        have plf : pl ≠ fo := fun z => by rw [z, hfo7] at npl; cases npl
        have prf : pr ≠ fo := fun z => by rw [z, e5 _ _ hfo4] at npr; cases npr
        have e08 := e4.trans e48
        clear hs2 hsl hpr hRr hfo6 hfo7 hfo4 hR4 hA4 hA6 e5 e6 e7 e8 npl npr e4 e46 e48 e68
        have lup := upTo_len (ks := ks) l8 (i := i + 1) (by omega)
        have gx : ks.getD i 0 = x := by rw [List.getD_eq_getElem?_getD, hx]; rfl
        rw [upTo_succ, List.length_append, crs_len] at lup
        have ll : ∀ ls ∈ shapesL (ks.take i), ls.length ≤ 8 := fun ls h => by rw [shp_len h, List.length_take]; omega
        have lr : ∀ rs ∈ shapesL (ks.drop (i + 1)), rs.length ≤ 8 := fun rs h => by rw [shp_len h, List.length_drop]; omega
        have lR : (shapesL (ks.drop (i + 1))).length ≤ 1430 := shapesL_len (by rw [List.length_drop]; omega)
        refine ⟨pl, rfl, ⟨_, SqL.of hpl⟩, for_list (xs := wl) (fun j σ H9 => ∃ y5 us, σ = [some (.ref a), some (.ref fo), some (.int (i : Nat)), some (.int x), some (.ref pr), y5, none] ∧ Same H H9 ∧ Ext fo H8 H9 ∧ H9 fo = some (.lst us) ∧ RS .tup H9 (upTo ks i ++ crs x ((shapesL (ks.take i)).take j) (shapesL (ks.drop (i + 1)))) us) ⟨y5, ws, rfl, e08, .refl _ _, hfo8, by rw [show crs x (List.take 0 (shapesL (ks.take i))) (shapesL (ks.drop (i + 1))) = [] from rfl, List.append_nil]; exact hR8⟩ (fun j σ H9 _ ⟨_, _, _, _, e, _⟩ => SqL.of (e _ _ plf hpl)) ?_ ?_⟩
        · rintro j v2 σ H9 hv2 ⟨y5, us, rfl, e9, x9, hfo9, hU⟩
          obtain ⟨l, ls, rfl, hl, hls⟩ := hRl.get j v2 hv2
          have lj := (List.getElem?_eq_some_iff.mp hl).1
          have lls := ll ls (List.mem_of_getElem? hl)
          have hls9 := x9 _ _ (fun z => by rw [z, hfo8] at hls; cases hls) hls
          have hpr9 := x9 _ _ prf hpr8
          have hRr9 := hRr8.extT hfo8 x9
          have lus := hU.len
          rw [List.length_append, crs_len, List.length_take, Nat.min_eq_left (by omega)] at lus
          have lmul : j * (shapesL (ks.drop (i + 1))).length ≤ (shapesL (ks.take i)).length * (shapesL (ks.drop (i + 1))).length := Nat.mul_le_mul_right _ (by omega)
          refine ⟨.ref fo, rfl, .inl ⟨rfl, _, SqL.of hfo9⟩, .ref pr, rfl, pr, rfl, ⟨_, SqL.of hpr9⟩, fun D nD => lc_list (xs := wr) (fun m H2 => Same H9 H2 ∧ ∃ vs, H2 D = some (.lst vs) ∧ RS .tup H2 (((shapesL (ks.drop (i + 1))).take m).map fun r => x :: (ls ++ r)) vs) ⟨same_new nD, [], upd_same, rfl⟩ (fun m H2 _ h => SqL.of (h.1 _ _ hpr9)) ?_ ?_⟩
          · rintro m v3 H10 hv3 ⟨e10, vs, hD, hV⟩
            obtain ⟨r, rs, rfl, hr3, hrs⟩ := hRr9.get m v3 hv3
            have lm := (List.getElem?_eq_some_iff.mp hr3).1
            have lrs := lr rs (List.mem_of_getElem? hr3)
            have hrs10 := e10 _ _ hrs
            have hls10 := e10 _ _ hls9
            refine ⟨rfl, .int x, rfl, sz (by show 1 ≤ 100000; decide), fun t1 nt1 => ?_⟩
            have g1 := same_new (o := .tup [.int x]) nt1
            refine ⟨.ref l, rfl, rd_catA upd_same (g1 _ _ hls10) (by rw [List.length_map]; show 1 + _ ≤ _; omega) fun p1 H11 e11 hp1 => ?_⟩
            have g11 := g1.trans e11
            refine ⟨.ref r, rfl, rd_catA hp1 (g11 _ _ hrs10) (by rw [List.length_append, List.length_map, List.length_map]; show 1 + _ + _ ≤ _; omega) fun p2 H12 e12 hp2 => ?_⟩
            have g12 := g11.trans e12
            have hD12 := g12 _ _ hD
            have hV12 := hV.same g12
            refine ⟨vs, hD12, szl (by rw [hV.len, List.length_map, List.length_take]; omega), Same.put (e10.trans g12) nD, _, upd_same, ?_⟩
            rw [List.take_add_one, hr3, List.map_append]
            refine RS.app (RS.one (c := .tup) ?_) (hV12.put (hV12.selfT hD12))
            rw [upd_ne (fun z => by rw [z, hD12] at hp2; cases hp2), hp2]
            simp
          · rintro H10 ⟨e10, vs, hD, hV⟩
            rw [hRr9.len, List.take_length] at hV
            have hfo10 := e10 _ _ hfo9
            have hU10 := hU.same e10
            have lvs := hV.len
            rw [List.length_map] at lvs
            refine ⟨fo, D, _, _, rfl, rfl, hfo10, hD, sz (by omega), _, _, rfl, Same.put (e9.trans e10) nfo, fun y o hy h => by rw [upd_ne hy]; exact e10 _ _ (x9 y o hy h), upd_same, ?_⟩
            rw [crs_take hl, ← List.append_assoc]
            exact RS.app (hV.put (hV.selfT hfo10)) (hU10.put (hU10.selfT hfo10))
        · rintro σ H9 ⟨y5, us, rfl, e9, x9, hfo9, hU⟩
          rw [hRl.len, List.take_length] at hU
          refine ⟨_, _, _, _, us, rfl, e9, hfo9, ?_⟩
          rw [upTo_succ, gx]
          exact hU
      · rintro σ H3 ⟨y2, y3, y4, y5, ws, rfl, e3, hfo, hR⟩
        rw [List.length_map, upTo_all kpos] at hR
        exact ⟨.ref fo, rfl, q fo ws H3 e3 nfo hfo hR⟩
    · refine ⟨_, (pss_cons (ps_if (pt_not (pt_truth (pv 0) (fun _ => rfl)))
    (pss_one (ps_ret (pe_lst (pa_cons (pe_tup pa_nil) pa_nil))))
    pss_nil)
  (pss_cons (ps_set (i := 1) sc_shapes_over.nd rfl (Or.inl rfl) (pe_lst pa_nil))
  (pss_cons (ps_for PassesOwn.never rfl (pi_enumT (by rfl) B.xenumerate (pa_cons (pv 0) pa_nil)) (pg_tup rfl (pgs_cons (pg_name (i := 2) sc_shapes_over.nd rfl (Or.inl rfl)) (pgs_cons (pg_name (i := 3) sc_shapes_over.nd rfl (Or.inr rfl)) pgs_nil)))
    (pss_cons (ps_set (i := 4) sc_shapes_over.nd rfl (Or.inl rfl) (pe_cal c_shapes_over (hr.mono (by omega)) (by rfl) (pa_cons (pe_slice sl_tupA (pv 0) (po_some (pe_op op_add (pv 2) pe_int)) po_none) pa_nil)))
  (pss_one (ps_for PassesOwn.never rfl (pi_list (pe_cal c_shapes_over (hr.mono (by omega)) (by rfl) (pa_cons (pe_slice sl_tupA (pv 0) po_none (po_some (pv 2))) pa_nil))) (pg_name (i := 5) sc_shapes_over.nd rfl (Or.inr rfl))
    (pss_one (ps_expr (pe_bm PySem.F.plainAttrs_list PySem.F.slot_list_extend PySem.F.type_list_extend mt_extend (pv 1) (pa_cons (pe_lc (own := [("right", 6)]) (g := gName 6) (by rfl) sc_shapes_over.nd (pi_list (pv 4)) (blkOk_by (own := [("right", 6)]) (N := ["keys", "found", "at", "root", "rights", "left", "right"]) (sc := defScope s_shapes_over) (by decide +kernel)) (fun _ _ _ _ _ => (pg_name (i := 6) sc_shapes_over.nd rfl (Or.inl rfl))) (fun _ _ _ _ _ => pts_nil) (fun _ _ _ _ _ => (pe_op (op_catAK (K := K) rfl) (pe_op (op_catAK (K := K) rfl) (pe_tup (pa_cons (pv 3) pa_nil)) (pv 5)) (pv 6)))) pa_nil))))))))
  (pss_one (ps_ret (pv 1)))))), ?_⟩
      refine ⟨.ref a, rfl, _, .inr (.inl ⟨_, hA, rfl⟩), ?_⟩
      by_cases k0 : ks = []
      · subst k0
        refine iteTd rfl ⟨Nat.zero_le _, fun e ne => ⟨sz (by show 1 ≤ 100000; decide), fun p np => ?_⟩⟩
        have g1 := same_new (o := .tup []) ne
        have g2 := same_new (o := .lst [.ref e]) np
        exact q p [.ref e] _ (g1.trans g2) (g1.free np) upd_same (by rw [shapesL_nil]; exact RS.one (g2 _ _ upd_same))
      have kpos : 0 < ks.length := List.length_pos_iff.mpr k0
      refine iteFd (by cases ks with | nil => exact absurd rfl k0 | cons => rfl) ?_
      refine ⟨Nat.zero_le _, fun fo nfo => ?_⟩
      have g1 := same_new (o := .lst []) nfo
      refine ⟨.ref a, rfl, a, _, rfl, id (Same.tup g1 hA), for_it (walk_enT (xs := ks.map V.int)) (fun i σ H3 => ∃ y2 y3 y4 y5 ws, σ = [some (.ref a), some (.ref fo), y2, y3, y4, y5, none] ∧ Same H H3 ∧ H3 fo = some (.lst ws) ∧ RS .tup H3 (upTo ks i) ws) ⟨none, none, none, none, [], rfl, g1, upd_same, rfl⟩ (fun i σ H3 _ ⟨_, _, _, _, _, _, e, _⟩ => id (Same.tup e hA)) ?_ ?_⟩
      · rintro i v σ H3 H3' hi ⟨y2, y3, y4, y5, ws, rfl, e3, hfo, hR⟩ ⟨T, z1, z2, rfl, nT, rfl, ez1, hv⟩
        cases ez1
        have hv : (ks.map V.int)[i]? = some z2 := hv
        rw [List.getElem?_map] at hv
        obtain ⟨x, hx, rfl⟩ := Option.map_eq_some_iff.mp hv
        have hi2 := (List.getElem?_eq_some_iff.mp hx).1
        have g4 := same_new (o := .tup [.int (i : Nat), .int x]) nT
        have e4 := e3.trans g4
        refine ⟨T, _, rfl, SqT.of upd_same, rfl, .int (i : Nat), _, rfl, .int x, _, rfl, rfl, ?_⟩
        have hfo4 := g4 _ _ hfo
        have hR4 := hR.same g4
        have hA4 := Same.tup e4 hA
        generalize L2.upd H3 T (.tup [.int (i : Nat), .int x]) = H4 at e4 hfo4 hR4 hA4 ⊢
        clear g4 nT hfo hR e3
        refine ⟨.ref a, rfl, .int (i : Nat), rfl, _, 1, rfl, rfl, _, rfl, ?_⟩
        unfold tNoPart
        refine rd_slX hA4 fun sl H5 e5 hsl => ?_
        rw [show ((i : Nat) : Int) + 1 = ((i + 1 : Nat) : Int) from rfl, cut_loI] at hsl
        refine ⟨sl, ks.drop (i + 1), rfl, .inr (id hsl), by rw [List.length_drop]; omega, by rw [List.length_drop]; omega, fun pr wr H6 e6 npr hpr hRr => ?_⟩
        have e46 := e5.trans e6
        have hfo6 := e46 _ _ hfo4
        have hA6 := Same.tup e46 hA4
        refine ⟨.ref a, rfl, .int (i : Nat), rfl, _, rfl, rd_slX hA6 fun s2 H7 e7 hs2 => ?_⟩
        rw [cut_hiI] at hs2
        have hfo7 := e7 _ _ hfo6
        refine ⟨s2, ks.take i, rfl, .inr (id hs2), by rw [List.length_take]; omega, by rw [List.length_take]; omega, fun pl wl H8 e8 npl hpl hRl => ?_⟩
        have e68 := e7.trans e8
        have e48 := e46.trans e68
        have hfo8 := e68 _ _ hfo6
        have hR8 := hR4.same e48
        have hpr8 := e68 _ _ hpr
        have hRr8 := hRr.same e68
        have plf : pl ≠ fo := fun z => by rw [z, hfo7] at npl; cases npl
        have prf : pr ≠ fo := fun z => by rw [z, e5 _ _ hfo4] at npr; cases npr
        have e08 := e4.trans e48
        clear hs2 hsl hpr hRr hfo6 hfo7 hfo4 hR4 hA4 hA6 e5 e6 e7 e8 npl npr e4 e46 e48 e68
        have lup := upTo_len (ks := ks) l8 (i := i + 1) (by omega)
        have gx : ks.getD i 0 = x := by rw [List.getD_eq_getElem?_getD, hx]; rfl
        rw [upTo_succ, List.length_append, crs_len] at lup
        have ll : ∀ ls ∈ shapesL (ks.take i), ls.length ≤ 8 := fun ls h => by rw [shp_len h, List.length_take]; omega
        have lr : ∀ rs ∈ shapesL (ks.drop (i + 1)), rs.length ≤ 8 := fun rs h => by rw [shp_len h, List.length_drop]; omega
        have lR : (shapesL (ks.drop (i + 1))).length ≤ 1430 := shapesL_len (by rw [List.length_drop]; omega)
        refine ⟨pl, rfl, ⟨_, SqL.of hpl⟩, for_list (xs := wl) (fun j σ H9 => ∃ y5 us, σ = [some (.ref a), some (.ref fo), some (.int (i : Nat)), some (.int x), some (.ref pr), y5, none] ∧ Same H H9 ∧ Ext fo H8 H9 ∧ H9 fo = some (.lst us) ∧ RS .tup H9 (upTo ks i ++ crs x ((shapesL (ks.take i)).take j) (shapesL (ks.drop (i + 1)))) us) ⟨y5, ws, rfl, e08, .refl _ _, hfo8, by rw [show crs x (List.take 0 (shapesL (ks.take i))) (shapesL (ks.drop (i + 1))) = [] from rfl, List.append_nil]; exact hR8⟩ (fun j σ H9 _ ⟨_, _, _, _, e, _⟩ => SqL.of (e _ _ plf hpl)) ?_ ?_⟩
        · rintro j v2 σ H9 hv2 ⟨y5, us, rfl, e9, x9, hfo9, hU⟩
          obtain ⟨l, ls, rfl, hl, hls⟩ := hRl.get j v2 hv2
          have lj := (List.getElem?_eq_some_iff.mp hl).1
          have lls := ll ls (List.mem_of_getElem? hl)
          have hls9 := x9 _ _ (fun z => by rw [z, hfo8] at hls; cases hls) hls
          have hpr9 := x9 _ _ prf hpr8
          have hRr9 := hRr8.extT hfo8 x9
          have lus := hU.len
          rw [List.length_append, crs_len, List.length_take, Nat.min_eq_left (by omega)] at lus
          have lmul : j * (shapesL (ks.drop (i + 1))).length ≤ (shapesL (ks.take i)).length * (shapesL (ks.drop (i + 1))).length := Nat.mul_le_mul_right _ (by omega)
          refine ⟨.ref fo, rfl, .inl ⟨rfl, _, SqL.of hfo9⟩, .ref pr, rfl, pr, rfl, ⟨_, SqL.of hpr9⟩, fun D nD => lc_list (xs := wr) (fun m H2 => Same H9 H2 ∧ ∃ vs, H2 D = some (.lst vs) ∧ RS .tup H2 (((shapesL (ks.drop (i + 1))).take m).map fun r => x :: (ls ++ r)) vs) ⟨same_new nD, [], upd_same, rfl⟩ (fun m H2 _ h => SqL.of (h.1 _ _ hpr9)) ?_ ?_⟩
          · rintro m v3 H10 hv3 ⟨e10, vs, hD, hV⟩
            obtain ⟨r, rs, rfl, hr3, hrs⟩ := hRr9.get m v3 hv3
            have lm := (List.getElem?_eq_some_iff.mp hr3).1
            have lrs := lr rs (List.mem_of_getElem? hr3)
            have hrs10 := e10 _ _ hrs
            have hls10 := e10 _ _ hls9
            refine ⟨rfl, .int x, rfl, sz (by show 1 ≤ 100000; decide), fun t1 nt1 => ?_⟩
            have g1 := same_new (o := .tup [.int x]) nt1
            refine ⟨.ref l, rfl, rd_catA upd_same (g1 _ _ hls10) (by rw [List.length_map]; show 1 + _ ≤ _; omega) fun p1 H11 e11 hp1 => ?_⟩
            have g11 := g1.trans e11
            refine ⟨.ref r, rfl, rd_catA hp1 (g11 _ _ hrs10) (by rw [List.length_append, List.length_map, List.length_map]; show 1 + _ + _ ≤ _; omega) fun p2 H12 e12 hp2 => ?_⟩
            have g12 := g11.trans e12
            have hD12 := g12 _ _ hD
            have hV12 := hV.same g12
            refine ⟨vs, hD12, szl (by rw [hV.len, List.length_map, List.length_take]; omega), Same.put (e10.trans g12) nD, _, upd_same, ?_⟩
            rw [List.take_add_one, hr3, List.map_append]
            refine RS.app (RS.one (c := .tup) ?_) (hV12.put (hV12.selfT hD12))
            rw [upd_ne (fun z => by rw [z, hD12] at hp2; cases hp2), hp2]
            simp
          · rintro H10 ⟨e10, vs, hD, hV⟩
            rw [hRr9.len, List.take_length] at hV
            have hfo10 := e10 _ _ hfo9
            have hU10 := hU.same e10
            have lvs := hV.len
            rw [List.length_map] at lvs
            refine ⟨fo, D, _, _, rfl, rfl, hfo10, hD, sz (by omega), _, _, rfl, Same.put (e9.trans e10) nfo, fun y o hy h => by rw [upd_ne hy]; exact e10 _ _ (x9 y o hy h), upd_same, ?_⟩
            rw [crs_take hl, ← List.append_assoc]
            exact RS.app (hV.put (hV.selfT hfo10)) (hU10.put (hU10.selfT hfo10))
        · rintro σ H9 ⟨y5, us, rfl, e9, x9, hfo9, hU⟩
          rw [hRl.len, List.take_length] at hU
          refine ⟨_, _, _, _, us, rfl, e9, hfo9, ?_⟩
          rw [upTo_succ, gx]
          exact hU
      · rintro σ H3 ⟨y2, y3, y4, y5, ws, rfl, e3, hfo, hR⟩
        rw [List.length_map, upTo_all kpos] at hR
        exact ⟨.ref fo, rfl, q fo ws H3 e3 nfo hfo hR⟩
theorem ok_shO {f : Addr} {fd : FuncData} {k : Nat} (F : Fun K "shapes_over" "shapes_over" s_shapes_over f fd) (B : Blt mg) (gf : mg "shapes_over" = some (.ref f)) (bf : Binds K fd ["keys"] []) : ∀ n, FnOk P w K mg base CX0 (n + k) f fd ["keys"] (spShO K n)
  | 0 => ⟨fun _ _ _ _ h => by obtain ⟨_, _, _, _, h, _⟩ := h; omega, fun _ _ _ _ _ _ _ _ _ _ _ _ _ h => by obtain ⟨_, _, _, _, h, _⟩ := h; omega⟩
  | n + 1 => by
    have h := ok_shO1 (k := k) F B ⟨f, fd, ok_shO (k := k) F B gf bf n, gf, F.kp, bf⟩
    rw [show n + 1 + k = n + k + 1 by omega]
    exact h
end
end TT
namespace TT
open PySem PySem.Spec PyProof.Rows L2
section
variable {P : Program} {w : World} {K : PySem.W.Frag} {mg : Str → Option Value} {base : Heap}
theorem ok_allX {f : Addr} {fd : FuncData} {k : Nat} {C : Addr} (F : Fun K "all_shapes" "all_shapes" s_all_shapes f fd) (B : Blt mg) (G : Cst mg) (c_shapes_over : Cal P w K mg base CX0 "shapes_over" ["keys"] k (spShO K 9))
    (x_TooManyKeys : MkE P w K mg base "TooManyKeys" ["self", "limit"] k C (spOwnI K "TooManyKeys" "limit")) (f1 : PySem.W.findIn K (.ref C) "tag" = some none) (f2 : PySem.W.findIn K (.ref C) "limit" = some none) : FnOk P w K mg base (L2N.CX P w) (k + 2) f fd ["keys"] (spAllX K C) := by
  refine okN F sc_all_shapes (fun vs H Q E h => ?_) (fun cdv A outer s H vs Q E hr h => ?_)
  · obtain ⟨a, ks, rfl, _⟩ := h
    rfl
  · obtain ⟨a, ks, rfl, hA, hl, q1, q2⟩ := h
    refine ⟨_, (pss_cons (ps_if (pt_cmpR op_gt (pe_callB call_len_seq (by rfl) B.xlen PySem.boot_len (pa_cons (pv 0) pa_nil)) (pg_MAX_LISTED G (by rfl)) (nomark _))
    (pss_one (ps_raiseE rfl takesN x_TooManyKeys (hr.mono (by omega)) (by rfl) (pa_cons (pg_MAX_LISTED G (by rfl)) pa_nil)))
    pss_nil)
  (pss_one (ps_ret (pe_cal c_shapes_over (hr.mono (by omega)) (by rfl) (pa_cons (pv 0) pa_nil))))), ?_⟩
    refine ⟨.ref a, rfl, a, _, rfl, hA, _, 8, rfl, rfl, _, rfl, ite2 (fun hg => ?_) (fun hg => ?_)⟩
    · rw [List.length_map] at hg
      exact rd_raise x_TooManyKeys.T (by decide) f1 f2 (fun R h => h) (q2 (by have := of_decide_eq_true hg; omega))
    · have h8 : ks.length ≤ 8 := by
        rw [List.length_map] at hg
        have := of_decide_eq_false (Bool.eq_false_iff.mpr hg)
        omega
      exact ⟨.ref a, rfl, a, ks, rfl, hA, by omega, h8, fun p ws H' e np hp hR => q1 h8 p ws H' e np hp hR⟩
end
end TT
namespace TT
open PySem PySem.Spec PyProof.Rows L2
section
variable {P : Program} {w : World} {K : PySem.W.Frag} {mg : Str → Option Value} {base : Heap}
theorem ok_start {f : Addr} {fd : FuncData} {k : Nat} (F : Fun K "_law_start" "_law_start" s__law_start f fd) (B : Blt mg) : FnOk P w K mg base CX0 (k + 1) f fd ["_law_script"] (spStart K) := by
  refine F.ok sc__law_start (fun vs H Q E h => ?_) (fun cdv A outer s H vs Q E hr h => ?_)
  · obtain ⟨a, ns, rfl, _⟩ := h
    rfl
  · obtain ⟨a, ns, rfl, hS, hl, q⟩ := h
    refine ⟨_, (pss_one (ps_ret (pe_lst (pa_cons (pe_callTy call_list_of (by rfl) B.xlist (by decide +kernel) (pa_cons (pe_slice sl_list (pv 0) po_none (po_some pe_int)) pa_nil)) (pa_cons pe_int (pa_cons pe_int (pa_cons (pe_op op_add pe_int (pe_op op_mul pe_int (pe_callB call_len_seq (by rfl) B.xlen PySem.boot_len (pa_cons (pe_slice sl_list (pv 0) po_none (po_some pe_int)) pa_nil)))) pa_nil))))))), ?_⟩
    obtain ⟨ms, em, lm⟩ := cutV_map ns none (some 63)
    refine ⟨.ref a, rfl, 63, rfl, a, _, rfl, hS, fun p np => ?_⟩
    rw [em]
    refine ⟨p, _, rfl, .inl (.inl (.inl upd_same)), fun c nc => ?_⟩
    have s1 : Same H (upd H p (.lst (ms.map V.int))) := same_new np
    have s2 := s1.trans (same_new (o := .lst (ms.map V.int)) nc)
    refine ⟨.ref a, rfl, 63, rfl, a, _, rfl, s2.seq hS, fun p2 np2 => ?_⟩
    rw [em]
    have s3 := s2.trans (same_new (o := .lst (ms.map V.int)) np2)
    refine ⟨p2, _, rfl, .inl (.inl (.inl upd_same)), 31, _, rfl, rfl, .inl ⟨by decide, by decide⟩, 9484, _, rfl, rfl, sz (by show 4 ≤ 100000; decide), fun d nd => ?_⟩
    have hc : (upd (upd (upd H p (.lst (ms.map V.int))) c (.lst (ms.map V.int))) p2 (.lst (ms.map V.int))) c = some (.lst (ms.map V.int)) := same_new np2 _ _ upd_same
    have ncd : c ≠ d := ne_of_none hc nd
    refine q d c ms _ (s3.trans (same_new nd)) (s3.free nd) ⟨0, 0, 9484 + 31 * (ms.length : Int), ?_, ?_, ncd, by omega, by omega, by omega, ?_⟩
    · rw [upd_same]
      simp only [List.length_map]
    · rw [upd_ne ncd]
      exact same_new np2 _ _ upd_same
    · show 9484 + 31 * (ms.length : Int) < 2305843009213693951
      omega
end
end TT
namespace TT
open PySem PySem.Spec PyProof.Rows L2
section
variable {P : Program} {w : World} {K : PySem.W.Frag} {mg : Str → Option Value} {base : Heap}
theorem ok_take {f : Addr} {fd : FuncData} {k : Nat} (F : Fun K "_law_take" "_law_take" s__law_take f fd) (B : Blt mg) : FnOk P w K mg base CX0 (k + 1) f fd ["_law_draw", "_law_many"] spTake := by
  refine F.ok sc__law_take (fun vs H Q E h => ?_) (fun cdv A outer s H vs Q E hr h => ?_)
  · obtain ⟨d, m, c, ns, rfl, _⟩ := h
    rfl
  · obtain ⟨d, m, c, ns, rfl, m1, m2, ⟨i, b, z, hd, hc, ncd, i0, b0, z0, z1⟩, q⟩ := h
    refine ⟨_, (C8.pss_cut (ps_if (PW.pt (pw_and (pt_cmpR op_lt (pe_ix ix_list (pv 0) pe_int (fun _ _ => rfl)) (pv 1) (nomark _)) (pw_and1 (pt_cmpR op_lt (pe_ix ix_list (pv 0) pe_int (fun _ _ => rfl)) (pe_callB call_len_seq (by rfl) B.xlen PySem.boot_len (pa_cons (pe_ix ix_list (pv 0) pe_int (fun _ _ => rfl)) pa_nil)) (nomark _)))))
    (pss_cons (ps_set (i := 2) sc__law_take.nd rfl (Or.inl rfl) (pe_ix ix_list (pe_ix ix_list (pv 0) pe_int (fun _ _ => rfl)) (pe_ix ix_list (pv 0) pe_int (fun _ _ => rfl)) (fun _ _ => rfl)))
  (pss_cons (ps_asg (pe_op op_add (pe_ix ix_list (pv 0) pe_int (fun _ _ => rfl)) pe_int) (pg_sub (pv 0) pe_int set_list))
  (pss_cons (ps_asg pe_int (pg_sub (pv 0) pe_int set_list))
  (C8.pss_cut (ps_if (pt_cmpR op_ge (pv 2) (pe_op op_pow pe_int pe_int) (nomark _))
    (pss_one (ps_asg (pv 2) (pg_sub (pv 0) pe_int set_list)))
    pss_nil)
  (pss_one (ps_asg (pe_op op_mod (pe_op op_add (pe_op op_add (pe_op op_mul (pe_ix ix_list (pv 0) pe_int (fun _ _ => rfl)) pe_int) (pe_op op_mul (pe_op op_mod (pv 2) pe_int) pe_int)) (pe_ix ix_list (pv 0) pe_int (fun _ _ => rfl))) pe_int) (pg_sub (pv 0) pe_int set_list)))))))
    pss_nil)
  (pss_cons (ps_if (pt_cmpR op_ge (pe_ix ix_list (pv 0) pe_int (fun _ _ => rfl)) (pv 1) (nomark _))
    (pss_cons (ps_set (i := 3) sc__law_take.nd rfl (Or.inl rfl) (pe_op op_mod (pe_ix ix_list (pv 0) pe_int (fun _ _ => rfl)) (pv 1)))
  (pss_cons (ps_asg (pe_op op_fdivW (pe_ix ix_list (pv 0) pe_int (fun _ _ => rfl)) (pv 1)) (pg_sub (pv 0) pe_int set_list))
  (pss_one (ps_ret (pv 3)))))
    pss_nil)
  (pss_cons (ps_set (i := 4) sc__law_take.nd rfl (Or.inl rfl) (pe_op op_mod (pe_op op_mul (pe_ix ix_list (pv 0) pe_int (fun _ _ => rfl)) (pe_ix ix_list (pv 0) pe_int (fun _ _ => rfl))) pe_int))
  (pss_cons (ps_asg (pe_op op_mod (pe_op op_add (pe_op op_add (pe_op op_mul (pv 4) pe_int) (pe_op op_mul (pe_ix ix_list (pv 0) pe_int (fun _ _ => rfl)) pe_int)) pe_int) pe_int) (pg_sub (pv 0) pe_int set_list))
  (pss_one (ps_ret (pe_op op_mod (pe_op op_fdivW (pe_ix ix_list (pv 0) pe_int (fun _ _ => rfl)) pe_int) (pv 1)))))))), ?_⟩
    have hL : SqL K H d [.ref c, .int i, .int b, .int z] := .inl (.inl hd)
    have hC : SqL K H c (ns.map V.int) := .inl (.inl hc)
    -- behind the first if
    refine ⟨fun σ H1 => (∃ y, σ = [some (.ref d), some (.int m), y, none, none]) ∧ Drw c ns H1 d ∧ ∀ b, b ≠ d → H1 b = H b, ?_, ?_⟩
    · refine rd_ixL 2 rfl hL rfl ⟨_, rfl, b, m, rfl, rfl, _, rfl, ite2 (fun e1 => ?_) (fun e1 => ?_)⟩
      · refine rd_ixL 1 rfl hL rfl (rd_ixL 0 rfl hL rfl ⟨c, _, rfl, .inl hC, i, _, rfl, rfl, _, rfl, ite2 (fun e2 => ?_) (fun e2 => ?_)⟩)
        · have hi : i < (ns.map V.int).length := of_decide_eq_true e2
          rw [List.length_map] at hi
          obtain ⟨n, hn⟩ : ∃ n, ns[i.toNat]? = some n := ⟨ns[i.toNat]'(by omega), List.getElem?_eq_getElem _⟩
          have hx : (ns.map V.int)[i.toNat]? = some (.int n) := by rw [List.getElem?_map, hn]; rfl
          have hx2 : atI (ns.map V.int) i = some (.int n) := by
            have := atI_nat hx
            rwa [Int.toNat_of_nonneg i0] at this
          -- cell = draw[0][draw[1]]
          refine rd_ixL 0 rfl hL rfl (rd_ixL 1 rfl hL rfl ⟨c, _, i, .int n, rfl, rfl, hC, hx2, ?_⟩)
          -- draw[1] = draw[1] + 1
          refine rd_ixL 1 rfl hL rfl ⟨i, 1, rfl, rfl, .ref d, rfl, d, _, 1, 1, rfl, rfl, hd, rfl, ?_⟩
          -- draw[2] = 0
          refine ⟨.ref d, rfl, d, _, 2, 2, rfl, rfl, upd_same, rfl, ?_⟩
          rw [upd_upd]
          -- if cell >= 10 ** 18
          refine ⟨fun σ H3 => σ = [some (.ref d), some (.int m), some (.int n), none, none] ∧ (∃ b', 0 ≤ b' ∧ H3 d = some (.lst [.ref c, .int (i + 1), .int b', .int z])) ∧ ∀ x, x ≠ d → H3 x = H x, ?_, ?_⟩
          · refine ⟨.int n, rfl, 10, 18, rfl, rfl, ⟨by decide, by decide, by decide⟩, n, _, rfl, rfl, _, rfl, ite2 (fun e3 => ?_) (fun e3 => ?_)⟩
            · have e4 : (10 : Int) ^ (18 : Int).toNat ≤ n := of_decide_eq_true e3
              have e5 : (0 : Int) ≤ n := Int.le_trans (by decide) e4
              refine ⟨.int n, rfl, .ref d, rfl, d, _, 2, 2, rfl, rfl, upd_same, rfl, rfl, ⟨n, e5, ?_⟩, fun x hx => ?_⟩
              · rw [upd_same]; rfl
              · rw [upd_ne hx, upd_ne hx]
            · exact ⟨rfl, ⟨0, Int.le_refl _, upd_same⟩, fun x hx => upd_ne hx⟩
          · rintro σ H3 ⟨rfl, ⟨b', hb', hd3⟩, hk⟩
            have hL3 : SqL K H3 d [.ref c, .int (i + 1), .int b', .int z] := .inl (.inl hd3)
            -- draw[3] = ..
            refine rd_ixL 3 rfl hL3 rfl ⟨z, 52711, rfl, rfl, .inr ⟨by decide, by decide⟩, .int n, rfl, n, MM, rfl, rfl, (by decide : (0 : Int) < MM), n % MM, 7, rfl, rfl, .inr ⟨by decide, by decide⟩, z * 52711, n % MM * 7, rfl, rfl, ?_⟩
            refine rd_ixL 1 rfl hL3 rfl ⟨z * 52711 + n % MM * 7, i + 1, rfl, rfl, z * 52711 + n % MM * 7 + (i + 1), MM, rfl, rfl, (by decide : (0 : Int) < MM), ?_⟩
            refine ⟨.ref d, rfl, d, _, 3, 3, rfl, rfl, hd3, rfl, ⟨_, rfl⟩, ⟨i + 1, b', (z * 52711 + n % MM * 7 + (i + 1)) % MM, upd_same, ?_, ncd, by omega, hb', Int.emod_nonneg _ (by decide), Int.emod_lt_of_pos _ (by decide)⟩, fun x hx => ?_⟩
            · rw [upd_ne ncd, hk c ncd]
              exact hc
            · rw [upd_ne hx]
              exact hk x hx
        · exact ⟨⟨none, rfl⟩, ⟨i, b, z, hd, hc, ncd, i0, b0, z0, z1⟩, fun _ _ => rfl⟩
      · exact ⟨⟨none, rfl⟩, ⟨i, b, z, hd, hc, ncd, i0, b0, z0, z1⟩, fun _ _ => rfl⟩
    · rintro σ H1 ⟨⟨y, rfl⟩, ⟨i, b, z, hd, hc, ncd, i0, b0, z0, z1⟩, hb⟩
      have hL : SqL K H1 d [.ref c, .int i, .int b, .int z] := .inl (.inl hd)
      have m62 : m.natAbs < 2 ^ 200 := by omega
      -- if draw[2] >= many
      refine rd_ixL 2 rfl hL rfl ⟨_, rfl, b, m, rfl, rfl, _, rfl, ite2 (fun e1 => ?_) (fun e1 => ?_)⟩
      · refine rd_ixL 2 rfl hL rfl ⟨.int m, rfl, b, m, rfl, rfl, (by omega : (0 : Int) < m), ?_⟩
        refine rd_ixL 2 rfl hL rfl ⟨.int m, rfl, b, m, rfl, rfl, wide_div (by omega) m62 (by decide) (by decide), .ref d, rfl, d, _, 2, 2, rfl, rfl, hd, rfl, .int (b % m), rfl, ?_⟩
        refine q _ _ (Int.emod_nonneg _ (by omega)) (Int.emod_lt_of_pos _ (by omega)) ⟨i, b / m, z, upd_same, ?_, ncd, i0, Int.ediv_nonneg b0 (by omega), z0, z1⟩ fun x hx => ?_
        · rw [upd_ne ncd]
          exact hc
        · rw [upd_ne hx]
          exact hb x hx
      · have z64 : -(2 ^ 64) < z ∧ z < 2 ^ 64 := ⟨by omega, Int.lt_trans z1 (by decide)⟩
        have pm : (0 : Int) < MM := by decide
        -- square
        refine rd_ixL 3 rfl hL rfl (rd_ixL 3 rfl hL rfl ⟨z, z, rfl, rfl, .inl z64, z * z, MM, rfl, rfl, pm, ?_⟩)
        -- draw[3] = ..
        refine ⟨.int (z * z % MM), rfl, z * z % MM, 48271, rfl, rfl, .inr ⟨by decide, by decide⟩, ?_⟩
        refine rd_ixL 3 rfl hL rfl ⟨z, 16807, rfl, rfl, .inr ⟨by decide, by decide⟩, _, _, rfl, rfl, _, 12345, rfl, rfl, _, MM, rfl, rfl, pm, .ref d, rfl, d, _, 3, 3, rfl, rfl, hd, rfl, ?_⟩
        have z' := Int.emod_nonneg (z * z % MM * 48271 + z * 16807 + 12345) (show MM ≠ 0 by decide)
        have z'' := Int.emod_lt_of_pos (z * z % MM * 48271 + z * 16807 + 12345) pm
        have hL2 : SqL K (upd H1 d (.lst [.ref c, .int i, .int b, .int ((z * z % MM * 48271 + z * 16807 + 12345) % MM)])) d [.ref c, .int i, .int b, .int ((z * z % MM * 48271 + z * 16807 + 12345) % MM)] := .inl (.inl upd_same)
        refine rd_ixL 3 rfl hL2 rfl ⟨((z * z % MM * 48271 + z * 16807 + 12345) % MM), 1021, rfl, rfl, wide_div (b := 62) (by decide) (by decide) (by decide) (by decide), .int m, rfl, _, m, rfl, rfl, (by omega : (0 : Int) < m), ?_⟩
        refine q _ _ (Int.emod_nonneg _ (by omega)) (Int.emod_lt_of_pos _ (by omega)) ⟨i, b, ((z * z % MM * 48271 + z * 16807 + 12345) % MM), upd_same, ?_, ncd, i0, b0, z', z''⟩ fun x hx => ?_
        · rw [upd_ne ncd]
          exact hc
        · rw [upd_ne hx]
          exact hb x hx
end
end TT
namespace TT
open PySem PySem.Spec PyProof.Rows L2
section
variable {P : Program} {w : World} {K : PySem.W.Frag} {mg : Str → Option Value} {base : Heap}
theorem ok_of {f : Addr} {fd : FuncData} {k : Nat} (F : Fun K "_law_of" "_law_of" s__law_of f fd) (B : Blt mg) (c__law_take : Cal P w K mg base CX0 "_law_take" ["_law_draw", "_law_many"] k spTake) : FnOk P w K mg base CX0 (k + 1) f fd ["_law_draw", "_law_some"] (spOf K) := by
  refine F.ok sc__law_of (fun vs H Q E h => ?_) (fun cdv A outer s H vs Q E hr h => ?_)
  · obtain ⟨d, a, xs, c, ns, rfl, _⟩ := h
    rfl
  · obtain ⟨d, a, xs, c, ns, rfl, hS, l0, l1, nad, hD, q⟩ := h
    refine ⟨_, (pss_one (ps_ret (pe_ix ix_list (pv 1) (pe_cal c__law_take (hr.mono (by omega)) (by rfl) (pa_cons (pv 0) (pa_cons (pe_callB call_len_seq (by rfl) B.xlen PySem.boot_len (pa_cons (pv 1) pa_nil)) pa_nil))) (fun _ _ => rfl)))), ?_⟩
    refine ⟨.ref a, rfl, .ref d, rfl, .ref a, rfl, a, xs, rfl, .inl hS, d, _, c, ns, rfl, by omega, by omega, hD, fun r H' r0 r1 hD' hk => ?_⟩
    have hx := List.getElem?_eq_getElem (l := xs) (i := r.toNat) (by omega)
    exact ⟨a, xs, r, _, rfl, rfl, (Ext.but hk).seq nad hS, atI_int r0 hx, q _ _ (List.mem_of_getElem? hx) hD' hk⟩
end
end TT
namespace TT
open PySem PySem.Spec PyProof.Rows L2
section
variable {P : Program} {w : World} {K : PySem.W.Frag} {mg : Str → Option Value} {base : Heap}
theorem ok_shuf {f : Addr} {fd : FuncData} {k : Nat} (F : Fun K "_law_shuffled" "_law_shuffled" s__law_shuffled f fd) (B : Blt mg) (c__law_take : Cal P w K mg base CX0 "_law_take" ["_law_draw", "_law_many"] k spTake) : FnOk P w K mg base CX0 (k + 1) f fd ["_law_draw", "_law_some"] (spShuf K) := by
  refine F.ok sc__law_shuffled (fun vs H Q E h => ?_) (fun cdv A outer s H vs Q E hr h => ?_)
  · obtain ⟨d, a, xs, c, ns, rfl, _⟩ := h
    rfl
  · obtain ⟨d, a, xs, c, ns, rfl, hS, l1, nad, hD, q⟩ := h
    refine ⟨_, (pss_cons (ps_set (i := 2) sc__law_shuffled.nd rfl (Or.inl rfl) (pe_lst pa_nil))
  (pss_cons (ps_for PassesOwn.never rfl (pi_list (pv 1)) (pg_name (i := 3) sc__law_shuffled.nd rfl (Or.inl rfl))
    (pss_one (ps_expr (pe_bm PySem.F.plainAttrs_list PySem.F.slot_list_insert PySem.F.type_list_insert mt_insert (pv 2) (pa_cons (pe_cal c__law_take (hr.mono (by omega)) (by rfl) (pa_cons (pv 0) (pa_cons (pe_op op_add (pe_callB call_len_seq (by rfl) B.xlen PySem.boot_len (pa_cons (pv 2) pa_nil)) pe_int) pa_nil))) (pa_cons (pv 3) pa_nil))))))
  (pss_one (ps_ret (pv 2))))), ?_⟩
    refine ⟨Nat.zero_le _, fun o no => ?_⟩
    have s1 : Same H (upd H o (.lst [])) := same_new no
    have nod := hD.ne no
    refine ⟨.ref a, rfl, a, rfl, ⟨_, s1.seq hS⟩, for_list (xs := xs) (fun i σ H3 => ∃ y ys, σ = [some (.ref d), some (.ref a), some (.ref o), y] ∧ Ext d H H3 ∧ Drw c ns H3 d ∧ H3 o = some (.lst ys) ∧ ys.Perm (xs.take i)) ⟨none, [], rfl, .of s1, hD.same s1, upd_same, by simp⟩ ?_ ?_ ?_⟩
    · rintro i σ H3 _ ⟨y, ys, rfl, e, _, _, _⟩
      exact e.seq nad hS
    · rintro i x σ H3 hx ⟨y, ys, rfl, e, hD3, ho, pm⟩
      have hi := (List.getElem?_eq_some_iff.mp hx).1
      have ly : ys.length = i := by rw [pm.length_eq, List.length_take]; omega
      refine ⟨.ref o, rfl, .inl ⟨rfl, _, SqL.of ho⟩, .ref d, rfl, .ref o, rfl, o, ys, rfl, .inl (SqL.of ho), _, 1, rfl, rfl, d, _, c, ns, rfl, by omega, by omega, hD3, fun r H4 r0 r1 hD4 hk => ?_⟩
      have ho4 : H4 o = some (.lst ys) := by rw [hk o nod]; exact ho
      refine ⟨x, rfl, o, ys, r, x, rfl, rfl, ho4, szl (by omega), r0, by omega, ⟨some x, _, rfl, Ext.put (e.trans (.but hk)) no, hD4.put hD no, upd_same, ?_⟩⟩
      · rw [List.take_add_one, hx]
        refine List.Perm.trans ?_ (List.Perm.append_right _ pm)
        have e1 : ys.Perm (ys.take r.toNat ++ ys.drop r.toNat) := by rw [List.take_append_drop]
        have e2 : (ys.take r.toNat ++ [x] ++ ys.drop r.toNat).Perm (ys.take r.toNat ++ ys.drop r.toNat ++ [x]) := by
          rw [List.append_assoc, List.append_assoc]
          exact List.Perm.append_left _ List.perm_append_comm
        exact e2.trans (List.Perm.append_right _ e1.symm)
    · rintro σ H3 ⟨y, ys, rfl, e, hD3, ho, pm⟩
      rw [List.take_length] at pm
      exact ⟨.ref o, rfl, q ys o H3 pm e hD3 no ho⟩
end
end TT
namespace TT
open PySem PySem.Spec PyProof.Rows L2
section
variable {P : Program} {w : World} {K : PySem.W.Frag} {mg : Str → Option Value} {base : Heap}
theorem ok_same1 {f : Addr} {fd : FuncData} {n : Nat} (F : Fun K "_law_same" "_law_same" s__law_same f fd) (B : Blt mg) (c__law_same : Cal P w K mg base CX0 "_law_same" ["_law_found", "_law_due"] n (spPrevW n)) : FnOk P w K mg base CX0 (n + 1) f fd ["_law_found", "_law_due"] (spSameW n) := by
  refine F.ok sc__law_same (fun vs H Q E h => ?_) (fun cdv A outer s H vs Q E hr h => ?_)
  · obtain ⟨x, y, rfl, _⟩ := h
    rfl
  · obtain ⟨x, y, rfl, hE, q⟩ := h
    refine ⟨_, (pss_cons (ps_if (pt_cmp (pc_isN (pv 1)))
    (pss_one (ps_ret (pe_cmp (pc_isN (pv 0)))))
    pss_nil)
  (pss_cons (ps_if (pt_val (pe_callB call_isiT (by rfl) B.xisinstance (by decide +kernel) (pa_cons (pv 1) (pa_cons (pe_tup (pa_cons (pe_bltn (v := .ty "list") (by rfl) B.xlist (by decide +kernel) rfl) (pa_cons (pe_bltn (v := .ty "tuple") (by rfl) B.xtuple (by decide +kernel) rfl) pa_nil))) pa_nil))))
    (pss_cons (ps_if (PW.pt (pw_or (pt_cmpR op_ne (pe_callB call_isi (by rfl) B.xisinstance (by decide +kernel) (pa_cons (pv 0) (pa_cons (pe_bltn (v := .ty "list") (by rfl) B.xlist (by decide +kernel) rfl) pa_nil))) (pe_callB call_isi (by rfl) B.xisinstance (by decide +kernel) (pa_cons (pv 1) (pa_cons (pe_bltn (v := .ty "list") (by rfl) B.xlist (by decide +kernel) rfl) pa_nil))) (nomark _)) (pw_or1 (pt_cmpR op_ne (pe_callB call_isi (by rfl) B.xisinstance (by decide +kernel) (pa_cons (pv 0) (pa_cons (pe_bltn (v := .ty "tuple") (by rfl) B.xtuple (by decide +kernel) rfl) pa_nil))) (pe_callB call_isi (by rfl) B.xisinstance (by decide +kernel) (pa_cons (pv 1) (pa_cons (pe_bltn (v := .ty "tuple") (by rfl) B.xtuple (by decide +kernel) rfl) pa_nil))) (nomark _)))))
    (pss_one (ps_ret pe_bl))
    pss_nil)
  (pss_one (ps_ret (pe_and (pe_cmpR op_eq (pe_callB call_len_seq (by rfl) B.xlen PySem.boot_len (pa_cons (pv 0) pa_nil)) (pe_callB call_len_seq (by rfl) B.xlen PySem.boot_len (pa_cons (pv 1) pa_nil)) (nomark _)) (pe_one (pe_callB (cr_all rfl) (by rfl) B.xall (by decide +kernel) (pa_cons (pe_lc (own := [("_law_one", 2), ("_law_other", 3)]) (g := gTup K 2 (gCons (gName 2) (gCons (gName 3) gNil))) (by rfl) sc__law_same.nd (RZ.pi_zipA (by rfl) B.xzip (pa_cons (pv 0) (pa_cons (pv 1) pa_nil))) (blkOk_by (own := [("_law_one", 2), ("_law_other", 3)]) (N := ["_law_found", "_law_due", "_law_one", "_law_other"]) (sc := defScope s__law_same) (by decide +kernel)) (fun _ _ _ _ _ => (pg_tup rfl (pgs_cons (pg_name (i := 2) sc__law_same.nd rfl (Or.inl rfl)) (pgs_cons (pg_name (i := 3) sc__law_same.nd rfl (Or.inl rfl)) pgs_nil)))) (fun _ _ _ _ _ => pts_nil) (fun _ _ _ _ _ => (pe_cal c__law_same (hr.mono (by omega)) (by rfl) (pa_cons (pv 2) (pa_cons (pv 3) pa_nil))))) pa_nil)))))))
    pss_nil)
  (pss_cons (ps_if (PW.pt (pw_or (pt_cmpR op_ne (pe_callB call_isi (by rfl) B.xisinstance (by decide +kernel) (pa_cons (pv 1) (pa_cons (pe_bltn (v := .ty "bool") (by rfl) B.xbool (by decide +kernel) rfl) pa_nil))) (pe_callB call_isi (by rfl) B.xisinstance (by decide +kernel) (pa_cons (pv 0) (pa_cons (pe_bltn (v := .ty "bool") (by rfl) B.xbool (by decide +kernel) rfl) pa_nil))) (nomark _)) (pw_or1 (pt_cmpR op_ne (pe_callB call_isi (by rfl) B.xisinstance (by decide +kernel) (pa_cons (pv 1) (pa_cons (pe_bltn (v := .ty "int") (by rfl) B.xint (by decide +kernel) rfl) pa_nil))) (pe_callB call_isi (by rfl) B.xisinstance (by decide +kernel) (pa_cons (pv 0) (pa_cons (pe_bltn (v := .ty "int") (by rfl) B.xint (by decide +kernel) rfl) pa_nil))) (nomark _)))))
    (pss_one (ps_ret pe_bl))
    pss_nil)
  (pss_one (ps_ret (pe_and (pe_cmpR op_eq (pe_callB call_isi (by rfl) B.xisinstance (by decide +kernel) (pa_cons (pv 1) (pa_cons (pe_bltn (v := .ty "str") (by rfl) B.xstr (by decide +kernel) rfl) pa_nil))) (pe_callB call_isi (by rfl) B.xisinstance (by decide +kernel) (pa_cons (pv 0) (pa_cons (pe_bltn (v := .ty "str") (by rfl) B.xstr (by decide +kernel) rfl) pa_nil))) (nomark _)) (pe_one (pe_cmpR op_eq (pv 0) (pv 1) (nomark _))))))))), ?_⟩
    have fin : ∀ H2 m, Same H H2 → Q (.bl ((List.replicate m true).all id)) H2 := fun H2 m e => by
      rw [show (List.replicate m true).all id = true by simp]
      exact q H2 e
    rcases hE.cases with ⟨hf, rfl⟩ | ⟨m, a, b, xs, ys, rfl, rfl, rfl, hs, hl, hm, hi⟩
    · cases x with
      | non => exact ⟨.non, rfl, _, rfl, iteTd rfl ⟨.non, rfl, q H (.refl H)⟩⟩
      | bl v =>
        refine ⟨.bl v, rfl, _, rfl, iteFd rfl ?_⟩
        refine ⟨.bl v, rfl, sz (by show 2 ≤ 100000; decide), fun tp ntp => ?_⟩
        refine ⟨_, tp, _, _, _, false, rfl, upd_same, .cons (.ty _) (.cons (.ty _) .nil), .base (.bl v), kLT (r1 := false) (r2 := false) (by decide +kernel) (by decide +kernel), _, rfl, iteFd rfl ?_⟩
        refine ⟨.bl v, rfl, ⟨_, _, _, _, true, rfl, .ty _, .base (.bl v), kit_ty (by decide +kernel), .bl v, rfl, ⟨_, _, _, _, true, rfl, .ty _, .base (.bl v), kit_ty (by decide +kernel), rfl, _, rfl, iteFd rfl ?_⟩⟩⟩
        refine ⟨.bl v, rfl, ⟨_, _, _, _, true, rfl, .ty _, .base (.bl v), kit_ty (by decide +kernel), .bl v, rfl, ⟨_, _, _, _, true, rfl, .ty _, .base (.bl v), kit_ty (by decide +kernel), rfl, _, rfl, iteFd rfl ?_⟩⟩⟩
        refine ⟨.bl v, rfl, ⟨_, _, _, _, false, rfl, .ty _, .base (.bl v), kit_ty (by decide +kernel), .bl v, rfl, ⟨_, _, _, _, false, rfl, .ty _, .base (.bl v), kit_ty (by decide +kernel), rfl, _, rfl, iteTd rfl ⟨.bl v, rfl, .bl v, rfl, rfl, ?_⟩⟩⟩⟩
        rw [decide_eq_true rfl]
        exact q _ (same_new ntp)
      | int v =>
        refine ⟨.int v, rfl, _, rfl, iteFd rfl ?_⟩
        refine ⟨.int v, rfl, sz (by show 2 ≤ 100000; decide), fun tp ntp => ?_⟩
        refine ⟨_, tp, _, _, _, false, rfl, upd_same, .cons (.ty _) (.cons (.ty _) .nil), .base (.int v), kLT (r1 := false) (r2 := false) (by decide +kernel) (by decide +kernel), _, rfl, iteFd rfl ?_⟩
        refine ⟨.int v, rfl, ⟨_, _, _, _, false, rfl, .ty _, .base (.int v), kit_ty (by decide +kernel), .int v, rfl, ⟨_, _, _, _, false, rfl, .ty _, .base (.int v), kit_ty (by decide +kernel), rfl, _, rfl, iteFd rfl ?_⟩⟩⟩
        refine ⟨.int v, rfl, ⟨_, _, _, _, true, rfl, .ty _, .base (.int v), kit_ty (by decide +kernel), .int v, rfl, ⟨_, _, _, _, true, rfl, .ty _, .base (.int v), kit_ty (by decide +kernel), rfl, _, rfl, iteFd rfl ?_⟩⟩⟩
        refine ⟨.int v, rfl, ⟨_, _, _, _, false, rfl, .ty _, .base (.int v), kit_ty (by decide +kernel), .int v, rfl, ⟨_, _, _, _, false, rfl, .ty _, .base (.int v), kit_ty (by decide +kernel), rfl, _, rfl, iteTd rfl ⟨.int v, rfl, .int v, rfl, rfl, ?_⟩⟩⟩⟩
        rw [decide_eq_true rfl]
        exact q _ (same_new ntp)
      | str v =>
        refine ⟨.str v, rfl, _, rfl, iteFd rfl ?_⟩
        refine ⟨.str v, rfl, sz (by show 2 ≤ 100000; decide), fun tp ntp => ?_⟩
        refine ⟨_, tp, _, _, _, false, rfl, upd_same, .cons (.ty _) (.cons (.ty _) .nil), .base (.str v), kLT (r1 := false) (r2 := false) (by decide +kernel) (by decide +kernel), _, rfl, iteFd rfl ?_⟩
        refine ⟨.str v, rfl, ⟨_, _, _, _, false, rfl, .ty _, .base (.str v), kit_ty (by decide +kernel), .str v, rfl, ⟨_, _, _, _, false, rfl, .ty _, .base (.str v), kit_ty (by decide +kernel), rfl, _, rfl, iteFd rfl ?_⟩⟩⟩
        refine ⟨.str v, rfl, ⟨_, _, _, _, false, rfl, .ty _, .base (.str v), kit_ty (by decide +kernel), .str v, rfl, ⟨_, _, _, _, false, rfl, .ty _, .base (.str v), kit_ty (by decide +kernel), rfl, _, rfl, iteFd rfl ?_⟩⟩⟩
        refine ⟨.str v, rfl, ⟨_, _, _, _, true, rfl, .ty _, .base (.str v), kit_ty (by decide +kernel), .str v, rfl, ⟨_, _, _, _, true, rfl, .ty _, .base (.str v), kit_ty (by decide +kernel), rfl, _, rfl, iteTd rfl ⟨.str v, rfl, .str v, rfl, rfl, ?_⟩⟩⟩⟩
        rw [decide_eq_true rfl]
        exact q _ (same_new ntp)
      | _ => cases hf
    · refine ⟨.ref b, rfl, _, rfl, iteFd rfl ?_⟩
      refine ⟨.ref b, rfl, sz (by show 2 ≤ 100000; decide), fun tp ntp => ?_⟩
      have e1 := same_new (o := .tup [.ty "list", .ty "tuple"]) ntp
      rcases hs with ⟨ha, hb⟩ | ⟨ha, hb⟩
      · have ha1 := e1 _ _ ha
        have hb1 := e1 _ _ hb
        refine ⟨_, tp, _, _, _, true, rfl, upd_same, .cons (.ty _) (.cons (.ty _) .nil), .base (.lst hb1), kLT (r1 := true) (r2 := false) (by decide +kernel) (by decide +kernel), _, rfl, iteTd rfl ?_⟩
        refine ⟨.ref a, rfl, ⟨_, _, _, _, true, rfl, .ty _, .base (.lst ha1), kit_ty (by decide +kernel), .ref b, rfl, ⟨_, _, _, _, true, rfl, .ty _, .base (.lst hb1), kit_ty (by decide +kernel), rfl, _, rfl, iteFd rfl ?_⟩⟩⟩
        refine ⟨.ref a, rfl, ⟨_, _, _, _, false, rfl, .ty _, .base (.lst ha1), kit_ty (by decide +kernel), .ref b, rfl, ⟨_, _, _, _, false, rfl, .ty _, .base (.lst hb1), kit_ty (by decide +kernel), rfl, _, rfl, iteFd rfl ?_⟩⟩⟩
        refine ⟨.ref a, rfl, a, xs, rfl, .inl (SqL.of ha1), .ref b, rfl, b, ys, rfl, .inl (SqL.of hb1), rfl, _, rfl, iteTd (decide_eq_true (by rw [hl])) ?_⟩
        refine ⟨.ref a, rfl, .ref b, rfl, a, b, xs, ys, rfl, .inl ⟨SqL.of ha1, SqL.of hb1, fun D nD => ?_⟩⟩
        refine lc_it (walk_zip (xs := xs) (ys := ys) (n := xs.length) (by rw [hl]; omega)) (fun i H2 => Same (upd H tp (.tup [.ty "list", .ty "tuple"])) H2 ∧ H2 D = some (.lst ((List.replicate i true).map V.bl))) ⟨same_new nD, upd_same⟩ (fun i H2 _ h => ⟨SqL.of (h.1 _ _ ha1), SqL.of (h.1 _ _ hb1)⟩) ?_ ?_
        · rintro i v H2 H3 hlt ⟨e2, hD2⟩ ⟨T, u, z, rfl, nT, rfl, hu, hz⟩
          have e3 := same_new (o := .tup [u, z]) nT
          refine ⟨T, [u, z], rfl, SqT.of upd_same, rfl, u, [z], rfl, z, [], rfl, rfl, rfl, u, rfl, z, rfl, u, z, rfl, (hi i u z hu hz).same (e1.trans (e2.trans e3)), fun H4 e4 => ?_⟩
          refine ⟨_, e4 _ _ (e3 _ _ hD2), szl (by simp; omega), Same.put (e2.trans (e3.trans e4)) nD, ?_⟩
          rw [upd_same, List.replicate_succ', List.map_append]; rfl
        · rintro H2 ⟨e2, hD2⟩
          exact ⟨D, _, rfl, SqL.of hD2, fin _ _ (e1.trans e2)⟩
      · have ha1 := e1 _ _ ha
        have hb1 := e1 _ _ hb
        refine ⟨_, tp, _, _, _, true, rfl, upd_same, .cons (.ty _) (.cons (.ty _) .nil), .base (.tup hb1), kLT (r1 := false) (r2 := true) (by decide +kernel) (by decide +kernel), _, rfl, iteTd rfl ?_⟩
        refine ⟨.ref a, rfl, ⟨_, _, _, _, false, rfl, .ty _, .base (.tup ha1), kit_ty (by decide +kernel), .ref b, rfl, ⟨_, _, _, _, false, rfl, .ty _, .base (.tup hb1), kit_ty (by decide +kernel), rfl, _, rfl, iteFd rfl ?_⟩⟩⟩
        refine ⟨.ref a, rfl, ⟨_, _, _, _, true, rfl, .ty _, .base (.tup ha1), kit_ty (by decide +kernel), .ref b, rfl, ⟨_, _, _, _, true, rfl, .ty _, .base (.tup hb1), kit_ty (by decide +kernel), rfl, _, rfl, iteFd rfl ?_⟩⟩⟩
        refine ⟨.ref a, rfl, a, xs, rfl, .inr (SqT.of ha1), .ref b, rfl, b, ys, rfl, .inr (SqT.of hb1), rfl, _, rfl, iteTd (decide_eq_true (by rw [hl])) ?_⟩
        refine ⟨.ref a, rfl, .ref b, rfl, a, b, xs, ys, rfl, .inr ⟨SqT.of ha1, SqT.of hb1, fun D nD => ?_⟩⟩
        refine lc_it (walk_zipT (xs := xs) (ys := ys) (n := xs.length) (by rw [hl]; omega)) (fun i H2 => Same (upd H tp (.tup [.ty "list", .ty "tuple"])) H2 ∧ H2 D = some (.lst ((List.replicate i true).map V.bl))) ⟨same_new nD, upd_same⟩ (fun i H2 _ h => ⟨SqT.of (h.1 _ _ ha1), SqT.of (h.1 _ _ hb1)⟩) ?_ ?_
        · rintro i v H2 H3 hlt ⟨e2, hD2⟩ ⟨T, u, z, rfl, nT, rfl, hu, hz⟩
          have e3 := same_new (o := .tup [u, z]) nT
          refine ⟨T, [u, z], rfl, SqT.of upd_same, rfl, u, [z], rfl, z, [], rfl, rfl, rfl, u, rfl, z, rfl, u, z, rfl, (hi i u z hu hz).same (e1.trans (e2.trans e3)), fun H4 e4 => ?_⟩
          refine ⟨_, e4 _ _ (e3 _ _ hD2), szl (by simp; omega), Same.put (e2.trans (e3.trans e4)) nD, ?_⟩
          rw [upd_same, List.replicate_succ', List.map_append]; rfl
        · rintro H2 ⟨e2, hD2⟩
          exact ⟨D, _, rfl, SqL.of hD2, fin _ _ (e1.trans e2)⟩
theorem ok_same {f : Addr} {fd : FuncData} (F : Fun K "_law_same" "_law_same" s__law_same f fd) (B : Blt mg) (gf : mg "_law_same" = some (.ref f)) (bf : Binds K fd ["_law_found", "_law_due"] []) : ∀ n, FnOk P w K mg base CX0 n f fd ["_law_found", "_law_due"] (spPrevW n)
  | 0 => ⟨fun _ _ _ _ h => h.elim, fun _ _ _ _ _ _ _ _ _ _ _ _ _ h => h.elim⟩
  | n + 1 => ok_same1 F B ⟨f, fd, ok_same F B gf bf n, gf, F.kp, bf⟩
end
end TT
namespace TT
open PySem PySem.Spec PyProof.Rows L2
section
variable {P : Program} {w : World} {K : PySem.W.Frag} {mg : Str → Option Value} {base : Heap}
theorem ok_field {f : Addr} {fd : FuncData} {k : Nat} (F : Fun K "_law_field" "_law_field" s__law_field f fd) : FnE P w K mg base CX0 (k + 1) f fd ["_law_e"] (spField K) := by
  refine fnE_of F sc__law_field (fun p vs H Q E h => ?_) (fun cdv A outer s H vs Q E p hot0 hr h => ?_)
  · obtain ⟨C, dd, tag, v, rfl, _⟩ := h
    rfl
  · obtain ⟨C, dd, tag, v, rfl, ec, ed, hb, q⟩ := h
    have hot : L2H.Hot1 (L2H.cxH CX0 P w K mg base ["_law_e"] "_law_field" (defScope s__law_field) f cdv A outer s H E p).A p := hot0
    have hpn : p ∈ (L2H.cxH CX0 P w K mg base ["_law_e"] "_law_field" (defScope s__law_field) f cdv A outer s H E p).pn := List.mem_singleton.mpr rfl
    refine ⟨_, (pss_cons (ps_if (pt_cmpR op_in_seq (pe_xp hot hpn (pv 0)) (pe_tup (pa_cons pe_str (pa_cons pe_str (pa_cons pe_str (pa_cons pe_str (pa_cons pe_str (pa_cons pe_str (pa_cons pe_str pa_nil)))))))) rfl)
    (pss_one (ps_ret (pe_xp hot hpn (pv 0))))
    pss_nil)
  (pss_cons (ps_if (pt_cmpR op_in_seq (pe_xp hot hpn (pv 0)) (pe_tup (pa_cons pe_str (pa_cons pe_str (pa_cons pe_str (pa_cons pe_str (pa_cons pe_str pa_nil)))))) rfl)
    (pss_one (ps_ret (pe_xp hot hpn (pv 0))))
    pss_nil)
  (pss_cons (ps_if (pt_cmpR op_in_seq (pe_xp hot hpn (pv 0)) (pe_tup (pa_cons pe_str (pa_cons pe_str (pa_cons pe_str (pa_cons pe_str pa_nil))))) rfl)
    (pss_one (ps_ret (pe_xp hot hpn (pv 0))))
    pss_nil)
  (pss_cons (ps_if (pt_cmpR op_in_seq (pe_xp hot hpn (pv 0)) (pe_tup (pa_cons pe_str (pa_cons pe_str (pa_cons pe_str (pa_cons pe_str pa_nil))))) rfl)
    (pss_one (ps_ret (pe_xp hot hpn (pv 0))))
    pss_nil)
  (pss_cons (ps_if (pt_cmpR op_eq (pe_xp hot hpn (pv 0)) pe_str (nomark _))
    (pss_one (ps_ret (pe_xp hot hpn (pv 0))))
    pss_nil)
  (pss_one (ps_ret (pe_ifExp (pt_cmpR op_eq (pe_xp hot hpn (pv 0)) pe_str (nomark _)) (pe_xp hot hpn (pv 0)) (pe_xp hot hpn (pv 0)))))))))), ?_⟩
    obtain ⟨xf, ft, ff, fs, hd, lt, lf⟩ := hb
    -- one test: tag in (..)
    have step : ∀ {H2 : Hp} {R : V → Hp → Prop}, Same H H2 → R (.str tag) H2 → tXp K p "tag" (tVar 0) [some (.ref p.1)] H2 R := fun e h => ⟨.ref p.1, rfl, rfl, C, dd, fs, _, ec, xf, ft, ed, e _ _ hd, lt, h⟩
    have get : ∀ {H2 : Hp} (nm : Str), Same H H2 → fieldOf tag = nm → tXp K p nm (tVar 0) [some (.ref p.1)] H2 Q := fun nm e h => by
      subst h
      exact ⟨.ref p.1, rfl, rfl, C, dd, fs, v, ec, xf, ff, ed, e _ _ hd, lf, q _ e⟩
    refine step (Same.refl H) ⟨sz (by show 7 ≤ 100000; decide), fun p0 n0 => ⟨p0, _, rfl, .inr (SqT.of upd_same), rfl, rfl, _, rfl, ite2 (fun h0 => ?_) (fun h0 => ?_)⟩⟩
    · simp only [Bool.false_eq_true, if_false] at h0
      exact get "key" ((Same.refl H).trans (same_new n0)) (by unfold fieldOf; rw [if_pos h0])
    simp only [Bool.false_eq_true, if_false] at h0
    refine step ((Same.refl H).trans (same_new n0)) ⟨sz (by show 5 ≤ 100000; decide), fun p1 n1 => ⟨p1, _, rfl, .inr (SqT.of upd_same), rfl, rfl, _, rfl, ite2 (fun h1 => ?_) (fun h1 => ?_)⟩⟩
    · simp only [Bool.false_eq_true, if_false] at h1
      exact get "pos" (((Same.refl H).trans (same_new n0)).trans (same_new n1)) (by unfold fieldOf; rw [if_neg h0, if_pos h1])
    simp only [Bool.false_eq_true, if_false] at h1
    refine step (((Same.refl H).trans (same_new n0)).trans (same_new n1)) ⟨sz (by show 4 ≤ 100000; decide), fun p2 n2 => ⟨p2, _, rfl, .inr (SqT.of upd_same), rfl, rfl, _, rfl, ite2 (fun h2 => ?_) (fun h2 => ?_)⟩⟩
    · simp only [Bool.false_eq_true, if_false] at h2
      exact get "limit" ((((Same.refl H).trans (same_new n0)).trans (same_new n1)).trans (same_new n2)) (by unfold fieldOf; rw [if_neg h0, if_neg h1, if_pos h2])
    simp only [Bool.false_eq_true, if_false] at h2
    refine step ((((Same.refl H).trans (same_new n0)).trans (same_new n1)).trans (same_new n2)) ⟨sz (by show 4 ≤ 100000; decide), fun p3 n3 => ⟨p3, _, rfl, .inr (SqT.of upd_same), rfl, rfl, _, rfl, ite2 (fun h3 => ?_) (fun h3 => ?_)⟩⟩
    · simp only [Bool.false_eq_true, if_false] at h3
      exact get "name" (((((Same.refl H).trans (same_new n0)).trans (same_new n1)).trans (same_new n2)).trans (same_new n3)) (by unfold fieldOf; rw [if_neg h0, if_neg h1, if_neg h2, if_pos h3])
    simp only [Bool.false_eq_true, if_false] at h3
    refine ⟨.ref p.1, rfl, rfl, C, dd, fs, _, ec, xf, ft, ed, (((((Same.refl H).trans (same_new n0)).trans (same_new n1)).trans (same_new n2)).trans (same_new n3)) _ _ hd, lt, rfl, _, rfl, ite2 (fun h4 => ?_) (fun h4 => ?_)⟩
    · exact get "size" (((((Same.refl H).trans (same_new n0)).trans (same_new n1)).trans (same_new n2)).trans (same_new n3)) (by unfold fieldOf; rw [if_neg h0, if_neg h1, if_neg h2, if_neg h3, if_pos (by simpa using h4)])
    refine ⟨.ref p.1, rfl, rfl, C, dd, fs, _, ec, xf, ft, ed, (((((Same.refl H).trans (same_new n0)).trans (same_new n1)).trans (same_new n2)).trans (same_new n3)) _ _ hd, lt, rfl, _, rfl, ite2 (fun h5 => ?_) (fun h5 => ?_)⟩
    · exact get "word" (((((Same.refl H).trans (same_new n0)).trans (same_new n1)).trans (same_new n2)).trans (same_new n3)) (by unfold fieldOf; rw [if_neg h0, if_neg h1, if_neg h2, if_neg h3, if_neg (by simpa using h4), if_pos (by simpa using h5)])
    · exact get "number" (((((Same.refl H).trans (same_new n0)).trans (same_new n1)).trans (same_new n2)).trans (same_new n3)) (by unfold fieldOf; rw [if_neg h0, if_neg h1, if_neg h2, if_neg h3, if_neg (by simpa using h4), if_neg (by simpa using h5)])
end
end TT
namespace TT
open PySem PySem.Spec PyProof.Rows L2
section
variable {P : Program} {w : World} {K : PySem.W.Frag} {mg : Str → Option Value} {base : Heap}
theorem gv_out {X : Cx} {g : Addr} {cdg : Value} {q : Str} {k : Nat} {cT cM : Value} (c_field : CalE X.prog X.w X.K X.mg X.base "_law_field" ["_law_e"] k (spField X.K)) (mT : X.mg "TreeError" = some cT) (mM : X.mg "Missing" = some cM) :
    GivN X ["_law_ask", "_law_answer", "_law_tag", "_law_field_here", "_law_e"] "_law_outcome" (defScope s__law_outcome) g cdg (defBody s__law_outcome) "_law_ask" q (k + 1) (tOut X.K cT cM) := by
  intro f c' s H Q tl hr act hc h
  refine ⟨_, pss_cons (ps_asg (pe_tup (pa_cons pe_non (pa_cons pe_str (pa_cons pe_non pa_nil)))) (pg_tup rfl (pgs_cons (pg_name (i := 1) sc__law_outcome.nd rfl (Or.inl rfl)) (pgs_cons (pg_name (i := 2) sc__law_outcome.nd rfl (Or.inl rfl)) (pgs_cons (pg_name (i := 3) sc__law_outcome.nd rfl (Or.inl rfl)) pgs_nil)))))
    (pss_cons (ps_try_twoN (X := (cxOf C8.CX0 X.prog X.w X.K X.mg X.base ["_law_ask", "_law_answer", "_law_tag", "_law_field_here", "_law_e"] "_law_outcome" (defScope s__law_outcome) g cdg X.A X.stack s H C8.E0).nox) (i := 4) (c1 := cT) (c2 := cM) (ts := fun a oe => tPar 2 3 (tCons (tXp X.K (a, oe) "tag" (tVar 4)) (tCons (tCallE (spField X.K) (a, oe) (tCons (tVar 4) tNil)) tNil)))
      (tb := fun W D σ H => ∃ E : XK, (∀ cls d H', E cls d H' → W cls d σ H') ∧ σ[0]? = some (some (.ref f)) ∧ H c' = some (LamX.CodeO c' q) ∧ tl E H fun v H' => D.nx (σ.set 1 (some v)) H')
      rfl rfl sc__law_outcome.nd rfl rfl (by rfl) mT (by rfl) mM (by decide) (by decide) (fun W pn xe tk own => ?_) (fun a oe pn ctx => ?_))
      (pss_one (ps_ret (pe_tup (pa_cons (pv 1) (pa_cons (pv 2) (pa_cons (pv 3) pa_nil))))))), ?_⟩
  · refine ⟨fun pins s' σ H' D I h' => ?_⟩
    obtain ⟨E, hW, h1, h2, h3⟩ := h'
    exact (pss_one (ps_set (i := 1) sc__law_outcome.nd rfl (Or.inl rfl) (act W pn xe E _ _ tk))).run pins s' σ H' D I ⟨hW, h1, h2, h3⟩
  · exact pss_one (ps_par_hot (i := 2) (j := 3) ⟨(a, oe), ⟨rfl, ctx⟩, List.mem_cons_self⟩ sc__law_outcome.nd rfl rfl (by decide) rfl rfl
      (pa_cons (pe_xp (p := (a, oe)) ⟨rfl, ctx⟩ List.mem_cons_self (pv 4)) (pa_cons (pe_calE (p := (a, oe)) c_field ⟨rfl, ctx⟩ List.mem_cons_self ⟨(hr.mono (Nat.le_succ k)).dp, (hr.mono (Nat.le_succ k)).un⟩ (by rfl) (pa_cons (pv 4) pa_nil)) pa_nil)) rfl)
  · refine ⟨sz (by show 3 ≤ 100000; decide), fun p0 n0 => ⟨p0, _, rfl, SqT.of upd_same, rfl, _, _, rfl, _, _, rfl, _, _, rfl, rfl, ?_⟩⟩
    have e0 : Same H (upd H p0 (.tup [.non, .str "", .non])) := same_new n0
    refine ⟨Xo X.K cT cM Q, fun cls d H' hX => ?_, rfl, e0 _ _ hc, h _ _ _ e0 (fun _ _ _ z => z) fun v H' z => ?_⟩
    · obtain ⟨ex, C, dd, tag, v, rfl, rfl, hB, fin⟩ := hX
      obtain ⟨xf, ft, ff, fs, hd, lt, lf⟩ := id hB
      refine ⟨ex, fun a oe na zn => ?_⟩
      exact ⟨.ref a, rfl, rfl, C, dd, fs, _, zn.1, xf, ft, zn.2.1, hd, lt, .ref a, rfl, C, dd, tag, v, rfl, zn.1, zn.2.1, hB, fun H2 e2 => ⟨_, _, rfl, .non, rfl, .str tag, rfl, v, rfl, sz (by show 3 ≤ 100000; decide), fun p np => fin p _ (e2.trans (same_new np)) (e2.free np) upd_same⟩⟩
    · exact ⟨v, rfl, .str "", rfl, .non, rfl, sz (by show 3 ≤ 100000; decide), fun p np => z p _ (same_new np) np upd_same⟩
end
end TT
namespace TT
open PySem PySem.Spec PyProof.Rows L2
section
variable {P : Program} {w : World} {K : PySem.W.Frag} {mg : Str → Option Value} {base : Heap}
theorem tOut_mono {K : PySem.W.Frag} {cT cM : Value} {tl : XK → Hp → VK → Prop} {H : Hp} {Q Q' : VK} (h : tOut K cT cM tl H Q) (m : ∀ v H', Q v H' → Q' v H') : tOut K cT cM tl H Q' := fun H1 E R e hE hR =>
  h H1 E R e (fun cls d H' ⟨x, C, dd, tag, v, e1, e2, hB, fin⟩ => hE cls d H' ⟨x, C, dd, tag, v, e1, e2, hB, fun p H'' a b c => m _ _ (fin p H'' a b c)⟩) (fun v H' z => hR v H' fun p H'' a b c => m _ _ (z p H'' a b c))
theorem gv_err {X : Cx} {ge go : Addr} {cde : Value} {q : Str} {k : Nat} {cT cM : Value} {oc kV doc pm cdv ct : Value} {od an : Option Addr} {osl : Array (Option Value)} (hm : X.mg "_law_outcome" = some (.ref go)) (hk : PySem.W.keepIn X.K (.ref go) = true)
    (lk : X.K.lookup go = some ⟨oc, od, .func (PySem.W.fnOf "_law_outcome" "_law_outcome" (defArgs s__law_outcome) (defBody s__law_outcome) (defScope s__law_outcome) .none kV doc pm an cdv ct), osl⟩) (hcg : PySem.W.codeIn X.K cdv "_law_outcome" = true)
    (hb : L2.Binds X.K (PySem.W.fnOf "_law_outcome" "_law_outcome" (defArgs s__law_outcome) (defBody s__law_outcome) (defScope s__law_outcome) .none kV doc pm an cdv ct) ["_law_ask"] [])
    (c_field : CalE X.prog X.w X.K X.mg X.base "_law_field" ["_law_e"] k (spField X.K)) (mT : X.mg "TreeError" = some cT) (mM : X.mg "Missing" = some cM) :
    GivM X ["_law_ask"] "_law_error" (defScope s__law_error) ge cde (defBody s__law_error) q k (k + 2) (tErr X.K cT cM) := by
  intro f c' s H Q tl hr act hc h
  refine ⟨_, pss_one (ps_ret (pe_slice sl_tup (pe_onN (ye := "_law_outcome") (by rfl) hm hk lk hcg hb sc__law_outcome rfl (.inl rfl) (gv_out c_field mT mM) hr act (pv 0)) (po_some pe_int) po_none)), ?_⟩
  refine ⟨rfl, hc, tOut_mono h ?_⟩
  rintro v H' ⟨p, x, tag, y, rfl, hp, fin⟩
  exact ⟨1, rfl, p, _, rfl, SqT.of hp, fun z => absurd (show HT.sIx 3 0 (some 1) = 0 from z.1) (by decide +kernel), fun r hr => fin r hr⟩
end
end TT
namespace TT
open PySem PySem.Spec PyProof.Rows L2
section
variable {P : Program} {w : World} {K : PySem.W.Frag} {mg : Str → Option Value} {base : Heap}
theorem ok_keys {f : Addr} {fd : FuncData} {k : Nat} (F : Fun K "_law_keys" "_law_keys" s__law_keys f fd) (B : Blt mg) (c__law_take : Cal P w K mg base CX0 "_law_take" ["_law_draw", "_law_many"] k spTake)
    (c__law_of : Cal P w K mg base CX0 "_law_of" ["_law_draw", "_law_some"] k (spOf K)) : FnOk P w K mg base CX0 (k + 1) f fd ["_law_draw", "_law_many"] spKeys := by
  refine F.ok sc__law_keys (fun vs H Q E h => ?_) (fun cdv A outer s H vs Q E hr h => ?_)
  · obtain ⟨d, m, c, ns, rfl, _⟩ := h
    rfl
  · obtain ⟨d, m, c, ns, rfl, m0, m1, hD, q⟩ := h
    refine ⟨_, (pss_cons (ps_set (i := 2) sc__law_keys.nd rfl (Or.inl rfl) (pe_cal c__law_of (hr.mono (by omega)) (by rfl) (pa_cons (pv 0) (pa_cons (pe_lst (pa_cons (pe_op op_sub pe_int pe_int) (pa_cons pe_int (pa_cons (pe_op op_sub pe_int (pe_op op_pow pe_int pe_int)) (pa_cons (pe_op op_sub (pe_op op_pow pe_int pe_int) pe_int) (pa_cons (pe_cal c__law_take (hr.mono (by omega)) (by rfl) (pa_cons (pv 0) (pa_cons (pe_op op_pow pe_int pe_int) pa_nil))) pa_nil)))))) pa_nil))))
  (pss_cons (ps_par (i := 3) (j := 4) rfl sc__law_keys.nd rfl rfl (by decide) rfl rfl (pa_cons (pe_cal c__law_of (hr.mono (by omega)) (by rfl) (pa_cons (pv 0) (pa_cons (pe_lst (pa_cons pe_int (pa_cons pe_int (pa_cons pe_int (pa_cons pe_int pa_nil))))) pa_nil))) (pa_cons (pe_lst pa_nil) pa_nil)) rfl)
  (pss_cons (ps_for PassesOwn.never rfl (pi_range1 (by rfl) B.xrange (pa_cons (pv 1) pa_nil)) (pg_name (i := 5) sc__law_keys.nd rfl (Or.inl rfl))
    (pss_cons (ps_expr (pe_bm PySem.F.plainAttrs_list PySem.F.slot_list_append PySem.F.type_list_append mt_append (pv 4) (pa_cons (pv 2) pa_nil)))
  (pss_one (ps_set (i := 2) sc__law_keys.nd rfl (Or.inl rfl) (pe_op op_add (pe_op op_add (pv 2) pe_int) (pe_cal c__law_take (hr.mono (by omega)) (by rfl) (pa_cons (pv 0) (pa_cons (pv 3) pa_nil))))))))
  (pss_one (ps_ret (pv 4)))))), ?_⟩
    refine ⟨.ref d, rfl, 0, 5, rfl, rfl, 10, 9, rfl, rfl, cpow (by decide) (by decide) (by decide), 0, _, rfl, rfl, 10, 9, rfl, rfl, cpow (by decide) (by decide) (by decide), _, 50000, rfl, rfl, .ref d, rfl, 10, 6, rfl, rfl, cpow (by decide) (by decide) (by decide), d, _, c, ns, rfl, by decide, by decide, hD, fun r H1 r0 r1 hD1 hk1 => ?_⟩
    refine ⟨sz (by show 5 ≤ 100000; decide), fun p np => ⟨d, p, _, c, ns, rfl, SqL.of upd_same, by show 0 < 5; decide, by show 5 ≤ 100000; decide, hD1.ne np, hD1.new np, fun x H2 hx hD2 hk2 => ?_⟩⟩
    have e2 : Ext d H H2 := (Ext.but hk1).trans ((Ext.of (same_new np)).trans (Ext.but hk2))
    obtain ⟨k0, rfl, b0, b1⟩ : ∃ k0, x = .int k0 ∧ -1000000000 ≤ k0 ∧ k0 ≤ 999950000 := by
      simp only [List.mem_cons, List.not_mem_nil, or_false] at hx
      have r2 : r < 1000000 := r1
      rcases hx with rfl | rfl | rfl | rfl | rfl
      · exact ⟨_, rfl, by decide, by decide⟩
      · exact ⟨_, rfl, by decide, by decide⟩
      · exact ⟨_, rfl, by decide, by decide⟩
      · exact ⟨_, rfl, by decide, by decide⟩
      · exact ⟨_, rfl, by omega, by omega⟩
    refine ⟨.ref d, rfl, sz (by show 4 ≤ 100000; decide), fun p2 np2 => ⟨d, p2, _, c, ns, rfl, SqL.of upd_same, by show 0 < 4; decide, by show 4 ≤ 100000; decide, hD2.ne np2, hD2.new np2, fun x H3 hx hD3 hk3 => ?_⟩⟩
    have e3 : Ext d H H3 := e2.trans ((Ext.of (same_new np2)).trans (Ext.but hk3))
    obtain ⟨wd, rfl, w0, w1⟩ : ∃ wd, x = .int wd ∧ 1 ≤ wd ∧ wd ≤ 1000 := by
      simp only [List.mem_cons, List.not_mem_nil, or_false] at hx
      rcases hx with rfl | rfl | rfl | rfl <;> exact ⟨_, rfl, by decide, by decide⟩
    refine ⟨Nat.zero_le _, fun o no => ⟨.int wd, .ref o, rfl, ?_⟩⟩
    have nod := hD3.ne no
    obtain ⟨ob, hob⟩ := hD.at
    obtain ⟨ob3, hob3⟩ := hD3.at
    have noH : H o = none := e3.free hob hob3 no
    refine ⟨.int m, rfl, m, rfl, by omega, by omega, for_range (n := m.toNat) (fun i σ H4 => ∃ key ks y, σ = [some (.ref d), some (.int m), some (.int key), some (.int wd), some (.ref o), y] ∧ ks.length = i ∧ ks.Pairwise (· < ·) ∧ (∀ j ∈ ks, -1000000000 ≤ j ∧ j < key) ∧ -1000000000 ≤ key ∧ key ≤ k0 + 1000 * i ∧ Ext d H H4 ∧ Drw c ns H4 d ∧ H4 o = some (.lst (ks.map V.int)))
      ⟨k0, [], none, rfl, rfl, List.Pairwise.nil, fun _ h => (by cases h), b0, by omega, e3.put noH, hD3.new no, upd_same⟩ ?_ ?_⟩
    · rintro i σ H4 hi ⟨key, ks, y, rfl, lk, pw, bd, kb0, kb1, e4, hD4, ho4⟩
      -- found.append(key)
      refine ⟨.ref o, rfl, .inl ⟨rfl, _, SqL.of ho4⟩, .int key, rfl, o, _, _, rfl, rfl, ho4, szl (by rw [List.length_map]; omega), ?_⟩
      -- key = key + 1 + take(draw, wide)
      refine ⟨.int key, rfl, key, 1, rfl, rfl, .ref d, rfl, .int wd, rfl, d, wd, c, ns, rfl, w0, by omega, hD4.put hD noH, fun r H5 r0 r1 hD5 hk5 => ⟨_, r, rfl, rfl, ?_⟩⟩
      refine ⟨key + 1 + r, ks ++ [key], _, rfl, by rw [List.length_append, lk]; rfl, ?_, ?_, by omega, by omega, (e4.put noH).trans (.but hk5), hD5, ?_⟩
      · rw [List.pairwise_append]
        refine ⟨pw, List.pairwise_singleton _ _, fun a ha b hb => ?_⟩
        rw [List.mem_singleton.mp hb]
        exact (bd a ha).2
      · intro j hj
        rcases List.mem_append.mp hj with h | h
        · have := bd j h; omega
        · rw [List.mem_singleton.mp h]; omega
      · rw [hk5 o nod, upd_same, List.map_append]; rfl
    · rintro σ H4 ⟨key, ks, y, rfl, lk, pw, bd, kb0, kb1, e4, hD4, ho4⟩
      exact ⟨.ref o, rfl, q ks o H4 (by omega) ⟨pw, fun j hj => by have := bd j hj; omega⟩ e4 hD4 noH ho4⟩
end
end TT
namespace TT
open PySem PySem.Spec PyProof.Rows L2
section
variable {P : Program} {w : World} {K : PySem.W.Frag} {mg : Str → Option Value} {base : Heap}
theorem ok_size {f : Addr} {fd : FuncData} {k : Nat} (F : Fun K "_law_size" "_law_size" s__law_size f fd) (B : Blt mg) (c__law_take : Cal P w K mg base CX0 "_law_take" ["_law_draw", "_law_many"] k spTake)
    (c__law_of : Cal P w K mg base CX0 "_law_of" ["_law_draw", "_law_some"] k (spOf K)) : FnOk P w K mg base CX0 (k + 1) f fd ["_law_draw", "_law_most"] spSize := by
  refine F.ok sc__law_size (fun vs H Q E h => ?_) (fun cdv A outer s H vs Q E hr h => ?_)
  · obtain ⟨d, m, c, ns, rfl, _⟩ := h
    rfl
  · obtain ⟨d, m, c, ns, rfl, m0, m1, hD, q⟩ := h
    refine ⟨_, (pss_one (ps_ret (pe_cal c__law_of (hr.mono (by omega)) (by rfl) (pa_cons (pv 0) (pa_cons (pe_lst (pa_cons (pe_cal c__law_take (hr.mono (by omega)) (by rfl) (pa_cons (pv 0) (pa_cons (pe_op op_add (pv 1) pe_int) pa_nil))) (pa_cons (pe_callB (call_min2 rfl) (by rfl) B.xmin (by decide +kernel) (pa_cons (pv 1) (pa_cons (pe_cal c__law_take (hr.mono (by omega)) (by rfl) (pa_cons (pv 0) (pa_cons pe_int pa_nil))) pa_nil))) (pa_cons (pe_callB (call_min2 rfl) (by rfl) B.xmin (by decide +kernel) (pa_cons (pv 1) (pa_cons pe_int pa_nil))) pa_nil)))) pa_nil))))), ?_⟩
    refine ⟨.ref d, rfl, .ref d, rfl, .int m, rfl, m, 1, rfl, rfl, d, _, c, ns, rfl, by omega, by omega, hD, fun r H1 r0 r1 hD1 hk1 => ?_⟩
    refine ⟨.int m, rfl, .ref d, rfl, d, _, c, ns, rfl, by omega, by omega, hD1, fun u H2 u0 u1 hD2 hk2 => ⟨m, u, rfl, .int m, rfl, m, 3, rfl, sz (by show 3 ≤ 100000; decide), fun p np => ?_⟩⟩
    refine ⟨d, p, _, c, ns, rfl, SqL.of upd_same, by show 0 < 3; decide, by show 3 ≤ 100000; decide, hD2.ne np, hD2.new np, fun x H3 hx hD3 hk3 => ?_⟩
    have e3 : Ext d H H3 := (Ext.but hk1).trans ((Ext.but hk2).trans ((Ext.of (same_new np)).trans (Ext.but hk3)))
    simp only [List.mem_cons, List.not_mem_nil, or_false] at hx
    rcases hx with rfl | rfl | rfl
    · exact q _ _ r0 (by omega) e3 hD3
    · refine q _ _ ?_ ?_ e3 hD3 <;> split <;> omega
    · refine q _ _ ?_ ?_ e3 hD3 <;> split <;> omega
end
end TT
namespace TT
open PySem PySem.Spec PyProof.Rows L2
section
variable {P : Program} {w : World} {K : PySem.W.Frag} {mg : Str → Option Value} {base : Heap}
theorem ok_empty {f : Addr} {fd : FuncData} {k : Nat} (F : Fun K "_law_empty" "_law_empty" s__law_empty f fd) : FnOk P w K mg base CX0 (k + 1) f fd [] spEmpty := by
  refine F.ok sc__law_empty (fun vs H Q E h => ?_) (fun cdv A outer s H vs Q E hr h => ?_)
  · obtain ⟨rfl, _⟩ := h
    rfl
  · obtain ⟨rfl, q⟩ := h
    refine ⟨_, (pss_one (ps_ret (pe_disp (pps_cons pe_str pe_non (pps_cons pe_str pe_dnewK (pps_cons pe_str pe_dnewK (pps_cons pe_str pe_dnewK pps_nil)))) (by rfl) (by rfl) (fun z => by cases z) (by decide)))), ?_⟩
    intro m nm L nL R nR U nU
    have s1 := same_new (o := .dK []) nm
    have s2 := same_new (o := .dK []) nL
    have s3 := same_new (o := .dK []) nR
    have s4 := same_new (o := .dK []) nU
    have hm := s4 _ _ (s3 _ _ (s2 _ _ (upd_same (H := H) (a := m) (o := .dK []))))
    have hL := s4 _ _ (s3 _ _ (upd_same (H := upd H m (.dK [])) (a := L) (o := .dK [])))
    have hR := s4 _ _ (upd_same (H := upd (upd H m (.dK [])) L (.dK [])) (a := R) (o := .dK []))
    have hU := upd_same (H := upd (upd (upd H m (.dK [])) L (.dK [])) R (.dK [])) (a := U) (o := .dK [])
    have mL : m ≠ L := ne_of_none upd_same nL
    have mR : m ≠ R := ne_of_none (s2 _ _ upd_same) nR
    have mU : m ≠ U := ne_of_none (s3 _ _ (s2 _ _ upd_same)) nU
    have LR : L ≠ R := ne_of_none upd_same nR
    have LU : L ≠ U := ne_of_none (s3 _ _ upd_same) nU
    have RU : R ≠ U := ne_of_none upd_same nU
    refine ⟨hm, nodK none L R U, rfl, by show 4 ≤ 15; decide, ?_⟩
    refine q m L R U _ ?_ nm (s1.free nL) (s1.free (s2.free nR)) (s1.free (s2.free (s3.free nU))) ⟨upd_same, ⟨[], ?_, .nil⟩, ⟨[], ?_, .nil⟩, ⟨[], ?_, .nil⟩, mL, mR, mU, LR, LU, RU⟩
    · exact Same.put (s1.trans (s2.trans (s3.trans s4))) nm
    · rw [upd_ne mL.symm]; exact hL
    · rw [upd_ne mR.symm]; exact hR
    · rw [upd_ne mU.symm]; exact hU
end
end TT
namespace TT
open PySem PySem.Spec PyProof.Rows L2
section
variable {P : Program} {w : World} {K : PySem.W.Frag} {mg : Str → Option Value} {base : Heap}
theorem ok_place {f : Addr} {fd : FuncData} {k : Nat} (F : Fun K "_law_place" "_law_place" s__law_place f fd) (B : Blt mg) : FnOk P w K mg base CX0 (k + 1) f fd ["_law_m", "_law_key"] spPlace := by
  refine F.ok sc__law_place (fun vs H Q E h => ?_) (fun cdv A outer s H vs Q E hr h => ?_)
  · obtain ⟨m, key, L, R, U, t, n, rfl, _⟩ := h
    rfl
  · obtain ⟨m, key, L, R, U, t, n, rfl, hT, hb, hk, hl, hn, q⟩ := h
    have hu := hu_of hr
    refine ⟨_, (pss_cons (ps_par (i := 2) (j := 3) rfl sc__law_place.nd rfl rfl (by decide) rfl rfl (pa_cons (pe_dget hu (pv 0) pe_str (fun _ _ => rfl)) (pa_cons pe_int pa_nil)) rfl)
  (C8.pss_cut (ps_if (pt_cmp (pc_isN (pv 2)))
    (pss_one (ps_dput hu (pv 0) pe_str (pv 1) rfl))
    pss_nil)
  (pss_cons (ps_for PassesOwn.never rfl (pi_range1 (by rfl) B.xrange (pa_cons pe_int pa_nil)) (pg_name (i := 4) sc__law_place.nd rfl (Or.inl rfl))
    (pss_one (ps_if (pt_cmp (pc_notN (pv 2)))
    (pss_cons (ps_par (i := 5) (j := 3) rfl sc__law_place.nd rfl rfl (by decide) rfl rfl (pa_cons (pe_dget hu (pv 0) (pe_ifExp (pt_cmpR op_lt (pv 1) (pv 2) (nomark _)) pe_str pe_str) (fun _ _ => rfl)) (pa_cons (pe_op op_add (pv 3) pe_int) pa_nil)) rfl)
  (pss_one (ps_if (pt_cmp (pc_dnotin hu (pv 2) (pv 5)))
    (pss_cons (ps_dput hu (pv 5) (pv 2) (pv 1) rfl)
  (pss_cons (ps_dput hu (pe_dget hu (pv 0) pe_str (fun _ _ => rfl)) (pv 1) (pv 2) rfl)
  (pss_one (ps_set (i := 2) sc__law_place.nd rfl (Or.inl rfl) pe_non))))
    (pss_one (ps_set (i := 2) sc__law_place.nd rfl (Or.inl rfl) (pe_dget hu (pv 5) (pv 2) (fun _ _ => rfl)))))))
    pss_nil)))
  (pss_one (ps_ret (pv 3)))))), ?_⟩
    refine rd_dS "root" rfl hT.hm nod_root ⟨oV t.rt, .int 0, rfl, ?_⟩
    -- the word of the loop
    let Pv : Nat → L2.St → Hp → Prop := fun i σ H3 =>
      (∃ l x r y4 y5, σ = [some (.ref m), some (.int key), some (.int x), some (.int i), y4, y5] ∧ H3 = H ∧ Sub (T.node l x r) t ∧ (T.node l x r).bst ∧ t.spot key = (T.node l x r).spot key ∧ t.dIns key = i + (T.node l x r).dIns key) ∨
      (∃ y4 y5, σ = [some (.ref m), some (.int key), some .non, some (.int (t.dIns key)), y4, y5] ∧ TrAt H3 m L R U (t.ins key) (n + 1) ∧ ∀ b, b ≠ m → b ≠ L → b ≠ R → b ≠ U → H3 b = H b)
    refine ⟨Pv 0, ?_, ?_⟩
    · cases t with
      | leaf =>
        refine ⟨.non, rfl, _, rfl, iteTd rfl ?_⟩
        refine ⟨.int key, rfl, .ref m, rfl, m, _, rfl, DPut.k (k := Sum.inr "root") hT.hm (szl (by show 4 < 100000; decide)), .inr ⟨none, none, rfl, ?_, fun b h1 _ _ _ => upd_ne h1⟩⟩
        obtain ⟨lk, h1, h2⟩ := hT.l
        obtain ⟨rk, h3, h4⟩ := hT.r
        obtain ⟨uk, h5, h6⟩ := hT.u
        refine ⟨upd_same, ⟨lk, by rw [upd_ne hT.mL.symm]; exact h1, h2.eq (fun z => lc_one.symm) (Nat.le_succ _)⟩, ⟨rk, by rw [upd_ne hT.mR.symm]; exact h3, h4.eq (fun z => rc_one.symm) (Nat.le_succ _)⟩, ⟨uk, by rw [upd_ne hT.mU.symm]; exact h5, h6.eq (fun z => up_one.symm) (Nat.le_succ _)⟩, hT.mL, hT.mR, hT.mU, hT.LR, hT.LU, hT.RU⟩
      | node l x r =>
        refine ⟨.int x, rfl, _, rfl, iteFd rfl ?_⟩
        exact .inl ⟨l, x, r, none, none, rfl, rfl, Sub.refl _, hb, rfl, by omega⟩
    · intro σ H1 h0
      refine ⟨60, rfl, by decide, by decide, for_range (n := 60) Pv h0 ?_ ?_⟩
      · intro i σ H3 hi hP
        rcases hP with ⟨l, x, r, y4, y5, rfl, rfl, hS, hbs, hsp, hdi⟩ | ⟨y4, y5, rfl, hT3, hf⟩
        · obtain ⟨lk, h1, h2⟩ := hT.l
          obtain ⟨rk, h3, h4⟩ := hT.r
          obtain ⟨uk, h5, h6⟩ := hT.u
          obtain ⟨t1, t2⟩ := hS.top
          rw [spot_node] at hsp
          have hdi2 : t.dIns key = i + ((if key < x then l.dIns key else r.dIns key) + 1) := hdi
          refine ⟨.int x, rfl, _, rfl, iteTd rfl ?_⟩
          refine ⟨.ref m, rfl, .int key, rfl, .int x, rfl, key, x, rfl, rfl, _, rfl, ite2 (fun e => ?_) (fun e => ?_)⟩
          · have lt : key < x := of_decide_eq_true e
            rw [if_pos lt] at hsp hdi2
            refine ⟨m, .ref L, rfl, dg_s "left" hT.hm nod_left, .int i, rfl, i, 1, rfl, rfl, .ref L, .int (i + 1), rfl, ?_⟩
            refine ⟨.int x, rfl, .ref L, rfl, L, _, rfl, dg_in h1 h2, _, rfl, ?_⟩
            rw [t1]
            cases l with
            | leaf =>
              rw [if_pos (show T.leaf.rt = none from rfl)] at hsp
              refine iteTd rfl ?_
              refine ⟨.int key, rfl, .ref L, rfl, .int x, rfl, L, _, rfl, dp_in h1 h2 (by omega), ?_⟩
              refine ⟨.int x, rfl, rd_dS "up" rfl (by rw [upd_ne hT.mL]; exact hT.hm) nod_up ⟨.int key, rfl, U, _, rfl, dp_in (by rw [upd_ne hT.LU.symm]; exact h5) h6 (by omega), ?_⟩⟩
              refine .inr ⟨some (.int (0 + i)), some (.ref L), ?_, hT.insL hb hk hsp h2 h6, fun b b1 b2 b3 b4 => by rw [upd_ne b4, upd_ne b2]⟩
              rw [hdi2]; rfl
            | node l1 x1 r1 =>
              rw [if_neg (show ¬ (T.node l1 x1 r1).rt = none from fun z => by cases z)] at hsp
              refine iteFd rfl ?_
              refine ⟨.ref L, rfl, .int x, rfl, L, .int x1, rfl, ?_, .inl ⟨l1, x1, r1, _, _, rfl, rfl, hS.l hbs, hbs.2.2.1, hsp, by omega⟩⟩
              have := dg_in (x := x) h1 h2
              rwa [t1] at this
          · have ge : ¬ key < x := fun z => e (decide_eq_true z)
            rw [if_neg ge] at hsp hdi2
            refine ⟨m, .ref R, rfl, dg_s "right" hT.hm nod_right, .int i, rfl, i, 1, rfl, rfl, .ref R, .int (i + 1), rfl, ?_⟩
            refine ⟨.int x, rfl, .ref R, rfl, R, _, rfl, dg_in h3 h4, _, rfl, ?_⟩
            rw [t2]
            cases r with
            | leaf =>
              rw [if_pos (show T.leaf.rt = none from rfl)] at hsp
              refine iteTd rfl ?_
              refine ⟨.int key, rfl, .ref R, rfl, .int x, rfl, R, _, rfl, dp_in h3 h4 (by omega), ?_⟩
              refine ⟨.int x, rfl, rd_dS "up" rfl (by rw [upd_ne hT.mR]; exact hT.hm) nod_up ⟨.int key, rfl, U, _, rfl, dp_in (by rw [upd_ne hT.RU.symm]; exact h5) h6 (by omega), ?_⟩⟩
              refine .inr ⟨some (.int (0 + i)), some (.ref R), ?_, hT.insR hb hk hsp h4 h6, fun b b1 b2 b3 b4 => by rw [upd_ne b4, upd_ne b3]⟩
              rw [hdi2]; rfl
            | node l1 x1 r1 =>
              rw [if_neg (show ¬ (T.node l1 x1 r1).rt = none from fun z => by cases z)] at hsp
              refine iteFd rfl ?_
              refine ⟨.ref R, rfl, .int x, rfl, R, .int x1, rfl, ?_, .inl ⟨l1, x1, r1, _, _, rfl, rfl, hS.r hbs, hbs.2.2.2, hsp, by omega⟩⟩
              have := dg_in (x := x) h3 h4
              rwa [t2] at this
        · refine ⟨.non, rfl, _, rfl, iteFd rfl (.inr ⟨_, _, rfl, hT3, hf⟩)⟩
      · intro σ H3 hP
        rcases hP with ⟨l, x, r, y4, y5, rfl, rfl, hS, hbs, hsp, hdi⟩ | ⟨y4, y5, rfl, hT3, hf⟩
        · have := dIns_le (key := key) (t := t)
          omega
        · exact ⟨_, rfl, q H3 hT3 hf⟩
end
end TT
namespace TT
open PySem PySem.Spec PyProof.Rows L2
section
variable {P : Program} {w : World} {K : PySem.W.Frag} {mg : Str → Option Value} {base : Heap}
theorem ok_tree {f : Addr} {fd : FuncData} {k : Nat} (F : Fun K "_law_tree" "_law_tree" s__law_tree f fd) (c__law_empty : Cal P w K mg base CX0 "_law_empty" [] k spEmpty) (c__law_place : Cal P w K mg base CX0 "_law_place" ["_law_m", "_law_key"] k spPlace) : FnOk P w K mg base CX0 (k + 1) f fd ["_law_order"] (spTree K) := by
  refine F.ok sc__law_tree (fun vs H Q E h => ?_) (fun cdv A outer s H vs Q E hr h => ?_)
  · obtain ⟨a, ks, rfl, _⟩ := h
    rfl
  · obtain ⟨a, ks, rfl, hS, nd, hl, q⟩ := h
    have turn : ∀ (m L R U : Addr) (H1 : Hp), Same H H1 → H m = none → H L = none → H R = none → H U = none → ∀ i x H3, (ks.map V.int)[i]? = some x → Same H H3 → TrAt H3 m L R U (T.insAll (ks.take i) T.leaf) i →
        spPlace [.ref m, x] H3 (fun _ H4 => Same H H4 ∧ TrAt H4 m L R U (T.insAll (ks.take (i + 1)) T.leaf) (i + 1)) E0 := by
      intro m L R U H1 e1 nm nL nR nU i x H3 hx e3 hT
      rw [List.getElem?_map] at hx
      obtain ⟨key, hk, rfl⟩ := Option.map_eq_some_iff.mp hx
      have hi := (List.getElem?_eq_some_iff.mp hk).1
      have lt : (T.insAll (ks.take i) T.leaf).pre.length = i := by
        rw [len_insAll, List.length_take]
        show 0 + _ = _
        omega
      refine ⟨m, key, L, R, U, T.insAll (ks.take i) T.leaf, i, rfl, hT, bst_insAll trivial (nd.sublist (List.take_sublist _ _)) (fun _ _ h => by cases h), ?_, by omega, by omega, fun H' hT' hf => ⟨fun b o hb => ?_, ?_⟩⟩
      · intro hm
        rcases mem_insAll.mp hm with h | h
        · obtain ⟨j, hj, e⟩ := List.mem_take_iff_getElem.mp h
          have hj2 : j < ks.length := by omega
          have h1 : ks[j]? = some key := by rw [List.getElem?_eq_getElem hj2]; exact congrArg some e
          have := (List.getElem?_inj hj2 nd).mp (h1.trans hk.symm)
          omega
        · cases h
      · rw [hf b (ne_of_none hb nm) (ne_of_none hb nL) (ne_of_none hb nR) (ne_of_none hb nU)]
        exact e3 b o hb
      · rw [insAll_take_succ hk]
        exact hT'
    rcases hS with hS | hS
    · refine ⟨_, (pss_cons (ps_set (i := 1) sc__law_tree.nd rfl (Or.inl rfl) (pe_cal0 c__law_empty (hr.mono (by omega)) (by rfl)))
  (pss_cons (ps_for PassesOwn.never rfl (pi_list (pv 0)) (pg_name (i := 2) sc__law_tree.nd rfl (Or.inl rfl))
    (pss_one (ps_expr (pe_cal c__law_place (hr.mono (by omega)) (by rfl) (pa_cons (pv 1) (pa_cons (pv 2) pa_nil))))))
  (pss_one (ps_ret (pv 1))))), ?_⟩
      refine ⟨rfl, fun m L R U H1 e1 nm nL nR nU hN => ?_⟩
      refine ⟨.ref a, rfl, a, rfl, ⟨_, e1.seq hS⟩, for_list (xs := ks.map V.int) (fun i σ H3 => ∃ y, σ = [some (.ref a), some (.ref m), y] ∧ Same H H3 ∧ TrAt H3 m L R U (T.insAll (ks.take i) T.leaf) i) ⟨none, rfl, e1, hN⟩ ?_ ?_ ?_⟩
      · rintro i σ H3 _ ⟨y, rfl, e3, _⟩
        exact e3.seq hS
      · rintro i x σ H3 hx ⟨y, rfl, e3, hT⟩
        refine ⟨.ref m, rfl, x, rfl, ?_⟩
        obtain ⟨m', key, L', R', U', t, n, e, h1, h2, h3, h4, h5, h6⟩ := turn m L R U H1 e1 nm nL nR nU i x H3 hx e3 hT
        exact ⟨m', key, L', R', U', t, n, e, h1, h2, h3, h4, h5, fun H' a1 a2 => ⟨some x, rfl, (h6 H' a1 a2)⟩⟩
      · rintro σ H3 ⟨y, rfl, e3, hT⟩
        rw [List.length_map, List.take_length] at hT
        exact ⟨.ref m, rfl, q m L R U H3 e3 nm nL nR nU hT⟩
    · refine ⟨_, (pss_cons (ps_set (i := 1) sc__law_tree.nd rfl (Or.inl rfl) (pe_cal0 c__law_empty (hr.mono (by omega)) (by rfl)))
  (pss_cons (ps_for PassesOwn.never rfl (pi_tup (pv 0)) (pg_name (i := 2) sc__law_tree.nd rfl (Or.inl rfl))
    (pss_one (ps_expr (pe_cal c__law_place (hr.mono (by omega)) (by rfl) (pa_cons (pv 1) (pa_cons (pv 2) pa_nil))))))
  (pss_one (ps_ret (pv 1))))), ?_⟩
      refine ⟨rfl, fun m L R U H1 e1 nm nL nR nU hN => ?_⟩
      refine ⟨.ref a, rfl, a, rfl, ⟨_, Same.tup e1 hS⟩, for_tup (xs := ks.map V.int) (fun i σ H3 => ∃ y, σ = [some (.ref a), some (.ref m), y] ∧ Same H H3 ∧ TrAt H3 m L R U (T.insAll (ks.take i) T.leaf) i) ⟨none, rfl, e1, hN⟩ ?_ ?_ ?_⟩
      · rintro i σ H3 _ ⟨y, rfl, e3, _⟩
        exact Same.tup e3 hS
      · rintro i x σ H3 hx ⟨y, rfl, e3, hT⟩
        refine ⟨.ref m, rfl, x, rfl, ?_⟩
        obtain ⟨m', key, L', R', U', t, n, e, h1, h2, h3, h4, h5, h6⟩ := turn m L R U H1 e1 nm nL nR nU i x H3 hx e3 hT
        exact ⟨m', key, L', R', U', t, n, e, h1, h2, h3, h4, h5, fun H' a1 a2 => ⟨some x, rfl, (h6 H' a1 a2)⟩⟩
      · rintro σ H3 ⟨y, rfl, e3, hT⟩
        rw [List.length_map, List.take_length] at hT
        exact ⟨.ref m, rfl, q m L R U H3 e3 nm nL nR nU hT⟩
end
end TT
namespace TT
open PySem PySem.Spec PyProof.Rows L2
section
variable {P : Program} {w : World} {K : PySem.W.Frag} {mg : Str → Option Value} {base : Heap}
theorem ok_shape {f : Addr} {fd : FuncData} {k : Nat} (F : Fun K "_law_shape" "_law_shape" s__law_shape f fd) (B : Blt mg) : FnOk P w K mg base CX0 (k + 1) f fd ["_law_m"] spShape := by
  refine F.ok sc__law_shape (fun vs H Q E h => ?_) (fun cdv A outer s H vs Q E hr h => ?_)
  · obtain ⟨m, L, R, U, t, uf, n, rfl, _⟩ := h
    rfl
  · obtain ⟨m, L, R, U, t, uf, n, rfl, hN, hb, hl, q⟩ := h
    have hu := hu_of hr
    refine ⟨_, (C8.pss_cut (ps_par (i := 1) (j := 2) rfl sc__law_shape.nd rfl rfl (by decide) rfl rfl (pa_cons (pe_lst pa_nil) (pa_cons (pe_ifExp (pt_cmp (pc_notN (pe_dget hu (pv 0) pe_str (fun _ _ => rfl)))) (pe_lst (pa_cons (pe_dget hu (pv 0) pe_str (fun _ _ => rfl)) pa_nil)) (pe_lst pa_nil)) pa_nil)) rfl)
  (pss_cons (ps_while PassesOwn.never (pt_cmpR (op_neD hr.units) (pv 2) (pe_lst pa_nil) (nomark _))
    (pss_cons (ps_set (i := 3) sc__law_shape.nd rfl (Or.inr rfl) (pe_bm0 PySem.F.plainAttrs_list PySem.F.slot_list_pop PySem.F.type_list_pop mt_pop (pv 2)))
  (pss_cons (ps_expr (pe_bm PySem.F.plainAttrs_list PySem.F.slot_list_append PySem.F.type_list_append mt_append (pv 1) (pa_cons (pv 3) pa_nil)))
  (pss_one (ps_set (i := 2) sc__law_shape.nd rfl (Or.inl rfl) (pe_op op_cat (pv 2) (pe_lc (own := [("_law_side", 4)]) (g := gName 4) (by rfl) sc__law_shape.nd (pi_tup (pe_tup (pa_cons (pe_dget hu (pv 0) pe_str (fun _ _ => rfl)) (pa_cons (pe_dget hu (pv 0) pe_str (fun _ _ => rfl)) pa_nil)))) (blkOk_by (own := [("_law_side", 4)]) (N := ["_law_m", "_law_found", "_law_line", "_law_key", "_law_side"]) (sc := defScope s__law_shape) (by decide +kernel)) (fun _ _ _ _ _ => (pg_name (i := 4) sc__law_shape.nd rfl (Or.inl rfl))) (fun _ _ _ _ _ => (pts_one (pt_cmp (pc_din hu (pv 3) (pv 4))))) (fun _ _ _ _ _ => (pe_dget hu (pv 4) (pv 3) (fun _ _ => rfl))))))))))
  (pss_one (ps_ret (pe_callTy call_tuple_of (by rfl) B.xtuple (by decide +kernel) (pa_cons (pv 1) pa_nil)))))), ?_⟩
    -- found, line = [], [root] or []
    refine ⟨fun σ H3 => ∃ fo l, σ = [some (.ref m), some (.ref fo), some (.ref l), none, none] ∧ Same H H3 ∧ H fo = none ∧ H l = none ∧ fo ≠ l ∧ H3 fo = some (.lst []) ∧ H3 l = some (.lst ((roots (kid t)).map V.int)), ?_, ?_⟩
    · refine ⟨Nat.zero_le _, fun fo nfo => ?_⟩
      have s1 : Same H (upd H fo (.lst [])) := same_new nfo
      refine rd_dS "root" rfl (s1 _ _ hN.hm) nod_root ⟨_, rfl, ?_⟩
      cases t with
      | leaf =>
        refine iteFd rfl ⟨Nat.zero_le _, fun l nl => ⟨_, _, rfl, fo, l, rfl, s1.trans (same_new nl), nfo, s1.free nl, ne_of_none upd_same nl, same_new nl _ _ upd_same, upd_same⟩⟩
      | node tl x tr =>
        refine iteTd rfl (rd_dS "root" rfl (s1 _ _ hN.hm) nod_root ⟨sz (by show 1 ≤ 100000; decide), fun l nl => ⟨_, _, rfl, fo, l, rfl, s1.trans (same_new nl), nfo, s1.free nl, ne_of_none upd_same nl, same_new nl _ _ upd_same, upd_same⟩⟩)
    · rintro σ H1 ⟨fo, l0, rfl, e1, nfo, nl0, nfl, hfo, hl0⟩
      obtain ⟨lk, g1, g2⟩ := hN.l
      obtain ⟨rk, g3, g4⟩ := hN.r
      let W : Nat → L2.St → Hp → Prop := fun m' σ H3 => ∃ ts ks l y3 y4, σ = [some (.ref m), some (.ref fo), some (.ref l), y3, y4] ∧ Same H H3 ∧ H l = none ∧ fo ≠ l ∧ H3 fo = some (.lst (ks.map V.int)) ∧ H3 l = some (.lst ((roots ts).map V.int)) ∧ ks ++ pres ts = t.pre ∧ (∀ n ∈ ts, Sub (ndT n) t ∧ (ndT n).bst) ∧ m' = (pres ts).length
      refine ⟨W, ⟨_, kid t, [], l0, none, none, rfl, e1, nl0, nfl, hfo, hl0, pres_kid t, ?_, rfl⟩, ?_⟩
      · intro n hn
        cases t with
        | leaf => cases hn
        | node tl x tr => rw [List.mem_singleton.mp hn]; exact ⟨Sub.refl _, hb⟩
      · rintro m' σ H3 ⟨ts, ks, l, y3, y4, rfl, e3, nl, nfl, hfo3, hl3, hp, hs, rfl⟩
        -- line != []
        refine ⟨.ref l, rfl, Nat.zero_le _, fun em nem => ?_⟩
        have e4 := same_new (o := .lst []) nem
        refine rd_neL (ns := roots ts) (ms := []) (SqL.of (e4 _ _ hl3)) (SqL.of upd_same) ⟨_, rfl, ?_⟩
        cases hts : ts.getLast? with
        | none =>
          have et : ts = [] := List.getLast?_eq_none_iff.mp hts
          subst et
          refine iteFd rfl ?_
          -- return tuple(found)
          refine ⟨.ref fo, rfl, fo, _, rfl, .inl ⟨SqL.of (e4 _ _ hfo3), fun p np => ?_⟩⟩
          have e5 := e3.trans e4
          refine q p _ (e5.trans (same_new np)) (e5.free np) ?_
          rw [upd_same, ← hp]
          simp [pres]
        | some nd =>
          obtain ⟨us, rfl⟩ : ∃ us, ts = us ++ [nd] := List.getLast?_eq_some_iff.mp hts
          obtain ⟨tl, x, tr⟩ := nd
          obtain ⟨hsub, hbs⟩ := hs (tl, x, tr) (by simp)
          have hr2 : (roots (us ++ [(tl, x, tr)])).map V.int = (roots us).map V.int ++ [.int x] := by simp [roots]
          rw [hr2] at hl3
          refine iteTd (by rw [decide_eq_false (by simp [roots])]; rfl) ?_
          have hpl : (pres (us ++ [(tl, x, tr)])).length ≤ 1000 := by
            have := congrArg List.length hp
            rw [List.length_append] at this
            omega
          have hkl : ks.length ≤ 1000 := by
            have := congrArg List.length hp
            rw [List.length_append] at this
            omega
          have hul : us.length ≤ 1000 := by
            have h1 := len_pres (us ++ [(tl, x, tr)])
            rw [List.length_append] at h1
            omega
          have nfl4 : (upd H3 em (.lst [])) l = some (.lst ((roots us).map V.int ++ [.int x])) := e4 _ _ hl3
          refine ⟨fun σ' H' => ∃ m'', m'' < (pres (us ++ [(tl, x, tr)])).length ∧ W m'' σ' H', fun _ _ h => h, ?_⟩
          -- key = line.pop()
          refine ⟨.ref l, rfl, .inl ⟨rfl, _, SqL.of nfl4⟩, l, _, .int x, rfl, rfl, nfl4, by simp, ?_⟩
          rw [List.dropLast_concat]
          have e5 : Same H (upd (upd H3 em (.lst [])) l (.lst ((roots us).map V.int))) := Same.put (e3.trans e4) nl
          have hfo5 : (upd (upd H3 em (.lst [])) l (.lst ((roots us).map V.int))) fo = some (.lst (ks.map V.int)) := by rw [upd_ne nfl]; exact e4 _ _ hfo3
          have hl5 : (upd (upd H3 em (.lst [])) l (.lst ((roots us).map V.int))) l = some (.lst ((roots us).map V.int)) := upd_same
          generalize (upd (upd H3 em (.lst [])) l (.lst ((roots us).map V.int))) = H5 at e5 hfo5 hl5
          -- found.append(key)
          refine ⟨.ref fo, rfl, .inl ⟨rfl, _, SqL.of hfo5⟩, .int x, rfl, fo, _, _, rfl, rfl, hfo5, szl (by rw [List.length_map]; omega), ?_⟩
          have e6 : Same H (upd H5 fo (.lst (ks.map V.int ++ [.int x]))) := Same.put e5 nfo
          have hfo6 : (upd H5 fo (.lst (ks.map V.int ++ [.int x]))) fo = some (.lst ((ks ++ [x]).map V.int)) := by rw [upd_same, List.map_append]; rfl
          have hl6 : (upd H5 fo (.lst (ks.map V.int ++ [.int x]))) l = some (.lst ((roots us).map V.int)) := by rw [upd_ne nfl.symm]; exact hl5
          generalize (upd H5 fo (.lst (ks.map V.int ++ [.int x]))) = H6 at e6 hfo6 hl6
          obtain ⟨t1, t2⟩ := hsub.top
          -- line = line + [..]
          refine ⟨.ref l, rfl, rd_dS "right" rfl (e6 _ _ hN.hm) nod_right (rd_dS "left" rfl (e6 _ _ hN.hm) nod_left ⟨sz (by show 2 ≤ 100000; decide), fun tp ntp => ⟨tp, rfl, ⟨_, SqT.of upd_same⟩, fun D nD => ?_⟩⟩)⟩
          have e7 := same_new (o := .tup [.ref R, .ref L]) ntp
          have htp : (upd H6 tp (.tup [.ref R, .ref L])) tp = some (.tup [.ref R, .ref L]) := upd_same
          generalize (upd H6 tp (.tup [.ref R, .ref L])) = H7 at nD e7 htp
          refine lc_tup (xs := [.ref R, .ref L]) (fun i H8 => Same H7 H8 ∧ H8 D = some (.lst ((roots (if i = 0 then [] else if i = 1 then kid tr else kid tr ++ kid tl)).map V.int))) ⟨same_new nD, upd_same⟩ (fun i H8 _ h => SqT.of (h.1 _ _ htp)) ?_ ?_
          · rintro i v H8 hv ⟨e8, hD8⟩
            have e8' : Same H H8 := e6.trans (e7.trans e8)
            match i, hv with
            | 0, hv =>
              cases hv
              refine ⟨rfl, .int x, rfl, .ref R, rfl, R, _, rfl, dg_in (e8' _ _ g3) g4, _, rfl, ?_⟩
              rw [t2]
              cases tr with
              | leaf => exact iteFd rfl ⟨e8, hD8⟩
              | node a1 x1 b1 =>
                refine iteTd rfl ⟨.ref R, rfl, .int x, rfl, R, .int x1, rfl, ?_, _, hD8, szl (by show 0 < 100000; decide), Same.put e8 nD, upd_same⟩
                have := dg_in (x := x) (e8' _ _ g3) g4
                rwa [t2] at this
            | 1, hv =>
              cases hv
              refine ⟨rfl, .int x, rfl, .ref L, rfl, L, _, rfl, dg_in (e8' _ _ g1) g2, _, rfl, ?_⟩
              rw [t1]
              cases tl with
              | leaf =>
                refine iteFd rfl ⟨e8, ?_⟩
                rw [hD8]
                show some (HO.lst ((roots (kid tr)).map V.int)) = some (HO.lst ((roots (kid tr ++ [])).map V.int))
                rw [List.append_nil]
              | node a1 x1 b1 =>
                refine iteTd rfl ⟨.ref L, rfl, .int x, rfl, L, .int x1, rfl, ?_, _, hD8, szl (by cases tr <;> simp [roots, kid]), Same.put e8 nD, ?_⟩
                · have := dg_in (x := x) (e8' _ _ g1) g2
                  rwa [t1] at this
                · rw [upd_same]
                  show some (HO.lst ((roots (kid tr)).map V.int ++ [V.int x1])) = some (HO.lst ((roots (kid tr ++ [(a1, x1, b1)])).map V.int))
                  simp [roots]
            | i + 2, hv => simp at hv
          · rintro H8 ⟨e8, hD8⟩
            have e9 : Same H6 H8 := e7.trans e8
            have hD8' : H8 D = some (.lst ((roots (kid tr ++ kid tl)).map V.int)) := hD8
            have lk2 : (kid tr ++ kid tl).length ≤ 2 := by cases tr <;> cases tl <;> simp [kid]
            refine ⟨l, D, _, _, rfl, rfl, e9 _ _ hl6, hD8', sz (by simp only [List.length_map, roots]; omega), fun p np => ?_⟩
            have e10 : Same H (upd H8 p (.lst ((roots us).map V.int ++ (roots (kid tr ++ kid tl)).map V.int))) := (e6.trans e9).trans (same_new np)
            have hx : (ndT (tl, x, tr)).pre = x :: (tl.pre ++ tr.pre) := rfl
            have hpk : pres (us ++ (kid tr ++ kid tl)) = tl.pre ++ tr.pre ++ pres us := by rw [pres_append, pres_append, pres_kid, pres_kid]
            have hpo : pres (us ++ [(tl, x, tr)]) = x :: (tl.pre ++ tr.pre) ++ pres us := by
              rw [pres_append]
              show ([] ++ (ndT (tl, x, tr)).pre) ++ pres us = _
              rw [hx]; rfl
            refine ⟨_, ?_, us ++ (kid tr ++ kid tl), ks ++ [x], p, _, _, rfl, e10, (e6.trans e9).free np, ne_of_none (e9 _ _ hfo6) np, same_new np _ _ (e9 _ _ hfo6), ?_, ?_, ?_, rfl⟩
            · rw [hpk, hpo]; simp
            · rw [upd_same]; simp [roots]
            · rw [← hp, hpk, hpo]; simp
            · intro n hn
              rcases List.mem_append.mp hn with h | h
              · exact hs n (List.mem_append.mpr (.inl h))
              · rcases List.mem_append.mp h with h | h
                · cases tr with
                  | leaf => cases h
                  | node a1 x1 b1 => rw [List.mem_singleton.mp h]; exact ⟨hsub.r hbs, hbs.2.2.2⟩
                · cases tl with
                  | leaf => cases h
                  | node a1 x1 b1 => rw [List.mem_singleton.mp h]; exact ⟨hsub.l hbs, hbs.2.2.1⟩
end
end TT
namespace TT
open PySem PySem.Spec PyProof.Rows L2
section
variable {P : Program} {w : World} {K : PySem.W.Frag} {mg : Str → Option Value} {base : Heap}
theorem ok_some {f : Addr} {fd : FuncData} {k : Nat} (F : Fun K "_law_some_shape" "_law_some_shape" s__law_some_shape f fd) (B : Blt mg) (c__law_take : Cal P w K mg base CX0 "_law_take" ["_law_draw", "_law_many"] k spTake)
    (c__law_shuffled : Cal P w K mg base CX0 "_law_shuffled" ["_law_draw", "_law_some"] k (spShuf K)) (c__law_tree : Cal P w K mg base CX0 "_law_tree" ["_law_order"] k (spTree K)) (c__law_shape : Cal P w K mg base CX0 "_law_shape" ["_law_m"] k spShape) :
    FnOk P w K mg base CX0 (k + 1) f fd ["_law_draw", "_law_keys_in"] (spSome K) := by
  refine F.ok sc__law_some_shape (fun vs H Q E h => ?_) (fun cdv A outer s H vs Q E hr h => ?_)
  · obtain ⟨d, a, ks, c, ns, rfl, _⟩ := h
    rfl
  · obtain ⟨d, a, ks, c, ns, rfl, hS, hasc, hl, nad, hD, q⟩ := h
    have nd := asc_nodup hasc
    refine ⟨_, (pss_cons (ps_set (i := 2) sc__law_some_shape.nd rfl (Or.inl rfl) (pe_cal c__law_take (hr.mono (by omega)) (by rfl) (pa_cons (pv 0) (pa_cons pe_int pa_nil))))
  (pss_cons (ps_set (i := 3) sc__law_some_shape.nd rfl (Or.inl rfl) (pe_cal c__law_shuffled (hr.mono (by omega)) (by rfl) (pa_cons (pv 0) (pa_cons (pv 1) pa_nil))))
  (C8.pss_cut (ps_if (pt_cmpR op_eq (pv 2) pe_int (nomark _))
    (pss_one (ps_set (i := 3) sc__law_some_shape.nd rfl (Or.inl rfl) (pe_callTy call_list_of (by rfl) B.xlist (by decide +kernel) (pa_cons (pv 1) pa_nil))))
    pss_nil)
  (C8.pss_cut (ps_if (pt_cmpR op_eq (pv 2) pe_int (nomark _))
    (pss_one (ps_set (i := 3) sc__law_some_shape.nd rfl (Or.inl rfl) (pe_revL (pv 1))))
    pss_nil)
  (C8.pss_cut (ps_if (pt_cmpR op_eq (pv 2) pe_int (nomark _))
    (pss_one (ps_setLc (i := 3) (own := [("_law_k", 4)]) (g := gName 4) (by rfl) sc__law_some_shape.nd rfl rfl (sw_true rfl rfl rfl (by decide +kernel)) (pi_range1 (by rfl) B.xrange (pa_cons (pe_callB call_len_seq (by rfl) B.xlen PySem.boot_len (pa_cons (pv 1) pa_nil)) pa_nil)) (blkOk_by (own := [("_law_k", 4)]) (N := ["_law_draw", "_law_keys_in", "_law_pick", "_law_order", "_law_k"]) (sc := defScope s__law_some_shape) (by decide +kernel)) (fun _ _ _ _ _ => (pg_name (i := 4) sc__law_some_shape.nd rfl (Or.inl rfl))) (fun _ _ _ _ _ => pts_nil) (fun _ _ _ _ _ => (pe_ifExp (pt_cmpR op_eq (pe_op op_mod (pv 4) pe_int) pe_int (nomark _)) (pe_ix (ix_listK (K := K) rfl) (pv 1) (pe_op op_fdivW (pv 4) pe_int) (fun _ _ => rfl)) (pe_ix (ix_listK (K := K) rfl) (pv 1) (pe_op op_sub (pe_op op_sub (pe_callB (call_len_seqK (K := K) rfl) (by rfl) B.xlen PySem.boot_len (pa_cons (pv 1) pa_nil)) pe_int) (pe_op op_fdivW (pv 4) pe_int)) (fun _ _ => rfl))))))
    pss_nil)
  (pss_one (ps_ret (pe_cal c__law_shape (hr.mono (by omega)) (by rfl) (pa_cons (pe_cal c__law_tree (hr.mono (by omega)) (by rfl) (pa_cons (pv 3) pa_nil)) pa_nil))))))))), ?_⟩
    -- pick, order
    refine ⟨.ref d, rfl, d, 7, c, ns, rfl, by decide, by decide, hD, fun pick H1 p0 p1 hD1 hk1 => ?_⟩
    have e1 : Ext d H H1 := .but hk1
    refine ⟨.ref d, rfl, .ref a, rfl, d, a, _, c, ns, rfl, e1.seq nad hS, by rw [List.length_map]; omega, nad, hD1, fun ys o H2 pm e2 hD2 no ho => ?_⟩
    let Mid : L2.St → Hp → Prop := fun σ H3 => ∃ (o : Addr) (os : List Int) (y : Option V), σ = [some (.ref d), some (.ref a), some (.int pick), some (.ref o), y] ∧ Ext d H H3 ∧ Drw c ns H3 d ∧ os.Perm ks ∧ H3 o = some (.lst (os.map V.int))
    have h0 : Mid [some (.ref d), some (.ref a), some (.int pick), some (.ref o), none] H2 := by
      obtain ⟨os, rfl⟩ : ∃ os : List Int, ys = os.map V.int := by
        refine ⟨ys.map (fun v => match v with | .int i => i | _ => 0), ?_⟩
        rw [List.map_map]
        refine (List.map_id' ys).symm.trans (List.map_congr_left fun v hv => ?_)
        obtain ⟨i, _, rfl⟩ := List.mem_map.mp (pm.mem_iff.mp hv)
        rfl
      refine ⟨o, os, none, rfl, e1.trans e2, hD2, ?_, ho⟩
      have := pm.map (fun v => match v with | V.int i => i | _ => 0)
      rw [List.map_map, List.map_map] at this
      have ei : ∀ l : List Int, List.map ((fun v => match v with | V.int i => i | _ => 0) ∘ V.int) l = l := fun l => by rw [show ((fun v => match v with | V.int i => i | _ => 0) ∘ V.int) = id from rfl]; exact List.map_id l
      rw [ei, ei] at this
      exact this
    refine ⟨Mid, ?_, ?_⟩
    · refine ⟨.int pick, rfl, rfl, _, rfl, ite2 (fun _ => ?_) (fun _ => h0)⟩
      refine ⟨.ref a, rfl, a, _, rfl, .inl ((e1.trans e2).seq nad hS), fun p np => ?_⟩
      obtain ⟨ob, hob⟩ := hD.at
      obtain ⟨ob2, hob2⟩ := hD2.at
      exact ⟨p, ks, none, rfl, (e1.trans e2).trans (.of (same_new np)), hD2.new np, .refl _, upd_same⟩
    · rintro σ H3 ⟨o, os, y, rfl, e3, hD3, pm3, ho3⟩
      refine ⟨Mid, ?_, ?_⟩
      · refine ⟨.int pick, rfl, rfl, _, rfl, ite2 (fun _ => ?_) (fun _ => ⟨o, os, y, rfl, e3, hD3, pm3, ho3⟩)⟩
        refine ⟨.ref a, rfl, a, _, rfl, e3.seq nad hS, fun p np => ?_⟩
        refine ⟨p, ks.reverse, y, rfl, e3.trans (.of (same_new np)), hD3.new np, List.reverse_perm _, ?_⟩
        rw [upd_same, List.map_reverse]
      · rintro σ H4 ⟨o, os, y, rfl, e4, hD4, pm4, ho4⟩
        refine ⟨Mid, ?_, ?_⟩
        · refine ⟨.int pick, rfl, rfl, _, rfl, ite2 (fun _ => ?_) (fun _ => ⟨o, os, y, rfl, e4, hD4, pm4, ho4⟩)⟩
          refine ⟨.ref a, rfl, a, _, rfl, .inl (e4.seq nad hS), _, rfl, by omega, by rw [List.length_map]; omega, fun D nD => ?_⟩
          refine lc_range (lo := 0) (n := (((ks.map V.int).length : Nat) : Int).toNat) (fun i H5 => Same H4 H5 ∧ H5 D = some (.lst ((zig ks i).map V.int))) ⟨same_new nD, upd_same⟩ ?_ ?_
          · rintro i H5 hi ⟨e5, hD5⟩
            rw [Int.toNat_natCast, List.length_map] at hi
            have hS5 : SqL K H5 a (ks.map V.int) := (e4.trans (.of e5)).seq nad hS
            have hz : zigI ks.length i < ks.length := by unfold zigI; split <;> omega
            have hg : (ks.map V.int)[zigI ks.length i]? = some (.int (ks.getD (zigI ks.length i) 0)) := by
              rw [List.getElem?_map, List.getD_eq_getElem?_getD, List.getElem?_eq_getElem hz]; rfl
            have fin : ∀ v, v = V.int (ks.getD (zigI ks.length i) 0) → ∃ acc, H5 D = some (.lst acc) ∧ acc.length < sizeLine ∧ (Same H4 (upd H5 D (.lst (acc ++ [v]))) ∧ (upd H5 D (.lst (acc ++ [v]))) D = some (.lst ((zig ks (i + 1)).map V.int))) := by
              rintro v rfl
              refine ⟨_, hD5, szl (by rw [List.length_map]; unfold zig; rw [List.length_map, List.length_range]; omega), Same.put e5 nD, ?_⟩
              rw [upd_same]
              unfold zig
              rw [List.range_succ, List.map_append, List.map_append]; rfl
            refine ⟨rfl, .int (0 + i), rfl, 0 + i, 2, rfl, rfl, (by decide : (0 : Int) < 2), rfl, _, rfl, ite2 (fun ev => ?_) (fun ev => ?_)⟩
            · have ev2 : (0 + (i : Int)) % 2 = 0 := V.int.inj (of_decide_eq_true ev)
              have ez : zigI ks.length i = i / 2 := by unfold zigI; rw [if_pos (by omega)]
              refine ⟨.ref a, rfl, .int (0 + i), rfl, 0 + i, 2, rfl, rfl, wide_div (b := 2) (by decide) (by decide) (by decide) (by decide), a, _, _, _, rfl, rfl, hS5, atI_int (by omega) ?_, fin _ rfl⟩
              rw [show ((0 + (i : Int)) / 2).toNat = zigI ks.length i by rw [ez]; omega]
              exact hg
            · have ev2 : ¬ (0 + (i : Int)) % 2 = 0 := fun z => ev (decide_eq_true (congrArg V.int z))
              have ez : zigI ks.length i = ks.length - 1 - i / 2 := by unfold zigI; rw [if_neg (by omega)]
              refine ⟨.ref a, rfl, .ref a, rfl, a, _, rfl, .inl hS5, _, 1, rfl, rfl, .int (0 + i), rfl, 0 + i, 2, rfl, rfl, wide_div (b := 2) (by decide) (by decide) (by decide) (by decide), _, _, rfl, rfl, a, _, _, _, rfl, rfl, hS5, atI_int (by rw [List.length_map]; omega) ?_, fin _ rfl⟩
              rw [List.length_map, show ((ks.length : Int) - 1 - (0 + (i : Int)) / 2).toNat = zigI ks.length i by rw [ez]; omega]
              exact hg
          · rintro H5 ⟨e5, hD5⟩
            rw [Int.toNat_natCast, List.length_map] at hD5
            exact ⟨D, zig ks ks.length, y, rfl, e4.trans (.of e5), hD4.same e5, zig_perm nd, hD5⟩
        · rintro σ H5 ⟨o, os, y, rfl, e5, hD5, pm5, ho5⟩
          have ndo : os.Nodup := pm5.nodup_iff.mpr nd
          have lo : os.length = ks.length := pm5.length_eq
          refine ⟨.ref o, rfl, o, os, rfl, .inl (SqL.of ho5), ndo, by omega, fun m L R U H6 e6 nm nL nR nU hT => ?_⟩
          have hb : (T.insAll os T.leaf).bst := bst_insAll (t := T.leaf) trivial ndo fun _ _ z => (by cases z)
          have pt := insAll_perm ndo
          refine ⟨m, L, R, U, T.insAll os T.leaf, _, _, rfl, hT, hb, by rw [pt.length_eq]; omega, fun p H7 e7 np hp => ?_⟩
          obtain ⟨ob, hob⟩ := hD.at
          obtain ⟨ob5, hob5⟩ := hD5.at
          exact q _ p H7 hb (pt.trans pm5) (e5.trans (.of (e6.trans e7))) (hD5.same (e6.trans e7)) (e5.free hob hob5 (e6.free np)) hp
end
end TT
namespace TT
open PySem PySem.Spec PyProof.Rows L2
section
variable {P : Program} {w : World} {K : PySem.W.Frag} {mg : Str → Option Value} {base : Heap}
theorem ok_allSh {f : Addr} {fd : FuncData} {k : Nat} (F : Fun K "_law_all_shapes" "_law_all_shapes" s__law_all_shapes f fd) (B : Blt mg) (c__law_paired : Cal P w K mg base CX0 "_law_paired" ["_law_low", "_law_lefts", "_law_rights"] k (spPaired K)) : FnOk P w K mg base CX0 (k + 1) f fd ["_law_keys_in"] (spAllSh K) := by
  refine F.ok sc__law_all_shapes (fun vs H Q E h => ?_) (fun cdv A outer s H vs Q E hr h => ?_)
  · obtain ⟨a, ks, rfl, _⟩ := h
    rfl
  · obtain ⟨a, ks, rfl, hS, asc, lk, q⟩ := h
    refine ⟨_, (pss_cons (ps_set (i := 1) sc__law_all_shapes.nd rfl (Or.inl rfl) (pe_lst (pa_cons (pe_lst pa_nil) pa_nil)))
  (pss_cons (ps_set (i := 2) sc__law_all_shapes.nd rfl (Or.inl rfl) (pe_lst (pa_cons (pe_lst (pa_cons (pe_lst pa_nil) pa_nil)) pa_nil)))
  (pss_cons (ps_for PassesOwn.never rfl (pi_range2 (by rfl) B.xrange (pa_cons pe_int (pa_cons (pe_op op_add (pe_callB call_len_seq (by rfl) B.xlen PySem.boot_len (pa_cons (pv 0) pa_nil)) pe_int) pa_nil))) (pg_name (i := 3) sc__law_all_shapes.nd rfl (Or.inl rfl))
    (pss_cons (ps_set (i := 4) sc__law_all_shapes.nd rfl (Or.inl rfl) (pe_lst pa_nil))
  (pss_cons (ps_for PassesOwn.never rfl (pi_range1 (by rfl) B.xrange (pa_cons (pv 3) pa_nil)) (pg_name (i := 5) sc__law_all_shapes.nd rfl (Or.inl rfl))
    (pss_one (ps_set (i := 4) sc__law_all_shapes.nd rfl (Or.inl rfl) (pe_op op_cat (pv 4) (pe_cal c__law_paired (hr.mono (by omega)) (by rfl) (pa_cons (pv 5) (pa_cons (pe_ix ix_list (pv 2) (pv 5) (fun _ _ => rfl)) (pa_cons (pe_ix ix_list (pv 2) (pe_op op_sub (pe_op op_sub (pv 3) pe_int) (pv 5)) (fun _ _ => rfl)) pa_nil))))))))
  (pss_one (ps_expr (pe_bm PySem.F.plainAttrs_list PySem.F.slot_list_append PySem.F.type_list_append mt_append (pv 2) (pa_cons (pv 4) pa_nil)))))))
  (pss_cons (ps_set (i := 1) sc__law_all_shapes.nd rfl (Or.inl rfl) (pe_ix ix_list (pv 2) (pe_callB call_len_seq (by rfl) B.xlen PySem.boot_len (pa_cons (pv 0) pa_nil)) (fun _ _ => rfl)))
  (pss_one (ps_ret (pe_lc (own := [("_law_places", 6)]) (g := gName 6) (by rfl) sc__law_all_shapes.nd (pi_list (pv 1)) (blkOk_by (own := [("_law_places", 6)]) (N := ["_law_keys_in", "_law_found", "_law_lists", "_law_size_here", "_law_fresh", "_law_low", "_law_places", "_law_pos"]) (sc := defScope s__law_all_shapes) (by decide +kernel)) (fun _ _ _ _ _ => (pg_name (i := 6) sc__law_all_shapes.nd rfl (Or.inl rfl))) (fun _ _ _ _ _ => pts_nil) (fun _ _ _ _ _ => (pe_callTy (call_tuple_ofK (K := K) rfl) (by rfl) B.xtuple (by decide +kernel) (pa_cons (pe_lc (own := [("_law_pos", 7)]) (g := gName 7) (by rfl) sc__law_all_shapes.nd (pi_listK (K := K) rfl (pv 6)) (blkOk_by (own := [("_law_pos", 7)]) (N := ["_law_keys_in", "_law_found", "_law_lists", "_law_size_here", "_law_fresh", "_law_low", "_law_places", "_law_pos"]) (by kernel_rfl)) (fun _ _ _ _ _ => (pg_name (i := 7) sc__law_all_shapes.nd rfl (Or.inl rfl))) (fun _ _ _ _ _ => pts_nil) (fun _ _ _ _ _ => (pe_ix (ix_listK (K := K) rfl) (pv 0) (pv 7) (fun _ _ => rfl)))) pa_nil)))))))))), ?_⟩
    -- found = [[]]; lists = [[[]]]
    refine ⟨Nat.zero_le _, fun n1 nn1 => ⟨sz (by show 1 ≤ 100000; decide), fun n2 nn2 => ⟨Nat.zero_le _, fun n3 nn3 => ⟨sz (by show 1 ≤ 100000; decide), fun n4 nn4 => ⟨sz (by show 1 ≤ 100000; decide), fun o no => ?_⟩⟩⟩⟩⟩
    have g1 := same_new (o := .lst []) nn1
    have g2 := same_new (o := .lst [.ref n1]) nn2
    have g3 := same_new (o := .lst []) nn3
    have g4 := same_new (o := .lst [.ref n3]) nn4
    have g5 := same_new (o := .lst [.ref n4]) no
    have e0 := g1.trans (g2.trans (g3.trans (g4.trans g5)))
    have hn3 := (g4.trans g5) _ _ (upd_same (a := n3) (o := .lst []))
    have hn4 := g5 _ _ (upd_same (a := n4) (o := .lst [.ref n3]))
    have ho0 := upd_same (a := o) (o := .lst [.ref n4]) (H := (upd (upd (upd (upd H n1 (.lst [])) n2 (.lst [.ref n1])) n3 (.lst [])) n4 (.lst [.ref n3])))
    have n4o : n4 ≠ o := fun z => by rw [← z, upd_same] at no; cases no
    have n3o : n3 ≠ o := fun z => by rw [← z, g4 _ _ upd_same] at no; cases no
    have freeO : H o = none := (g1.trans (g2.trans (g3.trans g4))).free no
    generalize upd (upd (upd (upd (upd H n1 (.lst [])) n2 (.lst [.ref n1])) n3 (.lst [])) n4 (.lst [.ref n3])) o (.lst [.ref n4]) = H5 at e0 hn3 hn4 ho0 ⊢
    clear g1 g2 g3 g4 g5 nn1 nn2 nn3 nn4 no
    have T0 : RSS o H5 (tabP 0) [.ref n4] := ⟨n4, [], [.ref n3], rfl, n4o, hn4, ⟨n3, [], rfl, hn3, rfl⟩, fun r hr => by cases List.mem_singleton.mp hr; exact n3o, rfl⟩
    refine ⟨.ref a, rfl, a, _, rfl, .inl (e0.seq hS), _, _, rfl, rfl, 1, _, rfl, ⟨by decide, by decide, by rw [List.length_map]; omega, by rw [List.length_map]; omega⟩, ?_⟩
    rw [show ((ks.map V.int).length + 1 - 1 : Int).toNat = ks.length by rw [List.length_map]; omega]
    refine for_range (n := ks.length) (fun i σ H6 => ∃ y3 y4 y5 vs, σ = [some (.ref a), some (.ref n2), some (.ref o), y3, y4, y5, none, none] ∧ Same H H6 ∧ H6 o = some (.lst vs) ∧ RSS o H6 (tabP i) vs) ⟨none, none, none, _, rfl, e0, ho0, T0⟩ ?_ ?_
    · rintro i σ H6 hi ⟨y3, y4, y5, vs, rfl, e6, ho, hT⟩
      have lvs := hT.len
      rw [tabP_len] at lvs
      have bd := allP_bd (n := i + 1) (by omega)
      rw [allP_succ] at bd
      refine ⟨Nat.zero_le _, fun r0 nr0 => ?_⟩
      have g7 := same_new (o := .lst []) nr0
      refine ⟨.int (1 + (i : Nat)), rfl, 1 + ((i : Nat) : Int), rfl, by omega, by omega, ?_⟩
      rw [show ((1 : Int) + (i : Nat)).toNat = i + 1 by omega]
      have ho7 := g7 _ _ ho
      have r0o : r0 ≠ o := fun z => by rw [z, ho] at nr0; cases nr0
      refine for_range (n := i + 1) (fun j σ H7 => ∃ y5 fr rs, σ = [some (.ref a), some (.ref n2), some (.ref o), some (.int (1 + i)), some (.ref fr), y5, none, none] ∧ Same H6 H7 ∧ fr ≠ o ∧ H7 fr = some (.lst rs) ∧ RS .lst H7 ((List.range j).flatMap fun low => paired (low : Nat) (allP low) (allP (i - low))) rs) ⟨y5, r0, [], rfl, g7, r0o, upd_same, rfl⟩ ?_ ?_
      · rintro j σ H7 hj ⟨y5, fr, rs, rfl, e7, fro, hfr, hrs⟩
        have hT7 := hT.same e7
        have ho7 := e7 _ _ ho
        obtain ⟨R1, w1, v1, hR1, hw1⟩ := hT7.get j _ (tabP_get (n := i) (by omega))
        obtain ⟨R2, w2, v2, hR2, hw2⟩ := hT7.get (i - j) _ (tabP_get (n := i) (by omega))
        have m1 := range_mono (f := fun low : Nat => paired (low : Int) (allP low) (allP (i - low))) (i := j + 1) (m := i + 1) (by omega)
        rw [range_snoc, List.length_append, paired_len] at m1
        have a2 : atI vs ((1 : Int) + (i : Nat) - 1 - (0 + (j : Nat))) = some (.ref R2) := by
          rw [show ((1 : Int) + (i : Nat) - 1 - (0 + (j : Nat))) = ((i - j : Nat) : Int) by omega]
          exact atI_nat v2
        have a1 : atI vs (0 + (j : Nat)) = some (.ref R1) := by
          rw [Int.zero_add]
          exact atI_nat v1
        refine ⟨.ref fr, rfl, .int (0 + j), rfl, .ref o, rfl, .int (0 + j), rfl, o, vs, _, _, rfl, rfl, SqL.of ho7, a1, .ref o, rfl, .int (1 + i), rfl, _, _, rfl, rfl, .int (0 + j), rfl, _, _, rfl, rfl, o, vs, _, _, rfl, rfl, SqL.of ho7, a2, ?_⟩
        refine ⟨0 + (j : Int), R1, R2, allP j, allP (i - j), w1, w2, rfl, SqL.of hR1, hw1, SqL.of hR2, hw2, by omega, allP_bd (by omega), fun l hl => by rw [allP_inner _ hl]; omega, fun l hl => by rw [allP_inner _ hl]; omega, fun p ws H8 e8 np hp hws => ⟨fr, p, rs, ws, rfl, rfl, e8 _ _ hfr, hp, sz (by rw [hrs.len, hws.len, paired_len]; omega), fun nf nnf => ?_⟩⟩
        have g9 := same_new (o := .lst (rs ++ ws)) nnf
        have nfo : nf ≠ o := fun z => by rw [z, e8 _ _ ho7] at nnf; cases nnf
        rw [Int.zero_add] at hws
        refine ⟨_, nf, _, rfl, e7.trans (e8.trans g9), nfo, upd_same, ?_⟩
        rw [range_snoc]
        exact RS.app (hws.same g9) (hrs.same (e8.trans g9))
      · rintro σ H7 ⟨y5, fr, rs, rfl, e7, fro, hfr, hrs⟩
        have ho7 := e7 _ _ ho
        have hT7 := hT.same e7
        obtain ⟨R1, w1, v1, _, _⟩ := hT7.get 0 _ (tabP_get (n := i) (Nat.zero_le _))
        have ne := hrs.out ho7 (List.mem_of_getElem? v1)
        refine ⟨.ref o, rfl, .inl ⟨rfl, _, SqL.of ho7⟩, .ref fr, rfl, o, _, _, rfl, rfl, ho7, szl (by omega), _, _, _, _, rfl, Same.put (e6.trans e7) freeO, upd_same, ?_⟩
        rw [tabP_succ, allP_succ]
        exact (hT7.snoc fro hfr hrs ne).put
    · rintro σ H6 ⟨y3, y4, y5, vs, rfl, e6, ho, hT⟩
      obtain ⟨R, ws, v, hR, hws⟩ := hT.get ks.length _ (tabP_get (Nat.le_refl _))
      have bd := allP_bd lk
      have lws := hws.len
      refine ⟨.ref o, rfl, .ref a, rfl, a, _, rfl, .inl (e6.seq hS), o, vs, _, _, rfl, rfl, SqL.of ho, atI_nat (by rw [List.length_map]; exact v), ?_⟩
      refine ⟨.ref R, rfl, R, rfl, ⟨_, SqL.of hR⟩, fun D nD => lc_list (xs := ws) (fun j H2 => Same H6 H2 ∧ ∃ us, H2 D = some (.lst us) ∧ RS .tup H2 (((allP ks.length).take j).map fun xs => xs.map fun x => ks.getD x.toNat 0) us) ⟨same_new nD, [], upd_same, rfl⟩ (fun j H2 _ h => h.1.seq (SqL.of hR)) ?_ ?_⟩
      · rintro j v2 H7 hv2 ⟨e7, us, hD, hU⟩
        obtain ⟨r, xs, rfl, hx, hr⟩ := hws.get j v2 hv2
        have hj := (List.getElem?_eq_some_iff.mp hx).1
        have mx := List.mem_of_getElem? hx
        have lx := allP_inner _ mx
        obtain ⟨u, bu, eu, mu⟩ := allP_sound _ mx
        refine ⟨rfl, .ref r, rfl, r, rfl, ⟨_, SqL.of (e7 _ _ hr)⟩, fun D2 nD2 => lc_fL (fun _ => true) (fun x => .int (ks.getD x.toNat 0)) (SqL.of (e7 _ _ hr)) nD2 (by omega) (fun x H8 Y N hx8 e8 h1 h2 => ⟨rfl, .ref a, rfl, .int x, rfl, a, _, x, _, rfl, rfl, (e6.trans (e7.trans e8)).seq hS, ?_, h1 rfl H8 (.refl _)⟩) fun H8 e8 hD2 => ?_⟩
        · rw [← eu] at hx8
          have b := (mu x).mp hx8
          rw [show x = ((x.toNat : Nat) : Int) by omega]
          refine atI_nat ?_
          rw [List.getElem?_map, List.getElem?_eq_getElem (by omega), List.getD_eq_getElem?_getD, Int.toNat_natCast, List.getElem?_eq_getElem (by omega)]; rfl
        rw [List.filter_eq_self.mpr (fun _ _ => rfl)] at hD2
        refine ⟨D2, _, rfl, .inl ⟨SqL.of hD2, fun t nt => ?_⟩⟩
        have g9 := same_new (o := .tup (xs.map fun x => V.int (ks.getD x.toNat 0))) nt
        have e79 := e8.trans g9
        have hD9 := e79 _ _ hD
        have tD : t ≠ D := fun z => by rw [z, e8 _ _ hD] at nt; cases nt
        have hU9 := hU.same e79
        refine ⟨us, hD9, szl (by rw [hU.len, List.length_map, List.length_take]; omega), Same.put (e7.trans e79) nD, _, upd_same, ?_⟩
        rw [List.take_add_one, hx, List.map_append]
        refine RS.app (RS.one ?_) (hU9.put (hU9.selfT hD9))
        rw [upd_ne tD, upd_same, List.map_map]; rfl
      · rintro H7 ⟨e7, us, hD, hU⟩
        rw [lws, List.take_length] at hU
        exact q D us H7 (e6.trans e7) (e6.free nD) hD hU
end
end TT
namespace TT
open PySem PySem.Spec PyProof.Rows L2
section
variable {P : Program} {w : World} {K : PySem.W.Frag} {mg : Str → Option Value} {base : Heap}
theorem ok_paired {f : Addr} {fd : FuncData} {k : Nat} (F : Fun K "_law_paired" "_law_paired" s__law_paired f fd) (B : Blt mg) : FnOk P w K mg base CX0 (k + 1) f fd ["_law_low", "_law_lefts", "_law_rights"] (spPaired K) := by
  refine F.ok sc__law_paired (fun vs H Q E h => ?_) (fun cdv A outer s H vs Q E hr h => ?_)
  · obtain ⟨low, a, b, X, Y, va, vb, rfl, _⟩ := h
    rfl
  · obtain ⟨low, a, b, X, Y, va, vb, rfl, hA, hX, hB, hY, hp, hy, lX, lY, q⟩ := h
    refine ⟨_, (pss_cons (ps_set (i := 3) sc__law_paired.nd rfl (Or.inl rfl) (pe_lst pa_nil))
  (pss_cons (ps_for PassesOwn.never rfl (pi_list (pv 1)) (pg_name (i := 4) sc__law_paired.nd rfl (Or.inr rfl))
    (pss_one (ps_expr (pe_bm PySem.F.plainAttrs_list PySem.F.slot_list_extend PySem.F.type_list_extend mt_extend (pv 3) (pa_cons (pe_lc (own := [("_law_right", 5)]) (g := gName 5) (by rfl) sc__law_paired.nd (pi_list (pv 2)) (blkOk_by (own := [("_law_right", 5)]) (N := ["_law_low", "_law_lefts", "_law_rights", "_law_found", "_law_left", "_law_right", "_law_pos"]) (sc := defScope s__law_paired) (by decide +kernel)) (fun _ _ _ _ _ => (pg_name (i := 5) sc__law_paired.nd rfl (Or.inl rfl))) (fun _ _ _ _ _ => pts_nil) (fun _ _ _ _ _ => (pe_op op_cat (pe_op op_cat (pe_lst (pa_cons (pv 0) pa_nil)) (pv 4)) (pe_lc (own := [("_law_pos", 6)]) (g := gName 6) (by rfl) sc__law_paired.nd (pi_listK (K := K) rfl (pv 5)) (blkOk_by (own := [("_law_pos", 6)]) (N := ["_law_low", "_law_lefts", "_law_rights", "_law_found", "_law_left", "_law_right", "_law_pos"]) (by kernel_rfl)) (fun _ _ _ _ _ => (pg_name (i := 6) sc__law_paired.nd rfl (Or.inl rfl))) (fun _ _ _ _ _ => pts_nil) (fun _ _ _ _ _ => (pe_op op_add (pe_op op_add (pv 0) pe_int) (pv 6))))))) pa_nil)))))
  (pss_one (ps_ret (pv 3))))), ?_⟩
    refine ⟨Nat.zero_le _, fun o no => ?_⟩
    have e0 := same_new (o := .lst []) no
    refine ⟨.ref a, rfl, a, rfl, ⟨_, e0.seq hA⟩, for_list (xs := va) (fun i σ H3 => ∃ y4 y5 y6 vs, σ = [some (.int low), some (.ref a), some (.ref b), some (.ref o), y4, y5, y6] ∧ Same H H3 ∧ H3 o = some (.lst vs) ∧ RS .lst H3 (paired low (X.take i) Y) vs) ⟨none, none, none, [], rfl, e0, upd_same, rfl⟩ (fun i σ H3 _ ⟨_, _, _, _, _, e, _⟩ => e.seq hA) ?_ ?_⟩
    · rintro i v σ H3 hv ⟨y4, y5, y6, vs, rfl, e3, ho, hR⟩
      obtain ⟨l, ls, rfl, hl, hls⟩ := hX.get i v hv
      have hi := (List.getElem?_eq_some_iff.mp hl).1
      have lls := lX ls (List.mem_of_getElem? hl)
      have hls3 := e3 _ _ hls
      have hB3 := e3.seq hB
      have hY3 := hY.same e3
      have lvb := hY.len
      have lvs : vs.length ≤ 5000 := by
        rw [hR.len, paired_len, List.length_take]
        exact Nat.le_trans (Nat.mul_le_mul_right _ (Nat.min_le_right _ _)) hp
      refine ⟨.ref o, rfl, .inl ⟨rfl, _, SqL.of ho⟩, .ref b, rfl, b, rfl, ⟨_, hB3⟩, fun D nD => lc_list (xs := vb) (fun j H2 => Same H3 H2 ∧ ∃ ws, H2 D = some (.lst ws) ∧ RS .lst H2 ((Y.take j).map fun r => low :: (ls ++ r.map fun x => low + 1 + x)) ws) ⟨same_new nD, [], upd_same, rfl⟩ (fun j H2 _ h => h.1.seq hB3) ?_ ?_⟩
      · rintro j v2 H4 hv2 ⟨e4, ws, hD, hW⟩
        obtain ⟨r, rs, rfl, hr, hrs⟩ := hY3.get j v2 hv2
        have hj := (List.getElem?_eq_some_iff.mp hr).1
        have lrs := lY rs (List.mem_of_getElem? hr)
        have hrs4 := e4 _ _ hrs
        refine ⟨rfl, .int low, rfl, sz (by show 1 ≤ 100000; decide), fun n1 nn1 => ?_⟩
        have g1 := same_new (o := .lst [.int low]) nn1
        refine ⟨.ref l, rfl, n1, l, _, _, rfl, rfl, upd_same, (e4.trans g1) _ _ hls3, sz (by rw [List.length_map]; show 1 + _ ≤ _; omega), fun n2 nn2 => ?_⟩
        have g2 := same_new (o := .lst ([.int low] ++ ls.map V.int)) nn2
        have g12 := g1.trans g2
        have hn2 : upd (upd H4 n1 (.lst [.int low])) n2 (.lst ([.int low] ++ ls.map V.int)) n2 = some (.lst ([.int low] ++ ls.map V.int)) := upd_same
        refine ⟨.ref r, rfl, r, rfl, ⟨_, SqL.of (g12 _ _ hrs4)⟩, fun D2 nD2 => lc_fL (fun _ => true) (fun x => .int (low + 1 + x)) (SqL.of (g12 _ _ hrs4)) nD2 (by omega) (fun x H5 Y N hx e5 h1 h2 => ⟨rfl, .int low, rfl, low, 1, rfl, rfl, .int x, rfl, _, _, rfl, rfl, h1 rfl H5 (.refl _)⟩) fun H5 e5 hD2 => ?_⟩
        rw [List.filter_eq_self.mpr (fun _ _ => rfl)] at hD2
        refine ⟨n2, D2, _, _, rfl, rfl, e5 _ _ hn2, hD2, sz (by rw [List.length_append, List.length_map, List.length_map]; show 1 + _ + _ ≤ _; omega), fun n3 nn3 => ?_⟩
        have g3 := same_new (o := .lst (([.int low] ++ ls.map V.int) ++ rs.map fun x => .int (low + 1 + x))) nn3
        have e45 := g12.trans (e5.trans g3)
        have hD5 := e45 _ _ hD
        have hW5 := hW.same e45
        refine ⟨ws, hD5, szl (by rw [hW.len, List.length_map, List.length_take]; omega), Same.put (e4.trans e45) nD, _, upd_same, ?_⟩
        have n3D : n3 ≠ D := fun z => by
          rw [z, (g12.trans e5) _ _ hD] at nn3
          cases nn3
        rw [List.take_add_one, hr, List.map_append]
        refine RS.app (RS.one ?_) (hW5.put (hW5.self hD5))
        rw [upd_ne n3D, upd_same]
        simp
      · rintro H4 ⟨e4, ws, hD, hW⟩
        rw [show vb.length = Y.length from lvb, List.take_length] at hW
        have ho4 := e4 _ _ ho
        have hR4 := hR.same e4
        have lws := hW.len
        rw [List.length_map] at lws
        have oH : H o = none := no
        have hDo : D ≠ o := fun z => by rw [z, ho] at nD; cases nD
        refine ⟨o, D, _, _, rfl, rfl, ho4, hD, sz (by omega), _, _, _, _, rfl, Same.put (e3.trans e4) no, upd_same, ?_⟩
        rw [paired_take hl]
        refine RS.app (hW.put fun r hr e => ?_) (hR4.put (hR4.self ho4))
        obtain ⟨r', xs, e1, hx, g⟩ := hW.mem hr
        cases e1
        obtain ⟨rr, _, rfl⟩ := List.mem_map.mp hx
        rw [e, ho4] at g
        have g := HO.lst.inj (Option.some.inj g)
        obtain ⟨_, _, z, _⟩ := hR4.mem (v := V.int low) (by rw [g]; exact List.mem_cons_self)
        cases z
    · rintro σ H3 ⟨y4, y5, y6, vs, rfl, e3, ho, hR⟩
      rw [hX.len, List.take_length] at hR
      exact ⟨.ref o, rfl, q o vs H3 e3 no ho hR⟩
end
end TT
namespace TT
open PySem PySem.Spec PyProof.Rows L2
section
variable {P : Program} {w : World} {K : PySem.W.Frag} {mg : Str → Option Value} {base : Heap}
theorem ok_choose {f : Addr} {fd : FuncData} {k : Nat} (F : Fun K "_law_choose" "_law_choose" s__law_choose f fd) (B : Blt mg) : FnOk P w K mg base CX0 (k + 1) f fd ["_law_size_here", "_law_chosen"] spBin := by
  refine F.ok sc__law_choose (fun vs H Q E h => ?_) (fun cdv A outer s H vs Q E hr h => ?_)
  · obtain ⟨n, c, rfl, _⟩ := h
    rfl
  · obtain ⟨n, c, rfl, hc, hn, q⟩ := h
    refine ⟨_, (pss_cons (ps_set (i := 2) sc__law_choose.nd rfl (Or.inl rfl) pe_int)
  (pss_cons (ps_for PassesOwn.never rfl (pi_range1 (by rfl) B.xrange (pa_cons (pv 1) pa_nil)) (pg_name (i := 3) sc__law_choose.nd rfl (Or.inl rfl))
    (pss_one (ps_set (i := 2) sc__law_choose.nd rfl (Or.inl rfl) (pe_op op_fdivW (pe_op op_mulW (pv 2) (pe_op op_sub (pv 0) (pv 3))) (pe_op op_add (pv 3) pe_int)))))
  (pss_one (ps_ret (pv 2))))), ?_⟩
    refine ⟨.int c, rfl, c, rfl, by omega, by omega, for_range (n := c) (fun i σ H3 => ∃ y3, σ = [some (.int n), some (.int c), some (.int (binL n i)), y3] ∧ H3 = H) ⟨none, rfl, rfl⟩ ?_ ?_⟩
    · rintro i σ H3 hi ⟨y3, rfl, rfl⟩
      have b0 := binL_wide (n := n) (k := i) (by omega) hn
      have p10 : (2 : Nat) ^ 10 = 1024 := by decide
      have m1 : CMulW (binL n i) ((n : Int) - (0 + i)) := wide_mul (a := 300) (b := 10) b0 (by omega) (by decide) (by decide) (by decide)
      have d1 : CDivW (binL n i * ((n : Int) - (0 + i))) (0 + (i : Int) + 1) := wide_div (b := 10) (by omega) (by omega) (by decide) (by decide)
      refine ⟨_, rfl, .int n, rfl, .int (0 + i), rfl, _, _, rfl, rfl, _, _, rfl, rfl, m1, .int (0 + i), rfl, _, 1, rfl, rfl, _, _, rfl, rfl, d1, some (.int (0 + i)), ?_, rfl⟩
      rw [Int.zero_add]; rfl
    · rintro σ H3 ⟨y3, rfl, rfl⟩
      exact ⟨_, rfl, q⟩
end
end TT
namespace TT
open PySem PySem.Spec PyProof.Rows L2
section
variable {P : Program} {w : World} {K : PySem.W.Frag} {mg : Str → Option Value} {base : Heap}
theorem ok_builds1 {f : Addr} {fd : FuncData} {n k : Nat} (F : Fun K "_law_builds" "_law_builds" s__law_builds f fd) (B : Blt mg) (c__law_choose : Cal P w K mg base CX0 "_law_choose" ["_law_size_here", "_law_chosen"] k spBin) (c__law_builds : Cal P w K mg base CX0 "_law_builds" ["_law_order"] (n + k) (spBuildsQ K n)) : FnOk P w K mg base CX0 (n + k + 1) f fd ["_law_order"] (spBuildsQ K (n + 1)) := by
  refine F.ok sc__law_builds (fun vs H Q E h => ?_) (fun cdv A outer s H vs Q E hr h => ?_)
  · obtain ⟨a, xs, rfl, _⟩ := h
    rfl
  · obtain ⟨a, xs, rfl, hS, hn, hl, q⟩ := h
    rcases hS with hS | hS
    · skip
      refine ⟨_, (pss_cons (ps_if (pt_cmpR op_eq (pe_callB call_len_seq (by rfl) B.xlen PySem.boot_len (pa_cons (pv 0) pa_nil)) pe_int (nomark _))
    (pss_one (ps_ret pe_int))
    pss_nil)
  (pss_cons (ps_setLc (i := 1) (own := [("_law_key", 3)]) (g := gName 3) (by rfl) sc__law_builds.nd rfl rfl (sw_true rfl rfl rfl (by decide +kernel)) (pi_list (pv 0)) (blkOk_by (own := [("_law_key", 3)]) (N := ["_law_order", "_law_low", "_law_high", "_law_key"]) (sc := defScope s__law_builds) (by decide +kernel)) (fun _ _ _ _ _ => (pg_name (i := 3) sc__law_builds.nd rfl (Or.inl rfl))) (fun _ _ _ _ _ => (pts_one (pt_cmpR op_lt (pv 3) (pe_ix (ix_listK (K := K) rfl) (pv 0) pe_int (fun _ _ => rfl)) (nomark _)))) (fun _ _ _ _ _ => (pv 3)))
  (pss_cons (ps_setLc (i := 2) (own := [("_law_key", 3)]) (g := gName 3) (by rfl) sc__law_builds.nd rfl rfl (sw_true rfl rfl rfl (by decide +kernel)) (pi_list (pv 0)) (blkOk_by (own := [("_law_key", 3)]) (N := ["_law_order", "_law_low", "_law_high", "_law_key"]) (sc := defScope s__law_builds) (by decide +kernel)) (fun _ _ _ _ _ => (pg_name (i := 3) sc__law_builds.nd rfl (Or.inl rfl))) (fun _ _ _ _ _ => (pts_one (pt_cmpR op_gt (pv 3) (pe_ix (ix_listK (K := K) rfl) (pv 0) pe_int (fun _ _ => rfl)) (nomark _)))) (fun _ _ _ _ _ => (pv 3)))
  (pss_one (ps_ret (pe_op op_mulW (pe_op op_mulW (pe_cal c__law_choose (hr.mono (by omega)) (by rfl) (pa_cons (pe_op op_add (pe_callB call_len_seq (by rfl) B.xlen PySem.boot_len (pa_cons (pv 1) pa_nil)) (pe_callB call_len_seq (by rfl) B.xlen PySem.boot_len (pa_cons (pv 2) pa_nil))) (pa_cons (pe_callB call_len_seq (by rfl) B.xlen PySem.boot_len (pa_cons (pv 1) pa_nil)) pa_nil))) (pe_cal c__law_builds (hr.mono (by omega)) (by rfl) (pa_cons (pv 1) pa_nil))) (pe_cal c__law_builds (hr.mono (by omega)) (by rfl) (pa_cons (pv 2) pa_nil)))))))), ?_⟩
      refine ⟨.ref a, rfl, a, _, rfl, .inl hS, rfl, _, rfl, ?_⟩
      cases xs with
      | nil => exact iteTd rfl (q H (.refl _))
      | cons x l =>
        rw [List.length_cons] at hn hl
        have l1 := List.length_filter_le (fun y => decide (y < x)) l
        have l2 := List.length_filter_le (fun y => decide (x < y)) l
        have l3 := parts_len x l
        have f1 : ((x :: l).filter fun y => decide (y < x)) = l.filter fun y => decide (y < x) := List.filter_cons_of_neg (by simp)
        have f2 : ((x :: l).filter fun y => decide (x < y)) = l.filter fun y => decide (x < y) := List.filter_cons_of_neg (by simp)
        refine iteFd (by simp; omega) ?_
        refine ⟨.ref a, rfl, a, rfl, ⟨_, hS⟩, fun D1 nD1 => lc_fL (fun y => decide (y < x)) V.int hS nD1 (by rw [List.length_cons]; omega) (fun y H5 Y N hx e5 h1 h2 => ⟨rfl, .int y, rfl, rd_ixL 0 rfl (e5.seq hS) rfl ⟨y, x, rfl, rfl, _, rfl, ite2 (fun e => ⟨.int y, rfl, h1 e H5 (.refl _)⟩) (fun e => h2 (by simpa using e) H5 (.refl _))⟩⟩) fun H1 e1 hD1 => ?_⟩
        rw [f1] at hD1
        refine ⟨.ref a, rfl, a, rfl, ⟨_, e1.seq hS⟩, fun D2 nD2 => lc_fL (fun y => decide (x < y)) V.int (e1.seq hS) nD2 (by rw [List.length_cons]; omega) (fun y H5 Y N hx e5 h1 h2 => ⟨rfl, .int y, rfl, rd_ixL 0 rfl ((e1.trans e5).seq hS) rfl ⟨y, x, rfl, rfl, _, rfl, ite2 (fun e => ⟨.int y, rfl, h1 (by simpa using e) H5 (.refl _)⟩) (fun e => h2 (by simpa using e) H5 (.refl _))⟩⟩) fun H2 e2 hD2 => ?_⟩
        rw [f2] at hD2
        have hD1' := e2 _ _ hD1
        generalize hA : l.filter (fun y => decide (y < x)) = A at *
        generalize hB : l.filter (fun y => decide (x < y)) = B' at *
        have w1 : (binL (A.length + B'.length) A.length).natAbs < 2 ^ 300 := binL_wide (by omega) (by omega)
        have w2 := cntL_wide (xs := A) (by omega) (b := 12001) (by omega)
        have w3 := cntL_wide (xs := B') (by omega) (b := 12001) (by omega)
        have m1 := wide_mul w1 w2 (by decide) (by decide) (by decide)
        have m2 := wide_mul (wide_lt w1 w2) w3 (by decide) (by decide) (by decide)
        refine ⟨.ref D1, rfl, D1, _, rfl, .inl (SqL.of hD1'), .ref D2, rfl, D2, _, rfl, .inl (SqL.of hD2), _, _, rfl, rfl, .ref D1, rfl, D1, _, rfl, .inl (SqL.of hD1'), A.length + B'.length, A.length, ?_, by omega, by omega, ?_⟩
        · rw [List.length_map, List.length_map]; rfl
        refine ⟨.ref D1, rfl, D1, A, rfl, .inl (SqL.of hD1'), by omega, by omega, fun H3 e3 => ⟨_, _, rfl, rfl, m1, ?_⟩⟩
        refine ⟨.ref D2, rfl, D2, B', rfl, .inl (SqL.of (e3 _ _ hD2)), by omega, by omega, fun H4 e4 => ⟨_, _, rfl, rfl, m2, ?_⟩⟩
        have := q H4 (e1.trans (e2.trans (e3.trans e4)))
        rw [cntL_cons, hA, hB] at this
        exact this
    · skip
      refine ⟨_, (pss_cons (ps_if (pt_cmpR op_eq (pe_callB call_len_seq (by rfl) B.xlen PySem.boot_len (pa_cons (pv 0) pa_nil)) pe_int (nomark _))
    (pss_one (ps_ret pe_int))
    pss_nil)
  (pss_cons (ps_setLc (i := 1) (own := [("_law_key", 3)]) (g := gName 3) (by rfl) sc__law_builds.nd rfl rfl (sw_true rfl rfl rfl (by decide +kernel)) (pi_tup (pv 0)) (blkOk_by (own := [("_law_key", 3)]) (N := ["_law_order", "_law_low", "_law_high", "_law_key"]) (sc := defScope s__law_builds) (by decide +kernel)) (fun _ _ _ _ _ => (pg_name (i := 3) sc__law_builds.nd rfl (Or.inl rfl))) (fun _ _ _ _ _ => (pts_one (pt_cmpR op_lt (pv 3) (pe_ix (ix_tupK (K := K) rfl) (pv 0) pe_int (fun _ _ => rfl)) (nomark _)))) (fun _ _ _ _ _ => (pv 3)))
  (pss_cons (ps_setLc (i := 2) (own := [("_law_key", 3)]) (g := gName 3) (by rfl) sc__law_builds.nd rfl rfl (sw_true rfl rfl rfl (by decide +kernel)) (pi_tup (pv 0)) (blkOk_by (own := [("_law_key", 3)]) (N := ["_law_order", "_law_low", "_law_high", "_law_key"]) (sc := defScope s__law_builds) (by decide +kernel)) (fun _ _ _ _ _ => (pg_name (i := 3) sc__law_builds.nd rfl (Or.inl rfl))) (fun _ _ _ _ _ => (pts_one (pt_cmpR op_gt (pv 3) (pe_ix (ix_tupK (K := K) rfl) (pv 0) pe_int (fun _ _ => rfl)) (nomark _)))) (fun _ _ _ _ _ => (pv 3)))
  (pss_one (ps_ret (pe_op op_mulW (pe_op op_mulW (pe_cal c__law_choose (hr.mono (by omega)) (by rfl) (pa_cons (pe_op op_add (pe_callB call_len_seq (by rfl) B.xlen PySem.boot_len (pa_cons (pv 1) pa_nil)) (pe_callB call_len_seq (by rfl) B.xlen PySem.boot_len (pa_cons (pv 2) pa_nil))) (pa_cons (pe_callB call_len_seq (by rfl) B.xlen PySem.boot_len (pa_cons (pv 1) pa_nil)) pa_nil))) (pe_cal c__law_builds (hr.mono (by omega)) (by rfl) (pa_cons (pv 1) pa_nil))) (pe_cal c__law_builds (hr.mono (by omega)) (by rfl) (pa_cons (pv 2) pa_nil)))))))), ?_⟩
      refine ⟨.ref a, rfl, a, _, rfl, .inr hS, rfl, _, rfl, ?_⟩
      cases xs with
      | nil => exact iteTd rfl (q H (.refl _))
      | cons x l =>
        rw [List.length_cons] at hn hl
        have l1 := List.length_filter_le (fun y => decide (y < x)) l
        have l2 := List.length_filter_le (fun y => decide (x < y)) l
        have l3 := parts_len x l
        have f1 : ((x :: l).filter fun y => decide (y < x)) = l.filter fun y => decide (y < x) := List.filter_cons_of_neg (by simp)
        have f2 : ((x :: l).filter fun y => decide (x < y)) = l.filter fun y => decide (x < y) := List.filter_cons_of_neg (by simp)
        refine iteFd (by simp; omega) ?_
        refine ⟨.ref a, rfl, a, rfl, ⟨_, hS⟩, fun D1 nD1 => lc_fT (fun y => decide (y < x)) V.int hS nD1 (by rw [List.length_cons]; omega) (fun y H5 Y N hx e5 h1 h2 => ⟨rfl, .int y, rfl, rd_ixT 0 rfl (Same.tup e5 hS) rfl ⟨y, x, rfl, rfl, _, rfl, ite2 (fun e => ⟨.int y, rfl, h1 e H5 (.refl _)⟩) (fun e => h2 (by simpa using e) H5 (.refl _))⟩⟩) fun H1 e1 hD1 => ?_⟩
        rw [f1] at hD1
        refine ⟨.ref a, rfl, a, rfl, ⟨_, Same.tup e1 hS⟩, fun D2 nD2 => lc_fT (fun y => decide (x < y)) V.int (Same.tup e1 hS) nD2 (by rw [List.length_cons]; omega) (fun y H5 Y N hx e5 h1 h2 => ⟨rfl, .int y, rfl, rd_ixT 0 rfl (Same.tup (e1.trans e5) hS) rfl ⟨y, x, rfl, rfl, _, rfl, ite2 (fun e => ⟨.int y, rfl, h1 (by simpa using e) H5 (.refl _)⟩) (fun e => h2 (by simpa using e) H5 (.refl _))⟩⟩) fun H2 e2 hD2 => ?_⟩
        rw [f2] at hD2
        have hD1' := e2 _ _ hD1
        generalize hA : l.filter (fun y => decide (y < x)) = A at *
        generalize hB : l.filter (fun y => decide (x < y)) = B' at *
        have w1 : (binL (A.length + B'.length) A.length).natAbs < 2 ^ 300 := binL_wide (by omega) (by omega)
        have w2 := cntL_wide (xs := A) (by omega) (b := 12001) (by omega)
        have w3 := cntL_wide (xs := B') (by omega) (b := 12001) (by omega)
        have m1 := wide_mul w1 w2 (by decide) (by decide) (by decide)
        have m2 := wide_mul (wide_lt w1 w2) w3 (by decide) (by decide) (by decide)
        refine ⟨.ref D1, rfl, D1, _, rfl, .inl (SqL.of hD1'), .ref D2, rfl, D2, _, rfl, .inl (SqL.of hD2), _, _, rfl, rfl, .ref D1, rfl, D1, _, rfl, .inl (SqL.of hD1'), A.length + B'.length, A.length, ?_, by omega, by omega, ?_⟩
        · rw [List.length_map, List.length_map]; rfl
        refine ⟨.ref D1, rfl, D1, A, rfl, .inl (SqL.of hD1'), by omega, by omega, fun H3 e3 => ⟨_, _, rfl, rfl, m1, ?_⟩⟩
        refine ⟨.ref D2, rfl, D2, B', rfl, .inl (SqL.of (e3 _ _ hD2)), by omega, by omega, fun H4 e4 => ⟨_, _, rfl, rfl, m2, ?_⟩⟩
        have := q H4 (e1.trans (e2.trans (e3.trans e4)))
        rw [cntL_cons, hA, hB] at this
        exact this
theorem ok_builds {f : Addr} {fd : FuncData} {k : Nat} (F : Fun K "_law_builds" "_law_builds" s__law_builds f fd) (B : Blt mg) (c__law_choose : Cal P w K mg base CX0 "_law_choose" ["_law_size_here", "_law_chosen"] k spBin) (gf : mg "_law_builds" = some (.ref f)) (bf : Binds K fd ["_law_order"] []) : ∀ n, FnOk P w K mg base CX0 (n + k) f fd ["_law_order"] (spBuildsQ K n)
  | 0 => ⟨fun _ _ _ _ h => by obtain ⟨_, _, _, _, h, _⟩ := h; omega, fun _ _ _ _ _ _ _ _ _ _ _ _ _ h => by obtain ⟨_, _, _, _, h, _⟩ := h; omega⟩
  | n + 1 => by
    have h := ok_builds1 F B c__law_choose ⟨f, fd, ok_builds F B c__law_choose gf bf n, gf, F.kp, bf⟩
    rw [show n + 1 + k = n + k + 1 by omega]
    exact h
end
end TT
namespace TT
open PySem PySem.Spec PyProof.Rows L2
section
variable {P : Program} {w : World} {K : PySem.W.Frag} {mg : Str → Option Value} {base : Heap}
theorem ok_allOrd5 {f : Addr} {fd : FuncData} {k : Nat} (F : Fun K "_law_all_orders" "_law_all_orders" s__law_all_orders f fd) (B : Blt mg) : FnOk P w K mg base CX0 (k + 1) f fd ["_law_some"] (spAllOrd5 K) := by
  refine F.ok sc__law_all_orders (fun vs H Q E h => ?_) (fun cdv A outer s H vs Q E hr h => ?_)
  · obtain ⟨a, xs, rfl, _⟩ := h
    rfl
  · obtain ⟨a, xs, rfl, hA, lx, q⟩ := h
    refine ⟨_, (pss_cons (ps_set (i := 1) sc__law_all_orders.nd rfl (Or.inl rfl) (pe_lst (pa_cons (pe_lst pa_nil) pa_nil)))
  (pss_cons (ps_for PassesOwn.never rfl (pi_list (pv 0)) (pg_name (i := 2) sc__law_all_orders.nd rfl (Or.inr rfl))
    (pss_cons (ps_set (i := 3) sc__law_all_orders.nd rfl (Or.inl rfl) (pe_lst pa_nil))
  (pss_cons (ps_for PassesOwn.never rfl (pi_list (pv 1)) (pg_name (i := 4) sc__law_all_orders.nd rfl (Or.inr rfl))
    (pss_one (ps_expr (pe_bm PySem.F.plainAttrs_list PySem.F.slot_list_extend PySem.F.type_list_extend mt_extend (pv 3) (pa_cons (pe_lc (own := [("_law_at", 5)]) (g := gName 5) (by rfl) sc__law_all_orders.nd (pi_range1 (by rfl) B.xrange (pa_cons (pe_op op_add (pe_callB call_len_seq (by rfl) B.xlen PySem.boot_len (pa_cons (pv 4) pa_nil)) pe_int) pa_nil)) (blkOk_by (own := [("_law_at", 5)]) (N := ["_law_some", "_law_found", "_law_one", "_law_longer", "_law_row", "_law_at"]) (sc := defScope s__law_all_orders) (by decide +kernel)) (fun _ _ _ _ _ => (pg_name (i := 5) sc__law_all_orders.nd rfl (Or.inl rfl))) (fun _ _ _ _ _ => pts_nil) (fun _ _ _ _ _ => (pe_op op_cat (pe_op op_cat (pe_slice (sl_listK (K := K) rfl) (pv 4) po_none (po_some (pv 5))) (pe_lst (pa_cons (pv 2) pa_nil))) (pe_slice (sl_listK (K := K) rfl) (pv 4) (po_some (pv 5)) po_none)))) pa_nil)))))
  (pss_one (ps_set (i := 1) sc__law_all_orders.nd rfl (Or.inl rfl) (pv 3))))))
  (pss_one (ps_ret (pv 1))))), ?_⟩
    refine ⟨Nat.zero_le _, fun r0 nr0 => ⟨sz (by show 1 ≤ 100000; decide), fun o0 no0 => ?_⟩⟩
    have g1 := same_new (o := .lst []) nr0
    have g2 := same_new (o := .lst [.ref r0]) no0
    have e0 := g1.trans g2
    refine ⟨.ref a, rfl, a, rfl, ⟨_, e0.seq hA⟩, for_list (xs := xs.map V.int) (fun i σ H3 => ∃ fo vs y2 y3 y4, σ = [some (.ref a), some (.ref fo), y2, y3, y4, none] ∧ Same H H3 ∧ H fo = none ∧ H3 fo = some (.lst vs) ∧ RS .lst H3 (ordsL (xs.take i)) vs) ⟨o0, [.ref r0], none, none, none, rfl, e0, g1.free no0, upd_same, RS.one (g2 _ _ upd_same)⟩ (fun i σ H3 _ ⟨_, _, _, _, _, _, e, _⟩ => e.seq hA) ?_ ?_⟩
    · rintro i v σ H3 hv ⟨fo, vs, y2, y3, y4, rfl, e3, nfo, hfo, hR⟩
      rw [List.getElem?_map] at hv
      obtain ⟨x, hx, rfl⟩ := Option.map_eq_some_iff.mp hv
      have hi := (List.getElem?_eq_some_iff.mp hx).1
      have lro : (ordsL (xs.take i)).length ≤ 24 := ords_le (by rw [List.length_take]; omega)
      have lvs := hR.len
      refine ⟨Nat.zero_le _, fun l nl => ?_⟩
      have g3 := same_new (o := .lst []) nl
      refine ⟨.ref fo, rfl, fo, rfl, ⟨_, SqL.of (g3 _ _ hfo)⟩, for_list (xs := vs) (fun j σ H4 => ∃ ws y4, σ = [some (.ref a), some (.ref fo), some (.int x), some (.ref l), y4, none] ∧ Same H3 H4 ∧ H4 l = some (.lst ws) ∧ RS .lst H4 (((ordsL (xs.take i)).take j).flatMap (insPos x)) ws) ⟨[], y4, rfl, g3, upd_same, rfl⟩ (fun j σ H4 _ ⟨_, _, _, e, _⟩ => SqL.of (e _ _ hfo)) ?_ ?_⟩
      · rintro j v2 σ H4 hv2 ⟨ws, y4, rfl, e4, hl, hW⟩
        obtain ⟨r, row, rfl, hrow, hr⟩ := hR.get j v2 hv2
        have hj := (List.getElem?_eq_some_iff.mp hrow).1
        have lrow : row.length ≤ 4 := by
          have := (ords_perm (List.mem_of_getElem? hrow)).length_eq
          rw [List.length_take] at this; omega
        have hr4 := e4 _ _ hr
        have lws : ws.length ≤ 24 * 5 := by
          rw [hW.len]
          have : ∀ (L : List (List Int)), (∀ o ∈ L, o.length ≤ 4) → L.length ≤ 24 → (L.flatMap (insPos x)).length ≤ L.length * 5 := fun L h hL => by
            clear hL
            induction L with
            | nil => exact Nat.le_refl _
            | cons o L ih =>
              have h1 := ih fun o' ho' => h o' (List.mem_cons_of_mem _ ho')
              have h2 := h o List.mem_cons_self
              have h3 : (insPos x o).length = o.length + 1 := by unfold insPos; rw [List.length_map, List.length_range]
              rw [List.flatMap_cons, List.length_append, List.length_cons, h3]
              omega
          refine Nat.le_trans (this _ (fun o ho => ?_) (by rw [List.length_take]; omega)) (Nat.mul_le_mul_right _ (by rw [List.length_take]; omega))
          have := (ords_perm (List.mem_of_mem_take ho)).length_eq
          rw [List.length_take] at this; omega
        have nlr : l ≠ r := fun z => by
          have h1 : H3 l = none := nl
          rw [z, hr] at h1; cases h1
        refine ⟨.ref l, rfl, .inl ⟨rfl, _, SqL.of hl⟩, .ref r, rfl, r, _, rfl, .inl (SqL.of hr4), _, 1, rfl, rfl, _, rfl, by rw [List.length_map]; omega, by rw [List.length_map]; omega, fun D nD => ?_⟩
        rw [show (((row.map V.int).length : Nat) + 1 : Int).toNat = row.length + 1 by rw [List.length_map]; omega]
        refine lc_range (n := row.length + 1) (fun m H5 => Same H4 H5 ∧ ∃ us, H5 D = some (.lst us) ∧ RS .lst H5 ((List.range m).map fun i => row.take i ++ [x] ++ row.drop i) us ∧ ∀ r, V.ref r ∈ us → r ≠ l) ⟨same_new nD, [], upd_same, rfl, fun _ h => by cases h⟩ ?_ ?_
        · rintro m H5 hm ⟨e5, us, hD, hU, hUl⟩
          have hr5 := e5 _ _ hr4
          rw [Int.zero_add]
          refine ⟨rfl, .ref r, rfl, .int (m : Nat), rfl, _, rfl, r, _, rfl, SqL.of hr5, fun u1 nu1 => ?_⟩
          rw [cut_hiI]
          have s1 := same_new (o := .lst ((row.take m).map V.int)) nu1
          refine ⟨.int x, rfl, sz (by show 1 ≤ 100000; decide), fun u2 nu2 => ?_⟩
          have s2 := same_new (o := .lst [.int x]) nu2
          refine ⟨u1, u2, _, _, rfl, rfl, s2 _ _ upd_same, upd_same, sz (by rw [List.length_map, List.length_take]; show _ + 1 ≤ _; omega), fun u3 nu3 => ?_⟩
          have s3 := same_new (o := .lst ((row.take m).map V.int ++ [.int x])) nu3
          have s13 := s1.trans (s2.trans s3)
          refine ⟨.ref r, rfl, .int (m : Nat), rfl, _, rfl, r, _, rfl, SqL.of (s13 _ _ hr5), fun u4 nu4 => ?_⟩
          rw [cut_loI]
          have s4 := same_new (o := .lst ((row.drop m).map V.int)) nu4
          refine ⟨u3, u4, _, _, rfl, rfl, s4 _ _ upd_same, upd_same, sz (by rw [List.length_append, List.length_map, List.length_map, List.length_take, List.length_drop]; show _ + 1 + _ ≤ _; omega), fun u5 nu5 => ?_⟩
          have s5 := same_new (o := .lst ((row.take m).map V.int ++ [.int x] ++ (row.drop m).map V.int)) nu5
          have s15 := s13.trans (s4.trans s5)
          have hD5 := s15 _ _ hD
          have hU5 := hU.same s15
          have n5D : u5 ≠ D := fun z => by rw [z, (s13.trans s4) _ _ hD] at nu5; cases nu5
          refine ⟨us, hD5, szl (by rw [hU.len, List.length_map, List.length_range]; omega), Same.put (e5.trans s15) nD, _, upd_same, ?_, fun r' hr' => ?_⟩
          rotate_left
          · rcases List.mem_append.mp hr' with h | h
            · exact hUl r' h
            · cases List.mem_singleton.mp h
              exact fun z => by rw [z, (s13.trans s4) _ _ (e5 _ _ hl)] at nu5; cases nu5
          rw [List.range_succ, List.map_append]
          refine RS.app (RS.one ?_) (hU5.put (hU5.self hD5))
          rw [upd_ne n5D, upd_same, List.map_append, List.map_append]; rfl
        · rintro H5 ⟨e5, us, hD, hU, hUl⟩
          have hl5 := e5 _ _ hl
          have hW5 := hW.same e5
          have lD : l ≠ D := fun z => by rw [← z, hl] at nD; cases nD
          have lus := hU.len
          rw [List.length_map, List.length_range] at lus
          refine ⟨l, D, ws, us, rfl, rfl, hl5, hD, sz (by omega), _, _, rfl, ?_, upd_same, ?_⟩
          · exact Same.put (e4.trans e5) nl
          · rw [List.take_add_one, hrow, List.flatMap_append]
            have e1 : [row].flatMap (insPos x) = (List.range (row.length + 1)).map fun i => row.take i ++ [x] ++ row.drop i := by rw [List.flatMap_singleton]; rfl
            rw [show (some row).toList = [row] from rfl, e1]
            exact RS.app (hU.put hUl) (hW5.put (hW5.self hl5))
      · rintro σ H4 ⟨ws, y4, rfl, e4, hl, hW⟩
        rw [lvs, List.take_length] at hW
        refine ⟨.ref l, rfl, l, ws, _, _, _, rfl, e3.trans e4, e3.free nl, hl, ?_⟩
        have ht : xs.take (i + 1) = xs.take i ++ [x] := by rw [List.take_add_one, hx]; rfl
        rw [ht]
        unfold ordsL
        rw [List.foldl_append]
        exact hW
    · rintro σ H3 ⟨fo, vs, y2, y3, y4, rfl, e3, nfo, hfo, hR⟩
      rw [List.length_map, List.take_length] at hR
      exact ⟨.ref fo, rfl, q fo vs H3 e3 nfo hfo hR⟩
end
end TT
namespace TT
open PySem PySem.Spec PyProof.Rows L2
section
variable {P : Program} {w : World} {K : PySem.W.Frag} {mg : Str → Option Value} {base : Heap}
theorem ok_law {f cl PT go ge CT CM C1 : Addr} {fdo fde : FuncData} {k : Nat} {oc kV doc pm ct : Value} {od an : Option Addr} {osl : Array (Option Value)}
    (l_law : K.lookup f = some ⟨oc, od, .func (PySem.W.fnOf "law" "law" (defArgs s_law) (defBody s_law) (defScope s_law) .none kV doc pm an (.ref cl) ct), osl⟩) (cd_law : PySem.W.codeIn K (.ref cl) "law" = true) (TB : LamX.TabB base mg cl PT) (B : Blt mg)
    (FO : Fun K "_law_outcome" "_law_outcome" s__law_outcome go fdo) (g_out : mg "_law_outcome" = some (.ref go)) (FE : Fun K "_law_error" "_law_error" s__law_error ge fde) (g_err : mg "_law_error" = some (.ref ge)) (c_field : CalE P w K mg base "_law_field" ["_law_e"] k (spField K)) (mT : mg "TreeError" = some (.ref CT)) (mM : mg "Missing" = some (.ref CM))
    (n1 : PySem.W.exmAny K (.ref C1) [.ref CT, .ref CM] = some true) (X1 : XfC K C1) (f1 : PySem.W.findIn K (.ref C1) "tag" = some none) (f2 : PySem.W.findIn K (.ref C1) "limit" = some none) (G : Cst mg)
    (c__law_start : Cal P w K mg base CX0 "_law_start" ["_law_script"] k (spStart K)) (c__law_of : Cal P w K mg base CX0 "_law_of" ["_law_draw", "_law_some"] k (spOf K)) (c__law_take : Cal P w K mg base CX0 "_law_take" ["_law_draw", "_law_many"] k spTake) (c__law_size : Cal P w K mg base CX0 "_law_size" ["_law_draw", "_law_most"] k spSize) (c__law_keys : Cal P w K mg base CX0 "_law_keys" ["_law_draw", "_law_many"] k spKeys) (c__law_tree : Cal P w K mg base CX0 "_law_tree" ["_law_order"] k (spTree K)) (c__law_shape : Cal P w K mg base CX0 "_law_shape" ["_law_m"] k spShape)
    (c__law_some_shape : Cal P w K mg base CX0 "_law_some_shape" ["_law_draw", "_law_keys_in"] k (spSome K)) (c__law_same : Cal P w K mg base CX0 "_law_same" ["_law_found", "_law_due"] k (spSameW 2)) (c__law_all_shapes : Cal P w K mg base CX0 "_law_all_shapes" ["_law_keys_in"] k (spAllSh K)) (c__law_all_orders : Cal P w K mg base CX0 "_law_all_orders" ["_law_some"] k (spAllOrd5 K)) (c__law_builds : Cal P w K mg base CX0 "_law_builds" ["_law_order"] k (spBuildsQ K 41)) (c_spine_lengths : Cal P w K mg base CX0 "spine_lengths" ["shape"] k (spSpL K)) {C2 : Addr}
    (c_count_by_spines : Cal P w K mg base (L2N.CX P w) "count_by_spines" ["size", "left", "right"] k (spCbs C2)) (c_count_orders : Cal P w K mg base CX0 "count_orders" ["shape"] k (spCntO K 41)) (k_count_orders_shape : CalN P w K mg base CX0 "count_orders" 0 ["shape"] k (spCntO K 41) (fun _ zs => zs)) (c_all_shapes : Cal P w K mg base (L2N.CX P w) "all_shapes" ["keys"] k (spAllX K C1)) (k_all_shapes_keys : CalN P w K mg base (L2N.CX P w) "all_shapes" 0 ["keys"] k (spAllX K C1) (fun _ zs => zs)) :
    FnOk P w K mg base CX0 (k + 4) f (PySem.W.fnOf "law" "law" (defArgs s_law) (defBody s_law) (defScope s_law) .none kV doc pm an (.ref cl) ct) ["_law_script"] (spLawT K PT) := by
  obtain ⟨oco, odo, kVo, doco, pmo, ano, cdo, cto, oslo, rfl, l_out, cd_out⟩ := FO.ex
  have b_out := FO.binds (ps := ["_law_ask"]) fun _ _ _ _ _ _ us hl => match us, hl with | [_], _ => rfl
  obtain ⟨oce, ode, kVe, doce, pme, ane, cde, cte, osle, rfl, l_err, cd_err⟩ := FE.ex
  have b_err := FE.binds (ps := ["_law_ask"]) fun _ _ _ _ _ _ us hl => match us, hl with | [_], _ => rfl
  refine fn_of l_law cd_law sc_law (fun vs H Q E h => ?_) (fun A outer s H vs Q E hr h => ?_)
  · obtain ⟨a, ns, rfl, _⟩ := h
    rfl
  · obtain ⟨a, ns, rfl, hS, hl, hP, q⟩ := h
    suffices hh : ∃ t, PSs (cxOf CX0 P w K mg base ["_law_script", "_law_draw", "_law_keys_in", "_law_due", "_law_again", "_law_found", "_law_left", "_law_right", "_law_some", "_law_shape_in", "_law_ways", "_law_wide", "_law_more", "_law_order"] "law" (defScope s_law) f (.ref cl) A outer s H E).nox (defBody s_law) t ∧ t { nx := fun _ H' => Q .non H', rt := Q } (L2.start ["_law_script", "_law_draw", "_law_keys_in", "_law_due", "_law_again", "_law_found", "_law_left", "_law_right", "_law_some", "_law_shape_in", "_law_ways", "_law_wide", "_law_more", "_law_order"] [.ref a]) H by
      obtain ⟨t, h1, h2⟩ := hh
      exact ⟨t, h1.nox, h2⟩
    have hu := hu_of hr
    let TT0 : List (Addr × Str) := [(PT, (envOfC "law" (defScope s_law) s.heap.objs.size f (.ref cl)).qual ++ "<lambda>")]
    refine ⟨_, (pss_cons (ps_set (i := 1) sc_law.nd rfl (Or.inr rfl) (pe_cal c__law_start (hr.mono (by omega)) (by rfl) (pa_cons (pv 0) pa_nil)))
  (pss_cons (ps_set (i := 2) sc_law.nd rfl (Or.inl rfl) (pe_cal c__law_keys (hr.mono (by omega)) (by rfl) (pa_cons (pv 1) (pa_cons (pe_cal c__law_take (hr.mono (by omega)) (by rfl) (pa_cons (pv 1) (pa_cons pe_int pa_nil))) pa_nil))))
  (C8.pss_cut (ps_set (i := 3) sc_law.nd rfl (Or.inl rfl) (pe_callB (cr_sortedD hr.units) (by rfl) B.xsorted (by decide +kernel) (pa_cons (pe_cal c__law_all_shapes (hr.mono (by omega)) (by rfl) (pa_cons (pv 2) pa_nil)) pa_nil)))
  (pss_cons (ps_for PassesOwn.never rfl (pi_range1 (by rfl) B.xrange (pa_cons pe_int pa_nil)) (pg_name (i := 4) sc_law.nd rfl (Or.inl rfl))
    (pss_cons (ps_set (i := 5) sc_law.nd rfl (Or.inl rfl) (pe_calX c_all_shapes passF (hr.mono (by omega)) (by rfl) (pa_cons (pv 2) pa_nil)))
  (pss_cons (ps_if (pt_not (pt_val (pe_cal c__law_same (hr.mono (by omega)) (by rfl) (pa_cons (pv 5) (pa_cons (pv 3) pa_nil)))))
    (pss_one (ps_ret pe_bl))
    pss_nil)
  (pss_one (ps_expr (pe_bm0 PySem.F.plainAttrs_list PySem.F.slot_list_clear PySem.F.type_list_clear mt_clear (pv 5)))))))
  (pss_cons (ps_asg (pe_tup (pa_cons (pe_cal c__law_take (hr.mono (by omega)) (by rfl) (pa_cons (pv 1) (pa_cons pe_int pa_nil))) (pa_cons (pe_cal c__law_take (hr.mono (by omega)) (by rfl) (pa_cons (pv 1) (pa_cons pe_int pa_nil))) pa_nil))) (pg_tup rfl (pgs_cons (pg_name (i := 6) sc_law.nd rfl (Or.inr rfl)) (pgs_cons (pg_name (i := 7) sc_law.nd rfl (Or.inr rfl)) pgs_nil))))
  (pss_cons (ps_setLc (i := 8) (own := [("_law_shape_in", 9)]) (g := gName 9) (by rfl) sc_law.nd rfl rfl (sw_true rfl rfl rfl (by decide +kernel)) (pi_list (pv 3)) (blkOk_by (own := [("_law_shape_in", 9)]) (N := ["_law_script", "_law_draw", "_law_keys_in", "_law_due", "_law_again", "_law_found", "_law_left", "_law_right", "_law_some", "_law_shape_in", "_law_ways", "_law_wide", "_law_more", "_law_order"]) (sc := defScope s_law) (by decide +kernel)) (fun _ _ _ _ _ => (pg_name (i := 9) sc_law.nd rfl (Or.inl rfl))) (fun _ _ _ _ _ => (pts_one (pt_cmpR (op_eqDK (K := K) rfl hr.units) (pe_cal c_spine_lengths (hr.mono (by omega)) (by rfl) (pa_cons (pv 9) pa_nil)) (pe_tup (pa_cons (pv 6) (pa_cons (pv 7) pa_nil))) (nomark _)))) (fun _ _ _ _ _ => (pv 9)))
  (pss_cons (ps_if (pt_not (pt_val (pe_cal c__law_same (hr.mono (by omega)) (by rfl) (pa_cons (pe_calX c_count_by_spines passF (hr.mono (by omega)) (by rfl) (pa_cons (pe_callB call_len_seq (by rfl) B.xlen PySem.boot_len (pa_cons (pv 2) pa_nil)) (pa_cons (pv 6) (pa_cons (pv 7) pa_nil)))) (pa_cons (pe_callB call_len_seq (by rfl) B.xlen PySem.boot_len (pa_cons (pv 8) pa_nil)) pa_nil)))))
    (pss_one (ps_ret pe_bl))
    pss_nil)
  (pss_cons (ps_set (i := 9) sc_law.nd rfl (Or.inr rfl) (pe_cal c__law_of (hr.mono (by omega)) (by rfl) (pa_cons (pv 1) (pa_cons (pv 3) pa_nil))))
  (pss_cons (ps_setLc (i := 10) (own := [("_law_order", 13)]) (g := gName 13) (by rfl) sc_law.nd rfl rfl (sw_true rfl rfl rfl (by decide +kernel)) (pi_list (pe_cal c__law_all_orders (hr.mono (by omega)) (by rfl) (pa_cons (pe_callTy call_list_of (by rfl) B.xlist (by decide +kernel) (pa_cons (pv 2) pa_nil)) pa_nil))) (blkOk_by (own := [("_law_order", 13)]) (N := ["_law_script", "_law_draw", "_law_keys_in", "_law_due", "_law_again", "_law_found", "_law_left", "_law_right", "_law_some", "_law_shape_in", "_law_ways", "_law_wide", "_law_more", "_law_order"]) (sc := defScope s_law) (by decide +kernel)) (fun _ _ _ _ _ => (pg_name (i := 13) sc_law.nd rfl (Or.inl rfl))) (fun _ _ _ _ _ => (pts_one (pt_cmpR (op_eqDK (K := K) rfl hr.units) (pe_cal c__law_shape (hr.mono (by omega)) (by rfl) (pa_cons (pe_cal c__law_tree (hr.mono (by omega)) (by rfl) (pa_cons (pv 13) pa_nil)) pa_nil)) (pv 9) (nomark _)))) (fun _ _ _ _ _ => (pv 13)))
  (pss_cons (ps_if (pt_not (pt_val (pe_cal c__law_same (hr.mono (by omega)) (by rfl) (pa_cons (pe_lst (pa_cons (pe_cal c_count_orders (hr.mono (by omega)) (by rfl) (pa_cons (pv 9) pa_nil)) (pa_cons (pe_calN0 k_count_orders_shape (hr.mono (by omega)) (by rfl) (pk_cons (pv 9) pk_nil)) pa_nil))) (pa_cons (pe_op op_rep (pe_lst (pa_cons (pe_callB call_len_seq (by rfl) B.xlen PySem.boot_len (pa_cons (pv 10) pa_nil)) pa_nil)) pe_int) pa_nil)))))
    (pss_one (ps_ret pe_bl))
    pss_nil)
  (pss_cons (ps_set (i := 11) sc_law.nd rfl (Or.inl rfl) (pe_cal c__law_some_shape (hr.mono (by omega)) (by rfl) (pa_cons (pv 1) (pa_cons (pe_cal c__law_keys (hr.mono (by omega)) (by rfl) (pa_cons (pv 1) (pa_cons (pe_cal c__law_size (hr.mono (by omega)) (by rfl) (pa_cons (pv 1) (pa_cons pe_int pa_nil))) pa_nil))) pa_nil))))
  (pss_cons (ps_if (pt_not (pt_val (pe_cal c__law_same (hr.mono (by omega)) (by rfl) (pa_cons (pe_cal c_count_orders (hr.mono (by omega)) (by rfl) (pa_cons (pv 11) pa_nil)) (pa_cons (pe_cal c__law_builds (hr.mono (by omega)) (by rfl) (pa_cons (pv 11) pa_nil)) pa_nil)))))
    (pss_one (ps_ret pe_bl))
    pss_nil)
  (pss_cons (ps_set (i := 12) sc_law.nd rfl (Or.inl rfl) (pe_cal c__law_keys (hr.mono (by omega)) (by rfl) (pa_cons (pv 1) (pa_cons (pe_op op_add pe_int (pe_cal c__law_take (hr.mono (by omega)) (by rfl) (pa_cons (pv 1) (pa_cons pe_int pa_nil)))) pa_nil))))
  (pss_cons (ps_if (pt_not (pt_val (pe_cal c__law_same (hr.mono (by omega)) (by rfl) (pa_cons (pe_calN0X k_all_shapes_keys passF (hr.mono (by omega)) (by rfl) (pk_cons (pe_callTy call_tuple_of (by rfl) B.xtuple (by decide +kernel) (pa_cons (pv 12) pa_nil)) pk_nil)) (pa_cons (pe_callB (cr_sortedD hr.units) (by rfl) B.xsorted (by decide +kernel) (pa_cons (pe_cal c__law_all_shapes (hr.mono (by omega)) (by rfl) (pa_cons (pv 12) pa_nil)) pa_nil)) pa_nil)))))
    (pss_one (ps_ret pe_bl))
    pss_nil)
  (pss_one (ps_ret (pe_and (pe_cmpR (op_eqD hr.units) (pe_lamM (T := [(PT, (envOfC "law" (defScope s_law) s.heap.objs.size f (.ref cl)).qual ++ "<lambda>")]) (j := k) (k := k + 2) (by rfl) g_err FE.kp l_err cd_err b_err sc__law_error (gv_err g_out FO.kp l_out cd_out b_out c_field mT mM) TB rfl (List.mem_singleton.mpr rfl) (fun p hp _ => by rw [List.mem_singleton.mp hp]; rfl) (hr.mono (by omega)) (LamX.lamS_by (sc := defScope s_law) (by decide +kernel)) rfl (fun _ _ _ _ _ => rfl) (fun A outer s H E f c' hr => (pe_calX c_all_shapes passLN (hr.mono (by omega)) (by rfl) (pa_cons (pe_cal c__law_keys (hr.mono (by omega)) (by rfl) (pa_cons (pv 1) (pa_cons pe_int pa_nil))) pa_nil)))) (pe_tup (pa_cons pe_str (pa_cons pe_int pa_nil))) (nomark _)) (pe_one (pe_cmpR op_eq (pg_MAX_LISTED G (by rfl)) pe_int (nomark _)))))))))))))))))))), ?_⟩
    refine ⟨.ref a, rfl, a, ns, rfl, hS, hl, fun d c ms H1 e1 nd hD1 => ?_⟩
    have hT1 : LamX.Tabs TT0 H1 := fun p hp => by rw [List.mem_singleton.mp hp]; exact LamX.TabS.nil (e1 _ _ hP)
    refine ⟨.ref d, rfl, .ref d, rfl, d, 6, c, ms, rfl, by decide, by decide, hD1, fun r H2 r0 r1 hD2 hk2 => ⟨d, r, c, ms, rfl, by omega, by omega, hD2, fun ks p H3 lk hasc e3 hD3 np hp => ?_⟩⟩
    have hT3 : LamX.Tabs TT0 H3 := tabs_ext hT1 ((Ext.but hk2).trans e3) hD1
    have npd := hD2.ne np
    have l5 : ks.length ≤ 5 := by omega
    clear hk2 hD2 e3 np hT1
    refine ⟨fun σ H5 => ∃ (sq : Addr) (ws : List V), σ = [some (.ref a), some (.ref d), some (.ref p), some (.ref sq), none, none, none, none, none, none, none, none, none, none] ∧ Drw c ms H5 d ∧ LamX.Tabs TT0 H5 ∧ H5 p = some (.lst (ks.map V.int)) ∧ H5 sq = some (.lst ws) ∧ RS .tup H5 (shapesL ks) ws ∧ sq ≠ d, ?_, ?_⟩
    · refine ⟨.ref p, rfl, p, ks, rfl, SqL.of hp, hasc.lt, by omega, fun sp sv H6 e6 nsp hsp hR => ?_⟩
      obtain ⟨zs, ez1, ez2, ez3⟩ := hR.zip
      rw [← ez1] at hsp
      refine ⟨sp, zs, rfl, SqL.of hsp, shp_some hasc.lt ez2, (fun z hz => let ⟨b, h1, h2⟩ := ez3 z hz; ⟨b, h1, SqT.of h2⟩), fun sq ys pm so nsq => ?_⟩
      have g7 := same_new (o := .lst (ys.map (·.1))) nsq
      have e7 := e6.trans g7
      refine ⟨sq, _, rfl, hD3.same e7, hT3.ext e7, e7 _ _ hp, upd_same, ?_, (hD3.same e6).ne nsq⟩
      rw [← zip_sorted hasc.lt ez2 pm so]
      exact RS.ofZip fun z hz => let ⟨b, h1, h2⟩ := ez3 z (pm.mem_iff.mp hz); ⟨b, h1, g7 _ _ h2⟩
    rintro σ H5 ⟨sq, ws, rfl, hD5, hT5, hp5, hsq5, hR5, sqd⟩
    clear hp hD3 hT3
    have lrow : ∀ x ∈ shapesL ks, x.length ≤ 5 := fun x hx => by rw [shp_len hx]; exact l5
    have lall : (shapesL ks).length ≤ 1430 := shapesL_len (by omega)
    refine ⟨2, rfl, by decide, by decide, for_range (n := 2) (fun i σ H6 => ∃ y4 y5, σ = [some (.ref a), some (.ref d), some (.ref p), some (.ref sq), y4, y5, none, none, none, none, none, none, none, none] ∧ Same H5 H6) ⟨none, none, rfl, .refl _⟩ ?_ ?_⟩
    · rintro i σ H6 hi ⟨y4, y5, rfl, e6⟩
      refine ⟨.ref p, rfl, p, ks, rfl, .inl (SqL.of (e6 _ _ hp5)), by omega, fun _ pr us H7 e7 npr hpr hU => ?_, fun h => absurd h (by omega)⟩
      have e57 := e6.trans e7
      refine ⟨.ref pr, rfl, .ref sq, rfl, _, _, rfl, eqvW_rows hpr (e57 _ _ hsq5) hU (hR5.same e57) (by omega) (fun r hr => by have := lrow r hr; omega), fun H8 e8 => ⟨true, rfl, iteFd rfl ?_⟩⟩
      have e68 := e7.trans e8
      exact ⟨.ref pr, rfl, .inl ⟨rfl, _, SqL.of (e8 _ _ hpr)⟩, pr, us, rfl, rfl, e8 _ _ hpr, _, _, rfl, Same.put (e6.trans e68) (e6.free npr)⟩
    rintro σ H6 ⟨y4, y5, rfl, e6⟩
    have hD6 := hD5.same e6
    have hT6 := hT5.ext e6
    have hp6 := e6 _ _ hp5
    have hsq6 := e6 _ _ hsq5
    have hR6 := hR5.same e6
    clear hD5 hT5 hp5 hsq5 hR5 e6
    refine ⟨.ref d, rfl, d, 6, c, ms, rfl, by decide, by decide, hD6, fun l H7 l0 l1 hD7 hk7 => ⟨.ref d, rfl, d, 6, c, ms, rfl, by decide, by decide, hD7, fun r H8 r0 r1 hD8 hk8 => ⟨sz (by show 2 ≤ 100000; decide), fun tp ntp => ⟨tp, [.int l, .int r], rfl, SqT.of upd_same, rfl, .int l, [.int r], rfl, .int r, [], rfl, rfl, ?_⟩⟩⟩⟩
    have g9 := same_new (o := .tup [.int l, .int r]) ntp
    have e69 : Ext d H6 (L2.upd H8 tp (.tup [.int l, .int r])) := (Ext.but hk7).trans ((Ext.but hk8).trans (.of g9))
    have hD9 := hD8.same g9
    have hT9 : LamX.Tabs TT0 (L2.upd H8 tp (.tup [.int l, .int r])) := tabs_ext hT6 e69 hD6
    have hp9 := e69 _ _ npd hp6
    have hsq9 := e69 _ _ sqd hsq6
    have hR9 := hR6.extD hD6 e69
    generalize L2.upd H8 tp (.tup [.int l, .int r]) = H9 at g9 e69 hD9 hT9 hp9 hsq9 hR9 ⊢
    clear hD6 hT6 hp6 hsq6 hR6 hk7 hk8 g9 e69 hD7 hD8
    obtain ⟨ln, rfl⟩ : ∃ n : Nat, l = n := ⟨l.toNat, by omega⟩
    obtain ⟨rn, rfl⟩ : ∃ n : Nat, r = n := ⟨r.toNat, by omega⟩
    refine ⟨.ref sq, rfl, sq, rfl, ⟨_, SqL.of hsq9⟩, fun D nD => lc_list (xs := ws) (fun j H2 => Same H9 H2 ∧ ∃ acc : List V, H2 D = some (.lst acc) ∧ acc.length = (((shapesL ks).take j).filter fun x => decide (spnL x = (ln, rn))).length) ⟨same_new nD, [], upd_same, rfl⟩ (fun j H2 _ h => SqL.of (h.1 _ _ hsq9)) ?_ ?_⟩
    · rintro j v H10 hv ⟨e10, acc, hD2, la⟩
      obtain ⟨b, xs, rfl, hx, hb⟩ := hR9.get j v hv
      have mx := List.mem_of_getElem? hx
      obtain ⟨t, bt, rfl, pt⟩ := (mem_shapes hasc.lt).mp mx
      have hj := (List.getElem?_eq_some_iff.mp hx).1
      have lt := pt.length_eq
      refine ⟨rfl, .ref b, rfl, b, t, rfl, SqT.of (e10 _ _ hb), bt, by omega, fun p1 H11 e11 np1 hp1 => ?_⟩
      have es : spnL t.pre = (t.lsp, t.rsp) := by unfold spnL; rw [insAll_pre bt]
      have ed : decide (spnL t.pre = (ln, rn)) = decide ([(t.lsp : Int), (t.rsp : Int)] = [(ln : Int), (rn : Int)]) := decide_eq_decide.mpr (by rw [es]; simp; omega)
      refine ⟨.int (ln : Int), rfl, .int (rn : Int), rfl, sz (by show 2 ≤ 100000; decide), fun t2 nt2 => ?_⟩
      have g12 := same_new (o := .tup [.int (ln : Int), .int (rn : Int)]) nt2
      have e1012 := e11.trans g12
      have hD12 := e1012 _ _ hD2
      have lacc : acc.length ≤ 1430 := by
        rw [la]
        refine Nat.le_trans (List.length_filter_le _ _) ?_
        rw [List.length_take]; omega
      refine rd_eqT (ns := [(t.lsp : Int), (t.rsp : Int)]) (ms := [(ln : Int), (rn : Int)]) (SqT.of (g12 _ _ hp1)) (SqT.of upd_same) ⟨_, rfl, ite2 (fun h => ?_) (fun h => ?_)⟩
      · refine ⟨.ref b, rfl, acc, hD12, szl (by omega), Same.put (e10.trans e1012) nD, _, upd_same, ?_⟩
        rw [List.take_add_one, hx, List.filter_append, List.length_append, List.length_append, la]
        show _ = _ + ([t.pre].filter _).length
        rw [List.filter_cons_of_pos (by rw [ed]; exact h)]; rfl
      · refine ⟨e10.trans e1012, acc, hD12, ?_⟩
        rw [List.take_add_one, hx, List.filter_append, List.length_append, la]
        show _ = _ + ([t.pre].filter _).length
        rw [List.filter_cons_of_neg (by rw [ed]; exact h)]; rfl
    rintro H10 ⟨e10, acc, hD2, la⟩
    rw [hR9.len, List.take_length] at la
    have hD10 := hD9.same e10
    have hT10 := hT9.ext e10
    have hp10 := e10 _ _ hp9
    have hsq10 := e10 _ _ hsq9
    have hR10 := hR9.same e10
    have lk2 : (((ks.map V.int).length : Nat) : Int) = (ks.length : Int) := by rw [List.length_map]
    refine ⟨.ref p, rfl, p, _, rfl, .inl (SqL.of hp10), .int (ln : Int), rfl, .int (rn : Int), rfl, _, (ln : Int), (rn : Int), rfl, by rw [lk2]; exact Nat.lt_of_le_of_lt (Nat.log2_le_self _) (by omega), by omega, by omega, by omega, by omega, fun _ _ => ?_, fun h => absurd h (by rw [lk2]; omega)⟩
    rw [lk2, ← spn_count hasc.lt l5 (l := ln) (r := rn) (by omega) (by omega), ← la]
    refine ⟨.ref D, rfl, D, _, rfl, .inl (SqL.of hD2), _, _, rfl, .flat rfl, fun H11 e11 => ⟨true, rfl, iteFd rfl ?_⟩⟩
    have hD11 := hD10.same e11
    have hT11 := hT10.ext e11
    have hp11 := e11 _ _ hp10
    have hsq11 := e11 _ _ hsq10
    have hR11 := hR10.same e11
    clear hD10 hT10 hp10 hsq10 hR10 la hD2 e10 e11 nD hD9 hT9 hp9 hsq9 hR9
    have lpos : 0 < ws.length := by
      rw [hR11.len]
      have ndk : ks.Nodup := hasc.lt.imp fun h => by omega
      exact List.length_pos_of_mem ((mem_shapes hasc.lt).mpr ⟨_, bst_insAll (t := T.leaf) trivial ndk fun _ _ z => (by cases z), rfl, insAll_perm ndk⟩)
    refine ⟨.ref d, rfl, .ref sq, rfl, d, sq, ws, c, ms, rfl, SqL.of hsq11, lpos, by rw [hR11.len]; omega, sqd, hD11, fun v H12 hv hD12 hk12 => ?_⟩
    obtain ⟨sh, x, rfl, mx, hsh⟩ := hR11.mem hv
    have x1112 : Ext d H11 H12 := .but hk12
    have hT12 := tabs_ext hT11 x1112 hD11
    have hp12 := x1112 _ _ npd hp11
    have hsh12 : H12 sh = some (.tup (x.map V.int)) := x1112 _ _ (fun z => by obtain ⟨_, _, _, g, _⟩ := hD11; rw [z, g] at hsh; cases hsh) hsh
    obtain ⟨t, bt, rfl, pt⟩ := (mem_shapes hasc.lt).mp mx
    clear hD11 hT11 hp11 hsq11 hR11 hsh hv x1112 hk12 lpos
    have ndk : ks.Nodup := hasc.lt.imp fun h => by omega
    refine ⟨.ref p, rfl, p, _, rfl, .inl (SqL.of hp12), fun l1 nl1 => ?_⟩
    have g13 := same_new (o := .lst (ks.map V.int)) nl1
    refine ⟨l1, ks, rfl, SqL.of upd_same, l5, fun po wo H14 e14 npo hpo hRo => ⟨po, rfl, ⟨_, SqL.of hpo⟩, fun Dw nDw => ?_⟩⟩
    have e1214 := g13.trans e14
    have hsh14 := e1214 _ _ hsh12
    have lord := ords_le5 l5
    refine lc_list (xs := wo) (fun j H15 => Same H14 H15 ∧ ∃ acc : List V, H15 Dw = some (.lst acc) ∧ acc.length = (((ordsL ks).take j).filter fun o => decide ((T.insAll o T.leaf).pre = t.pre)).length) ⟨same_new nDw, [], upd_same, rfl⟩ (fun j H15 _ h => SqL.of (h.1 _ _ hpo)) ?_ ?_
    · rintro j v H15 hv ⟨e15, acc, hDw, la⟩
      obtain ⟨o, os, rfl, ho, hos⟩ := hRo.get j v hv
      have po5 := ords_perm (List.mem_of_getElem? ho)
      have ndo : os.Nodup := po5.nodup_iff.mpr ndk
      have lo := po5.length_eq
      refine ⟨rfl, .ref o, rfl, o, os, rfl, .inl (SqL.of (e15 _ _ hos)), ndo, by omega, fun m L R U H16 e16 nm nL nR nU hTr => ?_⟩
      have hbo : (T.insAll os T.leaf).bst := bst_insAll (t := T.leaf) trivial ndo fun _ _ z => (by cases z)
      refine ⟨m, L, R, U, T.insAll os T.leaf, _, _, rfl, hTr, hbo, by rw [(insAll_perm ndo).length_eq]; omega, fun p17 H17 e17 np17 hp17 => ?_⟩
      have e1517 := e16.trans e17
      have hDw17 := e1517 _ _ hDw
      have lacc : acc.length ≤ 120 := by
        rw [la]
        refine Nat.le_trans (List.length_filter_le _ _) ?_
        rw [List.length_take]; omega
      refine ⟨.ref sh, rfl, rd_eqT (ns := (T.insAll os T.leaf).pre) (ms := t.pre) (SqT.of hp17) (SqT.of ((e15.trans e1517) _ _ hsh14)) ⟨_, rfl, ite2 (fun h => ?_) (fun h => ?_)⟩⟩
      · refine ⟨.ref o, rfl, acc, hDw17, szl (by omega), Same.put (e15.trans e1517) nDw, _, upd_same, ?_⟩
        rw [List.take_add_one, ho, List.filter_append, List.length_append, List.length_append, la]
        show _ = _ + ([os].filter _).length
        rw [flt1 (fun o : List Int => decide ((T.insAll o T.leaf).pre = t.pre)) h]; rfl
      · refine ⟨e15.trans e1517, acc, hDw17, ?_⟩
        rw [List.take_add_one, ho, List.filter_append, List.length_append, la]
        show _ = _ + ([os].filter _).length
        rw [flt0 (fun o : List Int => decide ((T.insAll o T.leaf).pre = t.pre)) h]; rfl
    rintro H15 ⟨e15, acc2, hDw, la⟩
    rw [hRo.len, List.take_length] at la
    have oc := ord_count hasc.lt l5 mx
    rw [← la] at oc
    have e1215 := e1214.trans e15
    have hD15 := hD12.same e1215
    have hT15 := hT12.ext e1215
    have hsh15 := e1215 _ _ hsh12
    clear hD12 hT12 hp12 hsh12 g13 e14 hpo hRo e1214 hsh14 la nDw e15 e1215 nl1 npo
    have lt5 := pt.length_eq
    refine ⟨.ref sh, rfl, sh, t, rfl, SqT.of hsh15, bt, by omega, by omega, fun H16 e16 => ⟨.ref sh, rfl, rfl, rfl, sh, t, rfl, SqT.of (e16 _ _ hsh15), bt, by omega, by omega, fun H17 e17 => ⟨sz (by show 2 ≤ 100000; decide), fun la nla => ?_⟩⟩⟩
    have g18 := same_new (o := .lst [.int (cntL t.pre), .int (cntL t.pre)]) nla
    have e1518 := e16.trans (e17.trans g18)
    refine ⟨.ref Dw, rfl, Dw, _, rfl, .inl (SqL.of (e1518 _ _ hDw)), sz (by show 1 ≤ 100000; decide), fun lb nlb => ?_⟩
    have g19 := same_new (o := .lst [.int (acc2.length : Nat)]) nlb
    refine ⟨lb, 2, _, rfl, rfl, upd_same, by decide, by decide, sz (by show 1 * 2 ≤ 100000; decide), fun lc nlc => ?_⟩
    have g20 := same_new (o := .lst (List.replicate (2 : Int).toNat [V.int (acc2.length : Nat)]).flatten) nlc
    refine ⟨_, _, rfl, eqvW_two ((g19.trans g20) _ _ upd_same) (show _ = some (HO.lst [V.int (acc2.length : Nat), V.int (acc2.length : Nat)]) from upd_same) (by rw [oc]; exact .flat rfl) (by rw [oc]; exact .flat rfl), fun H21 e21 => ⟨true, rfl, iteFd rfl ?_⟩⟩
    have e1521 := e1518.trans (g19.trans (g20.trans e21))
    have hD21 := hD15.same e1521
    have hT21 := hT15.ext e1521
    clear hD15 hT15 hsh15 hDw g18 g19 g20 e1518 e1521 e16 e17 e21 nla nlb nlc oc mx
    refine ⟨.ref d, rfl, .ref d, rfl, .ref d, rfl, d, 40, c, ms, rfl, by decide, by decide, hD21, fun r2 H2 r20 r21 e2 hD2 => ⟨d, r2, c, ms, rfl, by omega, by omega, hD2, fun ks2 p2 H3 lk2 asc2 e3 hD3 np2 hp2 => ⟨d, p2, ks2, c, ms, rfl, SqL.of hp2, asc2, by omega, hD2.ne np2, hD3, fun t2 pw H4 bt2 pm2 e4 hD4 npw hpw => ?_⟩⟩⟩
    have lt2 := pm2.length_eq
    refine ⟨.ref pw, rfl, pw, t2, rfl, SqT.of hpw, bt2, by omega, by omega, fun H5 e5 => ⟨.ref pw, rfl, pw, t2.pre, rfl, .inr (SqT.of (e5 _ _ hpw)), by omega, by omega, fun H6 e6 => ⟨_, _, rfl, .flat rfl, fun H7 e7 => ⟨true, rfl, iteFd rfl ?_⟩⟩⟩⟩
    have e47 := e5.trans (e6.trans e7)
    have hD7 := hD4.same e47
    have hT7 := (tabs_ext hT21 (e2.trans (e3.trans e4)) hD21).ext e47
    clear hD21 hT21 e2 hD2 e3 hD3 np2 hp2 e4 hD4 npw hpw e5 e6 e7 e47 pm2 bt2 lt2
    refine ⟨.ref d, rfl, .ref d, rfl, d, 2, c, ms, rfl, by decide, by decide, hD7, fun r8 H8 r80 r81 hD8 hk8 => ⟨7, r8, rfl, rfl, d, 7 + r8, c, ms, rfl, by omega, by omega, hD8, fun ks3 p3 H9 lk3 asc3 e9 hD9 np3 hp3 => ?_⟩⟩
    have hT9' := tabs_ext hT7 ((Ext.but hk8).trans e9) hD7
    have l8 : ks3.length ≤ 8 := by omega
    clear hD7 hT7 hk8 hD8 e9 np3
    refine ⟨.ref p3, rfl, p3, _, rfl, .inl ⟨SqL.of hp3, fun tk ntk => ⟨rfl, rfl, tk, ks3, rfl, .inr (SqT.of upd_same), by omega, fun _ pr us H11 e11 npr hpr hU => ?_, fun h => absurd h (by omega)⟩⟩⟩
    have g10 := same_new (o := .tup (ks3.map V.int)) ntk
    have e911 := g10.trans e11
    refine ⟨.ref p3, rfl, p3, ks3, rfl, SqL.of (e911 _ _ hp3), asc3.lt, by omega, fun sp sv H12 e12 nsp hsp hR => ?_⟩
    obtain ⟨zs, ez1, ez2, ez3⟩ := hR.zip
    rw [← ez1] at hsp
    refine ⟨sp, zs, rfl, SqL.of hsp, shp_some asc3.lt ez2, (fun z hz => let ⟨b, h1, h2⟩ := ez3 z hz; ⟨b, h1, SqT.of h2⟩), fun sq2 ys pm so nsq => ?_⟩
    have g13 := same_new (o := .lst (ys.map (·.1))) nsq
    have e1113 := e12.trans g13
    have hys : RS .tup (L2.upd H12 sq2 (.lst (ys.map (·.1)))) (shapesL ks3) (ys.map (·.1)) := by
      rw [← zip_sorted asc3.lt ez2 pm so]
      exact RS.ofZip fun z hz => let ⟨b, h1, h2⟩ := ez3 z (pm.mem_iff.mp hz); ⟨b, h1, g13 _ _ h2⟩
    refine ⟨_, _, rfl, eqvW_rows (e1113 _ _ hpr) upd_same (hU.same e1113) hys (Nat.le_trans (shapesL_len l8) (by decide)) (fun r hr => by rw [shp_len hr]; omega), fun H14 e14 => ⟨true, rfl, iteFd rfl ?_⟩⟩
    have e914 := e911.trans (e1113.trans e14)
    have hD14 := hD9.same e914
    have hT14 := hT9'.ext e914
    clear hD9 hT9' hp3 g10 e911 hpr hU e11 e12 hsp ez1 ez2 ez3 hR g13 e1113 hys e14 e914 ntk nsq nsp npr so pm
    refine ⟨hT14, fun H16 eN hT16 H17 E' R' e17 hE hR => ?_⟩
    have hD17 := (drw_extN hD14 eN).same e17
    refine ⟨.ref d, rfl, d, 9, c, ms, rfl, by decide, by decide, hD17, fun ks4 p4 H18 lk4 asc4 e18 hD18 np4 hp4 => ⟨p4, ks4, rfl, .inl (SqL.of hp4), by omega, fun h => absurd h (by omega), fun _ dd Hf eF hdd => ?_⟩⟩
    refine hE _ _ _ ⟨n1, C1, dd, "TooManyKeys", .int 8, rfl, rfl, bears_mk X1 f1 f2 hdd (by decide +kernel) (by decide +kernel), fun pp Hx ex np hpp => ⟨pp, .non, "TooManyKeys", .int 8, rfl, hpp, fun rr nrr => ?_⟩⟩
    refine ⟨sz (by show 2 ≤ 100000; decide), fun zz nzz => ?_⟩
    refine rd_eqE (same_new nzz _ _ upd_same) upd_same (by decide +kernel) ⟨true, rfl, iteTd rfl ⟨rfl, ?_⟩⟩
    show Q (.bl (decide (V.int 8 = V.int 8))) _
    rw [decide_eq_true rfl]
    exact q _
end
end TT
namespace TT
open PySem PySem.Spec PyProof.Rows L2
section
variable {P : Program} {w : World} {K : PySem.W.Frag} {mg : Str → Option Value} {base : Heap}
theorem ok_TreeI {f : Addr} {fd : FuncData} {k : Nat} (F : Fun K "__init__" "TreeError.__init__" s_TreeError_init f fd) (hV : mg "ValueError" = none) (vV : PySem.W.findCls K (.type "ValueError") (.type "type") "__init__" = some (.val (.builtin "ValueError.__init__"))) :
    FnOk P w K mg base CX0 (k + 1) f fd ["self", "tag", "told"] (spTreeI K) := by
  refine F.ok sc_TreeError_init (fun vs H Q E h => ?_) (fun cdv A outer s H vs Q E hr h => ?_)
  · obtain ⟨a, C, tag, told, rfl, _⟩ := h
    rfl
  · obtain ⟨a, C, tag, told, rfl, T, ha, ft, q⟩ := h
    refine ⟨_, (pss_cons (ps_expr (pe_veinit (by rfl) hV vV (pa_cons (pv 0) (pa_cons (pv 2) pa_nil)))) (pss_one (ps_ost (pv 0) (pv 1)))), ?_⟩
    exact ⟨.ref a, rfl, .str told, rfl, a, C, [.str told], rfl, by show 1 ≤ 1000; decide, T, ha, .str tag, rfl, .ref a, rfl, a, C, rfl, T, ft, .inl ⟨ha, fun dx n ne => q dx n ne⟩⟩
end
end TT
namespace TT
open PySem PySem.Spec PyProof.Rows L2
section
variable {P : Program} {w : World} {K : PySem.W.Frag} {mg : Str → Option Value} {base : Heap}
theorem ok_TooManyKeysI {f fT CT : Addr} {fd fdT : FuncData} {k : Nat} (F : Fun K "__init__" "TooManyKeys.__init__" s_TooManyKeys_init f fd) (FT : FnOk P w K mg base CX0 k fT fdT ["self", "tag", "told"] (spTreeI K)) (bT : Binds K fdT ["self", "tag", "told"] []) (kT : PySem.W.keepIn K (.ref fT) = true) (mT : mg "TreeError" = some (.ref CT)) (cT : ClsFn K CT "__init__" fT) :
    FnOk P w K mg base CX0 (k + 1) f fd ["self", "limit"] (spOwnI K "TooManyKeys" "limit") := by
  refine F.ok sc_TooManyKeys_init (fun vs H Q E h => ?_) (fun cdv A outer s H vs Q E hr h => ?_)
  · obtain ⟨a, C, n, rfl, _⟩ := h
    rfl
  · obtain ⟨a, C, n, rfl, hn, T, ha, ft, ff, q⟩ := h
    refine ⟨_, (pss_cons (ps_expr (pe_clsfn (E := E0) (by rfl) mT cT FT (hr.mono (by omega)) kT bT pass0 (pa_cons (pv 0) (pa_cons pe_str (pa_cons (pe_joined (.cons pe_str (.cons (pe_fmt (pv 1)) (.cons pe_str .nil)))) pa_nil))))) (pss_one (ps_ost (pv 0) (pv 1)))), ?_⟩
    refine ⟨.ref a, rfl, _, rfl, fits_app (m := 0) (n := 100) (by decide) (by decide +kernel) (by decide), .int n, rfl, .inr ⟨n, rfl, hn, _, rfl, fits_app (m := 100) (n := 2000) (le_app (m := 0) (n := 100) (by decide) (by decide +kernel)) (int_len hn) (by decide), _, rfl, fits_app (m := 2100) (n := 100) (le_app (m := 100) (n := 2000) (le_app (m := 0) (n := 100) (by decide) (by decide +kernel)) (int_len hn)) (by decide +kernel) (by decide), a, C, _, _, rfl, T, ha, ft, fun dx nd ne => ?_⟩⟩
    refine ⟨.int n, rfl, .ref a, rfl, a, C, rfl, T, ff, .inr ⟨dx, _, upd_same, ?_, by show 1 ≤ 900; decide, q dx nd ne⟩⟩
    rw [upd_ne ne, upd_same]
end
end TT
namespace TT
open PySem PySem.Spec PyProof.Rows L2
section
variable {P : Program} {w : World} {K : PySem.W.Frag} {mg : Str → Option Value} {base : Heap}
theorem ok_BadSizeI {f fT CT : Addr} {fd fdT : FuncData} {k : Nat} (F : Fun K "__init__" "BadSize.__init__" s_BadSize_init f fd) (FT : FnOk P w K mg base CX0 k fT fdT ["self", "tag", "told"] (spTreeI K)) (bT : Binds K fdT ["self", "tag", "told"] []) (kT : PySem.W.keepIn K (.ref fT) = true) (mT : mg "TreeError" = some (.ref CT)) (cT : ClsFn K CT "__init__" fT) :
    FnOk P w K mg base CX0 (k + 1) f fd ["self", "size"] (spOwnI K "BadSize" "size") := by
  refine F.ok sc_BadSize_init (fun vs H Q E h => ?_) (fun cdv A outer s H vs Q E hr h => ?_)
  · obtain ⟨a, C, n, rfl, _⟩ := h
    rfl
  · obtain ⟨a, C, n, rfl, hn, T, ha, ft, ff, q⟩ := h
    refine ⟨_, (pss_cons (ps_expr (pe_clsfn (E := E0) (by rfl) mT cT FT (hr.mono (by omega)) kT bT pass0 (pa_cons (pv 0) (pa_cons pe_str (pa_cons (pe_joined (.cons pe_str (.cons (pe_fmt (pv 1)) (.cons pe_str .nil)))) pa_nil))))) (pss_one (ps_ost (pv 0) (pv 1)))), ?_⟩
    refine ⟨.ref a, rfl, _, rfl, fits_app (m := 0) (n := 100) (by decide) (by decide +kernel) (by decide), .int n, rfl, .inr ⟨n, rfl, hn, _, rfl, fits_app (m := 100) (n := 2000) (le_app (m := 0) (n := 100) (by decide) (by decide +kernel)) (int_len hn) (by decide), _, rfl, fits_app (m := 2100) (n := 100) (le_app (m := 100) (n := 2000) (le_app (m := 0) (n := 100) (by decide) (by decide +kernel)) (int_len hn)) (by decide +kernel) (by decide), a, C, _, _, rfl, T, ha, ft, fun dx nd ne => ?_⟩⟩
    refine ⟨.int n, rfl, .ref a, rfl, a, C, rfl, T, ff, .inr ⟨dx, _, upd_same, ?_, by show 1 ≤ 900; decide, q dx nd ne⟩⟩
    rw [upd_ne ne, upd_same]
end
end TT
namespace TT
open PySem PySem.Spec PyProof.Rows L2
section
variable {P : Program} {w : World} {K : PySem.W.Frag} {mg : Str → Option Value} {base : Heap}
theorem ok_MissI {f : Addr} {fd : FuncData} {k : Nat} (F : Fun K "__init__" "Missing.__init__" s_Missing_init f fd) (hV : mg "LookupError" = none) (vV : PySem.W.findCls K (.type "LookupError") (.type "type") "__init__" = some (.val (.builtin "LookupError.__init__"))) :
    FnOk P w K mg base CX0 (k + 1) f fd ["self", "tag", "told"] (spMissI K) := by
  refine F.ok sc_Missing_init (fun vs H Q E h => ?_) (fun cdv A outer s H vs Q E hr h => ?_)
  · obtain ⟨a, C, tag, told, rfl, _⟩ := h
    rfl
  · obtain ⟨a, C, tag, told, rfl, T, ha, ft, q⟩ := h
    refine ⟨_, (pss_cons (ps_expr (pe_leinit (by rfl) hV vV (pa_cons (pv 0) (pa_cons (pv 2) pa_nil)))) (pss_one (ps_ostL (pv 0) (pv 1)))), ?_⟩
    exact ⟨.ref a, rfl, .str told, rfl, a, C, [.str told], rfl, by show 1 ≤ 1000; decide, T, ha, .str tag, rfl, .ref a, rfl, a, C, rfl, T, ft, .inl ⟨ha, fun dx n ne => q dx n ne⟩⟩
end
end TT
namespace TT
open PySem PySem.Spec PyProof.Rows L2
theorem all_mk {l : PySem.W.OpenLaw} {w : World} {K : PySem.W.Frag} {h : Heap} {mg : Str → Option Value} {fa : Addr} (X : K.In h) (G : h.Ns mainGlobals mg) (hfa : mg "law" = some (.ref fa)) (own : LamX.OwnTab K fa h)
    {f0 : Addr} {od0 an0 : Option Addr} {sl0 : Array (Option Value)} {oc0 dc0 pm0 cd0 ct0 : Value} {D0 : Addr}
    {f1 : Addr} {od1 an1 : Option Addr} {sl1 : Array (Option Value)} {oc1 kV1 dc1 pm1 cd1 ct1 : Value}
    {f2 : Addr} {od2 an2 : Option Addr} {sl2 : Array (Option Value)} {oc2 kV2 dc2 pm2 cd2 ct2 : Value}
    {f3 : Addr} {od3 an3 : Option Addr} {sl3 : Array (Option Value)} {oc3 kV3 dc3 pm3 cd3 ct3 : Value}
    {f4 : Addr} {od4 an4 : Option Addr} {sl4 : Array (Option Value)} {oc4 kV4 dc4 pm4 cd4 ct4 : Value}
    {f5 : Addr} {od5 an5 : Option Addr} {sl5 : Array (Option Value)} {oc5 kV5 dc5 pm5 cd5 ct5 : Value}
    {f6 : Addr} {od6 an6 : Option Addr} {sl6 : Array (Option Value)} {oc6 kV6 dc6 pm6 cd6 ct6 : Value}
    {f7 : Addr} {od7 an7 : Option Addr} {sl7 : Array (Option Value)} {oc7 kV7 dc7 pm7 cd7 ct7 : Value}
    {f8 : Addr} {od8 an8 : Option Addr} {sl8 : Array (Option Value)} {oc8 kV8 dc8 pm8 cd8 ct8 : Value}
    {f9 : Addr} {od9 an9 : Option Addr} {sl9 : Array (Option Value)} {oc9 kV9 dc9 pm9 cd9 ct9 : Value}
    {f10 : Addr} {od10 an10 : Option Addr} {sl10 : Array (Option Value)} {oc10 kV10 dc10 pm10 cd10 ct10 : Value}
    {f11 : Addr} {od11 an11 : Option Addr} {sl11 : Array (Option Value)} {oc11 kV11 dc11 pm11 cd11 ct11 : Value}
    {f12 : Addr} {od12 an12 : Option Addr} {sl12 : Array (Option Value)} {oc12 kV12 dc12 pm12 cd12 ct12 : Value}
    {f13 : Addr} {od13 an13 : Option Addr} {sl13 : Array (Option Value)} {oc13 kV13 dc13 pm13 cd13 ct13 : Value}
    {f14 : Addr} {od14 an14 : Option Addr} {sl14 : Array (Option Value)} {oc14 kV14 dc14 pm14 cd14 ct14 : Value}
    {f15 : Addr} {od15 an15 : Option Addr} {sl15 : Array (Option Value)} {oc15 kV15 dc15 pm15 cd15 ct15 : Value}
    {f16 : Addr} {od16 an16 : Option Addr} {sl16 : Array (Option Value)} {oc16 kV16 dc16 pm16 cd16 ct16 : Value}
    {f17 : Addr} {od17 an17 : Option Addr} {sl17 : Array (Option Value)} {oc17 kV17 dc17 pm17 cd17 ct17 : Value}
    {f18 : Addr} {od18 an18 : Option Addr} {sl18 : Array (Option Value)} {oc18 kV18 dc18 pm18 cd18 ct18 : Value}
    {f19 : Addr} {od19 an19 : Option Addr} {sl19 : Array (Option Value)} {oc19 kV19 dc19 pm19 cd19 ct19 : Value}
    {f20 : Addr} {od20 an20 : Option Addr} {sl20 : Array (Option Value)} {oc20 kV20 dc20 pm20 cd20 ct20 : Value}
    {f21 : Addr} {od21 an21 : Option Addr} {sl21 : Array (Option Value)} {oc21 kV21 dc21 pm21 cd21 ct21 : Value}
    {f22 : Addr} {od22 an22 : Option Addr} {sl22 : Array (Option Value)} {oc22 kV22 dc22 pm22 cd22 ct22 : Value}
    {f23 : Addr} {od23 an23 : Option Addr} {sl23 : Array (Option Value)} {oc23 kV23 dc23 pm23 cd23 ct23 : Value}
    {f24 : Addr} {od24 an24 : Option Addr} {sl24 : Array (Option Value)} {oc24 kV24 dc24 pm24 cd24 ct24 : Value}
    {f25 : Addr} {od25 an25 : Option Addr} {sl25 : Array (Option Value)} {oc25 kV25 dc25 pm25 cd25 ct25 : Value}
    {f26 : Addr} {od26 an26 : Option Addr} {sl26 : Array (Option Value)} {oc26 kV26 dc26 pm26 cd26 ct26 : Value}
    {f27 : Addr} {od27 an27 : Option Addr} {sl27 : Array (Option Value)} {oc27 kV27 dc27 pm27 cd27 ct27 : Value}
    {f28 : Addr} {od28 an28 : Option Addr} {sl28 : Array (Option Value)} {oc28 kV28 dc28 pm28 cd28 ct28 : Value}
    {f29 : Addr} {od29 an29 : Option Addr} {sl29 : Array (Option Value)} {oc29 kV29 dc29 pm29 cd29 ct29 : Value}
    {f30 : Addr} {od30 an30 : Option Addr} {sl30 : Array (Option Value)} {oc30 kV30 dc30 pm30 ct30 : Value}
    {cl PT : Addr} {ec : Value} {dcl : Option Addr} {vcl : Array Value} {slc : Array (Option Value)}
    {t_MAX_SIZE : Tok}
    {t_MAX_LISTED : Tok}
    {C_TreeError : Addr}
    {C_Missing : Addr}
    {C_TooManyKeys : Addr}
    {C_BadSize : Addr}
    {i_TreeError : Addr} {iod_TreeError ian_TreeError : Option Addr} {isl_TreeError : Array (Option Value)} {ioc_TreeError ikV_TreeError idc_TreeError ipm_TreeError icd_TreeError ict_TreeError : Value}
    {i_TooManyKeys : Addr} {iod_TooManyKeys ian_TooManyKeys : Option Addr} {isl_TooManyKeys : Array (Option Value)} {ioc_TooManyKeys ikV_TooManyKeys idc_TooManyKeys ipm_TooManyKeys icd_TooManyKeys ict_TooManyKeys : Value}
    {i_BadSize : Addr} {iod_BadSize ian_BadSize : Option Addr} {isl_BadSize : Array (Option Value)} {ioc_BadSize ikV_BadSize idc_BadSize ipm_BadSize icd_BadSize ict_BadSize : Value}
    (a0 : PySem.W.nsIn K mainGlobals "restrict" = some (some (.ref f0)))
    (l0 : K.lookup f0 = some ⟨oc0, od0, .func (PySem.W.fnOf "restrict" "restrict" (defArgs s_restrict) (defBody s_restrict) (defScope s_restrict) .none (.ref D0) dc0 pm0 an0 cd0 ct0), sl0⟩)
    (c0 : PySem.W.codeIn K cd0 "restrict" = true)
    (k0 : PySem.W.keepIn K (.ref f0) = true)
    (w0_0 : PySem.W.nsIn K D0 "low" = some (some .none))
    (w0_1 : PySem.W.nsIn K D0 "high" = some (some .none))
    (a1 : PySem.W.nsIn K mainGlobals "parts_of" = some (some (.ref f1)))
    (l1 : K.lookup f1 = some ⟨oc1, od1, .func (PySem.W.fnOf "parts_of" "parts_of" (defArgs s_parts_of) (defBody s_parts_of) (defScope s_parts_of) .none kV1 dc1 pm1 an1 cd1 ct1), sl1⟩)
    (c1 : PySem.W.codeIn K cd1 "parts_of" = true)
    (k1 : PySem.W.keepIn K (.ref f1) = true)
    (a2 : PySem.W.nsIn K mainGlobals "search_path" = some (some (.ref f2)))
    (l2 : K.lookup f2 = some ⟨oc2, od2, .func (PySem.W.fnOf "search_path" "search_path" (defArgs s_search_path) (defBody s_search_path) (defScope s_search_path) .none kV2 dc2 pm2 an2 cd2 ct2), sl2⟩)
    (c2 : PySem.W.codeIn K cd2 "search_path" = true)
    (k2 : PySem.W.keepIn K (.ref f2) = true)
    (a3 : PySem.W.nsIn K mainGlobals "spine_lengths" = some (some (.ref f3)))
    (l3 : K.lookup f3 = some ⟨oc3, od3, .func (PySem.W.fnOf "spine_lengths" "spine_lengths" (defArgs s_spine_lengths) (defBody s_spine_lengths) (defScope s_spine_lengths) .none kV3 dc3 pm3 an3 cd3 ct3), sl3⟩)
    (c3 : PySem.W.codeIn K cd3 "spine_lengths" = true)
    (k3 : PySem.W.keepIn K (.ref f3) = true)
    (a4 : PySem.W.nsIn K mainGlobals "binomial" = some (some (.ref f4)))
    (l4 : K.lookup f4 = some ⟨oc4, od4, .func (PySem.W.fnOf "binomial" "binomial" (defArgs s_binomial) (defBody s_binomial) (defScope s_binomial) .none kV4 dc4 pm4 an4 cd4 ct4), sl4⟩)
    (c4 : PySem.W.codeIn K cd4 "binomial" = true)
    (k4 : PySem.W.keepIn K (.ref f4) = true)
    (a5 : PySem.W.nsIn K mainGlobals "check_size" = some (some (.ref f5)))
    (l5 : K.lookup f5 = some ⟨oc5, od5, .func (PySem.W.fnOf "check_size" "check_size" (defArgs s_check_size) (defBody s_check_size) (defScope s_check_size) .none kV5 dc5 pm5 an5 cd5 ct5), sl5⟩)
    (c5 : PySem.W.codeIn K cd5 "check_size" = true)
    (k5 : PySem.W.keepIn K (.ref f5) = true)
    (a6 : PySem.W.nsIn K mainGlobals "count_by_spines" = some (some (.ref f6)))
    (l6 : K.lookup f6 = some ⟨oc6, od6, .func (PySem.W.fnOf "count_by_spines" "count_by_spines" (defArgs s_count_by_spines) (defBody s_count_by_spines) (defScope s_count_by_spines) .none kV6 dc6 pm6 an6 cd6 ct6), sl6⟩)
    (c6 : PySem.W.codeIn K cd6 "count_by_spines" = true)
    (k6 : PySem.W.keepIn K (.ref f6) = true)
    (a7 : PySem.W.nsIn K mainGlobals "count_orders" = some (some (.ref f7)))
    (l7 : K.lookup f7 = some ⟨oc7, od7, .func (PySem.W.fnOf "count_orders" "count_orders" (defArgs s_count_orders) (defBody s_count_orders) (defScope s_count_orders) .none kV7 dc7 pm7 an7 cd7 ct7), sl7⟩)
    (c7 : PySem.W.codeIn K cd7 "count_orders" = true)
    (k7 : PySem.W.keepIn K (.ref f7) = true)
    (a8 : PySem.W.nsIn K mainGlobals "shapes_over" = some (some (.ref f8)))
    (l8 : K.lookup f8 = some ⟨oc8, od8, .func (PySem.W.fnOf "shapes_over" "shapes_over" (defArgs s_shapes_over) (defBody s_shapes_over) (defScope s_shapes_over) .none kV8 dc8 pm8 an8 cd8 ct8), sl8⟩)
    (c8 : PySem.W.codeIn K cd8 "shapes_over" = true)
    (k8 : PySem.W.keepIn K (.ref f8) = true)
    (a9 : PySem.W.nsIn K mainGlobals "all_shapes" = some (some (.ref f9)))
    (l9 : K.lookup f9 = some ⟨oc9, od9, .func (PySem.W.fnOf "all_shapes" "all_shapes" (defArgs s_all_shapes) (defBody s_all_shapes) (defScope s_all_shapes) .none kV9 dc9 pm9 an9 cd9 ct9), sl9⟩)
    (c9 : PySem.W.codeIn K cd9 "all_shapes" = true)
    (k9 : PySem.W.keepIn K (.ref f9) = true)
    (a10 : PySem.W.nsIn K mainGlobals "_law_start" = some (some (.ref f10)))
    (l10 : K.lookup f10 = some ⟨oc10, od10, .func (PySem.W.fnOf "_law_start" "_law_start" (defArgs s__law_start) (defBody s__law_start) (defScope s__law_start) .none kV10 dc10 pm10 an10 cd10 ct10), sl10⟩)
    (c10 : PySem.W.codeIn K cd10 "_law_start" = true)
    (k10 : PySem.W.keepIn K (.ref f10) = true)
    (a11 : PySem.W.nsIn K mainGlobals "_law_take" = some (some (.ref f11)))
    (l11 : K.lookup f11 = some ⟨oc11, od11, .func (PySem.W.fnOf "_law_take" "_law_take" (defArgs s__law_take) (defBody s__law_take) (defScope s__law_take) .none kV11 dc11 pm11 an11 cd11 ct11), sl11⟩)
    (c11 : PySem.W.codeIn K cd11 "_law_take" = true)
    (k11 : PySem.W.keepIn K (.ref f11) = true)
    (a12 : PySem.W.nsIn K mainGlobals "_law_of" = some (some (.ref f12)))
    (l12 : K.lookup f12 = some ⟨oc12, od12, .func (PySem.W.fnOf "_law_of" "_law_of" (defArgs s__law_of) (defBody s__law_of) (defScope s__law_of) .none kV12 dc12 pm12 an12 cd12 ct12), sl12⟩)
    (c12 : PySem.W.codeIn K cd12 "_law_of" = true)
    (k12 : PySem.W.keepIn K (.ref f12) = true)
    (a13 : PySem.W.nsIn K mainGlobals "_law_shuffled" = some (some (.ref f13)))
    (l13 : K.lookup f13 = some ⟨oc13, od13, .func (PySem.W.fnOf "_law_shuffled" "_law_shuffled" (defArgs s__law_shuffled) (defBody s__law_shuffled) (defScope s__law_shuffled) .none kV13 dc13 pm13 an13 cd13 ct13), sl13⟩)
    (c13 : PySem.W.codeIn K cd13 "_law_shuffled" = true)
    (k13 : PySem.W.keepIn K (.ref f13) = true)
    (a14 : PySem.W.nsIn K mainGlobals "_law_same" = some (some (.ref f14)))
    (l14 : K.lookup f14 = some ⟨oc14, od14, .func (PySem.W.fnOf "_law_same" "_law_same" (defArgs s__law_same) (defBody s__law_same) (defScope s__law_same) .none kV14 dc14 pm14 an14 cd14 ct14), sl14⟩)
    (c14 : PySem.W.codeIn K cd14 "_law_same" = true)
    (k14 : PySem.W.keepIn K (.ref f14) = true)
    (a15 : PySem.W.nsIn K mainGlobals "_law_field" = some (some (.ref f15)))
    (l15 : K.lookup f15 = some ⟨oc15, od15, .func (PySem.W.fnOf "_law_field" "_law_field" (defArgs s__law_field) (defBody s__law_field) (defScope s__law_field) .none kV15 dc15 pm15 an15 cd15 ct15), sl15⟩)
    (c15 : PySem.W.codeIn K cd15 "_law_field" = true)
    (k15 : PySem.W.keepIn K (.ref f15) = true)
    (a16 : PySem.W.nsIn K mainGlobals "_law_outcome" = some (some (.ref f16)))
    (l16 : K.lookup f16 = some ⟨oc16, od16, .func (PySem.W.fnOf "_law_outcome" "_law_outcome" (defArgs s__law_outcome) (defBody s__law_outcome) (defScope s__law_outcome) .none kV16 dc16 pm16 an16 cd16 ct16), sl16⟩)
    (c16 : PySem.W.codeIn K cd16 "_law_outcome" = true)
    (k16 : PySem.W.keepIn K (.ref f16) = true)
    (a17 : PySem.W.nsIn K mainGlobals "_law_error" = some (some (.ref f17)))
    (l17 : K.lookup f17 = some ⟨oc17, od17, .func (PySem.W.fnOf "_law_error" "_law_error" (defArgs s__law_error) (defBody s__law_error) (defScope s__law_error) .none kV17 dc17 pm17 an17 cd17 ct17), sl17⟩)
    (c17 : PySem.W.codeIn K cd17 "_law_error" = true)
    (k17 : PySem.W.keepIn K (.ref f17) = true)
    (a18 : PySem.W.nsIn K mainGlobals "_law_keys" = some (some (.ref f18)))
    (l18 : K.lookup f18 = some ⟨oc18, od18, .func (PySem.W.fnOf "_law_keys" "_law_keys" (defArgs s__law_keys) (defBody s__law_keys) (defScope s__law_keys) .none kV18 dc18 pm18 an18 cd18 ct18), sl18⟩)
    (c18 : PySem.W.codeIn K cd18 "_law_keys" = true)
    (k18 : PySem.W.keepIn K (.ref f18) = true)
    (a19 : PySem.W.nsIn K mainGlobals "_law_size" = some (some (.ref f19)))
    (l19 : K.lookup f19 = some ⟨oc19, od19, .func (PySem.W.fnOf "_law_size" "_law_size" (defArgs s__law_size) (defBody s__law_size) (defScope s__law_size) .none kV19 dc19 pm19 an19 cd19 ct19), sl19⟩)
    (c19 : PySem.W.codeIn K cd19 "_law_size" = true)
    (k19 : PySem.W.keepIn K (.ref f19) = true)
    (a20 : PySem.W.nsIn K mainGlobals "_law_empty" = some (some (.ref f20)))
    (l20 : K.lookup f20 = some ⟨oc20, od20, .func (PySem.W.fnOf "_law_empty" "_law_empty" (defArgs s__law_empty) (defBody s__law_empty) (defScope s__law_empty) .none kV20 dc20 pm20 an20 cd20 ct20), sl20⟩)
    (c20 : PySem.W.codeIn K cd20 "_law_empty" = true)
    (k20 : PySem.W.keepIn K (.ref f20) = true)
    (a21 : PySem.W.nsIn K mainGlobals "_law_place" = some (some (.ref f21)))
    (l21 : K.lookup f21 = some ⟨oc21, od21, .func (PySem.W.fnOf "_law_place" "_law_place" (defArgs s__law_place) (defBody s__law_place) (defScope s__law_place) .none kV21 dc21 pm21 an21 cd21 ct21), sl21⟩)
    (c21 : PySem.W.codeIn K cd21 "_law_place" = true)
    (k21 : PySem.W.keepIn K (.ref f21) = true)
    (a22 : PySem.W.nsIn K mainGlobals "_law_tree" = some (some (.ref f22)))
    (l22 : K.lookup f22 = some ⟨oc22, od22, .func (PySem.W.fnOf "_law_tree" "_law_tree" (defArgs s__law_tree) (defBody s__law_tree) (defScope s__law_tree) .none kV22 dc22 pm22 an22 cd22 ct22), sl22⟩)
    (c22 : PySem.W.codeIn K cd22 "_law_tree" = true)
    (k22 : PySem.W.keepIn K (.ref f22) = true)
    (a23 : PySem.W.nsIn K mainGlobals "_law_shape" = some (some (.ref f23)))
    (l23 : K.lookup f23 = some ⟨oc23, od23, .func (PySem.W.fnOf "_law_shape" "_law_shape" (defArgs s__law_shape) (defBody s__law_shape) (defScope s__law_shape) .none kV23 dc23 pm23 an23 cd23 ct23), sl23⟩)
    (c23 : PySem.W.codeIn K cd23 "_law_shape" = true)
    (k23 : PySem.W.keepIn K (.ref f23) = true)
    (a24 : PySem.W.nsIn K mainGlobals "_law_some_shape" = some (some (.ref f24)))
    (l24 : K.lookup f24 = some ⟨oc24, od24, .func (PySem.W.fnOf "_law_some_shape" "_law_some_shape" (defArgs s__law_some_shape) (defBody s__law_some_shape) (defScope s__law_some_shape) .none kV24 dc24 pm24 an24 cd24 ct24), sl24⟩)
    (c24 : PySem.W.codeIn K cd24 "_law_some_shape" = true)
    (k24 : PySem.W.keepIn K (.ref f24) = true)
    (a25 : PySem.W.nsIn K mainGlobals "_law_all_shapes" = some (some (.ref f25)))
    (l25 : K.lookup f25 = some ⟨oc25, od25, .func (PySem.W.fnOf "_law_all_shapes" "_law_all_shapes" (defArgs s__law_all_shapes) (defBody s__law_all_shapes) (defScope s__law_all_shapes) .none kV25 dc25 pm25 an25 cd25 ct25), sl25⟩)
    (c25 : PySem.W.codeIn K cd25 "_law_all_shapes" = true)
    (k25 : PySem.W.keepIn K (.ref f25) = true)
    (a26 : PySem.W.nsIn K mainGlobals "_law_paired" = some (some (.ref f26)))
    (l26 : K.lookup f26 = some ⟨oc26, od26, .func (PySem.W.fnOf "_law_paired" "_law_paired" (defArgs s__law_paired) (defBody s__law_paired) (defScope s__law_paired) .none kV26 dc26 pm26 an26 cd26 ct26), sl26⟩)
    (c26 : PySem.W.codeIn K cd26 "_law_paired" = true)
    (k26 : PySem.W.keepIn K (.ref f26) = true)
    (a27 : PySem.W.nsIn K mainGlobals "_law_choose" = some (some (.ref f27)))
    (l27 : K.lookup f27 = some ⟨oc27, od27, .func (PySem.W.fnOf "_law_choose" "_law_choose" (defArgs s__law_choose) (defBody s__law_choose) (defScope s__law_choose) .none kV27 dc27 pm27 an27 cd27 ct27), sl27⟩)
    (c27 : PySem.W.codeIn K cd27 "_law_choose" = true)
    (k27 : PySem.W.keepIn K (.ref f27) = true)
    (a28 : PySem.W.nsIn K mainGlobals "_law_builds" = some (some (.ref f28)))
    (l28 : K.lookup f28 = some ⟨oc28, od28, .func (PySem.W.fnOf "_law_builds" "_law_builds" (defArgs s__law_builds) (defBody s__law_builds) (defScope s__law_builds) .none kV28 dc28 pm28 an28 cd28 ct28), sl28⟩)
    (c28 : PySem.W.codeIn K cd28 "_law_builds" = true)
    (k28 : PySem.W.keepIn K (.ref f28) = true)
    (a29 : PySem.W.nsIn K mainGlobals "_law_all_orders" = some (some (.ref f29)))
    (l29 : K.lookup f29 = some ⟨oc29, od29, .func (PySem.W.fnOf "_law_all_orders" "_law_all_orders" (defArgs s__law_all_orders) (defBody s__law_all_orders) (defScope s__law_all_orders) .none kV29 dc29 pm29 an29 cd29 ct29), sl29⟩)
    (c29 : PySem.W.codeIn K cd29 "_law_all_orders" = true)
    (k29 : PySem.W.keepIn K (.ref f29) = true)
    (a30 : PySem.W.nsIn K mainGlobals "law" = some (some (.ref f30)))
    (l30 : K.lookup f30 = some ⟨oc30, od30, .func (PySem.W.fnOf "law" "law" (defArgs s_law) (defBody s_law) (defScope s_law) .none kV30 dc30 pm30 an30 (.ref cl) ct30), sl30⟩)
    (c30 : PySem.W.codeIn K (.ref cl) "law" = true)
    (k30 : PySem.W.keepIn K (.ref f30) = true)
    (kcl : K.lookup cl = some ⟨ec, dcl, .fields vcl, slc⟩)
    (v11 : vcl[11]? = some (.ref PT))
    (hcd : PySem.W.codeHdIn K cl PT = true)
    (nPT : K.lookup PT = none)
    (b_all : PySem.W.nsIn K mainGlobals "all" = some none)
    (b_bool : PySem.W.nsIn K mainGlobals "bool" = some none)
    (b_enumerate : PySem.W.nsIn K mainGlobals "enumerate" = some none)
    (b_int : PySem.W.nsIn K mainGlobals "int" = some none)
    (b_isinstance : PySem.W.nsIn K mainGlobals "isinstance" = some none)
    (b_len : PySem.W.nsIn K mainGlobals "len" = some none)
    (b_list : PySem.W.nsIn K mainGlobals "list" = some none)
    (b_max : PySem.W.nsIn K mainGlobals "max" = some none)
    (b_min : PySem.W.nsIn K mainGlobals "min" = some none)
    (b_range : PySem.W.nsIn K mainGlobals "range" = some none)
    (b_sorted : PySem.W.nsIn K mainGlobals "sorted" = some none)
    (b_str : PySem.W.nsIn K mainGlobals "str" = some none)
    (b_tuple : PySem.W.nsIn K mainGlobals "tuple" = some none)
    (b_zip : PySem.W.nsIn K mainGlobals "zip" = some none)
    (b_ValueError : PySem.W.nsIn K mainGlobals "ValueError" = some none)
    (g_MAX_SIZE : PySem.W.nsIn K mainGlobals "MAX_SIZE" = some (some (.int 60 t_MAX_SIZE)))
    (g_MAX_LISTED : PySem.W.nsIn K mainGlobals "MAX_LISTED" = some (some (.int 8 t_MAX_LISTED)))
    (m_TreeError : PySem.W.nsIn K mainGlobals "TreeError" = some (some (.ref C_TreeError)))
    (m_Missing : PySem.W.nsIn K mainGlobals "Missing" = some (some (.ref C_Missing)))
    (m_TooManyKeys : PySem.W.nsIn K mainGlobals "TooManyKeys" = some (some (.ref C_TooManyKeys)))
    (m_BadSize : PySem.W.nsIn K mainGlobals "BadSize" = some (some (.ref C_BadSize)))
    (vV_TreeError : PySem.W.findCls K (.type "ValueError") (.type "type") "__init__" = some (.val (.builtin "ValueError.__init__")))
    (ga_TreeError : PySem.W.specialIn K (.ref C_TreeError) "__getattribute__" = some (some (.builtin "type.__getattribute__")))
    (rd_TreeError : PySem.W.readsIn K C_TreeError (.type "type") = true)
    (fc_TreeError : PySem.W.findCls K (.ref C_TreeError) (.type "type") "__init__" = some (.val (.ref i_TreeError)))
    (il_TreeError : K.lookup i_TreeError = some ⟨ioc_TreeError, iod_TreeError, .func (PySem.W.fnOf "__init__" "TreeError.__init__" (defArgs s_TreeError_init) (defBody s_TreeError_init) (defScope s_TreeError_init) .none ikV_TreeError idc_TreeError ipm_TreeError ian_TreeError icd_TreeError ict_TreeError), isl_TreeError⟩)
    (ic_TreeError : PySem.W.codeIn K icd_TreeError "TreeError.__init__" = true)
    (ik_TreeError : PySem.W.keepIn K (.ref i_TreeError) = true)
    (o_TooManyKeys : oexB K C_TooManyKeys = true)
    (sa_TooManyKeys : PySem.W.findIn K (.ref C_TooManyKeys) "__setattr__" = some (some (.builtin "object.__setattr__")))
    (ex_TooManyKeys : PySem.W.subIn K (.ref C_TooManyKeys) (.type "BaseException") = some true)
    (ty_TooManyKeys : PySem.W.typeIn K (.ref C_TooManyKeys) = some (.type "type"))
    (kp_TooManyKeys : PySem.W.keepIn K (.ref C_TooManyKeys) = true)
    (fi_TooManyKeys : PySem.W.findIn K (.ref C_TooManyKeys) "__init__" = some (some (.ref i_TooManyKeys)))
    (ti_TooManyKeys : PySem.W.typeIn K (.ref i_TooManyKeys) = some (.type "function"))
    (il_TooManyKeys : K.lookup i_TooManyKeys = some ⟨ioc_TooManyKeys, iod_TooManyKeys, .func (PySem.W.fnOf "__init__" "TooManyKeys.__init__" (defArgs s_TooManyKeys_init) (defBody s_TooManyKeys_init) (defScope s_TooManyKeys_init) .none ikV_TooManyKeys idc_TooManyKeys ipm_TooManyKeys ian_TooManyKeys icd_TooManyKeys ict_TooManyKeys), isl_TooManyKeys⟩)
    (ic_TooManyKeys : PySem.W.codeIn K icd_TooManyKeys "TooManyKeys.__init__" = true)
    (ik_TooManyKeys : PySem.W.keepIn K (.ref i_TooManyKeys) = true)
    (xf_TooManyKeys : xfB K C_TooManyKeys = true)
    (ft_TooManyKeys : PySem.W.findIn K (.ref C_TooManyKeys) "tag" = some none)
    (ff_TooManyKeys : PySem.W.findIn K (.ref C_TooManyKeys) "limit" = some none)
    (n_TooManyKeys : PySem.W.exmAny K (.ref C_TooManyKeys) [.ref C_TreeError, .ref C_Missing] = some true)
    (o_BadSize : oexB K C_BadSize = true)
    (sa_BadSize : PySem.W.findIn K (.ref C_BadSize) "__setattr__" = some (some (.builtin "object.__setattr__")))
    (ex_BadSize : PySem.W.subIn K (.ref C_BadSize) (.type "BaseException") = some true)
    (ty_BadSize : PySem.W.typeIn K (.ref C_BadSize) = some (.type "type"))
    (kp_BadSize : PySem.W.keepIn K (.ref C_BadSize) = true)
    (fi_BadSize : PySem.W.findIn K (.ref C_BadSize) "__init__" = some (some (.ref i_BadSize)))
    (ti_BadSize : PySem.W.typeIn K (.ref i_BadSize) = some (.type "function"))
    (il_BadSize : K.lookup i_BadSize = some ⟨ioc_BadSize, iod_BadSize, .func (PySem.W.fnOf "__init__" "BadSize.__init__" (defArgs s_BadSize_init) (defBody s_BadSize_init) (defScope s_BadSize_init) .none ikV_BadSize idc_BadSize ipm_BadSize ian_BadSize icd_BadSize ict_BadSize), isl_BadSize⟩)
    (ic_BadSize : PySem.W.codeIn K icd_BadSize "BadSize.__init__" = true)
    (ik_BadSize : PySem.W.keepIn K (.ref i_BadSize) = true)
    (xf_BadSize : xfB K C_BadSize = true)
    (ft_BadSize : PySem.W.findIn K (.ref C_BadSize) "tag" = some none)
    (ff_BadSize : PySem.W.findIn K (.ref C_BadSize) "size" = some none)
    (n_BadSize : PySem.W.exmAny K (.ref C_BadSize) [.ref C_TreeError, .ref C_Missing] = some true) :
    LamX.LawAtS l w K CX0 47 63 "_law_script" mg fa h := by
  have e := hfa.symm.trans (PySem.W.mg_of X G a30)
  cases e
  have B : Blt mg := ⟨PySem.W.mg_none_of X G b_all, PySem.W.mg_none_of X G b_bool, PySem.W.mg_none_of X G b_enumerate, PySem.W.mg_none_of X G b_int, PySem.W.mg_none_of X G b_isinstance, PySem.W.mg_none_of X G b_len, PySem.W.mg_none_of X G b_list, PySem.W.mg_none_of X G b_max, PySem.W.mg_none_of X G b_min, PySem.W.mg_none_of X G b_range, PySem.W.mg_none_of X G b_sorted, PySem.W.mg_none_of X G b_str, PySem.W.mg_none_of X G b_tuple, PySem.W.mg_none_of X G b_zip⟩
  have Gc : Cst mg := ⟨⟨_, PySem.W.mg_of X G g_MAX_SIZE⟩, ⟨_, PySem.W.mg_of X G g_MAX_LISTED⟩⟩
  refine ⟨PySem.W.fnOf "law" "law" (defArgs s_law) (defBody s_law) (defScope s_law) .none kV30 dc30 pm30 an30 (.ref cl) ct30, [(cl, PT)], spLawT K PT, fun p hp => ?_, fun p hp => ?_, fun p hp => ?_, fun s v => .of_eq rfl, fun H a ns hl _ hT hS => ?_, fun base _ _ hB => ?_⟩
  · rw [List.mem_singleton.mp hp]; exact own cl PT _ _ _ _ _ _ l30 rfl rfl kcl v11
  · rw [List.mem_singleton.mp hp]; exact nPT
  · rw [List.mem_singleton.mp hp]; exact PySem.W.codeHd_of_K X hcd
  · exact ⟨a, ns, rfl, hS, hl, hT (cl, PT) (List.mem_singleton.mpr rfl), fun _ => rfl⟩
  have mS_TreeError := PySem.W.mg_of X G m_TreeError
  have F_TreeError := fun_mk (st := s_TreeError_init) il_TreeError ic_TreeError ik_TreeError
  have b_STreeError := F_TreeError.binds (ps := ["self", "tag", "told"]) fun _ _ _ _ _ _ us hl => match us, hl with | [_, _, _], _ => rfl
  have O_TreeError : FnOk l.prog w K mg base CX0 1 i_TreeError _ ["self", "tag", "told"] (spTreeI K) := ok_TreeI F_TreeError (PySem.W.mg_none_of X G b_ValueError) vV_TreeError
  have mS_Missing := PySem.W.mg_of X G m_Missing
  have F_TooManyKeys := fun_mk (st := s_TooManyKeys_init) il_TooManyKeys ic_TooManyKeys ik_TooManyKeys
  have b_TooManyKeys := F_TooManyKeys.binds (ps := ["self", "limit"]) fun _ _ _ _ _ _ us hl => match us, hl with | [_, _], _ => rfl
  have T_TooManyKeys : OexC K C_TooManyKeys := ⟨oexB_cls o_TooManyKeys, sa_TooManyKeys, ex_TooManyKeys, ty_TooManyKeys, kp_TooManyKeys⟩
  have x_TooManyKeys : MkE l.prog w K mg base "TooManyKeys" ["self", "limit"] 2 C_TooManyKeys (spOwnI K "TooManyKeys" "limit") := ⟨T_TooManyKeys, _, _, fi_TooManyKeys, ti_TooManyKeys, ok_TooManyKeysI F_TooManyKeys O_TreeError b_STreeError ik_TreeError mS_TreeError ⟨ga_TreeError, rd_TreeError, fc_TreeError, rfl⟩, b_TooManyKeys, PySem.W.mg_of X G m_TooManyKeys⟩
  have F_BadSize := fun_mk (st := s_BadSize_init) il_BadSize ic_BadSize ik_BadSize
  have b_BadSize := F_BadSize.binds (ps := ["self", "size"]) fun _ _ _ _ _ _ us hl => match us, hl with | [_, _], _ => rfl
  have T_BadSize : OexC K C_BadSize := ⟨oexB_cls o_BadSize, sa_BadSize, ex_BadSize, ty_BadSize, kp_BadSize⟩
  have x_BadSize : MkE l.prog w K mg base "BadSize" ["self", "size"] 2 C_BadSize (spOwnI K "BadSize" "size") := ⟨T_BadSize, _, _, fi_BadSize, ti_BadSize, ok_BadSizeI F_BadSize O_TreeError b_STreeError ik_TreeError mS_TreeError ⟨ga_TreeError, rd_TreeError, fc_TreeError, rfl⟩, b_BadSize, PySem.W.mg_of X G m_BadSize⟩
  have F_restrict : FunD K "restrict" "restrict" (defArgs s_restrict) (defBody s_restrict) (defScope s_restrict) [] [("low", .non), ("high", .non)] f0 _ := ⟨⟨_, _, _, _, _, _, _, _, _, _, rfl, l0, c0, .inl ⟨rfl, rfl⟩, .inr ⟨D0, rfl, fun q hq => by
    rcases List.mem_cons.mp hq with rfl | hq
    · exact ⟨_, w0_0, rfl⟩
    · rw [List.mem_singleton.mp hq]
      exact ⟨_, w0_1, rfl⟩⟩⟩, k0⟩
  have O_restrict : FnOk l.prog w K mg base CX0 1 f0 _ ["shape", "low", "high"] (spRestrict K) := ok_restrict F_restrict B
  have g_restrict := PySem.W.mg_of X G a0
  obtain ⟨mv_restrict_high, kb_restrict_high⟩ := FunD.kbinds0 (ps := ["shape", "low", "high"]) F_restrict 1 ["high"] [("low", .non)] (fun vs mz zs => vs ++ mz ++ zs) (by simp) (by simp) (fun a b c => (a.append b).append c) (by
    intro D doc pm an cdv ct us mv ws h1 h2 h3
    match us, mv, ws, h1, h2, h3 with
    | [_], [_], [_], _, _, _ => exact ⟨_, _, _, _, _, _, rfl, rfl, rfl⟩)
  have n_restrict_high : CalN l.prog w K mg base CX0 "restrict" 1 ["high"] 1 (spRestrict K) (fun vs zs => vs ++ [.non] ++ zs) := ⟨_, _, _, _, O_restrict, g_restrict, k0, kb_restrict_high⟩
  obtain ⟨mv_restrict_low, kb_restrict_low⟩ := FunD.kbinds0 (ps := ["shape", "low", "high"]) F_restrict 1 ["low"] [("high", .non)] (fun vs mz zs => vs ++ zs ++ mz) (by simp) (by simp) (fun a b c => (a.append c).append b) (by
    intro D doc pm an cdv ct us mv ws h1 h2 h3
    match us, mv, ws, h1, h2, h3 with
    | [_], [_], [_], _, _, _ => exact ⟨_, _, _, _, _, _, rfl, rfl, rfl⟩)
  have n_restrict_low : CalN l.prog w K mg base CX0 "restrict" 1 ["low"] 1 (spRestrict K) (fun vs zs => vs ++ zs ++ [.non]) := ⟨_, _, _, _, O_restrict, g_restrict, k0, kb_restrict_low⟩
  obtain ⟨mv_restrict_low_high, kb_restrict_low_high⟩ := FunD.kbinds0 (ps := ["shape", "low", "high"]) F_restrict 1 ["low", "high"] [] (fun vs mz zs => vs ++ zs ++ mz) (by simp) (by simp) (fun a b c => (a.append c).append b) (by
    intro D doc pm an cdv ct us mv ws h1 h2 h3
    match us, mv, ws, h1, h2, h3 with
    | [_], [], [_, _], _, _, _ => exact rfl)
  have n_restrict_low_high : CalN l.prog w K mg base CX0 "restrict" 1 ["low", "high"] 1 (spRestrict K) (fun vs zs => vs ++ zs) := ⟨_, _, _, _, O_restrict, g_restrict, k0, by simpa using kb_restrict_low_high⟩
  have F_parts_of := fun_mk (st := s_parts_of) l1 c1 k1
  have b_parts_of := F_parts_of.binds (ps := ["shape"]) fun _ _ _ _ _ _ us hl => match us, hl with | [_], _ => rfl
  have g_parts_of := PySem.W.mg_of X G a1
  have O_parts_of : FnOk l.prog w K mg base CX0 2 f1 _ ["shape"] (spParts K) := ok_parts (k := 1) F_parts_of (n_restrict_high.mono (show 1 ≤ 1 by decide)) (n_restrict_low.mono (show 1 ≤ 1 by decide)) 
  have c_parts_of : Cal l.prog w K mg base CX0 "parts_of" ["shape"] 2 (spParts K) := ⟨_, _, O_parts_of, g_parts_of, F_parts_of.kp, b_parts_of⟩
  have F_search_path := fun_mk (st := s_search_path) l2 c2 k2
  have b_search_path := F_search_path.binds (ps := ["shape", "key"]) fun _ _ _ _ _ _ us hl => match us, hl with | [_, _], _ => rfl
  have g_search_path := PySem.W.mg_of X G a2
  have O_search_path : FnOk l.prog w K mg base CX0 3 f2 _ ["shape", "key"] (spSearch K) := ok_search (k := 2) F_search_path (c_parts_of.mono (show 2 ≤ 2 by decide)) 
  have c_search_path : Cal l.prog w K mg base CX0 "search_path" ["shape", "key"] 3 (spSearch K) := ⟨_, _, O_search_path, g_search_path, F_search_path.kp, b_search_path⟩
  have F_spine_lengths := fun_mk (st := s_spine_lengths) l3 c3 k3
  have b_spine_lengths := F_spine_lengths.binds (ps := ["shape"]) fun _ _ _ _ _ _ us hl => match us, hl with | [_], _ => rfl
  have g_spine_lengths := PySem.W.mg_of X G a3
  have O_spine_lengths : FnOk l.prog w K mg base CX0 4 f3 _ ["shape"] (spSpL K) := ok_spl (k := 3) F_spine_lengths B (c_search_path.mono (show 3 ≤ 3 by decide)) 
  have c_spine_lengths : Cal l.prog w K mg base CX0 "spine_lengths" ["shape"] 4 (spSpL K) := ⟨_, _, O_spine_lengths, g_spine_lengths, F_spine_lengths.kp, b_spine_lengths⟩
  have F_binomial := fun_mk (st := s_binomial) l4 c4 k4
  have b_binomial := F_binomial.binds (ps := ["size", "chosen"]) fun _ _ _ _ _ _ us hl => match us, hl with | [_, _], _ => rfl
  have g_binomial := PySem.W.mg_of X G a4
  have O_binomial : FnOk l.prog w K mg base CX0 1 f4 _ ["size", "chosen"] spBinW := ok_binW (k := 0) F_binomial B  
  have cW_binomial : Cal l.prog w K mg base CX0 "binomial" ["size", "chosen"] 1 spBinW := ⟨_, _, O_binomial, g_binomial, F_binomial.kp, b_binomial⟩
  have c_binomial : Cal l.prog w K mg base CX0 "binomial" ["size", "chosen"] 1 spBin := cW_binomial.imp spBin_W
  have F_check_size := fun_mk (st := s_check_size) l5 c5 k5
  have b_check_size := F_check_size.binds (ps := ["size"]) fun _ _ _ _ _ _ us hl => match us, hl with | [_], _ => rfl
  have g_check_size := PySem.W.mg_of X G a5
  have O_check_size : FnOk l.prog w K mg base (L2N.CX l.prog w) 4 f5 _ ["size"] (spSizeX C_BadSize) := ok_sizeX (k := 2) F_check_size Gc  (x_BadSize.mono (by decide)) ft_BadSize ff_BadSize
  have c_check_size : Cal l.prog w K mg base (L2N.CX l.prog w) "check_size" ["size"] 4 (spSizeX C_BadSize) := ⟨_, _, O_check_size, g_check_size, F_check_size.kp, b_check_size⟩
  have F_count_by_spines := fun_mk (st := s_count_by_spines) l6 c6 k6
  have b_count_by_spines := F_count_by_spines.binds (ps := ["size", "left", "right"]) fun _ _ _ _ _ _ us hl => match us, hl with | [_, _, _], _ => rfl
  have g_count_by_spines := PySem.W.mg_of X G a6
  have O_count_by_spines : FnOk l.prog w K mg base (L2N.CX l.prog w) 5 f6 _ ["size", "left", "right"] (spCbs C_BadSize) := ok_cbs (k := 4) F_count_by_spines (c_check_size.mono (show 4 ≤ 4 by decide)) (cW_binomial.mono (show 1 ≤ 4 by decide)) 
  have c_count_by_spines : Cal l.prog w K mg base (L2N.CX l.prog w) "count_by_spines" ["size", "left", "right"] 5 (spCbs C_BadSize) := ⟨_, _, O_count_by_spines, g_count_by_spines, F_count_by_spines.kp, b_count_by_spines⟩
  have F_count_orders := fun_mk (st := s_count_orders) l7 c7 k7
  have b_count_orders := F_count_orders.binds (ps := ["shape"]) fun _ _ _ _ _ _ us hl => match us, hl with | [_], _ => rfl
  have g_count_orders := PySem.W.mg_of X G a7
  have c_count_orders : Cal l.prog w K mg base CX0 "count_orders" ["shape"] 43 (spCntO K 41) := ⟨_, _, ok_cntO (k := 2) F_count_orders B (c_parts_of.mono (show 2 ≤ 2 by decide)) (c_binomial.mono (show 1 ≤ 2 by decide)) g_count_orders b_count_orders 41, g_count_orders, F_count_orders.kp, b_count_orders⟩
  have n_count_orders_shape : CalN l.prog w K mg base CX0 "count_orders" 0 ["shape"] 43 (spCntO K 41) (fun _ zs => zs) := ⟨_, _, ["shape"], fun _ zs => zs, ok_cntO (k := 2) F_count_orders B (c_parts_of.mono (show 2 ≤ 2 by decide)) (c_binomial.mono (show 1 ≤ 2 by decide)) g_count_orders b_count_orders 41, g_count_orders, F_count_orders.kp, ⟨fun s us ws _ l1 l2 => match us, ws, l1, l2 with | [], [_], _, _ => .of_eq rfl, fun _ r => r⟩⟩
  have F_shapes_over := fun_mk (st := s_shapes_over) l8 c8 k8
  have b_shapes_over := F_shapes_over.binds (ps := ["keys"]) fun _ _ _ _ _ _ us hl => match us, hl with | [_], _ => rfl
  have g_shapes_over := PySem.W.mg_of X G a8
  have c_shapes_over : Cal l.prog w K mg base CX0 "shapes_over" ["keys"] 9 (spShO K 9) := ⟨_, _, ok_shO (k := 0) F_shapes_over B  g_shapes_over b_shapes_over 9, g_shapes_over, F_shapes_over.kp, b_shapes_over⟩
  have F_all_shapes := fun_mk (st := s_all_shapes) l9 c9 k9
  have b_all_shapes := F_all_shapes.binds (ps := ["keys"]) fun _ _ _ _ _ _ us hl => match us, hl with | [_], _ => rfl
  have g_all_shapes := PySem.W.mg_of X G a9
  have O_all_shapes : FnOk l.prog w K mg base (L2N.CX l.prog w) 11 f9 _ ["keys"] (spAllX K C_TooManyKeys) := ok_allX (k := 9) F_all_shapes B Gc (c_shapes_over.mono (show 9 ≤ 9 by decide)) (x_TooManyKeys.mono (by decide)) ft_TooManyKeys ff_TooManyKeys
  have c_all_shapes : Cal l.prog w K mg base (L2N.CX l.prog w) "all_shapes" ["keys"] 11 (spAllX K C_TooManyKeys) := ⟨_, _, O_all_shapes, g_all_shapes, F_all_shapes.kp, b_all_shapes⟩
  have n_all_shapes_keys : CalN l.prog w K mg base (L2N.CX l.prog w) "all_shapes" 0 ["keys"] 11 (spAllX K C_TooManyKeys) (fun _ zs => zs) := ⟨_, _, ["keys"], fun _ zs => zs, O_all_shapes, g_all_shapes, F_all_shapes.kp, ⟨fun s us ws _ l1 l2 => match us, ws, l1, l2 with | [], [_], _, _ => .of_eq rfl, fun _ r => r⟩⟩
  have F__law_start := fun_mk (st := s__law_start) l10 c10 k10
  have b__law_start := F__law_start.binds (ps := ["_law_script"]) fun _ _ _ _ _ _ us hl => match us, hl with | [_], _ => rfl
  have g__law_start := PySem.W.mg_of X G a10
  have O__law_start : FnOk l.prog w K mg base CX0 1 f10 _ ["_law_script"] (spStart K) := ok_start (k := 0) F__law_start B  
  have c__law_start : Cal l.prog w K mg base CX0 "_law_start" ["_law_script"] 1 (spStart K) := ⟨_, _, O__law_start, g__law_start, F__law_start.kp, b__law_start⟩
  have F__law_take := fun_mk (st := s__law_take) l11 c11 k11
  have b__law_take := F__law_take.binds (ps := ["_law_draw", "_law_many"]) fun _ _ _ _ _ _ us hl => match us, hl with | [_, _], _ => rfl
  have g__law_take := PySem.W.mg_of X G a11
  have O__law_take : FnOk l.prog w K mg base CX0 1 f11 _ ["_law_draw", "_law_many"] spTake := ok_take (k := 0) F__law_take B  
  have c__law_take : Cal l.prog w K mg base CX0 "_law_take" ["_law_draw", "_law_many"] 1 spTake := ⟨_, _, O__law_take, g__law_take, F__law_take.kp, b__law_take⟩
  have F__law_of := fun_mk (st := s__law_of) l12 c12 k12
  have b__law_of := F__law_of.binds (ps := ["_law_draw", "_law_some"]) fun _ _ _ _ _ _ us hl => match us, hl with | [_, _], _ => rfl
  have g__law_of := PySem.W.mg_of X G a12
  have O__law_of : FnOk l.prog w K mg base CX0 2 f12 _ ["_law_draw", "_law_some"] (spOf K) := ok_of (k := 1) F__law_of B (c__law_take.mono (show 1 ≤ 1 by decide)) 
  have c__law_of : Cal l.prog w K mg base CX0 "_law_of" ["_law_draw", "_law_some"] 2 (spOf K) := ⟨_, _, O__law_of, g__law_of, F__law_of.kp, b__law_of⟩
  have F__law_shuffled := fun_mk (st := s__law_shuffled) l13 c13 k13
  have b__law_shuffled := F__law_shuffled.binds (ps := ["_law_draw", "_law_some"]) fun _ _ _ _ _ _ us hl => match us, hl with | [_, _], _ => rfl
  have g__law_shuffled := PySem.W.mg_of X G a13
  have O__law_shuffled : FnOk l.prog w K mg base CX0 2 f13 _ ["_law_draw", "_law_some"] (spShuf K) := ok_shuf (k := 1) F__law_shuffled B (c__law_take.mono (show 1 ≤ 1 by decide)) 
  have c__law_shuffled : Cal l.prog w K mg base CX0 "_law_shuffled" ["_law_draw", "_law_some"] 2 (spShuf K) := ⟨_, _, O__law_shuffled, g__law_shuffled, F__law_shuffled.kp, b__law_shuffled⟩
  have F__law_same := fun_mk (st := s__law_same) l14 c14 k14
  have b__law_same := F__law_same.binds (ps := ["_law_found", "_law_due"]) fun _ _ _ _ _ _ us hl => match us, hl with | [_, _], _ => rfl
  have g__law_same := PySem.W.mg_of X G a14
  have c__law_same : Cal l.prog w K mg base CX0 "_law_same" ["_law_found", "_law_due"] 3 (spSameW 2) := ⟨_, _, ok_same F__law_same B g__law_same b__law_same 3, g__law_same, F__law_same.kp, b__law_same⟩
  have F__law_field := fun_mk (st := s__law_field) l15 c15 k15
  have b__law_field := F__law_field.binds (ps := ["_law_e"]) fun _ _ _ _ _ _ us hl => match us, hl with | [_], _ => rfl
  have g__law_field := PySem.W.mg_of X G a15
  have c_field : CalE l.prog w K mg base "_law_field" ["_law_e"] 1 (spField K) := ⟨⟨_, _, ok_field (k := 0) F__law_field  , g__law_field, F__law_field.kp, b__law_field⟩⟩
  have F__law_outcome := fun_mk (st := s__law_outcome) l16 c16 k16
  have b__law_outcome := F__law_outcome.binds (ps := ["_law_ask"]) fun _ _ _ _ _ _ us hl => match us, hl with | [_], _ => rfl
  have g__law_outcome := PySem.W.mg_of X G a16
  have F__law_error := fun_mk (st := s__law_error) l17 c17 k17
  have b__law_error := F__law_error.binds (ps := ["_law_ask"]) fun _ _ _ _ _ _ us hl => match us, hl with | [_], _ => rfl
  have g__law_error := PySem.W.mg_of X G a17
  have F__law_keys := fun_mk (st := s__law_keys) l18 c18 k18
  have b__law_keys := F__law_keys.binds (ps := ["_law_draw", "_law_many"]) fun _ _ _ _ _ _ us hl => match us, hl with | [_, _], _ => rfl
  have g__law_keys := PySem.W.mg_of X G a18
  have O__law_keys : FnOk l.prog w K mg base CX0 3 f18 _ ["_law_draw", "_law_many"] spKeys := ok_keys (k := 2) F__law_keys B (c__law_take.mono (show 1 ≤ 2 by decide)) (c__law_of.mono (show 2 ≤ 2 by decide)) 
  have c__law_keys : Cal l.prog w K mg base CX0 "_law_keys" ["_law_draw", "_law_many"] 3 spKeys := ⟨_, _, O__law_keys, g__law_keys, F__law_keys.kp, b__law_keys⟩
  have F__law_size := fun_mk (st := s__law_size) l19 c19 k19
  have b__law_size := F__law_size.binds (ps := ["_law_draw", "_law_most"]) fun _ _ _ _ _ _ us hl => match us, hl with | [_, _], _ => rfl
  have g__law_size := PySem.W.mg_of X G a19
  have O__law_size : FnOk l.prog w K mg base CX0 3 f19 _ ["_law_draw", "_law_most"] spSize := ok_size (k := 2) F__law_size B (c__law_take.mono (show 1 ≤ 2 by decide)) (c__law_of.mono (show 2 ≤ 2 by decide)) 
  have c__law_size : Cal l.prog w K mg base CX0 "_law_size" ["_law_draw", "_law_most"] 3 spSize := ⟨_, _, O__law_size, g__law_size, F__law_size.kp, b__law_size⟩
  have F__law_empty := fun_mk (st := s__law_empty) l20 c20 k20
  have b__law_empty := F__law_empty.binds (ps := []) fun _ _ _ _ _ _ us hl => match us, hl with | [], _ => rfl
  have g__law_empty := PySem.W.mg_of X G a20
  have O__law_empty : FnOk l.prog w K mg base CX0 1 f20 _ [] spEmpty := ok_empty (k := 0) F__law_empty  
  have c__law_empty : Cal l.prog w K mg base CX0 "_law_empty" [] 1 spEmpty := ⟨_, _, O__law_empty, g__law_empty, F__law_empty.kp, b__law_empty⟩
  have F__law_place := fun_mk (st := s__law_place) l21 c21 k21
  have b__law_place := F__law_place.binds (ps := ["_law_m", "_law_key"]) fun _ _ _ _ _ _ us hl => match us, hl with | [_, _], _ => rfl
  have g__law_place := PySem.W.mg_of X G a21
  have O__law_place : FnOk l.prog w K mg base CX0 1 f21 _ ["_law_m", "_law_key"] spPlace := ok_place (k := 0) F__law_place B  
  have c__law_place : Cal l.prog w K mg base CX0 "_law_place" ["_law_m", "_law_key"] 1 spPlace := ⟨_, _, O__law_place, g__law_place, F__law_place.kp, b__law_place⟩
  have F__law_tree := fun_mk (st := s__law_tree) l22 c22 k22
  have b__law_tree := F__law_tree.binds (ps := ["_law_order"]) fun _ _ _ _ _ _ us hl => match us, hl with | [_], _ => rfl
  have g__law_tree := PySem.W.mg_of X G a22
  have O__law_tree : FnOk l.prog w K mg base CX0 2 f22 _ ["_law_order"] (spTree K) := ok_tree (k := 1) F__law_tree (c__law_empty.mono (show 1 ≤ 1 by decide)) (c__law_place.mono (show 1 ≤ 1 by decide)) 
  have c__law_tree : Cal l.prog w K mg base CX0 "_law_tree" ["_law_order"] 2 (spTree K) := ⟨_, _, O__law_tree, g__law_tree, F__law_tree.kp, b__law_tree⟩
  have F__law_shape := fun_mk (st := s__law_shape) l23 c23 k23
  have b__law_shape := F__law_shape.binds (ps := ["_law_m"]) fun _ _ _ _ _ _ us hl => match us, hl with | [_], _ => rfl
  have g__law_shape := PySem.W.mg_of X G a23
  have O__law_shape : FnOk l.prog w K mg base CX0 1 f23 _ ["_law_m"] spShape := ok_shape (k := 0) F__law_shape B  
  have c__law_shape : Cal l.prog w K mg base CX0 "_law_shape" ["_law_m"] 1 spShape := ⟨_, _, O__law_shape, g__law_shape, F__law_shape.kp, b__law_shape⟩
  have F__law_some_shape := fun_mk (st := s__law_some_shape) l24 c24 k24
  have b__law_some_shape := F__law_some_shape.binds (ps := ["_law_draw", "_law_keys_in"]) fun _ _ _ _ _ _ us hl => match us, hl with | [_, _], _ => rfl
  have g__law_some_shape := PySem.W.mg_of X G a24
  have O__law_some_shape : FnOk l.prog w K mg base CX0 3 f24 _ ["_law_draw", "_law_keys_in"] (spSome K) := ok_some (k := 2) F__law_some_shape B (c__law_take.mono (show 1 ≤ 2 by decide)) (c__law_shuffled.mono (show 2 ≤ 2 by decide)) (c__law_tree.mono (show 2 ≤ 2 by decide)) (c__law_shape.mono (show 1 ≤ 2 by decide)) 
  have c__law_some_shape : Cal l.prog w K mg base CX0 "_law_some_shape" ["_law_draw", "_law_keys_in"] 3 (spSome K) := ⟨_, _, O__law_some_shape, g__law_some_shape, F__law_some_shape.kp, b__law_some_shape⟩
  have F__law_paired := fun_mk (st := s__law_paired) l26 c26 k26
  have b__law_paired := F__law_paired.binds (ps := ["_law_low", "_law_lefts", "_law_rights"]) fun _ _ _ _ _ _ us hl => match us, hl with | [_, _, _], _ => rfl
  have g__law_paired := PySem.W.mg_of X G a26
  have O__law_paired : FnOk l.prog w K mg base CX0 1 f26 _ ["_law_low", "_law_lefts", "_law_rights"] (spPaired K) := ok_paired (k := 0) F__law_paired B  
  have c__law_paired : Cal l.prog w K mg base CX0 "_law_paired" ["_law_low", "_law_lefts", "_law_rights"] 1 (spPaired K) := ⟨_, _, O__law_paired, g__law_paired, F__law_paired.kp, b__law_paired⟩
  have F__law_all_shapes := fun_mk (st := s__law_all_shapes) l25 c25 k25
  have b__law_all_shapes := F__law_all_shapes.binds (ps := ["_law_keys_in"]) fun _ _ _ _ _ _ us hl => match us, hl with | [_], _ => rfl
  have g__law_all_shapes := PySem.W.mg_of X G a25
  have O__law_all_shapes : FnOk l.prog w K mg base CX0 2 f25 _ ["_law_keys_in"] (spAllSh K) := ok_allSh (k := 1) F__law_all_shapes B (c__law_paired.mono (show 1 ≤ 1 by decide)) 
  have c__law_all_shapes : Cal l.prog w K mg base CX0 "_law_all_shapes" ["_law_keys_in"] 2 (spAllSh K) := ⟨_, _, O__law_all_shapes, g__law_all_shapes, F__law_all_shapes.kp, b__law_all_shapes⟩
  have F__law_choose := fun_mk (st := s__law_choose) l27 c27 k27
  have b__law_choose := F__law_choose.binds (ps := ["_law_size_here", "_law_chosen"]) fun _ _ _ _ _ _ us hl => match us, hl with | [_, _], _ => rfl
  have g__law_choose := PySem.W.mg_of X G a27
  have O__law_choose : FnOk l.prog w K mg base CX0 1 f27 _ ["_law_size_here", "_law_chosen"] spBin := ok_choose (k := 0) F__law_choose B  
  have c__law_choose : Cal l.prog w K mg base CX0 "_law_choose" ["_law_size_here", "_law_chosen"] 1 spBin := ⟨_, _, O__law_choose, g__law_choose, F__law_choose.kp, b__law_choose⟩
  have F__law_builds := fun_mk (st := s__law_builds) l28 c28 k28
  have b__law_builds := F__law_builds.binds (ps := ["_law_order"]) fun _ _ _ _ _ _ us hl => match us, hl with | [_], _ => rfl
  have g__law_builds := PySem.W.mg_of X G a28
  have c__law_builds : Cal l.prog w K mg base CX0 "_law_builds" ["_law_order"] 42 (spBuildsQ K 41) := ⟨_, _, ok_builds (k := 1) F__law_builds B (c__law_choose.mono (show 1 ≤ 1 by decide)) g__law_builds b__law_builds 41, g__law_builds, F__law_builds.kp, b__law_builds⟩
  have F__law_all_orders := fun_mk (st := s__law_all_orders) l29 c29 k29
  have b__law_all_orders := F__law_all_orders.binds (ps := ["_law_some"]) fun _ _ _ _ _ _ us hl => match us, hl with | [_], _ => rfl
  have g__law_all_orders := PySem.W.mg_of X G a29
  have O__law_all_orders : FnOk l.prog w K mg base CX0 1 f29 _ ["_law_some"] (spAllOrd5 K) := ok_allOrd5 (k := 0) F__law_all_orders B  
  have c__law_all_orders : Cal l.prog w K mg base CX0 "_law_all_orders" ["_law_some"] 1 (spAllOrd5 K) := ⟨_, _, O__law_all_orders, g__law_all_orders, F__law_all_orders.kp, b__law_all_orders⟩
  exact ok_law (k := 43) l30 c30 (hB (cl, PT) (List.mem_singleton.mpr rfl)) B F__law_outcome g__law_outcome F__law_error g__law_error (c_field.mono (by decide)) mS_TreeError mS_Missing n_TooManyKeys (xfB_ok xf_TooManyKeys) ft_TooManyKeys ff_TooManyKeys Gc (c__law_start.mono (by decide)) (c__law_of.mono (by decide)) (c__law_take.mono (by decide)) (c__law_size.mono (by decide)) (c__law_keys.mono (by decide)) (c__law_tree.mono (by decide)) (c__law_shape.mono (by decide)) (c__law_some_shape.mono (by decide)) (c__law_same.mono (by decide)) (c__law_all_shapes.mono (by decide)) (c__law_all_orders.mono (by decide)) (c__law_builds.mono (by decide)) (c_spine_lengths.mono (by decide)) (c_count_by_spines.mono (by decide)) (c_count_orders.mono (by decide)) (n_count_orders_shape.mono (by decide)) (c_all_shapes.mono (by decide)) (n_all_shapes_keys.mono (by decide))
end TT
open PySem PySem.W PyProof.Rows
set_option maxHeartbeats 0 in
theorem PySem.Challenge.cw_touchtrees_k32_lists_of_shapes_and_order_holds : PySem.Challenge.rw_touchtrees_k32_lists_of_shapes_and_order.Holds := by
  w_on; o_law; k_head; (case hw => w_witness2)
  k_fill
  refine LamX.walk_ofOwn (l := PySem.Challenge.rw_touchtrees_k32_lists_of_shapes_and_order) (n := 63) (k := 47) (x := "_law_script") (CX := fun _ => L2.CX0) rfl (by decide) rfl ⟨rfl, by decide, by decide⟩ (by decide +kernel) (fun w h Y => by first | exact PySem.W.km_in_of Y | exact PySem.W.kIn_of Y) ?F (fun _ _ _ _ _ h => h)
  case F =>
    intro w mg fa h _ KX G hmg own
    refine' TT.all_mk KX G hmg own ?a0 ?l0 ?c0 ?k0 ?w0_0 ?w0_1 ?a1 ?l1 ?c1 ?k1 ?a2 ?l2 ?c2 ?k2 ?a3 ?l3 ?c3 ?k3 ?a4 ?l4 ?c4 ?k4 ?a5 ?l5 ?c5 ?k5 ?a6 ?l6 ?c6 ?k6 ?a7 ?l7 ?c7 ?k7 ?a8 ?l8 ?c8 ?k8 ?a9 ?l9 ?c9 ?k9 ?a10 ?l10 ?c10 ?k10 ?a11 ?l11 ?c11 ?k11 ?a12 ?l12 ?c12 ?k12 ?a13 ?l13 ?c13 ?k13 ?a14 ?l14 ?c14 ?k14 ?a15 ?l15 ?c15 ?k15 ?a16 ?l16 ?c16 ?k16 ?a17 ?l17 ?c17 ?k17 ?a18 ?l18 ?c18 ?k18 ?a19 ?l19 ?c19 ?k19 ?a20 ?l20 ?c20 ?k20 ?a21 ?l21 ?c21 ?k21 ?a22 ?l22 ?c22 ?k22 ?a23 ?l23 ?c23 ?k23 ?a24 ?l24 ?c24 ?k24 ?a25 ?l25 ?c25 ?k25 ?a26 ?l26 ?c26 ?k26 ?a27 ?l27 ?c27 ?k27 ?a28 ?l28 ?c28 ?k28 ?a29 ?l29 ?c29 ?k29 ?a30 ?l30 ?c30 ?k30 ?kcl ?v11 ?hcd ?nPT ?b_all ?b_bool ?b_enumerate ?b_int ?b_isinstance ?b_len ?b_list ?b_max ?b_min ?b_range ?b_sorted ?b_str ?b_tuple ?b_zip ?b_ValueError ?g_MAX_SIZE ?g_MAX_LISTED ?m_TreeError ?m_Missing ?m_TooManyKeys ?m_BadSize ?vV_TreeError ?ga_TreeError ?rd_TreeError ?fc_TreeError ?il_TreeError ?ic_TreeError ?ik_TreeError ?o_TooManyKeys ?sa_TooManyKeys ?ex_TooManyKeys ?ty_TooManyKeys ?kp_TooManyKeys ?fi_TooManyKeys ?ti_TooManyKeys ?il_TooManyKeys ?ic_TooManyKeys ?ik_TooManyKeys ?xf_TooManyKeys ?ft_TooManyKeys ?ff_TooManyKeys ?n_TooManyKeys ?o_BadSize ?sa_BadSize ?ex_BadSize ?ty_BadSize ?kp_BadSize ?fi_BadSize ?ti_BadSize ?il_BadSize ?ic_BadSize ?ik_BadSize ?xf_BadSize ?ft_BadSize ?ff_BadSize ?n_BadSize
    (case a0 => k_is)
    (case l0 => k_is)
    (case c0 => k_is)
    (case k0 => k_is)
    (case w0_0 => k_is)
    (case w0_1 => k_is)
    (case a1 => k_is)
    (case l1 => k_is)
    (case c1 => k_is)
    (case k1 => k_is)
    (case a2 => k_is)
    (case l2 => k_is)
    (case c2 => k_is)
    (case k2 => k_is)
    (case a3 => k_is)
    (case l3 => k_is)
    (case c3 => k_is)
    (case k3 => k_is)
    (case a4 => k_is)
    (case l4 => k_is)
    (case c4 => k_is)
    (case k4 => k_is)
    (case a5 => k_is)
    (case l5 => k_is)
    (case c5 => k_is)
    (case k5 => k_is)
    (case a6 => k_is)
    (case l6 => k_is)
    (case c6 => k_is)
    (case k6 => k_is)
    (case a7 => k_is)
    (case l7 => k_is)
    (case c7 => k_is)
    (case k7 => k_is)
    (case a8 => k_is)
    (case l8 => k_is)
    (case c8 => k_is)
    (case k8 => k_is)
    (case a9 => k_is)
    (case l9 => k_is)
    (case c9 => k_is)
    (case k9 => k_is)
    (case a10 => k_is)
    (case l10 => k_is)
    (case c10 => k_is)
    (case k10 => k_is)
    (case a11 => k_is)
    (case l11 => k_is)
    (case c11 => k_is)
    (case k11 => k_is)
    (case a12 => k_is)
    (case l12 => k_is)
    (case c12 => k_is)
    (case k12 => k_is)
    (case a13 => k_is)
    (case l13 => k_is)
    (case c13 => k_is)
    (case k13 => k_is)
    (case a14 => k_is)
    (case l14 => k_is)
    (case c14 => k_is)
    (case k14 => k_is)
    (case a15 => k_is)
    (case l15 => k_is)
    (case c15 => k_is)
    (case k15 => k_is)
    (case a16 => k_is)
    (case l16 => k_is)
    (case c16 => k_is)
    (case k16 => k_is)
    (case a17 => k_is)
    (case l17 => k_is)
    (case c17 => k_is)
    (case k17 => k_is)
    (case a18 => k_is)
    (case l18 => k_is)
    (case c18 => k_is)
    (case k18 => k_is)
    (case a19 => k_is)
    (case l19 => k_is)
    (case c19 => k_is)
    (case k19 => k_is)
    (case a20 => k_is)
    (case l20 => k_is)
    (case c20 => k_is)
    (case k20 => k_is)
    (case a21 => k_is)
    (case l21 => k_is)
    (case c21 => k_is)
    (case k21 => k_is)
    (case a22 => k_is)
    (case l22 => k_is)
    (case c22 => k_is)
    (case k22 => k_is)
    (case a23 => k_is)
    (case l23 => k_is)
    (case c23 => k_is)
    (case k23 => k_is)
    (case a24 => k_is)
    (case l24 => k_is)
    (case c24 => k_is)
    (case k24 => k_is)
    (case a25 => k_is)
    (case l25 => k_is)
    (case c25 => k_is)
    (case k25 => k_is)
    (case a26 => k_is)
    (case l26 => k_is)
    (case c26 => k_is)
    (case k26 => k_is)
    (case a27 => k_is)
    (case l27 => k_is)
    (case c27 => k_is)
    (case k27 => k_is)
    (case a28 => k_is)
    (case l28 => k_is)
    (case c28 => k_is)
    (case k28 => k_is)
    (case a29 => k_is)
    (case l29 => k_is)
    (case c29 => k_is)
    (case k29 => k_is)
    (case a30 => k_is)
    (case l30 => k_is)
    (case c30 => k_is)
    (case k30 => k_is)
    (case kcl => k_is)
    (case v11 => first | with_unfolding_all exact rfl | kernel_rfl | k_is)
    (case hcd => first | kernel_rfl | decide +kernel | with_unfolding_all exact rfl)
    (case nPT => first | k_is | kernel_rfl | decide +kernel)
    (case b_all => k_is)
    (case b_bool => k_is)
    (case b_enumerate => k_is)
    (case b_int => k_is)
    (case b_isinstance => k_is)
    (case b_len => k_is)
    (case b_list => k_is)
    (case b_max => k_is)
    (case b_min => k_is)
    (case b_range => k_is)
    (case b_sorted => k_is)
    (case b_str => k_is)
    (case b_tuple => k_is)
    (case b_zip => k_is)
    (case b_ValueError => k_is)
    (case g_MAX_SIZE => k_is)
    (case g_MAX_LISTED => k_is)
    (case m_TreeError => k_is)
    (case m_Missing => k_is)
    (case m_TooManyKeys => k_is)
    (case m_BadSize => k_is)
    (case vV_TreeError => k_is)
    (case ga_TreeError => k_is)
    (case rd_TreeError => k_is)
    (case fc_TreeError => k_is)
    (case il_TreeError => k_is)
    (case ic_TreeError => k_is)
    (case ik_TreeError => k_is)
    (case o_TooManyKeys => first | kernel_rfl | decide +kernel | with_unfolding_all exact rfl)
    (case sa_TooManyKeys => k_is)
    (case ex_TooManyKeys => k_is)
    (case ty_TooManyKeys => k_is)
    (case kp_TooManyKeys => k_is)
    (case fi_TooManyKeys => k_is)
    (case ti_TooManyKeys => k_is)
    (case il_TooManyKeys => k_is)
    (case ic_TooManyKeys => k_is)
    (case ik_TooManyKeys => k_is)
    (case xf_TooManyKeys => first | kernel_rfl | decide +kernel | with_unfolding_all exact rfl)
    (case ft_TooManyKeys => k_is)
    (case ff_TooManyKeys => k_is)
    (case n_TooManyKeys => first | kernel_rfl | decide +kernel | with_unfolding_all exact rfl)
    (case o_BadSize => first | kernel_rfl | decide +kernel | with_unfolding_all exact rfl)
    (case sa_BadSize => k_is)
    (case ex_BadSize => k_is)
    (case ty_BadSize => k_is)
    (case kp_BadSize => k_is)
    (case fi_BadSize => k_is)
    (case ti_BadSize => k_is)
    (case il_BadSize => k_is)
    (case ic_BadSize => k_is)
    (case ik_BadSize => k_is)
    (case xf_BadSize => first | kernel_rfl | decide +kernel | with_unfolding_all exact rfl)
    (case ft_BadSize => k_is)
    (case ff_BadSize => k_is)
    (case n_BadSize => first | kernel_rfl | decide +kernel | with_unfolding_all exact rfl)
