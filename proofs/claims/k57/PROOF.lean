import PyProof.Rows.All
import Wide.All
import OpenK.AllK
import Wide.FinOn
import HandS.ForMost
import HandS.More
import HandS.Wide
import HandS.Style
import HandS.IsInst
import HandS.Defaults
import HandS.MakeKwOnly
import HandS.Zip
import HandS.Walk
import HandS.Flow
import HandS.Codes
import HandS.WordsDict
import HandS.SortRule
import HandS.SortInts
import HandS.Exc
import HandS.ExcInit
import HandS.ExcField
import HandS.HotCalls
import HandS.Lambda
import HandS.WordsExc
import KE.KTryMore
import HandS.FStr
import HandS.ExcCtx
import HandS.Hot
import KE.GoesEnum
import HandS.EndOwn
import KE.KNestM
import KE.KExcInit
import HandS.TupAny
import HandS.SortKw
import KE.KIndexOf
import HandS.TupSets
import HandS.SetFor
import HandS.Strs
import PyProof.ReprRoads
import HandS.StrMore
import HandS.Steps
import KE.IntTextText
import KE.KIntText
import HandS.SuiteRaise
import HandS.RaiseFrom
import HandS.ExcInitHot
import HandS.TryMany
import KE.KDictWalk
import HandS.Iter
import KE.GoesMore
import PyProof.Rows.RegReprOcc
import PyProof.StrOps2
import PySem.Challenge.RW_touchtrees_k57_texts_that_are_no_histori
set_option Elab.async false
set_option linter.all false
set_option maxRecDepth 100000
set_option maxHeartbeats 4000000
namespace TT
inductive T where
  | leaf
  | node (l : T) (k : Int) (r : T)

namespace T
def rt : T → Option Int
  | leaf => none
  | node _ k _ => some k
def pre : T → List Int
  | leaf => []
  | node l k r => k :: (l.pre ++ r.pre)
def bst : T → Prop
  | leaf => True
  | node l k r => (∀ x ∈ l.pre, x < k) ∧ (∀ x ∈ r.pre, k < x) ∧ l.bst ∧ r.bst
def ins (key : Int) : T → T
  | leaf => node leaf key leaf
  | node l k r => if key < k then node (l.ins key) k r else node l k (r.ins key)
def lc : T → Int → Option Int
  | leaf, _ => none
  | node l k r, x => if x = k then l.rt else if x < k then l.lc x else r.lc x
def rc : T → Int → Option Int
  | leaf, _ => none
  | node l k r, x => if x = k then r.rt else if x < k then l.rc x else r.rc x
def up : T → Int → Option Int
  | leaf, _ => none
  | node l k r, x => if x < k then (if l.rt = some x then some k else l.up x) else if k < x then (if r.rt = some x then some k else r.up x) else none
def insAll (ks : List Int) (t : T) : T := ks.foldl (fun t k => t.ins k) t
def path (key : Int) : T → List Int
  | leaf => []
  | node l k r => if key = k then [k] else if key < k then k :: l.path key else k :: r.path key
def lsp : T → Nat
  | leaf => 0
  | node l _ _ => l.lsp + 1
def rsp : T → Nat
  | leaf => 0
  | node _ _ r => r.rsp + 1
end T
open T

theorem mem_node {l r : T} {k x : Int} : x ∈ (node l k r).pre ↔ x = k ∨ x ∈ l.pre ∨ x ∈ r.pre := by
  simp only [pre, List.mem_cons, List.mem_append]
def Sub (s t : T) : Prop := ∀ x ∈ s.pre, t.lc x = s.lc x ∧ t.rc x = s.rc x
theorem Sub.refl (t : T) : Sub t t := fun _ _ => ⟨rfl, rfl⟩
theorem Sub.l {l r t : T} {k : Int} (h : Sub (node l k r) t) (b : (node l k r).bst) : Sub l t := fun x hx => by
  have := b.1 x hx
  obtain ⟨a, c⟩ := h x (mem_node.mpr (.inr (.inl hx)))
  rw [a, c]
  show (if x = k then l.rt else if x < k then l.lc x else r.lc x) = _ ∧ (if x = k then r.rt else if x < k then l.rc x else r.rc x) = _
  rw [if_neg (show ¬ x = k by omega), if_neg (show ¬ x = k by omega), if_pos this, if_pos this]
  exact ⟨rfl, rfl⟩
theorem Sub.r {l r t : T} {k : Int} (h : Sub (node l k r) t) (b : (node l k r).bst) : Sub r t := fun x hx => by
  have := b.2.1 x hx
  obtain ⟨a, c⟩ := h x (mem_node.mpr (.inr (.inr hx)))
  rw [a, c]
  show (if x = k then l.rt else if x < k then l.lc x else r.lc x) = _ ∧ (if x = k then r.rt else if x < k then l.rc x else r.rc x) = _
  rw [if_neg (show ¬ x = k by omega), if_neg (show ¬ x = k by omega), if_neg (show ¬ x < k by omega), if_neg (show ¬ x < k by omega)]
  exact ⟨rfl, rfl⟩
theorem nodup_pre : ∀ {t : T}, t.bst → t.pre.Nodup
  | leaf, _ => List.nodup_nil
  | node l k r, b => by
    show (k :: (l.pre ++ r.pre)).Nodup
    rw [List.nodup_cons, List.nodup_append]
    refine ⟨fun h => ?_, nodup_pre b.2.2.1, nodup_pre b.2.2.2, fun x hx y hy => ?_⟩
    · rcases List.mem_append.mp h with e | e
      · have := b.1 _ e; omega
      · have := b.2.1 _ e; omega
    · have := b.1 _ hx; have := b.2.1 _ hy; omega
end TT
namespace TT
open PySem PySem.Spec PyProof.Rows L2
structure Cal (P : Program) (w : World) (K : PySem.W.Frag) (mg : Str → Option Value) (base : Heap) (CX : CXT) (x : Str) (ps : List Str) (k : Nat) (sp : Sp) : Prop where
  ex : ∃ f fd, FnOk P w K mg base CX k f fd ps sp ∧ mg x = some (.ref f) ∧ PySem.W.keepIn K (.ref f) = true ∧ Binds K fd ps []
theorem Cal.mono {P : Program} {w : World} {K : PySem.W.Frag} {mg : Str → Option Value} {base : Heap} {CX : CXT} {x : Str} {ps : List Str} {j k : Nat} {sp : Sp} (c : Cal P w K mg base CX x ps j sp) (h : j ≤ k) : Cal P w K mg base CX x ps k sp := by
  obtain ⟨f, fd, o, a, b, d⟩ := c.ex
  exact ⟨f, fd, o.mono h, a, b, d⟩
structure CalN (P : Program) (w : World) (K : PySem.W.Frag) (mg : Str → Option Value) (base : Heap) (CX : CXT) (x : Str) (n : Nat) (ks : List Str) (k : Nat) (sp : Sp) (gV : List V → List V → List V) : Prop where
  ex : ∃ f fd ps g, FnOk P w K mg base CX k f fd ps sp ∧ mg x = some (.ref f) ∧ PySem.W.keepIn K (.ref f) = true ∧ KBn K fd ps n ks g gV
section
variable {X : Cx} {ps ks : List Str} {k n : Nat} {sp : Sp} {x : Str} {e : Expr} {es : List Expr} {kws : List Keyword} {t tk : TA} {p pos : Pos} {gV : List V → List V → List V}
theorem pe_cal (c : Cal X.prog X.w X.K X.mg X.base CX0 x ps k sp) (hr : Room k X.A) (hg : Gl X x) (ha : PA X (e :: es) t) (hdb : (x == ("__debug__" : Str)) = false := by decide) (he : starEach (e :: es) X.env = (false, eval e X.env) :: starEach es X.env := by rfl)
    (hpl : (backTo pos (starEach es X.env)).any (·.1) = false := by rfl) : PE X (.Call (.Name x p) (e :: es) [] pos) (tCall sp [] E0 t) := by
  obtain ⟨f, fd, o, a, b, d⟩ := c.ex
  exact pe_call o hr hg a b d .nil pass0 ha hdb he hpl
end
section
variable {X : Cx} {ps ks : List Str} {k n : Nat} {sp : Sp} {x : Str} {e : Expr} {es : List Expr} {kws : List Keyword} {t tk : TA} {p pos : Pos} {gV : List V → List V → List V} {dvs : List V}
structure CalD (P : Program) (w : World) (K : PySem.W.Frag) (mg : Str → Option Value) (base : Heap) (CX : CXT) (x : Str) (dvs : List V) (k : Nat) (sp : Sp) : Prop where
  ex : ∃ f fd ps ds, FnOk P w K mg base CX k f fd ps sp ∧ mg x = some (.ref f) ∧ PySem.W.keepIn K (.ref f) = true ∧ Binds K fd ps ds ∧ Vals dvs ds
end
theorem CalN.mono {P : Program} {w : World} {K : PySem.W.Frag} {mg : Str → Option Value} {base : Heap} {CX : CXT} {x : Str} {n : Nat} {ks : List Str} {j k : Nat} {sp : Sp} {gV : List V → List V → List V} (c : CalN P w K mg base CX x n ks j sp gV) (h : j ≤ k) : CalN P w K mg base CX x n ks k sp gV := by
  obtain ⟨f, fd, ps, g, o, r⟩ := c.ex
  exact ⟨f, fd, ps, g, o.mono h, r⟩
theorem CalD.mono {P : Program} {w : World} {K : PySem.W.Frag} {mg : Str → Option Value} {base : Heap} {CX : CXT} {x : Str} {dvs : List V} {j k : Nat} {sp : Sp} (c : CalD P w K mg base CX x dvs j sp) (h : j ≤ k) : CalD P w K mg base CX x dvs k sp := by
  obtain ⟨f, fd, ps, ds, o, r⟩ := c.ex
  exact ⟨f, fd, ps, ds, o.mono h, r⟩
section
variable {prog : Program} {w : World} {A : Around} {E : Value → Shared → Prop} {s : Shared} {l : Addr} {xs : Array (Int × Tok)} {its : List Value} {ns : List Int} {Q : Value → Shared → Prop}
end
section
variable {X : Cx}
end
section
variable {X : Cx} {K : PySem.W.Frag}
theorem ix_tupK (h : X.K = K) : IxR X (rIxT K) := h ▸ ix_tup
end
theorem same_new {H : Hp} {p : Addr} {o : HO} (h : H p = none) : Same H (upd H p o) := fun b x e => by
  rw [upd_ne (ne_of_none e h)]
  exact e
theorem Same.tup {K : PySem.W.Frag} {H H' : Hp} {a : Addr} {xs : List V} (e : Same H H') (h : SqT K H a xs) : SqT K H' a xs := by
  rcases h with (h | ⟨o, h⟩) | h
  · exact .inl (.inl (e _ _ h))
  · exact .inl (.inr ⟨o, e _ _ h⟩)
  · exact .inr h
def Ext (d : Addr) (H H' : Hp) : Prop := ∀ b o, b ≠ d → H b = some o → H' b = some o
theorem Ext.refl (d : Addr) (H : Hp) : Ext d H H := fun _ _ _ h => h
theorem Ext.trans {d : Addr} {H H1 H2 : Hp} (a : Ext d H H1) (b : Ext d H1 H2) : Ext d H H2 := fun c o n h => b c o n (a c o n h)
theorem Ext.of {d : Addr} {H H' : Hp} (a : Same H H') : Ext d H H' := fun c o _ h => a c o h
theorem Ext.free {d : Addr} {H H' : Hp} {o : HO} (e : Ext d H H') (hd : H d = some o) {o' : HO} (hd' : H' d = some o') {l : Addr} (h : H' l = Option.none) : H l = Option.none := by
  cases q : H l with
  | none => rfl
  | some o2 =>
    by_cases n : l = d
    · subst n
      rw [hd'] at h
      cases h
    · rw [e l o2 n q] at h
      cases h
theorem Ext.seq {d : Addr} {K : PySem.W.Frag} {H H' : Hp} {a : Addr} {xs : List V} (e : Ext d H H') (n : a ≠ d) (h : SqL K H a xs) : SqL K H' a xs := by
  rcases h with (h | ⟨o, h⟩) | h
  · exact .inl (.inl (e _ _ n h))
  · exact .inl (.inr ⟨o, e _ _ n h⟩)
  · exact .inr h
end TT
namespace TT
open PySem PySem.Spec PyProof.Rows L2
section
variable {K : PySem.W.Frag} {σ : L2.St} {H : Hp} {Q : VK}
theorem rd_ixL {i : Nat} {d : Addr} {xs : List V} (j : Nat) {v : V} (hσ : σ[i]? = some (some (.ref d))) (hL : SqL K H d xs) (hx : xs[j]? = some v) (q : Q v H) : tOp (rIxL K) (tVar i) (tC (.int (j : Int))) σ H Q := ⟨_, hσ, d, xs, j, v, rfl, rfl, hL, atI_nat hx, q⟩
theorem rd_ixT {i : Nat} {d : Addr} {xs : List V} (j : Nat) {v : V} (hσ : σ[i]? = some (some (.ref d))) (hL : SqT K H d xs) (hx : xs[j]? = some v) (q : Q v H) : tOp (rIxT K) (tVar i) (tC (.int (j : Int))) σ H Q := ⟨_, hσ, d, xs, j, v, rfl, rfl, hL, atI_nat hx, q⟩
end
theorem iteFd {c : Bool} {A B : Prop} (e : c = false) (h : B) : if c = true then A else B := by
  rw [e, if_neg Bool.false_ne_true]
  exact h
theorem iteTd {c : Bool} {A B : Prop} (e : c = true) (h : A) : if c = true then A else B := by
  rw [e, if_pos rfl]
  exact h
theorem atI_int {α : Type} {xs : List α} {i : Int} {v : α} (h0 : 0 ≤ i) (h : xs[i.toNat]? = some v) : atI xs i = some v := by
  have := atI_nat h
  rwa [Int.toNat_of_nonneg h0] at this
theorem sz {n : Nat} (h : n ≤ 100000) : n ≤ sizeLine := Nat.le_trans h (by decide)
theorem szl {n : Nat} (h : n < 100000) : n < sizeLine := Nat.lt_of_lt_of_le h (by decide)
theorem cutV_map (ns : List Int) (lo hi : Option Int) : ∃ ms : List Int, cutV (ns.map V.int) lo hi = ms.map V.int ∧ ms.length ≤ ns.length := by
  refine ⟨(ns.drop (HT.sIx (ns.map V.int).length 0 lo)).take (HT.sIx (ns.map V.int).length (ns.map V.int).length hi - HT.sIx (ns.map V.int).length 0 lo), ?_, ?_⟩
  · unfold cutV
    rw [List.map_take, List.map_drop]
  · rw [List.length_take, List.length_drop]
    omega
abbrev MM : Int := 2305843009213693951
def Drw (c : Addr) (ns : List Int) (H : Hp) (d : Addr) : Prop := ∃ (i b z : Int), H d = some (.lst [.ref c, .int i, .int b, .int z]) ∧ H c = some (.lst (ns.map V.int)) ∧ c ≠ d ∧ 0 ≤ i ∧ 0 ≤ b ∧ 0 ≤ z ∧ z < MM
theorem Drw.at {c : Addr} {ns : List Int} {H : Hp} {d : Addr} (h : Drw c ns H d) : ∃ o, H d = some o := by
  obtain ⟨i, b, z, e, _⟩ := h
  exact ⟨_, e⟩
theorem Drw.same {c : Addr} {ns : List Int} {H H' : Hp} {d : Addr} (h : Drw c ns H d) (e : Same H H') : Drw c ns H' d := by
  obtain ⟨i, b, z, e1, e2, r⟩ := h
  exact ⟨i, b, z, e _ _ e1, e _ _ e2, r⟩
theorem Drw.new {c : Addr} {ns : List Int} {H : Hp} {d p : Addr} {o : HO} (h : Drw c ns H d) (np : H p = none) : Drw c ns (upd H p o) d := h.same (same_new np)
theorem Drw.ne {c : Addr} {ns : List Int} {H : Hp} {d p : Addr} (h : Drw c ns H d) (np : H p = none) : p ≠ d := fun e => by
  obtain ⟨o, ho⟩ := h.at
  rw [e, ho] at np
  cases np
theorem Drw.nec {c : Addr} {ns : List Int} {H : Hp} {d p : Addr} (h : Drw c ns H d) (np : H p = none) : p ≠ c := fun e => by
  obtain ⟨i, b, z, e1, e2, r⟩ := h
  rw [e, e2] at np
  cases np
theorem Drw.put {c : Addr} {ns : List Int} {H0 H : Hp} {d p : Addr} {o : HO} (h : Drw c ns H d) (h0 : Drw c ns H0 d) (np : H0 p = none) : Drw c ns (upd H p o) d := by
  obtain ⟨i, b, z, e1, e2, r⟩ := h
  exact ⟨i, b, z, by rw [upd_ne (h0.ne np).symm]; exact e1, by rw [upd_ne (h0.nec np).symm]; exact e2, r⟩
theorem Ext.put {d p : Addr} {H0 H : Hp} {o : HO} (e : Ext d H0 H) (np : H0 p = none) : Ext d H0 (upd H p o) := fun b u n h => by
  rw [upd_ne (ne_of_none h np)]
  exact e b u n h
theorem Same.put {p : Addr} {H0 H : Hp} {o : HO} (e : Same H0 H) (np : H0 p = none) : Same H0 (upd H p o) := fun b u h => by
  rw [upd_ne (ne_of_none h np)]
  exact e b u h
theorem Ext.but {d : Addr} {H H' : Hp} (h : ∀ b, b ≠ d → H' b = H b) : Ext d H H' := fun b o n e => by rw [h b n]; exact e
def spTake : Sp := fun vs H Q _ => ∃ (d : Addr) (m : Int) (c : Addr) (ns : List Int), vs = [.ref d, .int m] ∧ 1 ≤ m ∧ m < 2 ^ 200 ∧ Drw c ns H d ∧ ∀ r H', 0 ≤ r → r < m → Drw c ns H' d → (∀ b, b ≠ d → H' b = H b) → Q (.int r) H'
def spOf (K : PySem.W.Frag) : Sp := fun vs H Q _ => ∃ (d a : Addr) (xs : List V) (c : Addr) (ns : List Int), vs = [.ref d, .ref a] ∧ SqL K H a xs ∧ 0 < xs.length ∧ xs.length ≤ 100000 ∧ a ≠ d ∧ Drw c ns H d ∧ ∀ x H', x ∈ xs → Drw c ns H' d → (∀ b, b ≠ d → H' b = H b) → Q x H'
def spStart (K : PySem.W.Frag) : Sp := fun vs H Q _ => ∃ (a : Addr) (ns : List Int), vs = [.ref a] ∧ SqL K H a (ns.map V.int) ∧ ns.length ≤ 63 ∧ ∀ d c ms H', Same H H' → H d = none → Drw c ms H' d → Q (.ref d) H'
structure Asc (ks : List Int) : Prop where
  lt : ks.Pairwise (· < ·)
  bd : ∀ k ∈ ks, -1000000000 ≤ k ∧ k ≤ 1000000000
end TT
namespace TT
open PySem PySem.Spec PyProof.Rows L2
structure Mp (kvs : List (Key × V)) (f : Int → Option Int) (n : Nat) : Prop where
  all : ∀ p ∈ kvs, ∃ a b, p = (Sum.inl a, V.int b)
  val : ∀ x, valV kvs (Sum.inl x) = (f x).map V.int
  len : kvs.length ≤ n
  nd : (kvs.map (·.1)).Nodup
theorem putK_len (c : List (Key × V)) (k : Key) (x : V) : (putK c k x).length ≤ c.length + 1 := by
  unfold putK
  split
  · rw [List.length_map]; omega
  · rw [List.length_append]; exact Nat.le_refl _
theorem mem_putK {c : List (Key × V)} {k : Key} {x : V} {p : Key × V} (h : p ∈ putK c k x) : p ∈ c ∨ p = (k, x) := by
  unfold putK at h
  split at h
  · obtain ⟨q, hq, e⟩ := List.mem_map.mp h
    split at e
    · next e2 => rw [e2] at e; exact .inr e.symm
    · exact .inl (e ▸ hq)
  · rcases List.mem_append.mp h with h | h
    · exact .inl h
    · exact .inr (List.mem_singleton.mp h)
theorem Mp.nil {n : Nat} : Mp [] (fun _ => none) n := ⟨fun _ h => (by cases h), fun _ => rfl, Nat.zero_le _, List.nodup_nil⟩
theorem nd_put {kvs : List (Key × V)} {k : Key} (v : V) (hn : (kvs.map (·.1)).Nodup) : ((putK kvs k v).map (·.1)).Nodup := by
  cases h : valV kvs k with
  | none => exact nd_putK v hn h
  | some y =>
    have ha : (kvs.any fun kv => decide (kv.1 = k)) = true := by rw [valV_any, h]; rfl
    unfold putK
    rw [if_pos ha, List.map_map]
    have : ((fun p : Key × V => p.1) ∘ fun kv => if kv.1 = k then (kv.1, v) else kv) = fun p => p.1 := funext fun p => by
      show (if p.1 = k then (p.1, v) else p).1 = p.1
      split <;> rfl
    rw [this]
    exact hn
theorem Mp.put {kvs : List (Key × V)} {f : Int → Option Int} {n : Nat} (h : Mp kvs f n) (x y : Int) : Mp (putK kvs (Sum.inl x) (.int y)) (fun z => if z = x then some y else f z) (n + 1) := by
  refine ⟨fun p hp => ?_, fun z => ?_, ?_, nd_put _ h.nd⟩
  · rcases mem_putK hp with h' | rfl
    · exact h.all p h'
    · exact ⟨_, _, rfl⟩
  · rw [valV_put]
    by_cases e : z = x
    · rw [if_pos (by rw [e]), if_pos e]; rfl
    · rw [if_neg (fun z => e (Sum.inl.inj z)), if_neg e]; exact h.val z
  · have := putK_len kvs (Sum.inl x) (.int y)
    have := h.len
    omega
theorem Mp.eq {kvs : List (Key × V)} {f g : Int → Option Int} {n m : Nat} (h : Mp kvs f n) (e : ∀ x, f x = g x) (l : n ≤ m) : Mp kvs g m := ⟨h.all, fun x => by rw [h.val x, e x], Nat.le_trans h.len l, h.nd⟩
theorem valV_drop {y k : Key} : ∀ (kvs : List (Key × V)), valV (dropK kvs k) y = if y = k then none else valV kvs y
  | [] => by
    show none = _
    split <;> rfl
  | p :: r => by
    by_cases e : p.1 = k
    · rw [dropK_pos e, valV_drop r]
      by_cases g : y = k
      · rw [if_pos g, if_pos g]
      · rw [if_neg g, if_neg g, valV_neg (fun z => g (z.symm.trans e))]
    · rw [dropK_neg e]
      by_cases g : p.1 = y
      · rw [valV_pos g, valV_pos g, if_neg (fun z => e (g.trans z))]
      · rw [valV_neg g, valV_drop r, valV_neg g]
theorem Mp.pop {kvs : List (Key × V)} {f : Int → Option Int} {n : Nat} (h : Mp kvs f n) (x : Int) : Mp (dropK kvs (Sum.inl x)) (fun z => if z = x then none else f z) n := by
  refine ⟨fun p hp => h.all p (dropK_mem hp), fun z => ?_, Nat.le_trans (dropK_le ..) h.len, nd_dropK h.nd⟩
  rw [valV_drop]
  by_cases e : z = x
  · rw [if_pos (by rw [e]), if_pos e]; rfl
  · rw [if_neg (fun q => e (Sum.inl.inj q)), if_neg e]; exact h.val z
theorem nodup_len : ∀ {l m : List Key}, l.Nodup → l ⊆ m → l.length ≤ m.length
  | [], _, _, _ => Nat.zero_le _
  | x :: l, m, nd, h => by
    obtain ⟨h1, h2⟩ := List.nodup_cons.mp nd
    have hx := h List.mem_cons_self
    have h3 := nodup_len (m := m.filter fun y => !decide (y = x)) h2 fun y hy => List.mem_filter.mpr ⟨h (List.mem_cons_of_mem _ hy), by
      have ne : y ≠ x := fun z => h1 (z ▸ hy)
      simp [ne]⟩
    have h4 : (m.filter fun y => !decide (y = x)).length < m.length := List.length_filter_lt_length_iff_exists.mpr ⟨x, hx, by simp⟩
    rw [List.length_cons]
    omega
theorem Mp.small {kvs : List (Key × V)} {f : Int → Option Int} {n : Nat} {l : List Int} (h : Mp kvs f n) (hl : ∀ x, f x ≠ none → x ∈ l) : Mp kvs f l.length := by
  refine ⟨h.all, h.val, ?_, h.nd⟩
  have sub : (kvs.map (·.1)) ⊆ l.map Sum.inl := fun k hk => by
    obtain ⟨p, hp, rfl⟩ := List.mem_map.mp hk
    obtain ⟨a, b, rfl⟩ := h.all p hp
    refine List.mem_map.mpr ⟨a, hl a fun z => ?_, rfl⟩
    have hv := h.val a
    rw [z] at hv
    exact valV_not hv hk
  have := nodup_len h.nd sub
  rwa [List.length_map, List.length_map] at this
def oV : Option Int → V
  | none => .non
  | some k => .int k
abbrev nodK (rt : Option Int) (L R U : Addr) : List (Key × V) := [(Sum.inr "root", oV rt), (Sum.inr "left", .ref L), (Sum.inr "right", .ref R), (Sum.inr "up", .ref U)]
structure Nod (H : Hp) (m L R U : Addr) (rt : Option Int) (lf rf uf : Int → Option Int) (n : Nat) : Prop where
  hm : H m = some (.dK (nodK rt L R U))
  l : ∃ lk, H L = some (.dK lk) ∧ Mp lk lf n
  r : ∃ rk, H R = some (.dK rk) ∧ Mp rk rf n
  u : ∃ uk, H U = some (.dK uk) ∧ Mp uk uf n
  mL : m ≠ L
  mR : m ≠ R
  mU : m ≠ U
  LR : L ≠ R
  LU : L ≠ U
  RU : R ≠ U
theorem Nod.same {H H' : Hp} {m L R U : Addr} {rt : Option Int} {lf rf uf : Int → Option Int} {n : Nat} (h : Nod H m L R U rt lf rf uf n) (e : Same H H') : Nod H' m L R U rt lf rf uf n := by
  obtain ⟨lk, h1, h2⟩ := h.l
  obtain ⟨rk, h3, h4⟩ := h.r
  obtain ⟨uk, h5, h6⟩ := h.u
  exact ⟨e _ _ h.hm, ⟨lk, e _ _ h1, h2⟩, ⟨rk, e _ _ h3, h4⟩, ⟨uk, e _ _ h5, h6⟩, h.mL, h.mR, h.mU, h.LR, h.LU, h.RU⟩
section
variable {K : PySem.W.Frag} {σ : L2.St} {H : Hp} {Q : VK}
end
end TT
namespace TT
open PySem PySem.Spec PyProof.Rows L2
def Eqv (H : Hp) : Nat → V → V → Prop
  | 0, x, y => flatV x = true ∧ x = y
  | n + 1, x, y => (flatV x = true ∧ x = y) ∨ ∃ a b xs ys, x = .ref a ∧ y = .ref b ∧ ((H a = some (.lst xs) ∧ H b = some (.lst ys)) ∨ (H a = some (.tup xs) ∧ H b = some (.tup ys))) ∧ xs.length = ys.length ∧ xs.length ≤ 1000 ∧ ∀ (i : Nat) u v, xs[i]? = some u → ys[i]? = some v → Eqv H n u v
theorem Eqv.same {H H' : Hp} (e : Same H H') : ∀ {n : Nat} {x y : V}, Eqv H n x y → Eqv H' n x y
  | 0, _, _, h => (show flatV _ = true ∧ _ from h)
  | n + 1, _, _, h => by
    rcases h with h | ⟨a, b, xs, ys, e1, e2, h1, h2, h3, h4⟩
    · exact .inl h
    · refine .inr ⟨a, b, xs, ys, e1, e2, ?_, h2, h3, fun i u v a1 a2 => (h4 i u v a1 a2).same e⟩
      rcases h1 with ⟨p, q⟩ | ⟨p, q⟩
      · exact .inl ⟨e _ _ p, e _ _ q⟩
      · exact .inr ⟨e _ _ p, e _ _ q⟩
theorem Eqv.cases {H : Hp} : ∀ {n : Nat} {x y : V}, Eqv H n x y → (flatV x = true ∧ x = y) ∨ ∃ m a b xs ys, n = m + 1 ∧ x = .ref a ∧ y = .ref b ∧ ((H a = some (.lst xs) ∧ H b = some (.lst ys)) ∨ (H a = some (.tup xs) ∧ H b = some (.tup ys))) ∧ xs.length = ys.length ∧ xs.length ≤ 1000 ∧ ∀ (i : Nat) u v, xs[i]? = some u → ys[i]? = some v → Eqv H m u v
  | 0, _, _, h => .inl h
  | n + 1, _, _, h => by
    rcases h with h | ⟨a, b, xs, ys, h⟩
    · exact .inl h
    · exact .inr ⟨n, a, b, xs, ys, rfl, h⟩
section
variable {K : PySem.W.Frag} {H : Hp} {Q : VK}
theorem kLT {t : String} {r1 r2 : Bool} (h1 : kitB t "list" = some r1) (h2 : kitB t "tuple" = some r2) : PySem.W.kitAny K (.type t) [.type "list", .type "tuple"] = some (r1 || r2) := by
  refine kitAny_cons (kit_ty h1) (fun e => ?_) (fun e => by rw [e]; rfl)
  subst e
  refine kitAny_cons (r := false || r2) (kit_ty h2) (fun e => ?_) (fun e => by rw [e]; rfl)
  subst e
  exact kitAny_nil
end
theorem walk_zipT {K : PySem.W.Frag} {a b : Addr} {xs ys : List V} {n : Nat} (hn : n = min xs.length ys.length) : Walk (RZ.ItzT K a b) n (fun H => SqT K H a xs ∧ SqT K H b ys) (YPair (fun i => xs[i]?) (fun i => ys[i]?)) := by
  subst hn
  refine ⟨fun i H hi g => ?_, fun H g => ⟨xs, ys, g.1, g.2, by omega⟩, fun i H v H' hi g y => ?_⟩
  · exact ⟨xs, ys, xs[i]'(by omega), ys[i]'(by omega), g.1, g.2, List.getElem?_eq_getElem _, List.getElem?_eq_getElem _⟩
  · obtain ⟨T, x, z, a1, a2, a3, a4, a5⟩ := y
    exact ⟨T, x, z, a1, a2, a3, a4 _ g.1, a5 _ g.2⟩
def okLo : Option Int → Int → Bool
  | none, _ => true
  | some l, x => decide (l < x)
def okHi : Option Int → Int → Bool
  | none, _ => true
  | some h, x => decide (x < h)
def T.lt : T → T
  | T.leaf => T.leaf
  | T.node l _ _ => l
def T.rtr : T → T
  | T.leaf => T.leaf
  | T.node _ _ r => r
section
variable {K : PySem.W.Frag} {σ : L2.St} {H : Hp}
end
def T.sp (b : Bool) (t : T) : Nat := if b then t.lsp else t.rsp
theorem cpow {i j : Int} (h1 : 0 ≤ j) (h2 : j ≤ 1000) (h3 : i.natAbs < 2 ^ 64) : CPow i j := ⟨h1, by omega, h3⟩
end TT
namespace TT
open PySem PySem.Spec PyProof.Rows L2
open T
def T.Rank (ρ : Int → Nat) : T → Prop
  | leaf => True
  | node l k r => (∀ y ∈ l.pre, ρ k < ρ y) ∧ (∀ y ∈ r.pre, ρ k < ρ y) ∧ l.Rank ρ ∧ r.Rank ρ
theorem Rank.up {ρ ρ' : Int → Nat} : ∀ {t : T}, t.Rank ρ → (∀ x ∈ t.pre, ρ' x = ρ x + 1) → t.Rank ρ'
  | leaf, _, _ => trivial
  | node l k r, h, e => by
    have ek := e k (mem_node.mpr (.inl rfl))
    have el : ∀ x ∈ l.pre, ρ' x = ρ x + 1 := fun x hx => e x (mem_node.mpr (.inr (.inl hx)))
    have er : ∀ x ∈ r.pre, ρ' x = ρ x + 1 := fun x hx => e x (mem_node.mpr (.inr (.inr hx)))
    exact ⟨fun y hy => by have := h.1 y hy; rw [ek, el y hy]; omega, fun y hy => by have := h.2.1 y hy; rw [ek, er y hy]; omega, Rank.up h.2.2.1 el, Rank.up h.2.2.2 er⟩
def T.restr (lo hi : Option Int) : T → T
  | leaf => leaf
  | node l k r => if okLo lo k = false then r.restr lo hi else if okHi hi k = false then l.restr lo hi else node (l.restr lo hi) k (r.restr lo hi)
theorem Eqv.up {H : Hp} : ∀ {n : Nat} {x y : V}, Eqv H n x y → Eqv H (n + 1) x y
  | 0, _, _, h => .inl h
  | n + 1, _, _, h => by
    rcases h with h | ⟨a, b, xs, ys, e1, e2, h1, h2, h3, h4⟩
    · exact .inl h
    · exact .inr ⟨a, b, xs, ys, e1, e2, h1, h2, h3, fun i u v g1 g2 => (h4 i u v g1 g2).up⟩
end TT
namespace TT
open PySem PySem.Spec PyProof.Rows L2
open T
section
variable {prog : Program} {w : World} {A : Around} {E : Value → Shared → Prop} {s : Shared}
end
section
variable {X : Cx}
end
end TT
namespace TT
open PySem PySem.Spec PyProof.Rows L2
open T
def topL (x : Int) (ks : List Int) : List Int := x :: (ks.filter (fun y => okLo none y && okHi (some x) y) ++ ks.filter (fun y => okLo (some x) y && okHi none y))
def T.tch (t : T) (x : Int) : T := node (t.restr none (some x)) x (t.restr (some x) none)
def T.dep (t : T) (x : Int) : Nat := (t.path x).length - 1
theorem topL_len {x : Int} {ks : List Int} : (topL x ks).length ≤ ks.length + 1 := by
  unfold topL
  rw [List.length_cons, List.length_append]
  have key : ∀ l : List Int, (l.filter (fun y => okLo none y && okHi (some x) y)).length + (l.filter (fun y => okLo (some x) y && okHi none y)).length ≤ l.length := by
    intro l
    induction l with
    | nil => exact Nat.le_refl _
    | cons a l ih =>
      rw [List.filter_cons, List.filter_cons]
      show (if (true && decide (a < x)) = true then _ else _ : List Int).length + (if (decide (x < a) && true) = true then _ else _ : List Int).length ≤ _
      rw [Bool.true_and, Bool.and_true, List.length_cons]
      by_cases h1 : a < x
      · rw [if_pos (decide_eq_true h1), if_neg (by simp; omega), List.length_cons]; omega
      · rw [if_neg (by simp; omega)]
        split
        · rw [List.length_cons]; omega
        · omega
  have := key ks
  omega
section
variable {K : PySem.W.Frag} {a : Addr} {ks : List Int} {g : TG} {tt : L2.TT} {te : TE} {vs : List Nat} {σ : L2.St} {H1 : Hp} {D : Addr} {Qd : Hp → Prop}
end
section
variable {σ : L2.St} {H : Hp} {Q : VK}
end

end TT
namespace TT
open PySem PySem.Spec PyProof.Rows L2
open T
def addL (acc : List Int) (k : Int) : List Int := if k ∈ acc then acc else acc ++ [k]
def lastL (xs : List Int) : List Int := xs.reverse.foldl addL []
theorem lastL_cons {x : Int} {xs : List Int} : lastL (x :: xs) = addL (lastL xs) x := by
  unfold lastL; rw [List.reverse_cons, List.foldl_append]; rfl
theorem mem_lastL {y : Int} : ∀ {xs : List Int}, y ∈ lastL xs ↔ y ∈ xs
  | [] => Iff.rfl
  | x :: xs => by
    rw [lastL_cons]
    unfold addL
    split
    · next h =>
      rw [mem_lastL, List.mem_cons]
      exact ⟨.inr, fun z => z.elim (fun e => e ▸ mem_lastL.mp h) id⟩
    · rw [List.mem_append, List.mem_singleton, mem_lastL, List.mem_cons]
      exact Or.comm
theorem lastL_nodup : ∀ {xs : List Int}, (lastL xs).Nodup
  | [] => List.nodup_nil
  | x :: xs => by
    rw [lastL_cons]
    unfold addL
    split
    · exact lastL_nodup
    · next h => 
      rw [List.nodup_append]
      exact ⟨lastL_nodup, by simp, fun a ha b hb => by rw [List.mem_singleton.mp hb]; exact fun e => h (e ▸ ha)⟩
end TT
namespace TT
open PySem PySem.Spec PyProof.Rows L2
open T
def T.abv (t : T) (x y : Int) : Bool := !decide (V.int x = V.int y) && inV (.int x) ((t.path y).map V.int)
theorem Drw.tup {K : PySem.W.Frag} {c d a : Addr} {ns : List Int} {H H' : Hp} {xs : List V} (hD : Drw c ns H d) (e : Ext d H H') (h : SqT K H a xs) : SqT K H' a xs := by
  obtain ⟨i, b, z, hd, _⟩ := hD
  rcases h with (h | ⟨o, h⟩) | h
  · exact .inl (.inl (e _ _ (fun z => by rw [z, hd] at h; cases h) h))
  · exact .inl (.inr ⟨o, e _ _ (fun z => by rw [z, hd] at h; cases h) h⟩)
  · exact .inr h
end TT
namespace TT
open PySem PySem.Spec PyProof.Rows L2
open T
def T.rot (x : Int) : T → T
  | leaf => leaf
  | node l k r => if x < k then (if l.rt = some x then node l.lt x (node l.rtr k r) else node (l.rot x) k r) else if k < x then (if r.rt = some x then node (node l k r.lt) x r.rtr else node l k (r.rot x)) else node l k r
def ch (t : T) (x p : Int) : Option Int := if x < p then t.rc x else t.lc x
def setO (f : Int → Option Int) (a : Int) (o : Option Int) : Int → Option Int := fun z => if z = a then o else f z
theorem Mp.set {kvs : List (Key × V)} {f : Int → Option Int} {n : Nat} (h : Mp kvs f n) (x y : Int) : Mp (putK kvs (Sum.inl x) (.int y)) (setO f x (some y)) (n + 1) := h.put x y
theorem Mp.cut {kvs : List (Key × V)} {f : Int → Option Int} {n : Nat} (h : Mp kvs f n) (x : Int) : Mp (dropK kvs (Sum.inl x)) (setO f x none) (n + 1) := (h.pop x).eq (fun _ => rfl) (Nat.le_succ _)
theorem Mp.no {kvs : List (Key × V)} {f : Int → Option Int} {n : Nat} (h : Mp kvs f n) {x : Int} (e : f x = none) : Mp kvs (setO f x none) (n + 1) := h.eq (fun z => by
  unfold setO
  split
  · next q => rw [q]; exact e
  · rfl) (Nat.le_succ _)
theorem Mp.more {kvs : List (Key × V)} {f : Int → Option Int} {n : Nat} (h : Mp kvs f n) : Mp kvs f (n + 1) := h.eq (fun _ => rfl) (Nat.le_succ _)
def Fr (m L R U : Addr) (H H' : Hp) : Prop := ∀ b, b ≠ m → b ≠ L → b ≠ R → b ≠ U → H' b = H b
theorem Fr.trans {m L R U : Addr} {H H1 H2 : Hp} (a : Fr m L R U H H1) (b : Fr m L R U H1 H2) : Fr m L R U H H2 := fun c c1 c2 c3 c4 => by rw [b c c1 c2 c3 c4, a c c1 c2 c3 c4]
theorem Nod.eq {H : Hp} {m L R U : Addr} {rt rt' : Option Int} {lf rf uf lf' rf' uf' : Int → Option Int} {n : Nat} (h : Nod H m L R U rt lf rf uf n) (e0 : rt = rt') (e1 : ∀ z, lf z = lf' z) (e2 : ∀ z, rf z = rf' z) (e3 : ∀ z, uf z = uf' z) : Nod H m L R U rt' lf' rf' uf' n := by
  rw [← e0, ← funext e1, ← funext e2, ← funext e3]
  exact h
end TT
namespace TT
open PySem PySem.Spec PyProof.Rows L2
open T
section
variable {t : T} {x p : Int}
end
end TT
namespace TT
open PySem PySem.Spec PyProof.Rows L2
theorem flying_push {B h h' : Heap} {l : List Env} {e : Addr} {Z : Obj → Prop} (fl : HandSPX.FlyingZ B l e Z h) (k : ∀ b o, h.get? b = some o → h'.get? b = some o) : HandSPX.FlyingZ B l e Z h' := by
  obtain ⟨a1, a2, a3, oe, vs, T, oT, ts, b1, b2, b3, b4, b5, b6, b7, b8, b9⟩ := fl
  exact ⟨fun b o x => k b o (a1 b o x), a2, a3.of_keeps fun b o x _ => ⟨o, k b o x, rfl⟩, oe, vs, T, oT, ts, k _ _ b1, b2, b3, b4, b5, b6, k _ _ b7, b8, b9⟩
section
variable {X : Cx} {x1 x2 x3 n : Str} {c1 c2 c3 : Value} {i : Nat} {body suite : List Stmt} {b₀ : Stmt} {q1 q2 q3 qt pos' pos : Pos} {kk : Nat} {more : List ExceptHandler} {tb : WX → TS} {ts : Addr → Value → Option Addr → TS}
end
structure ClsFn (K : PySem.W.Frag) (C : Addr) (nm : Str) (f : Addr) : Prop where
  ga : PySem.W.specialIn K (.ref C) "__getattribute__" = some (some (.builtin "type.__getattribute__"))
  rd : PySem.W.readsIn K C (.type "type") = true
  fc : PySem.W.findCls K (.ref C) (.type "type") nm = some (.val (.ref f))
  hd : PySem.W.handedIn (.ref f) = true
section
variable {X : Cx} {CX : CXT} {k : Nat} {C f : Addr} {fd : FuncData} {ps : List Str} {sp : Sp} {E : XK} {x nm : Str} {p1 p2 pos : Pos} {e : Expr} {es : List Expr} {t : TA}
theorem pe_clsfn {pl : Sem Bool} (g : Gl X x) (m : X.mg x = some (.ref C)) (c : ClsFn X.K C nm f) (F : FnOk X.prog X.w X.K X.mg X.base CX k f fd ps sp) (hr : Room k X.A) (hk : PySem.W.keepIn X.K (.ref f) = true) (hb : Binds X.K fd ps []) (hx : Passes CX X E) (ha : PA X (e :: es) t)
    (hc : eval (.Call (.Attribute (.Name x p1) nm p2) (e :: es) [] pos) X.env = (do
      let ov ← eval (.Name x p1) X.env
      standAt p2.atName
      let (f, first) ← holding [ov] (getMethod ov nm pl)
      callWith pos f first (backTo pos (starEach (e :: es) X.env)) (backToKw pos (keywordEach [] X.env))) := by rfl)
    (hdb : (x == ("__debug__" : Str)) = false := by decide) (he : starEach (e :: es) X.env = (false, eval e X.env) :: starEach es X.env := by rfl) (hpl : (backTo pos (starEach es X.env)).any (·.1) = false := by rfl) :
    PE X (.Call (.Attribute (.Name x p1) nm p2) (e :: es) [] pos) (tCall sp [] E t) := by
  refine ⟨fun pins s σ H Q I hq => PySem.W.methodCall_KW (ld_glob I g m ?_ hdb) hc⟩
  refine PySem.W.method_cls I.kIn c.ga (PySem.W.cls_value I.kIn c.rd c.fc c.hd ?_)
  refine PySem.W.callWith_K (h₀ := X.base) I.ok.mod.kin hk (thn (ha.run pos pins _ σ H _ (I.tok _) hq) fun us s2 ⟨vs, H2, I2, r2, q2⟩ => ⟨I2.kIn, ?_⟩) he hpl
  exact run_fn F hr hb .nil hx I2 r2 q2
end
end TT
namespace TT
open PySem PySem.Spec PyProof.Rows L2 HotX
section
variable {prog : Program} {w : World} {A : Around} {E : Value → Shared → Prop} {s : Shared}
end
section
variable {X : Cx} {pos : Pos}
end
section
variable {P : Program} {w : World} {K : PySem.W.Frag} {mg : Str → Option Value} {base : Heap}
theorem okN {x qual : Str} {st : Stmt} {f : Addr} {fd : FuncData} {N ps : List Str} {k : Nat} {sp : Sp} (F : Fun K x qual st f fd) (S : FnScope N ps (defScope st)) (len : ∀ vs H Q E, sp vs H Q E → vs.length = ps.length)
    (hb : ∀ (cdv : Value) (A : Around) (outer : List Env) (s : Shared) (H : Hp) (vs : List V) (Q : VK) (E : XK), Room k (A.deeper (envOfC qual (defScope st) s.heap.objs.size f cdv)) → sp vs H Q E →
      ∃ t, PSs (cxOf (L2N.CX P w) P w K mg base N qual (defScope st) f cdv A outer s H E) (defBody st) t ∧ t { nx := fun _ H' => Q .non H', rt := Q } (start N vs) H) : FnOk P w K mg base (L2N.CX P w) (k + 1) f fd ps sp := by
  obtain ⟨oc, od, kV, doc, pm, an, cdv, ct, osl, rfl, lk, hcd⟩ := F.ex
  exact fn_of lk hcd S len fun A outer s H vs Q E hr h => hb cdv A outer s H vs Q E hr h
variable {N : List Str} {qual : Str} {scope : Scope} {f : Addr} {cdv : Value} {A : Around} {outer : List Env} {s : Shared} {H : Hp} {E : XK}
theorem takesN : L2N.Takes (cxOf (L2N.CX P w) P w K mg base N qual scope f cdv A outer s H E) (fun c d _ H' => E c d H') := L2N.takes_of rfl rfl rfl rfl
theorem passN : Passes (L2N.CX P w) (cxOf (L2N.CX P w) P w K mg base N qual scope f cdv A outer s H E) E := L2N.passes_call takesN fun _ _ _ _ h => h
theorem ownN : PassesOwn (model P w) (cxOf (L2N.CX P w) P w K mg base N qual scope f cdv A outer s H E).A (cxOf (L2N.CX P w) P w K mg base N qual scope f cdv A outer s H E).env (cxOf (L2N.CX P w) P w K mg base N qual scope f cdv A outer s H E).xe := L2.passes_of (X := cxOf (L2N.CX P w) P w K mg base N qual scope f cdv A outer s H E) rfl
end
section
variable {X : Cx} {CX : CXT} {k : Nat} {ps : List Str} {sp : Sp} {E : XK} {x : Str} {p pos : Pos} {e : Expr} {es : List Expr} {t : TA}
theorem pe_calX (c : Cal X.prog X.w X.K X.mg X.base CX x ps k sp) (hx : Passes CX X E) (hr : Room k X.A) (hg : Gl X x) (ha : PA X (e :: es) t) (hdb : (x == ("__debug__" : Str)) = false := by decide) (he : starEach (e :: es) X.env = (false, eval e X.env) :: starEach es X.env := by rfl)
    (hpl : (backTo pos (starEach es X.env)).any (·.1) = false := by rfl) : PE X (.Call (.Name x p) (e :: es) [] pos) (tCall sp [] E t) := by
  obtain ⟨f, fd, o, a, b, d⟩ := c
  exact pe_call o hr hg a b d .nil hx ha hdb he hpl
end
section
variable {X : Cx} {e : Expr} {es : List Expr} {ta : TA} {p pos : Pos}
theorem pmk_oexN {CX : CXT} {x : Str} {C fI : Addr} {k : Nat} {fd : FuncData} {ps : List Str} {sp : Sp} (T : OexC X.K C) (iC : PySem.W.findIn X.K (.ref C) "__init__" = some (some (.ref fI))) (tI : PySem.W.typeIn X.K (.ref fI) = some (.type "function"))
    (F1 : FnOk X.prog X.w X.K X.mg X.base CX k fI fd ps sp) (hr : Room (k + 1) X.A) (hb : Binds X.K fd ps []) (hx : Passes CX X (fun _ _ _ => False)) (hg : Gl X x) (hm : X.mg x = some (.ref C)) (ha : PA X (e :: es) ta)
    (hdb : (x == ("__debug__" : Str)) = false := by decide) (he : starEach (e :: es) X.env = (false, eval e X.env) :: starEach es X.env := by rfl) (hpl : (backTo pos (starEach es X.env)).any (·.1) = false := by rfl) :
    L2N.PMk X (.Call (.Name x p) (e :: es) [] pos) (tMkO C sp [] ta) := by
  intro pins s σ H Q I h
  obtain ⟨nm, q, N, bs, bm, sn, sub, ab, col, dd, k0, k1, k2, k3, k5, hC, hbm⟩ := T.cls
  refine wpAny_Call_Name_kw (ld_glob I hg hm (PySem.W.callWith_K (h₀ := X.base) I.ok.mod.kin T.kC (thn (ha.run pos pins s σ H _ I h) fun us s1 ⟨vs, H1, I1, r1, hz, q1⟩ => ⟨I1.kIn, ?_⟩) he hpl) hdb)
  show wpAny _ _ (call (.ref C) us) _ _ _
  obtain ⟨hp, g, dr, tk, os⟩ := s1
  have up1 : hp.objs.size ≤ hp.objs.size + 1 := Nat.le_succ _
  have hq := q1 (hp.objs.size + 1) (I1.hok.fresh up1)
  rw [List.append_nil] at hq
  have kk : ∀ b o, hp.get? b = some o → ((hp.push (PySem.W.kdv_tup us)).push (PySem.HandSPX.excO C hp.objs.size)).get? b = some o := fun b o z => Heap.get?_push_of_some _ (Heap.get?_push_of_some _ z)
  have at1 : ((hp.push (PySem.W.kdv_tup us)).push (PySem.HandSPX.excO C hp.objs.size)).get? (hp.objs.size + 1) = some (PySem.HandSPX.excO C hp.objs.size) := by heap_get
  have I2 : Inv X pins σ (upd H1 (hp.objs.size + 1) (exo _ C none)) ⟨_, g, dr, tk, os⟩ := I1.laid (t' := tk) (a := hp.objs.size + 1) (o := exo (hp.objs.size + 1) C none) (h' := (hp.push (PySem.W.kdv_tup us)).push (PySem.HandSPX.excO C hp.objs.size)) kk up1 (exo_ok at1)
  have r2 : Vals (V.ref (hp.objs.size + 1) :: vs) (Value.ref (hp.objs.size + 1) :: us) := .cons rfl r1
  have bnd := hb _ (Value.ref (hp.objs.size + 1) :: us) I2.kIn (by rw [List.append_nil]; exact r2.length.symm.trans (F1.len _ _ _ _ hq))
  rw [List.append_nil] at bnd
  have few : us.length ≤ sizeLine := by
    rw [← Paired.length r1, sizeLine_eq]
    omega
  refine wpAny_call (PySem.HandSPX.call_own F.excBase_ValueError (fun Y => PySem.HandSPX.refsVE_contains Y bm hbm) (I1.kIn _ _ hC) (PySem.W.looks_findIn I1.kIn iC) (fun self => PySem.W.bind_fn I1.kIn self tI) few
    (codeAny_mono (F1.run _ X.stack _ _ ⟨Value.ref (hp.objs.size + 1) :: us, []⟩ (Value.ref (hp.objs.size + 1) :: us) _ _ (fun _ _ _ => False) (hr.make C us []) (I2.env0.make C us []) bnd r2 hq) fun r s' hq' => ?_))
  cases r with
  | error er => exact hx pins σ _ _ er s' I2 hq'
  | ok fl =>
    cases fl with
    | next => exact False.elim hq'
    | brk => exact False.elim hq'
    | cont => exact False.elim hq'
    | ret u =>
      obtain ⟨v, H2, os2, bare2, un2, hok2, rv, ev, d, fs, ea, ed, hd1, q2⟩ := hq'
      subst ev
      obtain ⟨h2, g2, d2, t2, os'⟩ := s'
      obtain ⟨t0, G, J, kG, ge, hoe, na⟩ := mk_end0 (d2 := d2) (t2 := t2) I1 up1 kk un2 hok2 os2 bare2 ea ed hd1
      exact ⟨rv, hp.objs.size + 1, _, _, ⟨G, g2, d2, t2, os'⟩, _, .ref C, some d, rfl, J, kG, ge, hoe, ⟨rfl, rfl, fun vs z => by cases z; rfl⟩, rfl, rfl, na, rfl, bare2, raises_own T.exC T.tyC, q2⟩
end
section
variable {X : Cx} {x1 x2 x3 n : Str} {c1 c2 c3 : Value} {i : Nat} {body suite : List Stmt} {b₀ : Stmt} {q1 q2 q3 qt pos' pos : Pos} {kk : Nat} {more : List ExceptHandler} {tb : WX → TS} {ts : Addr → Obj → TS}
end
open LamX
section
variable {X : Cx} {A : Around} {outer : List Env} {s : Shared} {H : Hp} {E : XK} {scope : Scope} {f c' : Addr}
end
section
variable {X : Cx} {pins : List (Addr × Obj)} {σ : L2.St} {H : Hp} {s : Shared}
end
def GivN (X : Cx) (Ng : List Str) (x : Str) (sg : Scope) (g : Addr) (cdg : Value) (bg : List Stmt) (a : Str) (q : Str) (k : Nat) (TO : (XK → Hp → VK → Prop) → Hp → VK → Prop) : Prop :=
  ∀ (f c' : Addr) (s : Shared) (H : Hp) (Q : VK) (tl : XK → Hp → VK → Prop), Room k (X.A.deeper (envOfC x sg s.heap.objs.size g cdg)) →
    (∀ (W : WX) (pn : List (Addr × Obj)) (xe : Value → Shared → Prop) (E : XK) (p1 p2 : Pos), L2N.Takes ((cxOf C8.CX0 X.prog X.w X.K X.mg X.base Ng x sg g cdg X.A X.stack s H C8.E0).tr pn xe) W →
      PE ((cxOf C8.CX0 X.prog X.w X.K X.mg X.base Ng x sg g cdg X.A X.stack s H C8.E0).tr pn xe) (.Call (.Name a p1) [] [] p2) (fun σZ HZ Q => (∀ cls d H', E cls d H' → W cls d σZ H') ∧ σZ[0]? = some (some (.ref f)) ∧ HZ c' = some (CodeO c' q) ∧ tl E HZ Q)) →
    H c' = some (CodeO c' q) → TO tl H Q →
    ∃ t, PSs (cxOf C8.CX0 X.prog X.w X.K X.mg X.base Ng x sg g cdg X.A X.stack s H C8.E0).nox bg t ∧ t { nx := fun _ H' => Q .non H', rt := Q } (L2.start Ng [.ref f]) H
section
variable {X : Cx}
end
end TT
namespace TT
open PySem PySem.Spec PyProof.Rows L2 HotX L2H LamX
structure FnE (P : Program) (w : World) (K : PySem.W.Frag) (mg : Str → Option Value) (base : Heap) (CX : CXT) (k : Nat) (f : Addr) (fd : FuncData) (ps : List Str) (sp : Addr × Obj → Sp) : Prop where
  len : ∀ p vs H Q E, sp p vs H Q E → vs.length = ps.length
  run : ∀ (A : Around) (outer : List Env) (s : Shared) (H : Hp) (args : Args) (us : List Value) (vs : List V) (Q : VK) (E : XK) (p : Addr × Obj), RoomH k A → Hot1 A p → PinOk outer H s p → Env0 P w K mg base A outer s H → BindsTo s fd args (ps.zip us) → Vals vs us → sp p vs H Q E →
    codeAny (model P w) A (.call (.ref f) args) (CR CX outer P w H s Q E) s
section
variable {P : Program} {w : World} {K : PySem.W.Frag} {mg : Str → Option Value} {base : Heap} {CX : CXT}
end
structure CalE (P : Program) (w : World) (K : PySem.W.Frag) (mg : Str → Option Value) (base : Heap) (x : Str) (ps : List Str) (k : Nat) (sp : Addr × Obj → Sp) : Prop where
  ex : ∃ (f : Addr) (fd : FuncData), FnE P w K mg base CX0 k f fd ps sp ∧ mg x = some (.ref f) ∧ PySem.W.keepIn K (.ref f) = true ∧ Binds K fd ps []
section
variable {X : Cx} {k : Nat} {ps : List Str} {sp : Addr × Obj → Sp} {x : Str} {q pos : Pos} {e : Expr} {es : List Expr} {t : TA} {p : Addr × Obj}
def tCallE (sp : Addr × Obj → Sp) (p : Addr × Obj) (t : TA) : TE := fun σ H Q => t σ H fun vs H1 => sp p vs H1 Q E0
def tXp (K : PySem.W.Frag) (p : Addr × Obj) (f : Str) (te : TE) : TE := fun σ H Q => te σ H fun x H1 => x = .ref p.1 ∧ ∃ (C dd : Addr) (fs : List (Str × V)) (v : V), p.2.cls = .ref C ∧ XfC K C ∧ PySem.W.findIn K (.ref C) f = some none ∧ p.2.dict = some dd ∧ H1 dd = some (.xd fs) ∧ fs.lookup f = some v ∧ Q v H1
end
end TT
namespace TT
open PySem PySem.Spec PyProof.Rows L2
structure MkE (P : Program) (w : World) (K : PySem.W.Frag) (mg : Str → Option Value) (base : Heap) (x : Str) (ps : List Str) (k : Nat) (C : Addr) (sp : Sp) : Prop where
  T : OexC K C
  ex : ∃ (fI : Addr) (fd : FuncData), PySem.W.findIn K (.ref C) "__init__" = some (some (.ref fI)) ∧ PySem.W.typeIn K (.ref fI) = some (.type "function") ∧ FnOk P w K mg base CX0 k fI fd ps sp ∧ Binds K fd ps [] ∧ mg x = some (.ref C)
theorem MkE.mono {P : Program} {w : World} {K : PySem.W.Frag} {mg : Str → Option Value} {base : Heap} {x : Str} {ps : List Str} {j k : Nat} {C : Addr} {sp : Sp} (c : MkE P w K mg base x ps j C sp) (h : j ≤ k) : MkE P w K mg base x ps k C sp := by
  obtain ⟨T, fI, fd, a, b, o, r⟩ := c
  exact ⟨T, fI, fd, a, b, o.mono h, r⟩
section
variable {X : Cx} {x : Str} {ps : List Str} {k : Nat} {C : Addr} {sp : Sp} {e : Expr} {es : List Expr} {ta : TA} {p pos rp : Pos} {W : WX}
theorem ps_raiseE (hc : X.calm = true) (tk : L2N.Takes X W) (c : MkE X.prog X.w X.K X.mg X.base x ps k C sp) (hr : Room (k + 1) X.A) (hg : Gl X x) (ha : PA X (e :: es) ta)
    (hdb : (x == ("__debug__" : Str)) = false := by decide) (he : starEach (e :: es) X.env = (false, eval e X.env) :: starEach es X.env := by rfl) (hpl : (backTo pos (starEach es X.env)).any (·.1) = false := by rfl) :
    PS X (.Raise (some (.Call (.Name x p) (e :: es) [] pos)) none rp) (fun _ σ H => tMkO C sp [] ta σ H fun cls d H' => W cls d σ H') := by
  obtain ⟨T, fI, fd, a, b, o, r, m⟩ := c
  exact L2N.ps_raise hc tk (pmk_oexN T a b o hr r pass0 hg m ha hdb he hpl)
end
end TT
namespace TT
open PySem PySem.Spec PyProof.Rows L2 LamX
def Pat (l : List Int) (u : Int) : Prop := ∃ j v, l[j]? = some v ∧ u ∈ l.take j ∧ u < v
def BadAt (l : List Int) (x : Int) : Prop := x ∈ l ∨ ∃ u, Pat l u ∧ x < u
theorem Pat.app {l : List Int} {u x : Int} (h : Pat l u) : Pat (l ++ [x]) u := by
  obtain ⟨j, v, a, b, c⟩ := h
  have lt := (List.getElem?_eq_some_iff.mp a).1
  exact ⟨j, v, by rw [List.getElem?_append_left lt]; exact a, by rw [List.take_append_of_le_length (Nat.le_of_lt lt)]; exact b, c⟩
theorem Pat.new {l : List Int} {u x : Int} (h : u ∈ l) (c : u < x) : Pat (l ++ [x]) u := ⟨l.length, x, by simp, by simpa using h, c⟩
theorem Pat.cases {l : List Int} {u x : Int} (h : Pat (l ++ [x]) u) : Pat l u ∨ (u ∈ l ∧ u < x) := by
  obtain ⟨j, v, a, b, c⟩ := h
  rcases Nat.lt_or_ge j l.length with lt | ge
  · rw [List.getElem?_append_left lt] at a
    rw [List.take_append_of_le_length (Nat.le_of_lt lt)] at b
    exact .inl ⟨j, v, a, b, c⟩
  · have lt2 := (List.getElem?_eq_some_iff.mp a).1
    simp at lt2
    obtain rfl : j = l.length := by omega
    simp at a b
    subst a
    exact .inr ⟨b, c⟩
structure Wt (l : List Int) (wt : List Int) (low : Option Int) : Prop where
  all : ∀ y ∈ l, y ∈ wt ∨ ∃ z, low = some z ∧ y ≤ z
  dec : wt.Pairwise (· > ·)
  lo : ∀ z, low = some z → ∀ y ∈ wt, z < y
  sub : ∀ y ∈ wt, y ∈ l
  pat : ∀ z, low = some z → Pat l z
  six : ∀ u, Pat l u → ∃ z, low = some z ∧ u ≤ z
  len : wt.length ≤ l.length
theorem Wt.nil : Wt [] [] none := ⟨fun _ h => (by simp at h), .nil, fun _ h => (by cases h), fun _ h => (by simp at h), fun _ h => (by cases h), fun u ⟨j, v, a, _⟩ => by simp at a, Nat.le_refl _⟩
structure Wx (l : List Int) (x : Int) (wt : List Int) (low : Option Int) : Prop where
  all : ∀ y ∈ l, y ∈ wt ∨ ∃ z, low = some z ∧ y ≤ z
  dec : wt.Pairwise (· > ·)
  lo : ∀ z, low = some z → ∀ y ∈ wt, z < y
  sub : ∀ y ∈ wt, y ∈ l
  pat : ∀ z, low = some z → Pat l z ∨ (z ∈ l ∧ z ≤ x)
  six : ∀ u, Pat l u → ∃ z, low = some z ∧ u ≤ z
  len : wt.length ≤ l.length
theorem Wt.x {l wt : List Int} {low : Option Int} (h : Wt l wt low) (x : Int) : Wx l x wt low := ⟨h.all, h.dec, h.lo, h.sub, fun z e => .inl (h.pat z e), h.six, h.len⟩
theorem Wx.pop {l w : List Int} {x t : Int} {low : Option Int} (h : Wx l x (w ++ [t]) low) (c : t ≤ x) : Wx l x w (some t) := by
  have d := List.pairwise_append.mp h.dec
  refine ⟨fun y hy => ?_, d.1, fun z e y hy => ?_, fun y hy => h.sub y (List.mem_append_left _ hy), fun z e => ?_, fun u p => ?_, by have := h.len; rw [List.length_append] at this; omega⟩
  · rcases h.all y hy with m | ⟨z, e, le⟩
    · rcases List.mem_append.mp m with m | m
      · exact .inl m
      · rw [List.mem_singleton.mp m]; exact .inr ⟨t, rfl, Int.le_refl _⟩
    · have := h.lo z e t (by simp)
      exact .inr ⟨t, rfl, by omega⟩
  · cases e
    exact d.2.2 y hy _ (by simp)
  · cases e
    exact .inr ⟨h.sub _ (by simp), c⟩
  · obtain ⟨z, e, le⟩ := h.six u p
    have := h.lo z e t (by simp)
    exact ⟨t, rfl, by omega⟩
theorem Wx.over {l wt : List Int} {x : Int} {low : Option Int} (h : Wx l x wt low) (e : ∀ t, wt.getLast? = some t → x < t) : ∀ y ∈ wt, x < y := by
  intro y hy
  rcases List.eq_nil_or_concat wt with rfl | ⟨w, t, rfl⟩
  · simp at hy
  · rw [List.concat_eq_append] at *
    have xt := e t (by simp)
    rcases List.mem_append.mp hy with m | m
    · have := (List.pairwise_append.mp h.dec).2.2 y m t (by simp)
      omega
    · rw [List.mem_singleton.mp m]; exact xt
theorem Wx.bad {l wt : List Int} {x z : Int} {low : Option Int} (h : Wx l x wt low) (e : low = some z) (c : x ≤ z) : BadAt l x := by
  rcases h.pat z e with p | ⟨m, le⟩
  · by_cases q : x = z
    · obtain ⟨j, v, a, b, _⟩ := p
      exact .inl (by rw [q]; exact List.mem_of_mem_take b)
    · exact .inr ⟨z, p, by omega⟩
  · obtain rfl : x = z := by omega
    exact .inl m
theorem str_app (a b : Str) : (a ++ b).length = a.length + b.length := by
  show (a.cps ++ b.cps).size = a.cps.size + b.cps.size
  simp
theorem int_len {i : Int} (h : i.natAbs.log2 < 1920) : (Str.ofString (toString i)).length ≤ 2000 := by
  have e := int_text_length_le (k := 1920) (by decide) h
  rw [PySem.ofString_length]
  omega
theorem fits_app {a b : Str} {m n : Nat} (ha : a.length ≤ m) (hb : b.length ≤ n) (h : m + n ≤ 100000) : (a ++ b).length ≤ sizeLine := sz (by rw [str_app]; omega)
theorem le_app {a b : Str} {m n : Nat} (ha : a.length ≤ m) (hb : b.length ≤ n) : (a ++ b).length ≤ m + n := by rw [str_app]; omega
def okK (n : Int) : Bool := decide (-1000000000 ≤ n ∧ n ≤ 1000000000)
def fieldOf (tag : Str) : Str :=
  if inV (.str tag) [.str "BadKey", .str "DuplicateKey", .str "AtRoot", .str "Overlap", .str "KeysDiffer", .str "BadWeight", .str "NoKey"] = true then "key" else
  if inV (.str tag) [.str "BadShape", .str "BadStep", .str "BadCost", .str "Contradiction", .str "ParseError"] = true then "pos" else
  if inV (.str tag) [.str "TooManyKeys", .str "TooLong", .str "TooManyTrees", .str "TooManyWatches"] = true then "limit" else
  if inV (.str tag) [.str "BadName", .str "NameTaken", .str "SameName", .str "NoTree"] = true then "name" else
  if tag = "BadSize" then "size" else if tag = "BadCommand" then "word" else "number"
structure Bears (K : PySem.W.Frag) (H : Hp) (C dd : Addr) (tag : Str) (v : V) : Prop where
  xf : XfC K C
  ft : PySem.W.findIn K (.ref C) "tag" = some none
  ff : PySem.W.findIn K (.ref C) (fieldOf tag) = some none
  ex : ∃ fs : List (Str × V), H dd = some (.xd fs) ∧ fs.lookup ("tag" : Str) = some (V.str tag) ∧ fs.lookup (fieldOf tag) = some v
theorem Bears.same {K : PySem.W.Frag} {H H' : Hp} {C dd : Addr} {tag : Str} {v : V} (b : Bears K H C dd tag v) (e : Same H H') : Bears K H' C dd tag v := by
  obtain ⟨a, b, c, fs, d, r⟩ := b
  exact ⟨a, b, c, fs, e _ _ d, r⟩
def spField (K : PySem.W.Frag) (p : Addr × Obj) : Sp := fun vs H Q _ => ∃ (C dd : Addr) (tag : Str) (v : V), vs = [.ref p.1] ∧ p.2.cls = .ref C ∧ p.2.dict = some dd ∧ Bears K H C dd tag v ∧ ∀ H', Same H H' → Q v H'
def Xo (K : PySem.W.Frag) (cT cM : Value) (Q : VK) : XK := fun cls d H' => PySem.W.exmAny K cls [cT, cM] = some true ∧ ∃ (C dd : Addr) (tag : Str) (v : V), cls = .ref C ∧ d = some dd ∧ Bears K H' C dd tag v ∧ ∀ p H'', Same H' H'' → H' p = none → H'' p = some (.tup [.non, .str tag, v]) → Q (.ref p) H''
def tOut (K : PySem.W.Frag) (cT cM : Value) (tl : XK → Hp → VK → Prop) (H : Hp) (Q : VK) : Prop := ∀ (H1 : Hp) (E : XK) (R : VK), Same H H1 → (∀ cls d H', Xo K cT cM Q cls d H' → E cls d H') →
  (∀ v H', (∀ p H'', Same H' H'' → H' p = none → H'' p = some (.tup [v, .str "", .non]) → Q (.ref p) H'') → R v H') → tl E H1 R
def spTreeI (K : PySem.W.Frag) : Sp := fun vs H Q _ => ∃ (a C : Addr) (tag told : Str), vs = [.ref a, .str tag, .str told] ∧ OexC K C ∧ H a = some (exo a C none) ∧ PySem.W.findIn K (.ref C) "tag" = some none ∧
  ∀ dx, H dx = none → dx ≠ a → Q .non (upd (upd H dx (exd dx [("tag", .str tag)])) a (exo a C (some dx)))
def spOwnI (K : PySem.W.Frag) (tag fn : Str) : Sp := fun vs H Q _ => ∃ (a C : Addr) (n : Int), vs = [.ref a, .int n] ∧ n.natAbs.log2 < 1920 ∧ OexC K C ∧ H a = some (exo a C none) ∧ PySem.W.findIn K (.ref C) "tag" = some none ∧ PySem.W.findIn K (.ref C) fn = some none ∧
  ∀ dx, H dx = none → dx ≠ a → Q .non (upd (upd (upd H dx (exd dx [("tag", .str tag)])) a (exo a C (some dx))) dx (exd dx [(fn, .int n), ("tag", .str tag)]))
theorem rd_raise {K : PySem.W.Frag} {tag fn : Str} {C : Addr} {n : Int} {H : Hp} {Q : XK} {σ : L2.St} {te : TE} (T : OexC K C) (hn : n.natAbs.log2 < 1920) (ft : PySem.W.findIn K (.ref C) "tag" = some none) (ff : PySem.W.findIn K (.ref C) fn = some none)
    (ht : ∀ R : VK, R (.int n) H → te σ H R) (q : ∀ d Hf, Same H Hf → Hf d = some (.xd [(fn, .int n), ("tag", .str tag)]) → Q (.ref C) (some d) Hf) : tMkO C (spOwnI K tag fn) [] (tCons te tNil) σ H Q := by
  refine ht _ ⟨by show 1 ≤ 1000; decide, fun a na => ⟨a, C, n, rfl, hn, T, upd_same, ft, ff, fun dx ndx nda => ⟨rfl, dx, _, ?_, upd_same, ?_, ?_⟩⟩⟩
  · rw [upd_ne (Ne.symm nda), upd_same]
  · rwa [upd_ne nda] at ndx
  · refine q dx _ (fun b o e => ?_) upd_same
    have nb : b ≠ a := ne_of_none e na
    rw [upd_ne nda] at ndx
    have nd : b ≠ dx := ne_of_none e ndx
    rw [upd_ne nd, del_ne nb, upd_ne nd, upd_ne nb, upd_ne nd, upd_ne nb]
    exact e
def spIsKey : Sp := fun vs H Q _ => ∃ n : Int, vs = [.int n] ∧ Q (.bl (okK n)) H
def Kn (ks : List Int) : Prop := ∀ n ∈ ks, n.natAbs.log2 < 1920
theorem log_small {n : Int} (h : n.natAbs < 2 ^ 100) : n.natAbs.log2 < 1920 := by
  by_cases z : n.natAbs = 0
  · rw [z]; decide
  · exact (Nat.log2_lt z).mpr (Nat.lt_trans h (Nat.pow_lt_pow_right (by decide) (by decide)))
structure Row (K : PySem.W.Frag) (c d : Addr) (ms : List Int) (T : List (Addr × Str)) (H : Hp) (rp : Addr) (ks : List Int) : Prop where
  dr : Drw c ms H d
  tb : Tabs T H
  at_ : H rp = some (.lst (ks.map V.int))
  ne : rp ≠ d
  kn : Kn ks
  len : ks.length ≤ 43
theorem Row.same {K : PySem.W.Frag} {c d : Addr} {ms : List Int} {T : List (Addr × Str)} {H H' : Hp} {rp : Addr} {ks : List Int} (h : Row K c d ms T H rp ks) (e : Same H H') : Row K c d ms T H' rp ks := ⟨h.dr.same e, h.tb.ext e, e _ _ h.at_, h.ne, h.kn, h.len⟩
def d0 : Option Nat → Str × V
  | some k => ("BadShape", .int (k : Int))
  | none => ("", .non)
def d1 (ks : List Int) (r : Option Nat) : Str × V := match ks.find? (fun n => !okK n) with
  | some n => ("BadKey", .int n)
  | none => d0 r
def spLawT (K : PySem.W.Frag) (PT : Addr) : Sp := fun vs H Q _ => ∃ (a : Addr) (ns : List Int), vs = [.ref a] ∧ SqL K H a (ns.map V.int) ∧ ns.length ≤ 63 ∧ H PT = some (.tbl #[]) ∧ ∀ H', Q (.bl true) H'
theorem tabs_ext {T : List (Addr × Str)} {H H' : Hp} {c d : Addr} {ns : List Int} (t : Tabs T H) (e : Ext d H H') (hD : Drw c ns H d) : Tabs T H' := fun p hp => by
  obtain ⟨ps, h1, h2, h3⟩ := t p hp
  obtain ⟨i, b, z, hd, _⟩ := hD
  refine ⟨ps, e _ _ (fun q => by rw [q, hd] at h1; cases h1) h1, h2, fun pos cv hc => ?_⟩
  obtain ⟨c0, e1, e2⟩ := h3 pos cv hc
  refine ⟨c0, e1, e _ _ (fun q => ?_) e2⟩
  rw [q, hd] at e2
  unfold CodeO at e2
  cases e2
theorem drw_extN {c d : Addr} {ns : List Int} {H H' : Hp} (h : Drw c ns H d) (e : ExtN H H') : Drw c ns H' d := by
  obtain ⟨i, b, z, h1, h2, r⟩ := h
  exact ⟨i, b, z, e _ _ h1 (fun ps q => by cases q), e _ _ h2 (fun ps q => by cases q), r⟩
theorem bears_mk {K : PySem.W.Frag} {H : Hp} {C dd : Addr} {tag fn : Str} {v : V} (x : XfC K C) (f1 : PySem.W.findIn K (.ref C) "tag" = some none) (f2 : PySem.W.findIn K (.ref C) fn = some none) (h : H dd = some (.xd [(fn, v), ("tag", .str tag)])) (e : fieldOf tag = fn) (n : (("tag" : Str) == fn) = false) : Bears K H C dd tag v := by
  refine ⟨x, f1, by rw [e]; exact f2, _, h, ?_, by rw [e]; simp [List.lookup]⟩
  simp [List.lookup, n]
theorem CalE.mono {P : Program} {w : World} {K : PySem.W.Frag} {mg : Str → Option Value} {base : Heap} {x : Str} {ps : List Str} {j k : Nat} {sp : Addr × Obj → Sp} (c : CalE P w K mg base x ps j sp) (h : j ≤ k) : CalE P w K mg base x ps k sp := by
  obtain ⟨f, fd, o, r⟩ := c.ex
  exact ⟨f, fd, ⟨o.len, fun A outer s H args us vs Q E p hr => o.run A outer s H args us vs Q E p (hr.mono h)⟩, r⟩
def oexB (K : PySem.W.Frag) (C : Addr) : Bool := match K.lookup C with
  | some ⟨.type "type", _, .cls cd, sl⟩ => (match cd.mro, sl.toList with
    | .ref C' :: bm, [_, _, _, _, some (.builtin n), _] => C' == C && n == "ValueError.__new__" && !cd.hasDel && cd.hasDict && PySem.HandSPX.refsVE bm
    | _, _ => false)
  | _ => false
theorem oexB_cls {K : PySem.W.Frag} {C : Addr} (q : oexB K C = true) : ∃ nm q N bs bm sn sub ab col dd k0 k1 k2 k3 k5, K.lookup C = some (excClassObj nm q C N bs bm true sn sub ab col dd k0 k1 k2 k3 k5 "ValueError.__new__") ∧ PySem.HandSPX.refsVE bm = true := by
  unfold oexB at q
  split at q
  · rename_i dd cd sl ho
    split at q
    · rename_i C' bm k0 k1 k2 k3 n k5 hm hs
      simp only [Bool.and_eq_true, beq_iff_eq, Bool.not_eq_true'] at q
      obtain ⟨⟨⟨⟨rfl, rfl⟩, hdel⟩, hdct⟩, hv⟩ := q
      obtain ⟨nm, bs, mro, ns, qn, hd, sn, sub, ab, col, del⟩ := cd
      dsimp only at hm hdel hdct
      subst hm hdel hdct
      obtain ⟨l⟩ := sl
      simp only at hs
      subst hs
      exact ⟨nm, qn, ns, bs, bm, sn, sub, ab, col, dd, k0, k1, k2, k3, k5, ho, hv⟩
    · cases q
  · cases q
end TT
namespace TT
open PySem PySem.Spec PyProof.Rows L2
abbrev leTail : List Value := [.type "LookupError", .type "Exception", .type "BaseException", .type "object"]
inductive OverL : List Value → Prop
  | base : OverL leTail
  | own (c : Addr) (r : List Value) : OverL r → OverL (.ref c :: r)
theorem OverL.has {l : List Value} (o : OverL l) (Y : String) : l.contains (.type Y) = leTail.contains (.type Y) := by
  induction o with
  | base => rfl
  | own c r _ ih => rw [List.contains_cons, ih]; rfl
theorem OverL.some {l : List Value} (o : OverL l) : l.isEmpty = false := by cases o <;> rfl

section
open Builtin Builtin.ObjectAttr
variable {prog : Program} {w : World} {A : Around} {E : Value → Shared → Prop} {R : Result → Shared → Prop} {hp : Heap} {gs : Array GenState} {dr : Drawn} {tt : Nat} {os : OsState} {K : PySem.W.Frag} {nm : Str} {tk : Tok} {v : Value} {x C : Addr} {cd : ClassData}
end
structure OexL (K : PySem.W.Frag) (C : Addr) : Prop where
  cls : ∃ nm q N bs bm sn sub ab col dd k0 k1 k2 k3 k5, K.lookup C = some (excClassObj nm q C N bs bm true sn sub ab col dd k0 k1 k2 k3 k5 "LookupError.__new__") ∧ OverL bm
  sa : PySem.W.findIn K (.ref C) "__setattr__" = some (some (.builtin "object.__setattr__"))
  exC : PySem.W.subIn K (.ref C) (.type "BaseException") = some true
  tyC : PySem.W.typeIn K (.ref C) = some (.type "type")
  kC : PySem.W.keepIn K (.ref C) = true
section
variable {X : Cx} {pins : List (Addr × Obj)} {σ : L2.St} {H : Hp} {s : Shared} {a C dx : Addr} {f : Str} {y : V} {u : Value} {fs : List (Str × V)} {Q : Unit → Shared → Prop} {E : Value → Shared → Prop} {A : Around}
theorem OexL.cd {K : PySem.W.Frag} {C : Addr} (T : OexL K C) : ∃ cd, PySem.W.clsIn K C = some cd ∧ OverL cd.mro ∧ cd.hasDict = true := by
  obtain ⟨nm, q, N, bs, bm, sn, sub, ab, col, dd, k0, k1, k2, k3, k5, hC, ob⟩ := T.cls
  exact ⟨{ name := nm, bases := bs, mro := .ref C :: bm, ns := N, qualname := q, hasDict := true, slotNames := sn, subclasses := sub, abstract := ab, collection := col, hasDel := false }, by unfold PySem.W.clsIn; rw [hC] <;> rfl, .own _ _ ob, rfl⟩
end

section
variable {X : Cx} {o e : Expr} {es : List Expr} {to te : TE} {ta : TA} {f : Str} {p p' p1 p2 pos : Pos}
end
structure MkL (P : Program) (w : World) (K : PySem.W.Frag) (mg : Str → Option Value) (base : Heap) (x : Str) (ps : List Str) (k : Nat) (C : Addr) (sp : Sp) : Prop where
  T : OexL K C
  ex : ∃ (fI : Addr) (fd : FuncData), PySem.W.findIn K (.ref C) "__init__" = some (some (.ref fI)) ∧ PySem.W.typeIn K (.ref fI) = some (.type "function") ∧ FnOk P w K mg base CX0 k fI fd ps sp ∧ Binds K fd ps [] ∧ mg x = some (.ref C)
theorem MkL.mono {P : Program} {w : World} {K : PySem.W.Frag} {mg : Str → Option Value} {base : Heap} {x : Str} {ps : List Str} {j k : Nat} {C : Addr} {sp : Sp} (c : MkL P w K mg base x ps j C sp) (h : j ≤ k) : MkL P w K mg base x ps k C sp := by
  obtain ⟨T, fI, fd, a, b, o, r⟩ := c
  exact ⟨T, fI, fd, a, b, o.mono h, r⟩
section
variable {X : Cx} {x : Str} {ps : List Str} {k : Nat} {C : Addr} {sp : Sp} {e : Expr} {es : List Expr} {ta : TA} {p pos rp : Pos} {W : WX}
end
end TT
namespace TT
open PySem PySem.Spec PyProof.Rows L2 HotX LamX
theorem Un.comp {fs fs' : List Addr} {H H1 H2 : Hp} {h h1 h2 : Heap} (a : Un fs [] H H1 h h1) (b : Un fs' [] H1 H2 h1 h2) (sub : ∀ x ∈ fs', x ∈ fs ∨ h.get? x = none) (sup : ∀ x ∈ fs, x ∈ fs') : Un fs [] H H2 h h2 where
  keep := fun x o e n nf nx => b.keep x o (a.keep x o e n nf nx) (a.free x o e n nx) (fun m => (sub x m).elim nf fun z => by rw [z] at e; cases e) nx
  slot := fun x o e n mf nx => by
    obtain ⟨sl, e1⟩ := a.slot x o e n mf nx
    obtain ⟨sl2, e2⟩ := b.slot x _ e1 (a.free x o e n nx) (sup x mf) nx
    exact ⟨sl2, e2⟩
  free := fun x o e n nx => by
    obtain ⟨sl, e1⟩ := a.any e n nx
    exact b.free x _ e1 (a.free x o e n nx) nx
  there := fun x o e nx => by
    obtain ⟨o1, e1⟩ := a.there x o e nx
    exact b.there x o1 e1 nx
  tups := fun x xs e => b.tups x xs (a.tups x xs e)
  frzs := fun x o u e => b.frzs x o u (a.frzs x o u e)
  tbls := fun x ps e => by
    obtain ⟨m1, e1⟩ := a.tbls x ps e
    obtain ⟨m2, e2⟩ := b.tbls x _ e1
    exact ⟨m1 ++ m2, by rw [e2, Array.append_assoc]⟩
section
variable {X : Cx} {pins : List (Addr × Obj)} {σ : L2.St} {H : Hp} {s : Shared}
end

def ActG (X : Cx) (f c' : Addr) (s : Shared) (H : Hp) (q : Str) (k : Nat) (tl : XK → Hp → VK → Prop) : Prop :=
  ∀ (Ng : List Str) (qg : Str) (sg : Scope) (g : Addr) (cdg : Value) (YA : Around) (Ys : List Env) (s0 : Shared) (H0 : Hp) (a : Str) (W : WX) (pn : List (Addr × Obj)) (xe : Value → Shared → Prop) (E : XK) (p1 p2 : Pos),
    Un (frs X.stack) [] H H0 s.heap s0.heap → (∀ b ∈ frs Ys, b ∈ frs X.stack ∨ s.heap.get? b = none) → (∀ b ∈ frs X.stack, b ∈ frs Ys) → Ng[0]? = some a → Vis sg a → (a == ("__debug__" : Str)) = false → (a == ("__classdict__" : Str)) = false → Room (k + 1) (YA.deeper (envOfC qg sg s0.heap.objs.size g cdg)) →
    L2N.Takes ((cxOf C8.CX0 X.prog X.w X.K X.mg X.base Ng qg sg g cdg YA Ys s0 H0 C8.E0).tr pn xe) W →
    PE ((cxOf C8.CX0 X.prog X.w X.K X.mg X.base Ng qg sg g cdg YA Ys s0 H0 C8.E0).tr pn xe) (.Call (.Name a p1) [] [] p2) (fun σZ HZ Q => (∀ cls d H', E cls d H' → W cls d σZ H') ∧ σZ[0]? = some (some (.ref f)) ∧ HZ c' = some (CodeO c' q) ∧ tl E HZ Q)
def GivM (X : Cx) (Ng : List Str) (x : Str) (sg : Scope) (g : Addr) (cdg : Value) (bg : List Stmt) (q : Str) (j k : Nat) (TO : (XK → Hp → VK → Prop) → Hp → VK → Prop) : Prop :=
  ∀ (f c' : Addr) (s : Shared) (H : Hp) (Q : VK) (tl : XK → Hp → VK → Prop), Room k (X.A.deeper (envOfC x sg s.heap.objs.size g cdg)) → ActG X f c' s H q j tl → H c' = some (CodeO c' q) → TO tl H Q →
    ∃ t, PSs (cxOf C8.CX0 X.prog X.w X.K X.mg X.base Ng x sg g cdg X.A X.stack s H C8.E0).nox bg t ∧ t { nx := fun _ H' => Q .non H', rt := Q } (L2.start Ng [.ref f]) H
section
variable {X : Cx}
theorem GivM.of {Ng : List Str} {x a q : Str} {sg : Scope} {g : Addr} {cdg : Value} {bg : List Stmt} {k : Nat} {TO : (XK → Hp → VK → Prop) → Hp → VK → Prop} (hG : GivN X Ng x sg g cdg bg a q (k + 1) TO) (hN : Ng[0]? = some a) (hv : Vis sg a) (d1 : (a == ("__debug__" : Str)) = false := by decide) (d2 : (a == ("__classdict__" : Str)) = false := by decide) :
    GivM X Ng x sg g cdg bg q k (k + 1) TO := fun f c' s H Q tl hr act hc h =>
  hG f c' s H Q tl hr (fun W pn xe E p1 p2 tk => act Ng x sg g cdg X.A X.stack s H a W pn xe E p1 p2 (Un.refl) (fun _ h => .inl h) (fun _ h => h) hN hv d1 d2 hr tk) hc h
end
end TT
namespace TT
open PySem PySem.Spec PyProof.Rows L2 LamX
open T
def ENo (C : Addr) (key : Int) (H : Hp) (E : XK) : Prop := ∀ d Hf, Same H Hf → Hf d = some (.xd [("key", .int key), ("tag", .str "NoKey")]) → E (.ref C) (some d) Hf
theorem ENo.same {C : Addr} {key : Int} {H H1 : Hp} {E : XK} (h : ENo C key H E) (e : Same H H1) : ENo C key H1 E := fun d Hf e2 hd => h d Hf (e.trans e2) hd
def tErr (K : PySem.W.Frag) (cT cM : Value) (tl : XK → Hp → VK → Prop) (H : Hp) (Q : VK) : Prop := tOut K cT cM tl H fun v H' => ∃ (p : Addr) (x : V) (tag : Str) (y : V), v = .ref p ∧ H' p = some (.tup [x, .str tag, y]) ∧ ∀ r, H' r = none → Q (.ref r) (upd H' r (.tup [.str tag, y]))
theorem passF {X : Cx} : Passes (L2N.CX X.prog X.w) X (fun _ _ _ => False) := fun _ _ _ _ _ _ _ h => by
  obtain ⟨_, _, _, _, _, _, _, _, _, _, _, _, z⟩ := h
  exact z.elim
section
variable {X : Cx} {CX : CXT} {ps ks : List Str} {k n : Nat} {sp : Sp} {x : Str} {e : Expr} {es : List Expr} {kws : List Keyword} {t tk : TA} {p pos : Pos} {gV : List V → List V → List V} {E : XK}
end
end TT
namespace TT
open PySem PySem.Spec PyProof.Rows L2 LamX
open T
def EOw (C : Addr) (tag fn : Str) (n : Int) (H : Hp) (E : XK) : Prop := ∀ d Hf, Same H Hf → Hf d = some (.xd [(fn, .int n), ("tag", .str tag)]) → E (.ref C) (some d) Hf
theorem EOw.same {C : Addr} {tag fn : Str} {n : Int} {H H1 : Hp} {E : XK} (h : EOw C tag fn n H E) (e : Same H H1) : EOw C tag fn n H1 E := fun d Hf e2 hd => h d Hf (e.trans e2) hd
def DueI (H : Hp) (du : Addr) (key : Int) (t : T) : Prop :=
  (okK key = false ∧ H du = some (.tup [.non, .str "BadKey", .int key])) ∨ (okK key = true ∧ key ∈ t.pre ∧ H du = some (.tup [.non, .str "DuplicateKey", .int key])) ∨
  (okK key = true ∧ key ∉ t.pre ∧ t.pre.length = 40 ∧ H du = some (.tup [.non, .str "TooManyKeys", .int 40])) ∨
  (okK key = true ∧ key ∉ t.pre ∧ t.pre.length < 40 ∧ ∃ pq q, H du = some (.tup [.ref pq, .str "", .non]) ∧ H pq = some (.tup [.ref q, .int ((t.path key).length : Int)]) ∧ H q = some (.tup ((topL key t.pre).map V.int)))
theorem DueI.same {H H' : Hp} {du : Addr} {key : Int} {t : T} (h : DueI H du key t) (e : Same H H') : DueI H' du key t := by
  rcases h with ⟨a, b⟩ | ⟨a, b, c⟩ | ⟨a, b, c, d⟩ | ⟨a, b, c, pq, q, d1, d2, d3⟩
  · exact .inl ⟨a, e _ _ b⟩
  · exact .inr (.inl ⟨a, b, e _ _ c⟩)
  · exact .inr (.inr (.inl ⟨a, b, c, e _ _ d⟩))
  · exact .inr (.inr (.inr ⟨a, b, c, pq, q, e _ _ d1, e _ _ d2, e _ _ d3⟩))
theorem eqv_flat {H : Hp} {x : V} (h : flatV x = true) : ∀ {n : Nat}, Eqv H n x x
  | 0 => ⟨h, rfl⟩
  | n + 1 => .inl ⟨h, rfl⟩
end TT
namespace TT
open PySem PySem.Spec PyProof.Rows L2 LamX
open T
theorem Cal.imp {P : Program} {w : World} {K : PySem.W.Frag} {mg : Str → Option Value} {base : Heap} {CX : CXT} {x : Str} {ps : List Str} {k : Nat} {sp sp' : Sp} (c : Cal P w K mg base CX x ps k sp') (i : ∀ vs H Q E, sp vs H Q E → sp' vs H Q E) : Cal P w K mg base CX x ps k sp := by
  obtain ⟨f, fd, o, a, b, d⟩ := c.ex
  exact ⟨f, fd, ⟨fun vs H Q E h => o.len vs H Q E (i _ _ _ _ h), fun A outer s H args us vs Q E hr he hb hv h => o.run A outer s H args us vs Q E hr he hb hv (i _ _ _ _ h)⟩, a, b, d⟩
end TT
namespace TT
open PySem PySem.Spec PyProof.Rows L2 LamX
open T
section
variable {X : Cx} {CX : CXT} {ps ks : List Str} {k n : Nat} {sp : Sp} {x : Str} {e : Expr} {es : List Expr} {kws : List Keyword} {t tk : TA} {p pos : Pos} {gV : List V → List V → List V} {E : XK}
end
def MaxOf (l : List Int) (m : Int) : Prop := m ∈ l ∧ ∀ y ∈ l, y ≤ m
def JnA (t u : T) (gs : List Int) (tot : Int) : Prop := ((t.pre = [] ∨ u.pre = []) ∧ gs = t.pre ++ u.pre ∧ tot = 0) ∨ (t.pre ≠ [] ∧ u.pre ≠ [] ∧ t.pre.length + u.pre.length ≤ 40 ∧ ∃ m, MaxOf t.pre m ∧ (∀ y ∈ u.pre, m < y) ∧ gs = topL m t.pre ++ u.pre ∧ tot = (t.dep m : Int))
def JnO (t u : T) (m : Int) : Prop := MaxOf t.pre m ∧ ∃ y ∈ u.pre, y ≤ m
def JnT (t u : T) : Prop := t.pre ≠ [] ∧ u.pre ≠ [] ∧ 40 < t.pre.length + u.pre.length ∧ ∃ m, MaxOf t.pre m ∧ ∀ y ∈ u.pre, m < y
def DueJ (H : Hp) (du : Addr) (t u : T) : Prop :=
  (∃ gs tot pq q, JnA t u gs tot ∧ H du = some (.tup [.ref pq, .str "", .non]) ∧ H pq = some (.tup [.ref q, .int tot]) ∧ H q = some (.tup (gs.map V.int))) ∨
  (∃ m, JnO t u m ∧ H du = some (.tup [.non, .str "Overlap", .int m])) ∨ (JnT t u ∧ H du = some (.tup [.non, .str "TooManyKeys", .int 40]))
theorem DueJ.kept {H H' : Hp} {du : Addr} {t u : T} (h : DueJ H du t u) (e : ∀ x xs, H x = some (.tup xs) → H' x = some (.tup xs)) : DueJ H' du t u := by
  rcases h with ⟨gs, tot, pq, q, a, b, c, d⟩ | ⟨m, a, b⟩ | ⟨a, b⟩
  · exact .inl ⟨gs, tot, pq, q, a, e _ _ b, e _ _ c, e _ _ d⟩
  · exact .inr (.inl ⟨m, a, e _ _ b⟩)
  · exact .inr (.inr ⟨a, e _ _ b⟩)
theorem JnA.len {t u : T} {gs : List Int} {tot : Int} (h : JnA t u gs tot) (l1 : t.pre.length ≤ 40) (l2 : u.pre.length ≤ 40) : gs.length ≤ 1000 := by
  rcases h with ⟨_, rfl, _⟩ | ⟨_, _, _, m, _, _, rfl, _⟩
  · rw [List.length_append]; omega
  · rw [List.length_append]; have := topL_len (x := m) (ks := t.pre); omega
def PairOk (H : Hp) (v : V) : Prop := ∃ (p a b : Addr) (t u : T), v = .ref p ∧ H p = some (.tup [.ref a, .ref b]) ∧ H a = some (.tup (t.pre.map V.int)) ∧ H b = some (.tup (u.pre.map V.int)) ∧ t.bst ∧ u.bst ∧ t.pre.length ≤ 40 ∧ u.pre.length ≤ 40 ∧ Kn t.pre
theorem PairOk.kept {H H' : Hp} {v : V} (h : PairOk H v) (e : ∀ x xs, H x = some (.tup xs) → H' x = some (.tup xs)) : PairOk H' v := by
  obtain ⟨p, a, b, t, u, h1, h2, h3, h4, r⟩ := h
  exact ⟨p, a, b, t, u, h1, e _ _ h2, e _ _ h3, e _ _ h4, r⟩
end TT
namespace TT
open PySem PySem.Spec PyProof.Rows L2
section
variable {prog : Program} {w : World} {A : Around} {R : Result → Shared → Prop} {I : Addr} {fp wr : List Addr} {n : Nat} {P : Nat → Value → Prop} {St : Nat → Heap → Prop}

end
section
variable {prog : Program} {w : World} {A : Around} {E : Value → Shared → Prop} {s : Shared}
end
section
variable {X : Cx}

end
end TT
namespace TT
open PySem PySem.Spec PyProof.Rows L2 LamX
open T
def T.bdL (p : Int) : T → Option Int → Option Int
  | leaf, lo => lo
  | node l k r, lo => if p = k then lo else if p < k then l.bdL p lo else r.bdL p (some k)
def T.bdH (p : Int) : T → Option Int → Option Int
  | leaf, hi => hi
  | node l k r, hi => if p = k then hi else if p < k then l.bdH p (some k) else r.bdH p hi
def T.at (p : Int) : T → T
  | leaf => leaf
  | node l k r => if p = k then node l k r else if p < k then l.at p else r.at p
section
variable {X : Cx}
end
end TT
namespace TT
open PySem PySem.Spec PyProof.Rows L2 LamX
open T
section
variable {X : Cx} {k : Nat} {S : Addr → Sp → Prop} {e0 e : Expr} {es : List Expr} {te : TE} {t : TA} {pos : Pos}
end
def Sq (K : PySem.W.Frag) (H : Hp) (a : Addr) (xs : List V) : Prop := SqL K H a xs ∨ SqT K H a xs
theorem Sq.same {K : PySem.W.Frag} {H H' : Hp} {a : Addr} {xs : List V} (h : Sq K H a xs) (e : Same H H') : Sq K H' a xs := h.elim (fun h => .inl (e.seq h)) fun h => .inr (Same.tup e h)
def Dup1 (ks : List Int) (d : Int) : Prop := ∃ i, ks[i]? = some d ∧ d ∈ ks.take i ∧ ∀ j x, j < i → ks[j]? = some x → x ∉ ks.take j
theorem Dup1.not {ks : List Int} {d : Int} (h : Dup1 ks d) (n : ks.Nodup) : False := by
  obtain ⟨i, a, b, _⟩ := h
  obtain ⟨j, hj, e⟩ := List.mem_take_iff_getElem.mp b
  obtain ⟨hi, e2⟩ := List.getElem?_eq_some_iff.mp a
  have := (List.pairwise_iff_getElem.mp n) j i (by omega) hi (by omega)
  exact this (e.trans e2.symm)
def DueB (H : Hp) (du : Addr) (ks : List Int) : Prop :=
  (40 < ks.length ∧ H du = some (.tup [.non, .str "TooManyKeys", .int 40])) ∨
  (ks.length ≤ 40 ∧ ∃ n, ks.find? (fun n => !okK n) = some n ∧ H du = some (.tup [.non, .str "BadKey", .int n])) ∨
  (ks.length ≤ 40 ∧ ks.find? (fun n => !okK n) = none ∧ ∃ d, Dup1 ks d ∧ H du = some (.tup [.non, .str "DuplicateKey", .int d])) ∨
  (ks.length ≤ 40 ∧ ks.find? (fun n => !okK n) = none ∧ ks.Nodup ∧ ∃ q, H du = some (.tup [.ref q, .str "", .non]) ∧ H q = some (.tup ((insAll ks leaf).pre.map V.int)))
theorem DueB.kept {H H' : Hp} {du : Addr} {ks : List Int} (h : DueB H du ks) (e : ∀ x xs, H x = some (.tup xs) → H' x = some (.tup xs)) : DueB H' du ks := by
  rcases h with ⟨a, b⟩ | ⟨a, n, b, c⟩ | ⟨a, b, d, c, g⟩ | ⟨a, b, c, q, g1, g2⟩
  · exact .inl ⟨a, e _ _ b⟩
  · exact .inr (.inl ⟨a, n, b, e _ _ c⟩)
  · exact .inr (.inr (.inl ⟨a, b, d, c, e _ _ g⟩))
  · exact .inr (.inr (.inr ⟨a, b, c, q, e _ _ g1, e _ _ g2⟩))
theorem tabs_lst {T : List (Addr × Str)} {H : Hp} {o : Addr} {xs ys : List V} (t : Tabs T H) (h : H o = some (.lst xs)) : Tabs T (upd H o (.lst ys)) := fun p hp => by
  obtain ⟨ps, h1, h2, h3⟩ := t p hp
  refine ⟨ps, by rw [upd_ne (fun q => by rw [q, h] at h1; cases h1)]; exact h1, h2, fun pos cv hc => ?_⟩
  obtain ⟨c0, e1, e2⟩ := h3 pos cv hc
  refine ⟨c0, e1, by rw [upd_ne (fun q => by rw [q, h] at e2; unfold CodeO at e2; cases e2)]; exact e2⟩
def DueC (H : Hp) (du : Addr) (ks : List Int) : Prop := (∃ d, Dup1 ks d ∧ H du = some (.tup [.non, .str "DuplicateKey", .int d])) ∨ (ks.Nodup ∧ ∃ q, H du = some (.tup [.ref q, .str "", .non]) ∧ H q = some (.tup ((insAll (ks.take 41) leaf).pre.map V.int)))
def DueD (H : Hp) (du : Addr) (ks : List Int) : Prop := (∃ n, ks.find? (fun n => !okK n) = some n ∧ H du = some (.tup [.non, .str "BadKey", .int n])) ∨ (ks.find? (fun n => !okK n) = none ∧ DueC H du ks)
theorem DueC.same {H H' : Hp} {du : Addr} {ks : List Int} (h : DueC H du ks) (e : Same H H') : DueC H' du ks := by
  rcases h with ⟨d, a, b⟩ | ⟨a, q, b, c⟩
  · exact .inl ⟨d, a, e _ _ b⟩
  · exact .inr ⟨a, q, e _ _ b, e _ _ c⟩
theorem DueD.same {H H' : Hp} {du : Addr} {ks : List Int} (h : DueD H du ks) (e : Same H H') : DueD H' du ks := by
  rcases h with ⟨d, a, b⟩ | ⟨a, b⟩
  · exact .inl ⟨d, a, e _ _ b⟩
  · exact .inr ⟨a, b.same e⟩
theorem DueD.to {H : Hp} {du : Addr} {ks : List Int} (h : DueD H du ks) (l : ks.length ≤ 40) : DueB H du ks := by
  rcases h with ⟨n, a, b⟩ | ⟨a, ⟨d, b, c⟩ | ⟨b, q, c, g⟩⟩
  · exact .inr (.inl ⟨l, n, a, b⟩)
  · exact .inr (.inr (.inl ⟨l, a, d, b, c⟩))
  · rw [List.take_of_length_le (by omega)] at g
    exact .inr (.inr (.inr ⟨l, a, b, q, c, g⟩))
end TT
namespace TT
open PySem PySem.Spec PyProof.Rows L2 LamX
open T
def TupX (H : Hp) (a : Addr) (xs : List V) : Prop := ∃ o : Obj, o.dict = none ∧ H a = some (.frz o (.tup xs))
theorem TupX.same {H H' : Hp} {a : Addr} {xs : List V} (h : TupX H a xs) (e : Same H H') : TupX H' a xs := by
  obtain ⟨o, n, q⟩ := h
  exact ⟨o, n, e _ _ q⟩
section
variable {X : Cx}
variable {o e : Expr} {es : List Expr} {to : TE} {t : TA} {name : Str} {apos cpos : Pos} {id : String} {r : V → List V → Hp → VK → Prop}
end
def RdT (H : Hp) (a : Addr) (xs : List V) : Prop := H a = some (.tup xs) ∨ ∃ o, H a = some (.frz o (.tup xs))
theorem TupX.rd {H : Hp} {a : Addr} {xs : List V} (h : TupX H a xs) : RdT H a xs := by
  obtain ⟨o, _, e⟩ := h
  exact .inr ⟨o, e⟩
theorem RdT.same {H H' : Hp} {a : Addr} {xs : List V} (h : RdT H a xs) (e : Same H H') : RdT H' a xs := by
  rcases h with h | ⟨o, h⟩
  · exact .inl (e _ _ h)
  · exact .inr ⟨o, e _ _ h⟩
theorem RdT.ty {K : PySem.W.Frag} {H : Hp} {a : Addr} {xs : List V} (h : RdT H a xs) : TyX K H (.ref a) (.type "tuple") := by
  rcases h with h | ⟨o, h⟩
  · exact .base (.tup h)
  · exact .fTuple h
end TT
namespace TT
open PySem PySem.Spec PyProof.Rows L2 HotX LamX
abbrev lamF (q : Str) (ar : Arguments) (bd : Expr) (sc : Scope) (cl : List (Str × Addr)) (pm dv cv tv : Value) : FuncData :=
  { PySem.W.kla_fn "<lambda>" q ar bd sc cl pm cv tv with defaults := dv }
abbrev lamOb (q : Str) (ar : Arguments) (bd : Expr) (sc : Scope) (cl : List (Str × Addr)) (pm dv cv tv : Value) : Obj :=
  { cls := .type "function", data := .func (lamF q ar bd sc cl pm dv cv tv) }
section
variable {X : Cx} {pins : List (Addr × Obj)} {σ : L2.St} {H : Hp} {s : Shared}
def DefAt (H : Hp) : Bool → Value → Prop
  | false, dv => dv = .none
  | true, dv => ∃ (d : Addr) (v : Value), dv = .ref d ∧ H d = some (.frz { cls := .type "tuple", data := .seq #[v] } (.own d))
theorem DefAt.ext {H H' : Hp} {b : Bool} {dv : Value} (h : DefAt H b dv) (e : ∀ a o u, H a = some (.frz o u) → H' a = some (.frz o u)) : DefAt H' b dv := by
  cases b with
  | false => exact h
  | true =>
    obtain ⟨d, v, e1, e2⟩ := h
    exact ⟨d, v, e1, e _ _ _ e2⟩
def LamAt (X : Cx) (H : Hp) (f : Addr) (ar : Arguments) (bd : Expr) (sc : Scope) (b : Bool) : Prop :=
  ∃ (c' : Addr) (pm dv tv : Value), H f = some (.frz (lamOb (X.env.qual ++ "<lambda>") ar bd sc (cloFrom X.env.cells sc.names []) pm dv (.ref c') tv) (.own f)) ∧ DefAt H b dv ∧ H c' = some (CodeO c' (X.env.qual ++ "<lambda>"))
theorem LamAt.ext {H H' : Hp} {f : Addr} {ar : Arguments} {bd : Expr} {sc : Scope} {b : Bool} (h : LamAt X H f ar bd sc b) (e : ExtN H H') : LamAt X H' f ar bd sc b := by
  obtain ⟨c', pm, dv, tv, h1, h2, h3⟩ := h
  exact ⟨c', pm, dv, tv, e _ _ h1 (fun ps z => by cases z), h2.ext fun a o u z => e _ _ z fun ps q => (by cases q), e _ _ h3 codeO_ne⟩
end
end TT
namespace TT
open PySem PySem.Spec PyProof.Rows L2 HotX LamX
structure LamW (N : List Str) (so sc : Scope) : Prop where
  kind : sc.kind = .function
  co : sc.isCoroutine = false
  gen : sc.isGenerator = false
  cel : ∀ y ∈ sc.names, y.2 ≠ .cell
  loc : ∀ y ∈ sc.names, y.2 = .local → y.1 ∉ N
  free : ∀ y ∈ sc.names, y.2 = .free → so.names.lookup y.1 = some .cell ∨ so.names.lookup y.1 = some .free
theorem LamW.has {X : Cx} {sc : Scope} (L : LamW X.N X.env.scope sc) (ok : X.Ok) : ∀ y ∈ sc.names, y.2 = .free → ∃ c, X.env.cells.lookup y.1 = some c := fun y hy e =>
  ok.has _ ((L.free y hy e).imp id id)
section
variable {X : Cx} {pins : List (Addr × Obj)} {σ : L2.St} {H HZ : Hp} {s s1 : Shared}
end
section
variable {X : Cx} {σ : L2.St}
end
end TT
namespace TT
open PySem PySem.Spec PyProof.Rows L2 HotX LamX
section
variable {X : Cx}
end
end TT
namespace TT
open PySem PySem.Spec PyProof.Rows L2 HotX LamX T
section
variable {d : Addr} {o : Obj} {kvs : List (Key × V)} {g : TG} {tt : L2.TT} {te : TE} {vs : List Nat} {σ : L2.St} {H1 : Hp} {D : Addr} {Qd : Hp → Prop}
end
inductive EqvS (H : Hp) (n : Nat) : List V → List V → Prop
  | nil : EqvS H n [] []
  | cons {x y : V} {xs ys : List V} : Eqv H n x y → EqvS H n xs ys → EqvS H n (x :: xs) (y :: ys)
theorem EqvS.len {H : Hp} {n : Nat} {xs ys : List V} (h : EqvS H n xs ys) : xs.length = ys.length := by
  induction h with
  | nil => rfl
  | cons _ _ ih => rw [List.length_cons, List.length_cons, ih]
theorem EqvS.get {H : Hp} {n : Nat} {xs ys : List V} (h : EqvS H n xs ys) : ∀ (i : Nat) u v, xs[i]? = some u → ys[i]? = some v → Eqv H n u v := by
  induction h with
  | nil => intro i u v h; cases h
  | cons e _ ih =>
    intro i u v h1 h2
    cases i with
    | zero => cases h1; cases h2; exact e
    | succ i => exact ih i u v h1 h2
theorem EqvS.same {H H' : Hp} {n : Nat} {xs ys : List V} (h : EqvS H n xs ys) (e : Same H H') : EqvS H' n xs ys := by
  induction h with
  | nil => exact .nil
  | cons a _ ih => exact .cons (a.same e) ih
end TT
namespace TT
open PySem PySem.Spec PyProof.Rows L2 HotX LamX T
section
variable {K : PySem.W.Frag} {q : Addr} {fs : List Addr} {g : TG} {te : TE} {vs : List Nat} {σ : L2.St} {H1 : Hp} {D : Addr} {Qd : Hp → Prop} {tp : List V}
end
end TT
namespace TT
open PySem PySem.Spec PyProof.Rows L2 HotX LamX T
def EqvX (H : Hp) : Nat → V → V → Prop
  | 0, x, y => flatV x = true ∧ x = y
  | n + 1, x, y => (flatV x = true ∧ x = y) ∨ ∃ a b xs ys, x = .ref a ∧ y = .ref b ∧ ((H a = some (.lst xs) ∧ H b = some (.lst ys)) ∨ (RdT H a xs ∧ RdT H b ys)) ∧ xs.length = ys.length ∧ xs.length ≤ 1000 ∧ ∀ (i : Nat) u v, xs[i]? = some u → ys[i]? = some v → EqvX H n u v
theorem EqvX.same {H H' : Hp} (e : Same H H') : ∀ {n : Nat} {x y : V}, EqvX H n x y → EqvX H' n x y
  | 0, _, _, h => (show flatV _ = true ∧ _ from h)
  | n + 1, _, _, h => by
    rcases h with h | ⟨a, b, xs, ys, e1, e2, h1, h2, h3, h4⟩
    · exact .inl h
    · exact .inr ⟨a, b, xs, ys, e1, e2, h1.imp (fun z => ⟨e _ _ z.1, e _ _ z.2⟩) (fun z => ⟨z.1.same e, z.2.same e⟩), h2, h3, fun i u v a1 a2 => (h4 i u v a1 a2).same e⟩
theorem EqvX.cases {H : Hp} : ∀ {n : Nat} {x y : V}, EqvX H n x y → (flatV x = true ∧ x = y) ∨ ∃ m a b xs ys, n = m + 1 ∧ x = .ref a ∧ y = .ref b ∧ ((H a = some (.lst xs) ∧ H b = some (.lst ys)) ∨ (RdT H a xs ∧ RdT H b ys)) ∧ xs.length = ys.length ∧ xs.length ≤ 1000 ∧ ∀ (i : Nat) u v, xs[i]? = some u → ys[i]? = some v → EqvX H m u v
  | 0, _, _, h => .inl h
  | n + 1, _, _, h => by
    rcases h with h | ⟨a, b, xs, ys, h⟩
    · exact .inl h
    · exact .inr ⟨n, a, b, xs, ys, rfl, h⟩
def rotN (x : Int) : Nat → T → T
  | 0, t => t
  | i + 1, t => (rotN x i t).rot x
section
variable {x : Int} {t : T}
end
def StepsAt (H : Hp) (x : Int) (t : T) (rs : List Addr) : Prop := ∀ (i : Nat) r, rs[i]? = some r → TupX H r ((rotN x i t).pre.map V.int)
theorem StepsAt.same {H H' : Hp} {x : Int} {t : T} {rs : List Addr} (h : StepsAt H x t rs) (e : Same H H') : StepsAt H' x t rs := fun i r hr => (h i r hr).same e
theorem StepsAt.snoc {H : Hp} {x : Int} {t : T} {rs : List Addr} {r : Addr} (h : StepsAt H x t rs) (hr : TupX H r ((rotN x rs.length t).pre.map V.int)) : StepsAt H x t (rs ++ [r]) := fun i r' h' => by
  rcases Nat.lt_or_ge i rs.length with l | l
  · rw [List.getElem?_append_left l] at h'
    exact h i r' h'
  · rw [List.getElem?_append_right l] at h'
    have : i - rs.length = 0 := by
      rcases Nat.eq_zero_or_pos (i - rs.length) with z | z
      · exact z
      · rw [List.getElem?_eq_none (by show 1 ≤ _; omega)] at h'; cases h'
    rw [this] at h'
    cases h'
    rw [show i = rs.length by omega]
    exact hr
end TT
namespace TT
open PySem PySem.Spec PyProof.Rows L2 HotX LamX T
section
variable {X : Cx} {tg : Expr}
def SqR (K : PySem.W.Frag) (H1 : Hp) (a : Addr) (R : It → Hp → Prop) : Prop := ((∃ xs, SqL K H1 a xs) ∧ R (Itl K a) H1) ∨ ((∃ xs, SqT K H1 a xs) ∧ R (Itt K a) H1)
def iSq (K : PySem.W.Frag) (te : TE) : TI := fun σ H R => te σ H fun x H1 => ∃ a, x = .ref a ∧ SqR K H1 a R
theorem pi_sq {e : Expr} {te : TE} (he : PE X e te) : PI X tg e (iSq X.K te) := ⟨fun pins s σ H R I h => thn (he.run pins s σ H _ I h) fun v s1 ⟨x, H1, I1, r1, a, ex, q1⟩ => by
  subst ex
  cases r1
  rcases q1 with ⟨⟨xs, hq⟩, q⟩ | ⟨⟨xs, hq⟩, q⟩
  · obtain ⟨its, rv, p, hz⟩ := I1.list hq
    exact wpAny_pyIter_list p.isList (pi_one (tk := s1.toks) I1 _ (turn_list a _) ⟨_, Heap.get?_push_size _ rfl, rfl, rfl⟩ q)
  · obtain ⟨its, rv, p, hz⟩ := I1.tuple hq
    exact wpAny_pyIter_tuple (show s1.heap.IsTuple a its.toArray from p) (pi_one (tk := s1.toks) I1 _ (turn_tuple a _) ⟨_, Heap.get?_push_size _ rfl, rfl, rfl⟩ q)⟩
theorem rd_sq {K : PySem.W.Frag} {H : Hp} {a : Addr} {xs : List V} {R : It → Hp → Prop} (hS : Sq K H a xs) (q : ∀ (J : It) (G : Hp → Prop), Walk J xs.length G (YAt xs) → (∀ H', Same H H' → G H') → R J H) : SqR K H a R := by
  rcases hS with h | h
  · exact .inl ⟨⟨_, h⟩, q _ _ walk_list fun H' e => e.seq h⟩
  · exact .inr ⟨⟨_, h⟩, q _ _ walk_tup fun H' e => Same.tup e h⟩
end
theorem call_isiN {X : Cx} {K : PySem.W.Frag} (h : X.K = K) : CallR X (.builtin "isinstance") (rIsi K) := by
  subst h
  exact call_isi
inductive S where
  | k (n : Int)
  | r (c : Int) (ss : List S)
mutual
def HS (H : Hp) : S → V → Prop
  | .k n, v => v = .int n
  | .r c ss, v => ∃ (a b : Addr) (vs : List V), v = .ref a ∧ H a = some (.tup [.str "repeat", .int c, .ref b]) ∧ (H b = some (.lst vs) ∨ H b = some (.tup vs)) ∧ HL H ss vs
def HL (H : Hp) : List S → List V → Prop
  | [], vs => vs = []
  | s :: ss, vs => ∃ (v : V) (ws : List V), vs = v :: ws ∧ HS H s v ∧ HL H ss ws
end
mutual
theorem HS.same {H H' : Hp} (e : Same H H') : ∀ (s : S) {v : V}, HS H s v → HS H' s v
  | .k n, _, h => h
  | .r c ss, _, ⟨a, b, vs, h1, h2, h3, h4⟩ => ⟨a, b, vs, h1, e _ _ h2, h3.imp (e _ _) (e _ _), HL.same e ss h4⟩
theorem HL.same {H H' : Hp} (e : Same H H') : ∀ (ss : List S) {vs : List V}, HL H ss vs → HL H' ss vs
  | [], _, h => h
  | s :: ss, _, ⟨v, ws, h1, h2, h3⟩ => ⟨v, ws, h1, HS.same e s h2, HL.same e ss h3⟩
end
theorem HL.len {H : Hp} : ∀ {ss : List S} {vs : List V}, HL H ss vs → vs.length = ss.length
  | [], _, h => by rw [show _ = [] from h]; rfl
  | _ :: _, _, ⟨v, ws, h1, _, h3⟩ => by rw [h1, List.length_cons, List.length_cons, h3.len]
theorem HL.get {H : Hp} : ∀ {ss : List S} {vs : List V} {i : Nat} {v : V}, HL H ss vs → vs[i]? = some v → ∃ s, ss[i]? = some s ∧ HS H s v
  | [], _, i, v, h, g => by rw [show _ = [] from h] at g; cases g
  | s :: _, _, 0, v, ⟨v', ws, h1, h2, _⟩, g => by rw [h1] at g; cases g; exact ⟨s, rfl, h2⟩
  | _ :: _, _, i + 1, v, ⟨v', ws, h1, _, h3⟩, g => by rw [h1] at g; exact h3.get (i := i) g
theorem HL.keys {H : Hp} : ∀ (xs : List Int), HL H (xs.map S.k) (xs.map V.int)
  | [] => rfl
  | x :: xs => ⟨.int x, xs.map V.int, rfl, rfl, HL.keys xs⟩
theorem HL.app {H : Hp} : ∀ {ss ts : List S} {vs ws : List V}, HL H ss vs → HL H ts ws → HL H (ss ++ ts) (vs ++ ws)
  | [], _, _, _, h1, h2 => by rw [show _ = [] from h1]; exact h2
  | _ :: _, _, _, _, ⟨v, us, e, h2, h3⟩, h => by rw [e]; exact ⟨v, us ++ _, rfl, h2, h3.app h⟩
mutual
def S.wr : S → Nat
  | .k _ => 1
  | .r _ ss => 1 + wrL ss
def wrL : List S → Nat
  | [] => 0
  | s :: ss => s.wr + wrL ss
end
mutual
def S.dLe : S → Nat → Prop
  | .k _, _ => True
  | .r _ _, 0 => False
  | .r _ ss, n + 1 => dLeL ss n
def dLeL : List S → Nat → Prop
  | [], _ => True
  | s :: ss, n => s.dLe n ∧ dLeL ss n
end
mutual
def S.ok : S → Prop
  | .k n => -1000000000 ≤ n ∧ n ≤ 1000000000
  | .r c ss => 0 ≤ c ∧ c ≤ 1000000000000000000000000000000 ∧ okL ss
def okL : List S → Prop
  | [] => True
  | s :: ss => s.ok ∧ okL ss
end
theorem wrL_app : ∀ (xs ys : List S), wrL (xs ++ ys) = wrL xs + wrL ys
  | [], ys => by show wrL ys = 0 + wrL ys; omega
  | x :: xs, ys => by show x.wr + wrL (xs ++ ys) = x.wr + wrL xs + wrL ys; rw [wrL_app xs ys]; omega
theorem wrL_take {ss : List S} {i : Nat} {s : S} (h : ss[i]? = some s) : wrL (ss.take (i + 1)) = wrL (ss.take i) + s.wr := by
  rw [List.take_add_one, h, wrL_app]; rfl
theorem wrL_take_le (ss : List S) (i : Nat) : wrL (ss.take i) ≤ wrL ss := by
  conv => rhs; rw [← List.take_append_drop i ss]
  rw [wrL_app]; omega
theorem wr_pos (s : S) : 1 ≤ s.wr := by
  cases s with
  | k n => exact Nat.le_refl _
  | r c ss => show 1 ≤ 1 + wrL ss; omega
theorem len_wr : ∀ ss : List S, ss.length ≤ wrL ss
  | [] => Nat.le_refl _
  | s :: ss => by
    have := len_wr ss
    have := wr_pos s
    show ss.length + 1 ≤ s.wr + wrL ss
    omega
theorem dLeL_mem {n : Nat} : ∀ {ss : List S} {s : S}, dLeL ss n → s ∈ ss → s.dLe n
  | _ :: _, _, h, m => by
    rcases List.mem_cons.mp m with rfl | m
    · exact h.1
    · exact dLeL_mem h.2 m
theorem okL_mem : ∀ {ss : List S} {s : S}, okL ss → s ∈ ss → s.ok
  | _ :: _, _, h, m => by
    rcases List.mem_cons.mp m with rfl | m
    · exact h.1
    · exact okL_mem h.2 m
theorem dLeL_keys {n : Nat} : ∀ {xs : List Int}, dLeL (xs.map S.k) n
  | [] => trivial
  | _ :: _ => ⟨trivial, dLeL_keys⟩
mutual
def S.run : S → T → Except Int (T × Int)
  | .k n, t => if n ∈ t.pre then .ok (t.tch n, (t.dep n : Int)) else .error n
  | .r c ss, t => if c = 0 then .ok (t, 0) else (runL ss t).bind fun p => (runL ss p.1).bind fun q => .ok (q.1, p.2 + (c - 1) * q.2)
def runL : List S → T → Except Int (T × Int)
  | [], t => .ok (t, 0)
  | s :: ss, t => (s.run t).bind fun p => (runL ss p.1).bind fun q => .ok (q.1, p.2 + q.2)
end
structure RunK (t : T) (p : T × Int) (b : Int) : Prop where
  bst : p.1.bst
  mem : ∀ y, y ∈ p.1.pre ↔ y ∈ t.pre
  nn : 0 ≤ p.2
  le : p.2 ≤ b
theorem RunK.len {t : T} {p : T × Int} {b : Int} (h : RunK t p b) (bt : t.bst) : p.1.pre.length = t.pre.length := ((List.perm_ext_iff_of_nodup (nodup_pre h.bst) (nodup_pre bt)).mpr h.mem).length_eq
theorem RunK.trans {t : T} {p q : T × Int} {b c : Int} (h : RunK t p b) (g : RunK p.1 q c) : RunK t (q.1, p.2 + q.2) (b + c) := ⟨g.bst, fun y => (g.mem y).trans (h.mem y), Int.add_nonneg h.nn g.nn, Int.add_le_add h.le g.le⟩
end TT
namespace TT
open PySem PySem.Spec PyProof.Rows L2 HotX LamX T
def spKeysB : Sp := fun vs H Q _ => ∃ (d : Addr) (m : Int) (c : Addr) (ns : List Int), vs = [.ref d, .int m] ∧ 0 ≤ m ∧ m ≤ 49 ∧ Drw c ns H d ∧
  ∀ ks p H', (ks.length : Int) = m → Asc ks → (∀ x ∈ ks, x ≤ 999999900) → Ext d H H' → Drw c ns H' d → H p = none → H' p = some (.lst (ks.map V.int)) → Q (.ref p) H'
def Off (m L R U : Addr) (H H' : Hp) : Prop := ∀ b o, b ≠ m → b ≠ L → b ≠ R → b ≠ U → H b = some o → H' b = some o
theorem Off.same {m L R U : Addr} {H H1 H' : Hp} (h : Off m L R U H1 H') (e : Same H H1) (nm : H m = none) (nL : H L = none) (nR : H R = none) (nU : H U = none) : Same H H' := fun b o hb =>
  h b o (ne_of_none hb nm) (ne_of_none hb nL) (ne_of_none hb nR) (ne_of_none hb nU) (e b o hb)
mutual
theorem HS.ext {H H' : Hp} {c d : Addr} {ns : List Int} (hD : Drw c ns H d) (e : Ext d H H') : ∀ (s : S) {v : V}, HS H s v → HS H' s v
  | .k n, _, h => h
  | .r n ss, _, ⟨a, b, vs, h1, h2, h3, h4⟩ => by
    obtain ⟨i, z1, z2, hd, hc, _⟩ := id hD
    refine ⟨a, b, vs, h1, e _ _ (fun z => by rw [z, hd] at h2; cases h2) h2, h3.imp (fun h => e _ _ (fun z => ?_) h) (fun h => e _ _ (fun z => by rw [z, hd] at h; cases h) h), HL.ext hD e ss h4⟩
    rw [z, hd] at h
    cases h
    cases ss with
    | nil => exact absurd (show _ = [] from h4) (by simp)
    | cons s0 ss0 =>
      obtain ⟨v, ws, e1, e2, _⟩ := h4
      cases e1
      cases s0 with
      | k x => exact absurd (show V.ref c = V.int x from e2) (by simp)
      | r x y =>
        obtain ⟨a', b', vs', k1, k2, _⟩ := e2
        cases k1
        rw [hc] at k2
        cases k2
theorem HL.ext {H H' : Hp} {c d : Addr} {ns : List Int} (hD : Drw c ns H d) (e : Ext d H H') : ∀ (ss : List S) {vs : List V}, HL H ss vs → HL H' ss vs
  | [], _, h => h
  | s :: ss, _, ⟨v, ws, h1, h2, h3⟩ => ⟨v, ws, h1, HS.ext hD e s h2, HL.ext hD e ss h3⟩
end
end TT
namespace TT
open PySem PySem.Spec PyProof.Rows L2 HotX LamX T
def nwD (H : Hp) (D : Option Addr) (H' : Hp) : Hp := fun b => if H b = none ∧ some b ≠ D then H' b else none
theorem nwD_at {H H' : Hp} {D : Option Addr} {b : Addr} {o : HO} : nwD H D H' b = some o ↔ H b = none ∧ some b ≠ D ∧ H' b = some o := by
  unfold nwD
  by_cases h : H b = none ∧ some b ≠ D
  · rw [if_pos h]; exact ⟨fun z => ⟨h.1, h.2, z⟩, fun z => z.2.2⟩
  · rw [if_neg h]; exact ⟨fun z => (by cases z), fun z => absurd ⟨z.1, z.2.1⟩ h⟩
theorem nwD_same {H H' : Hp} {D : Option Addr} : Same (nwD H D H') H' := fun b o h => (nwD_at.mp h).2.2
mutual
def S.inK (ks : List Int) : S → Prop
  | .k x => x ∈ ks
  | .r c ss => 0 ≤ c ∧ c ≤ 1000000000000000000000000000000 ∧ ss.length ≤ 6 ∧ inKL ks ss
def inKL (ks : List Int) : List S → Prop
  | [] => True
  | s :: ss => s.inK ks ∧ inKL ks ss
end
theorem inKL_mem {ks : List Int} : ∀ {ss : List S} {s : S}, inKL ks ss → s ∈ ss → s.inK ks
  | _ :: _, _, h, m => by
    rcases List.mem_cons.mp m with rfl | m
    · exact h.1
    · exact inKL_mem h.2 m
theorem inKL_of {ks : List Int} : ∀ {ss : List S}, (∀ s ∈ ss, s.inK ks) → inKL ks ss
  | [], _ => trivial
  | s :: _, h => ⟨h s List.mem_cons_self, inKL_of fun x hx => h x (List.mem_cons_of_mem _ hx)⟩
theorem dLeL_of {n : Nat} : ∀ {ss : List S}, (∀ s ∈ ss, s.dLe n) → dLeL ss n
  | [], _ => trivial
  | s :: _, h => ⟨h s List.mem_cons_self, dLeL_of fun x hx => h x (List.mem_cons_of_mem _ hx)⟩
mutual
theorem S.inK_ok {ks : List Int} (h : ∀ x ∈ ks, -1000000000 ≤ x ∧ x ≤ 1000000000) : ∀ {s : S}, s.inK ks → s.ok
  | .k x, i => h x i
  | .r c ss, i => ⟨i.1, i.2.1, inKL_ok h i.2.2.2⟩
theorem inKL_ok {ks : List Int} (h : ∀ x ∈ ks, -1000000000 ≤ x ∧ x ≤ 1000000000) : ∀ {ss : List S}, inKL ks ss → okL ss
  | [], _ => trivial
  | s :: ss, i => ⟨S.inK_ok h i.1, inKL_ok h i.2⟩
end
mutual
theorem S.dLe_mono {n m : Nat} (h : n ≤ m) : ∀ {s : S}, s.dLe n → s.dLe m := fun {s} => by
  cases s with
  | k x => exact fun _ => trivial
  | r c ss =>
    intro d
    cases n with
    | zero => exact d.elim
    | succ n =>
      cases m with
      | zero => omega
      | succ m => exact dLeL_mono (by omega) ss d
theorem dLeL_mono {n m : Nat} (h : n ≤ m) : ∀ (ss : List S), dLeL ss n → dLeL ss m
  | [], _ => trivial
  | s :: ss, d => ⟨S.dLe_mono h d.1, dLeL_mono h ss d.2⟩
end
theorem lc_steps {c d : Addr} {ms : List Int} {n : Nat} {g : TG} {te : TE} {vs : List Nat} {σ : L2.St} {H1 : Hp} {D : Addr} {Qd : Hp → Prop} (Pr : S → Prop) (hD1 : Drw c ms H1 d) (nD : H1 D = none) (hn : n ≤ 1000)
    (hs : ∀ (i : Nat) H2 (Y : VK), i < n → Ext d H1 H2 → Drw c ms H2 d → (∀ s v H3, Pr s → Ext d H2 H3 → Drw c ms H3 d → HS (nwD H2 none H3) s v → Y v H3) → g (.int (0 + i)) (wipe σ vs) H2 fun σ2 H3 => wipe σ2 vs = wipe σ vs ∧ te σ2 H3 Y)
    (hd : ∀ (ss : List S) ws H2, ss.length = n → (∀ s ∈ ss, Pr s) → Ext d H1 H2 → Drw c ms H2 d → H2 D = some (.lst ws) → HL (nwD H1 (some D) H2) ss ws → Qd H2) :
    ∃ W : Nat → Nat → Hp → Prop, (∃ m, W 0 m (upd H1 D (.lst []))) ∧ ∀ i m H, W i m H →
      ((Itr 0 n).stop i H ∧ Qd H) ∨ ((Itr 0 n).go i H ∧ ∃ Nx : Hp → Prop, (∀ H', Nx H' → ∃ m', m' < m ∧ W (i + 1) m' H') ∧ ∀ x H', (Itr 0 n).yld i H x H' → g x (wipe σ vs) H' fun σ2 H2 => wipe σ2 vs = wipe σ vs ∧ tYes σ2 H2 fun b H3 =>
        if b = true then te σ2 H3 fun y H4 => ∃ acc, H4 D = some (.lst acc) ∧ acc.length < sizeLine ∧ Nx (upd H4 D (.lst (acc ++ [y]))) else Nx H3) := by
  have nDd := hD1.ne nD
  refine lc_range (lo := 0) (tt := tYes) (fun i H5 => ∃ (ss : List S) (ws : List V), ss.length = i ∧ (∀ s ∈ ss, Pr s) ∧ Ext d H1 H5 ∧ Drw c ms H5 d ∧ H5 D = some (.lst ws) ∧ HL (nwD H1 (some D) H5) ss ws) ⟨[], [], rfl, fun _ h => (by cases h), Ext.of (same_new nD), hD1.new nD, upd_same, rfl⟩ ?_ ?_
  · rintro i H5 hi ⟨ss, ws, ls, ps, e5, hD5, hDD5, hL5⟩
    have lw : ws.length = i := by rw [hL5.len, ls]
    refine hs i H5 _ hi e5 hD5 fun s v H3 hsP e3 hD3 hS => ⟨_, e3 _ _ nDd hDD5, szl (by omega), ss ++ [s], ws ++ [v], by rw [List.length_append]; exact congrArg (· + 1) ls, fun z hz => ?_, (e5.trans e3).put nD, hD3.put hD1 nD, upd_same, ?_⟩
    · rcases List.mem_append.mp hz with h | h
      · exact ps z h
      · rw [List.mem_singleton.mp h]; exact hsP
    · have m1 : Same (nwD H1 (some D) H5) (nwD H1 (some D) (upd H3 D (.lst (ws ++ [v])))) := fun b o hb => by
        obtain ⟨a1, a2, a3⟩ := nwD_at.mp hb
        have bd : b ≠ d := fun z => by obtain ⟨q, hq⟩ := hD1.at; rw [z, hq] at a1; cases a1
        have bD : b ≠ D := fun z => a2 (by rw [z])
        exact nwD_at.mpr ⟨a1, a2, by rw [upd_ne bD]; exact e3 _ _ bd a3⟩
      have m2 : Same (nwD H5 none H3) (nwD H1 (some D) (upd H3 D (.lst (ws ++ [v])))) := fun b o hb => by
        obtain ⟨a1, _, a3⟩ := nwD_at.mp hb
        have bD : b ≠ D := fun z => by rw [z, hDD5] at a1; cases a1
        refine nwD_at.mpr ⟨?_, fun z => bD (Option.some.inj z), by rw [upd_ne bD]; exact a3⟩
        obtain ⟨o1, h1⟩ := hD1.at
        obtain ⟨o5, h5⟩ := hD5.at
        exact e5.free h1 h5 a1
      exact (HL.same m1 _ hL5).app ⟨v, [], rfl, HS.same m2 s hS, rfl⟩
  · rintro H5 ⟨ss, ws, ls, ps, e5, hD5, hDD5, hL5⟩
    exact hd ss ws H5 ls ps e5 hD5 hDD5 hL5
mutual
def S.len : S → Int
  | .k _ => 1
  | .r c ss => c * lenL ss
def lenL : List S → Int
  | [] => 0
  | s :: ss => s.len + lenL ss
end
mutual
def S.sh : S → List Int
  | .k x => [x]
  | .r c ss => (List.replicate (min 2 c).toNat (shL ss)).flatten
def shL : List S → List Int
  | [] => []
  | s :: ss => s.sh ++ shL ss
end
mutual
def S.wt : S → List Int
  | .k x => [x]
  | .r c ss => if 0 < c then wtL ss else []
def wtL : List S → List Int
  | [] => []
  | s :: ss => s.wt ++ wtL ss
end
section
variable {ss : List S} {i : Nat} {s : S}
end
mutual
theorem S.wt_mem {ks : List Int} {x : Int} : ∀ {s : S}, s.inK ks → x ∈ s.wt → x ∈ ks
  | .k y, i, h => by rw [List.mem_singleton.mp h]; exact i
  | .r c ss, i, h => by
    unfold S.wt at h
    split at h
    · exact wtL_mem i.2.2.2 h
    · cases h
theorem wtL_mem {ks : List Int} {x : Int} : ∀ {ss : List S}, inKL ks ss → x ∈ wtL ss → x ∈ ks
  | [], _, h => by cases h
  | s :: ss, i, h => (List.mem_append.mp h).elim (S.wt_mem i.1) (wtL_mem i.2)
end
theorem wr_sum : ∀ ss : List S, (ss.map fun s => ((s.wr : Nat) : Int)).sum = ((wrL ss : Nat) : Int)
  | [] => rfl
  | s :: ss => by
    rw [List.map_cons, List.sum_cons, wr_sum ss]
    show ((s.wr : Nat) : Int) + ((wrL ss : Nat) : Int) = ((s.wr + wrL ss : Nat) : Int)
    omega
def SeqS (K : PySem.W.Frag) (H : Hp) (b : Addr) (ss : List S) : Prop := ∃ vs, Sq K H b vs ∧ HL H ss vs
theorem SeqS.same {K : PySem.W.Frag} {H H' : Hp} {b : Addr} {ss : List S} (h : SeqS K H b ss) (e : Same H H') : SeqS K H' b ss := by
  obtain ⟨vs, h1, h2⟩ := h
  exact ⟨vs, h1.same e, HL.same e ss h2⟩
end TT
namespace TT
open PySem PySem.Spec PyProof.Rows L2 HotX LamX T
def cutN (ks : List Int) (a b : Nat) : List Int := (ks.drop (min a ks.length)).take (min b ks.length - min a ks.length)
def spar (lt ks : List Int) (i : Nat) (x : Int) : Bool := (cutN ks (i - 1) (i + 2)).all (fun y => decide (y ∈ lt)) && (((insAll lt leaf).lc x).isNone && ((insAll lt leaf).rc x).isNone)
def sparU (lt ks : List Int) (i : Nat) : List Int := ((List.range i).filter fun j => match ks[j]? with | some x => spar lt ks j x | none => false).map fun j => ks.getD j 0
def spared (lt ks : List Int) : List Int := sparU lt ks ks.length
theorem HL.take {H : Hp} : ∀ {ss : List S} {vs : List V} (n : Nat), HL H ss vs → HL H (ss.take n) (vs.take n)
  | [], _, n, h => by rw [show _ = [] from h, List.take_nil, List.take_nil]; rfl
  | s :: ss, vs, 0, h => by rw [List.take_zero, List.take_zero]; rfl
  | s :: ss, _, n + 1, ⟨v, ws, h1, h2, h3⟩ => by rw [h1]; exact ⟨v, ws.take n, rfl, h2, HL.take n h3⟩
theorem inKL_ks {ks : List Int} : ∀ {xs : List Int}, (∀ x ∈ xs, x ∈ ks) → inKL ks (xs.map S.k)
  | [], _ => trivial
  | x :: xs, h => ⟨h x List.mem_cons_self, inKL_ks fun y hy => h y (List.mem_cons_of_mem _ hy)⟩
theorem EqvS.ints {H : Hp} {n : Nat} : ∀ (ns : List Int), EqvS H n (ns.map V.int) (ns.map V.int)
  | [] => .nil
  | x :: ns => .cons (eqv_flat rfl) (EqvS.ints ns)
end TT
namespace TT
open PySem PySem.Spec PyProof.Rows L2 HotX LamX T
def NoBad (ks : List Int) : Prop := (∀ (i k : Nat) (x : Int), i < k → ks[i]? = some x → ks[k]? ≠ some x) ∧ ∀ (i j k : Nat) (u v w : Int), i < j → j < k → ks[i]? = some u → ks[j]? = some v → ks[k]? = some w → u < v → ¬ w < u
theorem NoBad.take {ks : List Int} (h : NoBad ks) (n : Nat) : NoBad (ks.take n) := by
  have g : ∀ {i : Nat} {x : Int}, (ks.take n)[i]? = some x → ks[i]? = some x := fun {i x} a => by
    rw [List.getElem?_take] at a
    split at a
    · exact a
    · cases a
  exact ⟨fun i k x l a b => h.1 i k x l (g a) (g b), fun i j k u v w l1 l2 a b c => h.2 i j k u v w l1 l2 (g a) (g b) (g c)⟩
theorem NoBad.drop {ks : List Int} (h : NoBad ks) (n : Nat) : NoBad (ks.drop n) := by
  have g : ∀ {i : Nat} {x : Int}, (ks.drop n)[i]? = some x → ks[n + i]? = some x := fun {i x} a => by rw [List.getElem?_drop] at a; exact a
  exact ⟨fun i k x l a b => h.1 _ _ x (by omega) (g a) (g b), fun i j k u v w l1 l2 a b c => h.2 _ _ _ u v w (by omega) (by omega) (g a) (g b) (g c)⟩
def spRecentX (K : PySem.W.Frag) (C : Addr) : Sp := fun us H Q E => ∃ (b a : Addr) (ss : List S) (ks : List Int), us = [.ref b, .ref a] ∧ SeqS K H b ss ∧ Sq K H a (ks.map V.int) ∧ okL ss ∧ dLeL ss 4 ∧ wrL ss ≤ 100 ∧ (lastL (wtL ss)).length < 60 ∧ (∀ x ∈ wtL ss, x.natAbs.log2 < 1920) ∧
  ((∀ x ∈ wtL ss, x ∈ ks) → ∀ p H', Same H H' → H p = none → H' p = some (.lst ((lastL (wtL ss)).map V.int)) → Q (.ref p) H') ∧
  (∀ x, x ∈ wtL ss → x ∉ ks → (∀ y ∈ wtL ss, y ∉ ks → x ≤ y) → ENo C x H E)
theorem tup_ne {c d z : Addr} {ms : List Int} {H : Hp} {xs : List V} (hD : Drw c ms H d) (h : H z = some (.tup xs)) : z ≠ d := fun e => by
  obtain ⟨_, _, _, h1, _⟩ := hD
  rw [e, h1] at h
  cases h
theorem LamAt.lst {X : Cx} {H : Hp} {f o : Addr} {ar : Arguments} {bd : Expr} {sc : Scope} {b : Bool} {xs ys : List V} (h : LamAt X H f ar bd sc b) (hl : H o = some (.lst xs)) : LamAt X (upd H o (.lst ys)) f ar bd sc b := by
  have e : ∀ b w, H b = some w → (∀ zs, w ≠ .lst zs) → upd H o (.lst ys) b = some w := fun b w hb hn => by
    rw [upd_ne (fun z => by rw [z, hl] at hb; exact hn _ (Option.some.inj hb).symm)]; exact hb
  obtain ⟨c', pm, dv, tv, h1, h2, h3⟩ := h
  exact ⟨c', pm, dv, tv, e _ _ h1 (fun _ z => by cases z), h2.ext fun a o u z => e _ _ z (fun _ q => by cases q), e _ _ h3 (fun _ z => by unfold CodeO at z; cases z)⟩
end TT
namespace TT
open PySem PySem.Spec PyProof.Rows L2
def Msk (m : Nat) : Prop := m = 7 ∨ m = 15 ∨ m = 31 ∨ m = 63 ∨ m = 127
def orbOk (n : Nat) : Bool := ((List.range (n + 1)).all fun j => (List.range (n + 1)).any fun b => decide (lcgN n b = j)) && decide (lcgN n (n + 1) = 0)
theorem orb_15 : orbOk 15 = true := by decide +kernel
theorem orb_63 : orbOk 63 = true := by decide +kernel
theorem orb_mem {n : Nat} (h : orbOk n = true) : (∀ j, j ≤ n → ∃ b, b ≤ n ∧ lcgN n b = j) ∧ lcgN n (n + 1) = 0 := by
  obtain ⟨h1, h2⟩ := Bool.and_eq_true_iff.mp h
  refine ⟨fun j hj => ?_, of_decide_eq_true h2⟩
  obtain ⟨b, hb, e⟩ := List.any_eq_true.mp (List.all_eq_true.mp h1 j (List.mem_range.mpr (by omega)))
  exact ⟨b, by have := List.mem_range.mp hb; omega, of_decide_eq_true e⟩
theorem orb {m : Nat} (hm : Msk m) : (∀ j, j ≤ m → ∃ b, b ≤ m ∧ lcgN m b = j) ∧ lcgN m (m + 1) = 0 := by
  have old : MaskOk m → (∀ j, j ≤ m → ∃ b, b ≤ m ∧ lcgN m b = j) ∧ lcgN m (m + 1) = 0 := fun q => ⟨fun j hj => lcg_all q hj, lcg_round q⟩
  rcases hm with e | e | e | e | e
  · exact old (.inl e)
  · rw [e]; exact orb_mem orb_15
  · exact old (.inr (.inl e))
  · rw [e]; exact orb_mem orb_63
  · exact old (.inr (.inr e))
theorem slot_met {m : Nat} (hm : Msk m) (h : Int) {j : Nat} (hj : j ≤ m) : ∃ n, n ≤ m + 12 ∧ runI m (SetTable.bits h) n = j := by
  obtain ⟨o1, o2⟩ := orb hm
  obtain ⟨a, ha, ea⟩ := o1 _ (runI_le m (SetTable.bits h) 12)
  obtain ⟨b, hb, eb⟩ := o1 j hj
  have per : lcgN m (m + 1 + b) = lcgN m b := by
    have z1 := lcgN_add m (m + 1) b
    have z2 := lcgN_add m 0 b
    rw [o2] at z1
    rw [Nat.zero_add] at z2
    exact z1.symm.trans z2
  have fin : ∀ k, k ≤ m → (lcgN m (a + k) = lcgN m b) → ∃ n, n ≤ m + 12 ∧ runI m (SetTable.bits h) n = j := fun k hk e => by
    refine ⟨12 + k, by omega, ?_⟩
    rw [runI_tail (bits_lt h) k, ← ea, lcgN_add, e, eb]
  by_cases c : a ≤ b
  · exact fin (b - a) (by omega) (by rw [show a + (b - a) = b by omega])
  · exact fin (m + 1 + b - a) (by omega) (by rw [show a + (m + 1 + b - a) = m + 1 + b by omega]; exact per)
theorem hole_met {m : Nat} (hm : Msk m) (own : Array (Option Nat)) (h : Int) {j : Nat} (hj : j ≤ m) (hf : oAt own j = none) :
    ∃ i, SetTable.layClean.free m own (SetTable.turns m) (SetTable.bits h % (m + 1)) (SetTable.bits h) = some i ∧ oAt own i = none ∧ i ≤ m := by
  obtain ⟨n, hn, e⟩ := slot_met hm h hj
  generalize eb : SetTable.bits h = b at *
  have at_n : (nth m (runAt m (b % (m + 1)) b) (off m (b % (m + 1)) b n)).j = j := by
    rw [nth_off, itL_run]; exact e
  obtain ⟨c, c1, c2, c3⟩ := st_least (p := fun k => oAt own (nth m (runAt m (b % (m + 1)) b) k).j = none) (off m (b % (m + 1)) b n) (by
    show oAt own (nth m (runAt m (b % (m + 1)) b) (off m (b % (m + 1)) b n)).j = none
    rw [at_n]; exact hf)
  have c2' : oAt own (nth m (runAt m (b % (m + 1)) b) c).j = none := c2
  refine ⟨(nth m (runAt m (b % (m + 1)) b) c).j, free_spec m own _ n _ _ c (by unfold SetTable.turns; omega) c1 (fun k hk => ?_) (by rw [c2'] <;> rfl), c2', ?_⟩
  · have q := c3 k hk
    revert q
    show (oAt own (nth m (runAt m (b % (m + 1)) b) k).j = none → False) → _
    cases oAt own (nth m (runAt m (b % (m + 1)) b) k).j with
    | none => exact fun q => (q rfl).elim
    | some _ => exact fun _ => rfl
  · have hb := runEnd_bd (m := m) (i := b % (m + 1)) (Nat.le_of_lt_succ (Nat.mod_lt _ (Nat.succ_pos _)))
    have z := nth_in (m := m) c (runAt m (b % (m + 1)) b) (by
      show b % (m + 1) + (SetTable.runEnd m (b % (m + 1)) - b % (m + 1)) ≤ m
      omega)
    omega
structure Sits (m n : Nat) (own : Array (Option Nat)) : Prop where
  len : own.size = m + 1
  has : ∀ k, k < n → ∃ j, j ≤ m ∧ oAt own j = some k
  few : ∃ ps : List Nat, ps.length = n ∧ ∀ j, j ≤ m → oAt own j ≠ none → j ∈ ps
theorem Sits.none (m : Nat) : Sits m 0 (Array.replicate (m + 1) Option.none) :=
  ⟨by simp, fun k hk => by omega, [], rfl, fun j hj e => (e (oAt_init hj)).elim⟩
theorem Sits.more {m n : Nat} {own : Array (Option Nat)} (hm : Msk m) (W : Sits m n own) (hn : n ≤ m) (h : Int) :
    ∃ j, SetTable.layClean.free m own (SetTable.turns m) (SetTable.bits h % (m + 1)) (SetTable.bits h) = some j ∧ Sits m (n + 1) (own.setIfInBounds j (some n)) := by
  obtain ⟨ps, p1, p2⟩ := W.few
  obtain ⟨j0, j1, j2⟩ := st_missing ps (m + 1) (by omega)
  have free0 : oAt own j0 = .none := by
    cases z : oAt own j0 with
    | none => rfl
    | some k => exact (j2 (p2 j0 (by omega) (by rw [z]; exact fun q => nomatch q))).elim
  obtain ⟨i, e1, e2, e3⟩ := hole_met hm own h (by omega) free0
  have here := oAt_set_self (some n) (show i < own.size by rw [W.len]; omega)
  refine ⟨i, e1, by rw [Array.size_setIfInBounds]; exact W.len, fun k hk => ?_, i :: ps, by rw [List.length_cons, p1], fun j hj q => ?_⟩
  · by_cases c : k = n
    · rw [c]; exact ⟨i, e3, here⟩
    · obtain ⟨j, a1, a2⟩ := W.has k (by omega)
      refine ⟨j, a1, ?_⟩
      rw [oAt_set_ne _ (fun z => by rw [z, e2] at a2; cases a2)]
      exact a2
  · by_cases c : j = i
    · rw [c]; exact List.mem_cons_self
    · rw [oAt_set_ne _ c] at q
      exact List.mem_cons_of_mem _ (p2 j hj q)
end TT
namespace TT
open PySem PySem.Spec PyProof.Rows L2
section
variable {P : Program} {w : World} {A : Around} {E : Value → Shared → Prop} {s : Shared} {a : Addr} {S : Int → Bool} {n : Nat}
end
end TT
namespace TT
open PySem PySem.Spec PyProof.Rows L2
section
variable {P : Program} {w : World} {A : Around} {E : Value → Shared → Prop} {s : Shared} {a : Addr} {S : Int → Bool} {n : Nat}
end
end TT
namespace TT
open PySem PySem.Spec PyProof.Rows L2
section
variable {P : Program} {w : World} {A : Around} {E : Value → Shared → Prop} {s : Shared} {a : Addr} {S : Int → Bool} {n : Nat}
end
end TT
namespace TT
open PySem PySem.Spec PyProof.Rows L2 HotX LamX T
theorem int_nodup_len : ∀ (l D : List Int), l.Nodup → (∀ x ∈ l, x ∈ D) → l.length ≤ D.length
  | [], _, _, _ => Nat.zero_le _
  | x :: l, D, nd, h => by
    obtain ⟨n1, n2⟩ := List.nodup_cons.mp nd
    have hx := h x List.mem_cons_self
    have ih := int_nodup_len l (D.erase x) n2 fun y hy => (List.mem_erase_of_ne (fun (e : y = x) => n1 (e ▸ hy))).mpr (h y (List.mem_cons_of_mem _ hy))
    rw [List.length_erase_of_mem hx] at ih
    have : 0 < D.length := List.length_pos_of_mem hx
    rw [List.length_cons]
    omega
section
variable {X : Cx}
end
def T.cutTo (t u : T) (k : Int) : T := t.restr (u.bdL k none) (u.bdH k none)
def ndd (t u : T) (k : Int) : Bool := !decide ((t.cutTo u k).pre = (u.at k).pre)
structure Need (a c : T) (ns : List Int) : Prop where
  lt : ns.Pairwise (· < ·)
  mem : ∀ x, x ∈ ns ↔ x ∈ c.pre ∧ ndd a c x = true
theorem Need.len {a c : T} {ns : List Int} (h : Need a c ns) : ns.length ≤ c.pre.length :=
  int_nodup_len ns c.pre (h.lt.imp fun z => by omega) fun x hx => ((h.mem x).mp hx).1
theorem Drw.neT {c d y : Addr} {ns : List Int} {H : Hp} {xs : List V} (hD : Drw c ns H d) (h : H y = some (.tup xs)) : y ≠ d := fun e => by
  obtain ⟨i, b, z, hd, _⟩ := hD
  rw [e, hd] at h; cases h
end TT
namespace TT
open PySem PySem.Spec PyProof.Rows L2 HotX LamX T
def trip (t u : T) (k x y : Int) : Bool := decide (k ∈ u.pre) && (decide (x ∈ (u.at k).pre) && decide (y ∈ (u.at k).pre)) && (u.abv x y && !t.abv x y)
def TrS (H : Hp) : List (Int × Int × Int) → List V → Prop
  | [], vs => vs = []
  | q :: qs, vs => ∃ p ws, vs = V.ref p :: ws ∧ H p = some (.tup [.int q.1, .int q.2.1, .int q.2.2]) ∧ TrS H qs ws
theorem TrS.same {H H' : Hp} (e : Same H H') : ∀ {qs : List (Int × Int × Int)} {vs : List V}, TrS H qs vs → TrS H' qs vs
  | [], _, h => h
  | q :: qs, _, ⟨p, ws, h1, h2, h3⟩ => ⟨p, ws, h1, e _ _ h2, h3.same e⟩
theorem TrS.len {H : Hp} : ∀ {qs : List (Int × Int × Int)} {vs : List V}, TrS H qs vs → vs.length = qs.length
  | [], _, h => by rw [show _ = [] from h]; rfl
  | q :: qs, _, ⟨p, ws, h1, _, h3⟩ => by rw [h1, List.length_cons, List.length_cons, h3.len]
theorem TrS.get {H : Hp} : ∀ {qs : List (Int × Int × Int)} {vs : List V}, TrS H qs vs → ∀ (i : Nat) v, vs[i]? = some v → ∃ p q, v = .ref p ∧ qs[i]? = some q ∧ H p = some (.tup [.int q.1, .int q.2.1, .int q.2.2])
  | [], _, h, i, v, hv => by rw [show _ = [] from h] at hv; cases hv
  | q :: qs, _, ⟨p, ws, h1, h2, h3⟩, i, v, hv => by
    rw [h1] at hv
    cases i with
    | zero => cases hv; exact ⟨p, q, rfl, rfl, h2⟩
    | succ i => exact h3.get i v hv
theorem TrS.snoc {H : Hp} {p : Addr} {q : Int × Int × Int} (hp : H p = some (.tup [.int q.1, .int q.2.1, .int q.2.2])) : ∀ {qs : List (Int × Int × Int)} {vs : List V}, TrS H qs vs → TrS H (qs ++ [q]) (vs ++ [.ref p])
  | [], _, h => by rw [show _ = [] from h]; exact ⟨p, [], rfl, hp, rfl⟩
  | q' :: qs, _, ⟨p', ws, h1, h2, h3⟩ => by rw [h1]; exact ⟨p', ws ++ [.ref p], rfl, h2, h3.snoc hp⟩
theorem TrS.put {H : Hp} {D : Addr} {xs ys : List V} (hD : H D = some (.lst xs)) : ∀ {qs : List (Int × Int × Int)} {vs : List V}, TrS H qs vs → TrS (upd H D (.lst ys)) qs vs
  | [], _, h => h
  | q :: qs, _, ⟨p, ws, h1, h2, h3⟩ => ⟨p, ws, h1, by rw [upd_ne (fun z => by rw [z, hD] at h2; cases h2)]; exact h2, h3.put hD⟩
theorem TrS.ext {H H' : Hp} {c d : Addr} {ns : List Int} (hD : Drw c ns H d) (e : Ext d H H') : ∀ {qs : List (Int × Int × Int)} {vs : List V}, TrS H qs vs → TrS H' qs vs
  | [], _, h => h
  | q :: qs, _, ⟨p, ws, h1, h2, h3⟩ => ⟨p, ws, h1, e _ _ (hD.neT h2) h2, h3.ext hD e⟩
def PrS (H : Hp) : List (Int × Int) → List V → Prop
  | [], vs => vs = []
  | q :: qs, vs => ∃ p ws, vs = V.ref p :: ws ∧ H p = some (.tup [.int q.1, .int q.2]) ∧ PrS H qs ws
theorem PrS.same {H H' : Hp} (e : Same H H') : ∀ {qs : List (Int × Int)} {vs : List V}, PrS H qs vs → PrS H' qs vs
  | [], _, h => h
  | q :: qs, _, ⟨p, ws, h1, h2, h3⟩ => ⟨p, ws, h1, e _ _ h2, h3.same e⟩
theorem PrS.len {H : Hp} : ∀ {qs : List (Int × Int)} {vs : List V}, PrS H qs vs → vs.length = qs.length
  | [], _, h => by rw [show _ = [] from h]; rfl
  | q :: qs, _, ⟨p, ws, h1, _, h3⟩ => by rw [h1, List.length_cons, List.length_cons, h3.len]
theorem PrS.snoc {H : Hp} {p : Addr} {q : Int × Int} (hp : H p = some (.tup [.int q.1, .int q.2])) : ∀ {qs : List (Int × Int)} {vs : List V}, PrS H qs vs → PrS H (qs ++ [q]) (vs ++ [.ref p])
  | [], _, h => by rw [show _ = [] from h]; exact ⟨p, [], rfl, hp, rfl⟩
  | q' :: qs, _, ⟨p', ws, h1, h2, h3⟩ => by rw [h1]; exact ⟨p', ws ++ [.ref p], rfl, h2, h3.snoc hp⟩
theorem PrS.put {H : Hp} {D : Addr} {xs ys : List V} (hD : H D = some (.lst xs)) : ∀ {qs : List (Int × Int)} {vs : List V}, PrS H qs vs → PrS (upd H D (.lst ys)) qs vs
  | [], _, h => h
  | q :: qs, _, ⟨p, ws, h1, h2, h3⟩ => ⟨p, ws, h1, by rw [upd_ne (fun z => by rw [z, hD] at h2; cases h2)]; exact h2, h3.put hD⟩
theorem TrS.mem {H : Hp} {qs : List (Int × Int × Int)} {vs : List V} (h : TrS H qs vs) {v : V} (hv : v ∈ vs) : ∃ p q, v = .ref p ∧ q ∈ qs ∧ H p = some (.tup [.int q.1, .int q.2.1, .int q.2.2]) := by
  obtain ⟨i, hi⟩ := List.getElem?_of_mem hv
  obtain ⟨p, q, h1, h2, h3⟩ := h.get i v hi
  exact ⟨p, q, h1, List.mem_of_getElem? h2, h3⟩
theorem Drw.neK {c d y : Addr} {ns : List Int} {H : Hp} {ks : List (Key × V)} (hD : Drw c ns H d) (h : H y = some (.dK ks)) : y ≠ d := fun e => by
  obtain ⟨i, b, z, hd, _⟩ := hD
  rw [e, hd] at h; cases h
theorem Nod.ext {H H' : Hp} {m L R U : Addr} {rt : Option Int} {lf rf uf : Int → Option Int} {n : Nat} {c d : Addr} {ns : List Int} (h : Nod H m L R U rt lf rf uf n) (hD : Drw c ns H d) (e : Ext d H H') : Nod H' m L R U rt lf rf uf n := by
  obtain ⟨lk, h1, h2⟩ := h.l
  obtain ⟨rk, h3, h4⟩ := h.r
  obtain ⟨uk, h5, h6⟩ := h.u
  exact ⟨e _ _ (hD.neK h.hm) h.hm, ⟨lk, e _ _ (hD.neK h1) h1, h2⟩, ⟨rk, e _ _ (hD.neK h3) h3, h4⟩, ⟨uk, e _ _ (hD.neK h5) h5, h6⟩, h.mL, h.mR, h.mU, h.LR, h.LU, h.RU⟩
end TT
namespace TT
open PySem PySem.Spec PyProof.Rows L2 HotX LamX T
end TT
namespace TT
open PySem PySem.Spec PyProof.Rows L2 HotX LamX T
theorem TrS.app {H : Hp} : ∀ {qs rs : List (Int × Int × Int)} {vs ws : List V}, TrS H qs vs → TrS H rs ws → TrS H (qs ++ rs) (vs ++ ws)
  | [], _, _, _, h, g => by rw [show _ = [] from h]; exact g
  | q :: qs, _, _, _, ⟨p, us, h1, h2, h3⟩, g => by rw [h1]; exact ⟨p, us ++ _, rfl, h2, h3.app g⟩
theorem TrS.tl {H : Hp} : ∀ {qs : List (Int × Int × Int)} {vs : List V}, TrS H qs vs → TrS H (qs.drop 1) (vs.drop 1)
  | [], _, h => by rw [show _ = [] from h]; rfl
  | q :: qs, _, ⟨p, us, h1, h2, h3⟩ => by rw [h1]; exact h3
def GoodP (K : PySem.W.Frag) (H : Hp) (t u : T) (v : V) : Prop := ∃ (b : Addr) (qs : List (Int × Int × Int)) (ws : List V), v = .ref b ∧ Sq K H b ws ∧ TrS H qs ws ∧ qs.length ≤ 1000 ∧ (qs.all fun q => trip t u q.1 q.2.1 q.2.2) = true
theorem GoodP.same {K : PySem.W.Frag} {H H' : Hp} {t u : T} {v : V} (h : GoodP K H t u v) (e : Same H H') : GoodP K H' t u v := by
  obtain ⟨b, qs, ws, h1, h2, h3, h4⟩ := h
  exact ⟨b, qs, ws, h1, h2.same e, h3.same e, h4⟩
end TT
namespace TT
open PySem PySem.Spec PyProof.Rows L2 HotX LamX T
theorem HL.drop {H : Hp} : ∀ {ss : List S} {vs : List V} (n : Nat), HL H ss vs → HL H (ss.drop n) (vs.drop n)
  | [], _, n, h => by rw [show _ = [] from h, List.drop_nil, List.drop_nil]; rfl
  | s :: ss, _, 0, h => by rw [List.drop_zero, List.drop_zero]; exact h
  | s :: ss, _, n + 1, ⟨v, ws, h1, h2, h3⟩ => by rw [h1]; exact HL.drop n h3
def Hk (ks : List Int) (n : Nat) (ss : List S) : Prop := ∀ s ∈ ss, s.inK ks ∧ s.dLe n
theorem Hk.inK {ks : List Int} {n : Nat} {ss : List S} (h : Hk ks n ss) : inKL ks ss := inKL_of fun s hs => (h s hs).1
theorem Hk.dp {ks : List Int} {n : Nat} {ss : List S} (h : Hk ks n ss) : dLeL ss n := dLeL_of fun s hs => (h s hs).2
theorem Hk.of {ks : List Int} {n : Nat} {ss : List S} (h : inKL ks ss) (g : dLeL ss n) : Hk ks n ss := fun s hs => ⟨inKL_mem h hs, dLeL_mem g hs⟩
theorem Hk.sub {ks : List Int} {n : Nat} {ss ts : List S} (h : Hk ks n ss) (g : ∀ s ∈ ts, s ∈ ss) : Hk ks n ts := fun s hs => h s (g s hs)
theorem Hk.app {ks : List Int} {n : Nat} {ss ts : List S} (h : Hk ks n ss) (g : Hk ks n ts) : Hk ks n (ss ++ ts) := fun s hs => (List.mem_append.mp hs).elim (h s) (g s)
theorem Hk.keys {ks xs : List Int} {n : Nat} (h : ∀ x ∈ xs, x ∈ ks) : Hk ks n (xs.map S.k) := .of (inKL_ks h) dLeL_keys
theorem Hk.mono {ks : List Int} {n m : Nat} {ss : List S} (h : Hk ks n ss) (l : n ≤ m) : Hk ks m ss := .of h.inK (dLeL_mono l _ h.dp)
theorem Hk.last {ks : List Int} {n m : Nat} {ss : List S} (h : Hk ks n ss) (l : ks.length < m) : (lastL (wtL ss)).length < m :=
  Nat.lt_of_le_of_lt (int_nodup_len _ ks lastL_nodup fun x hx => wtL_mem h.inK (mem_lastL.mp hx)) l
end TT
namespace TT
open PySem PySem.Spec PyProof.Rows L2 HotX LamX T
mutual
def S.ex : S → List Int
  | .k n => [n]
  | .r c ss => (List.replicate c.toNat (exL ss)).flatten
def exL : List S → List Int
  | [] => []
  | s :: ss => s.ex ++ exL ss
end
structure HD (d : PyData) (n m : Nat) : Prop where
  lay : PyData.canLay0 d = true
  dp : PyData.depth d ≤ n
  we : PyData.weight d ≤ m
  sh : PyData.showable d = true
  it : PyData.intsShort 33 d = true
structure HDs (ds : List PyData) (n m : Nat) : Prop where
  lay : PyData.canLayAll0 ds = true
  dp : PyData.depthAll ds ≤ n
  we : PyData.weightAll ds ≤ m
  sh : PyData.showableAll ds = true
  it : PyData.intsShortAll 33 ds = true
theorem HDs.cons {d : PyData} {ds : List PyData} {n m m' : Nat} (h : HD d n m) (g : HDs ds n m') : HDs (d :: ds) n (m + 1 + m') := by
  refine ⟨?_, ?_, ?_, ?_, ?_⟩
  · show (PyData.canLay0 d && PyData.canLayAll0 ds) = true; rw [h.lay, g.lay]; rfl
  · show max (PyData.depth d) (PyData.depthAll ds) ≤ n
    have := h.dp
    have := g.dp
    omega
  · show PyData.weight d + 1 + PyData.weightAll ds ≤ _
    have := h.we
    have := g.we
    omega
  · show (PyData.showable d && PyData.showableAll ds) = true; rw [h.sh, g.sh]; rfl
  · show (PyData.intsShort 33 d && PyData.intsShortAll 33 ds) = true; rw [h.it, g.it]; rfl
theorem HDs.nil {n m : Nat} : HDs [] n m := ⟨rfl, Nat.zero_le _, Nat.zero_le _, rfl, rfl⟩
theorem HDs.lst {ds : List PyData} {n m : Nat} (h : HDs ds n m) : HD (.list ds) (n + 1) m := ⟨h.lay, Nat.succ_le_succ h.dp, h.we, h.sh, h.it⟩
theorem HDs.tup {ds : List PyData} {n m : Nat} (h : HDs ds n m) : HD (.tuple ds) (n + 1) m := ⟨h.lay, Nat.succ_le_succ h.dp, h.we, h.sh, h.it⟩
theorem HD.len {d : PyData} {n m : Nat} (h : HD d n m) (l : m ≤ 100000) : d.shown.length ≤ sizeLine := by
  have h2 := PyData.shown_le 33 (by decide) d (PyData.leavesShort_of_canLay0 33 d h.lay h.it)
  have := h.we
  rw [sizeLine_eq]
  omega
mutual
theorem Dp.same {K : PySem.W.Frag} {H H' : Hp} (e : Same H H') : ∀ {v : V} {d : PyData}, Dp K H v d → Dp K H' v d
  | _, _, .non => .non
  | _, _, .bl b => .bl b
  | _, _, .int i => .int i
  | _, _, .str x => .str x
  | _, _, .lst h g => .lst (e.seq h) (DpAll.same e g)
  | _, _, .tup h g => .tup (Same.tup e h) (DpAll.same e g)
theorem DpAll.same {K : PySem.W.Frag} {H H' : Hp} (e : Same H H') : ∀ {vs : List V} {ds : List PyData}, DpAll K H vs ds → DpAll K H' vs ds
  | _, _, .nil => .nil
  | _, _, .cons h g => .cons (Dp.same e h) (DpAll.same e g)
end
end TT
namespace TT
open PySem PySem.Spec PyProof.Rows L2 HotX LamX
end TT
namespace TT
open PySem PySem.Spec PyProof.Rows L2 HotX LamX T HT
section
variable {prog : Program} {w : World} {A : Around} {E : Value → Shared → Prop} {s : Shared}
end
section
variable {X : Cx}
end
end TT
namespace TT
open PySem PySem.Spec PyProof.Rows L2 HotX LamX T
inductive Bt where
  | k (n : Int)
  | z
  | o
  | p (c : Int)
  | r (w : Str) (c : Int) (ss : List Bt)
mutual
def HB (H : Hp) : Bt → V → Prop
  | .k n, v => v = .int n
  | .z, v => ∃ a : Addr, v = .ref a ∧ H a = some (.tup [])
  | .o, v => ∃ a : Addr, v = .ref a ∧ H a = some (.tup [.str "repeat"])
  | .p c, v => ∃ a : Addr, v = .ref a ∧ H a = some (.tup [.str "repeat", .int c])
  | .r w c ss, v => ∃ (a b : Addr) (vs : List V), v = .ref a ∧ H a = some (.tup [.str w, .int c, .ref b]) ∧ (H b = some (.lst vs) ∨ H b = some (.tup vs)) ∧ BL H ss vs
def BL (H : Hp) : List Bt → List V → Prop
  | [], vs => vs = []
  | s :: ss, vs => ∃ (v : V) (ws : List V), vs = v :: ws ∧ HB H s v ∧ BL H ss ws
end
mutual
theorem HB.at {H H' : Hp} (e1 : ∀ x xs, H x = some (.tup xs) → H' x = some (.tup xs)) (e2 : ∀ x xs, H x = some (.lst xs) → H' x = some (.lst xs)) : ∀ (s : Bt) {v : V}, HB H s v → HB H' s v
  | .k n, _, h => h
  | .z, _, ⟨a, h1, h2⟩ => ⟨a, h1, e1 _ _ h2⟩
  | .o, _, ⟨a, h1, h2⟩ => ⟨a, h1, e1 _ _ h2⟩
  | .p c, _, ⟨a, h1, h2⟩ => ⟨a, h1, e1 _ _ h2⟩
  | .r w c ss, _, ⟨a, b, vs, h1, h2, h3, h4⟩ => ⟨a, b, vs, h1, e1 _ _ h2, h3.imp (e2 _ _) (e1 _ _), BL.at e1 e2 ss h4⟩
theorem BL.at {H H' : Hp} (e1 : ∀ x xs, H x = some (.tup xs) → H' x = some (.tup xs)) (e2 : ∀ x xs, H x = some (.lst xs) → H' x = some (.lst xs)) : ∀ (ss : List Bt) {vs : List V}, BL H ss vs → BL H' ss vs
  | [], _, h => h
  | s :: ss, _, ⟨v, ws, h1, h2, h3⟩ => ⟨v, ws, h1, HB.at e1 e2 s h2, BL.at e1 e2 ss h3⟩
end
theorem HB.same {H H' : Hp} (e : Same H H') (s : Bt) {v : V} (h : HB H s v) : HB H' s v := HB.at (fun _ _ => e _ _) (fun _ _ => e _ _) s h
theorem BL.same {H H' : Hp} (e : Same H H') (ss : List Bt) {vs : List V} (h : BL H ss vs) : BL H' ss vs := BL.at (fun _ _ => e _ _) (fun _ _ => e _ _) ss h
mutual
theorem HB.ext {H H' : Hp} {c d : Addr} {ns : List Int} (hD : Drw c ns H d) (e : Ext d H H') : ∀ (s : Bt) {v : V}, HB H s v → HB H' s v
  | .k n, _, h => h
  | .z, _, ⟨a, h1, h2⟩ => ⟨a, h1, e _ _ (tup_ne hD h2) h2⟩
  | .o, _, ⟨a, h1, h2⟩ => ⟨a, h1, e _ _ (tup_ne hD h2) h2⟩
  | .p n, _, ⟨a, h1, h2⟩ => ⟨a, h1, e _ _ (tup_ne hD h2) h2⟩
  | .r w n ss, _, ⟨a, b, vs, h1, h2, h3, h4⟩ => by
    refine ⟨a, b, vs, h1, e _ _ (tup_ne hD h2) h2, h3.imp (fun h => e _ _ (fun z => ?_) h) (fun h => e _ _ (tup_ne hD h) h), BL.ext hD e ss h4⟩
    obtain ⟨i, z1, z2, hd, hc, _⟩ := id hD
    rw [z, hd] at h
    cases h
    cases ss with
    | nil => exact absurd (show _ = [] from h4) (by simp)
    | cons s0 ss0 =>
      obtain ⟨v, ws, e1, e2, _⟩ := h4
      cases e1
      cases s0 with
      | k x => exact absurd (show V.ref c = V.int x from e2) (by simp)
      | z => obtain ⟨a', k1, k2⟩ := e2; cases k1; rw [hc] at k2; cases k2
      | o => obtain ⟨a', k1, k2⟩ := e2; cases k1; rw [hc] at k2; cases k2
      | p x => obtain ⟨a', k1, k2⟩ := e2; cases k1; rw [hc] at k2; cases k2
      | r w' x y =>
        obtain ⟨a', b', vs', k1, k2, _⟩ := e2
        cases k1
        rw [hc] at k2
        cases k2
theorem BL.ext {H H' : Hp} {c d : Addr} {ns : List Int} (hD : Drw c ns H d) (e : Ext d H H') : ∀ (ss : List Bt) {vs : List V}, BL H ss vs → BL H' ss vs
  | [], _, h => h
  | s :: ss, _, ⟨v, ws, h1, h2, h3⟩ => ⟨v, ws, h1, HB.ext hD e s h2, BL.ext hD e ss h3⟩
end
theorem BL.len {H : Hp} : ∀ {ss : List Bt} {vs : List V}, BL H ss vs → vs.length = ss.length
  | [], _, h => by rw [show _ = [] from h]; rfl
  | _ :: _, _, ⟨v, ws, h1, _, h3⟩ => by rw [h1, List.length_cons, List.length_cons, h3.len]
theorem BL.get {H : Hp} : ∀ {ss : List Bt} {vs : List V} {i : Nat} {v : V}, BL H ss vs → vs[i]? = some v → ∃ s, ss[i]? = some s ∧ HB H s v
  | [], _, i, v, h, g => by rw [show _ = [] from h] at g; cases g
  | s :: _, _, 0, v, ⟨v', ws, h1, h2, _⟩, g => by rw [h1] at g; cases g; exact ⟨s, rfl, h2⟩
  | _ :: _, _, i + 1, v, ⟨v', ws, h1, _, h3⟩, g => by rw [h1] at g; exact h3.get (i := i) g
theorem BL.app {H : Hp} : ∀ {ss ts : List Bt} {vs ws : List V}, BL H ss vs → BL H ts ws → BL H (ss ++ ts) (vs ++ ws)
  | [], _, _, _, h1, h2 => by rw [show _ = [] from h1]; exact h2
  | _ :: _, _, _, _, ⟨v, us, e, h2, h3⟩, h => by rw [e]; exact ⟨v, us ++ _, rfl, h2, h3.app h⟩
theorem BL.take {H : Hp} : ∀ {ss : List Bt} {vs : List V} (i : Nat), BL H ss vs → BL H (ss.take i) (vs.take i)
  | [], _, i, h => by rw [show _ = [] from h, List.take_nil, List.take_nil]; rfl
  | _ :: _, _, 0, _ => rfl
  | _ :: _, _, i + 1, ⟨v, us, e, h2, h3⟩ => by rw [e]; exact ⟨v, us.take i, rfl, h2, h3.take i⟩
theorem BL.drop {H : Hp} : ∀ {ss : List Bt} {vs : List V} (i : Nat), BL H ss vs → BL H (ss.drop i) (vs.drop i)
  | [], _, i, h => by rw [show _ = [] from h, List.drop_nil, List.drop_nil]; rfl
  | _ :: _, _, 0, h => h
  | _ :: _, _, i + 1, ⟨v, us, e, h2, h3⟩ => by rw [e]; exact h3.drop i
theorem BL.one {H : Hp} {s : Bt} {v : V} (h : HB H s v) : BL H [s] [v] := ⟨v, [], rfl, h, rfl⟩
theorem BL.rep {H : Hp} {x : Int} : ∀ n : Nat, BL H (List.replicate n (.k x)) (List.replicate n (.int x))
  | 0 => rfl
  | n + 1 => ⟨.int x, List.replicate n (.int x), rfl, rfl, BL.rep n⟩
mutual
def Bt.wr : Bt → Nat
  | .r _ _ ss => 1 + wrB ss
  | _ => 1
def wrB : List Bt → Nat
  | [] => 0
  | s :: ss => s.wr + wrB ss
end
mutual
def Bt.dLe : Bt → Nat → Prop
  | .r _ _ ss, n + 1 => dLeB ss n
  | .r _ _ _, 0 => False
  | _, _ => True
def dLeB : List Bt → Nat → Prop
  | [], _ => True
  | s :: ss, n => s.dLe n ∧ dLeB ss n
end
def okW (w : Str) : Prop := w = "repeat" ∨ w = "Repeat" ∨ w = "" ∨ w = "round"
mutual
def Bt.fn : Bt → Prop
  | .k n => -1000000001 ≤ n ∧ n ≤ 1000000001
  | .p c => -1 ≤ c ∧ c ≤ 1000000000000000000000000000001
  | .r w c ss => okW w ∧ -1 ≤ c ∧ c ≤ 1000000000000000000000000000001 ∧ fnB ss
  | _ => True
def fnB : List Bt → Prop
  | [] => True
  | s :: ss => s.fn ∧ fnB ss
end
mutual
theorem Bt.dLe_mono {n m : Nat} (h : n ≤ m) : ∀ (s : Bt), s.dLe n → s.dLe m
  | .k _, _ => trivial
  | .z, _ => trivial
  | .o, _ => trivial
  | .p _, _ => trivial
  | .r w c ss, d => by
    cases n with
    | zero => exact d.elim
    | succ n =>
      cases m with
      | zero => omega
      | succ m => exact dLeB_mono (by omega) ss d
theorem dLeB_mono {n m : Nat} (h : n ≤ m) : ∀ (ss : List Bt), dLeB ss n → dLeB ss m
  | [], _ => trivial
  | s :: ss, d => ⟨Bt.dLe_mono h s d.1, dLeB_mono h ss d.2⟩
end
mutual
def S.bt : S → Bt
  | .k n => .k n
  | .r c ss => .r "repeat" c (btL ss)
def btL : List S → List Bt
  | [] => []
  | s :: ss => s.bt :: btL ss
end
mutual
theorem bt_h {H : Hp} : ∀ (s : S) {v : V}, HS H s v → HB H s.bt v
  | .k n, _, h => h
  | .r c ss, _, ⟨a, b, vs, h1, h2, h3, h4⟩ => ⟨a, b, vs, h1, h2, h3, btL_h ss h4⟩
theorem btL_h {H : Hp} : ∀ (ss : List S) {vs : List V}, HL H ss vs → BL H (btL ss) vs
  | [], _, h => h
  | s :: ss, _, ⟨v, ws, h1, h2, h3⟩ => ⟨v, ws, h1, bt_h s h2, btL_h ss h3⟩
end
def rokB (w : Str) (c : Int) : Bool := decide (w = "repeat") && (decide (0 ≤ c) && decide (c ≤ 1000000000000000000000000000000))
mutual
/-- none: too long; some p: a bad step at p -/
def Bt.chk (dep : Nat) : Bt → Nat → Except (Option Nat) Nat
  | .k n, pos => if pos ≥ 100 then .error none else if okK n then .ok (pos + 1) else .error (some pos)
  | .r w c ss, pos => if pos ≥ 100 then .error none else if dep > 4 ∨ rokB w c = false then .error (some pos) else chkB (dep + 1) ss (pos + 1)
  | _, pos => if pos ≥ 100 then .error none else .error (some pos)
def chkB (dep : Nat) : List Bt → Nat → Except (Option Nat) Nat
  | [], pos => .ok pos
  | s :: ss, pos => match s.chk dep pos with
    | .error e => .error e
    | .ok q => chkB dep ss q
end
theorem chkB_app (dep : Nat) : ∀ (xs ys : List Bt) (pos : Nat), chkB dep (xs ++ ys) pos = match chkB dep xs pos with
    | .error e => .error e
    | .ok q => chkB dep ys q
  | [], ys, pos => rfl
  | x :: xs, ys, pos => by
    show (match x.chk dep pos with | Except.error e => Except.error e | Except.ok q => chkB dep (xs ++ ys) q) = match (match x.chk dep pos with | Except.error e => Except.error e | Except.ok q => chkB dep xs q) with | Except.error e => Except.error e | Except.ok q => chkB dep ys q
    cases x.chk dep pos with
    | error e => rfl
    | ok q => exact chkB_app dep xs ys q
theorem chkB_take {dep : Nat} {ss : List Bt} {i : Nat} {s : Bt} {pos : Nat} (h : ss[i]? = some s) : chkB dep (ss.take (i + 1)) pos = match chkB dep (ss.take i) pos with
    | .error e => .error e
    | .ok q => s.chk dep q := by
  rw [List.take_add_one, h, chkB_app]
  cases chkB dep (ss.take i) pos with
  | error e => rfl
  | ok q =>
    show (match s.chk dep q with | Except.error e => Except.error e | Except.ok q => Except.ok q) = s.chk dep q
    cases s.chk dep q <;> rfl
theorem chkB_bad {dep : Nat} {ss : List Bt} {i pos : Nat} {e : Option Nat} (h : chkB dep (ss.take i) pos = .error e) : chkB dep ss pos = .error e := by
  rw [← List.take_append_drop i ss, chkB_app, h]
mutual
theorem Bt.chk_le : ∀ (s : Bt) {dep pos q : Nat}, s.chk dep pos = .ok q → pos ≤ 100 → q ≤ 100
  | .k n, dep, pos, q, h, l => by
    unfold Bt.chk at h
    split at h
    · cases h
    · split at h
      · cases h; omega
      · cases h
  | .z, dep, pos, q, h, l => by unfold Bt.chk at h; split at h <;> cases h
  | .o, dep, pos, q, h, l => by unfold Bt.chk at h; split at h <;> cases h
  | .p c, dep, pos, q, h, l => by unfold Bt.chk at h; split at h <;> cases h
  | .r w c ss, dep, pos, q, h, l => by
    unfold Bt.chk at h
    split at h
    · cases h
    · split at h
      · cases h
      · exact chkB_le ss h (by omega)
theorem chkB_le : ∀ (ss : List Bt) {dep pos q : Nat}, chkB dep ss pos = .ok q → pos ≤ 100 → q ≤ 100
  | [], dep, pos, q, h, l => by cases h; exact l
  | s :: ss, dep, pos, q, h, l => by
    unfold chkB at h
    cases e : s.chk dep pos with
    | error e => rw [e] at h; cases h
    | ok q1 =>
      rw [e] at h
      exact chkB_le ss h (Bt.chk_le s e l)
end
end TT
namespace TT
open PySem PySem.Spec PyProof.Rows L2 HotX LamX T
def EqvW (H : Hp) : Nat → V → V → Prop
  | 0, x, y => flatV x = true ∧ x = y
  | n + 1, x, y => (flatV x = true ∧ x = y) ∨ ∃ a b xs ys, x = .ref a ∧ y = .ref b ∧ ((H a = some (.lst xs) ∧ H b = some (.lst ys)) ∨ (H a = some (.tup xs) ∧ H b = some (.tup ys))) ∧ xs.length = ys.length ∧ xs.length ≤ 6000 ∧ ∀ (i : Nat) u v, xs[i]? = some u → ys[i]? = some v → EqvW H n u v
theorem EqvW.same {H H' : Hp} (e : Same H H') : ∀ {n : Nat} {x y : V}, EqvW H n x y → EqvW H' n x y
  | 0, _, _, h => (show flatV _ = true ∧ _ from h)
  | n + 1, _, _, h => by
    rcases h with h | ⟨a, b, xs, ys, e1, e2, h1, h2, h3, h4⟩
    · exact .inl h
    · refine .inr ⟨a, b, xs, ys, e1, e2, ?_, h2, h3, fun i u v a1 a2 => (h4 i u v a1 a2).same e⟩
      rcases h1 with ⟨p, q⟩ | ⟨p, q⟩
      · exact .inl ⟨e _ _ p, e _ _ q⟩
      · exact .inr ⟨e _ _ p, e _ _ q⟩
def spSameW (n : Nat) : Sp := fun vs H Q _ => ∃ x y, vs = [x, y] ∧ EqvW H n x y ∧ ∀ H', Same H H' → Q (.bl true) H'
theorem EqvW.cases {H : Hp} : ∀ {n : Nat} {x y : V}, EqvW H n x y → (flatV x = true ∧ x = y) ∨ ∃ m a b xs ys, n = m + 1 ∧ x = .ref a ∧ y = .ref b ∧ ((H a = some (.lst xs) ∧ H b = some (.lst ys)) ∨ (H a = some (.tup xs) ∧ H b = some (.tup ys))) ∧ xs.length = ys.length ∧ xs.length ≤ 6000 ∧ ∀ (i : Nat) u v, xs[i]? = some u → ys[i]? = some v → EqvW H m u v
  | 0, _, _, h => .inl h
  | n + 1, _, _, h => by
    rcases h with h | ⟨a, b, xs, ys, h⟩
    · exact .inl h
    · exact .inr ⟨n, a, b, xs, ys, rfl, h⟩
def spPrevW : Nat → Sp
  | 0 => fun _ _ _ _ => False
  | n + 1 => spSameW n
theorem EqvW.of {H : Hp} : ∀ {n : Nat} {x y : V}, Eqv H n x y → EqvW H n x y
  | 0, _, _, h => (show flatV _ = true ∧ _ from h)
  | n + 1, _, _, h => by
    rcases h with h | ⟨a, b, xs, ys, e1, e2, h1, h2, h3, h4⟩
    · exact .inl h
    · exact .inr ⟨a, b, xs, ys, e1, e2, h1, h2, by omega, fun i u v a1 a2 => .of (h4 i u v a1 a2)⟩
theorem EqvW.flat {H : Hp} {x : V} (h : flatV x = true) : ∀ {n : Nat}, EqvW H n x x
  | 0 => ⟨h, rfl⟩
  | _ + 1 => .inl ⟨h, rfl⟩
theorem eqvW_tri {H : Hp} {a b : Addr} {n : Nat} {x y z u v w : V} (ha : H a = some (.tup [x, y, z])) (hb : H b = some (.tup [u, v, w])) (h1 : EqvW H n x u) (h2 : EqvW H n y v) (h3 : EqvW H n z w) : EqvW H (n + 1) (.ref a) (.ref b) := by
  refine .inr ⟨a, b, _, _, rfl, rfl, .inr ⟨ha, hb⟩, rfl, by show 3 ≤ 6000; decide, fun i p q g1 g2 => ?_⟩
  match i, g1, g2 with
  | 0, g1, g2 => cases g1; cases g2; exact h1
  | 1, g1, g2 => cases g1; cases g2; exact h2
  | 2, g1, g2 => cases g1; cases g2; exact h3
  | n + 3, g1, g2 => cases g1
end TT
namespace TT
open PySem PySem.Spec PyProof.Rows L2 HotX LamX T
def wbn : Nat → Nat
  | 0 => 1
  | n + 1 => 1 + 3 * wbn n
theorem wbn_pos (n : Nat) : 1 ≤ wbn n := by cases n <;> simp [wbn]
theorem wrL_le {m : Nat} : ∀ {ss : List S}, (∀ s ∈ ss, s.wr ≤ m) → wrL ss ≤ ss.length * m
  | [], _ => Nat.zero_le _
  | s :: ss, h => by
    have h1 := h s List.mem_cons_self
    have h2 := wrL_le (ss := ss) fun x hx => h x (List.mem_cons_of_mem _ hx)
    show s.wr + wrL ss ≤ (ss.length + 1) * m
    rw [Nat.succ_mul]; omega
def spStepW (n : Nat) : Sp := fun us H Q _ => ∃ (d a : Addr) (ks : List Int) (c : Addr) (ns : List Int), us = [.ref d, .ref a, .int (n : Nat)] ∧ H a = some (.lst (ks.map V.int)) ∧ 0 < ks.length ∧ ks.length ≤ 1000 ∧ a ≠ d ∧ Drw c ns H d ∧
  ∀ s v H', s.dLe n → s.inK ks → s.wr ≤ wbn n → Ext d H H' → Drw c ns H' d → HS (nwD H none H') s v → Q v H'
def spPrevSw : Nat → Sp
  | 0 => fun _ _ _ _ => False
  | n + 1 => spStepW n
def spHistW : Sp := fun us H Q _ => ∃ (d a : Addr) (ks : List Int) (most n : Nat) (c : Addr) (ns : List Int), us = [.ref d, .ref a, .int (most : Nat), .int (n : Nat)] ∧ H a = some (.lst (ks.map V.int)) ∧ 0 < ks.length ∧ ks.length ≤ 1000 ∧ most ≤ 20 ∧ n ≤ 4 ∧ a ≠ d ∧ Drw c ns H d ∧
  ∀ ss vs p H', ss.length ≤ most → dLeL ss n → inKL ks ss → wrL ss ≤ most * wbn n → Ext d H H' → Drw c ns H' d → H p = none → H' p = some (.lst vs) → HL H' ss vs → Q (.ref p) H'
theorem HD.mono {d : PyData} {n n' m m' : Nat} (h : HD d n m) (a : n ≤ n') (b : m ≤ m') : HD d n' m' := ⟨h.lay, Nat.le_trans h.dp a, Nat.le_trans h.we b, h.sh, h.it⟩
theorem p31 : (10 : Nat) ^ 31 = 10000000000000000000000000000000 := by decide
def LK (H0 H : Hp) : List (Bt × Nat) → List V → Prop
  | [], vs => vs = []
  | x :: xs, vs => ∃ (p : Addr) (v : V) (ws : List V), vs = .ref p :: ws ∧ H p = some (.tup [v, .int (x.2 : Nat)]) ∧ HB H0 x.1 v ∧ LK H0 H xs ws
theorem LK.same {H0 H H' : Hp} (e : Same H H') : ∀ {xs : List (Bt × Nat)} {vs : List V}, LK H0 H xs vs → LK H0 H' xs vs
  | [], _, h => h
  | _ :: _, _, ⟨p, v, ws, h1, h2, h3, h4⟩ => ⟨p, v, ws, h1, e _ _ h2, h3, LK.same e h4⟩
theorem LK.up {H0 H : Hp} (e : Same H0 H) : ∀ {xs : List (Bt × Nat)} {vs : List V}, LK H0 H xs vs → LK H H xs vs
  | [], _, h => h
  | _ :: _, _, ⟨p, v, ws, h1, h2, h3, h4⟩ => ⟨p, v, ws, h1, h2, HB.same e _ h3, LK.up e h4⟩
theorem LK.put {H0 H : Hp} {D : Addr} {l : List V} {o : HO} (hD : H D = some (.lst l)) : ∀ {xs : List (Bt × Nat)} {vs : List V}, LK H0 H xs vs → LK H0 (upd H D o) xs vs
  | [], _, h => h
  | _ :: _, _, ⟨p, v, ws, h1, h2, h3, h4⟩ => ⟨p, v, ws, h1, by rw [upd_ne (fun z => by rw [z, hD] at h2; cases h2)]; exact h2, h3, LK.put hD h4⟩
theorem LK.len {H0 H : Hp} : ∀ {xs : List (Bt × Nat)} {vs : List V}, LK H0 H xs vs → vs.length = xs.length
  | [], _, h => by rw [show _ = [] from h]; rfl
  | _ :: _, _, ⟨p, v, ws, h1, _, _, h4⟩ => by rw [h1, List.length_cons, List.length_cons, h4.len]
theorem LK.app {H0 H : Hp} : ∀ {xs ys : List (Bt × Nat)} {vs ws : List V}, LK H0 H xs vs → LK H0 H ys ws → LK H0 H (xs ++ ys) (vs ++ ws)
  | [], _, _, _, h1, h2 => by rw [show _ = [] from h1]; exact h2
  | _ :: _, _, _, _, ⟨p, v, us, e, h2, h3, h4⟩, h => by rw [e]; exact ⟨p, v, us ++ _, rfl, h2, h3, h4.app h⟩
theorem LK.last {H0 H : Hp} {x : Bt × Nat} : ∀ {xs : List (Bt × Nat)} {vs : List V}, LK H0 H (xs ++ [x]) vs → ∃ (p : Addr) (v : V) (ws : List V), vs = ws ++ [.ref p] ∧ H p = some (.tup [v, .int (x.2 : Nat)]) ∧ HB H0 x.1 v ∧ LK H0 H xs ws
  | [], _, ⟨p, v, ws, h1, h2, h3, h4⟩ => ⟨p, v, [], by rw [h1, show ws = [] from h4]; rfl, h2, h3, rfl⟩
  | y :: xs, _, ⟨p, v, us, h1, h2, h3, h4⟩ => by
    obtain ⟨p', v', ws, g1, g2, g3, g4⟩ := LK.last (xs := xs) h4
    exact ⟨p', v', .ref p :: ws, by rw [h1, g1]; rfl, g2, g3, p, v, ws, rfl, h2, h3, g4⟩
def LP (H : Hp) (l : Nat) : List V → List V → Prop
  | [], ws => ws = []
  | v :: vs, ws => ∃ (p : Addr) (us : List V), ws = .ref p :: us ∧ H p = some (.tup [v, .int (l : Nat)]) ∧ LP H l vs us
theorem LP.same {H H' : Hp} {l : Nat} (e : Same H H') : ∀ {vs ws : List V}, LP H l vs ws → LP H' l vs ws
  | [], _, h => h
  | _ :: _, _, ⟨p, us, h1, h2, h3⟩ => ⟨p, us, h1, e _ _ h2, LP.same e h3⟩
theorem LP.put {H : Hp} {l : Nat} {D : Addr} {xs : List V} {o : HO} (hD : H D = some (.lst xs)) : ∀ {vs ws : List V}, LP H l vs ws → LP (upd H D o) l vs ws
  | [], _, h => h
  | _ :: _, _, ⟨p, us, h1, h2, h3⟩ => ⟨p, us, h1, by rw [upd_ne (fun z => by rw [z, hD] at h2; cases h2)]; exact h2, LP.put hD h3⟩
theorem LP.snoc {H : Hp} {l : Nat} {p : Addr} {v : V} (hp : H p = some (.tup [v, .int (l : Nat)])) : ∀ {vs ws : List V}, LP H l vs ws → LP H l (vs ++ [v]) (ws ++ [.ref p])
  | [], _, h => by rw [show _ = [] from h]; exact ⟨p, [], rfl, hp, rfl⟩
  | _ :: _, _, ⟨p', us, h1, h2, h3⟩ => by rw [h1]; exact ⟨p', us ++ [.ref p], rfl, h2, LP.snoc hp h3⟩
theorem LP.len {H : Hp} {l : Nat} : ∀ {vs ws : List V}, LP H l vs ws → ws.length = vs.length
  | [], _, h => congrArg List.length (show _ = [] from h)
  | _ :: _, _, ⟨p, us, h1, _, h3⟩ => by rw [h1, List.length_cons, List.length_cons, LP.len h3]
theorem LP.lk {H0 H : Hp} {l : Nat} : ∀ {ss : List Bt} {vs ws : List V}, BL H0 ss vs → LP H l vs ws → LK H0 H (ss.map fun s => (s, l)) ws
  | [], _, _, h1, h2 => by rw [show _ = [] from h1] at h2; exact h2
  | s :: ss, _, _, ⟨v, us, e, g1, g2⟩, h2 => by
    rw [e] at h2
    obtain ⟨p, zs, k1, k2, k3⟩ := h2
    exact ⟨p, v, zs, k1, k2, g1, LP.lk g2 k3⟩
section
variable {X : Cx}
end
def isKB : Bt → Bool
  | .k _ => true
  | _ => false
theorem hb_tup {H : Hp} {s : Bt} {v : V} (h : HB H s v) (n : isKB s = false) : ∃ (a : Addr) (xs : List V), v = .ref a ∧ H a = some (.tup xs) := by
  cases s with
  | k x => cases n
  | z => obtain ⟨a, h1, h2⟩ := h; exact ⟨a, _, h1, h2⟩
  | o => obtain ⟨a, h1, h2⟩ := h; exact ⟨a, _, h1, h2⟩
  | p c => obtain ⟨a, h1, h2⟩ := h; exact ⟨a, _, h1, h2⟩
  | r wd c ss => obtain ⟨a, b, vs, h1, h2, _⟩ := h; exact ⟨a, _, h1, h2⟩
def ECk (C1 C2 : Addr) (r : Option Nat) (H : Hp) (E : XK) : Prop := match r with
  | none => EOw C1 "TooLong" "limit" 100 H E
  | some p => EOw C2 "BadStep" "pos" (p : Nat) H E
theorem ECk.same {C1 C2 : Addr} {r : Option Nat} {H H' : Hp} {E : XK} (h : ECk C1 C2 r H E) (e : Same H H') : ECk C1 C2 r H' E := by
  cases r with
  | none => exact fun d Hf e1 h1 => h d Hf (e.trans e1) h1
  | some p => exact fun d Hf e1 h1 => h d Hf (e.trans e1) h1
def rokS : Bt → Bool
  | .r w c _ => rokB w c
  | _ => false
theorem chk_bad {s : Bt} {dep q : Nat} (n : isKB s = false) (l : ¬ q ≥ 100) (h : dep > 4 ∨ rokS s = false) : s.chk dep q = .error (some q) := by
  cases s with
  | k x => cases n
  | z => unfold Bt.chk; rw [if_neg l]
  | o => unfold Bt.chk; rw [if_neg l]
  | p c => unfold Bt.chk; rw [if_neg l]
  | r wd c ss => unfold Bt.chk; rw [if_neg l]; exact if_pos h
theorem chk_long {s : Bt} {dep q : Nat} (l : q ≥ 100) : s.chk dep q = .error none := by
  cases s <;> (unfold Bt.chk; rw [if_pos l])
def spRoundB : Sp := fun vs H Q _ => ∃ (a : Addr) (s : Bt), vs = [.ref a] ∧ HB H s (.ref a) ∧ Q (.bl (rokS s)) H
def spChkB (K : PySem.W.Frag) (C1 C2 : Addr) (n : Nat) : Sp := fun us H Q E => ∃ (b : Addr) (vs : List V) (ss : List Bt) (pos dep : Nat), us = [.ref b, .int (pos : Nat), .int (dep : Nat)] ∧ Sq K H b vs ∧ BL H ss vs ∧ 5 ≤ dep + n ∧ dep ≤ 100 ∧ pos ≤ 100 ∧
  (∀ q, chkB dep ss pos = .ok q → ∀ H', Same H H' → Q (.int (q : Nat)) H') ∧ (∀ r, chkB dep ss pos = .error r → ECk C1 C2 r H E)
def spPrevCB (K : PySem.W.Frag) (C1 C2 : Addr) : Nat → Sp
  | 0 => fun _ _ _ _ => False
  | n + 1 => spChkB K C1 C2 n
def spChkHB (K : PySem.W.Frag) (C1 C2 : Addr) : Sp := fun us H Q E => ∃ (b : Addr) (vs : List V) (ss : List Bt), us = [.ref b] ∧ Sq K H b vs ∧ BL H ss vs ∧
  (∀ q, chkB 1 ss 0 = .ok q → ∀ H', Same H H' → Q .non H') ∧ (∀ r, chkB 1 ss 0 = .error r → ECk C1 C2 r H E)
def dueT : Except (Option Nat) Nat → Str
  | .ok _ => ""
  | .error none => "TooLong"
  | .error (some _) => "BadStep"
def dueF : Except (Option Nat) Nat → V
  | .ok _ => .non
  | .error none => .int 100
  | .error (some p) => .int (p : Nat)
def OKb (H : Hp) (W n : Nat) (v : V) : Prop := ∃ s' : Bt, s'.fn ∧ s'.dLe n ∧ s'.wr ≤ W ∧ HB H s' v
theorem OKb.same {H H' : Hp} {W n : Nat} {v : V} (e : Same H H') (h : OKb H W n v) : OKb H' W n v := by
  obtain ⟨s', a, b, c, d⟩ := h
  exact ⟨s', a, b, c, HB.same e s' d⟩
theorem rep_one {α : Type} (x : α) : ∀ n : Nat, (List.replicate n [x]).flatten = List.replicate n x
  | 0 => rfl
  | n + 1 => by rw [List.replicate_succ, List.flatten_cons, rep_one x n]; rfl
def TR (H : Hp) : List (Except (Option Nat) Nat) → List V → Prop
  | [], vs => vs = []
  | r :: rs, vs => ∃ (p : Addr) (ws : List V), vs = .ref p :: ws ∧ H p = some (.tup [.str (dueT r), dueF r]) ∧ TR H rs ws
theorem TR.at {H H' : Hp} (e : ∀ x xs, H x = some (.tup xs) → H' x = some (.tup xs)) : ∀ {rs : List (Except (Option Nat) Nat)} {vs : List V}, TR H rs vs → TR H' rs vs
  | [], _, h => h
  | _ :: _, _, ⟨p, ws, h1, h2, h3⟩ => ⟨p, ws, h1, e _ _ h2, TR.at e h3⟩
theorem TR.snoc {H : Hp} {r : Except (Option Nat) Nat} {p : Addr} (hp : H p = some (.tup [.str (dueT r), dueF r])) : ∀ {rs : List (Except (Option Nat) Nat)} {vs : List V}, TR H rs vs → TR H (rs ++ [r]) (vs ++ [.ref p])
  | [], _, h => by rw [show _ = [] from h]; exact ⟨p, [], rfl, hp, rfl⟩
  | _ :: _, _, ⟨p', us, h1, h2, h3⟩ => by rw [h1]; exact ⟨p', us ++ [.ref p], rfl, h2, TR.snoc hp h3⟩
theorem TR.len {H : Hp} : ∀ {rs : List (Except (Option Nat) Nat)} {vs : List V}, TR H rs vs → vs.length = rs.length
  | [], _, h => congrArg List.length (show _ = [] from h)
  | _ :: _, _, ⟨p, ws, h1, _, h3⟩ => by rw [h1, List.length_cons, List.length_cons, TR.len h3]
theorem TR.put {H : Hp} {D : Addr} {l : List V} {o : HO} {rs : List (Except (Option Nat) Nat)} {vs : List V} (hD : H D = some (.lst l)) (h : TR H rs vs) : TR (upd H D o) rs vs :=
  h.at fun x xs hx => by rw [upd_ne (fun z => by rw [z, hD] at hx; cases hx)]; exact hx
end TT
namespace TT
open PySem PySem.Spec PyProof.Rows L2 HotX LamX T PySem.NumText
def dgN (m : Nat) : List Nat := (Nat.toDigits 10 m).map Char.toNat
def dg (i : Int) : List Nat := if i < 0 then 45 :: dgN i.natAbs else dgN i.natAbs
theorem dgN_all (m : Nat) : AllDigits (dgN m) := fun c hc => by
  obtain ⟨ch, hch, e⟩ := List.mem_map.mp hc
  have r := digit_range (Nat.isDigit_of_mem_toDigits (by decide) (by decide) hch)
  rw [← e]; exact r
theorem dgN_ne (m : Nat) : dgN m ≠ [] := fun e => by
  have h := toDigits_len_ge 10 m
  rw [List.map_eq_nil_iff.mp e] at h
  exact absurd h (by decide)
theorem dgN_len {m : Nat} (h : m < 10 ^ 31) : (dgN m).length ≤ 31 := by
  show ((Nat.toDigits 10 m).map Char.toNat).length ≤ 31
  rw [List.length_map]
  exact digits10_le (by decide) h
theorem dgN_val (m : Nat) : digitsVal (dgN m) = m := PySem.W.KIN.val_back m
theorem dgN_head {m c : Nat} {r : List Nat} (h : dgN m = c :: r) (n : m ≠ 0) : c ≠ 48 := fun e => by
  subst e
  have z := toDigits_all (dgN m) (dgN_all m)
  rw [dgN_val] at z
  have l1 : (Nat.toDigits 10 m).length = (dgN m).length := (List.length_map _).symm
  rw [h] at z l1
  rw [List.dropWhile_cons, if_pos (by decide)] at z
  cases hd : r.dropWhile (· == 48) with
  | nil =>
    rw [hd] at z
    have hv : digitsVal (dgN m) = m := dgN_val m
    have hz : Nat.toDigits 10 m = Nat.toDigits 10 0 := z
    have : digitsVal (dgN m) = digitsVal (dgN 0) := by unfold dgN; rw [hz]
    rw [dgN_val, dgN_val] at this
    exact n this
  | cons c' r' =>
    rw [hd] at z
    have z : Nat.toDigits 10 m = (c' :: r').map Char.ofNat := z
    have l2 : (Nat.toDigits 10 m).length = (c' :: r').length := by rw [z, List.length_map]
    have l3 : (c' :: r').length ≤ r.length := by rw [← hd]; exact (List.dropWhile_sublist _).length_le
    rw [l1] at l2
    have : (48 :: r : List Nat).length = r.length + 1 := rfl
    omega
theorem dg_text (i : Int) : (toString i : Str) = SX.S (dg i) := by
  have h : (PySem.Str.ofString (toString i)).cps.toList = dg i := by
    unfold dg
    cases i with
    | ofNat m => rw [if_neg (by show ¬ ((m : Nat) : Int) < 0; omega)]; exact PySem.W.KIN.signs_num m
    | negSucc m =>
      rw [if_pos (Int.negSucc_lt_zero m), signs_ofString]
      show ("-" ++ Nat.repr (m + 1)).toList.map Char.toNat = _
      rw [String.toList_append, List.map_append]
      show 45 :: (Nat.repr (m + 1)).toList.map Char.toNat = _
      rw [Nat.toList_repr]; rfl
  rw [← h]
theorem dg_len {i : Int} (h : i.natAbs < 10 ^ 31) : (dg i).length ≤ 32 := by
  have := dgN_len h
  unfold dg
  split
  · rw [List.length_cons]; omega
  · omega
theorem dg_ne (i : Int) : dg i ≠ [] := by
  unfold dg
  split
  · exact List.cons_ne_nil _ _
  · exact dgN_ne _
def isDc (c : Nat) : Prop := c = 45 ∨ (48 ≤ c ∧ c ≤ 57)
theorem dg_dc (i : Int) : ∀ c ∈ dg i, isDc c := fun c hc => by
  unfold dg at hc
  split at hc
  · rcases List.mem_cons.mp hc with h | h
    · exact .inl h
    · exact .inr (dgN_all _ c h)
  · exact .inr (dgN_all _ c hc)
theorem rp_list (l : List Nat) : Txt.removeprefix (SX.S l) (SX.S [45]) = SX.S (match l with
    | 45 :: r => r
    | l => l) := by
  rw [StrLaws.removeprefix_eq, StrLaws.subAt_eq]
  have e1 : (SX.S l).cps.toList = l := rfl
  have e2 : (SX.S [45]).cps.toList = [45] := rfl
  have e3 : (SX.S [45]).length = 1 := rfl
  rw [e1, e2, e3, SX.S_len]
  cases l with
  | nil => rfl
  | cons c r =>
    by_cases hc : c = 45
    · subst hc
      rw [if_pos (by simp)]
      show SX.S ((r.take (r.length + 1 - 1))) = SX.S r
      rw [Nat.add_sub_cancel, List.take_length]
    · rw [if_neg (by simp [hc])]
      congr 1
      split
      · rename_i h; cases h; exact absurd rfl hc
      · rfl
theorem int_dg {i : Int} (h : i.natAbs < 10 ^ 31) : intText? (SX.S (dg i)) = some i := by
  have hl : (SX.S (dg i)).length ≤ 4300 := by rw [SX.S_len]; have := dg_len h; omega
  have hN := dgN_val i.natAbs
  by_cases z : i < 0
  · have e : (SX.S (dg i)).cps.toList = 45 :: dgN i.natAbs := by show dg i = _; unfold dg; rw [if_pos z]
    rw [intText_neg e (dgN_all _) (dgN_ne _) hl, hN]
    congr 1; omega
  · have e : dg i = dgN i.natAbs := by unfold dg; rw [if_neg z]
    have := intText_digits (x := SX.S (dg i)) (by show AllDigits (dg i); rw [e]; exact dgN_all _) (by show dg i ≠ []; rw [e]; exact dgN_ne _) hl
    rw [this]
    show some ((digitsVal (dg i) : Nat) : Int) = some i
    rw [e, hN]
    congr 1; omega
mutual
def S.tx : S → List Nat
  | .k n => dg n
  | .r c ss => dg c ++ ([42, 40] ++ (txT ss ++ [41]))
def txT : List S → List Nat
  | [] => []
  | s :: ss => s.tx ++ txR ss
/-- each with a blank ahead -/
def txR : List S → List Nat
  | [] => []
  | s :: ss => 32 :: (s.tx ++ txR ss)
end
theorem txR_app : ∀ xs ys : List S, txR (xs ++ ys) = txR xs ++ txR ys
  | [], ys => rfl
  | x :: xs, ys => by
    show 32 :: (x.tx ++ txR (xs ++ ys)) = 32 :: (x.tx ++ txR xs) ++ txR ys
    rw [txR_app xs ys]; simp
theorem tx_head (s : S) : ∃ c r, s.tx = c :: r ∧ isDc c := by
  have key : ∀ (i : Int) (r : List Nat), ∃ c r', dg i ++ r = c :: r' ∧ isDc c := fun i r => by
    cases h : dg i with
    | nil => exact absurd h (dg_ne i)
    | cons c t => exact ⟨c, t ++ r, rfl, dg_dc i c (by rw [h]; exact List.mem_cons_self)⟩
  cases s with
  | k n =>
    obtain ⟨c, r, h, d⟩ := key n []
    exact ⟨c, r, by rw [List.append_nil] at h; exact h, d⟩
  | r c ss => exact key c _
def noDc (R : List Nat) : Prop := ∀ c r, R = c :: r → ¬ isDc c
def endR (R : List Nat) : Prop := R = [] ∨ ∃ r, R = 32 :: r ∨ R = 41 :: r
theorem endR.no {R : List Nat} (h : endR R) : noDc R := fun c r e z => by
  unfold isDc at z
  rcases h with h | ⟨t, h | h⟩ <;> (rw [h] at e; cases e) <;> omega
mutual
/-- steps whose rounds hold tuples -/
def HP (H : Hp) : S → V → Prop
  | .k n, v => v = .int n
  | .r c ss, v => ∃ (a b : Addr) (vs : List V), v = .ref a ∧ H a = some (.tup [.str "repeat", .int c, .ref b]) ∧ H b = some (.tup vs) ∧ HPL H ss vs
def HPL (H : Hp) : List S → List V → Prop
  | [], vs => vs = []
  | s :: ss, vs => ∃ (v : V) (ws : List V), vs = v :: ws ∧ HP H s v ∧ HPL H ss ws
end
mutual
theorem HP.at {H H' : Hp} (e : ∀ x xs, H x = some (.tup xs) → H' x = some (.tup xs)) : ∀ (s : S) {v : V}, HP H s v → HP H' s v
  | .k n, _, h => h
  | .r c ss, _, ⟨a, b, vs, h1, h2, h3, h4⟩ => ⟨a, b, vs, h1, e _ _ h2, e _ _ h3, HPL.at e ss h4⟩
theorem HPL.at {H H' : Hp} (e : ∀ x xs, H x = some (.tup xs) → H' x = some (.tup xs)) : ∀ (ss : List S) {vs : List V}, HPL H ss vs → HPL H' ss vs
  | [], _, h => h
  | s :: ss, _, ⟨v, ws, h1, h2, h3⟩ => ⟨v, ws, h1, HP.at e s h2, HPL.at e ss h3⟩
end
theorem HPL.same {H H' : Hp} (e : Same H H') (ss : List S) {vs : List V} (h : HPL H ss vs) : HPL H' ss vs := HPL.at (fun _ _ => e _ _) ss h
theorem HP.same {H H' : Hp} (e : Same H H') (s : S) {v : V} (h : HP H s v) : HP H' s v := HP.at (fun _ _ => e _ _) s h
theorem HPL.put {H : Hp} {D : Addr} {l : List V} {o : HO} (hD : H D = some (.lst l)) (ss : List S) {vs : List V} (h : HPL H ss vs) : HPL (upd H D o) ss vs :=
  HPL.at (fun x xs hx => by rw [upd_ne (fun z => by rw [z, hD] at hx; cases hx)]; exact hx) ss h
theorem HP.put {H : Hp} {D : Addr} {l : List V} {o : HO} (hD : H D = some (.lst l)) (s : S) {v : V} (h : HP H s v) : HP (upd H D o) s v :=
  HP.at (fun x xs hx => by rw [upd_ne (fun z => by rw [z, hD] at hx; cases hx)]; exact hx) s h
theorem HPL.snoc {H : Hp} {s : S} {v : V} (h : HP H s v) : ∀ {ss : List S} {vs : List V}, HPL H ss vs → HPL H (ss ++ [s]) (vs ++ [v])
  | [], _, g => by rw [show _ = [] from g]; exact ⟨v, [], rfl, h, rfl⟩
  | _ :: _, _, ⟨v', ws, h1, h2, h3⟩ => by rw [h1]; exact ⟨v', ws ++ [v], rfl, h2, HPL.snoc h h3⟩
theorem HPL.len {H : Hp} : ∀ {ss : List S} {vs : List V}, HPL H ss vs → vs.length = ss.length
  | [], _, h => congrArg List.length (show _ = [] from h)
  | _ :: _, _, ⟨v, ws, h1, _, h3⟩ => by rw [h1, List.length_cons, List.length_cons, HPL.len h3]
mutual
theorem HP.hs {H : Hp} : ∀ (s : S) {v : V}, HP H s v → HS H s v
  | .k n, _, h => h
  | .r c ss, _, ⟨a, b, vs, h1, h2, h3, h4⟩ => ⟨a, b, vs, h1, h2, .inr h3, HPL.hl ss h4⟩
theorem HPL.hl {H : Hp} : ∀ (ss : List S) {vs : List V}, HPL H ss vs → HL H ss vs
  | [], _, h => h
  | s :: ss, _, ⟨v, ws, h1, h2, h3⟩ => ⟨v, ws, h1, HP.hs s h2, HPL.hl ss h3⟩
end
theorem cut_S {A B R : List Nat} : cutS (SX.S (A ++ (B ++ R))) (some (A.length : Nat)) (some ((A.length + B.length : Nat) : Int)) = SX.S B := by
  unfold cutS
  have l : (SX.S (A ++ (B ++ R))).length = A.length + (B.length + R.length) := by rw [SX.S_len, List.length_append, List.length_append]
  rw [l, HT.sIx_nat, HT.sIx_nat, Nat.min_eq_left (by omega), Nat.min_eq_left (by omega)]
  show (⟨(((A ++ (B ++ R)).drop A.length).take (A.length + B.length - A.length)).toArray⟩ : Str) = _
  rw [List.drop_left, Nat.add_sub_cancel_left, List.take_left]
theorem dc_mem (c : Nat) : c ∈ (Str.ofString "-0123456789").cps.toList ↔ isDc c := by
  have e : (Str.ofString "-0123456789").cps.toList = [45, 48, 49, 50, 51, 52, 53, 54, 55, 56, 57] := by decide +kernel
  rw [e]
  unfold isDc
  simp only [List.mem_cons, List.not_mem_nil, or_false]
  omega
theorem sw_S (A R : List Nat) : Txt.startswith3 (SX.S (A ++ R)) (SX.S [42, 40]) ((A.length : Nat) : Int) = decide (R.take 2 = [42, 40]) := by
  unfold Txt.startswith3
  have f : fromIndex (SX.S (A ++ R)).length ((A.length : Nat) : Int) = A.length := by
    unfold fromIndex
    rw [if_neg (by omega)]; omega
  rw [f, StrLaws.subAt_eq]
  have e : (SX.S (A ++ R)).cps.toList.drop A.length = R := List.drop_left
  have e3 : (SX.S [42, 40]).length = 2 := rfl
  rw [e, e3, SX.S_len, List.length_append]
  show (decide (A.length + 2 ≤ A.length + R.length) && (R.take 2 == [42, 40])) = _
  by_cases h : R.take 2 = [42, 40]
  · have : 2 ≤ R.length := by
      have := congrArg List.length h
      rw [List.length_take] at this
      simp at this
      omega
    rw [h, decide_eq_true (by omega)]; rfl
  · rw [decide_eq_false h]
    cases hb : (R.take 2 == [42, 40])
    · rw [Bool.and_false]
    · exact absurd (eq_of_beq hb) h
theorem at_T {l : List Nat} {p c : Nat} (h : l[p]? = some c) : atI (SX.S l).cps.toList ((p : Nat) : Int) = some c := atI_int (by omega) (by rw [Int.toNat_natCast]; exact h)
theorem dg0 : dg 0 = [48] := by decide +kernel
theorem dgN0 : dgN 0 = [48] := by decide +kernel
theorem str_1 {a b : Nat} (h : a ≠ b) : ¬ V.str (⟨#[a]⟩ : Str) = V.str (⟨#[b]⟩ : Str) := fun z => by
  have := V.str.inj z
  have := congrArg Str.cps this
  simp at this
  exact h this
theorem joinL_tx : ∀ ss : List S, TL.joinL [32] (ss.map S.tx) = txT ss
  | [] => rfl
  | [s] => by show s.tx = s.tx ++ []; rw [List.append_nil]
  | s :: t :: ss => by
    show s.tx ++ ([32] ++ TL.joinL [32] ((t :: ss).map S.tx)) = s.tx ++ (32 :: (t.tx ++ txR ss))
    rw [joinL_tx (t :: ss)]; rfl
theorem join_tx (ss : List S) : Txt.join " " (ss.map fun s => SX.S s.tx) = SX.S (txT ss) := by
  have := SX.join_S [32] (ss.map S.tx)
  rw [List.map_map, joinL_tx] at this
  exact this
theorem txR_len : ∀ ss : List S, ((ss.map fun s => SX.S s.tx).map (·.length)).sum + ss.length ≤ (txR ss).length
  | [] => Nat.le_refl _
  | s :: ss => by
    have := txR_len ss
    show ((SX.S s.tx).length + ((ss.map fun s => SX.S s.tx).map (·.length)).sum) + (ss.length + 1) ≤ (32 :: (s.tx ++ txR ss)).length
    rw [SX.S_len, List.length_cons, List.length_append]
    omega
theorem txT_R (ss : List S) : (txR ss).length ≤ (txT ss).length + 1 := by
  cases ss with
  | nil => exact Nat.zero_le _
  | cons x xs => show (32 :: (x.tx ++ txR xs)).length ≤ (x.tx ++ txR xs).length + 1; rw [List.length_cons]; exact Nat.le_refl _
theorem txT_sum (ss : List S) : ((ss.map fun s => SX.S s.tx).map (·.length)).sum + ss.length ≤ (txT ss).length + 1 := Nat.le_trans (txR_len ss) (txT_R ss)
theorem tx_in {ss : List S} {s : S} (h : s ∈ ss) : s.tx.length ≤ (txT ss).length := by
  have key : ∀ {ss : List S}, s ∈ ss → s.tx.length + 1 ≤ (txR ss).length := fun {ss} h => by
    induction ss with
    | nil => cases h
    | cons x xs ih =>
      show s.tx.length + 1 ≤ (32 :: (x.tx ++ txR xs)).length
      rw [List.length_cons, List.length_append]
      rcases List.mem_cons.mp h with h | h
      · subst h; omega
      · have := ih h; omega
  have := key h
  have := txT_R ss
  omega
def bT : Nat → Nat
  | 0 => 32
  | n + 1 => 35 + 6 * (bT n + 1)
mutual
theorem S.tx_len {ks : List Int} (hk : ∀ x ∈ ks, -1000000000 ≤ x ∧ x ≤ 1000000000) : ∀ (s : S) {n : Nat}, s.inK ks → s.dLe n → s.tx.length ≤ bT n
  | .k x, n, i, _ => by
    have e : (10 : Nat) ^ 31 = 10000000000000000000000000000000 := by decide
    have hx := hk x i
    have := dg_len (i := x) (by omega)
    have : 32 ≤ bT n := by cases n <;> simp [bT] <;> omega
    show (dg x).length ≤ _
    omega
  | .r c ss, 0, _, d => d.elim
  | .r c ss, n + 1, i, d => by
    have e : (10 : Nat) ^ 31 = 10000000000000000000000000000000 := by decide
    have c0 := i.1
    have c1 := i.2.1
    have := dg_len (i := c) (by omega)
    have h1 := txR_lenB hk ss i.2.2.2 d
    have h2 : (txT ss).length ≤ (txR ss).length := by
      cases ss with
      | nil => exact Nat.le_refl _
      | cons x xs => show (x.tx ++ txR xs).length ≤ (32 :: (x.tx ++ txR xs)).length; rw [List.length_cons]; omega
    have h3 := i.2.2.1
    have h4 := Nat.mul_le_mul_right (bT n + 1) h3
    show (dg c ++ ([42, 40] ++ (txT ss ++ [41]))).length ≤ 35 + 6 * (bT n + 1)
    simp only [List.length_append, List.length_cons, List.length_nil]
    omega
theorem txR_lenB {ks : List Int} (hk : ∀ x ∈ ks, -1000000000 ≤ x ∧ x ≤ 1000000000) : ∀ (ss : List S) {n : Nat}, inKL ks ss → dLeL ss n → (txR ss).length ≤ ss.length * (bT n + 1)
  | [], n, _, _ => Nat.zero_le _
  | s :: ss, n, i, d => by
    have h1 := S.tx_len hk s i.1 d.1
    have h2 := txR_lenB hk ss i.2 d.2
    show (32 :: (s.tx ++ txR ss)).length ≤ (ss.length + 1) * (bT n + 1)
    rw [List.length_cons, List.length_append, Nat.succ_mul]
    omega
end
def spStepText (n : Nat) : Sp := fun us H Q _ => ∃ (v : V) (s : S), us = [v] ∧ HS H s v ∧ s.ok ∧ s.dLe n ∧ s.tx.length ≤ 60000 ∧ ∀ H', Same H H' → Q (.str (SX.S s.tx)) H'
def spStepsText (K : PySem.W.Frag) (n : Nat) : Sp := fun us H Q _ => ∃ (b : Addr) (vs : List V) (ss : List S), us = [.ref b] ∧ Sq K H b vs ∧ HL H ss vs ∧ okL ss ∧ dLeL ss n ∧ (txT ss).length ≤ 60000 ∧ ∀ H', Same H H' → Q (.str (SX.S (txT ss))) H'
def spPrevTx (K : PySem.W.Frag) : Nat → Sp
  | 0 => fun _ _ _ _ => False
  | n + 1 => spStepsText K n
def spFormatH (K : PySem.W.Frag) : Sp := fun us H Q _ => ∃ (b : Addr) (vs : List V) (ss : List S), us = [.ref b] ∧ Sq K H b vs ∧ HL H ss vs ∧ okL ss ∧ dLeL ss 4 ∧ wrL ss ≤ 100 ∧ (txT ss).length ≤ 60000 ∧ ∀ H', Same H H' → Q (.str (SX.S (txT ss))) H'
theorem HPL.get {H : Hp} : ∀ {ss : List S} {vs : List V} {i : Nat} {v : V}, HPL H ss vs → vs[i]? = some v → ∃ s, ss[i]? = some s ∧ HP H s v
  | [], _, i, v, h, g => by rw [show _ = [] from h] at g; cases g
  | s :: _, _, 0, v, ⟨v', ws, h1, h2, _⟩, g => by rw [h1] at g; cases g; exact ⟨s, rfl, h2⟩
  | _ :: _, _, i + 1, v, ⟨v', ws, h1, _, h3⟩, g => by rw [h1] at g; exact h3.get (i := i) g
mutual
theorem hp_eqv {H : Hp} : ∀ (s : S) {n k : Nat} {v v' : V}, HP H s v → HP H s v' → s.dLe n → s.wr ≤ 6000 → EqvW H (2 * n + k) v v'
  | .k x, n, k, v, v', h, h', _, _ => by
    rw [show v = .int x from h, show v' = .int x from h']
    exact EqvW.flat rfl
  | .r c ss, 0, k, v, v', _, _, d, _ => d.elim
  | .r c ss, n + 1, k, v, v', ⟨a, b, vs, e1, h1, h2, h3⟩, ⟨a', b', vs', e1', h1', h2', h3'⟩, d, w => by
    have w : 1 + wrL ss ≤ 6000 := w
    rw [e1, e1', show 2 * (n + 1) + k = (2 * n + k) + 1 + 1 by omega]
    exact eqvW_tri h1 h1' (EqvW.flat rfl) (EqvW.flat rfl) (.inr ⟨b, b', vs, vs', rfl, rfl, .inr ⟨h2, h2'⟩, by rw [HPL.len h3, HPL.len h3'], by rw [HPL.len h3]; have := len_wr ss; omega, hpl_eqv ss h3 h3' d (by omega)⟩)
theorem hpl_eqv {H : Hp} : ∀ (ss : List S) {n k : Nat} {vs vs' : List V}, HPL H ss vs → HPL H ss vs' → dLeL ss n → wrL ss ≤ 6000 → ∀ (i : Nat) u v, vs[i]? = some u → vs'[i]? = some v → EqvW H (2 * n + k) u v
  | [], _, _, vs, _, h, _, _, _, i, u, v, g, _ => by rw [show vs = [] from h] at g; cases g
  | s :: ss, _, _, _, _, ⟨x, ws, e, h1, h2⟩, ⟨x', ws', e', h1', h2'⟩, d, w, i, u, v, g, g' => by
    have w : s.wr + wrL ss ≤ 6000 := w
    rw [e] at g; rw [e'] at g'
    cases i with
    | zero => cases g; cases g'; exact hp_eqv s h1 h1' d.1 (by omega)
    | succ i => exact hpl_eqv ss h2 h2' d.2 (by omega) i u v g g'
end
theorem hplist_eqv {H : Hp} {ss : List S} {n k : Nat} {a b : Addr} {vs vs' : List V} (ha : H a = some (.lst vs)) (hb : H b = some (.lst vs')) (h : HPL H ss vs) (h' : HPL H ss vs') (d : dLeL ss n) (w : wrL ss ≤ 6000) : EqvW H (2 * n + k + 1) (.ref a) (.ref b) :=
  .inr ⟨a, b, vs, vs', rfl, rfl, .inl ⟨ha, hb⟩, by rw [HPL.len h, HPL.len h'], by rw [HPL.len h]; have := len_wr ss; omega, hpl_eqv ss h h' d w⟩
end TT
namespace TT
open PySem PySem.Spec PyProof.Rows L2 HotX LamX T PySem.NumText
def dgB (c : Nat) : Bool := decide (48 ≤ c) && decide (c ≤ 57)
def mns (l : List Nat) : List Nat := match l with
  | 45 :: r => r
  | l => l
def pI (l : List Nat) : Option Int :=
  if (mns l).isEmpty || !(mns l).all dgB || decide (31 < (mns l).length) || ((mns l).head? == some 48 && decide (l ≠ [48])) then none
  else some (if l.head? = some 45 then -((digitsVal (mns l) : Nat) : Int) else ((digitsVal (mns l) : Nat) : Int))
theorem dgB_iff {c : Nat} : dgB c = true ↔ 48 ≤ c ∧ c ≤ 57 := by
  unfold dgB
  rw [Bool.and_eq_true, decide_eq_true_iff, decide_eq_true_iff]
theorem all_dg {l : List Nat} : l.all dgB = true ↔ AllDigits l := by
  rw [List.all_eq_true]
  exact ⟨fun h c hc => dgB_iff.mp (h c hc), fun h c hc => dgB_iff.mpr (h c hc)⟩
theorem dgN_back {l : List Nat} (h : AllDigits l) (ne : l ≠ []) (z : l.head? ≠ some 48) : dgN (digitsVal l) = l := by
  have t := toDigits_all l h
  cases l with
  | nil => exact absurd rfl ne
  | cons c r =>
    have c0 : c ≠ 48 := fun e => z (by rw [e]; rfl)
    rw [List.dropWhile_cons, if_neg (by simpa using c0)] at t
    have t : Nat.toDigits 10 (digitsVal (c :: r)) = (c :: r).map Char.ofNat := t
    unfold dgN
    rw [t, List.map_map]
    conv => rhs; rw [← List.map_id (c :: r)]
    refine List.map_congr_left fun d hd => ?_
    have := h d hd
    show (Char.ofNat d).toNat = d
    have key : ∀ d : Fin 58, (Char.ofNat d.val).toNat = d.val := by decide +kernel
    exact key ⟨d, by omega⟩
theorem dgN_big {m : Nat} (h : (dgN m).length ≤ 31) : m < 10 ^ 31 := by
  have e : (Nat.toDigits 10 m).length ≤ 31 := by
    have : (dgN m).length = (Nat.toDigits 10 m).length := List.length_map _
    omega
  exact (Nat.length_toDigits_le_iff (b := 10) (k := 31) (by decide) (by decide)).mp e
theorem dg_cases (i : Int) : (i < 0 ∧ dg i = 45 :: dgN i.natAbs) ∨ (0 ≤ i ∧ dg i = dgN i.natAbs) := by
  by_cases z : i < 0
  · exact .inl ⟨z, by unfold dg; rw [if_pos z]⟩
  · exact .inr ⟨by omega, by unfold dg; rw [if_neg z]⟩
theorem mns_dgN {m : Nat} : mns (dgN m) = dgN m := by
  unfold mns
  split
  · rename_i h
    have := dgN_all m 45 (by rw [h]; exact List.mem_cons_self)
    omega
  · rfl
theorem mns_ne {l : List Nat} (h : l.head? ≠ some 45) : mns l = l := by
  unfold mns
  split
  · exact absurd rfl h
  · rfl
theorem pI_dg {i : Int} (h : i.natAbs < 10 ^ 31) : pI (dg i) = some i := by
  have l31 := dgN_len h
  have ne := dgN_ne i.natAbs
  have ad : (dgN i.natAbs).all dgB = true := all_dg.mpr (dgN_all _)
  have em : (dgN i.natAbs).isEmpty = false := by cases q : dgN i.natAbs with | nil => exact absurd q ne | cons => rfl
  have hd0 : i.natAbs ≠ 0 → ((dgN i.natAbs).head? == some 48) = false := fun n => by
    cases q : dgN i.natAbs with
    | nil => rfl
    | cons c r =>
      have := dgN_head q n
      simpa using this
  have nh : (dgN i.natAbs).head? ≠ some 45 := fun z => by
    cases q : dgN i.natAbs with
    | nil => rw [q] at z; cases z
    | cons c r =>
      rw [q] at z; cases z
      have := dgN_all i.natAbs 45 (by rw [q]; exact List.mem_cons_self)
      omega
  rcases dg_cases i with ⟨z, e⟩ | ⟨z, e⟩
  · have m : mns (dg i) = dgN i.natAbs := by rw [e]; rfl
    unfold pI
    rw [m, em, ad, decide_eq_false (by omega), hd0 (by omega)]
    show some (if (dg i).head? = some 45 then _ else _) = _
    rw [if_pos (by rw [e]; rfl), dgN_val]
    congr 1; omega
  · have m : mns (dg i) = dgN i.natAbs := by rw [e, mns_dgN]
    have h48 : ((dgN i.natAbs).head? == some 48 && decide (dg i ≠ [48])) = false := by
      by_cases n : i.natAbs = 0
      · have : i = 0 := by omega
        subst this
        rw [dg0]; simp
      · rw [hd0 n]; rfl
    unfold pI
    rw [m, em, ad, decide_eq_false (by omega), h48]
    show some (if (dg i).head? = some 45 then _ else _) = _
    rw [if_neg (by rw [e]; exact nh), dgN_val]
    congr 1; omega
theorem pI_some {l : List Nat} {i : Int} (h : pI l = some i) : l = dg i ∧ i.natAbs < 10 ^ 31 := by
  unfold pI at h
  split at h
  · cases h
  · rename_i c
    simp only [Bool.or_eq_true, not_or, Bool.not_eq_true', decide_eq_true_iff, Bool.not_eq_true] at c
    obtain ⟨⟨⟨c1, c2⟩, c3⟩, c4⟩ := c
    have ad : AllDigits (mns l) := all_dg.mp (by simpa using c2)
    have ne : mns l ≠ [] := fun z => by rw [z] at c1; cases c1
    have l31 : (mns l).length ≤ 31 := by simpa using c3
    by_cases hd : (mns l).head? = some 48
    · have l48 : l = [48] := by
        rw [hd] at c4
        simpa using c4
      subst l48
      cases h
      exact ⟨by decide +kernel, by decide⟩
    · have back := dgN_back ad ne hd
      have big := dgN_big (m := digitsVal (mns l)) (by rw [back]; exact l31)
      have pos : digitsVal (mns l) ≠ 0 := fun z => by
        rw [z, dgN0] at back
        rw [← back] at hd
        exact hd rfl
      by_cases h45 : l.head? = some 45
      · rw [if_pos h45] at h
        cases l with
        | nil => cases h45
        | cons c r =>
          cases h45
          injection h with h
          have back : dgN (digitsVal r) = r := back
          have big : digitsVal r < 10 ^ 31 := big
          have pos : digitsVal r ≠ 0 := pos
          have h : -((digitsVal r : Nat) : Int) = i := h
          have na : i.natAbs = digitsVal r := by omega
          refine ⟨?_, by omega⟩
          rcases dg_cases i with ⟨z, e⟩ | ⟨z, e⟩
          · rw [e, na, back]
          · omega
      · rw [if_neg h45, mns_ne h45] at h
        rw [mns_ne h45] at back big pos
        injection h with h
        have na : i.natAbs = digitsVal l := by omega
        refine ⟨?_, by omega⟩
        rcases dg_cases i with ⟨z, e⟩ | ⟨z, e⟩
        · omega
        · rw [e, na, back]
def isDcB (c : Nat) : Bool := c == 45 || dgB c
theorem isDcB_iff {c : Nat} : isDcB c = true ↔ isDc c := by
  unfold isDcB isDc
  rw [Bool.or_eq_true, dgB_iff]
  simp
def rdL (st : List Nat → Option (S × List Nat)) : Nat → Bool → List Nat → Option (List S × List Nat)
  | _, _, [] => some ([], [])
  | 0, _, c :: r => if c = 41 then some ([], c :: r) else none
  | f + 1, b, c :: r => if c = 41 then some ([], c :: r) else
      if b = false ∧ c ≠ 32 then none else
      match st (if b = true then c :: r else r) with
      | none => none
      | some (s, R) => match rdL st f false R with
        | none => none
        | some (ss, R') => some (s :: ss, R')
def rdS : Nat → List Nat → Option (S × List Nat)
  | 0, T => match pI (T.takeWhile isDcB) with
    | none => none
    | some i => if (T.dropWhile isDcB).take 2 = [42, 40] then none else some (.k i, T.dropWhile isDcB)
  | n + 1, T => match pI (T.takeWhile isDcB) with
    | none => none
    | some i => if (T.dropWhile isDcB).take 2 = [42, 40] then
        match rdL (rdS n) (T.dropWhile isDcB).length true ((T.dropWhile isDcB).drop 2) with
        | none => none
        | some (_, []) => none
        | some (ss, _ :: R) => some (.r i ss, R)
      else some (.k i, T.dropWhile isDcB)
mutual
/-- all numbers have at most 31 digits -/
def S.n31 : S → Prop
  | .k i => i.natAbs < 10 ^ 31
  | .r c ss => c.natAbs < 10 ^ 31 ∧ n31L ss
def n31L : List S → Prop
  | [] => True
  | s :: ss => s.n31 ∧ n31L ss
end
mutual
theorem S.ok31 : ∀ (s : S), s.ok → s.n31
  | .k i, h => by
    have e : (10 : Nat) ^ 31 = 10000000000000000000000000000000 := by decide
    have h : -1000000000 ≤ i ∧ i ≤ 1000000000 := h
    show i.natAbs < 10 ^ 31
    omega
  | .r c ss, h => by
    have e : (10 : Nat) ^ 31 = 10000000000000000000000000000000 := by decide
    obtain ⟨h1, h2, h3⟩ := (show 0 ≤ c ∧ c ≤ 1000000000000000000000000000000 ∧ okL ss from h)
    exact ⟨by omega, ok31L ss h3⟩
theorem ok31L : ∀ (ss : List S), okL ss → n31L ss
  | [], _ => trivial
  | s :: ss, h => ⟨S.ok31 s h.1, ok31L ss h.2⟩
end
def Snd (n : Nat) (st : List Nat → Option (S × List Nat)) : Prop := ∀ T s R, st T = some (s, R) → T = s.tx ++ R ∧ s.dLe n ∧ s.n31 ∧ R.length < T.length
theorem rdL_sound {n : Nat} {st : List Nat → Option (S × List Nat)} (h : Snd n st) : ∀ (f : Nat) (b : Bool) (T : List Nat) (ss : List S) (R : List Nat), rdL st f b T = some (ss, R) →
    T = (if b = true then txT ss else txR ss) ++ R ∧ dLeL ss n ∧ n31L ss ∧ (R = [] ∨ ∃ r, R = 41 :: r)
  | f, b, [], ss, R, e => by
    unfold rdL at e
    cases e
    refine ⟨by cases b <;> rfl, trivial, trivial, .inl rfl⟩
  | 0, b, c :: r, ss, R, e => by
    unfold rdL at e
    split at e
    · rename_i c41
      cases e
      exact ⟨by cases b <;> rfl, trivial, trivial, .inr ⟨r, by rw [c41]⟩⟩
    · cases e
  | f + 1, b, c :: r, ss, R, e => by
    unfold rdL at e
    split at e
    · rename_i c41
      cases e
      exact ⟨by cases b <;> rfl, trivial, trivial, .inr ⟨r, by rw [c41]⟩⟩
    · split at e
      · cases e
      · rename_i nb
        split at e
        · cases e
        · rename_i s R1 h1
          split at e
          · cases e
          · rename_i ss1 Q2 h2
            cases e
            obtain ⟨a1, a2, a3, a4⟩ := h _ _ _ h1
            obtain ⟨b1, b2, b3, b4⟩ := rdL_sound h f false R1 ss1 R h2
            refine ⟨?_, ⟨a2, b2⟩, ⟨a3, b3⟩, b4⟩
            have b1 : R1 = txR ss1 ++ R := b1
            cases b with
            | true =>
              have a1 : c :: r = s.tx ++ R1 := a1
              show c :: r = (s.tx ++ txR ss1) ++ R
              rw [a1, b1, List.append_assoc]
            | false =>
              have c32 : c = 32 := by
                by_cases z : c = 32
                · exact z
                · exact absurd ⟨rfl, z⟩ nb
              have a1 : r = s.tx ++ R1 := a1
              show c :: r = (32 :: (s.tx ++ txR ss1)) ++ R
              rw [c32, a1, b1]; simp
theorem tw_dc (T : List Nat) : T = T.takeWhile isDcB ++ T.dropWhile isDcB := (List.takeWhile_append_dropWhile ..).symm
theorem take2 {R : List Nat} (h : R.take 2 = [42, 40]) : R = [42, 40] ++ R.drop 2 := by
  conv => lhs; rw [← List.take_append_drop 2 R]
  rw [h]
theorem rdS_sound : ∀ n, Snd n (rdS n)
  | 0, T, s, R, e => by
    unfold rdS at e
    split at e
    · cases e
    · rename_i i h
      split at e
      · cases e
      · cases e
        obtain ⟨h1, h2⟩ := pI_some h
        refine ⟨?_, trivial, h2, ?_⟩
        · show T = dg i ++ _
          rw [← h1]; exact tw_dc T
        · have := congrArg List.length (tw_dc T)
          rw [List.length_append, h1] at this
          have := List.length_pos_iff.mpr (dg_ne i)
          omega
  | n + 1, T, s, R, e => by
    unfold rdS at e
    split at e
    · cases e
    · rename_i i h
      obtain ⟨h1, h2⟩ := pI_some h
      have len := congrArg List.length (tw_dc T)
      rw [List.length_append, h1] at len
      have l0 := List.length_pos_iff.mpr (dg_ne i)
      split at e
      · rename_i h42
        split at e
        · cases e
        · cases e
        · rename_i ss c R1 hl
          cases e
          obtain ⟨a1, a2, a3, a4⟩ := rdL_sound (rdS_sound n) _ _ _ _ _ hl
          have a1 : (T.dropWhile isDcB).drop 2 = txT ss ++ c :: R := a1
          have c41 : c = 41 := by
            rcases a4 with z | ⟨r, z⟩
            · cases z
            · injection z
          have e2 : T.dropWhile isDcB = [42, 40] ++ (txT ss ++ (41 :: R)) := by
            rw [take2 h42, a1, c41]
          refine ⟨?_, a2, ⟨h2, a3⟩, ?_⟩
          · show T = (dg i ++ ([42, 40] ++ (txT ss ++ [41]))) ++ R
            have := tw_dc T
            rw [e2, h1] at this
            rw [this]; simp
          · rw [e2] at len
            simp only [List.length_append, List.length_cons] at len
            omega
      · cases e
        refine ⟨?_, trivial, h2, by omega⟩
        show T = dg i ++ _
        rw [← h1]; exact tw_dc T
def Cmp (n : Nat) (st : List Nat → Option (S × List Nat)) : Prop := ∀ (s : S) (R : List Nat), s.dLe n → s.n31 → endR R → st (s.tx ++ R) = some (s, R)
theorem tx_cons (s : S) : ∃ c r, s.tx = c :: r ∧ c ≠ 41 ∧ c ≠ 32 := by
  obtain ⟨c, r, e, d⟩ := tx_head s
  unfold isDc at d
  exact ⟨c, r, e, by omega, by omega⟩
theorem rdL_done {st : List Nat → Option (S × List Nat)} {f : Nat} {b : Bool} {R : List Nat} (hR : R = [] ∨ ∃ r, R = 41 :: r) : rdL st f b R = some ([], R) := by
  rcases hR with rfl | ⟨r, rfl⟩
  · unfold rdL; rfl
  · cases f <;> (unfold rdL; rw [if_pos rfl])
theorem rdL_rest {n : Nat} {st : List Nat → Option (S × List Nat)} (h : Cmp n st) {R : List Nat} (hR : R = [] ∨ ∃ r, R = 41 :: r) : ∀ (ss : List S) (f : Nat), dLeL ss n → n31L ss → (txR ss ++ R).length ≤ f → rdL st f false (txR ss ++ R) = some (ss, R)
  | [], f, _, _, _ => rdL_done hR
  | s :: ss, 0, _, _, hf => by
    have : (txR (s :: ss) ++ R).length = (s.tx ++ txR ss ++ R).length + 1 := rfl
    omega
  | s :: ss, f + 1, hd, hn, hf => by
    have er : endR (txR ss ++ R) := by
      cases ss with
      | nil => rcases hR with h | ⟨r, h⟩; exact .inl (by rw [h]; rfl); exact .inr ⟨r, .inr (by rw [h]; rfl)⟩
      | cons x xs => exact .inr ⟨x.tx ++ txR xs ++ R, .inl rfl⟩
    have e : txR (s :: ss) ++ R = 32 :: (s.tx ++ (txR ss ++ R)) := by
      show (32 :: (s.tx ++ txR ss)) ++ R = _
      simp
    rw [e] at hf ⊢
    unfold rdL
    rw [if_neg (by decide), if_neg (by rintro ⟨_, z⟩; exact z rfl)]
    rw [if_neg (by decide), h s _ hd.1 hn.1 er]
    show (match rdL st f false (txR ss ++ R) with | none => none | some (ss, R') => some (s :: ss, R')) = _
    rw [rdL_rest h hR ss f hd.2 hn.2 (by rw [List.length_cons, List.length_append] at hf; omega)]
theorem rdL_all {n : Nat} {st : List Nat → Option (S × List Nat)} (h : Cmp n st) {R : List Nat} (hR : R = [] ∨ ∃ r, R = 41 :: r) {ss : List S} {f : Nat} (hd : dLeL ss n) (hn : n31L ss) (hf : (txT ss ++ R).length ≤ f) : rdL st f true (txT ss ++ R) = some (ss, R) := by
  cases ss with
  | nil => exact rdL_done hR
  | cons s ss =>
    have er : endR (txR ss ++ R) := by
      cases ss with
      | nil => rcases hR with h | ⟨r, h⟩; exact .inl (by rw [h]; rfl); exact .inr ⟨r, .inr (by rw [h]; rfl)⟩
      | cons x xs => exact .inr ⟨x.tx ++ txR xs ++ R, .inl rfl⟩
    have e : txT (s :: ss) ++ R = s.tx ++ (txR ss ++ R) := by
      show (s.tx ++ txR ss) ++ R = _
      rw [List.append_assoc]
    rw [e] at hf ⊢
    obtain ⟨c, r, ec, c41, c32⟩ := tx_cons s
    have hs := h s (txR ss ++ R) hd.1 hn.1 er
    rw [ec] at hs hf ⊢
    cases f with
    | zero => rw [List.length_append, List.length_cons] at hf; omega
    | succ f =>
      show rdL st (f + 1) true (c :: (r ++ (txR ss ++ R))) = _
      unfold rdL
      rw [if_neg c41, if_neg (by rintro ⟨z, _⟩; cases z), if_pos rfl]
      rw [show c :: (r ++ (txR ss ++ R)) = (c :: r) ++ (txR ss ++ R) from rfl, hs]
      show (match rdL st f false (txR ss ++ R) with | none => none | some (ss, R') => some (s :: ss, R')) = _
      rw [rdL_rest h hR ss f hd.2 hn.2 (by rw [List.length_append, List.length_cons] at hf; omega)]
theorem tw_app {A R : List Nat} (hA : ∀ c ∈ A, isDc c) (hR : noDc R) : (A ++ R).takeWhile isDcB = A ∧ (A ++ R).dropWhile isDcB = R := by
  have key : R.takeWhile isDcB = [] ∧ R.dropWhile isDcB = R := by
    cases R with
    | nil => exact ⟨rfl, rfl⟩
    | cons c r =>
      have : isDcB c = false := Bool.eq_false_iff.mpr fun z => hR c r rfl (isDcB_iff.mp z)
      rw [List.takeWhile_cons, List.dropWhile_cons, this]
      exact ⟨rfl, rfl⟩
  have hb : ∀ c ∈ A, isDcB c = true := fun c hc => isDcB_iff.mpr (hA c hc)
  rw [List.takeWhile_append_of_pos hb, List.dropWhile_append_of_pos hb, key.1, key.2, List.append_nil]
  exact ⟨rfl, rfl⟩
theorem rdS_cmp : ∀ n, Cmp n (rdS n)
  | n, .k i, R, hd, hn, hR => by
    obtain ⟨t1, t2⟩ := tw_app (dg_dc i) hR.no
    have n42 : R.take 2 ≠ [42, 40] := fun z => by
      rcases hR with h | ⟨r, h | h⟩ <;> rw [h] at z <;> simp at z
    have hn : i.natAbs < 10 ^ 31 := hn
    show rdS n (dg i ++ R) = _
    cases n <;> (unfold rdS; rw [t1, t2, pI_dg hn]; show (if R.take 2 = [42, 40] then _ else _) = _; rw [if_neg n42])
  | 0, .r c ss, R, hd, _, _ => hd.elim
  | n + 1, .r c ss, R, hd, hn, hR => by
    have e : (S.r c ss).tx ++ R = dg c ++ ([42, 40] ++ (txT ss ++ (41 :: R))) := by
      show (dg c ++ ([42, 40] ++ (txT ss ++ [41]))) ++ R = _
      simp
    obtain ⟨t1, t2⟩ := tw_app (A := dg c) (R := [42, 40] ++ (txT ss ++ (41 :: R))) (dg_dc c) (fun x r e z => by cases e; unfold isDc at z; omega)
    rw [e]
    unfold rdS
    rw [t1, t2, pI_dg hn.1]
    show (if ([42, 40] ++ (txT ss ++ (41 :: R))).take 2 = [42, 40] then _ else _) = _
    refine Eq.trans (if_pos rfl) ?_
    have := rdL_all (rdS_cmp n) (R := 41 :: R) (.inr ⟨R, rfl⟩) (ss := ss) (f := ([42, 40] ++ (txT ss ++ (41 :: R))).length) hd hn.2 (by rw [List.length_append (as := [42, 40])]; exact Nat.le_add_left _ _)
    show (match rdL (rdS n) _ true (txT ss ++ (41 :: R)) with | none => none | some (_, []) => none | some (ss, _ :: R) => some (S.r c ss, R)) = _
    rw [this]
mutual
def S.okB : S → Bool
  | .k n => decide (-1000000000 ≤ n) && decide (n ≤ 1000000000)
  | .r c ss => decide (0 ≤ c) && (decide (c ≤ 1000000000000000000000000000000) && okLB ss)
def okLB : List S → Bool
  | [] => true
  | s :: ss => s.okB && okLB ss
end
mutual
theorem S.okB_iff : ∀ s : S, s.okB = true ↔ s.ok
  | .k n => by
    show (decide (-1000000000 ≤ n) && decide (n ≤ 1000000000)) = true ↔ (-1000000000 ≤ n ∧ n ≤ 1000000000)
    rw [Bool.and_eq_true, decide_eq_true_iff, decide_eq_true_iff]
  | .r c ss => by
    show (decide (0 ≤ c) && (decide (c ≤ 1000000000000000000000000000000) && okLB ss)) = true ↔ (0 ≤ c ∧ c ≤ 1000000000000000000000000000000 ∧ okL ss)
    rw [Bool.and_eq_true, Bool.and_eq_true, decide_eq_true_iff, decide_eq_true_iff, okLB_iff ss]
theorem okLB_iff : ∀ ss : List S, okLB ss = true ↔ okL ss
  | [] => ⟨fun _ => trivial, fun _ => rfl⟩
  | s :: ss => by
    show (s.okB && okLB ss) = true ↔ (s.ok ∧ okL ss)
    rw [Bool.and_eq_true, S.okB_iff s, okLB_iff ss]
end
def prs (T : List Nat) : Option (List S) := match rdL (rdS 4) T.length true T with
  | some (ss, []) => if okLB ss && decide (wrL ss ≤ 100) then some ss else none
  | _ => none
theorem prs_iff {T : List Nat} {ss : List S} : prs T = some ss ↔ T = txT ss ∧ okL ss ∧ dLeL ss 4 ∧ wrL ss ≤ 100 := by
  constructor
  · intro h
    unfold prs at h
    split at h
    · rename_i ss' hr
      split at h
      · rename_i c
        cases h
        rw [Bool.and_eq_true, decide_eq_true_iff, okLB_iff] at c
        obtain ⟨a1, a2, _, _⟩ := rdL_sound (rdS_sound 4) _ _ _ _ _ hr
        have a1 : T = txT ss ++ [] := a1
        rw [List.append_nil] at a1
        exact ⟨a1, c.1, a2, c.2⟩
      · cases h
    · cases h
  · rintro ⟨rfl, h1, h2, h3⟩
    have := rdL_all (rdS_cmp 4) (R := []) (.inl rfl) (ss := ss) (f := (txT ss).length) h2 (ok31L ss h1) (by rw [List.append_nil]; exact Nat.le_refl _)
    rw [List.append_nil] at this
    unfold prs
    rw [this]
    show (if (okLB ss && decide (wrL ss ≤ 100)) = true then some ss else none) = _
    rw [if_pos (by rw [Bool.and_eq_true, decide_eq_true_iff, okLB_iff]; exact ⟨h1, h3⟩)]
theorem txT_inj {ss tt : List S} (h : txT ss = txT tt) (h1 : okL ss) (h2 : dLeL ss 4) (h3 : okL tt) (h4 : dLeL tt 4) : ss = tt := by
  have a := rdL_all (rdS_cmp 4) (R := []) (.inl rfl) (ss := ss) (f := (txT ss).length) h2 (ok31L ss h1) (by rw [List.append_nil]; exact Nat.le_refl _)
  have b := rdL_all (rdS_cmp 4) (R := []) (.inl rfl) (ss := tt) (f := (txT tt).length) h4 (ok31L tt h3) (by rw [List.append_nil]; exact Nat.le_refl _)
  rw [h] at a
  rw [a] at b
  cases b; rfl
end TT
namespace TT
open PySem PySem.Spec PyProof.Rows L2 HotX
def Zj (c cls : Value) (d : Option Addr) (o : Obj) : Prop := (o.cls = cls ∧ o.dict = d) ∧ ∀ vs : Array Value, o.data = .fields vs → vs[2]? = some c
theorem zj_steady {c cls : Value} {d : Option Addr} : PXN.Steady1 (Zj c cls d) := fun o v z => by
  refine ⟨⟨PXN.steady_cls o v z.1.1, PXN.steady_dict o v z.1.2⟩, fun vs e => ?_⟩
  obtain ⟨cl, di, da, sl⟩ := o
  cases da with
  | fields ws =>
    rw [Obj.data_mapFields (o := ⟨cl, di, .fields ws, sl⟩) rfl] at e
    cases e
    rw [Array.getElem?_setIfInBounds_ne (by decide)]
    exact z.2 ws rfl
  | _ => exact z.2 vs e
theorem zj_of {cls : Value} {d : Option Addr} {o : Obj} (z : L2N.Zn cls d o) : Zj .none cls d o := ⟨⟨z.1, z.2.1⟩, z.2.2⟩
def Bhd (B : Heap) (H : Hp) (c : Value) : Prop := c = .none ∨ ∃ (x : Addr) (o : Obj) (vs : Array Value), c = .ref x ∧ B.get? x = some o ∧ o.data = .fields vs ∧ vs[2]? = some .none ∧ H x = none
theorem sky_imp {B h : Heap} {l : List Env} {a L : Addr} {Z Z' : Obj → Prop} (z : ∀ o, Z o → Z' o) (k : Sky B l a Z L h) : Sky B l a Z' L h := by
  rcases k with ⟨k1, k2, k3, oe, vs, k4, k5, k6⟩ | k | k
  · exact .inl ⟨k1, k2, k3, oe, vs, k4, z _ k5, k6⟩
  · exact .inr (.inl (L2H.flyingZ_imp z k))
  · exact .inr (.inr ⟨k.1, k.2.1, k.2.2.1, L2H.tracedZ_imp z k.2.2.2⟩)
def AirJ (X : Cx) (W : WX) (u : Value) (t : Shared) : Prop :=
  ∃ (a : Addr) (B : Heap) (sI : Shared) (pins : List (Addr × Obj)) (σ : L2.St) (H : Hp) (cls : Value) (d : Option Addr) (c : Value), u = .ref a ∧ (Inv X pins σ H sI ∧ (∀ b o, sI.heap.get? b = some o → b ∉ frs X.stack → B.get? b = some o) ∧ sI.heap.UpToSlots t.heap) ∧
    (Sky B X.stack a (Zj c cls d) X.env.locals t.heap ∧ Bhd B H c) ∧ (H a = none ∧ t.os = sI.os ∧ AllBare t.gens) ∧ W cls d σ H
def TakesJ (X : Cx) (W : WX) : Prop := ∀ u t, AirJ X W u t → X.xe u t
theorem TakesJ.n {X : Cx} {W : WX} (k : TakesJ X W) : L2N.Takes X W := fun u t ⟨a, B, sI, pins, σ, H, cls, d, e, I, nb, up, sky, na, os, ag, w⟩ =>
  k u t ⟨a, B, sI, pins, σ, H, cls, d, .none, e, ⟨I, nb, up⟩, ⟨sky_imp (fun _ => zj_of) sky, .inl rfl⟩, ⟨na, os, ag⟩, w⟩
def CXJ (P : Program) (w : World) (outer : List Env) (H : Hp) (s : Shared) (E : XK) (u : Value) (t : Shared) : Prop :=
  ∃ (a : Addr) (B : Heap) (H' : Hp) (cls : Value) (d : Option Addr) (c : Value), u = .ref a ∧ (HandSPX.FlyingZ B outer a (Zj c cls d) t.heap ∧ Bhd B H' c) ∧ (HOk P w H' B ∧ UB (frs outer) H H' s.heap B t.heap) ∧ (H' a = none ∧ t.os = s.os ∧ AllBare t.gens) ∧ E cls d H'
section
variable {X : Cx} {pins : List (Addr × Obj)} {σ : L2.St} {H : Hp} {sI s t : Shared} {B : Heap} {W : WX} {E : XK}
theorem airJ_call (I : Inv X pins σ H s) (hW : ∀ cls d H', E cls d H' → W cls d σ H') {u : Value} (k : CXJ X.prog X.w X.stack H s E u t) : AirJ X W u t := by
  obtain ⟨a, B, H', cls, d, c, rfl, ⟨fl, bh⟩, ⟨hok, ub⟩, ⟨na, os, ag⟩, hE⟩ := k
  obtain ⟨G, in_, out⟩ := restrict t.heap fun b => (B.get? b).isSome || decide (b ∈ frs X.stack)
  have base : ∀ b o, B.get? b = some o → G.get? b = some o := fun b o q => by
    rw [in_ b (by rw [q]; rfl)]; exact fl.1 b o q
  have fram : ∀ b, b ∈ frs X.stack → G.get? b = t.heap.get? b := fun b m => in_ b (by rw [decide_eq_true m, Bool.or_true])
  have back : ∀ b o, G.get? b = some o → t.heap.get? b = some o ∧ ((B.get? b).isSome = true ∨ b ∈ frs X.stack) := fun b o q => by
    by_cases m : ((B.get? b).isSome || decide (b ∈ frs X.stack)) = true
    · rw [in_ b m] at q
      rw [Bool.or_eq_true, decide_eq_true_iff] at m
      exact ⟨q, m⟩
    · rw [out b (Bool.eq_false_iff.mpr m)] at q; cases q
  have U : Un (frs X.stack) [] H H' s.heap G := {
    keep := fun b o q n m _ => base b o (ub.keep b o q n m)
    slot := fun b o q _ m _ => (ub.slot b o q m).imp fun sl z => by rw [fram b m]; exact z
    free := fun b o q n _ => ub.free b o q n
    there := fun b o q _ => by
      by_cases m : b ∈ frs X.stack
      · obtain ⟨sl, z⟩ := ub.slot b o q m
        exact ⟨_, by rw [fram b m]; exact z⟩
      · obtain ⟨o', z⟩ := ub.there b o q m
        exact ⟨o', base b o' z⟩
    tups := ub.tups
    frzs := ub.frzs
    tbls := ub.tbls }
  refine ⟨a, B, ⟨G, t.gens, t.drawn, t.toks, s.os⟩, pins, σ, H', cls, d, c, rfl, ⟨?_, fun b o q m => ?_, Heap.UpToSlots.of_keeps fun b o q => (back b o q).1⟩, ⟨.inr (.inl fl), bh⟩, ⟨na, os, ag⟩, hW _ _ _ hE⟩
  · have := I.call (ch := []) (t' := t.toks) (d' := t.drawn) U (hok.kept base) ag (fun _ z => nomatch z)
    exact this
  · obtain ⟨q1, q2 | q2⟩ := back b o q
    · obtain ⟨o', z⟩ := Option.isSome_iff_exists.mp q2
      have := fl.1 b o' z
      rw [q1] at this; cases this
      exact z
    · exact absurd q2 m
theorem airJ_leave (hs : X.stack = X.env :: X.outer) (hf : X.env.frame = some X.env.locals) (hex : X.ex = []) {E₁ : Value → Shared → Prop} (hW : ∀ cls d σ H, W cls d σ H → E cls d H) {u : Value} (k : AirJ X W u t) :
    wpAny (model X.prog X.w) X.A (leaving X.env u) (fun _ t2 => CXJ X.prog X.w X.outer X.H_0 X.s_0 E u t2) E₁ t := by
  obtain ⟨a, B, sI, pins, σ, H, cls, d, c, rfl, ⟨I, nb, up⟩, ⟨sky, bh⟩, ⟨na, os, ag⟩, wx⟩ := k
  have frames : X.A.frames = some (X.env :: X.outer) := by rw [I.ok.frames, hs]
  have noEx : ∀ b, b ∉ X.ex := fun b m => by rw [hex] at m; cases m
  have noFr : ∀ b o, X.s_0.heap.get? b = some o → b ∉ X.fs → b ∉ frs X.stack := fun b o q m1 m2 => by
    rcases List.mem_cons.mp (I.stkSub b m2) with e | e
    · have z1 := Heap.lt_size q
      have z2 := I.ok.above
      rw [e] at z1
      exact absurd (Nat.lt_of_lt_of_le z1 z2) (Nat.lt_irrefl _)
    · exact m1 e
  have rest : ∀ h2, HandSPX.FlyingZ B X.outer a (Zj c cls d) h2 → t.heap.UpToSlots h2 → CXJ X.prog X.w X.outer X.H_0 X.s_0 E (.ref a) { t with heap := h2 } := fun h2 fl up2 => by
    refine ⟨a, B, H, cls, d, c, rfl, ⟨fl, bh⟩, ⟨I.inGround nb, ?_⟩, ⟨na, os.trans I.os, ag⟩, hW _ _ _ _ wx⟩
    exact {
      keep := fun b o q n m => nb b o (I.base.keep b o q n m (noEx b)) (noFr b o q m)
      slot := fun b o q m => by
        obtain ⟨_, o0, z0, nf⟩ := I.ok.funs.mem m
        rw [q] at z0; cases z0
        obtain ⟨s1, z1⟩ := I.base.slot b o q (I.ok.frf b m) m (noEx b)
        obtain ⟨s2, z2⟩ := up b _ z1 nf
        obtain ⟨s3, z3⟩ := up2 b _ z2 nf
        exact ⟨s3, z3⟩
      free := fun b o q n => I.base.free b o q n (noEx b)
      there := fun b o q m => by
        obtain ⟨o', z⟩ := I.base.there b o q (noEx b)
        exact ⟨o', nb b o' z (noFr b o q m)⟩
      tups := I.base.tups
      frzs := I.base.frzs
      tbls := I.base.tbls }
  rw [hs] at sky
  rcases sky with ⟨q1, q2, q3, oe, vs, q4, q5, q6, q7⟩ | fl | hd
  · exact PXN.leaving_firstZ zj_steady frames q3 hf q4 q1 q2 q6 q7 q5 rest
  · exact PXN.leaves_onZ zj_steady frames hf fl rest
  · exact HandSPX.leaves_heldZ hf hd rest
theorem takesJ_of (hs : X.stack = X.env :: X.outer) (hf : X.env.frame = some X.env.locals) (hex : X.ex = []) {E₁ : Value → Shared → Prop}
    (hx : X.xe = fun e t => wpAny (model X.prog X.w) X.A (leaving X.env e) (fun _ t2 => CXJ X.prog X.w X.outer X.H_0 X.s_0 E e t2) E₁ t) : TakesJ X (fun cls d _ H => E cls d H) := fun u t k => by
  rw [hx]
  exact airJ_leave (W := fun cls d _ H => E cls d H) (E := E) hs hf hex (fun _ _ _ _ z => z) k
theorem passJ_call (k : TakesJ X W) (hW : ∀ cls d σ H, E cls d H → W cls d σ H) : Passes (CXJ X.prog X.w) X E := fun _ σ _ _ e t I c => k e t (airJ_call I (fun cls d H' z => hW cls d σ H' z) c)
theorem passNJ_call (k : TakesJ X W) (hW : ∀ cls d σ H, E cls d H → W cls d σ H) : Passes (L2N.CX X.prog X.w) X E := L2N.passes_call k.n hW
end
def HotJ (A : Around) (x1 : Addr) (h : Heap) : Prop := A.handled = some (.ref x1) ∧ ∃ (o : Obj) (vs : Array Value) (c : Value), h.get? x1 = some o ∧ o.data = .fields vs ∧ vs[2]? = some c ∧ (c = .none ∨ ∃ (x : Addr) (o2 : Obj) (ws : Array Value), c = .ref x ∧ h.get? x = some o2 ∧ o2.data = .fields ws ∧ ws[2]? = some .none)
section
variable {prog : Program} {w : World} {A : Around} {E : Value → Shared → Prop} {s : Shared}
theorem HotJ.mono {x1 : Addr} {h h' : Heap} (k : HotJ A x1 h) (m : ∀ b o vs c, h.get? b = some o → o.data = .fields vs → vs[2]? = some c → h'.get? b = some o) : HotJ A x1 h' := by
  obtain ⟨hh, o, vs, c, e1, e2, e3, e4⟩ := k
  refine ⟨hh, o, vs, c, m _ _ _ _ e1 e2 e3, e2, e3, e4.imp id ?_⟩
  rintro ⟨x, o2, ws, z1, z2, z3, z4⟩
  exact ⟨x, o2, ws, z1, m _ _ _ _ z2 z3 z4, z3, z4⟩
theorem raiseNewJ {α : Type} {a x1 : Addr} {h0 : Heap} {oe : Obj} {vs : Array Value} {Q : α → Shared → Prop} (hot : HotJ A x1 h0) (sub : ∀ b o us c, h0.get? b = some o → o.data = .fields us → us[2]? = some c → s.heap.get? b = some o ∧ b ≠ a) (ha : s.heap.get? a = some oe) (da : oe.data = .fields vs) (hi : 2 < vs.size)
    (hE : E (.ref a) { s with heap := s.heap.update a (Obj.mapFields (·.setIfInBounds 2 (.ref x1))) }) : wpAny (model prog w) A (raiseNew (.ref a) : Sem α) Q E s := by
  obtain ⟨hh, o1, us, c, e1, e2, e3, e4⟩ := hot
  obtain ⟨g1, n1⟩ := sub _ _ _ _ e1 e2 e3
  have hb : (Value.ref x1 != Value.ref a) = true := ref_bne n1
  have cut : ∀ {R : Value → Shared → Prop}, R .none s → wpAny (model prog w) A (holding [Value.ref a] (runValue (.builtin "proto.unchain" ⟨[.ref a, .ref x1, .ref x1, .bool false], []⟩))) R E s := by
    intro R r
    rcases e4 with rfl | ⟨x, o2, ws, rfl, f1, f2, f3⟩
    · exact unchained g1 e2 e3 r
    · obtain ⟨g2, n2⟩ := sub _ _ _ _ f1 f2 f3
      have n12 : x ≠ x1 := fun e => by
        rw [e, e1] at f1; cases f1
        rw [e2] at f2; cases f2
        rw [e3] at f3; cases f3
      refine wpAny_holding (wpAny_runValue (codeAny_builtin HotX.entry_unchain ?_))
      show wpAny _ _ (field (.ref x1) 2 >>= _) _ _ s
      refine wpAny_bind (wpAny_field g1 e2 e3 ?_)
      rw [if_neg (show ¬ (Value.ref x == Value.none) = true from by simp)]
      rw [if_neg (show ¬ (Value.ref x == Value.ref a) = true from by simpa using n2)]
      rw [if_neg (show ¬ (Value.ref x == Value.ref x1) = true from by simpa using n12)]
      refine wpAny_bind (wpAny_pure ?_)
      show wpAny _ _ (again (.builtin "proto.unchain" ⟨[.ref a, .ref x, .ref x1, .bool true], []⟩)) _ _ s
      refine wpAny_pure ⟨Code.quiet_builtin _ (by decide +kernel), codeAny_builtin HotX.entry_unchain ?_⟩
      show wpAny _ _ (field (.ref x) 2 >>= _) _ _ s
      refine wpAny_bind (wpAny_field g2 f2 f3 ?_)
      rw [if_pos (show (Value.none == Value.none) = true from rfl)]
      first
      | exact wpAny_bind (wpAny_pure (wpAny_pure r))
      | exact wpAny_pure r
  unfold raiseNew
  refine wpAny_bind (wpAny_handled ?_)
  rw [hh]
  first
  | (show wpAny _ _ (if (Value.ref x1 != Value.ref a) = true then _ else _) _ _ _
     rw [if_pos hb]
     first
     | exact wpAny_bind (cut (wpAny_bind (chained ha da hi (wpAny_throw hE))))
     | exact wpAny_bind (wpAny_bind (cut (chained ha da hi (wpAny_throw hE)))))
  | (refine wpAny_bind ?_
     show wpAny _ _ (if (Value.ref x1 != Value.ref a) = true then _ else _) _ _ _
     rw [if_pos hb]
     exact wpAny_bind (cut (chained ha da hi (wpAny_throw hE))))
end
section
variable {prog : Program} {w : World} {A : Around} {E : Value → Shared → Prop} {s : Shared}
theorem nxtupJ {it t x1 : Addr} {i : Nat} {vs : Array Value} {Q : Option Value → Shared → Prop} (hot : HotJ A x1 s.heap) (a1 : s.heap.IsTupleIter it t i) (a2 : s.heap.IsTuple t vs) (a3 : vs[i]? = none)
    (q : ∀ h', Heap.ExtBut it s.heap h' → Q none { s with heap := h' }) : wpAny (model prog w) A (pyNext (.ref it)) Q E s := by
  obtain ⟨oi, gi, ci, di⟩ := id a1
  obtain ⟨ot, gt, _, nt, dt⟩ := a2
  unfold pyNext
  refine wpAny_bind (wpAny_attempt (wpAny_callSpecial?_slot (name := Str.ofString "__next__") a1.typeIs F.slot_tuple_iterator_next (wpAny_call_entry F.slot_tuple_iterator_next a1.typeIs F.entry_tuple_iterator_next ?_ (F.args_tuple_iterator_next_1 _))))
  show wpAny (model prog w) _ (field (.ref it) 0 >>= _) _ _ s
  refine wpAny_bind (wpAny_field gi di (x := Value.ref t) rfl ?_)
  show wpAny (model prog w) _ (if (Value.ref t == Value.none) = true then _ else _) _ _ s
  rw [if_neg (fun z : (Value.ref t == Value.none) = true => Bool.false_ne_true z)]
  show wpAny (model prog w) _ (field (.ref it) 1 >>= _) _ _ s
  refine wpAny_bind (wpAny_field gi di (x := Value.int i 0) rfl ?_)
  show wpAny (model prog w) _ (seqItems? (.ref t) >>= _) _ _ s
  refine wpAny_bind (wpAny_seqItems gt dt ?_)
  simp only [Int.toNat_natCast, a3]
  refine wpAny_bind (wpAny_rule (wpAny_bind (wpAny_setField gi di (by simp) ?_)))
  have off : ∀ b o us c, s.heap.get? b = some o → o.data = .fields us → us[2]? = some c → b ≠ it := fun b o us c e1 e2 e3 z => by
    rw [z, gi] at e1; cases e1
    rw [di] at e2; cases e2
    cases e3
  show wpAny (model prog w) _ (newExc (.type "StopIteration") [] >>= _) _ _ _
  refine wpAny_bind ?_
  simp only [newExc, newTuple]
  refine wpAny_bind (wpAny_newObj_type ?_ (by size_fits))
  refine wpAny_bind (m := firstArgMember _ _) (wpAny_of_eq (a := Value.none) (by first | (simp only [firstArgMember]; rfl) | rfl) ?_)
  refine wpAny_newObj_type ?_ (by size_fits)
  refine raiseNewJ hot (fun b o us c e1 e2 e3 => ?_) (Heap.get?_push_size _ rfl) rfl (by first | (simp; done) | (simp; omega)) ?_
  · have g := (Heap.get?_update_other s.heap (Obj.mapFields (·.setIfInBounds 0 Value.none)) (Ne.symm (off b o us c e1 e2 e3))).trans e1
    exact ⟨Heap.get?_push_of_some _ (Heap.get?_push_of_some _ g), Nat.ne_of_lt (Heap.lt_size (Heap.get?_push_of_some _ g))⟩
  refine wpAny_bind (wpAny_isInstance (T := "StopIteration") (b := true) ⟨_, Heap.get?_update_self _ (Heap.get?_push_size _ rfl) rfl, rfl⟩ isSubtype_stop ?_)
  refine wpAny_pure (q _ fun b o nb e => ?_)
  have e2 := (Heap.get?_update_other s.heap (Obj.mapFields (·.setIfInBounds 0 Value.none)) (Ne.symm nb)).trans e
  rw [Heap.get?_update_other _ _ (Nat.ne_of_gt (Heap.lt_size (Heap.get?_push_of_some _ e2)))]
  exact Heap.get?_push_of_some _ (Heap.get?_push_of_some _ e2)
theorem unpackJ {t x1 : Addr} {vs : Array Value} {Q : List Value → Shared → Prop} (hot : HotJ A x1 s.heap) (a2 : s.heap.IsTuple t vs) (q : ∀ h', Heap.ExtBut s.heap.objs.size s.heap h' → Q vs.toList { s with heap := h' }) :
    wpAny (model prog w) A (unpackItems (.ref t) vs.size none) Q E s := by
  have nt : t ≠ s.heap.objs.size := by
    obtain ⟨o, ho, _⟩ := a2
    exact Nat.ne_of_lt (Heap.lt_size ho)
  unfold unpackItems notIterableAtAll
  refine wpAny_bind (wpAny_bind (wpAny_specialOf a2.typeIs F.slot_tuple_iter.lookup (wpAny_pure ?_)))
  simp only [Bool.false_eq_true, if_false]
  refine wpAny_bind (wpAny_holding (wpAny_pyIter_tuple a2 (wpAny_bind (wpAny_holding (wpAny_draw_tuple nt vs.size 0 _ _ ⟨_, Heap.get?_push_size _ rfl, rfl, rfl⟩ (a2.push _) (by omega) fun h1 b1 b2 => ?_)))))
  have whole : List.take vs.size (List.drop 0 vs.toList) = vs.toList := by rw [List.drop_zero]; exact List.take_of_length_le (by simp)
  rw [whole, if_neg (by simp)]
  have hot1 : HotJ A x1 h1 := hot.mono fun b o us c e1 _ _ => b2.extBut b o (Nat.ne_of_lt (Heap.lt_size e1)) (Heap.get?_push_of_some _ e1)
  refine wpAny_bind (wpAny_holding (nxtupJ hot1 b1 ((a2.push _).extBut b2.extBut nt) (by simp) fun h2 b3 => ?_))
  simp only [Option.isSome_none, Bool.false_eq_true, if_false]
  exact wpAny_pure (q h2 fun b o nb e => b3 b o nb (b2.extBut b o nb (Heap.get?_push_of_some _ e)))
end
def HotJC (X : Cx) : Prop := ∃ (p : Addr × Obj) (vs : Array Value) (c : Value), X.A.handled = some (.ref p.1) ∧ p ∈ X.pn ∧ p.2.data = .fields vs ∧ vs[2]? = some c ∧ (c = .none ∨ ∃ (q : Addr × Obj) (ws : Array Value), c = .ref q.1 ∧ q ∈ X.pn ∧ q.2.data = .fields ws ∧ ws[2]? = some .none)
theorem HotJC.at {X : Cx} {pins : List (Addr × Obj)} {σ : L2.St} {H : Hp} {s : Shared} (k : HotJC X) (I : Inv X pins σ H s) : ∃ x1, HotJ X.A x1 s.heap := by
  obtain ⟨p, vs, c, hh, m, e1, e2, e3⟩ := k
  refine ⟨p.1, hh, p.2, vs, c, (I.pin p (List.mem_append_left _ m)).1, e1, e2, e3.imp id ?_⟩
  rintro ⟨q, ws, z1, z2, z3, z4⟩
  exact ⟨q.1, q.2, ws, z1, (I.pin q (List.mem_append_left _ z2)).1, z3, z4⟩
section
variable {X : Cx} {pos : Pos}
theorem ps_parJ {i j : Nat} {x y : Str} {a b : Expr} {ta : TA} {px py pt : Pos} {kt k2 pt2} (hc : HotJC X) (hN : X.N.Nodup) (hi : X.N[i]? = some x) (hj : X.N[j]? = some y) (hij : i ≠ j)
    (hx : X.env.scope.names.lookup x = some .local) (hy : X.env.scope.names.lookup y = some .local) (ha : PA X [a, b] ta)
    (hw : swappedStores [.Tuple [.Name x px, .Name y py] kt pt] (.Tuple [a, b] k2 pt2) X.env = pure (some [x, y]))
    (hs : swapsWithSole [.Tuple [.Name x px, .Name y py] kt pt] (.Tuple [a, b] k2 pt2) pos.line X.env = pure false := by rfl) :
    PS X (.Assign [.Tuple [.Name x px, .Name y py] kt pt] (.Tuple [a, b] k2 pt2) pos) (tPar i j ta) := ⟨fun pins s σ H D I h => by
  rw [exec_Assign_arm]
  refine wpAny_bind (wpAny_standAt ?_)
  rw [hs]
  refine wpAny_bind (wpAny_pure ?_)
  rw [if_neg (by decide)]
  refine wpAny_bind (Tuple_ (thn (ha.run _ pins s σ H _ I h) fun us s1 ⟨vs, H1, I1, r1, v, w', e1, q1⟩ => ?_))
  subst e1
  cases r1 with
  | @cons _ u1 _ _ rv r2 =>
    cases r2 with
    | @cons _ u2 _ _ rw2 r3 =>
      cases r3
      refine wpAny_newObj_type ?_ (by show 2 ≤ sizeLine; decide)
      have I2 : Inv X pins σ H1 { s1 with heap := s1.heap.push { cls := .type "tuple", data := .seq [u1, u2].toArray } } := I1.kept (t' := s1.toks) fun b o e => Heap.get?_push_of_some _ e
      obtain ⟨x1, hot⟩ := hc.at I2
      rw [hw]
      refine wpAny_bind (wpAny_pure ?_)
      show wpAny (model X.prog X.w) X.A (do rule "assign.swapped-stores"; let items ← unpackItems (.ref s1.heap.objs.size) 2 none; assignInOrder [fun v => bindName X.env y v, fun v => bindName X.env x v] items.reverse; pure Flow.next) _ _ _
      refine wpAny_bind (wpAny_rule (wpAny_bind (unpackJ (vs := #[u1, u2]) hot ⟨_, Heap.get?_push_size _ rfl, rfl, _, rfl⟩ fun h' e' => ?_)))
      have I3 := I2.kept (h' := h') (t' := s1.toks) fun b o e => e' b o (Nat.ne_of_lt (Heap.lt_size e)) e
      show wpAny _ _ (assignInOrder [fun v => bindName X.env y v, fun v => bindName X.env x v] [u2, u1] >>= fun _ => pure Flow.next) _ _ _
      refine wpAny_bind (assignInOrder_cons (wpAny_bindName (store_ok I3 hN hj (.inl hy) rw2 (fun s2 I4 => assignInOrder_cons (wpAny_bindName (store_ok I4 hN hi (.inl hx) rv (fun s3 I5 => assignInOrder_nil (wpAny_pure ?_)) (.inr hx)))) (.inr hy))))
      rw [List.set_comm _ _ (Ne.symm hij)] at I5
      exact ⟨_, H1, I5, q1⟩⟩
end
section
variable {P : Program} {w : World} {K : PySem.W.Frag} {mg : Str → Option Value} {base : Heap}
theorem okJ {x qual : Str} {st : Stmt} {f : Addr} {fd : FuncData} {N ps : List Str} {k : Nat} {sp : Sp} (F : Fun K x qual st f fd) (S : FnScope N ps (defScope st)) (len : ∀ vs H Q E, sp vs H Q E → vs.length = ps.length)
    (hb : ∀ (cdv : Value) (A : Around) (outer : List Env) (s : Shared) (H : Hp) (vs : List V) (Q : VK) (E : XK), Room k (A.deeper (envOfC qual (defScope st) s.heap.objs.size f cdv)) → sp vs H Q E →
      ∃ t, PSs (cxOf (CXJ P w) P w K mg base N qual (defScope st) f cdv A outer s H E) (defBody st) t ∧ t { nx := fun _ H' => Q .non H', rt := Q } (start N vs) H) : FnOk P w K mg base (CXJ P w) (k + 1) f fd ps sp := by
  obtain ⟨oc, od, kV, doc, pm, an, cdv, ct, osl, rfl, lk, hcd⟩ := F.ex
  exact fn_of lk hcd S len fun A outer s H vs Q E hr h => hb cdv A outer s H vs Q E hr h
variable {N : List Str} {qual : Str} {scope : Scope} {f : Addr} {cdv : Value} {A : Around} {outer : List Env} {s : Shared} {H : Hp} {E : XK}
theorem takesJ : TakesJ (cxOf (CXJ P w) P w K mg base N qual scope f cdv A outer s H E) (fun c d _ H' => E c d H') := takesJ_of rfl rfl rfl rfl
theorem takesJN : L2N.Takes (cxOf (CXJ P w) P w K mg base N qual scope f cdv A outer s H E) (fun c d _ H' => E c d H') := takesJ.n
theorem passJN : Passes (L2N.CX P w) (cxOf (CXJ P w) P w K mg base N qual scope f cdv A outer s H E) E := passNJ_call takesJ fun _ _ _ _ h => h
end
section
variable {X : Cx} {CX : CXT} {k : Nat} {C f : Addr} {fd : FuncData} {ps : List Str} {sp : Sp} {x nm : Str} {p1 p2 pos : Pos} {e : Expr} {es : List Expr} {t : TA}
theorem pe_clsfnH {pl : Sem Bool} (g : Gl X x) (m : X.mg x = some (.ref C)) (c : ClsFn X.K C nm f) (F : L2H.FnH X.prog X.w X.K X.mg X.base CX k f fd ps sp) (hr : L2H.RoomH k X.A) (hot : L2H.HotC X) (hk : PySem.W.keepIn X.K (.ref f) = true) (hb : Binds X.K fd ps []) (hx : ∀ σ, PassesAt CX X σ C8.E0) (ha : PA X (e :: es) t)
    (hc : eval (.Call (.Attribute (.Name x p1) nm p2) (e :: es) [] pos) X.env = (do
      let ov ← eval (.Name x p1) X.env
      standAt p2.atName
      let (f, first) ← holding [ov] (getMethod ov nm pl)
      callWith pos f first (backTo pos (starEach (e :: es) X.env)) (backToKw pos (keywordEach [] X.env))) := by rfl)
    (hdb : (x == ("__debug__" : Str)) = false := by decide) (he : starEach (e :: es) X.env = (false, eval e X.env) :: starEach es X.env := by rfl) (hpl : (backTo pos (starEach es X.env)).any (·.1) = false := by rfl) :
    PE X (.Call (.Attribute (.Name x p1) nm p2) (e :: es) [] pos) (tCall sp [] C8.E0 t) := by
  refine ⟨fun pins s σ H Q I hq => PySem.W.methodCall_KW (ld_glob I g m ?_ hdb) hc⟩
  refine PySem.W.method_cls I.kIn c.ga (PySem.W.cls_value I.kIn c.rd c.fc c.hd ?_)
  refine PySem.W.callWith_K (h₀ := X.base) I.ok.mod.kin hk (thn (ha.run pos pins _ σ H _ (I.tok _) hq) fun us s2 ⟨vs, H2, I2, r2, q2⟩ => ⟨I2.kIn, ?_⟩) he hpl
  exact L2H.run_fnH (E := fun _ => C8.E0) F hr hot hb (hx σ) I2 r2 (by have q2 : sp (vs ++ []) H2 Q C8.E0 := q2; rw [List.append_nil] at q2; exact q2)
end
section
open L2H
theorem ps_raiseJ {X : Cx} {W : WX} {e : Expr} {t : L2.St → Hp → XK → Prop} {j : Nat} {cpos pos : Pos} (hc : HotC X) (tk : TakesJ X W) (he : PMk5 X e t) :
    PS X (.Raise (some e) (some (.Constant .none j cpos)) pos) (fun _ σ H => t σ H fun cls d H' => W cls d σ H') := by
  refine ⟨fun pins s σ H D I h => ?_⟩
  obtain ⟨p, ⟨hh, v1, e1, c1⟩, hp⟩ := hc
  show wpAny _ _ (do standAt pos; raiseStmt X.env (some (do let v ← eval e X.env; standAt pos; pure v)) (some (do let v ← eval (.Constant .none j cpos) X.env; standAt pos; pure v))) _ _ _
  refine wpAny_bind (wpAny_standAt (raise_made_hotN (x1 := p.1) (fun s2 Q2 q2 => wpAny_bind (Constant_none (wpAny_bind (wpAny_standAt (wpAny_pure q2))))) (wpAny_bind (wpAny_mono (he pins s σ H _ I h) (fun u s1 hu => wpAny_bind (wpAny_standAt (wpAny_pure ?_))) fun _ _ x => x))))
  obtain ⟨⟨a, oe, vs, sI, H', cls, d, rfl, J, kp, new, ha, hz, hd, h1, na, os, ag, r, q⟩, six⟩ := hu
  have i4 : 4 < vs.size := six a oe vs rfl ha hd
  have away : ∀ b u, sI.heap.get? b = some u → a ≠ b := fun b u z y => by rw [← y, new] at z; cases z
  have k4 : ∀ b u, sI.heap.get? b = some u → (noneFrom s1.heap a).get? b = some u := fun b u z => by rw [noneFrom_other (away b u z)]; exact kp b u z
  obtain ⟨r1, _⟩ := r (model X.prog X.w) s1.heap (J.kIn.keeps kp)
  obtain ⟨_, r2⟩ := r (model X.prog X.w) (noneFrom s1.heap a) (J.kIn.keeps k4)
  have P1 := J.pin p (List.mem_append_left _ hp)
  obtain ⟨ha4, hd4⟩ := noneFrom_at ha hd
  have f1 : (((vs.setIfInBounds 3 Value.none).setIfInBounds 4 (Value.bool true)).setIfInBounds 2 (Value.ref p.1))[1]? = some Value.none := set_other (by decide) (set_other (by decide) (set_other (by decide) h1))
  have f2 : (((vs.setIfInBounds 3 Value.none).setIfInBounds 4 (Value.bool true)).setIfInBounds 2 (Value.ref p.1))[2]? = some (Value.ref p.1) := by
    have z : 2 < ((vs.setIfInBounds 3 Value.none).setIfInBounds 4 (Value.bool true)).size := by rw [set_size, set_size]; omega
    rw [Array.getElem?_setIfInBounds_self_of_lt z]
  have hd5 := Obj.data_mapFields hd4 (·.setIfInBounds 2 (.ref p.1))
  have at5 := Heap.get?_update_self (Obj.mapFields (·.setIfInBounds 2 (.ref p.1))) ha4 (Obj.isFreed_of_fields hd5)
  have k5 : ∀ b u, sI.heap.get? b = some u → ((noneFrom s1.heap a).update a (Obj.mapFields (·.setIfInBounds 2 (.ref p.1)))).get? b = some u := fun b u z => by
    rw [Heap.get?_update_other _ _ (away b u z)]
    exact k4 b u z
  have noF : p.1 ∉ frs X.stack := fun m => (List.mem_cons.mp (J.stkSub p.1 m)).elim P1.2.2.1 P1.2.2.2.1
  have noB : (PySem.W.hideAll sI.heap (frs X.stack)).get? a = none := by
    cases z : (PySem.W.hideAll sI.heap (frs X.stack)).get? a with
    | none => rfl
    | some o =>
      have z := PySem.W.of_hideAll _ z
      rw [new] at z; cases z
  refine ⟨a, oe, vs, cls, rfl, ha, hz.1, hd, h1, i4, fun z => away p.1 _ P1.1 z.symm, ⟨hh, p.2, v1, kp _ _ P1.1, e1, c1⟩, r1, r2, tk _ _ ?_⟩
  refine ⟨a, PySem.W.hideAll sI.heap (frs X.stack), sI, pins, σ, H', cls, d, .ref p.1, rfl, ⟨J, fun b o z m => PySem.W.hideAll_get _ z m, Heap.UpToSlots.of_keeps k5⟩, ⟨.inl ⟨fun b o z => k5 b o (PySem.W.of_hideAll _ z), noB, ?_, _, _, at5, ⟨⟨?_, ?_⟩, fun us z => ?_⟩, hd5, f1⟩, .inr ⟨p.1, p.2, v1, rfl, PySem.W.hideAll_get _ P1.1 noF, e1, c1, P1.2.1⟩⟩, ⟨na, os, ag⟩, q⟩
  · exact Heap.FunFrames.of_keeps (fun b o z _ => ⟨o, k5 b o z, rfl⟩) (funFrames_none J.stack fun b m => PySem.W.hideAll_none _ m)
  · rw [Obj.cls_mapFields, Obj.cls_mapFields, Obj.cls_mapFields]; exact hz.1
  · rw [HandSPX.dict_mapFields, HandSPX.dict_mapFields, HandSPX.dict_mapFields]; exact hz.2.1
  · rw [hd5] at z
    cases z
    exact f2
def wTwoR (K : PySem.W.Frag) (c1 c2 : Value) (ts : TS) (D : Ends) : WX := fun cls _ σ H => PySem.W.exmAny K cls [c1, c2] = some true ∧ ts D σ H
variable {X : Cx} {x1 x2 : Str} {c1 c2 : Value} {body suite : List Stmt} {b₀ : Stmt} {q1 q2 qt pos' pos : Pos} {kk : Nat} {more : List ExceptHandler} {tb : WX → TS} {ts : TS} {Wout : WX}
theorem ps_try_twoR (hs : X.stack = X.env :: X.outer) (hf : X.env.frame = some X.env.locals) (hpa : ∀ hd : Option Value, PassesOwnAt (model X.prog X.w) (X.A.mark hd) X.A X.env X.xe) (tk : TakesJ X Wout)
    (g1 : Gl X x1) (m1 : X.mg x1 = some c1) (g2 : Gl X x2) (m2 : X.mg x2 = some c2) (d1 : (x1 == ("__debug__" : Str)) = false) (d2 : (x2 == ("__debug__" : Str)) = false)
    (hb : ∀ (W : WX) (pn : List (Addr × Obj)) (xe : Value → Shared → Prop), L2N.Takes (X.tr pn xe) W → PassesOwn (model X.prog X.w) X.A X.env xe → PSs (X.tr pn xe) body (tb W))
    (hsu : ∀ (a : Addr) (oe : Obj) (pn : List (Addr × Obj)), TakesJ (suiteX X a ((a, oe) :: pn)) Wout → HotC (suiteX X a ((a, oe) :: pn)) → PSs (suiteX X a ((a, oe) :: pn)) (b₀ :: suite) ts) :
    PS X (.Try body (.ExceptHandler (some (.Tuple [.Name x1 q1, .Name x2 q2] kk qt)) none (b₀ :: suite) pos' :: more) [] [] pos) (fun D σ H => tb (wTwoR X.K c1 c2 ts D) D σ H) := by
  refine ⟨fun pins s σ H D I hw => ?_⟩
  have ok := I.ok
  have frames : X.A.frames = some (X.env :: X.outer) := by rw [ok.frames, hs]
  refine wpAny_Try_except (wpAny_mono ((hb (wTwoR X.K c1 c2 ts D) (X.pn ++ pins) _ (fun u s' air => ?_) PassesOwn.looking).run [] s σ H D (I.toTry _) hw) (fun fl s1 got => ?_) (fun _ _ z => z))
  · obtain ⟨a, B, sI, pins', σ', H', cls, d, rfl, JT, nb, up, sky, na, os, ag, hx, hgo⟩ := air
    have J : Inv X pins σ' H' sI := JT.ofTry ok
    have sky2 : Sky B (X.env :: X.outer) a (L2N.Zn cls d) X.env.locals s'.heap := by rw [← hs]; exact sky
    refine L2N.Sky.land L2N.Zn.steady frames hf sky2 fun h3 fl3 up3 => ?_
    have J3 : Inv X pins σ' H' { s' with heap := h3 } := J.landed nb fl3.1 (up.trans up3) os ag
    obtain ⟨oe, vs, at3, z3, dat3⟩ := fl3.there
    have away : a ∉ frs (X.env :: X.outer) := fun mem => by
      obtain ⟨_, o', e', nf⟩ := fl3.2.2.1.mem mem
      rw [at3] at e'
      cases e'
      exact nf _ dat3
    have nL : a ≠ X.env.locals := fun z => away (List.mem_filterMap.mpr ⟨X.env, List.mem_cons_self, by rw [hf, z]⟩)
    have nF : a ∉ X.fs := fun mem => by
      obtain ⟨e, he, q⟩ := List.mem_filterMap.mp mem
      exact away (List.mem_filterMap.mpr ⟨e, List.mem_cons_of_mem _ he, q⟩)
    have S3 := J3.suite at3 dat3 na nL nF
    refine wpAny_handleBy_cons (codeAny_handlers_test ?_) (by intro q; cases q)
    refine wpAny_Tuple_spliced (Calls.spliced_cons (ld_glob (X := X.suite a ((a, oe) :: (X.pn ++ pins))) S3 g1 m1 (Calls.spliced_cons (ld_glob (X := X.suite a ((a, oe) :: (X.pn ++ pins))) S3 g2 m2 (Calls.spliced_nil ⟨by show 2 ≤ sizeLine; decide, ?_⟩) d2)) d1))
    have kp : ∀ b o, h3.get? b = some o → (h3.push { cls := .type "tuple", data := .seq [c1, c2].toArray }).get? b = some o := fun b o e => Heap.get?_push_of_some _ e
    have look : PySem.W.Looks (model X.prog X.w) (h3.push { cls := .type "tuple", data := .seq [c1, c2].toArray }) (typeOf (.ref a)) cls := fun A Q E s k q => wpAny_typeOf_ref (k _ _ (kp _ _ at3)) (by rw [z3.1]; exact q)
    have match2 := PySem.W.exm_tup2 (M := model X.prog X.w) (J3.kIn.keeps kp) look (Heap.get?_push_size _ rfl) hx
    refine match2.here (codeAny_handlers_suite (HandSPX.lands_againZ (flying_push fl3 kp) fun h4 fl4 up4 => ?_))
    have J4 : Inv X pins σ' H' { s' with heap := h4 } := J.landed nb fl4.1 (((up.trans up3).trans (.of_keeps kp)).trans up4) os ag
    obtain ⟨oe4, vs4, at4, z4, dat4⟩ := fl4.there
    have S4 := J4.suite at4 dat4 na nL nF
    have tkS : TakesJ (suiteX X a ((a, oe4) :: (X.pn ++ pins))) Wout := fun u2 s2 air2 => by
      obtain ⟨a2, B2, sI2, pn2, σ2, H2, cls2, dd2, cc2, e2, ⟨I2, nb2, up2⟩, sb2, r2, w2⟩ := air2
      exact tk u2 s2 ⟨a2, B2, sI2, pins, σ2, H2, cls2, dd2, cc2, e2, ⟨unsuiteX I2 ok, nb2, up2⟩, sb2, r2, w2⟩
    have hot : HotC (suiteX X a ((a, oe4) :: (X.pn ++ pins))) := ⟨(a, oe4), ⟨rfl, vs4, dat4, z4.2.2 vs4 dat4⟩, List.mem_cons_self⟩
    refine wpAny_mono ((hsu a oe4 (X.pn ++ pins) tkS hot).run [] _ _ H' _ (suiteX_of S4) hgo) (fun fl s6 sp => ?_) (fun e6 s6 z => hpa (some (.ref a)) e6 s6 z)
    cases fl with
    | next => obtain ⟨σ6, H6, S6, q6⟩ := sp; exact ⟨_, _, unsuiteX S6 ok, q6⟩
    | brk => obtain ⟨σ6, H6, S6, q6⟩ := sp; exact ⟨_, _, unsuiteX S6 ok, q6⟩
    | cont => obtain ⟨σ6, H6, S6, q6⟩ := sp; exact ⟨_, _, unsuiteX S6 ok, q6⟩
    | ret u => obtain ⟨v6, σ6, H6, S6, r6, q6⟩ := sp; exact ⟨_, _, _, unsuiteX S6 ok, r6, q6⟩
  · cases fl with
    | next => obtain ⟨σ', H', JT, q⟩ := got; exact wpAny_execs_nil ⟨σ', H', JT.ofTry ok, q⟩
    | brk => obtain ⟨σ', H', JT, q⟩ := got; exact ⟨σ', H', JT.ofTry ok, q⟩
    | cont => obtain ⟨σ', H', JT, q⟩ := got; exact ⟨σ', H', JT.ofTry ok, q⟩
    | ret u => obtain ⟨v, σ', H', JT, r, q⟩ := got; exact ⟨v, σ', H', JT.ofTry ok, r, q⟩
end
end TT
namespace TT
open PySem PySem.Spec PyProof.Rows L2
abbrev ieTail : List Value := [.type "IndexError", .type "LookupError", .type "Exception", .type "BaseException", .type "object"]
inductive OverI : List Value → Prop
  | base : OverI ieTail
  | own (c : Addr) (r : List Value) : OverI r → OverI (.ref c :: r)
theorem OverI.has {l : List Value} (o : OverI l) (Y : String) : l.contains (.type Y) = ieTail.contains (.type Y) := by
  induction o with
  | base => rfl
  | own c r _ ih => rw [List.contains_cons, ih]; rfl
theorem OverI.some {l : List Value} (o : OverI l) : l.isEmpty = false := by cases o <;> rfl

section
open Builtin Builtin.ObjectAttr
variable {prog : Program} {w : World} {A : Around} {E : Value → Shared → Prop} {R : Result → Shared → Prop} {hp : Heap} {gs : Array GenState} {dr : Drawn} {tt : Nat} {os : OsState} {K : PySem.W.Frag} {nm : Str} {tk : Tok} {v : Value} {x C : Addr} {cd : ClassData}
end
structure OexI (K : PySem.W.Frag) (C : Addr) : Prop where
  cls : ∃ nm q N bs bm sn sub ab col dd k0 k1 k2 k3 k5, K.lookup C = some (excClassObj nm q C N bs bm true sn sub ab col dd k0 k1 k2 k3 k5 "IndexError.__new__") ∧ OverI bm
  sa : PySem.W.findIn K (.ref C) "__setattr__" = some (some (.builtin "object.__setattr__"))
  exC : PySem.W.subIn K (.ref C) (.type "BaseException") = some true
  tyC : PySem.W.typeIn K (.ref C) = some (.type "type")
  kC : PySem.W.keepIn K (.ref C) = true
section
variable {X : Cx} {pins : List (Addr × Obj)} {σ : L2.St} {H : Hp} {s : Shared} {a C dx : Addr} {f : Str} {y : V} {u : Value} {fs : List (Str × V)} {Q : Unit → Shared → Prop} {E : Value → Shared → Prop} {A : Around}
theorem OexI.cd {K : PySem.W.Frag} {C : Addr} (T : OexI K C) : ∃ cd, PySem.W.clsIn K C = some cd ∧ OverI cd.mro ∧ cd.hasDict = true := by
  obtain ⟨nm, q, N, bs, bm, sn, sub, ab, col, dd, k0, k1, k2, k3, k5, hC, ob⟩ := T.cls
  exact ⟨{ name := nm, bases := bs, mro := .ref C :: bm, ns := N, qualname := q, hasDict := true, slotNames := sn, subclasses := sub, abstract := ab, collection := col, hasDel := false }, by unfold PySem.W.clsIn; rw [hC] <;> rfl, .own _ _ ob, rfl⟩
end

section
variable {X : Cx} {o e : Expr} {es : List Expr} {to te : TE} {ta : TA} {f : Str} {p p' p1 p2 pos : Pos}
end
structure MkI (P : Program) (w : World) (K : PySem.W.Frag) (mg : Str → Option Value) (base : Heap) (x : Str) (ps : List Str) (k : Nat) (C : Addr) (sp : Sp) : Prop where
  T : OexI K C
  ex : ∃ (fI : Addr) (fd : FuncData), PySem.W.findIn K (.ref C) "__init__" = some (some (.ref fI)) ∧ PySem.W.typeIn K (.ref fI) = some (.type "function") ∧ FnOk P w K mg base CX0 k fI fd ps sp ∧ Binds K fd ps [] ∧ mg x = some (.ref C)
theorem MkI.mono {P : Program} {w : World} {K : PySem.W.Frag} {mg : Str → Option Value} {base : Heap} {x : Str} {ps : List Str} {j k : Nat} {C : Addr} {sp : Sp} (c : MkI P w K mg base x ps j C sp) (h : j ≤ k) : MkI P w K mg base x ps k C sp := by
  obtain ⟨T, fI, fd, a, b, o, r⟩ := c
  exact ⟨T, fI, fd, a, b, o.mono h, r⟩
section
variable {X : Cx} {x : Str} {ps : List Str} {k : Nat} {C : Addr} {sp : Sp} {e : Expr} {es : List Expr} {ta : TA} {p pos rp : Pos} {W : WX}
end
def EEm (C : Addr) (H : Hp) (E : XK) : Prop := ∀ d Hf, Same H Hf → Hf d = some (.xd [("tag", .str "EmptyHistory")]) → E (.ref C) (some d) Hf
theorem EEm.same {C : Addr} {H H1 : Hp} {E : XK} (h : EEm C H E) (e : Same H H1) : EEm C H1 E := fun d Hf e2 hd => h d Hf (e.trans e2) hd
section
variable {X : Cx} {i : Nat} {n x1 x2 x3 : Str} {c1 c2 c3 : Value} {q1 q2 q3 qt pos pos' pos2 : Pos} {kk : Nat} {body suite suite2 : List Stmt} {b₀ b₁ : Stmt} {more : List ExceptHandler} {tb : WX → TS} {ts ts2 : Addr → Obj → TS}
end
end TT
namespace TT
open PySem PySem.Spec PyProof.Rows L2 HotX L2H LamX
def lamJ (X : Cx) (A : Around) (outer : List Env) (s : Shared) (H : Hp) (E : XK) (scope : Scope) (f c' : Addr) : Cx :=
  (lamCx X A outer s H E scope f c').tr [] fun e s' => wpAny (model X.prog X.w) (A.deeper (lamEnv X scope s.heap.objs.size f c')) (leaving (lamEnv X scope s.heap.objs.size f c') e) (fun _ s'' => CXJ X.prog X.w outer H s E e s'') (fun e' s'' => CXJ X.prog X.w outer H s E e' s'') s'
section
variable {X : Cx} {A : Around} {outer : List Env} {s : Shared} {H : Hp} {E : XK} {scope : Scope} {f c' : Addr}
theorem takesLJ : TakesJ (lamJ X A outer s H E scope f c') (fun c d _ H' => E c d H') := takesJ_of rfl rfl rfl rfl
theorem passLJ : Passes (CXJ X.prog X.w) (lamJ X A outer s H E scope f c') E := passJ_call takesLJ fun _ _ _ _ h => h
end
def GivNJ (X : Cx) (Ng : List Str) (x : Str) (sg : Scope) (g : Addr) (cdg : Value) (bg : List Stmt) (a : Str) (q : Str) (k : Nat) (TO : (XK → Hp → VK → Prop) → Hp → VK → Prop) : Prop :=
  ∀ (f c' : Addr) (s : Shared) (H : Hp) (Q : VK) (tl : XK → Hp → VK → Prop), Room k (X.A.deeper (envOfC x sg s.heap.objs.size g cdg)) →
    (∀ (W : WX) (pn : List (Addr × Obj)) (xe : Value → Shared → Prop) (E : XK) (p1 p2 : Pos), TakesJ ((cxOf C8.CX0 X.prog X.w X.K X.mg X.base Ng x sg g cdg X.A X.stack s H C8.E0).tr pn xe) W →
      PE ((cxOf C8.CX0 X.prog X.w X.K X.mg X.base Ng x sg g cdg X.A X.stack s H C8.E0).tr pn xe) (.Call (.Name a p1) [] [] p2) (fun σZ HZ Q => (∀ cls d H', E cls d H' → W cls d σZ H') ∧ σZ[0]? = some (some (.ref f)) ∧ HZ c' = some (CodeO c' q) ∧ tl E HZ Q)) →
    H c' = some (CodeO c' q) → TO tl H Q →
    ∃ t, PSs (cxOf C8.CX0 X.prog X.w X.K X.mg X.base Ng x sg g cdg X.A X.stack s H C8.E0).nox bg t ∧ t { nx := fun _ H' => Q .non H', rt := Q } (L2.start Ng [.ref f]) H
section
variable {X : Cx} {pins : List (Addr × Obj)} {σ : L2.St} {H : Hp} {s : Shared}
theorem pe_actGJ {CXg : CXT} {Eg : XK} {Ng : List Str} {qg : Str} {sg : Scope} {g f c' : Addr} {cdg pm ctv : Value} {params : Arguments} {body : Expr} {scope : Scope} {k i : Nat} {a : Str} {pn : List (Addr × Obj)} {xe : Value → Shared → Prop} {W : WX} {E : XK} {tb : TE} {p1 p2 : Pos} {YA : Around} {Ys : List Env} {s0 : Shared} {H0 : Hp}
    (I : Inv X pins σ H s) (L : LamS X.env.scope scope) (hf : s.heap.get? f = some (PySem.W.kla_obj "<lambda>" (X.env.qual ++ "<lambda>") params body scope (cloFrom X.env.cells scope.names []) pm c' ctv)) (hfn : H f = none) (hfr : f ∉ frs X.stack)
    (hbind : bindArgs (PySem.W.kla_fn "<lambda>" (X.env.qual ++ "<lambda>") params body scope (cloFrom X.env.cells scope.names []) pm (.ref c') ctv) ⟨[], []⟩ = pure [])
    (link : Un (frs X.stack) [] H H0 s.heap s0.heap) (sub : ∀ b ∈ frs Ys, b ∈ frs X.stack ∨ s.heap.get? b = none) (sup : ∀ b ∈ frs X.stack, b ∈ frs Ys)
    (tk : TakesJ ((cxOf CXg X.prog X.w X.K X.mg X.base Ng qg sg g cdg YA Ys s0 H0 Eg).tr pn xe) W) (hr : Room (k + 1) (YA.deeper (envOfC qg sg s0.heap.objs.size g cdg)))
    (hbody : ∀ (A : Around) (outer : List Env) (s : Shared) (H : Hp), Room k (A.deeper (lamEnv X scope s.heap.objs.size f c')) → PE (lamJ X A outer s H E scope f c') body tb)
    (hN : Ng[i]? = some a) (hv : Vis sg a) (hd : (a == ("__debug__" : Str)) = false := by decide) (hcd : (a == ("__classdict__" : Str)) = false := by decide) :
    PE ((cxOf CXg X.prog X.w X.K X.mg X.base Ng qg sg g cdg YA Ys s0 H0 Eg).tr pn xe) (.Call (.Name a p1) [] [] p2)
      (fun σZ HZ Q => (∀ cls d H', E cls d H' → W cls d σZ H') ∧ σZ[i]? = some (some (.ref f)) ∧ HZ c' = some (CodeO c' (X.env.qual ++ "<lambda>")) ∧ tb σ HZ Q) := ⟨fun pinsZ sZ σZ HZ Q IZ h => by
  obtain ⟨hW, hs, hc, ht⟩ := h
  refine wpAny_Call_Name_kw (thn ((pe_var (pos := p1) (i := i) hN hv hd hcd).run pinsZ sZ σZ HZ (fun v H1 => v = .ref f ∧ H1 = HZ) IZ ⟨.ref f, hs, rfl, rfl⟩) fun u s1 ⟨v, H1, I1, r1, ev, eH⟩ => ?_)
  subst ev
  rw [eH] at I1
  obtain rfl : u = Value.ref f := r1
  have un : Un (frs X.stack) [] H HZ s.heap s1.heap := Un.comp link I1.base sub sup
  have of1 := un.keep f _ hf hfn hfr (fun z => nomatch (show f ∈ ([] : List Addr) from z))
  refine PySem.W.callWith_F0 ⟨_, _, _, _, of1⟩ ?_
  obtain ⟨⟨oc, vs, t, hoc, hdc, hvc⟩, _, _⟩ := I1.hok c' _ hc
  refine wpAny_call (codeAny_mono (R := CR (CXJ X.prog X.w) (envOfC qg sg s0.heap.objs.size g cdg :: Ys) X.prog X.w HZ s1 Q E) (PySem.W.kla_callFunE hr.depth of1 rfl L.co L.gen rfl ⟨c', oc, vs, t, rfl, hoc, hdc, hvc⟩ ?_) fun r s' hq => ?_)
  · rw [show bindArgs (PySem.W.kla_fn "<lambda>" (X.env.qual ++ "<lambda>") params body scope (cloFrom X.env.cells scope.names []) pm (.ref c') ctv) ⟨[] ++ [], []⟩ = pure [] from hbind]
    refine wpAny_pure (wpAny_newFunctionEnv (fun y hy => (L.own y hy).2) (fun y hy => absurd hy (by simp)) (fun h₁ hns hsb => ⟨I1.nolimit.fresh _ hsb, ?_⟩) L.kind)
    show codeAny _ _ (.expr body (lamEnv X scope s1.heap.objs.size f c')) _ _
    have kp : ∀ b o, s1.heap.get? b = some o → h₁.get? b = some o := fun b o z => hsb.extBut b o (Nat.ne_of_lt (Heap.lt_size z)) (Heap.get?_push_of_some _ z)
    have J0 : Inv (lamCx X (YA.deeper (envOfC qg sg s0.heap.objs.size g cdg)) (envOfC qg sg s0.heap.objs.size g cdg :: Ys) s1 HZ E scope f c') [] σ HZ { s1 with heap := h₁, toks := s1.toks + ([] : List (Str × Value)).length } := lam_start2 I L I1.env0 hr.hd un hns kp
    have J := J0.toTry (fun e s' => wpAny (model X.prog X.w) ((YA.deeper (envOfC qg sg s0.heap.objs.size g cdg)).deeper (lamEnv X scope s1.heap.objs.size f c')) (leaving (lamEnv X scope s1.heap.objs.size f c') e) (fun _ s'' => CXJ X.prog X.w (envOfC qg sg s0.heap.objs.size g cdg :: Ys) HZ s1 E e s'') (fun e' s'' => CXJ X.prog X.w (envOfC qg sg s0.heap.objs.size g cdg :: Ys) HZ s1 E e' s'') s')
    refine PySem.W.kla_codeExpr (wpAny_mono ((hbody _ _ s1 HZ (hr.deeper _)).run [] _ _ HZ Q J ht) (fun v s' hq => ?_) fun e s' hq => hq)
    obtain ⟨w', H', J', rv, q⟩ := hq
    exact ⟨w', H', J'.os, J'.bare, J'.base, J'.hok, rv, q⟩
  · cases r with
    | error e => exact tk e s' (airJ_call I1 hW hq)
    | ok fl =>
      cases fl with
      | ret u => exact I1.after hq
      | next => exact False.elim hq
      | brk => exact False.elim hq
      | cont => exact False.elim hq⟩
end

def ActGJ (X : Cx) (f c' : Addr) (s : Shared) (H : Hp) (q : Str) (k : Nat) (tl : XK → Hp → VK → Prop) : Prop :=
  ∀ (Ng : List Str) (qg : Str) (sg : Scope) (g : Addr) (cdg : Value) (YA : Around) (Ys : List Env) (s0 : Shared) (H0 : Hp) (a : Str) (W : WX) (pn : List (Addr × Obj)) (xe : Value → Shared → Prop) (E : XK) (p1 p2 : Pos),
    Un (frs X.stack) [] H H0 s.heap s0.heap → (∀ b ∈ frs Ys, b ∈ frs X.stack ∨ s.heap.get? b = none) → (∀ b ∈ frs X.stack, b ∈ frs Ys) → Ng[0]? = some a → Vis sg a → (a == ("__debug__" : Str)) = false → (a == ("__classdict__" : Str)) = false → Room (k + 1) (YA.deeper (envOfC qg sg s0.heap.objs.size g cdg)) →
    TakesJ ((cxOf C8.CX0 X.prog X.w X.K X.mg X.base Ng qg sg g cdg YA Ys s0 H0 C8.E0).tr pn xe) W →
    PE ((cxOf C8.CX0 X.prog X.w X.K X.mg X.base Ng qg sg g cdg YA Ys s0 H0 C8.E0).tr pn xe) (.Call (.Name a p1) [] [] p2) (fun σZ HZ Q => (∀ cls d H', E cls d H' → W cls d σZ H') ∧ σZ[0]? = some (some (.ref f)) ∧ HZ c' = some (CodeO c' q) ∧ tl E HZ Q)
def GivMJ (X : Cx) (Ng : List Str) (x : Str) (sg : Scope) (g : Addr) (cdg : Value) (bg : List Stmt) (q : Str) (j k : Nat) (TO : (XK → Hp → VK → Prop) → Hp → VK → Prop) : Prop :=
  ∀ (f c' : Addr) (s : Shared) (H : Hp) (Q : VK) (tl : XK → Hp → VK → Prop), Room k (X.A.deeper (envOfC x sg s.heap.objs.size g cdg)) → ActGJ X f c' s H q j tl → H c' = some (CodeO c' q) → TO tl H Q →
    ∃ t, PSs (cxOf C8.CX0 X.prog X.w X.K X.mg X.base Ng x sg g cdg X.A X.stack s H C8.E0).nox bg t ∧ t { nx := fun _ H' => Q .non H', rt := Q } (L2.start Ng [.ref f]) H
section
variable {X : Cx}
theorem pe_lamMJ {T : List (Addr × Str)} {TO : (XK → Hp → VK → Prop) → Hp → VK → Prop} {x a : Str} {g c P : Addr} {j k : Nat} {pg : Arguments} {bg : List Stmt} {sg : Scope} {dV kV doc pm cdv ct oc : Value} {an od : Option Addr} {osl : Array (Option Value)} {Ng : List Str}
    {params : Arguments} {body : Expr} {scope : Scope} {t : XK → TE} {p lpos pos : Pos} (hg : Gl X x) (hm : X.mg x = some (.ref g)) (hk : PySem.W.keepIn X.K (.ref g) = true)
    (lk : X.K.lookup g = some ⟨oc, od, .func (PySem.W.fnOf x x pg bg sg dV kV doc pm an cdv ct), osl⟩) (hcg : PySem.W.codeIn X.K cdv x = true) (hb : L2.Binds X.K (PySem.W.fnOf x x pg bg sg dV kV doc pm an cdv ct) [a] []) (Sg : FnScope Ng [a] sg)
    (hG : GivMJ X Ng x sg g cdv bg (X.env.qual ++ "<lambda>") j k TO)
    (TB : TabB X.base X.mg c P) (hcode : X.env.code = .ref c) (hmT : (P, X.env.qual ++ "<lambda>") ∈ T) (hu : ∀ p ∈ T, p.1 = P → p.2 = X.env.qual ++ "<lambda>") (hr : Room (k + 1) X.A) (L : LamS X.env.scope scope) (hdef : defaultsOf params X.env = ([], []))
    (hbind : ∀ (q : Str) (cl : List (Str × Addr)) (pm cv ctv : Value), bindArgs (PySem.W.kla_fn "<lambda>" q params body scope cl pm cv ctv) ⟨[], []⟩ = pure [])
    (hbody : ∀ (A : Around) (outer : List Env) (s : Shared) (H : Hp) (E : XK) (f c' : Addr), Room j (A.deeper (lamEnv X scope s.heap.objs.size f c')) → PE (lamJ X A outer s H E scope f c') body (t E))
    (hdb : (x == ("__debug__" : Str)) = false := by decide) : PE X (.Call (.Name x p) [.Lambda params body scope lpos] [] pos) (tLam T TO t) := ⟨fun pins s σ H Q I h => by
  obtain ⟨hT, h⟩ := h
  refine wpAny_Call_Name_kw (ld_glob I hg hm (PySem.W.callWith_K (h₀ := X.base) I.ok.mod.kin hk ?_ (by rfl) (by rfl)) hdb)
  show wpAny _ _ (spliced ((false, eval (.Lambda params body scope lpos) X.env) :: backTo pos (starEach [] X.env))) _ _ s
  refine Calls.spliced_cons (lam_make2 I TB hcode hmT hu hT hdef (L.has I.ok) fun f c' pm' ctv H1 s' I1 eN T1 hf hfn hfr hco => Calls.spliced_nil ⟨I1.kIn, ?_⟩)
  refine wpAny_call (codeAny_mono (R := CR C8.CX0 X.stack X.prog X.w H1 s' Q C8.E0) (run_ofS (N := Ng) (ps := [a]) (us := [.ref f]) (vs := [.ref f]) lk hcg Sg hr I1.env0 (hb s' [.ref f] I1.kIn rfl) (.cons rfl .nil) rfl fun hr' => ?_) fun r s2 hq => ?_)
  · obtain ⟨t', ht', hq'⟩ := hG f c' s' H1 Q (fun E H' Q' => t E σ H' Q') hr' (fun Ng qg sg g cdg YA Ys s0 H0 a W pn xe E p1 p2 link sub sup hN hv d1 d2 hr2 tk => pe_actGJ (i := 0) I1 L hf hfn hfr (hbind _ _ _ _ _) link sub sup tk hr2 (fun A outer s H hr3 => hbody A outer s H E f c' hr3) hN hv d1 d2) hco (h H1 eN T1)
    exact ⟨t', ht'.nox, hq'⟩
  · cases r with
    | error e => exact (show False from hq).elim
    | ok fl =>
      cases fl with
      | ret u => exact I1.after hq
      | next => exact False.elim hq
      | brk => exact False.elim hq
      | cont => exact False.elim hq⟩
theorem GivMJ.of {Ng : List Str} {x a q : Str} {sg : Scope} {g : Addr} {cdg : Value} {bg : List Stmt} {k : Nat} {TO : (XK → Hp → VK → Prop) → Hp → VK → Prop} (hG : GivNJ X Ng x sg g cdg bg a q (k + 1) TO) (hN : Ng[0]? = some a) (hv : Vis sg a) (d1 : (a == ("__debug__" : Str)) = false := by decide) (d2 : (a == ("__classdict__" : Str)) = false := by decide) :
    GivMJ X Ng x sg g cdg bg q k (k + 1) TO := fun f c' s H Q tl hr act hc h =>
  hG f c' s H Q tl hr (fun W pn xe E p1 p2 tk => act Ng x sg g cdg X.A X.stack s H a W pn xe E p1 p2 (Un.refl) (fun _ h => .inl h) (fun _ h => h) hN hv d1 d2 hr tk) hc h
theorem pe_onNJ {Ne : List Str} {xe ye ae ao : Str} {se so : Scope} {ge go : Addr} {cde : Value} {s : Shared} {H : Hp} {f c' : Addr} {q : Str} {j : Nat} {tl : XK → Hp → VK → Prop} {TO : (XK → Hp → VK → Prop) → Hp → VK → Prop} {No : List Str} {po : Arguments} {bo : List Stmt} {dV kV doc pm cdv ct oc : Value} {an od : Option Addr} {osl : Array (Option Value)} {p p1 pos : Pos}
    (hg : Gl (cxOf C8.CX0 X.prog X.w X.K X.mg X.base Ne xe se ge cde X.A X.stack s H C8.E0).nox ye) (hm : X.mg ye = some (.ref go)) (hk : PySem.W.keepIn X.K (.ref go) = true)
    (lk : X.K.lookup go = some ⟨oc, od, .func (PySem.W.fnOf ye ye po bo so dV kV doc pm an cdv ct), osl⟩) (hcg : PySem.W.codeIn X.K cdv ye = true) (hb : L2.Binds X.K (PySem.W.fnOf ye ye po bo so dV kV doc pm an cdv ct) [ao] []) (So : FnScope No [ao] so) (hNo : No[0]? = some ao) (hva : Vis so ao)
    (hG : GivNJ (cxOf C8.CX0 X.prog X.w X.K X.mg X.base Ne xe se ge cde X.A X.stack s H C8.E0).nox No ye so go cdv bo ao q (j + 1) TO) (hr : Room (j + 2) (X.A.deeper (envOfC xe se s.heap.objs.size ge cde))) (act : ActGJ X f c' s H q j tl)
    (hv0 : PE (cxOf C8.CX0 X.prog X.w X.K X.mg X.base Ne xe se ge cde X.A X.stack s H C8.E0).nox (.Name ae p1) (tVar 0))
    (hdb : (ye == ("__debug__" : Str)) = false := by decide) (d1 : (ao == ("__debug__" : Str)) = false := by decide) (d2 : (ao == ("__classdict__" : Str)) = false := by decide) :
    PE (cxOf C8.CX0 X.prog X.w X.K X.mg X.base Ne xe se ge cde X.A X.stack s H C8.E0).nox (.Call (.Name ye p) [.Name ae p1] [] pos) (fun σE HE Q => σE[0]? = some (some (.ref f)) ∧ HE c' = some (CodeO c' q) ∧ TO tl HE Q) := ⟨fun pins sE σE HE Q IE h => by
  obtain ⟨h0, hc, hT⟩ := h
  refine wpAny_Call_Name_kw (ld_glob IE hg hm (PySem.W.callWith_K (h₀ := X.base) IE.ok.mod.kin hk (thn ((pa_cons hv0 pa_nil).run pos pins sE σE HE (fun vs H1 => vs = [.ref f] ∧ H1 = HE) IE ⟨.ref f, h0, rfl, rfl⟩) fun us s1 ⟨vs, H1, I1, r1, ev, eH⟩ => ⟨I1.kIn, ?_⟩) (by rfl) (by rfl)) hdb)
  subst ev
  rw [eH] at I1
  obtain rfl := Vals.ref1 r1
  refine wpAny_call (codeAny_mono (R := CR C8.CX0 (envOfC xe se s.heap.objs.size ge cde :: X.stack) X.prog X.w HE s1 Q C8.E0) (run_ofS (N := No) (ps := [ao]) (us := [.ref f]) (vs := [.ref f]) lk hcg So hr I1.env0 (hb s1 [.ref f] I1.kIn rfl) (.cons rfl .nil) rfl fun hr' => ?_) fun r s2 hq => ?_)
  · have sub : ∀ b ∈ frs (envOfC xe se s.heap.objs.size ge cde :: X.stack), b ∈ frs X.stack ∨ s.heap.get? b = none := fun b hb => by
      obtain ⟨e, he, hfr⟩ := List.mem_filterMap.mp hb
      rcases List.mem_cons.mp he with rfl | he
      · right
        obtain rfl := Option.some.inj hfr
        cases e : s.heap.get? s.heap.objs.size with
        | none => rfl
        | some o => exact absurd (Heap.lt_size e) (Nat.lt_irrefl _)
      · exact .inl (List.mem_filterMap.mpr ⟨e, he, hfr⟩)
    have sup : ∀ b ∈ frs X.stack, b ∈ frs (envOfC xe se s.heap.objs.size ge cde :: X.stack) := fun b hb => by
      obtain ⟨e, he, hfr⟩ := List.mem_filterMap.mp hb
      exact List.mem_filterMap.mpr ⟨e, List.mem_cons_of_mem _ he, hfr⟩
    obtain ⟨t', ht', hq'⟩ := hG f c' s1 HE Q tl hr' (fun W pn xe' E p1 p2 tk => act No ye so go cdv _ _ s1 HE ao W pn xe' E p1 p2 I1.base sub sup hNo hva d1 d2 hr' tk) hc hT
    exact ⟨t', ht'.nox, hq'⟩
  · cases r with
    | error e => exact (show False from hq).elim
    | ok fl =>
      cases fl with
      | ret u => exact I1.after hq
      | next => exact False.elim hq
      | brk => exact False.elim hq
      | cont => exact False.elim hq⟩
end
def HotF (A : Around) (p : Addr × Obj) : Prop := A.handled = some (.ref p.1) ∧ ∃ vs : Array Value, p.2.data = .fields vs
structure FnEJ (P : Program) (w : World) (K : PySem.W.Frag) (mg : Str → Option Value) (base : Heap) (CX : CXT) (k : Nat) (f : Addr) (fd : FuncData) (ps : List Str) (sp : Addr × Obj → Sp) : Prop where
  len : ∀ p vs H Q E, sp p vs H Q E → vs.length = ps.length
  run : ∀ (A : Around) (outer : List Env) (s : Shared) (H : Hp) (args : Args) (us : List Value) (vs : List V) (Q : VK) (E : XK) (p : Addr × Obj), RoomH k A → HotF A p → PinOk outer H s p → Env0 P w K mg base A outer s H → BindsTo s fd args (ps.zip us) → Vals vs us → sp p vs H Q E →
    codeAny (model P w) A (.call (.ref f) args) (CR CX outer P w H s Q E) s
section
variable {P : Program} {w : World} {K : PySem.W.Frag} {mg : Str → Option Value} {base : Heap} {CX : CXT}
theorem fnEJ_of {k : Nat} {x qual : Str} {st : Stmt} {f : Addr} {fd : FuncData} {N ps : List Str} {sp : Addr × Obj → Sp} (Fn : Fun K x qual st f fd) (S : FnScope N ps (defScope st)) (len : ∀ p vs H Q E, sp p vs H Q E → vs.length = ps.length)
    (hbody : ∀ (cdv : Value) (A : Around) (outer : List Env) (s : Shared) (H : Hp) (vs : List V) (Q : VK) (E : XK) (p : Addr × Obj), HotF A p → RoomH k (A.deeper (envOfC qual (defScope st) s.heap.objs.size f cdv)) → sp p vs H Q E →
      ∃ t, PSs (cxH CX P w K mg base N qual (defScope st) f cdv A outer s H E p) (defBody st) t ∧ t { nx := fun _ H' => Q .non H', rt := Q } (L2.start N vs) H) : FnEJ P w K mg base CX (k + 1) f fd ps sp := by
  obtain ⟨oc, od, kV, doc, pm, an, cdv, ct, osl, rfl, lk, hcd⟩ := Fn.ex
  refine ⟨len, fun A outer s H args us vs Q E p hr hot hpin e0 hb r hsp => ?_⟩
  have hl := len _ _ _ _ _ hsp
  have old : ∀ b o, base.get? b = some o → s.heap.get? b = some o := fun b o e => (e0.bs b o e).1
  have KX : K.In s.heap := e0.mod.kin.keeps old
  have kinds : ∀ y ∈ ps.zip us, (defScope st).names.lookup y.1 = some .local ∨ ((defScope st).names.lookup y.1 = some .cell ∧ ((cellsFrom (s.heap.objs.size + 1) (defScope st).names []).lookup y.1).isSome = true) := by
    rintro ⟨n, v⟩ hy
    exact (S.par n (List.of_mem_zip hy).1).imp id fun q => ⟨q, PySem.W.cellsFrom_some _ _ _ (.inl q)⟩
  refine codeAny_call_function hr.depth (KX _ _ lk) rfl S.co S.gen rfl (PySem.W.codeRec_of KX hcd) (hb _ _ _ _ (wpAny_newFunctionEnv_cells S.kind kinds fun env he s1 x => ?_))
  subst he
  refine ⟨(e0.mod.nolimit.keeps old).keeps x.toInCall.keep, codeAny_func ?_⟩
  obtain ⟨t, ht, hq⟩ := hbody cdv A outer s H vs Q E p hot (hr.deeper _) hsp
  refine wpAny_mono (ht.run [] s1 (L2.start N vs) H _ (inv_startH S hpin e0 hl r x) hq) (fun fl s' hs => ?_) fun e s' hs => hs
  cases fl with
  | ret u => obtain ⟨v, σ', H', J, rv, q⟩ := hs; exact ⟨v, H', J.os, J.bare, J.base, J.hok, rv, q⟩
  | next => obtain ⟨σ', H', J, q⟩ := hs; exact ⟨.non, H', J.os, J.bare, J.base, J.hok, rfl, q⟩
  | brk => obtain ⟨_, _, _, q⟩ := hs; exact False.elim q
  | cont => obtain ⟨_, _, _, q⟩ := hs; exact False.elim q
end
structure CalEJ (P : Program) (w : World) (K : PySem.W.Frag) (mg : Str → Option Value) (base : Heap) (x : Str) (ps : List Str) (k : Nat) (sp : Addr × Obj → Sp) : Prop where
  ex : ∃ (f : Addr) (fd : FuncData), FnEJ P w K mg base CX0 k f fd ps sp ∧ mg x = some (.ref f) ∧ PySem.W.keepIn K (.ref f) = true ∧ Binds K fd ps []
section
variable {X : Cx} {k : Nat} {ps : List Str} {sp : Addr × Obj → Sp} {x : Str} {q pos : Pos} {e : Expr} {es : List Expr} {t : TA} {p : Addr × Obj}
theorem pe_calEJ (c : CalEJ X.prog X.w X.K X.mg X.base x ps k sp) (hot : HotF X.A p) (hp : p ∈ X.pn) (hr : RoomH k X.A) (hg : Gl X x) (ha : PA X (e :: es) t)
    (hdb : (x == ("__debug__" : Str)) = false := by decide) (he : starEach (e :: es) X.env = (false, eval e X.env) :: starEach es X.env := by rfl) (hpl : (backTo pos (starEach es X.env)).any (·.1) = false := by rfl) :
    PE X (.Call (.Name x q) (e :: es) [] pos) (tCallE sp p t) := ⟨fun pins s σ H Q I h => by
  obtain ⟨f, fd, Fn, hm, hk, hb⟩ := c.ex
  refine wpAny_Call_Name_kw (ld_glob I hg hm (PySem.W.callWith_K (h₀ := X.base) I.ok.mod.kin hk (thn (ha.run pos pins s σ H _ I h) fun us s1 ⟨vs, H1, I1, r, z⟩ => ⟨I1.kIn, ?_⟩) he hpl) hdb)
  have hl : us.length = ps.length := by rw [← r.length]; exact Fn.len _ _ _ _ _ z
  have b := hb s1 us I1.kIn (by rw [List.append_nil]; exact hl)
  rw [List.append_nil] at b
  have P1 := I1.pin p (List.mem_append_left _ hp)
  have hpin : PinOk X.stack H1 s1 p := ⟨P1.1, P1.2.1, fun hm => (List.mem_cons.mp (I1.stkSub p.1 hm)).elim P1.2.2.1 P1.2.2.2.1, P1.2.2.2.2⟩
  show wpAny (model X.prog X.w) X.A (call (.ref f) us) _ _ _
  refine wpAny_call (codeAny_mono (Fn.run X.A X.stack s1 H1 ⟨us, []⟩ us vs Q E0 p hr hot hpin I1.env0 b r z) fun r s' hq => ?_)
  cases r with
  | error e => exact False.elim hq
  | ok fl =>
    cases fl with
    | ret u => exact I1.after hq
    | next => exact False.elim hq
    | brk => exact False.elim hq
    | cont => exact False.elim hq⟩
theorem pe_xpJ {te : TE} {n : Str} (hot : HotF X.A p) (hp : p ∈ X.pn) (he : PE X e te) (hb : attributeBase e n X.env (eval e X.env) = eval e X.env := by rfl) : PE X (.Attribute e n pos) (tXp X.K p n te) := ⟨fun pins s σ H Q I h => by
  refine attr_of hb (thn (he.run pins s σ H _ I h) fun u s1 ⟨x, H1, I1, rx, ex, C, dd, fs, v, ec, T, hno, ed, ea, l, q⟩ => ?_)
  subst ex
  obtain rfl : u = Value.ref p.1 := rx
  have ha := (I1.pin p (List.mem_append_left _ hp)).1
  obtain ⟨_, vs, hd⟩ := hot
  obtain ⟨mA, hns, hr⟩ : ObjOk X.prog X.w H1 s1.heap dd (.xd fs) := I1.hok dd _ ea
  obtain ⟨od, ho, hl⟩ := lookIn_ns hns
  obtain ⟨u, hu, ru⟩ := RelO.some_of (v := v) (o := mA n) (by rw [← l]; exact hr n)
  have J : PySem.W.InstAt s1.heap p.1 p.2 C (some od) := ⟨ha, ec, by unfold PySem.W.notCls; rw [hd] <;> rfl, by rw [ed]; exact ho⟩
  exact HandSPX.exc_get I1.kIn J T.ga T.gg T.exC (PySem.W.findObj_own T.hdC hno rfl (by rw [hl, hu])) (handed_of ru) ⟨v, H1, I1.tok _, ru, q⟩⟩
end
end TT
namespace TT
open PySem PySem.Spec PyProof.Rows L2 HotX L2H LamX
theorem inv_pins {X : Cx} {pins : List (Addr × Obj)} {σ : L2.St} {H : Hp} {s : Shared} {B : Heap} {c : Value} (I : Inv X pins σ H s) (bh : Bhd B H c) (st : B.StaysIn s.heap) (off : ∀ x o (vs : Array Value), s.heap.get? x = some o → o.data = .fields vs → x ≠ X.env.locals ∧ x ∉ X.fs) :
    ∃ pz : List (Addr × Obj), Inv X (pz ++ pins) σ H s ∧ (c = .none ∨ ∃ (q : Addr × Obj) (ws : Array Value), c = .ref q.1 ∧ q ∈ pz ∧ q.2.data = .fields ws ∧ ws[2]? = some .none) := by
  rcases bh with rfl | ⟨x, o, vs, rfl, h1, h2, h3, h4⟩
  · exact ⟨[], I, .inl rfl⟩
  · have g := st x o h1
    obtain ⟨n1, n2⟩ := off x o vs g h2
    refine ⟨[(x, o)], ⟨I.ok, I.os, I.bare, I.base, I.loc, I.cell, I.free, I.freeC, fun p hp => ?_, I.hok, I.len⟩, .inr ⟨(x, o), vs, rfl, List.mem_singleton.mpr rfl, h2, h3⟩⟩
    rcases List.mem_append.mp hp with hp | hp
    · exact I.pin p (List.mem_append_left _ hp)
    · rcases List.mem_append.mp hp with hp | hp
      · rw [List.mem_singleton.mp hp]
        exact ⟨g, h4, n1, n2, fun v z => by have z : o.data = .cell v := z; rw [h2] at z; cases z⟩
      · exact I.pin p (List.mem_append_right _ hp)
theorem inv_drop {X : Cx} {pz pins : List (Addr × Obj)} {σ : L2.St} {H : Hp} {s : Shared} (I : Inv X (pz ++ pins) σ H s) : Inv X pins σ H s :=
  ⟨I.ok, I.os, I.bare, I.base, I.loc, I.cell, I.free, I.freeC, fun p hp => (List.mem_append.mp hp).elim (fun m => I.pin p (List.mem_append_left _ m)) fun m => I.pin p (List.mem_append_right _ (List.mem_append_right _ m)), I.hok, I.len⟩
def wTwoJ (K : PySem.W.Frag) (c1 c2 : Value) (i : Nat) (ts : Addr → Obj → TS) (D : Ends) : WX := fun cls d σ H => PySem.W.exmAny K cls [c1, c2] = some true ∧
  ∀ a oe, H a = none → Zc cls d oe → ts a oe { nx := fun σ' H' => D.nx (σ'.set i none) H', rt := D.rt, bk := fun σ' H' => D.bk (σ'.set i none) H', ct := fun σ' H' => D.ct (σ'.set i none) H' } (σ.set i (some (.ref a))) H
section
variable {X : Cx} {x1 x2 n : Str} {c1 c2 : Value} {i : Nat} {body suite : List Stmt} {b₀ : Stmt} {q1 q2 qt pos' pos : Pos} {kk : Nat} {more : List ExceptHandler} {tb : WX → TS} {ts : Addr → Obj → TS}
theorem ps_try_twoJ (hs : X.stack = X.env :: X.outer) (hf : X.env.frame = some X.env.locals) (hN : X.N.Nodup) (hi : X.N[i]? = some n) (hln : X.env.kindOf n = some .local)
    (g1 : Gl X x1) (m1 : X.mg x1 = some c1) (g2 : Gl X x2) (m2 : X.mg x2 = some c2) (d1 : (x1 == ("__debug__" : Str)) = false) (d2 : (x2 == ("__debug__" : Str)) = false)
    (hb : ∀ (W : WX) (pn : List (Addr × Obj)) (xe : Value → Shared → Prop), TakesJ (X.tr pn xe) W → PassesOwn (model X.prog X.w) X.A X.env xe → PSs (X.tr pn xe) body (tb W))
    (hsu : ∀ (a : Addr) (oe : Obj) (pn : List (Addr × Obj)), (∃ vs : Array Value, oe.data = .fields vs) → HotJC (X.suite a ((a, oe) :: pn)) → PSs (X.suite a ((a, oe) :: pn)) (b₀ :: suite) (ts a oe)) :
    PS X (.Try body (.ExceptHandler (some (.Tuple [.Name x1 q1, .Name x2 q2] kk qt)) (some n) (b₀ :: suite) pos' :: more) [] [] pos) (fun D σ H => tb (wTwoJ X.K c1 c2 i ts D) D σ H) := by
  refine ⟨fun pins s σ H D I hw => ?_⟩
  have ok := I.ok
  have frames : X.A.frames = some (X.env :: X.outer) := by rw [ok.frames, hs]
  refine wpAny_Try_except (wpAny_mono ((hb (wTwoJ X.K c1 c2 i ts D) (X.pn ++ pins) _ (fun u s' air => ?_) PassesOwn.looking).run [] s σ H D (I.toTry _) hw) (fun fl s1 got => ?_) (fun _ _ z => z))
  · obtain ⟨a, B, sI, pins', σ', H', cls, d, c, rfl, ⟨JT, nb, up⟩, ⟨sky, bh⟩, ⟨na, os, ag⟩, hx, hgo⟩ := air
    have J : Inv X pins σ' H' sI := JT.ofTry ok
    have sky2 : Sky B (X.env :: X.outer) a (Zj c cls d) X.env.locals s'.heap := by rw [← hs]; exact sky
    refine L2N.Sky.land zj_steady frames hf sky2 fun h3 fl3 up3 => ?_
    have J3 : Inv X pins σ' H' { s' with heap := h3 } := J.landed nb fl3.1 (up.trans up3) os ag
    obtain ⟨oe, vs, at3, z3, dat3⟩ := fl3.there
    have offF : ∀ {h : Heap}, h.FunFrames B (X.env :: X.outer) → ∀ x o (vs : Array Value), h.get? x = some o → o.data = .fields vs → x ≠ X.env.locals ∧ x ∉ X.fs := fun {h} ff x o vs g dd => by
      have away : x ∉ frs (X.env :: X.outer) := fun mem => by
        obtain ⟨_, o', e', nf⟩ := ff.mem mem
        rw [g] at e'
        cases e'
        exact nf _ dd
      exact ⟨fun z => away (List.mem_filterMap.mpr ⟨X.env, List.mem_cons_self, by rw [hf, z]⟩), fun mem => by
        obtain ⟨e, he, q⟩ := List.mem_filterMap.mp mem
        exact away (List.mem_filterMap.mpr ⟨e, List.mem_cons_of_mem _ he, q⟩)⟩
    obtain ⟨nL, nF⟩ := offF fl3.2.2.1 a oe vs at3 dat3
    have S3 := J3.suite at3 dat3 na nL nF
    refine wpAny_handleBy_cons (codeAny_handlers_test ?_) (by intro q; cases q)
    refine wpAny_Tuple_spliced (Calls.spliced_cons (ld_glob (X := X.suite a ((a, oe) :: (X.pn ++ pins))) S3 g1 m1 (Calls.spliced_cons (ld_glob (X := X.suite a ((a, oe) :: (X.pn ++ pins))) S3 g2 m2 (Calls.spliced_nil ⟨by show 2 ≤ sizeLine; decide, ?_⟩) d2)) d1))
    have kp : ∀ b o, h3.get? b = some o → (h3.push { cls := .type "tuple", data := .seq [c1, c2].toArray }).get? b = some o := fun b o e => Heap.get?_push_of_some _ e
    have look : PySem.W.Looks (model X.prog X.w) (h3.push { cls := .type "tuple", data := .seq [c1, c2].toArray }) (typeOf (.ref a)) cls := fun A Q E s k q => wpAny_typeOf_ref (k _ _ (kp _ _ at3)) (by rw [z3.1.1]; exact q)
    have match2 := PySem.W.exm_tup2 (M := model X.prog X.w) (J3.kIn.keeps kp) look (Heap.get?_push_size _ rfl) hx
    refine match2.here (codeAny_handlers_suite_as (HandSPX.lands_againZ (flying_push fl3 kp) fun h4 fl4 up4 => ?_))
    have J40 : Inv X pins σ' H' { s' with heap := h4 } := J.landed nb fl4.1 (((up.trans up3).trans (.of_keeps kp)).trans up4) os ag
    obtain ⟨pz, J4, lk⟩ := inv_pins J40 bh fl4.1 (offF fl4.2.2.1)
    obtain ⟨oe4, vs4, at4, z4, dat4⟩ := fl4.there
    have hot : HotJC (X.suite a ((a, oe4) :: (X.pn ++ (pz ++ pins)))) := by
      refine ⟨(a, oe4), vs4, c, rfl, List.mem_cons_self, dat4, z4.2 vs4 dat4, lk.imp id ?_⟩
      rintro ⟨q, ws, e1, e2, e3, e4⟩
      exact ⟨q, ws, e1, List.mem_cons_of_mem _ (List.mem_append_right _ (List.mem_append_left _ e2)), e3, e4⟩
    refine store_ok (X := X.suite a ((a, oe4) :: (X.pn ++ (pz ++ pins)))) (v := .ref a) (J4.suite at4 dat4 na nL nF) hN hi (.inl hln) rfl (fun s5 S5 => ?_) (.inr hln)
    refine wpAny_mono ((hsu a oe4 (X.pn ++ (pz ++ pins)) ⟨_, dat4⟩ hot).run [] s5 _ H' _ S5 (hgo a oe4 na z4.1)) (fun fl s6 sp => ?_) (fun _ _ z => False.elim z)
    have close : ∀ {σ6 : L2.St} {H6 : Hp} {R : Shared → Prop}, Inv (X.suite a ((a, oe4) :: (X.pn ++ (pz ++ pins)))) [] σ6 H6 s6 → (∀ s7, Inv X pins (σ6.set i none) H6 s7 → R s7) → wpAny (model X.prog X.w) X.A (do bindName X.env n .none; unbindBehindTheSuite X.env n pos') (fun _ s7 => R s7) X.xe s6 :=
      fun S6 hq => gone_ok (S6.unsuite ok) hN hi hln fun s7 J7 => hq s7 (inv_drop J7)
    cases fl with
    | next => obtain ⟨σ6, H6, S6, q6⟩ := sp; exact close S6 fun s7 J7 => ⟨_, _, J7, q6⟩
    | brk => obtain ⟨σ6, H6, S6, q6⟩ := sp; exact close S6 fun s7 J7 => ⟨_, _, J7, q6⟩
    | cont => obtain ⟨σ6, H6, S6, q6⟩ := sp; exact close S6 fun s7 J7 => ⟨_, _, J7, q6⟩
    | ret u => obtain ⟨v6, σ6, H6, S6, r6, q6⟩ := sp; exact close S6 fun s7 J7 => ⟨_, _, _, J7, r6, q6⟩
  · cases fl with
    | next => obtain ⟨σ', H', JT, q⟩ := got; exact wpAny_execs_nil ⟨σ', H', JT.ofTry ok, q⟩
    | brk => obtain ⟨σ', H', JT, q⟩ := got; exact ⟨σ', H', JT.ofTry ok, q⟩
    | cont => obtain ⟨σ', H', JT, q⟩ := got; exact ⟨σ', H', JT.ofTry ok, q⟩
    | ret u => obtain ⟨v, σ', H', JT, r, q⟩ := got; exact ⟨v, σ', H', JT.ofTry ok, r, q⟩
end
end TT
namespace TT
open PySem PySem.Spec PyProof.Rows L2 HotX LamX T
section
variable {X : Cx} {x : Str} {dvs : List V} {k : Nat} {sp : Sp} {e : Expr} {es : List Expr} {t : TA} {p pos : Pos} {CX : CXT} {E : XK}
end
end TT
namespace TT
open PySem PySem.Spec PyProof.Rows L2 HotX LamX T
mutual
theorem S.chk_ok : ∀ (s : S) {n dep pos : Nat}, s.ok → s.dLe n → dep + n ≤ 5 → pos + s.wr ≤ 100 → s.bt.chk dep pos = .ok (pos + s.wr)
  | .k x, n, dep, pos, o, d, h, l => by
    have l : pos + 1 ≤ 100 := l
    show (Bt.k x).chk dep pos = .ok (pos + 1)
    unfold Bt.chk
    rw [if_neg (by omega)]
    exact if_pos (decide_eq_true (show -1000000000 ≤ x ∧ x ≤ 1000000000 from o))
  | .r c ss, 0, dep, pos, o, d, h, l => d.elim
  | .r c ss, n + 1, dep, pos, o, d, h, l => by
    have l : pos + (1 + wrL ss) ≤ 100 := l
    show (Bt.r "repeat" c (btL ss)).chk dep pos = .ok (pos + (1 + wrL ss))
    unfold Bt.chk
    have hr : rokB "repeat" c = true := by
      unfold rokB
      rw [decide_eq_true o.1, decide_eq_true o.2.1]; rfl
    rw [if_neg (by omega), if_neg (by rw [hr]; intro z; rcases z with z | z; omega; cases z), btL_chk_ok ss o.2.2 d (by omega) (by omega)]
    rw [Nat.add_assoc]
theorem btL_chk_ok : ∀ (ss : List S) {n dep pos : Nat}, okL ss → dLeL ss n → dep + n ≤ 5 → pos + wrL ss ≤ 100 → chkB dep (btL ss) pos = .ok (pos + wrL ss)
  | [], n, dep, pos, _, _, _, _ => rfl
  | s :: ss, n, dep, pos, o, d, h, l => by
    have l : pos + (s.wr + wrL ss) ≤ 100 := l
    show (match s.bt.chk dep pos with | Except.error e => Except.error e | Except.ok q => chkB dep (btL ss) q) = .ok (pos + (s.wr + wrL ss))
    rw [S.chk_ok s o.1 d.1 h (by omega)]
    show chkB dep (btL ss) (pos + s.wr) = _
    rw [btL_chk_ok ss o.2 d.2 h (by omega), Nat.add_assoc]
end
theorem chk_S {ss : List S} (o : okL ss) (d : dLeL ss 4) (w : wrL ss ≤ 100) : chkB 1 (btL ss) 0 = .ok (wrL ss) := by
  rw [btL_chk_ok ss o d (by decide) (by omega), Nat.zero_add]
theorem BL.keys {H : Hp} : ∀ xs : List Int, BL H (xs.map Bt.k) (xs.map V.int)
  | [] => rfl
  | x :: xs => ⟨.int x, xs.map V.int, rfl, rfl, BL.keys xs⟩
def spRtQ (K : PySem.W.Frag) (C1 C2 C3 : Addr) : Sp := fun us H Q E => (∃ (b a : Addr) (vs : List V) (bs : List Bt) (r : Option Nat), us = [.ref b, .ref a] ∧ Sq K H b vs ∧ BL H bs vs ∧ chkB 1 bs 0 = .error r ∧ ECk C1 C2 r H E) ∨ spRecentX K C3 us H Q E
theorem spRtQ.two {K : PySem.W.Frag} {C1 C2 C3 : Addr} {us : List V} {H : Hp} {Q : VK} {E : XK} (h : spRtQ K C1 C2 C3 us H Q E) : ∃ b a : Addr, us = [.ref b, .ref a] := by
  rcases h with ⟨b, a, _, _, _, e, _⟩ | ⟨b, a, _, _, e, _⟩ <;> exact ⟨b, a, e⟩
theorem spRtQ.mono {K : PySem.W.Frag} {C1 C2 C3 : Addr} {us : List V} {H : Hp} {Q Q' : VK} {E : XK} (h : spRtQ K C1 C2 C3 us H Q E) (m : ∀ v H', Q v H' → Q' v H') : spRtQ K C1 C2 C3 us H Q' E := by
  rcases h with h | ⟨b, a, ss, ks, e, h1, h2, h3, h4, h5, h6, h7, h8, h9⟩
  · exact .inl h
  · exact .inr ⟨b, a, ss, ks, e, h1, h2, h3, h4, h5, h6, h7, fun x p H' a b c => m _ _ (h8 x p H' a b c), h9⟩
section
variable {K : PySem.W.Frag} {C1 C2 C3 : Addr} {H : Hp} {E : XK} {Q : VK} {l p : Addr} {ks : List Int}
end
end TT
namespace TT
open PySem PySem.Spec PyProof.Rows L2 HotX LamX T PySem.NumText L2H
structure MkH (P : Program) (w : World) (K : PySem.W.Frag) (mg : Str → Option Value) (base : Heap) (x : Str) (ps : List Str) (k : Nat) (C : Addr) (sp : Sp) : Prop where
  T : OexC K C
  ex : ∃ (fI : Addr) (fd : FuncData), PySem.W.findIn K (.ref C) "__init__" = some (some (.ref fI)) ∧ PySem.W.typeIn K (.ref fI) = some (.type "function") ∧ FnH P w K mg base CX0 k fI fd ps sp ∧ Binds K fd ps [] ∧ mg x = some (.ref C)
section
variable {X : Cx} {x : Str} {ps : List Str} {k j : Nat} {C : Addr} {sp : Sp} {e : Expr} {es : List Expr} {ta : TA} {p pos rp cpos : Pos} {W : WX}
theorem ps_raiseNoneJ (hot : HotC X) (tk : TakesJ X W) (c : MkH X.prog X.w X.K X.mg X.base x ps k C sp) (hr : RoomH (k + 1) X.A) (hg : Gl X x) (ha : PA X (e :: es) ta)
    (hdb : (x == ("__debug__" : Str)) = false := by decide) (he : starEach (e :: es) X.env = (false, eval e X.env) :: starEach es X.env := by rfl) (hpl : (backTo pos (starEach es X.env)).any (·.1) = false := by rfl) :
    PS X (.Raise (some (.Call (.Name x p) (e :: es) [] pos)) (some (.Constant .none j cpos)) rp) (fun _ σ H => tMkO C sp [] ta σ H fun cls d H' => W cls d σ H') := by
  obtain ⟨T, fI, fd, a, b, o, r, m⟩ := c
  exact ps_raiseJ hot tk (pmk5_oexH T a b o hr hot r pass0 hg m ha hdb he hpl)
theorem pe_calS (c : Cal X.prog X.w X.K X.mg X.base (L2N.CX X.prog X.w) x ps k sp) (tk : L2N.Takes X W) (hr : Room k X.A) (hg : Gl X x) (ha : PA X (e :: es) ta) (hdb : (x == ("__debug__" : Str)) = false := by decide)
    (he : starEach (e :: es) X.env = (false, eval e X.env) :: starEach es X.env := by rfl) (hpl : (backTo pos (starEach es X.env)).any (·.1) = false := by rfl) : PE X (.Call (.Name x p) (e :: es) [] pos) (tCallS sp (WE W) ta) := by
  obtain ⟨f, fd, o, a, b, d⟩ := c
  exact pe_callS o hr hg a b d (fun σ => L2N.passAt tk σ) ha hdb he hpl
end
abbrev EPar (C : Addr) (H : Hp) (E : XK) : Prop := EOw C "ParseError" "pos" 0 H E
def AscL (l : List Nat) : Prop := ∀ c ∈ l, c < 128
theorem rp_mns (l : List Nat) : Txt.removeprefix (SX.S l) "-" = SX.S (mns l) := by
  rw [show (("-" : Str)) = SX.S [45] from rfl, rp_list]
  rfl
theorem mns_sub {l : List Nat} {c : Nat} (h : c ∈ mns l) : c ∈ l := by
  unfold mns at h
  split at h
  · exact List.mem_cons_of_mem _ h
  · exact h
theorem mns_len (l : List Nat) : (mns l).length ≤ l.length := by
  unfold mns
  split
  · rw [List.length_cons]; omega
  · exact Nat.le_refl _
theorem ascii_S {l : List Nat} (h : AscL l) : Txt.isascii (SX.S l) = true := by
  unfold Txt.isascii
  rw [Array.all_eq_true']
  intro c hc
  exact decide_eq_true (h c (by simpa using hc))
theorem uni_dg {c : Nat} (h : c < 128) : Unicode.isDigit c = dgB c := by
  have : ∀ d : Fin 128, Unicode.isDigit d.val = dgB d.val := by decide +kernel
  exact this ⟨c, h⟩
theorem isdigit_S {l : List Nat} (h : AscL l) : Txt.isdigit (SX.S l) = (!l.isEmpty && l.all dgB) := by
  unfold Txt.isdigit
  have e1 : (SX.S l).cps.all Unicode.isDigit = l.all dgB := by
    rw [Bool.eq_iff_iff, Array.all_eq_true', List.all_eq_true]
    constructor
    · intro k c hc
      rw [← uni_dg (h c hc)]
      exact k c (by simpa using hc)
    · intro k c hc
      have hc : c ∈ l := by simpa using hc
      rw [uni_dg (h c hc)]
      exact k c hc
  rw [e1, SX.S_len]
  cases l with
  | nil => rfl
  | cons c r => rfl
def spParseIX (C : Addr) : Sp := fun us H Q E => ∃ l : List Nat, us = [.str (SX.S l)] ∧ AscL l ∧ l.length ≤ 20000 ∧ (∀ i, pI l = some i → Q (.int i) H) ∧ (pI l = none → EPar C H E)
def spIntEndX : Sp := fun us H Q _ => ∃ (A T : List Nat), us = [.str (SX.S (A ++ T)), .int (A.length : Nat)] ∧ (A ++ T).length ≤ 20000 ∧ Q (.int ((A.length + (T.takeWhile isDcB).length : Nat) : Int)) H
def spRdStepX (C : Addr) (n : Nat) : Sp := fun us H Q E => ∃ (A T : List Nat) (dep : Nat), us = [.str (SX.S (A ++ T)), .int (A.length : Nat), .int (dep : Nat)] ∧ AscL (A ++ T) ∧ (A ++ T).length ≤ 20000 ∧ dep + n = 5 ∧
  (∀ s R, rdS n T = some (s, R) → ∀ p v H', Same H H' → H' p = some (.tup [v, .int ((A.length + s.tx.length : Nat) : Int)]) → HP H' s v → Q (.ref p) H') ∧ (rdS n T = none → ∀ H', Same H H' → EPar C H' E)
def spRdStepsX (C : Addr) (n : Nat) : Sp := fun us H Q E => ∃ (A T : List Nat) (dep : Nat), us = [.str (SX.S (A ++ T)), .int (A.length : Nat), .int (dep : Nat)] ∧ AscL (A ++ T) ∧ (A ++ T).length ≤ 20000 ∧ dep + n = 5 ∧
  (∀ ss R, rdL (rdS n) T.length true T = some (ss, R) → ∀ p q vs H', Same H H' → H' p = some (.tup [.ref q, .int ((A.length + (txT ss).length : Nat) : Int)]) → H' q = some (.tup vs) → HPL H' ss vs → Q (.ref p) H') ∧
  (rdL (rdS n) T.length true T = none → ∀ H', Same H H' → EPar C H' E)
def spPrevRX (C : Addr) : Nat → Sp
  | 0 => fun _ _ _ _ => False
  | n + 1 => spRdStepsX C n
theorem rdL_fuel {n : Nat} {st : List Nat → Option (S × List Nat)} (h : Snd n st) : ∀ (f g : Nat) (b : Bool) (T : List Nat), T.length ≤ f → T.length ≤ g → rdL st f b T = rdL st g b T
  | f, g, b, [], _, _ => by unfold rdL; rfl
  | 0, _, _, c :: r, hf, _ => by rw [List.length_cons] at hf; omega
  | _, 0, _, c :: r, _, hg => by rw [List.length_cons] at hg; omega
  | f + 1, g + 1, b, c :: r, hf, hg => by
    unfold rdL
    by_cases c41 : c = 41
    · rw [if_pos c41, if_pos c41]
    · rw [if_neg c41, if_neg c41]
      by_cases nb : b = false ∧ c ≠ 32
      · rw [if_pos nb, if_pos nb]
      · rw [if_neg nb, if_neg nb]
        cases q : st (if b = true then c :: r else r) with
        | none => rfl
        | some sR =>
          obtain ⟨s, R⟩ := sR
          obtain ⟨_, _, _, l⟩ := h _ _ _ q
          have l2 : (if b = true then c :: r else r).length ≤ r.length + 1 := by split <;> simp
          rw [List.length_cons] at hf hg
          show (match rdL st f false R with | none => none | some (ss, R') => some (s :: ss, R')) = (match rdL st g false R with | none => none | some (ss, R') => some (s :: ss, R'))
          rw [rdL_fuel h f g false R (by omega) (by omega)]
theorem txT_app1 (done : List S) (s : S) : txT (done ++ [s]) = txT done ++ ((if done = [] then [] else [32]) ++ s.tx) := by
  cases done with
  | nil => show s.tx ++ [] = [] ++ ([] ++ s.tx); simp
  | cons x xs =>
    show x.tx ++ txR (xs ++ [s]) = x.tx ++ txR xs ++ ([32] ++ s.tx)
    rw [txR_app]
    show x.tx ++ (txR xs ++ (32 :: (s.tx ++ []))) = _
    simp
theorem hpl_bt {H : Hp} (ss : List S) {vs : List V} (h : HPL H ss vs) : BL H (btL ss) vs := btL_h ss (HPL.hl ss h)
theorem chk_cond {dep : Nat} {c : Int} (hd : dep ≤ 4) : (dep > 4 ∨ rokB "repeat" c = false) ↔ ¬ (0 ≤ c ∧ c ≤ 1000000000000000000000000000000) := by
  unfold rokB
  rw [decide_eq_true rfl, Bool.true_and]
  constructor
  · rintro (h | h)
    · omega
    · intro z
      rw [decide_eq_true z.1, decide_eq_true z.2] at h; cases h
  · intro h
    refine .inr (Bool.eq_false_iff.mpr fun z => h ?_)
    rw [Bool.and_eq_true, decide_eq_true_iff, decide_eq_true_iff] at z
    exact z
mutual
/-- what check_history asks -/
theorem bt_chk : ∀ (s : S) {dep pos : Nat}, dep ≤ 4 → pos ≤ 100 → s.dLe (5 - dep) → ((∃ q, s.bt.chk dep pos = .ok q) ↔ s.ok ∧ pos + s.wr ≤ 100) ∧ ∀ q, s.bt.chk dep pos = .ok q → q = pos + s.wr
  | .k n, dep, pos, hd, hp, _ => by
    have e : (S.k n).bt.chk dep pos = if pos ≥ 100 then .error none else if okK n then .ok (pos + 1) else .error (some pos) := by
      show (Bt.k n).chk dep pos = _
      unfold Bt.chk; rfl
    have w : (S.k n).wr = 1 := rfl
    have okk : (S.k n).ok ↔ okK n = true := by
      show (-1000000000 ≤ n ∧ n ≤ 1000000000) ↔ _
      unfold okK
      rw [decide_eq_true_iff]
    rw [e, w]
    by_cases p : pos ≥ 100
    · rw [if_pos p]
      exact ⟨⟨fun ⟨q, h⟩ => (by cases h), fun h => (by omega)⟩, fun q h => (by cases h)⟩
    · rw [if_neg p]
      by_cases k : okK n = true
      · rw [if_pos k]
        exact ⟨⟨fun _ => ⟨okk.mpr k, by omega⟩, fun _ => ⟨_, rfl⟩⟩, fun q h => (by cases h; rfl)⟩
      · rw [if_neg k]
        exact ⟨⟨fun ⟨q, h⟩ => (by cases h), fun h => absurd (okk.mp h.1) k⟩, fun q h => (by cases h)⟩
  | .r c ss, dep, pos, hd, hp, hl => by
    have e : (S.r c ss).bt.chk dep pos = if pos ≥ 100 then .error none else if dep > 4 ∨ rokB "repeat" c = false then .error (some pos) else chkB (dep + 1) (btL ss) (pos + 1) := by
      show (Bt.r "repeat" c (btL ss)).chk dep pos = _
      conv => lhs; unfold Bt.chk
    have w : (S.r c ss).wr = 1 + wrL ss := rfl
    have okk : (S.r c ss).ok ↔ (0 ≤ c ∧ c ≤ 1000000000000000000000000000000) ∧ okL ss := by
      show (0 ≤ c ∧ c ≤ 1000000000000000000000000000000 ∧ okL ss) ↔ _
      rw [and_assoc]
    have hl : dLeL ss (4 - dep) := by
      rw [show 5 - dep = (4 - dep) + 1 by omega] at hl
      exact hl
    rw [e, w]
    by_cases p : pos ≥ 100
    · rw [if_pos p]
      exact ⟨⟨fun ⟨q, h⟩ => (by cases h), fun h => (by omega)⟩, fun q h => (by cases h)⟩
    · rw [if_neg p]
      by_cases k : 0 ≤ c ∧ c ≤ 1000000000000000000000000000000
      · rw [if_neg (fun z => (chk_cond hd).mp z k)]
        obtain ⟨i1, i2⟩ := btL_chk ss (dep := dep + 1) (pos := pos + 1) (by omega) (by omega) (by rw [show 5 - (dep + 1) = 4 - dep by omega]; exact hl)
        refine ⟨?_, fun q h => by rw [i2 q h]; omega⟩
        rw [i1, okk]
        exact ⟨fun ⟨a, b⟩ => ⟨⟨k, a⟩, by omega⟩, fun ⟨a, b⟩ => ⟨a.2, by omega⟩⟩
      · rw [if_pos ((chk_cond hd).mpr k)]
        exact ⟨⟨fun ⟨q, h⟩ => (by cases h), fun h => absurd (okk.mp h.1).1 k⟩, fun q h => (by cases h)⟩
theorem btL_chk : ∀ (ss : List S) {dep pos : Nat}, dep ≤ 5 → pos ≤ 100 → dLeL ss (5 - dep) → ((∃ q, chkB dep (btL ss) pos = .ok q) ↔ okL ss ∧ pos + wrL ss ≤ 100) ∧ ∀ q, chkB dep (btL ss) pos = .ok q → q = pos + wrL ss
  | [], dep, pos, _, hp, _ => by
    have e : chkB dep (btL []) pos = .ok pos := by show chkB dep [] pos = _; unfold chkB; rfl
    rw [e]
    exact ⟨⟨fun _ => ⟨trivial, by show pos + 0 ≤ 100; omega⟩, fun _ => ⟨_, rfl⟩⟩, fun q h => by cases h; rfl⟩
  | s :: ss, dep, pos, hd, hp, hl => by
    have e : chkB dep (btL (s :: ss)) pos = match s.bt.chk dep pos with | .error e => .error e | .ok q => chkB dep (btL ss) q := by
      show chkB dep (s.bt :: btL ss) pos = _
      conv => lhs; unfold chkB
      all_goals rfl
    have w : wrL (s :: ss) = s.wr + wrL ss := rfl
    have hs : ((∃ q, s.bt.chk dep pos = .ok q) ↔ s.ok ∧ pos + s.wr ≤ 100) ∧ ∀ q, s.bt.chk dep pos = .ok q → q = pos + s.wr := by
      by_cases d4 : dep ≤ 4
      · exact bt_chk s d4 hp hl.1
      · cases s with
        | k n =>
          have z := bt_chk (.k n) (dep := 4) (pos := pos) (Nat.le_refl _) hp trivial
          have ee : ∀ d, (S.k n).bt.chk d pos = if pos ≥ 100 then .error none else if okK n then .ok (pos + 1) else .error (some pos) := fun d => by
            show (Bt.k n).chk d pos = _
            unfold Bt.chk; rfl
          rw [ee] at z ⊢
          exact z
        | r c xs =>
          have h0 : 5 - dep = 0 := by omega
          rw [h0] at hl
          exact hl.1.elim
    obtain ⟨h1, h2⟩ := hs
    rw [e, w]
    cases q : s.bt.chk dep pos with
    | error er =>
      rw [q] at h1
      refine ⟨⟨fun ⟨q, h⟩ => (by cases h), fun h => ?_⟩, fun q h => (by cases h)⟩
      obtain ⟨q', hq'⟩ := h1.mpr ⟨h.1.1, by omega⟩
      cases hq'
    | ok q1 =>
      have e1 := h2 q1 q
      obtain ⟨o1, o2⟩ := h1.mp ⟨q1, q⟩
      obtain ⟨i1, i2⟩ := btL_chk ss (dep := dep) (pos := q1) hd (by omega) hl.2
      refine ⟨?_, fun q' h => by rw [i2 q' h]; omega⟩
      rw [i1, e1]
      exact ⟨fun ⟨a, b⟩ => ⟨⟨o1, a⟩, by omega⟩, fun ⟨a, b⟩ => ⟨a.2, by omega⟩⟩
end
def spParseHX (K : PySem.W.Frag) (C : Addr) : Sp := fun us H Q E => ∃ T : List Nat, us = [.str (SX.S T)] ∧ AscL T ∧ T.length ≤ 20000 ∧
  (∀ ss, prs T = some ss → ∀ p vs H', Same H H' → H p = none → H' p = some (.lst vs) → HPL H' ss vs → Q (.ref p) H') ∧ (prs T = none → ∀ H', Same H H' → EPar C H' E)
theorem pI_dig {l : List Nat} (ha : AscL (mns l)) (h : Txt.isdigit (SX.S (mns l)) = false) : pI l = none := by
  rw [isdigit_S ha] at h
  unfold pI
  refine if_pos ?_
  rw [Bool.or_eq_true, Bool.or_eq_true, Bool.or_eq_true]
  refine .inl (.inl ?_)
  cases q : (mns l).isEmpty with
  | true => exact .inl rfl
  | false => rw [q] at h; exact .inr (by rw [show (mns l).all dgB = false from by simpa using h]; rfl)
theorem pI_long {l : List Nat} (h : 31 < (mns l).length) : pI l = none := by
  unfold pI
  refine if_pos ?_
  rw [Bool.or_eq_true, Bool.or_eq_true]
  exact .inl (.inr (decide_eq_true h))
theorem pI_zero {l : List Nat} (h : (mns l).head? = some 48) (n : l ≠ [48]) : pI l = none := by
  unfold pI
  refine if_pos ?_
  rw [Bool.or_eq_true]
  exact .inr (by rw [h, decide_eq_true n]; rfl)
theorem pI_good {l : List Nat} (ha : AscL (mns l)) (h : Txt.isdigit (SX.S (mns l)) = true) (h31 : ¬ 31 < (mns l).length) (h0 : (mns l).head? = some 48 → l = [48]) : ∃ i, pI l = some i := by
  rw [isdigit_S ha, Bool.and_eq_true] at h
  unfold pI
  rw [if_neg]
  · exact ⟨_, rfl⟩
  · rw [Bool.or_eq_true, Bool.or_eq_true, Bool.or_eq_true]
    rintro (((z | z) | z) | z)
    · rw [z] at h; cases h.1
    · rw [h.2] at z; cases z
    · exact h31 (of_decide_eq_true z)
    · rw [Bool.and_eq_true, decide_eq_true_iff] at z
      exact z.2 (h0 (by simpa using z.1))
theorem tw_at {T : List Nat} {p : Nat → Bool} : ∀ {j : Nat}, j < (T.takeWhile p).length → ∃ c, T[j]? = some c ∧ p c = true := by
  intro j hj
  have e : T = T.takeWhile p ++ T.dropWhile p := (List.takeWhile_append_dropWhile ..).symm
  refine ⟨(T.takeWhile p)[j], ?_, ?_⟩
  · conv => lhs; rw [e]
    rw [List.getElem?_append_left hj, List.getElem?_eq_getElem hj]
  · have := List.all_takeWhile (p := p) (l := T)
    rw [List.all_eq_true] at this
    exact this _ (List.getElem_mem hj)
theorem tw_end {T : List Nat} {p : Nat → Bool} {c : Nat} (h : T[(T.takeWhile p).length]? = some c) : p c = false := by
  induction T with
  | nil => cases h
  | cons x xs ih =>
    rw [List.takeWhile_cons] at h
    cases q : p x with
    | true => rw [q] at h; exact ih h
    | false => rw [q] at h; cases h; exact q
theorem tw_len {T : List Nat} {p : Nat → Bool} : (T.takeWhile p).length ≤ T.length := (List.takeWhile_sublist _).length_le
def aft : Nat → Int → List Nat → Option (S × List Nat)
  | 0, _, _ => none
  | m + 1, i, tR => match rdL (rdS m) tR.length true (tR.drop 2) with
    | none => none
    | some (_, []) => none
    | some (ss, _ :: R) => some (.r i ss, R)
theorem rdS_eq (n : Nat) (T : List Nat) : rdS n T = match pI (T.takeWhile isDcB) with
    | none => none
    | some i => if (T.dropWhile isDcB).take 2 = [42, 40] then aft n i (T.dropWhile isDcB) else some (.k i, T.dropWhile isDcB) := by
  cases n <;> rfl
theorem aft_eq {m : Nat} {i : Int} {tR D : List Nat} (h : tR = [42, 40] ++ D) : aft (m + 1) i tR = match rdL (rdS m) D.length true D with
    | none => none
    | some (_, []) => none
    | some (ss, _ :: R) => some (.r i ss, R) := by
  have hD : tR.drop 2 = D := by rw [h]; rfl
  have fu : rdL (rdS m) tR.length true D = rdL (rdS m) D.length true D := rdL_fuel (rdS_sound m) _ _ _ _ (by rw [h, List.length_append]; exact Nat.le_add_left _ _) (Nat.le_refl _)
  show (match rdL (rdS m) tR.length true (tR.drop 2) with
    | none => none
    | some (_, []) => none
    | some (ss, _ :: R) => some (S.r i ss, R)) = _
  rw [hD, fu]
theorem fnH_of {P : Program} {w : World} {K : PySem.W.Frag} {mg : Str → Option Value} {base : Heap} {k : Nat} {x qual : Str} {st : Stmt} {f : Addr} {fd : FuncData} {N ps : List Str} {sp : Sp} (Fn : Fun K x qual st f fd) (S : FnScope N ps (defScope st)) (len : ∀ vs H Q E, sp vs H Q E → vs.length = ps.length)
    (hbody : ∀ (cdv : Value) (A : Around) (outer : List Env) (s : Shared) (H : Hp) (vs : List V) (Q : VK) (E : XK) (p : Addr × Obj), L2H.Hot1 A p → L2H.RoomH k (A.deeper (envOfC qual (defScope st) s.heap.objs.size f cdv)) → sp vs H Q E →
      ∃ t, PSs (L2H.cxH CX0 P w K mg base N qual (defScope st) f cdv A outer s H E p) (defBody st) t ∧ t { nx := fun _ H' => Q .non H', rt := Q } (L2.start N vs) H) : L2H.FnH P w K mg base CX0 (k + 1) f fd ps sp := by
  obtain ⟨oc, od, kV, doc, pm, an, cdv, ct, osl, rfl, lk, hcd⟩ := Fn.ex
  exact L2H.fn_ofH lk hcd S len fun A outer s H vs Q E p hot hr h => hbody cdv A outer s H vs Q E p hot hr h
end TT
namespace TT
open PySem PySem.Spec PyProof.Rows L2 HotX LamX T PySem.NumText
structure ItSt where
  done : List (List Nat)
  cur : List Nat
  lv : Int
def lvS (l : Int) (c : Nat) : Int := l + (if c = 40 then 1 else 0) - (if c = 41 then 1 else 0)
def itS (s : ItSt) (c : Nat) : ItSt := if c = 32 ∧ lvS s.lv c = 0 then ⟨s.done ++ [s.cur], [], lvS s.lv c⟩ else ⟨s.done, s.cur ++ [c], lvS s.lv c⟩
def itR (s : ItSt) (T : List Nat) : ItSt := T.foldl itS s
def itsF (T : List Nat) : List (List Nat) := (itR ⟨[], [], 0⟩ T).done ++ [(itR ⟨[], [], 0⟩ T).cur]
theorem itR_cons (s : ItSt) (c : Nat) (r : List Nat) : itR s (c :: r) = itR (itS s c) r := rfl
theorem itR_app (s : ItSt) (a b : List Nat) : itR s (a ++ b) = itR (itR s a) b := List.foldl_append
theorem itR_join : ∀ (T : List Nat) (s : ItSt), (itR s T).done.flatMap (· ++ [32]) ++ (itR s T).cur = s.done.flatMap (· ++ [32]) ++ s.cur ++ T
  | [], s => by show _ = _ ++ []; rw [List.append_nil]; rfl
  | c :: r, s => by
    rw [itR_cons, itR_join r]
    unfold itS
    split
    · rename_i h
      rw [h.1]
      simp [List.flatMap_append]
    · simp
theorem joinL_flat : ∀ (xs : List (List Nat)) (c : List Nat), TL.joinL [32] (xs ++ [c]) = xs.flatMap (· ++ [32]) ++ c
  | [], c => rfl
  | [x], c => by show x ++ ([32] ++ c) = _; simp
  | x :: y :: xs, c => by
    show x ++ ([32] ++ TL.joinL [32] ((y :: xs) ++ [c])) = _
    rw [joinL_flat (y :: xs) c]
    simp
theorem its_join (T : List Nat) : TL.joinL [32] (itsF T) = T := by
  unfold itsF
  rw [joinL_flat, itR_join]
  rfl
theorem itR_plain {d : List (List Nat)} {l : Int} : ∀ (A : List Nat) (c : List Nat), (∀ x ∈ A, x ≠ 32 ∧ x ≠ 40 ∧ x ≠ 41) → itR ⟨d, c, l⟩ A = ⟨d, c ++ A, l⟩
  | [], c, _ => by rw [List.append_nil]; rfl
  | x :: A, c, h => by
    obtain ⟨h1, h2, h3⟩ := h x List.mem_cons_self
    rw [itR_cons]
    have e : itS ⟨d, c, l⟩ x = ⟨d, c ++ [x], l⟩ := by
      unfold itS
      rw [if_neg (fun z => h1 z.1)]
      unfold lvS
      rw [if_neg h2, if_neg h3]
      simp
    rw [e, itR_plain A _ fun y hy => h y (List.mem_cons_of_mem _ hy)]
    simp
theorem dg_plain (i : Int) : ∀ x ∈ dg i, x ≠ 32 ∧ x ≠ 40 ∧ x ≠ 41 := fun x hx => by
  have := dg_dc i x hx
  unfold isDc at this
  omega
mutual
theorem itR_tx {d : List (List Nat)} : ∀ (s : S) {c : List Nat} {l : Int}, 0 ≤ l → itR ⟨d, c, l⟩ s.tx = ⟨d, c ++ s.tx, l⟩
  | .k i, c, l, _ => itR_plain (dg i) c (dg_plain i)
  | .r n ss, c, l, h => by
    show itR _ (dg n ++ ([42, 40] ++ (txT ss ++ [41]))) = ⟨d, c ++ (dg n ++ ([42, 40] ++ (txT ss ++ [41]))), l⟩
    rw [itR_app, itR_plain (dg n) c (dg_plain n), itR_app]
    have e1 : itR ⟨d, c ++ dg n, l⟩ [42, 40] = ⟨d, c ++ dg n ++ [42] ++ [40], l + 1⟩ := by
      show itS (itS ⟨d, c ++ dg n, l⟩ 42) 40 = _
      have a1 : itS ⟨d, c ++ dg n, l⟩ 42 = ⟨d, c ++ dg n ++ [42], l⟩ := by
        unfold itS
        rw [if_neg (fun z => by have := z.1; omega)]
        unfold lvS
        rw [if_neg (by decide), if_neg (by decide)]
        simp
      rw [a1]
      unfold itS
      rw [if_neg (fun z => by have := z.1; omega)]
      unfold lvS
      rw [if_pos rfl, if_neg (by decide)]
      simp
    rw [e1, itR_app, itR_txT ss (by omega)]
    show itS ⟨d, c ++ dg n ++ [42] ++ [40] ++ txT ss, l + 1⟩ 41 = _
    unfold itS
    rw [if_neg (fun z => by have := z.1; omega)]
    unfold lvS
    rw [if_neg (by decide), if_pos rfl]
    simp
theorem itR_txT {d : List (List Nat)} : ∀ (ss : List S) {c : List Nat} {l : Int}, 1 ≤ l → itR ⟨d, c, l⟩ (txT ss) = ⟨d, c ++ txT ss, l⟩
  | [], c, l, _ => by show ItSt.mk d c l = ⟨d, c ++ [], l⟩; rw [List.append_nil]
  | s :: ss, c, l, h => by
    show itR _ (s.tx ++ txR ss) = ⟨d, c ++ (s.tx ++ txR ss), l⟩
    rw [itR_app, itR_tx s (by omega), itR_txR ss h, List.append_assoc]
theorem itR_txR {d : List (List Nat)} : ∀ (ss : List S) {c : List Nat} {l : Int}, 1 ≤ l → itR ⟨d, c, l⟩ (txR ss) = ⟨d, c ++ txR ss, l⟩
  | [], c, l, _ => by show ItSt.mk d c l = ⟨d, c ++ [], l⟩; rw [List.append_nil]
  | s :: ss, c, l, h => by
    show itR _ (32 :: (s.tx ++ txR ss)) = ⟨d, c ++ (32 :: (s.tx ++ txR ss)), l⟩
    rw [itR_cons]
    have e : itS ⟨d, c, l⟩ 32 = ⟨d, c ++ [32], l⟩ := by
      unfold itS
      have lv : lvS l 32 = l := by unfold lvS; rw [if_neg (by decide), if_neg (by decide)]; omega
      show (if 32 = 32 ∧ lvS l 32 = 0 then _ else _) = _
      rw [lv, if_neg (by omega)]
    rw [e, itR_app, itR_tx s (by omega), itR_txR ss h]
    simp
end
theorem itR_top : ∀ (ss : List S) (d : List (List Nat)) (c : List Nat), (itR ⟨d, c, 0⟩ (txR ss)).done ++ [(itR ⟨d, c, 0⟩ (txR ss)).cur] = d ++ [c] ++ ss.map S.tx
  | [], d, c => by show d ++ [c] = d ++ [c] ++ []; rw [List.append_nil]
  | s :: ss, d, c => by
    have e : itR ⟨d, c, 0⟩ (txR (s :: ss)) = itR ⟨d ++ [c], s.tx, 0⟩ (txR ss) := by
      show itR _ (32 :: (s.tx ++ txR ss)) = _
      rw [itR_cons]
      have e : itS ⟨d, c, 0⟩ 32 = ⟨d ++ [c], [], 0⟩ := by
        unfold itS
        have lv : lvS 0 32 = 0 := by decide
        show (if 32 = 32 ∧ lvS 0 32 = 0 then _ else _) = _
        rw [lv, if_pos ⟨rfl, rfl⟩]
      rw [e, itR_app, itR_tx s (by decide)]; rfl
    rw [e, itR_top ss]
    simp
theorem its_tx {ss : List S} (ne : ss ≠ []) : itsF (txT ss) = ss.map S.tx := by
  cases ss with
  | nil => exact absurd rfl ne
  | cons s ss =>
    unfold itsF
    have e : itR ⟨[], [], 0⟩ (txT (s :: ss)) = itR ⟨[], s.tx, 0⟩ (txR ss) := by
      show itR _ (s.tx ++ txR ss) = _
      rw [itR_app, itR_tx s (by decide)]; rfl
    rw [e, itR_top]; rfl
theorem tx_its {T : List Nat} {ss : List S} (h : itsF T = ss.map S.tx) : T = txT ss := by
  rw [← its_join T, h, joinL_tx]
theorem spl_hd : ∀ (a acc : List Nat), ∃ h tl, TL.spl [42, 40] 0 acc a = h :: tl ∧ ((h = acc ++ a) ∨ ∃ rest, acc ++ a = h ++ ([42, 40] ++ rest))
  | [], acc => ⟨acc, [], by rw [TL.spl_nil], .inl (by rw [List.append_nil])⟩
  | c :: r, acc => by
    cases hp : TL.pre [42, 40] (c :: r) with
    | true =>
      refine ⟨acc, _, TL.spl_hit hp, .inr ⟨(c :: r).drop 2, ?_⟩⟩
      have e : (c :: r).take 2 = [42, 40] := by
        have : ((c :: r).take 2 == [42, 40]) = true := hp
        exact eq_of_beq this
      rw [← take2 e]
    | false =>
      obtain ⟨h, tl, e, q⟩ := spl_hd r (acc ++ [c])
      refine ⟨h, tl, by rw [TL.spl_miss hp]; exact e, ?_⟩
      rw [show acc ++ c :: r = acc ++ [c] ++ r by simp]
      exact q
def hd2 (a : List Nat) : List Nat := ((TL.spl [42, 40] 0 [] a).head?).getD []
theorem hd2_or (a : List Nat) : hd2 a = a ∨ ∃ rest, a = hd2 a ++ ([42, 40] ++ rest) := by
  obtain ⟨h, tl, e, q⟩ := spl_hd a []
  have : hd2 a = h := by unfold hd2; rw [e]; rfl
  rw [this]
  exact q
theorem hd2_split (a : List Nat) : ∃ tl, Txt.split (SX.S a) (SX.S [42, 40]) = SX.S (hd2 a) :: tl := by
  obtain ⟨h, tl, e, _⟩ := spl_hd a []
  have : hd2 a = h := by unfold hd2; rw [e]; rfl
  rw [SX.split_S (by decide) (by decide), e, this]
  exact ⟨tl.map SX.S, rfl⟩
theorem no42 (i : Int) : 42 ∉ dg i := fun h => by
  have := dg_dc i 42 h
  unfold isDc at this
  omega
theorem hd2_key (i : Int) : hd2 (dg i) = dg i := by
  unfold hd2
  rw [TL.spl_last1 (no42 i)]
  rfl
theorem hd2_round (c : Int) (q : List Nat) : hd2 (dg c ++ ([42, 40] ++ q)) = dg c := by
  unfold hd2
  have := TL.spl_part1 (s := 42) (S := [40]) (p := dg c) (rest := q) (acc := []) (no42 c)
  show ((TL.spl [42, 40] 0 [] (dg c ++ ([42, 40] ++ q))).head?).getD [] = _
  have e : dg c ++ ([42, 40] ++ q) = dg c ++ (42 :: [40] ++ q) := rfl
  rw [e, this]
  rfl
theorem tx_r (c : Int) (ss : List S) : (S.r c ss).tx = dg c ++ ([42, 40] ++ (txT ss ++ [41])) := rfl
theorem dg_inj {i j : Int} (h : dg i = dg j) : i = j := by
  have a := dg_text i
  have b := dg_text j
  rw [h] at a
  have : (toString i : Str) = (toString j : Str) := a.trans b.symm
  rcases dg_cases i with ⟨z, e⟩ | ⟨z, e⟩ <;> rcases dg_cases j with ⟨y, f⟩ | ⟨y, f⟩
  · rw [e, f] at h
    have h : dgN i.natAbs = dgN j.natAbs := by injection h
    have := congrArg digitsVal h
    rw [dgN_val, dgN_val] at this
    omega
  · rw [e, f] at h
    have := dgN_all j.natAbs 45 (by rw [← h]; exact List.mem_cons_self)
    omega
  · rw [e, f] at h
    have := dgN_all i.natAbs 45 (by rw [h]; exact List.mem_cons_self)
    omega
  · rw [e, f] at h
    have := congrArg digitsVal h
    rw [dgN_val, dgN_val] at this
    omega
theorem item_k {it : List Nat} {s : S} (h : it = s.tx) (e : hd2 it = it) : ∃ i, s = .k i := by
  cases s with
  | k i => exact ⟨i, rfl⟩
  | r c ss =>
    rw [h, tx_r, hd2_round] at e
    have := congrArg List.length e
    rw [List.length_append, List.length_append] at this
    simp at this
theorem item_r {it rest : List Nat} {s : S} (h : it = s.tx) (e : it = hd2 it ++ ([42, 40] ++ rest)) : ∃ c ss, s = .r c ss ∧ hd2 it = dg c ∧ rest = txT ss ++ [41] := by
  cases s with
  | k i =>
    have h : it = dg i := h
    rw [h, hd2_key] at e
    have := congrArg List.length e
    rw [List.length_append, List.length_append] at this
    simp at this
  | r c ss =>
    have h1 : hd2 it = dg c := by rw [h, tx_r, hd2_round]
    refine ⟨c, ss, rfl, h1, ?_⟩
    rw [h1, h, tx_r] at e
    have := List.append_cancel_left e
    have := List.append_cancel_left this
    exact this.symm
theorem its_bd {T : List Nat} : ∀ it ∈ itsF T, it.length ≤ T.length := fun it h => by
  have key : ∀ {xs : List (List Nat)}, it ∈ xs → it.length ≤ (TL.joinL [32] xs).length := by
    intro xs
    induction xs with
    | nil => intro h; cases h
    | cons x xs ih =>
      intro h
      cases xs with
      | nil => rw [List.mem_singleton.mp h]; exact Nat.le_refl _
      | cons y ys =>
        show it.length ≤ (x ++ ([32] ++ TL.joinL [32] (y :: ys))).length
        rw [List.length_append, List.length_append]
        rcases List.mem_cons.mp h with h | h
        · rw [h]; omega
        · have := ih h; omega
  have := key h
  rwa [its_join] at this
theorem its_mem {T : List Nat} {c : Nat} : ∀ it ∈ itsF T, c ∈ it → c ∈ T := fun it h hc => by
  have key : ∀ {xs : List (List Nat)}, it ∈ xs → c ∈ TL.joinL [32] xs := by
    intro xs
    induction xs with
    | nil => intro h; cases h
    | cons x xs ih =>
      intro h
      cases xs with
      | nil => rw [List.mem_singleton.mp h] at hc; exact hc
      | cons y ys =>
        show c ∈ x ++ ([32] ++ TL.joinL [32] (y :: ys))
        rcases List.mem_cons.mp h with h | h
        · rw [h] at hc; exact List.mem_append_left _ hc
        · exact List.mem_append_right _ (List.mem_append_right _ (ih h))
  have := key h
  rwa [its_join] at this
theorem its_len (T : List Nat) : (itsF T).length ≤ T.length + 1 := by
  have key : ∀ xs : List (List Nat), xs.length ≤ (TL.joinL [32] xs).length + 1 := by
    intro xs
    induction xs with
    | nil => exact Nat.zero_le _
    | cons x xs ih =>
      cases xs with
      | nil => exact Nat.le_add_left _ _
      | cons y ys =>
        show (x :: y :: ys).length ≤ (x ++ ([32] ++ TL.joinL [32] (y :: ys))).length + 1
        rw [List.length_append, List.length_append, List.length_cons]
        show (y :: ys).length + 1 ≤ x.length + (1 + (TL.joinL [32] (y :: ys)).length) + 1
        omega
  have := key (itsF T)
  rwa [its_join] at this
def spLNum : Sp := fun us H Q _ => ∃ l : List Nat, us = [.str (SX.S l)] ∧ AscL l ∧ l.length ≤ 20000 ∧ (∀ i, pI l = some i → ∀ H', Same H H' → Q (.int i) H') ∧ (pI l = none → ∀ H', Same H H' → Q .non H')
def spLIts : Sp := fun us H Q _ => ∃ T : List Nat, us = [.str (SX.S T)] ∧ T.length ≤ 20000 ∧ ∀ p H', Same H H' → H p = none → H' p = some (.lst ((itsF T).map fun l => V.str (SX.S l))) → Q (.ref p) H'
def spLRead (n : Nat) : Sp := fun us H Q _ => ∃ (T : List Nat) (lv : Nat), us = [.str (SX.S T), .int (lv : Nat)] ∧ lv + n = 4 ∧ AscL T ∧ T.length ≤ 20000 ∧
  (∀ ss, T = txT ss → okL ss → dLeL ss n → ∀ p vs H', Same H H' → H p = none → H' p = some (.lst vs) → HPL H' ss vs → Q (.ref p) H') ∧ ((¬ ∃ ss, T = txT ss ∧ okL ss ∧ dLeL ss n) → ∀ H', Same H H' → Q .non H')
def spPrevLR : Nat → Sp
  | 0 => fun _ _ _ _ => False
  | n + 1 => spLRead n
def spBentTx (K : PySem.W.Frag) : Sp := fun us H Q _ => ∃ (d c : Addr) (ns : List Int) (T : List Nat), us = [.ref d, .str (SX.S T)] ∧ Drw c ns H d ∧ AscL T ∧ T.length ≤ 15000 ∧ ∀ T' H', AscL T' → T'.length ≤ T.length + 2 → Ext d H H' → Drw c ns H' d → Q (.str (SX.S T')) H'
def spWrX (K : PySem.W.Frag) (n : Nat) : Sp := fun us H Q _ => ∃ (b : Addr) (vs : List V) (ss : List S), us = [.ref b] ∧ Sq K H b vs ∧ HPL H ss vs ∧ dLeL ss n ∧ wrL ss ≤ 30000 ∧ ∀ H', Same H H' → Q (.int (wrL ss : Nat)) H'
def spPrevWX (K : PySem.W.Frag) : Nat → Sp
  | 0 => fun _ _ _ _ => False
  | n + 1 => spWrX K n
theorem wr_tx : ∀ ss : List S, ss.length ≤ wrL ss
  | [] => Nat.le_refl _
  | s :: ss => by
    have := wr_tx ss
    have h : 1 ≤ s.wr := by cases s with
      | k _ => exact Nat.le_refl _
      | r _ xs => show 1 ≤ 1 + wrL xs; omega
    show ss.length + 1 ≤ s.wr + wrL ss
    omega
mutual
theorem wr_len : ∀ s : S, s.wr ≤ s.tx.length
  | .k i => List.length_pos_iff.mpr (dg_ne i)
  | .r c ss => by
    have := wrL_len ss
    have h0 := List.length_pos_iff.mpr (dg_ne c)
    rw [tx_r, List.length_append, List.length_append, List.length_append]
    show 1 + wrL ss ≤ _
    have h1 := txT_R ss
    show 1 + wrL ss ≤ (dg c).length + (2 + ((txT ss).length + 1))
    omega
theorem wrL_len : ∀ ss : List S, wrL ss ≤ (txR ss).length
  | [] => Nat.le_refl _
  | s :: ss => by
    have h1 := wr_len s
    have h2 := wrL_len ss
    show s.wr + wrL ss ≤ (32 :: (s.tx ++ txR ss)).length
    rw [List.length_cons, List.length_append]
    omega
end
theorem cut_hiS (l : List Nat) (k : Nat) : cutS (SX.S l) none (some (k : Int)) = SX.S (l.take k) := by
  unfold cutS
  rw [HT.sIx_nat, SX.S_len]
  show (⟨((l.drop 0).take (min k l.length - 0)).toArray⟩ : Str) = SX.S (l.take k)
  rw [List.drop_zero, Nat.sub_zero]
  by_cases h : k ≤ l.length
  · rw [Nat.min_eq_left h]
  · rw [Nat.min_eq_right (by omega), List.take_of_length_le (Nat.le_refl _), List.take_of_length_le (by omega)]
theorem cut_loS (l : List Nat) (k : Nat) : cutS (SX.S l) (some (k : Int)) none = SX.S (l.drop k) := by
  unfold cutS
  rw [HT.sIx_nat, SX.S_len]
  show (⟨((l.drop (min k l.length)).take (l.length - min k l.length)).toArray⟩ : Str) = SX.S (l.drop k)
  by_cases h : k ≤ l.length
  · rw [Nat.min_eq_left h, List.take_of_length_le (by rw [List.length_drop]; omega)]
  · rw [Nat.min_eq_right (by omega), List.drop_of_length_le (Nat.le_refl _), List.drop_of_length_le (by omega), List.take_nil]
theorem S_inj {a b : List Nat} (h : SX.S a = SX.S b) : a = b := by
  have := congrArg Str.cps h
  simpa [SX.S] using this
theorem dec_S (a b : List Nat) : decide (V.str (SX.S a) = V.str (SX.S b)) = decide (a = b) := by
  by_cases h : a = b
  · rw [h, decide_eq_true rfl, decide_eq_true rfl]
  · rw [decide_eq_false h, decide_eq_false (fun z => h (S_inj (V.str.inj z)))]
theorem tens : (Str.ofString "0123456789").cps.toList = [48, 49, 50, 51, 52, 53, 54, 55, 56, 57] := by decide +kernel
theorem tens_mem (c : Nat) : decide (c ∈ (Str.ofString "0123456789").cps.toList) = dgB c := by
  rw [tens, Bool.eq_iff_iff, decide_eq_true_iff, dgB_iff]
  simp only [List.mem_cons, List.not_mem_nil, or_false]
  omega
theorem mns_dash {l : List Nat} (h : l.take 1 = [45]) : mns l = l.drop 1 ∧ l.head? = some 45 := by
  cases l with
  | nil => cases h
  | cons c r =>
    have h : [c] = [45] := h
    injection h with h _
    subst h
    exact ⟨rfl, rfl⟩
theorem mns_nodash {l : List Nat} (h : ¬ l.take 1 = [45]) : mns l = l ∧ l.head? ≠ some 45 := by
  have h2 : l.head? ≠ some 45 := fun z => by
    cases l with
    | nil => cases z
    | cons c r => cases z; exact h rfl
  exact ⟨mns_ne h2, h2⟩
def valI (l : List Nat) : Int := if l.head? = some 45 then -((digitsVal (mns l) : Nat) : Int) else ((digitsVal (mns l) : Nat) : Int)
theorem int_any {l : List Nat} (ad : AllDigits (mns l)) (ne : mns l ≠ []) (h : l.length ≤ 4300) : intText? (SX.S l) = some (valI l) := by
  by_cases d : l.take 1 = [45]
  · obtain ⟨e1, e2⟩ := mns_dash d
    have e : (SX.S l).cps.toList = 45 :: mns l := by
      show l = 45 :: mns l
      rw [e1]
      cases l with
      | nil => cases e2
      | cons c r => cases e2; rfl
    rw [intText_neg e ad ne (by rw [SX.S_len]; exact h)]
    unfold valI
    rw [if_pos e2]
  · obtain ⟨e1, e2⟩ := mns_nodash d
    rw [e1] at ad ne
    rw [intText_digits (x := SX.S l) ad ne (by rw [SX.S_len]; exact h)]
    unfold valI
    rw [if_neg e2, e1]
theorem valI_31 {l : List Nat} (ad : AllDigits (mns l)) (ne : mns l ≠ []) (h : (mns l).length ≤ 31) : (valI l).natAbs < 10 ^ 31 := by
  have hb : digitsVal (mns l) < 10 ^ 31 := by
    have key : ∀ (m : List Nat) (v : Nat), AllDigits m → m.foldl (fun n c => n * 10 + (c - 48)) v < (v + 1) * 10 ^ m.length := by
      intro m
      induction m with
      | nil => intro v _; show v < (v + 1) * 1; omega
      | cons c r ih =>
        intro v ha
        have hc := ha c List.mem_cons_self
        have := ih (v * 10 + (c - 48)) fun x hx => ha x (List.mem_cons_of_mem _ hx)
        show r.foldl _ (v * 10 + (c - 48)) < (v + 1) * 10 ^ (r.length + 1)
        refine Nat.lt_of_lt_of_le this ?_
        rw [Nat.pow_succ, Nat.mul_comm (10 ^ r.length) 10, ← Nat.mul_assoc]
        exact Nat.mul_le_mul_right _ (by omega)
    have h1 : digitsVal (mns l) < (0 + 1) * 10 ^ (mns l).length := key (mns l) 0 ad
    rw [Nat.zero_add, Nat.one_mul] at h1
    exact Nat.lt_of_lt_of_le h1 (Nat.pow_le_pow_right (by decide) h)
  unfold valI
  split <;> omega
theorem pI_val {l : List Nat} (ad : (mns l).all dgB = true) (ne : mns l ≠ []) (h : (mns l).length ≤ 31) : pI l = if dg (valI l) = l then some (valI l) else none := by
  have v31 := valI_31 (all_dg.mp ad) ne h
  by_cases e : dg (valI l) = l
  · rw [if_pos e]
    have := pI_dg v31
    rwa [e] at this
  · rw [if_neg e]
    cases q : pI l with
    | none => rfl
    | some i =>
      obtain ⟨e1, e2⟩ := pI_some q
      have : valI l = i := by
        have l1 : l.length ≤ (mns l).length + 1 := by
          unfold mns
          split
          · rw [List.length_cons]; exact Nat.le_refl _
          · exact Nat.le_succ _
        have a := int_any (all_dg.mp ad) ne (by omega)
        have b := int_dg e2
        rw [← e1, a] at b
        exact Option.some.inj b
      rw [this] at e
      exact absurd e1.symm e
theorem lc_strT {x : Str} {g : TG} {tt : L2.TT} {te : TE} {vs : List Nat} {σ : L2.St} {H1 : Hp} {D : Addr} {Qd : Hp → Prop} (Pv : Nat → Hp → Prop) (h0 : Pv 0 (upd H1 D (.lst [])))
    (hs : ∀ i c H, x.cps.toList[i]? = some c → Pv i H → g (.str ⟨#[c]⟩) (wipe σ vs) H fun σ2 H2 => wipe σ2 vs = wipe σ vs ∧ tt σ2 H2 fun b H3 =>
      if b = true then te σ2 H3 fun y H4 => ∃ acc, H4 D = some (.lst acc) ∧ acc.length < sizeLine ∧ Pv (i + 1) (upd H4 D (.lst (acc ++ [y]))) else Pv (i + 1) H3) (hd : ∀ H, Pv x.cps.toList.length H → Qd H) :
    ∃ W : Nat → Nat → Hp → Prop, (∃ m, W 0 m (upd H1 D (.lst []))) ∧ ∀ i m H, W i m H →
      ((Its x).stop i H ∧ Qd H) ∨ ((Its x).go i H ∧ ∃ Nx : Hp → Prop, (∀ H', Nx H' → ∃ m', m' < m ∧ W (i + 1) m' H') ∧ ∀ v H', (Its x).yld i H v H' → g v (wipe σ vs) H' fun σ2 H2 => wipe σ2 vs = wipe σ vs ∧ tt σ2 H2 fun b H3 =>
        if b = true then te σ2 H3 fun y H4 => ∃ acc, H4 D = some (.lst acc) ∧ acc.length < sizeLine ∧ Nx (upd H4 D (.lst (acc ++ [y]))) else Nx H3) := by
  have sz0 : x.cps.size = x.cps.toList.length := by simp
  refine ⟨fun i m H => m = x.cps.toList.length - i ∧ i ≤ x.cps.toList.length ∧ Pv i H, ⟨x.cps.toList.length, by simp, Nat.zero_le _, h0⟩, ?_⟩
  rintro i m H ⟨rfl, hi, p⟩
  by_cases hlt : i < x.cps.toList.length
  · refine .inr ⟨by show i < x.cps.size; omega, Pv (i + 1), fun H' p' => ⟨x.cps.toList.length - (i + 1), by omega, rfl, hlt, p'⟩, fun v H' y => ?_⟩
    obtain ⟨e, c, hc, rfl⟩ := y
    subst e
    exact hs i c _ (by rw [Array.getElem?_toList]; exact hc) p
  · have e : i = x.cps.toList.length := by omega
    subst e
    exact .inl ⟨by show x.cps.size ≤ _; omega, hd H p⟩
theorem walk_strT {x : Str} : Walk (Its x) x.cps.size (fun _ => True) (fun i H v H' => H' = H ∧ ∃ c, x.cps[i]? = some c ∧ v = .str ⟨#[c]⟩) := ⟨fun _ _ hi _ => hi, fun _ _ => Nat.le_refl _, fun _ _ _ _ _ _ y => y⟩
def itV (s : ItSt) : List V := (s.done ++ [s.cur]).map fun l => V.str (SX.S l)
abbrev it0 : ItSt := ⟨[], [], 0⟩
theorem itR_take {T : List Nat} {i c : Nat} (h : T[i]? = some c) (s : ItSt) : itR s (T.take (i + 1)) = itS (itR s (T.take i)) c := by
  rw [List.take_add_one, h]
  exact itR_app s _ [c]
theorem itR_len : ∀ (T : List Nat) (s : ItSt), (itR s T).done.length ≤ s.done.length + T.length
  | [], s => Nat.le_refl _
  | c :: r, s => by
    have := itR_len r (itS s c)
    rw [itR_cons, List.length_cons]
    have : (itS s c).done.length ≤ s.done.length + 1 := by
      unfold itS
      split <;> simp
    omega
theorem itR_cur : ∀ (T : List Nat) (s : ItSt), (itR s T).cur.length ≤ s.cur.length + T.length
  | [], s => Nat.le_refl _
  | c :: r, s => by
    have := itR_cur r (itS s c)
    rw [itR_cons, List.length_cons]
    have : (itS s c).cur.length ≤ s.cur.length + 1 := by
      unfold itS
      split <;> simp
    omega
theorem dec_1 (c d : Nat) : decide (V.str (⟨#[c]⟩ : Str) = V.str (⟨#[d]⟩ : Str)) = decide (c = d) := by
  by_cases h : c = d
  · rw [h, decide_eq_true rfl, decide_eq_true rfl]
  · rw [decide_eq_false h, decide_eq_false (str_1 h)]
theorem ixN_m1T {n : Nat} (h : 0 < n) : ixN n (-1) = some (n - 1) := by
  unfold ixN
  rw [if_neg (by omega), if_pos (by omega)]
  exact congrArg some (by omega)
theorem atI_m1v {xs : List V} {v : V} : atI (xs ++ [v]) (-1) = some v := by
  unfold atI
  rw [ixN_m1T (by rw [List.length_append]; exact Nat.succ_pos _), List.length_append]
  show (xs ++ [v])[xs.length + 1 - 1]? = some v
  rw [Nat.add_sub_cancel, List.getElem?_append_right (Nat.le_refl _), Nat.sub_self]; rfl
theorem drop_last {X : List Nat} {c : Nat} : (X ++ [c]).drop ((X ++ [c]).length - 1) = [c] := by
  rw [List.length_append]
  show (X ++ [c]).drop (X.length + 1 - 1) = [c]
  rw [Nat.add_sub_cancel, List.drop_left]
theorem last_41 {A rest : List Nat} : (A ++ ([42, 40] ++ rest)).drop ((A ++ ([42, 40] ++ rest)).length - 1) = [41] ↔ ∃ inn, rest = inn ++ [41] := by
  rcases List.eq_nil_or_concat rest with rfl | ⟨inn, c, rfl⟩
  · have e : A ++ ([42, 40] ++ ([] : List Nat)) = (A ++ [42]) ++ [40] := by simp
    rw [e, drop_last]
    constructor
    · intro h; cases h
    · rintro ⟨inn, h⟩
      have := congrArg List.length h
      rw [List.length_append] at this
      simp at this
  · have e : A ++ ([42, 40] ++ (inn.concat c)) = (A ++ ([42, 40] ++ inn)) ++ [c] := by rw [List.concat_eq_append]; simp
    rw [e, drop_last]
    constructor
    · intro h
      injection h with h _
      exact ⟨inn, by rw [List.concat_eq_append, h]⟩
    · rintro ⟨inn', h⟩
      rw [List.concat_eq_append] at h
      have := (List.append_inj' h rfl).2
      exact this
theorem cut_m1S (l : List Nat) : cutS (SX.S l) (some (-1)) none = SX.S (l.drop (l.length - 1)) := by
  unfold cutS
  rw [SX.S_len]
  have e : HT.sIx l.length 0 (some (-1)) = l.length - 1 := by
    show (if (-1 : Int) < 0 then ((-1 : Int) + (l.length : Int)).toNat else min (-1 : Int).toNat l.length) = _
    rw [if_pos (by decide)]; omega
  rw [e]
  show (⟨((l.drop (l.length - 1)).take (l.length - (l.length - 1))).toArray⟩ : Str) = _
  rw [List.take_of_length_le (by rw [List.length_drop]; exact Nat.le_refl _)]
theorem cut_inS (A inn : List Nat) (c : Nat) : cutS (SX.S (A ++ (inn ++ [c]))) (some (A.length : Int)) (some (-1)) = SX.S inn := by
  have l : (SX.S (A ++ (inn ++ [c]))).length = A.length + (inn.length + 1) := by rw [SX.S_len, List.length_append, List.length_append]; rfl
  unfold cutS
  rw [l, HT.sIx_nat, Nat.min_eq_left (by omega)]
  have e : HT.sIx (A.length + (inn.length + 1)) (A.length + (inn.length + 1)) (some (-1)) = A.length + inn.length := by
    show (if (-1 : Int) < 0 then ((-1 : Int) + ((A.length + (inn.length + 1) : Nat) : Int)).toNat else min (-1 : Int).toNat (A.length + (inn.length + 1))) = _
    rw [if_pos (by decide)]; omega
  rw [e]
  show (⟨(((A ++ (inn ++ [c])).drop A.length).take (A.length + inn.length - A.length)).toArray⟩ : Str) = _
  rw [List.drop_left, Nat.add_sub_cancel_left, List.take_left]
theorem S_app (a b : List Nat) : (SX.S a ++ SX.S b : Str) = SX.S (a ++ b) := by
  show (⟨a.toArray ++ b.toArray⟩ : Str) = _
  simp [SX.S]
end TT
namespace TT
open PySem PySem.Spec PyProof.Rows L2 HotX LamX
section
variable {X : Cx} {pins : List (Addr × Obj)} {σ : L2.St} {H : Hp} {s : Shared} {d : Addr} {o : Obj}
end
section
variable {P : Program} {w : World} {K : PySem.W.Frag} {tg : Expr} {d : Addr} {o : Obj} {es : Array DictEntry} {ep : Nat}
end
section
variable {X : Cx} {tg e : Expr} {td : TE} {apos cpos : Pos}
end
section
variable {d : Addr} {o : Obj} {kvs : List (List L2.Key × V)}
end
end TT
namespace TT
open PySem PySem.Spec PyProof.Rows L2 HotX LamX
end TT
namespace TT
open PySem PySem.Spec PyProof.Rows L2 HotX LamX
def wd (l : List Nat) : Str := ⟨l.toArray⟩
end TT
namespace TT
open PySem PySem.Spec PyProof.Rows L2 HotX LamX T PySem.NumText
theorem prs_out {K : PySem.W.Frag} {C3 : Addr} {cT cM : Value} {T : List Nat} {H1 : Hp} {E : XK} {R Q : VK} (ha : AscL T) (hl : T.length ≤ 20000)
    (n3 : PySem.W.exmAny K (.ref C3) [cT, cM] = some true) (X3 : XfC K C3) (f5 : PySem.W.findIn K (.ref C3) "tag" = some none) (f6 : PySem.W.findIn K (.ref C3) "pos" = some none)
    (hE : ∀ cls d H', Xo K cT cM Q cls d H' → E cls d H') (hR : ∀ v H', (∀ p H'', Same H' H'' → H' p = none → H'' p = some (.tup [v, .str "", .non]) → Q (.ref p) H'') → R v H')
    (fin1 : ∀ ss, prs T = some ss → ∀ l vs p Hx, Same H1 Hx → Hx l = some (.lst vs) → HPL Hx ss vs → Hx p = some (.tup [.ref l, .str "", .non]) → Q (.ref p) Hx)
    (fin2 : prs T = none → ∀ p Hx, Same H1 Hx → Hx p = some (.tup [.non, .str "ParseError", .int 0]) → Q (.ref p) Hx) : spParseHX K C3 [.str (SX.S T)] H1 R E :=
  ⟨T, rfl, ha, hl, fun ss hp l vs H' e _ hl' hL => hR _ _ fun p Hx ex _ hp' => fin1 ss hp l vs p Hx (e.trans ex) (ex _ _ hl') (HPL.same ex ss hL) hp',
    fun hn H' e d Hf ef hd => hE _ _ _ ⟨n3, C3, d, "ParseError", .int 0, rfl, rfl, bears_mk X3 f5 f6 hd (by decide +kernel) (by decide +kernel), fun p Hx ex _ hp' => fin2 hn p Hx (e.trans (ef.trans ex)) hp'⟩⟩
theorem S_back (x : Str) : SX.S x.cps.toList = x := by
  show (⟨x.cps.toList.toArray⟩ : Str) = x
  simp
def goodOdd (T : List Nat) : Bool := (prs T).isNone && (T.all (fun c => decide (c < 128)) && decide (T.length ≤ 20000))
theorem goodOdd_iff {T : List Nat} (h : goodOdd T = true) : prs T = none ∧ AscL T ∧ T.length ≤ 20000 := by
  unfold goodOdd at h
  rw [Bool.and_eq_true, Bool.and_eq_true, decide_eq_true_iff, List.all_eq_true] at h
  exact ⟨Option.isNone_iff_eq_none.mp h.1, fun c hc => of_decide_eq_true (h.2.1 c hc), h.2.2⟩
def rep {α : Type} (l : List α) (n : Nat) : List α := (List.replicate n l).flatten
abbrev tl (s : String) : List Nat := (Str.ofString s).cps.toList
def odd1 : List (List Nat) := [tl " ", tl "1 ", tl "01", tl "-0", tl "1*", tl "1*(", tl "1*()2", tl "1*2", tl "()", tl "a", tl "+1", tl "1*(1))", tl "-1*(2)", tl "1000000001", tl "2 *(1)", tl "1" ++ rep (tl " 1") 100]
def odd2 : List (List Nat) := [tl "1" ++ rep (tl "0") 31 ++ tl "*()", rep (tl "1") 32, tl "2*(3 )", rep (tl "2*(") 5 ++ rep (tl ")") 5, rep (tl "2*(") 900 ++ rep (tl ")") 900]
def oddL : List (List Nat) := odd1 ++ odd2
theorem odd_good : oddL.all goodOdd = true := by decide +kernel
theorem odd_len : oddL.length = 21 := by decide +kernel
theorem fold_repG (l : List Nat) : ∀ (k : Nat) (a : Array Nat), (List.replicate k l.toArray).foldl (· ++ ·) a = a ++ (rep l k).toArray
  | 0, a => by unfold rep; simp
  | k + 1, a => by
    rw [List.replicate_succ, List.foldl_cons, fold_repG l k]
    unfold rep
    rw [List.replicate_succ, List.flatten_cons]
    apply Array.ext'
    simp
theorem repN_len (l : List Nat) (k : Nat) : (rep l k).length = l.length * k := by
  unfold rep
  rw [List.length_flatten, List.map_replicate, List.sum_replicate_nat, Nat.mul_comm]
def rRepG : R2 := fun x y H Q => ∃ (l : List Nat) (k : Nat), x = .str (SX.S l) ∧ y = .int (k : Int) ∧ 1 ≤ l.length ∧ l.length ≤ 1000 ∧ 2 ≤ k ∧ k ≤ 1000 ∧ l.length * k ≤ 50000 ∧ Q (.str (SX.S (rep l k))) H
theorem op_repG {X : Cx} : OpR X (binaryOp .Mult) rRepG := by
  intro pins s σ H x y v u Q I rx ry h
  obtain ⟨l, k, rfl, rfl, l1, l2, k2, hk, hlk, q⟩ := h
  obtain ⟨t, rfl⟩ := rx
  obtain ⟨t', rfl⟩ := ry
  have ll : (SX.S l).length = l.length := SX.S_len l
  refine PySem.P.mul_str ?_ (fun h1 _ => ?_) (fun h1 _ => ?_) ?_
  · rw [Bool.or_eq_false_iff]
    exact ⟨decide_eq_false (by omega), decide_eq_false (by omega)⟩
  · rw [ll]
    have : (l.length : Int) ≤ (2 ^ 63 - 1) / (k : Int) := by
      rw [Int.le_ediv_iff_mul_le (by omega)]
      have : (l.length : Int) * (k : Int) = ((l.length * k : Nat) : Int) := by rw [Int.natCast_mul]
      omega
    omega
  · rw [ll]
    unfold Builtin.Str.tooLong
    rw [sizeLine_eq]
    refine decide_eq_false ?_
    have : (l.length * (k : Int).toNat) = l.length * k := by rw [Int.toNat_natCast]
    omega
  · rw [if_neg (by omega)]
    rw [if_neg (by simp; omega)]
    have e : (⟨(List.replicate (k : Int).toNat (SX.S l).cps).foldl (· ++ ·) #[]⟩ : Str) = SX.S (rep l k) := by
      show Str.mk _ = Str.mk _
      congr 1
      have := fold_repG l k #[]
      rw [Int.toNat_natCast]
      show List.foldl (· ++ ·) #[] (List.replicate k l.toArray) = _
      rw [this]
      simp
    rw [e]
    refine ⟨?_, .str _, H, I.tok _, ⟨_, rfl⟩, q⟩
    rw [SX.S_len, repN_len, sizeLine_eq]
    omega
mutual
theorem S.tx_asc : ∀ s : S, AscL s.tx
  | .k x => fun c hc => by
    have := dg_dc x c hc
    unfold isDc at this
    omega
  | .r n bs => fun c hc => by
    have h := txT_asc bs
    rcases List.mem_append.mp hc with h1 | h1
    · have := dg_dc n c h1
      unfold isDc at this
      omega
    rcases List.mem_cons.mp h1 with rfl | h1
    · decide
    rcases List.mem_cons.mp h1 with rfl | h1
    · decide
    have h1 : c ∈ txT bs ++ [41] := h1
    rcases List.mem_append.mp h1 with h2 | h2
    · exact h c h2
    · rw [List.mem_singleton.mp h2]; decide
theorem txT_asc : ∀ ss : List S, AscL (txT ss)
  | [] => fun c hc => by cases hc
  | s :: ss => fun c hc => by
    rcases List.mem_append.mp hc with h1 | h1
    · exact S.tx_asc s c h1
    · exact txR_asc ss c h1
theorem txR_asc : ∀ ss : List S, AscL (txR ss)
  | [] => fun c hc => by cases hc
  | s :: ss => fun c hc => by
    rcases List.mem_cons.mp hc with rfl | hc
    · decide
    rcases List.mem_append.mp hc with h1 | h1
    · exact S.tx_asc s c h1
    · exact txR_asc ss c h1
end
theorem asc_app {a b : List Nat} (h : AscL a) (g : AscL b) : AscL (a ++ b) := fun c hc => (List.mem_append.mp hc).elim (h c) (g c)
theorem bent2 (T : List Nat) : (Str.ofString "2*(" ++ SX.S T ++ Str.ofString ")" : Str) = SX.S (tl "2*(" ++ T ++ tl ")") := by
  rw [← S_app, ← S_app, S_back, S_back]
theorem bent2_len (T : List Nat) : (tl "2*(" ++ T ++ tl ")").length = T.length + 4 := by
  rw [List.length_append, List.length_append]
  have a : (tl "2*(").length = 3 := by decide +kernel
  have b : (tl ")").length = 1 := by decide +kernel
  omega
theorem bent2_asc {T : List Nat} (h : AscL T) : AscL (tl "2*(" ++ T ++ tl ")") := asc_app (asc_app (show AscL (tl "2*(") from by unfold AscL; decide +kernel) h) (show AscL (tl ")") from by unfold AscL; decide +kernel)
theorem CalEJ.mono {P : Program} {w : World} {K : PySem.W.Frag} {mg : Str → Option Value} {base : Heap} {x : Str} {ps : List Str} {j k : Nat} {sp : Addr × Obj → Sp} (c : CalEJ P w K mg base x ps j sp) (h : j ≤ k) : CalEJ P w K mg base x ps k sp := by
  obtain ⟨f, fd, o, r⟩ := c.ex
  exact ⟨f, fd, ⟨o.len, fun A outer s H args us vs Q E p hr => o.run A outer s H args us vs Q E p (hr.mono h)⟩, r⟩
theorem MkH.mono {P : Program} {w : World} {K : PySem.W.Frag} {mg : Str → Option Value} {base : Heap} {x : Str} {ps : List Str} {j k : Nat} {C : Addr} {sp : Sp} (c : MkH P w K mg base x ps j C sp) (h : j ≤ k) : MkH P w K mg base x ps k C sp := by
  obtain ⟨f, fd, a, b, o, r⟩ := c.ex
  exact ⟨c.T, f, fd, a, b, ⟨o.len, fun A outer s H args us vs Q E p hr => o.run A outer s H args us vs Q E p (hr.mono h)⟩, r⟩
end TT
namespace TT
open PySem PySem.Spec PyProof.Rows L2
def topS (i : Nat) : Stmt := PySem.Challenge.pw_touchtrees_k57_texts_that_are_no_histori.main.body.getD i (.Pass ⟨0, 0, 0, 0⟩)
def clsB : Stmt → List Stmt
  | .ClassDef (body := b) .. => b
  | _ => []
def clsS (i j : Nat) : Stmt := (clsB (topS i)).getD j (.Pass ⟨0, 0, 0, 0⟩)
abbrev s_is_key : Stmt := topS 9
theorem sc_is_key : FnScope ["number"] ["number"] (defScope s_is_key) := ⟨rfl, rfl, rfl, by decide +kernel, rfl, by decide +kernel, by decide +kernel⟩
abbrev s_is_round : Stmt := topS 14
theorem sc_is_round : FnScope ["step"] ["step"] (defScope s_is_round) := ⟨rfl, rfl, rfl, by decide +kernel, rfl, by decide +kernel, by decide +kernel⟩
abbrev s_check_steps : Stmt := topS 15
theorem sc_check_steps : FnScope ["steps", "start", "depth", "pos", "step"] ["steps", "start", "depth"] (defScope s_check_steps) := ⟨rfl, rfl, rfl, by decide +kernel, rfl, by decide +kernel, by decide +kernel⟩
abbrev s_check_history : Stmt := topS 16
theorem sc_check_history : FnScope ["history"] ["history"] (defScope s_check_history) := ⟨rfl, rfl, rfl, by decide +kernel, rfl, by decide +kernel, by decide +kernel⟩
abbrev s_parse_integer : Stmt := topS 19
theorem sc_parse_integer : FnScope ["text", "digits"] ["text"] (defScope s_parse_integer) := ⟨rfl, rfl, rfl, by decide +kernel, rfl, by decide +kernel, by decide +kernel⟩
abbrev s_steps_text : Stmt := topS 20
theorem sc_steps_text : FnScope ["steps", "step"] ["steps"] (defScope s_steps_text) := ⟨rfl, rfl, rfl, by decide +kernel, rfl, by decide +kernel, by decide +kernel⟩
abbrev s_step_text : Stmt := topS 21
theorem sc_step_text : FnScope ["step"] ["step"] (defScope s_step_text) := ⟨rfl, rfl, rfl, by decide +kernel, rfl, by decide +kernel, by decide +kernel⟩
abbrev s_format_history : Stmt := topS 22
theorem sc_format_history : FnScope ["history"] ["history"] (defScope s_format_history) := ⟨rfl, rfl, rfl, by decide +kernel, rfl, by decide +kernel, by decide +kernel⟩
abbrev s_integer_end : Stmt := topS 23
theorem sc_integer_end : FnScope ["text", "start", "at"] ["text", "start"] (defScope s_integer_end) := ⟨rfl, rfl, rfl, by decide +kernel, rfl, by decide +kernel, by decide +kernel⟩
abbrev s_read_step : Stmt := topS 24
theorem sc_read_step : FnScope ["text", "start", "depth", "at", "number", "steps"] ["text", "start", "depth"] (defScope s_read_step) := ⟨rfl, rfl, rfl, by decide +kernel, rfl, by decide +kernel, by decide +kernel⟩
abbrev s_read_steps : Stmt := topS 25
theorem sc_read_steps : FnScope ["text", "start", "depth", "steps", "at", "step"] ["text", "start", "depth"] (defScope s_read_steps) := ⟨rfl, rfl, rfl, by decide +kernel, rfl, by decide +kernel, by decide +kernel⟩
abbrev s_parse_history : Stmt := topS 26
theorem sc_parse_history : FnScope ["text", "steps", "end", "history"] ["text"] (defScope s_parse_history) := ⟨rfl, rfl, rfl, by decide +kernel, rfl, by decide +kernel, by decide +kernel⟩
abbrev s__law_start : Stmt := topS 28
theorem sc__law_start : FnScope ["_law_script"] ["_law_script"] (defScope s__law_start) := ⟨rfl, rfl, rfl, by decide +kernel, rfl, by decide +kernel, by decide +kernel⟩
abbrev s__law_take : Stmt := topS 29
theorem sc__law_take : FnScope ["_law_draw", "_law_many", "_law_cell", "_law_digit", "_law_square"] ["_law_draw", "_law_many"] (defScope s__law_take) := ⟨rfl, rfl, rfl, by decide +kernel, rfl, by decide +kernel, by decide +kernel⟩
abbrev s__law_of : Stmt := topS 30
theorem sc__law_of : FnScope ["_law_draw", "_law_some"] ["_law_draw", "_law_some"] (defScope s__law_of) := ⟨rfl, rfl, rfl, by decide +kernel, rfl, by decide +kernel, by decide +kernel⟩
abbrev s__law_same : Stmt := topS 31
theorem sc__law_same : FnScope ["_law_found", "_law_due", "_law_one", "_law_other"] ["_law_found", "_law_due"] (defScope s__law_same) := ⟨rfl, rfl, rfl, by decide +kernel, rfl, by decide +kernel, by decide +kernel⟩
abbrev s__law_field : Stmt := topS 32
theorem sc__law_field : FnScope ["_law_e"] ["_law_e"] (defScope s__law_field) := ⟨rfl, rfl, rfl, by decide +kernel, rfl, by decide +kernel, by decide +kernel⟩
abbrev s__law_outcome : Stmt := topS 33
theorem sc__law_outcome : FnScope ["_law_ask", "_law_answer", "_law_tag", "_law_field_here", "_law_e"] ["_law_ask"] (defScope s__law_outcome) := ⟨rfl, rfl, rfl, by decide +kernel, rfl, by decide +kernel, by decide +kernel⟩
abbrev s__law_error : Stmt := topS 34
theorem sc__law_error : FnScope ["_law_ask"] ["_law_ask"] (defScope s__law_error) := ⟨rfl, rfl, rfl, by decide +kernel, rfl, by decide +kernel, by decide +kernel⟩
abbrev s__law_keys : Stmt := topS 35
theorem sc__law_keys : FnScope ["_law_draw", "_law_many", "_law_key", "_law_wide", "_law_found", "_law_k"] ["_law_draw", "_law_many"] (defScope s__law_keys) := ⟨rfl, rfl, rfl, by decide +kernel, rfl, by decide +kernel, by decide +kernel⟩
abbrev s__law_step : Stmt := topS 36
theorem sc__law_step : FnScope ["_law_draw", "_law_keys_here", "_law_deep", "_law_count", "_law_steps", "_law_k"] ["_law_draw", "_law_keys_here", "_law_deep"] (defScope s__law_step) := ⟨rfl, rfl, rfl, by decide +kernel, rfl, by decide +kernel, by decide +kernel⟩
abbrev s__law_history : Stmt := topS 37
theorem sc__law_history : FnScope ["_law_draw", "_law_keys_here", "_law_most", "_law_deep", "_law_k"] ["_law_draw", "_law_keys_here", "_law_most", "_law_deep"] (defScope s__law_history) := ⟨rfl, rfl, rfl, by decide +kernel, rfl, by decide +kernel, by decide +kernel⟩
abbrev s__law_written : Stmt := topS 38
theorem sc__law_written : FnScope ["_law_steps", "_law_step_here"] ["_law_steps"] (defScope s__law_written) := ⟨rfl, rfl, rfl, by decide +kernel, rfl, by decide +kernel, by decide +kernel⟩
abbrev s__law_number : Stmt := topS 39
theorem sc__law_number : FnScope ["_law_text", "_law_digits", "_law_sign"] ["_law_text"] (defScope s__law_number) := ⟨rfl, rfl, rfl, by decide +kernel, rfl, by decide +kernel, by decide +kernel⟩
abbrev s__law_items : Stmt := topS 40
theorem sc__law_items : FnScope ["_law_text", "_law_found", "_law_level", "_law_sign"] ["_law_text"] (defScope s__law_items) := ⟨rfl, rfl, rfl, by decide +kernel, rfl, by decide +kernel, by decide +kernel⟩
abbrev s__law_read : Stmt := topS 41
theorem sc__law_read : FnScope ["_law_text", "_law_level", "_law_found", "_law_item", "_law_head", "_law_number_here", "_law_inner"] ["_law_text", "_law_level"] (defScope s__law_read) := ⟨rfl, rfl, rfl, by decide +kernel, rfl, by decide +kernel, by decide +kernel⟩
abbrev s__law_bent_text : Stmt := topS 42
theorem sc__law_bent_text : FnScope ["_law_draw", "_law_text", "_law_at", "_law_pick", "_law_sign", "_law_some"] ["_law_draw", "_law_text"] (defScope s__law_bent_text) := ⟨rfl, rfl, rfl, by decide +kernel, rfl, by decide +kernel, by decide +kernel⟩
abbrev s_law : Stmt := topS 43
theorem sc_law : FnScope ["_law_script", "_law_draw", "_law_turn", "_law_keys_here", "_law_history_here", "_law_text", "_law_step_here", "_law_due", "_law_expected", "_law_odd", "_law_one"] ["_law_script"] (defScope s_law) := ⟨rfl, rfl, rfl, by decide +kernel, rfl, by decide +kernel, by decide +kernel⟩
abbrev s_TreeError_init : Stmt := clsS 1 0
theorem sc_TreeError_init : FnScope ["self", "tag", "told"] ["self", "tag", "told"] (defScope s_TreeError_init) := ⟨rfl, rfl, rfl, by decide +kernel, rfl, by decide +kernel, by decide +kernel⟩
abbrev s_BadStep_init : Stmt := clsS 2 0
theorem sc_BadStep_init : FnScope ["self", "pos"] ["self", "pos"] (defScope s_BadStep_init) := ⟨rfl, rfl, rfl, by decide +kernel, rfl, by decide +kernel, by decide +kernel⟩
abbrev s_TooLong_init : Stmt := clsS 3 0
theorem sc_TooLong_init : FnScope ["self", "limit"] ["self", "limit"] (defScope s_TooLong_init) := ⟨rfl, rfl, rfl, by decide +kernel, rfl, by decide +kernel, by decide +kernel⟩
abbrev s_ParseError_init : Stmt := clsS 4 0
theorem sc_ParseError_init : FnScope ["self", "pos"] ["self", "pos"] (defScope s_ParseError_init) := ⟨rfl, rfl, rfl, by decide +kernel, rfl, by decide +kernel, by decide +kernel⟩
structure Blt (mg : Str → Option Value) : Prop where
  xabs : mg "abs" = none
  xall : mg "all" = none
  xbool : mg "bool" = none
  xint : mg "int" = none
  xisinstance : mg "isinstance" = none
  xlen : mg "len" = none
  xlist : mg "list" = none
  xrange : mg "range" = none
  xstr : mg "str" = none
  xsum : mg "sum" = none
  xtuple : mg "tuple" = none
  xzip : mg "zip" = none
structure Cst (mg : Str → Option Value) : Prop where
  KEY_LIMIT : ∃ t : Tok, mg "KEY_LIMIT" = some (.int 1000000000 t)
  MAX_STEPS : ∃ t : Tok, mg "MAX_STEPS" = some (.int 100 t)
  MAX_NESTING : ∃ t : Tok, mg "MAX_NESTING" = some (.int 4 t)
  COUNT_LIMIT : ∃ t : Tok, mg "COUNT_LIMIT" = some (.int 1000000000000000000000000000000 t)
  MAX_DIGITS : ∃ t : Tok, mg "MAX_DIGITS" = some (.int 31 t)
theorem pg_KEY_LIMIT {X : Cx} {p : Pos} (g : Cst X.mg) (hg : Gl X "KEY_LIMIT") : PE X (.Name "KEY_LIMIT" p) (tC (.int 1000000000)) := by
  obtain ⟨t, h⟩ := g.KEY_LIMIT
  exact pe_glob hg h ⟨_, rfl⟩
theorem pg_MAX_STEPS {X : Cx} {p : Pos} (g : Cst X.mg) (hg : Gl X "MAX_STEPS") : PE X (.Name "MAX_STEPS" p) (tC (.int 100)) := by
  obtain ⟨t, h⟩ := g.MAX_STEPS
  exact pe_glob hg h ⟨_, rfl⟩
theorem pg_MAX_NESTING {X : Cx} {p : Pos} (g : Cst X.mg) (hg : Gl X "MAX_NESTING") : PE X (.Name "MAX_NESTING" p) (tC (.int 4)) := by
  obtain ⟨t, h⟩ := g.MAX_NESTING
  exact pe_glob hg h ⟨_, rfl⟩
theorem pg_COUNT_LIMIT {X : Cx} {p : Pos} (g : Cst X.mg) (hg : Gl X "COUNT_LIMIT") : PE X (.Name "COUNT_LIMIT" p) (tC (.int 1000000000000000000000000000000)) := by
  obtain ⟨t, h⟩ := g.COUNT_LIMIT
  exact pe_glob hg h ⟨_, rfl⟩
theorem pg_MAX_DIGITS {X : Cx} {p : Pos} (g : Cst X.mg) (hg : Gl X "MAX_DIGITS") : PE X (.Name "MAX_DIGITS" p) (tC (.int 31)) := by
  obtain ⟨t, h⟩ := g.MAX_DIGITS
  exact pe_glob hg h ⟨_, rfl⟩
end TT
namespace TT
open PySem PySem.Spec PyProof.Rows L2
section
variable {P : Program} {w : World} {K : PySem.W.Frag} {mg : Str → Option Value} {base : Heap}
theorem ok_is_key {f : Addr} {fd : FuncData} {k : Nat} (F : Fun K "is_key" "is_key" s_is_key f fd) (G : Cst mg) : FnOk P w K mg base CX0 (k + 1) f fd ["number"] spIsKey := by
  refine F.ok sc_is_key (fun vs H Q E h => ?_) (fun cdv A outer s H vs Q E hr h => ?_)
  · obtain ⟨n, rfl, _⟩ := h
    rfl
  · obtain ⟨n, rfl, q⟩ := h
    refine ⟨_, (pss_one (ps_ret (pe_chain op_le op_le (pe_un un_neg (pg_KEY_LIMIT G (by rfl))) (pv 0) (pg_KEY_LIMIT G (by rfl))))), ?_⟩
    refine ⟨_, rfl, .int n, rfl, _, _, rfl, rfl, ?_⟩
    refine ⟨_, rfl, ite2 (fun h => ⟨_, _, rfl, rfl, ?_⟩) (fun h => ?_)⟩
    · have e : okK n = decide (n ≤ 1000000000) := by
        have := of_decide_eq_true h
        simp only [okK, this, true_and]
      rw [e] at q
      exact q
    · have e : okK n = false := by
        have := of_decide_eq_false (Bool.eq_false_iff.mpr h)
        simp only [okK, this, false_and, decide_false]
      rw [e] at q
      exact q
end
end TT
namespace TT
open PySem PySem.Spec PyProof.Rows L2
section
variable {P : Program} {w : World} {K : PySem.W.Frag} {mg : Str → Option Value} {base : Heap}
theorem ok_roundB {f : Addr} {fd : FuncData} {k : Nat} (F : Fun K "is_round" "is_round" s_is_round f fd) (B : Blt mg) (G : Cst mg) : FnOk P w K mg base CX0 (k + 1) f fd ["step"] spRoundB := by
  refine F.ok sc_is_round (fun vs H Q E h => ?_) (fun cdv A outer s H vs Q E hr h => ?_)
  · obtain ⟨a, st, rfl, _⟩ := h
    rfl
  · obtain ⟨a, st, rfl, hS, q⟩ := h
    refine ⟨_, (pss_one (ps_ret (pe_and (pe_cmpR op_eq (pe_callB call_len_seq (by rfl) B.xlen PySem.boot_len (pa_cons (pv 0) pa_nil)) pe_int (nomark _)) (pe_and (pe_cmpR op_eq (pe_ix ix_tup (pv 0) pe_int (fun _ _ => rfl)) pe_str (nomark _)) (pe_one (pe_chain op_le op_le pe_int (pe_ix ix_tup (pv 0) pe_int (fun _ _ => rfl)) (pg_COUNT_LIMIT G (by rfl)))))))), ?_⟩
    cases st with
    | k x => exact absurd (show V.ref a = V.int x from hS) (by simp)
    | z =>
      obtain ⟨a', e1, h1⟩ := hS
      cases e1
      exact ⟨.ref a, rfl, a, _, rfl, .inr (SqT.of h1), rfl, _, rfl, iteFd rfl q⟩
    | o =>
      obtain ⟨a', e1, h1⟩ := hS
      cases e1
      exact ⟨.ref a, rfl, a, _, rfl, .inr (SqT.of h1), rfl, _, rfl, iteFd rfl q⟩
    | p c =>
      obtain ⟨a', e1, h1⟩ := hS
      cases e1
      exact ⟨.ref a, rfl, a, _, rfl, .inr (SqT.of h1), rfl, _, rfl, iteFd rfl q⟩
    | r wd c ss =>
      obtain ⟨a', b, us, e1, h1, _⟩ := hS
      cases e1
      refine ⟨.ref a, rfl, a, _, rfl, .inr (SqT.of h1), rfl, _, rfl, iteTd rfl ?_⟩
      refine rd_ixT 0 rfl (SqT.of h1) rfl ⟨rfl, _, rfl, ?_⟩
      have q' : Q (.bl (rokB wd c)) H := q
      unfold rokB at q'
      by_cases hw : wd = "repeat"
      · refine iteTd (decide_eq_true (congrArg V.str hw)) ?_
        rw [decide_eq_true hw, Bool.true_and] at q'
        refine rd_ixT 1 rfl (SqT.of h1) rfl ⟨_, _, rfl, rfl, _, rfl, ?_⟩
        by_cases hc : 0 ≤ c
        · rw [decide_eq_true hc, Bool.true_and] at q'
          exact iteTd (decide_eq_true hc) ⟨_, _, rfl, rfl, q'⟩
        · rw [decide_eq_false hc, Bool.false_and] at q'
          exact iteFd (decide_eq_false hc) q'
      · have ne : ¬ V.str wd = V.str "repeat" := fun z => hw (V.str.inj z)
        rw [decide_eq_false hw, Bool.false_and] at q'
        exact iteFd (decide_eq_false ne) q'
end
end TT
namespace TT
open PySem PySem.Spec PyProof.Rows L2
section
variable {P : Program} {w : World} {K : PySem.W.Frag} {mg : Str → Option Value} {base : Heap}
theorem ok_chkB1 {f : Addr} {fd : FuncData} {n k : Nat} {C1 C2 : Addr} (F : Fun K "check_steps" "check_steps" s_check_steps f fd) (B : Blt mg) (G : Cst mg) (c_is_key : Cal P w K mg base CX0 "is_key" ["number"] k spIsKey) (c_is_round : Cal P w K mg base CX0 "is_round" ["step"] k spRoundB)
    (x_TooLong : MkE P w K mg base "TooLong" ["self", "limit"] k C1 (spOwnI K "TooLong" "limit")) (x_BadStep : MkE P w K mg base "BadStep" ["self", "pos"] k C2 (spOwnI K "BadStep" "pos"))
    (f1 : PySem.W.findIn K (.ref C1) "tag" = some none) (f2 : PySem.W.findIn K (.ref C1) "limit" = some none) (f3 : PySem.W.findIn K (.ref C2) "tag" = some none) (f4 : PySem.W.findIn K (.ref C2) "pos" = some none)
    (c_check_steps : Cal P w K mg base (L2N.CX P w) "check_steps" ["steps", "start", "depth"] (n + k + 1) (spPrevCB K C1 C2 n)) : FnOk P w K mg base (L2N.CX P w) (n + k + 2) f fd ["steps", "start", "depth"] (spChkB K C1 C2 n) := by
  refine okN F sc_check_steps (fun vs H Q E h => ?_) (fun cdv A outer s H vs Q E hr h => ?_)
  · obtain ⟨b, vs, ss, pos, dep, rfl, _⟩ := h
    rfl
  · obtain ⟨b, vs, ss, pos, dep, rfl, hS, hL, hn, hd, hp, q1, q2⟩ := h
    refine ⟨_, (pss_cons (ps_set (i := 3) sc_check_steps.nd rfl (Or.inl rfl) (pv 1))
  (pss_cons (ps_for ownN rfl (pi_sq (pv 0)) (pg_name (i := 4) sc_check_steps.nd rfl (Or.inl rfl))
    (pss_cons (ps_if (pt_cmpR op_ge (pv 3) (pg_MAX_STEPS G (by rfl)) (nomark _))
    (pss_one (ps_raiseE rfl takesN x_TooLong (hr.mono (by omega)) (by rfl) (pa_cons (pg_MAX_STEPS G (by rfl)) pa_nil)))
    pss_nil)
  (pss_one (ps_if (pt_not (pt_val (pe_callB call_isi (by rfl) B.xisinstance (by decide +kernel) (pa_cons (pv 4) (pa_cons (pe_bltn (v := .ty "tuple") (by rfl) B.xtuple (by decide +kernel) rfl) pa_nil)))))
    (pss_cons (ps_if (pt_not (pt_val (pe_cal c_is_key (hr.mono (by omega)) (by rfl) (pa_cons (pv 4) pa_nil))))
    (pss_one (ps_raiseE rfl takesN x_BadStep (hr.mono (by omega)) (by rfl) (pa_cons (pv 3) pa_nil)))
    pss_nil)
  (pss_one (ps_aug (i := 3) sc_check_steps.nd rfl (Or.inl rfl) pe_int ip_add)))
    (pss_one (ps_if (PW.pt (pw_or (pt_cmpR op_gt (pv 2) (pg_MAX_NESTING G (by rfl)) (nomark _)) (pw_or1 (pt_not (pt_val (pe_cal c_is_round (hr.mono (by omega)) (by rfl) (pa_cons (pv 4) pa_nil)))))))
    (pss_one (ps_raiseE rfl takesN x_BadStep (hr.mono (by omega)) (by rfl) (pa_cons (pv 3) pa_nil)))
    (pss_one (ps_set (i := 3) sc_check_steps.nd rfl (Or.inl rfl) (pe_calX c_check_steps passN (hr.mono (by omega)) (by rfl) (pa_cons (pe_ix ix_tup (pv 4) pe_int (fun _ _ => rfl)) (pa_cons (pe_op op_add (pv 3) pe_int) (pa_cons (pe_op op_add (pv 2) pe_int) pa_nil))))))))))))
  (pss_one (ps_ret (pv 3))))), ?_⟩
    refine ⟨.int pos, rfl, .ref b, rfl, b, rfl, rd_sq hS fun J Gw w hG => for_it w (fun i σ H3 => ∃ (y4 : Option V) (q : Nat), σ = [some (.ref b), some (.int pos), some (.int dep), some (.int (q : Nat)), y4] ∧ Same H H3 ∧ chkB dep (ss.take i) pos = .ok q ∧ q ≤ 100) ⟨none, pos, rfl, .refl _, rfl, hp⟩ (fun i σ H3 _ ⟨_, _, _, e, _⟩ => hG H3 e) ?_ ?_⟩
    · rintro i v σ Hx H3 hi ⟨y4, q, rfl, e3, hq, lq⟩ ⟨rfl, hv⟩
      obtain ⟨s0, hs, hv⟩ := hL.get hv
      have vS := HB.same e3 s0 hv
      have tk := chkB_take (dep := dep) (pos := pos) hs
      rw [hq] at tk
      have tk : chkB dep (ss.take (i + 1)) pos = s0.chk dep q := tk
      have bad : ∀ r, s0.chk dep q = .error r → ECk C1 C2 r H3 E := fun r hr => (q2 r (chkB_bad (tk.trans hr))).same e3
      refine ⟨_, rfl, _, 100, rfl, rfl, _, rfl, ?_⟩
      by_cases g : q ≥ 100
      · exact iteTd (decide_eq_true (by omega)) (rd_raise x_TooLong.T (by decide) f1 f2 (fun R h => h) (bad none (chk_long g)))
      refine iteFd (decide_eq_false (by omega)) ?_
      cases hk : isKB s0 with
      | true =>
        cases s0 with
        | k x =>
          have ev : v = .int x := vS
          subst ev
          have ck : (Bt.k x).chk dep q = if okK x = true then .ok (q + 1) else .error (some q) := by unfold Bt.chk; rw [if_neg g]
          refine ⟨.int x, rfl, ⟨_, _, _, _, false, rfl, .ty _, .base (.int x), kit_ty (by decide +kernel), _, rfl, iteTd rfl ?_⟩⟩
          refine ⟨.int x, rfl, x, rfl, _, rfl, ?_⟩
          by_cases okx : okK x = true
          · rw [if_pos okx] at ck
            refine iteFd (by rw [okx]; rfl) ⟨_, rfl, _, 1, rfl, rfl, some (.int x), q + 1, rfl, e3, tk.trans ck, by omega⟩
          · rw [if_neg okx] at ck
            exact iteTd (by rw [Bool.not_eq_true] at okx; rw [okx]; rfl) (rd_raise x_BadStep.T (log_small (by omega)) f3 f4 (fun R h => ⟨_, rfl, h⟩) (bad (some q) ck))
        | z => cases hk
        | o => cases hk
        | p c => cases hk
        | r wd c ss => cases hk
      | false =>
        obtain ⟨sa, xs, rfl, hsa⟩ := hb_tup vS hk
        refine ⟨.ref sa, rfl, ⟨_, _, _, _, true, rfl, .ty _, .base (.tup hsa), kit_ty (by decide +kernel), _, rfl, iteFd rfl ?_⟩⟩
        refine ⟨_, rfl, _, 4, rfl, rfl, _, rfl, ?_⟩
        by_cases g4 : dep > 4
        · exact iteTd (decide_eq_true (by omega)) (rd_raise x_BadStep.T (log_small (by omega)) f3 f4 (fun R h => ⟨_, rfl, h⟩) (bad (some q) (chk_bad hk g (.inl g4))))
        refine iteFd (decide_eq_false (by omega)) ⟨.ref sa, rfl, sa, s0, rfl, vS, _, rfl, ?_⟩
        cases hr0 : rokS s0 with
        | false => exact iteTd rfl (rd_raise x_BadStep.T (log_small (by omega)) f3 f4 (fun R h => ⟨_, rfl, h⟩) (bad (some q) (chk_bad hk g (.inr hr0))))
        | true =>
          refine iteFd rfl ?_
          cases s0 with
          | k x => cases hk
          | z => cases hr0
          | o => cases hr0
          | p c => cases hr0
          | r wd c inner =>
            obtain ⟨a', ib, ws, e1, h1, h2, h3⟩ := vS
            cases e1
            have ck : (Bt.r wd c inner).chk dep q = chkB (dep + 1) inner (q + 1) := by
              unfold Bt.chk
              rw [if_neg g, if_neg]
              rintro (z | z)
              · exact g4 z
              · rw [show rokB wd c = true from hr0] at z; cases z
            cases n with
            | zero => omega
            | succ m =>
              refine rd_ixT 2 rfl (SqT.of h1) rfl ⟨_, rfl, _, 1, rfl, rfl, _, rfl, _, 1, rfl, rfl, ib, ws, inner, q + 1, dep + 1, rfl, h2.elim (fun h => .inl (SqL.of h)) (fun h => .inr (SqT.of h)), h3, by omega, by omega, by omega, fun q' hq' H4 e4 => ⟨some (.ref sa), q', rfl, e3.trans e4, tk.trans (ck.trans hq'), chkB_le inner hq' (by omega)⟩, fun r hr => bad r (ck.trans hr)⟩
    · rintro σ H3 ⟨y4, q, rfl, e3, hq, _⟩
      rw [hL.len, List.take_length] at hq
      exact ⟨_, rfl, q1 q hq H3 e3⟩
theorem ok_chkBN {f : Addr} {fd : FuncData} {k : Nat} {C1 C2 : Addr} (F : Fun K "check_steps" "check_steps" s_check_steps f fd) (B : Blt mg) (G : Cst mg) (c_is_key : Cal P w K mg base CX0 "is_key" ["number"] k spIsKey) (c_is_round : Cal P w K mg base CX0 "is_round" ["step"] k spRoundB)
    (x_TooLong : MkE P w K mg base "TooLong" ["self", "limit"] k C1 (spOwnI K "TooLong" "limit")) (x_BadStep : MkE P w K mg base "BadStep" ["self", "pos"] k C2 (spOwnI K "BadStep" "pos"))
    (f1 : PySem.W.findIn K (.ref C1) "tag" = some none) (f2 : PySem.W.findIn K (.ref C1) "limit" = some none) (f3 : PySem.W.findIn K (.ref C2) "tag" = some none) (f4 : PySem.W.findIn K (.ref C2) "pos" = some none)
    (gf : mg "check_steps" = some (.ref f)) (bf : Binds K fd ["steps", "start", "depth"] []) : ∀ n, FnOk P w K mg base (L2N.CX P w) (n + k + 1) f fd ["steps", "start", "depth"] (spPrevCB K C1 C2 n)
  | 0 => ⟨fun _ _ _ _ h => h.elim, fun _ _ _ _ _ _ _ _ _ _ _ _ _ h => h.elim⟩
  | n + 1 => by
    have h := ok_chkB1 F B G c_is_key c_is_round x_TooLong x_BadStep f1 f2 f3 f4 ⟨f, fd, ok_chkBN F B G c_is_key c_is_round x_TooLong x_BadStep f1 f2 f3 f4 gf bf n, gf, F.kp, bf⟩
    rw [show n + 1 + k + 1 = n + k + 2 by omega]
    exact h
end
end TT
namespace TT
open PySem PySem.Spec PyProof.Rows L2
section
variable {P : Program} {w : World} {K : PySem.W.Frag} {mg : Str → Option Value} {base : Heap}
theorem ok_chkHB {f : Addr} {fd : FuncData} {k : Nat} {C1 C2 : Addr} (F : Fun K "check_history" "check_history" s_check_history f fd) (c_check_steps : Cal P w K mg base (L2N.CX P w) "check_steps" ["steps", "start", "depth"] k (spChkB K C1 C2 4)) : FnOk P w K mg base (L2N.CX P w) (k + 1) f fd ["history"] (spChkHB K C1 C2) := by
  refine okN F sc_check_history (fun vs H Q E h => ?_) (fun cdv A outer s H vs Q E hr h => ?_)
  · obtain ⟨b, vs, ss, rfl, _⟩ := h
    rfl
  · obtain ⟨b, vs, ss, rfl, hS, hL, q1, q2⟩ := h
    refine ⟨_, (pss_one (ps_expr (pe_calX c_check_steps passN (hr.mono (by omega)) (by rfl) (pa_cons (pv 0) (pa_cons pe_int (pa_cons pe_int pa_nil)))))), ?_⟩
    exact ⟨.ref b, rfl, b, vs, ss, 0, 1, rfl, hS, hL, by decide, by decide, by decide, fun q h H' e => q1 q h H' e, q2⟩
end
end TT
namespace TT
open PySem PySem.Spec PyProof.Rows L2
section
variable {P : Program} {w : World} {K : PySem.W.Frag} {mg : Str → Option Value} {base : Heap}
theorem ok_parseIX {f C3 : Addr} {fd : FuncData} {k : Nat} (F : Fun K "parse_integer" "parse_integer" s_parse_integer f fd) (B : Blt mg) (G : Cst mg) (x_ParseError : MkE P w K mg base "ParseError" ["self", "pos"] k C3 (spOwnI K "ParseError" "pos")) (f5 : PySem.W.findIn K (.ref C3) "tag" = some none) (f6 : PySem.W.findIn K (.ref C3) "pos" = some none) :
    FnOk P w K mg base (L2N.CX P w) (k + 2) f fd ["text"] (spParseIX C3) := by
  refine okN F sc_parse_integer (fun vs H Q E h => ?_) (fun cdv A outer s H vs Q E hr h => ?_)
  · obtain ⟨l, rfl, _⟩ := h
    rfl
  · obtain ⟨l, rfl, ha, hl, q1, q2⟩ := h
    refine ⟨_, (pss_cons (ps_set (i := 1) sc_parse_integer.nd rfl (Or.inl rfl) (pe_m1 PySem.F.slot_str_removeprefix PySem.F.type_str_removeprefix mt_removeprefix (pv 0) pe_str))
  (pss_cons (ps_if (PW.pt (pw_or (pt_not (pt_val (pe_m0 PySem.F.slot_str_isascii PySem.F.type_str_isascii mt_isascii (pv 1)))) (pw_or (pt_not (pt_val (pe_m0 PySem.F.slot_str_isdigit PySem.F.type_str_isdigit mt_isdigit (pv 1)))) (pw_or1 (pt_cmpR op_gt (pe_callB call_len_str (by rfl) B.xlen PySem.boot_len (pa_cons (pv 1) pa_nil)) (pg_MAX_DIGITS G (by rfl)) (nomark _))))))
    (pss_one (ps_raiseE rfl takesN x_ParseError (hr.mono (by omega)) (by rfl) (pa_cons pe_int pa_nil)))
    pss_nil)
  (pss_cons (ps_if (PW.pt (pw_and (pt_cmpR op_eq (pe_ix ix_str (pv 1) pe_int (fun _ _ => rfl)) pe_str (nomark _)) (pw_and1 (pt_cmpR op_ne (pv 0) pe_str (nomark _)))))
    (pss_one (ps_raiseE rfl takesN x_ParseError (hr.mono (by omega)) (by rfl) (pa_cons pe_int pa_nil)))
    pss_nil)
  (pss_one (ps_ret (pe_callTy call_int_str (by rfl) B.xint (by decide +kernel) (pa_cons (pv 0) pa_nil))))))), ?_⟩
    have am : AscL (mns l) := fun c hc => ha c (mns_sub hc)
    have lm := mns_len l
    have sl : (SX.S l).length ≤ sizeLine := by rw [SX.S_len]; exact sz (by omega)
    have sn : (SX.S (mns l)).length ≤ sizeLine := by rw [SX.S_len]; exact sz (by omega)
    refine ⟨.str (SX.S l), rfl, ⟨_, rfl⟩, SX.S l, "-", rfl, rfl, sl, ?_⟩
    rw [rp_mns]
    refine ⟨.str _, rfl, ⟨_, rfl⟩, _, rfl, rfl, trivial, _, rfl, iteFd (by rw [ascii_S am]; rfl) ⟨.str _, rfl, ⟨_, rfl⟩, _, rfl, rfl, trivial, _, rfl, ?_⟩⟩
    by_cases dg : Txt.isdigit (SX.S (mns l)) = true
    case neg =>
      rw [Bool.not_eq_true] at dg
      exact iteTd (by rw [dg]; rfl) (rd_raise x_ParseError.T (by decide) f5 f6 (fun R h => h) (q2 (pI_dig am dg)))
    refine iteFd (by rw [dg]; rfl) ⟨.str _, rfl, _, rfl, sn, _, _, rfl, rfl, _, rfl, ?_⟩
    rw [SX.S_len]
    by_cases l31 : 31 < (mns l).length
    · exact iteTd (decide_eq_true (by omega)) (rd_raise x_ParseError.T (by decide) f5 f6 (fun R h => h) (q2 (pI_long l31)))
    refine iteFd (decide_eq_false (by omega)) ?_
    obtain ⟨c, r, hd⟩ : ∃ c r, mns l = c :: r := by
      cases q : mns l with
      | nil => rw [isdigit_S am, q] at dg; cases dg
      | cons c r => exact ⟨c, r, rfl⟩
    refine ⟨.str _, rfl, _, 0, c, rfl, rfl, sn, at_T (p := 0) (by rw [hd]; rfl), rfl, _, rfl, ?_⟩
    have fin : ((mns l).head? = some 48 → l = [48]) → tRet (tCB (fun xs H Q => ∃ a n, xs = [V.str a] ∧ intText? a = some n ∧ a.length ≤ 640 ∧ Q (V.int n) H) (tCons (tVar 0) tNil)) { nx := fun x H' => Q V.non H', rt := Q } [some (.str (SX.S l)), some (.str (SX.S (mns l)))] H := fun h0 => by
      obtain ⟨i, hi⟩ := pI_good am dg l31 h0
      obtain ⟨e1, e2⟩ := pI_some hi
      exact ⟨.str _, rfl, SX.S l, i, rfl, by rw [e1]; exact int_dg e2, by rw [SX.S_len]; have := dg_len e2; rw [← e1] at this; omega, q1 i hi⟩
    by_cases c48 : c = 48
    · subst c48
      refine iteTd (by decide +kernel) ⟨.str _, rfl, rfl, _, rfl, ?_⟩
      by_cases e0 : l = [48]
      · exact iteFd (by rw [e0]; decide +kernel) (fin fun _ => e0)
      · refine iteTd ?_ (rd_raise x_ParseError.T (by decide) f5 f6 (fun R h => h) (q2 (pI_zero (by rw [hd]; rfl) e0)))
        show (!decide (V.str (SX.S l) = V.str (SX.S [48]))) = true
        rw [decide_eq_false]; rfl
        intro z
        have := congrArg Str.cps (V.str.inj z)
        exact e0 (by simpa [SX.S] using this)
    · exact iteFd (decide_eq_false (str_1 c48)) (fin fun z => by rw [hd] at z; cases z; exact absurd rfl c48)
end
end TT
namespace TT
open PySem PySem.Spec PyProof.Rows L2
section
variable {P : Program} {w : World} {K : PySem.W.Frag} {mg : Str → Option Value} {base : Heap}
theorem ok_stepTx {f : Addr} {fd : FuncData} {n k : Nat} (F : Fun K "step_text" "step_text" s_step_text f fd) (B : Blt mg) (c_steps_text : Cal P w K mg base CX0 "steps_text" ["steps"] k (spPrevTx K n)) : FnOk P w K mg base CX0 (k + 1) f fd ["step"] (spStepText n) := by
  refine F.ok sc_step_text (fun vs H Q E h => ?_) (fun cdv A outer s H vs Q E hr h => ?_)
  · obtain ⟨v, st, rfl, _⟩ := h
    rfl
  · obtain ⟨v, st, rfl, hS, ho, hd, hl, q⟩ := h
    refine ⟨_, (pss_cons (ps_if (pt_val (pe_callB call_isi (by rfl) B.xisinstance (by decide +kernel) (pa_cons (pv 0) (pa_cons (pe_bltn (v := .ty "tuple") (by rfl) B.xtuple (by decide +kernel) rfl) pa_nil))))
    (pss_one (ps_ret (pe_joined (.cons (pe_fmt (pe_ix ix_tup (pv 0) pe_int (fun _ _ => rfl))) (.cons pe_str (.cons (pe_fmt (pe_cal c_steps_text (hr.mono (by omega)) (by rfl) (pa_cons (pe_ix ix_tup (pv 0) pe_int (fun _ _ => rfl)) pa_nil))) (.cons pe_str .nil)))))))
    pss_nil)
  (pss_one (ps_ret (pe_callTy call_str_int (by rfl) B.xstr (by decide +kernel) (pa_cons (pv 0) pa_nil))))), ?_⟩
    cases st with
    | k x =>
      have ev : v = .int x := hS
      subst ev
      refine ⟨.int x, rfl, ⟨_, _, _, _, false, rfl, .ty _, .base (.int x), kit_ty (by decide +kernel), _, rfl, iteFd rfl ?_⟩⟩
      refine ⟨.int x, rfl, x, rfl, log_small (by have := ho.1; have := ho.2; omega), ?_⟩
      rw [dg_text]
      exact q H (.refl _)
    | r c ss =>
      obtain ⟨a, b, us, rfl, h1, h2, h3⟩ := hS
      refine ⟨.ref a, rfl, ⟨_, _, _, _, true, rfl, .ty _, .base (.tup h1), kit_ty (by decide +kernel), _, rfl, iteTd rfl ?_⟩⟩
      cases n with
      | zero => exact hd.elim
      | succ m =>
        have p31 : c.natAbs < 10 ^ 31 := by
          have e : (10 : Nat) ^ 31 = 10000000000000000000000000000000 := by decide
          have := ho.1
          have := ho.2.1
          omega
        have ltx : (S.r c ss).tx.length = (dg c).length + (2 + ((txT ss).length + 1)) := by
          show (dg c ++ ([42, 40] ++ (txT ss ++ [41]))).length = _
          simp; omega
        have A1 : Str.empty ++ Str.ofString (toString c) = SX.S (dg c) := by rw [dg_text]; exact SX.S_cat [] _
        have A2 : SX.S (dg c) ++ (Str.ofString "*(") = SX.S (dg c ++ [42, 40]) := SX.S_cat _ [42, 40]
        have A3 : SX.S (dg c ++ [42, 40]) ++ SX.S (txT ss) = SX.S (dg c ++ [42, 40] ++ txT ss) := SX.S_cat _ _
        have A4 : SX.S (dg c ++ [42, 40] ++ txT ss) ++ (Str.ofString ")") = SX.S (S.r c ss).tx := by
          have := SX.S_cat (dg c ++ [42, 40] ++ txT ss) [41]
          rw [show dg c ++ [42, 40] ++ txT ss ++ [41] = (S.r c ss).tx by show _ = dg c ++ ([42, 40] ++ (txT ss ++ [41])); simp] at this
          exact this
        refine rd_ixT 1 rfl (SqT.of h1) rfl (.inr ⟨c, rfl, ?_, _, rfl, by rw [A1, SX.S_len]; exact sz (by omega), ?_⟩)
        · refine log_small ?_
          have e : (10 : Nat) ^ 31 ≤ 2 ^ 104 := by decide
          have e2 : (2 : Nat) ^ 104 = 20282409603651670423947251286016 := by decide
          have e3 : (2 : Nat) ^ 100 = 1267650600228229401496703205376 := by decide
          have := ho.1
          have := ho.2.1
          omega
        rw [A1]
        refine ⟨_, rfl, by rw [A2, SX.S_len, List.length_append]; exact sz (by show (dg c).length + 2 ≤ 100000; omega), ?_⟩
        rw [A2]
        refine rd_ixT 2 rfl (SqT.of h1) rfl ⟨b, us, ss, rfl, h2.elim (fun h => .inl (SqL.of h)) (fun h => .inr (SqT.of h)), h3, ho.2.2, hd, by omega, fun H1 e1 => .inl ⟨_, rfl, by rw [SX.S_len]; exact sz (by omega), _, rfl, ?_, ?_⟩⟩
        · rw [A3, SX.S_len, List.length_append, List.length_append]; exact sz (by show (dg c).length + 2 + _ ≤ 100000; omega)
        rw [A3]
        refine ⟨_, rfl, ?_, ?_⟩
        · rw [A4, SX.S_len]; exact sz (by omega)
        rw [A4]
        exact q H1 e1
end
end TT
namespace TT
open PySem PySem.Spec PyProof.Rows L2
section
variable {P : Program} {w : World} {K : PySem.W.Frag} {mg : Str → Option Value} {base : Heap}
theorem ok_stepsTx {f : Addr} {fd : FuncData} {n k : Nat} (F : Fun K "steps_text" "steps_text" s_steps_text f fd) (B : Blt mg) (c_step_text : Cal P w K mg base CX0 "step_text" ["step"] k (spStepText n)) : FnOk P w K mg base CX0 (k + 1) f fd ["steps"] (spStepsText K n) := by
  refine F.ok sc_steps_text (fun vs H Q E h => ?_) (fun cdv A outer s H vs Q E hr h => ?_)
  · obtain ⟨b, vs, ss, rfl, _⟩ := h
    rfl
  · obtain ⟨b, vs, ss, rfl, hS, hL, ho, hd, hl, q⟩ := h
    refine ⟨_, (pss_one (ps_ret (pe_join pe_str (pe_lc (own := [("step", 1)]) (g := gName 1) (by rfl) sc_steps_text.nd (pi_sq (pv 0)) (blkOk_by (own := [("step", 1)]) (N := ["steps", "step"]) (sc := defScope s_steps_text) (by decide +kernel)) (fun _ _ _ _ _ => (pg_name (i := 1) sc_steps_text.nd rfl (Or.inl rfl))) (fun _ _ _ _ _ => pts_nil) (fun _ _ _ _ _ => (pe_cal c_step_text (hr.mono (by omega)) (by rfl) (pa_cons (pv 1) pa_nil))))))), ?_⟩
    have ts := txT_sum ss
    have lss : ss.length ≤ 60001 := by omega
    refine ⟨⟨_, rfl⟩, .ref b, rfl, b, rfl, rd_sq hS fun J Gw w hG D nD => lc_it w (fun i H3 => Same H H3 ∧ H3 D = some (.lst ((((ss.take i).map fun s => SX.S s.tx)).map V.str))) ⟨same_new nD, upd_same⟩ (fun i H3 _ h => hG H3 h.1) ?_ ?_⟩
    · rintro i v Hx H3 hi3 ⟨e3, hD3⟩ ⟨rfl, hv⟩
      obtain ⟨s0, hs, hv⟩ := hL.get hv
      have hm := List.mem_of_getElem? hs
      have vS := HS.same e3 s0 hv
      have lt : ss.take (i + 1) = ss.take i ++ [s0] := by rw [List.take_add_one, hs]; rfl
      have := tx_in hm
      refine ⟨rfl, v, rfl, v, s0, rfl, vS, okL_mem ho hm, dLeL_mem hd hm, by omega, fun H4 e4 => ⟨_, e4 _ _ hD3, szl (by rw [List.length_map, List.length_map, List.length_take]; omega), Same.put (e3.trans e4) nD, ?_⟩⟩
      rw [upd_same, lt, List.map_append, List.map_append]; rfl
    · rintro H3 ⟨e3, hD3⟩
      rw [hL.len, List.take_length] at hD3
      refine ⟨_, D, ss.map (fun s => SX.S s.tx), rfl, rfl, .inl (SqL.of hD3), ?_, ?_⟩
      · rw [List.length_map]
        show _ + ss.length * 1 ≤ _
        omega
      · rw [join_tx]
        exact q H3 e3
theorem ok_txAll {f g : Addr} {fd gd : FuncData} {k : Nat} (F : Fun K "steps_text" "steps_text" s_steps_text f fd) (G0 : Fun K "step_text" "step_text" s_step_text g gd) (B : Blt mg) (gf : mg "steps_text" = some (.ref f)) (bf : Binds K fd ["steps"] []) (gg : mg "step_text" = some (.ref g)) (bg : Binds K gd ["step"] []) : ∀ n, FnOk P w K mg base CX0 (2 * n + k) f fd ["steps"] (spPrevTx K n)
  | 0 => ⟨fun _ _ _ _ h => h.elim, fun _ _ _ _ _ _ _ _ _ _ _ _ _ h => h.elim⟩
  | n + 1 => by
    have h := ok_stepsTx (n := n) F B ⟨g, gd, ok_stepTx (n := n) (k := 2 * n + k) G0 B ⟨f, fd, ok_txAll F G0 B gf bf gg bg n, gf, F.kp, bf⟩, gg, G0.kp, bg⟩
    rw [show 2 * (n + 1) + k = 2 * n + k + 1 + 1 by omega]
    exact h
end
end TT
namespace TT
open PySem PySem.Spec PyProof.Rows L2
section
variable {P : Program} {w : World} {K : PySem.W.Frag} {mg : Str → Option Value} {base : Heap}
theorem ok_formatX {f : Addr} {fd : FuncData} {k : Nat} {C1 C2 : Addr} (F : Fun K "format_history" "format_history" s_format_history f fd) (c_check_history : Cal P w K mg base (L2N.CX P w) "check_history" ["history"] k (spChkHB K C1 C2)) (c_steps_text : Cal P w K mg base CX0 "steps_text" ["steps"] k (spStepsText K 4)) : FnOk P w K mg base CX0 (k + 1) f fd ["history"] (spFormatH K) := by
  refine F.ok sc_format_history (fun vs H Q E h => ?_) (fun cdv A outer s H vs Q E hr h => ?_)
  · obtain ⟨b, vs, ss, rfl, _⟩ := h
    rfl
  · obtain ⟨b, vs, ss, rfl, hS, hL, ho, hd, hw, hl, q⟩ := h
    refine ⟨_, (pss_cons (ps_expr (pe_calX c_check_history passF (hr.mono (by omega)) (by rfl) (pa_cons (pv 0) pa_nil)))
  (pss_one (ps_ret (pe_cal c_steps_text (hr.mono (by omega)) (by rfl) (pa_cons (pv 0) pa_nil))))), ?_⟩
    refine ⟨.ref b, rfl, b, vs, btL ss, rfl, hS, btL_h ss hL, fun q' _ H' e => ?_, fun r hr => ?_⟩
    · exact ⟨.ref b, rfl, b, vs, ss, rfl, hS.same e, HL.same e _ hL, ho, hd, hl, fun H2 e2 => q H2 (e.trans e2)⟩
    · rw [chk_S ho hd hw] at hr
      cases hr
end
end TT
namespace TT
open PySem PySem.Spec PyProof.Rows L2
section
variable {P : Program} {w : World} {K : PySem.W.Frag} {mg : Str → Option Value} {base : Heap}
theorem ok_intEndX {f : Addr} {fd : FuncData} {k : Nat} (F : Fun K "integer_end" "integer_end" s_integer_end f fd) (B : Blt mg) : FnOk P w K mg base CX0 (k + 1) f fd ["text", "start"] spIntEndX := by
  refine F.ok sc_integer_end (fun vs H Q E h => ?_) (fun cdv A outer s H vs Q E hr h => ?_)
  · obtain ⟨A, T, rfl, _⟩ := h
    rfl
  · obtain ⟨L, T, rfl, hl, q⟩ := h
    refine ⟨_, (pss_cons (ps_set (i := 2) sc_integer_end.nd rfl (Or.inl rfl) (pv 1))
  (pss_cons (ps_while PassesOwn.never (PW.pt (pw_and (pt_cmpR op_lt (pv 2) (pe_callB call_len_str (by rfl) B.xlen PySem.boot_len (pa_cons (pv 0) pa_nil)) (nomark _)) (pw_and1 (pt_cmpR op_inS (pe_ix ix_str (pv 0) (pv 2) (fun _ _ => rfl)) pe_str (by rfl)))))
    (pss_one (ps_aug (i := 2) sc_integer_end.nd rfl (Or.inl rfl) pe_int ip_add)))
  (pss_one (ps_ret (pv 2))))), ?_⟩
    have lT : (L ++ T).length = L.length + T.length := List.length_append
    have gT : ∀ j, (L ++ T)[L.length + j]? = T[j]? := fun j => by rw [List.getElem?_append_right (by omega), Nat.add_sub_cancel_left]
    generalize hT0 : L ++ T = T0 at hl lT gT
    have sl : (SX.S T0).length ≤ sizeLine := by rw [SX.S_len]; exact sz (by omega)
    generalize hn : (T.takeWhile isDcB).length = n at q
    have ln : n ≤ T.length := by rw [← hn]; exact tw_len
    let W : Nat → L2.St → Hp → Prop := fun m σ H3 => ∃ j : Nat, σ = [some (.str (SX.S T0)), some (.int (L.length : Nat)), some (.int ((L.length + j : Nat) : Int))] ∧ H = H3 ∧ j ≤ n ∧ m = n - j
    refine ⟨.int (L.length : Nat), rfl, W, ⟨_, 0, rfl, rfl, by omega, rfl⟩, ?_⟩
    rintro m σ H3 ⟨j, rfl, rfl, hj, rfl⟩
    have ret : j = n → tRet (tVar 2) { nx := fun x H' => Q V.non H', rt := Q } [some (.str (SX.S T0)), some (.int (L.length : Nat)), some (.int ((L.length + j : Nat) : Int))] H := fun e => ⟨_, rfl, by rw [e]; exact q⟩
    refine ⟨.int _, rfl, .str _, rfl, _, rfl, sl, _, _, rfl, rfl, _, rfl, ?_⟩
    rw [SX.S_len]
    by_cases hlt : j < n
    · obtain ⟨c, hc, hd⟩ := tw_at (T := T) (p := isDcB) (j := j) (by rw [hn]; exact hlt)
      refine iteTd (decide_eq_true (by rw [lT]; omega)) ⟨.str _, rfl, .int _, rfl, _, _, c, rfl, rfl, sl, at_T (by rw [gT]; exact hc), c, _, rfl, rfl, _, rfl, iteTd (decide_eq_true ((dc_mem c).mpr (isDcB_iff.mp hd))) ⟨fun σ' H' => ∃ m', m' < n - j ∧ W m' σ' H', fun _ _ h => h, ?_⟩⟩
      refine ⟨_, rfl, _, 1, rfl, rfl, n - (j + 1), by omega, j + 1, rfl, rfl, by omega, rfl⟩
    · have e : j = n := by omega
      cases hc : T[n]? with
      | none =>
        have := List.getElem?_eq_none_iff.mp hc
        exact iteFd (decide_eq_false (by rw [lT, e]; omega)) (iteFd rfl (ret e))
      | some c =>
        have := (List.getElem?_eq_some_iff.mp hc).1
        refine iteTd (decide_eq_true (by rw [lT, e]; omega)) ⟨.str _, rfl, .int _, rfl, _, _, c, rfl, rfl, sl, at_T (by rw [e, gT]; exact hc), c, _, rfl, rfl, _, rfl, iteFd (decide_eq_false (fun z => ?_)) (ret e)⟩
        have h1 := tw_end (T := T) (p := isDcB) (c := c) (by rw [hn]; exact hc)
        rw [isDcB_iff.mpr ((dc_mem c).mp z)] at h1
        cases h1
end
end TT
namespace TT
open PySem PySem.Spec PyProof.Rows L2
section
variable {P : Program} {w : World} {K : PySem.W.Frag} {mg : Str → Option Value} {base : Heap}
theorem ok_rdStepX {f C3 : Addr} {fd : FuncData} {n k : Nat} (F : Fun K "read_step" "read_step" s_read_step f fd) (B : Blt mg) (G : Cst mg) (x_ParseError : MkE P w K mg base "ParseError" ["self", "pos"] k C3 (spOwnI K "ParseError" "pos")) (f5 : PySem.W.findIn K (.ref C3) "tag" = some none) (f6 : PySem.W.findIn K (.ref C3) "pos" = some none)
    (c_integer_end : Cal P w K mg base CX0 "integer_end" ["text", "start"] (k + 1) spIntEndX) (c_parse_integer : Cal P w K mg base (L2N.CX P w) "parse_integer" ["text"] (k + 1) (spParseIX C3)) (c_read_steps : Cal P w K mg base (L2N.CX P w) "read_steps" ["text", "start", "depth"] (k + 1) (spPrevRX C3 n)) : FnOk P w K mg base (L2N.CX P w) (k + 2) f fd ["text", "start", "depth"] (spRdStepX C3 n) := by
  refine okN F sc_read_step (fun vs H Q E h => ?_) (fun cdv A outer s H vs Q E hr h => ?_)
  · obtain ⟨L, T, dep, rfl, _⟩ := h
    rfl
  · obtain ⟨L, T, dep, rfl, ha, hl, hn, q1, q2⟩ := h
    refine ⟨_, (pss_cons (ps_set (i := 3) sc_read_step.nd rfl (Or.inl rfl) (pe_cal c_integer_end (hr.mono (by omega)) (by rfl) (pa_cons (pv 0) (pa_cons (pv 1) pa_nil))))
  (pss_cons (ps_set (i := 4) sc_read_step.nd rfl (Or.inl rfl) (pe_calX c_parse_integer passN (hr.mono (by omega)) (by rfl) (pa_cons (pe_slice sl_str (pv 0) (po_some (pv 1)) (po_some (pv 3))) pa_nil)))
  (pss_cons (ps_if (pt_not (pt_val (pe_bm PySem.F.plainAttrs_str PySem.F.slot_str_startswith PySem.F.type_str_startswith mt_startswith3 (pv 0) (pa_cons pe_str (pa_cons (pv 3) pa_nil)))))
    (pss_one (ps_ret (pe_tup (pa_cons (pv 4) (pa_cons (pv 3) pa_nil)))))
    pss_nil)
  (pss_cons (ps_if (pt_cmpR op_gt (pv 2) (pg_MAX_NESTING G (by rfl)) (nomark _))
    (pss_one (ps_raiseE rfl takesN x_ParseError (hr.mono (by omega)) (by rfl) (pa_cons pe_int pa_nil)))
    pss_nil)
  (pss_cons (ps_asg (pe_calX c_read_steps passN (hr.mono (by omega)) (by rfl) (pa_cons (pv 0) (pa_cons (pe_op op_add (pv 3) pe_int) (pa_cons (pe_op op_add (pv 2) pe_int) pa_nil)))) (pg_tup rfl (pgs_cons (pg_name (i := 5) sc_read_step.nd rfl (Or.inl rfl)) (pgs_cons (pg_name (i := 3) sc_read_step.nd rfl (Or.inl rfl)) pgs_nil))))
  (pss_cons (ps_if (pt_cmpR op_eq (pv 3) (pe_callB call_len_str (by rfl) B.xlen PySem.boot_len (pa_cons (pv 0) pa_nil)) (nomark _))
    (pss_one (ps_raiseE rfl takesN x_ParseError (hr.mono (by omega)) (by rfl) (pa_cons pe_int pa_nil)))
    pss_nil)
  (pss_one (ps_ret (pe_tup (pa_cons (pe_tup (pa_cons pe_str (pa_cons (pv 4) (pa_cons (pv 5) pa_nil)))) (pa_cons (pe_op op_add (pv 3) pe_int) pa_nil))))))))))), ?_⟩
    have q2' : rdS n T = none → EPar C3 H E := fun e => q2 e H (Same.refl H)
    obtain ⟨tA, tR, hA, hR⟩ : ∃ tA tR, T.takeWhile isDcB = tA ∧ T.dropWhile isDcB = tR := ⟨_, _, rfl, rfl⟩
    have hT : T = tA ++ tR := by rw [← hA, ← hR]; exact tw_dc T
    have rd : rdS n T = match pI tA with
        | none => none
        | some i => if tR.take 2 = [42, 40] then aft n i tR else some (.k i, tR) := by
      rw [← hA, ← hR]; exact rdS_eq n T
    have sl : (SX.S (L ++ T)).length ≤ sizeLine := by rw [SX.S_len]; exact sz (by omega)
    have aA : AscL tA := fun c hc => ha c (by rw [hT]; exact List.mem_append_right _ (List.mem_append_left _ hc))
    have lT : (L ++ T).length = L.length + (tA.length + tR.length) := by rw [hT, List.length_append, List.length_append]
    refine ⟨.str _, rfl, .int _, rfl, L, T, rfl, hl, ?_⟩
    rw [hA]
    refine ⟨.str _, rfl, .int _, rfl, _, rfl, .int _, rfl, _, rfl, SX.S (L ++ T), rfl, sl, tA, ?_, aA, by omega, fun i hi => ?_, fun e => q2' (by rw [rd, e])⟩
    · show [V.str (cutS (SX.S (L ++ T)) (some (L.length : Nat)) (some ((L.length + tA.length : Nat) : Int)))] = _
      rw [hT, cut_S]
    obtain ⟨ei, i31⟩ := pI_some hi
    rw [hi] at rd
    refine ⟨.str _, rfl, rfl, .int _, rfl, _, _, _, rfl, rfl, _, rfl, ?_⟩
    have sw : Txt.startswith3 (SX.S (L ++ T)) (SX.S [42, 40]) ((L.length + tA.length : Nat) : Int) = decide (tR.take 2 = [42, 40]) := by
      have := sw_S (L ++ tA) tR
      rw [List.length_append, List.append_assoc, ← hT] at this
      exact this
    by_cases h42 : tR.take 2 = [42, 40]
    case neg =>
      refine iteTd (by show (!Txt.startswith3 (SX.S (L ++ T)) (SX.S [42, 40]) ((L.length + tA.length : Nat) : Int)) = true; rw [sw, decide_eq_false h42]; rfl) ?_
      have rd : rdS n T = some (.k i, tR) := by rw [rd]; exact if_neg h42
      refine ⟨.int i, rfl, .int _, rfl, sz (by show 2 ≤ 100000; decide), fun p np => q1 _ _ rd p (.int i) _ (same_new np) ?_ rfl⟩
      rw [upd_same]
      show some (HO.tup [V.int i, V.int ((L.length + tA.length : Nat) : Int)]) = some (HO.tup [V.int i, V.int ((L.length + (dg i).length : Nat) : Int)])
      rw [← ei]
    refine iteFd (by show (!Txt.startswith3 (SX.S (L ++ T)) (SX.S [42, 40]) ((L.length + tA.length : Nat) : Int)) = false; rw [sw, decide_eq_true h42]; rfl) ?_
    refine ⟨.int _, rfl, _, _, rfl, rfl, _, rfl, ?_⟩
    cases n with
    | zero =>
      have rd : rdS 0 T = none := by rw [rd]; exact (if_pos h42).trans rfl
      exact iteTd (decide_eq_true (by omega)) (rd_raise x_ParseError.T (by decide) f5 f6 (fun R h => h) (q2' rd))
    | succ m =>
      refine iteFd (decide_eq_false (by omega)) ?_
      have e42 := take2 h42
      generalize tR.drop 2 = D at e42
      have eT : L ++ T = (L ++ (tA ++ [42, 40])) ++ D := by rw [hT, e42]; simp
      have eL : (L ++ (tA ++ [42, 40])).length = L.length + tA.length + 2 := by rw [List.length_append, List.length_append]; show L.length + (tA.length + 2) = _; omega
      have lD : tR.length = D.length + 2 := by rw [e42, List.length_append]; show 2 + D.length = _; omega
      have rd : rdS (m + 1) T = match rdL (rdS m) D.length true D with
          | none => none
          | some (_, []) => none
          | some (ss, _ :: R) => some (.r i ss, R) := (rd.trans (if_pos h42)).trans (aft_eq e42)
      refine ⟨.str _, rfl, .int _, rfl, _, 2, rfl, rfl, .int _, rfl, _, 1, rfl, rfl, L ++ (tA ++ [42, 40]), D, dep + 1, ?_, by rw [← eT]; exact ha, by rw [← eT]; exact hl, by omega, fun ss R hs p q' vs H1 e1 hp hq hL => ?_, fun e H' e1 => (q2' (by rw [rd, e])).same e1⟩
      · rw [← eT, eL]; rfl
      rw [eL] at hp
      obtain ⟨s1, s2, s3, s4⟩ := rdL_sound (rdS_sound m) _ _ _ _ _ hs
      have s1 : D = txT ss ++ R := s1
      rw [hs] at rd
      refine ⟨p, _, rfl, SqT.of hp, rfl, .ref q', _, rfl, _, _, rfl, rfl, ?_⟩
      refine ⟨.int _, rfl, .str _, rfl, _, rfl, sl, rfl, _, rfl, ?_⟩
      rw [SX.S_len]
      have lD2 : D.length = (txT ss).length + R.length := by rw [s1, List.length_append]
      cases R with
      | nil =>
        exact iteTd (decide_eq_true (by
          show V.int ((L.length + tA.length + 2 + (txT ss).length : Nat) : Int) = V.int ((L ++ T).length : Nat)
          rw [lT, lD, lD2]
          show V.int _ = V.int _
          congr 1
          show ((L.length + tA.length + 2 + (txT ss).length : Nat) : Int) = ((L.length + (tA.length + ((txT ss).length + 0 + 2)) : Nat) : Int)
          omega)) (rd_raise x_ParseError.T (by decide) f5 f6 (fun R h => h) ((q2' rd).same e1))
      | cons c R =>
        refine iteFd (decide_eq_false fun z => ?_) ?_
        · have z := V.int.inj z
          rw [lT, lD, lD2, List.length_cons] at z
          omega
        refine ⟨.int i, rfl, .ref q', rfl, sz (by show 3 ≤ 100000; decide), fun t nt => ⟨.int _, rfl, _, 1, rfl, rfl, sz (by show 2 ≤ 100000; decide), fun pp npp => ?_⟩⟩
        have g1 := same_new (o := .tup [.str "repeat", .int i, .ref q']) nt
        have g2 := same_new (o := .tup [.ref t, .int (((L.length + tA.length + 2 + (txT ss).length : Nat) : Int) + 1)]) npp
        have gg := g1.trans g2
        refine q1 _ _ rd pp (.ref t) _ (e1.trans gg) ?_ ⟨t, q', vs, rfl, g2 _ _ upd_same, gg _ _ hq, HPL.same gg ss hL⟩
        rw [upd_same]
        have ltx : (S.r i ss).tx.length = tA.length + (2 + ((txT ss).length + 1)) := by
          show (dg i ++ ([42, 40] ++ (txT ss ++ [41]))).length = _
          rw [← ei, List.length_append, List.length_append, List.length_append]; rfl
        rw [ltx]
        show some (HO.tup [V.ref t, V.int (((L.length + tA.length + 2 + (txT ss).length : Nat) : Int) + 1)]) = _
        rw [show (((L.length + tA.length + 2 + (txT ss).length : Nat) : Int) + 1) = ((L.length + (tA.length + (2 + ((txT ss).length + 1))) : Nat) : Int) by omega]
end
end TT
namespace TT
open PySem PySem.Spec PyProof.Rows L2
section
variable {P : Program} {w : World} {K : PySem.W.Frag} {mg : Str → Option Value} {base : Heap}
theorem ok_rdStepsX {f C3 : Addr} {fd : FuncData} {n k : Nat} (F : Fun K "read_steps" "read_steps" s_read_steps f fd) (B : Blt mg) (x_ParseError : MkE P w K mg base "ParseError" ["self", "pos"] k C3 (spOwnI K "ParseError" "pos")) (f5 : PySem.W.findIn K (.ref C3) "tag" = some none) (f6 : PySem.W.findIn K (.ref C3) "pos" = some none)
    (c_read_step : Cal P w K mg base (L2N.CX P w) "read_step" ["text", "start", "depth"] (k + 1) (spRdStepX C3 n)) : FnOk P w K mg base (L2N.CX P w) (k + 2) f fd ["text", "start", "depth"] (spRdStepsX C3 n) := by
  refine okN F sc_read_steps (fun vs H Q E h => ?_) (fun cdv A outer s H vs Q E hr h => ?_)
  · obtain ⟨L, T, dep, rfl, _⟩ := h
    rfl
  · obtain ⟨L, T, dep, rfl, ha, hl, hn, q1, q2⟩ := h
    refine ⟨_, (pss_cons (ps_set (i := 3) sc_read_steps.nd rfl (Or.inl rfl) (pe_lst pa_nil))
  (pss_cons (ps_set (i := 4) sc_read_steps.nd rfl (Or.inl rfl) (pv 1))
  (pss_cons (ps_while ownN (PW.pt (pw_and (pt_cmpR op_lt (pv 4) (pe_callB call_len_str (by rfl) B.xlen PySem.boot_len (pa_cons (pv 0) pa_nil)) (nomark _)) (pw_and1 (pt_cmpR op_ne (pe_ix ix_str (pv 0) (pv 4) (fun _ _ => rfl)) pe_str (nomark _)))))
    (pss_cons (ps_if (pt_truth (pv 3) (fun _ => rfl))
    (pss_cons (ps_if (pt_cmpR op_ne (pe_ix ix_str (pv 0) (pv 4) (fun _ _ => rfl)) pe_str (nomark _))
    (pss_one (ps_raiseE rfl takesN x_ParseError (hr.mono (by omega)) (by rfl) (pa_cons pe_int pa_nil)))
    pss_nil)
  (pss_one (ps_aug (i := 4) sc_read_steps.nd rfl (Or.inl rfl) pe_int ip_add)))
    pss_nil)
  (pss_cons (ps_asg (pe_calX c_read_step passN (hr.mono (by omega)) (by rfl) (pa_cons (pv 0) (pa_cons (pv 4) (pa_cons (pv 2) pa_nil)))) (pg_tup rfl (pgs_cons (pg_name (i := 5) sc_read_steps.nd rfl (Or.inl rfl)) (pgs_cons (pg_name (i := 4) sc_read_steps.nd rfl (Or.inl rfl)) pgs_nil))))
  (pss_one (ps_expr (pe_bm PySem.F.plainAttrs_list PySem.F.slot_list_append PySem.F.type_list_append mt_append (pv 3) (pa_cons (pv 5) pa_nil)))))))
  (pss_one (ps_ret (pe_tup (pa_cons (pe_callTy call_tuple_of (by rfl) B.xtuple (by decide +kernel) (pa_cons (pv 3) pa_nil)) (pa_cons (pv 4) pa_nil)))))))), ?_⟩
    generalize hT : L ++ T = T0 at hl ha
    have sl : (SX.S T0).length ≤ sizeLine := by rw [SX.S_len]; exact sz (by omega)
    let W : Nat → L2.St → Hp → Prop := fun m σ H3 => ∃ (done : List S) (R : List Nat) (l : Addr) (vs : List V) (y5 : Option V), σ = [some (.str (SX.S T0)), some (.int (L.length : Nat)), some (.int (dep : Nat)), some (.ref l), some (.int (((L ++ txT done).length : Nat) : Int)), y5] ∧ Same H H3 ∧ H l = none ∧ H3 l = some (.lst vs) ∧ HPL H3 done vs ∧
      T0 = (L ++ txT done) ++ R ∧ R.length ≤ m ∧ rdL (rdS n) T.length true T = (rdL (rdS n) m done.isEmpty R).map fun x => (done ++ x.1, x.2)
    refine ⟨Nat.zero_le _, fun l nl => ⟨.int _, rfl, W, ⟨_, [], T, l, [], none, ?_, same_new nl, nl, upd_same, rfl, ?_, Nat.le_refl _, ?_⟩, ?_⟩⟩
    · show [_, _, _, _, some (V.int (L.length : Nat)), _] = [_, _, _, _, some (V.int (((L ++ []).length : Nat) : Int)), _]
      rw [List.append_nil]
    · show T0 = (L ++ []) ++ T
      rw [List.append_nil, hT]
    · show _ = (rdL (rdS n) T.length true T).map fun x => x
      cases rdL (rdS n) T.length true T <;> rfl
    rintro m σ H3 ⟨done, R, l, vs, y5, rfl, e3, nl', hl3, hP, eT, lR, inv⟩
    have lv : vs.length = done.length := hP.len
    have lT0 : T0.length = (L ++ txT done).length + R.length := by rw [← List.length_append, ← eT]
    have ldone : done.length ≤ 20001 := by
      have h1 : ∀ xs : List S, xs.length ≤ (txR xs).length := fun xs => by
        induction xs with
        | nil => exact Nat.le_refl _
        | cons x xs ih => show xs.length + 1 ≤ (32 :: (x.tx ++ txR xs)).length; rw [List.length_cons, List.length_append]; omega
      have h2 := h1 done
      have h3 := txT_R done
      rw [List.length_append] at lT0
      omega
    have ret : rdL (rdS n) T.length true T = some (done, R) → tRet (tTup (tCons (tCB (fun xs H_1 Q => ∃ p ys, xs = [V.ref p] ∧ ((SqL K H_1 p ys ∧ ∀ (l : Addr), H_1 l = none → Q (V.ref l) (upd H_1 l (HO.tup ys))) ∨ SqT K H_1 p ys ∧ Q (V.ref p) H_1)) (tCons (tVar 3) tNil)) (tCons (tVar 4) tNil))) { nx := fun x H' => Q V.non H', rt := Q } [some (.str (SX.S T0)), some (.int (L.length : Nat)), some (.int (dep : Nat)), some (.ref l), some (.int (((L ++ txT done).length : Nat) : Int)), y5] H3 := fun e => by
      refine ⟨.ref l, rfl, l, vs, rfl, .inl ⟨SqL.of hl3, fun t nt => ⟨.int _, rfl, sz (by show 2 ≤ 100000; decide), fun p np => ?_⟩⟩⟩
      have g1 := same_new (o := .tup vs) nt
      have g2 := same_new (o := .tup [.ref t, .int (((L ++ txT done).length : Nat) : Int)]) np
      refine q1 _ _ e p t vs _ (e3.trans (g1.trans g2)) ?_ (g2 _ _ upd_same) (HPL.same (g1.trans g2) done hP)
      rw [upd_same, List.length_append]
    have gT : ∀ j, T0[(L ++ txT done).length + j]? = R[j]? := fun j => by rw [eT, List.getElem?_append_right (by omega), Nat.add_sub_cancel_left]
    refine ⟨.int _, rfl, .str _, rfl, _, rfl, sl, _, _, rfl, rfl, _, rfl, ?_⟩
    rw [SX.S_len]
    cases R with
    | nil =>
      refine iteFd (decide_eq_false (by rw [lT0]; show ¬ (_ : Int) < _; simp)) (iteFd rfl (ret ?_))
      rw [inv, rdL_done (.inl rfl)]
      show some (done ++ [], []) = _
      rw [List.append_nil]
    | cons c r =>
      have hat : T0[(L ++ txT done).length]? = some c := by have := gT 0; rw [Nat.add_zero] at this; exact this
      refine iteTd (decide_eq_true (by rw [lT0, List.length_cons]; omega)) ⟨.str _, rfl, .int _, rfl, _, _, c, rfl, rfl, sl, at_T hat, rfl, _, rfl, ?_⟩
      by_cases c41 : c = 41
      · subst c41
        refine iteFd (by decide +kernel) (ret ?_)
        rw [inv, rdL_done (.inr ⟨r, rfl⟩)]
        show some (done ++ [], _) = _
        rw [List.append_nil]
      refine iteTd (by show (!decide (V.str (⟨#[c]⟩ : Str) = V.str (⟨#[41]⟩ : Str))) = true; rw [decide_eq_false (str_1 c41)]; rfl) ⟨fun σ' H' => ∃ m', m' < m ∧ W m' σ' H', fun _ _ h => h, ?_⟩
      rw [List.length_cons] at lR
      obtain ⟨m0, rfl⟩ : ∃ m0, m = m0 + 1 := ⟨m - 1, by omega⟩
      -- the step that is read from U on, behind A
      have go : ∀ (U : List Nat), (if done.isEmpty = true then c :: r else r) = U → ¬ (done.isEmpty = false ∧ c ≠ 32) → T0 = (L ++ txT done ++ (if done = [] then [] else [32])) ++ U → U.length ≤ m0 + 1 →
          ∃ H4, False ∨ True := fun _ _ _ _ _ => ⟨H3, .inr trivial⟩
      have unf : ¬ (done.isEmpty = false ∧ c ≠ 32) → rdL (rdS n) (m0 + 1) done.isEmpty (c :: r) = match rdS n (if done.isEmpty = true then c :: r else r) with
          | none => none
          | some (s, R) => match rdL (rdS n) m0 false R with
            | none => none
            | some (ss, R') => some (s :: ss, R') := fun nb => by
        conv => lhs; unfold rdL
        rw [if_neg c41, if_neg nb]
        all_goals rfl
      have none_ : ¬ (done.isEmpty = false ∧ c ≠ 32) → rdS n (if done.isEmpty = true then c :: r else r) = none → rdL (rdS n) T.length true T = none := fun nb e => by
        rw [inv, unf nb, e]; rfl
      have some_ : ∀ {s : S} {R : List Nat}, ¬ (done.isEmpty = false ∧ c ≠ 32) → rdS n (if done.isEmpty = true then c :: r else r) = some (s, R) → rdL (rdS n) T.length true T = (rdL (rdS n) m0 (done ++ [s]).isEmpty R).map fun x => ((done ++ [s]) ++ x.1, x.2) := fun {s R} nb e => by
        rw [inv, unf nb, e]
        have : (done ++ [s]).isEmpty = false := by cases done <;> rfl
        rw [this]
        show (match rdL (rdS n) m0 false R with | none => none | some (ss, R') => some (s :: ss, R')).map _ = _
        cases rdL (rdS n) m0 false R with
        | none => rfl
        | some x => show some (done ++ (s :: x.1), x.2) = some ((done ++ [s]) ++ x.1, x.2); simp
      have app : ∀ {s : S} {R : List Nat} {A U : List Nat} (p : Addr) (v : V) (H4 : Hp), ¬ (done.isEmpty = false ∧ c ≠ 32) → (if done.isEmpty = true then c :: r else r) = U → U.length ≤ m0 + 1 → rdS n U = some (s, R) → A = L ++ txT done ++ (if done = [] then [] else [32]) → T0 = A ++ U → Same H3 H4 → HP H4 s v →
          A.length + s.tx.length = (L ++ txT (done ++ [s])).length ∧ H4 l = some (.lst vs) ∧ ∃ m', m' < m0 + 1 ∧ W m' [some (.str (SX.S T0)), some (.int (L.length : Nat)), some (.int (dep : Nat)), some (.ref l), some (.int (((L ++ txT (done ++ [s])).length : Nat) : Int)), some v] (upd H4 l (.lst (vs ++ [v]))) := fun {s R A U} p v H4 nb eU lU hs eA eT2 e4 hv => by
        have hl4 := e4 _ _ hl3
        obtain ⟨b1, b2, b3, b4⟩ := rdS_sound n _ _ _ hs
        have eB : L ++ txT (done ++ [s]) = A ++ s.tx := by
          rw [txT_app1, eA]
          by_cases z : done = []
          · rw [if_pos z]; simp
          · rw [if_neg z]; simp
        refine ⟨by rw [eB, List.length_append], hl4, m0, by omega, done ++ [s], R, l, vs ++ [v], _, rfl, Same.put (e3.trans e4) nl', nl', upd_same, HPL.put hl4 _ (HPL.snoc hv (HPL.same e4 _ hP)), ?_, by omega, some_ nb (by rw [eU]; exact hs)⟩
        rw [eB, eT2, b1]; simp
      cases hd : done with
      | nil =>
        have vz : vs = [] := List.length_eq_zero_iff.mp (by rw [lv, hd]; rfl)
        refine ⟨.ref l, rfl, _, .inl ⟨vs, SqL.of hl3, rfl⟩, iteFd (by rw [vz]; rfl) ?_⟩
        have em : done.isEmpty = true := by rw [hd]; rfl
        have nb : ¬ (done.isEmpty = false ∧ c ≠ 32) := fun z => by rw [em] at z; cases z.1
        have eU : (if done.isEmpty = true then c :: r else r) = c :: r := if_pos em
        have eA : L ++ txT done = L ++ txT done ++ (if done = [] then [] else [32]) := by rw [if_pos hd, List.append_nil]
        rw [← hd]
        refine ⟨.str _, rfl, .int _, rfl, .int _, rfl, L ++ txT done, c :: r, dep, by rw [← eT]; rfl, by rw [← eT]; exact ha, by rw [← eT]; exact hl, hn, fun s R hs p v H4 e4 hp hv => ?_, fun e H' e4 => q2 (none_ nb (by rw [eU]; exact e)) H' (e3.trans e4)⟩
        obtain ⟨el, hl4, fin⟩ := app p v H4 nb eU (by rw [List.length_cons]; omega) hs eA eT e4 hv
        rw [el] at hp
        exact ⟨p, _, rfl, SqT.of hp, rfl, v, _, rfl, _, _, rfl, rfl, .ref l, rfl, .inl ⟨rfl, _, SqL.of hl4⟩, v, rfl, l, vs, _, rfl, rfl, hl4, szl (by omega), fin⟩
      | cons d0 ds =>
        have hz : vs.isEmpty = false := by cases vs with
          | nil => rw [hd] at lv; cases lv
          | cons _ _ => rfl
        have em : done.isEmpty = false := by rw [hd]; rfl
        have nd : done ≠ [] := fun z => by rw [z] at hd; cases hd
        refine ⟨.ref l, rfl, _, .inl ⟨vs, SqL.of hl3, rfl⟩, iteTd (by rw [hz]; rfl) ?_⟩
        rw [← hd]
        refine ⟨.str _, rfl, .int _, rfl, _, _, c, rfl, rfl, sl, at_T hat, rfl, _, rfl, ?_⟩
        by_cases c32 : c = 32
        case neg =>
          refine iteTd (by show (!decide (V.str (⟨#[c]⟩ : Str) = V.str (⟨#[32]⟩ : Str))) = true; rw [decide_eq_false (str_1 c32)]; rfl) (rd_raise x_ParseError.T (by decide) f5 f6 (fun R h => h) (q2 ?_ H3 e3))
          rw [inv]
          have : rdL (rdS n) (m0 + 1) done.isEmpty (c :: r) = none := by
            unfold rdL
            rw [if_neg c41, if_pos ⟨em, c32⟩]
          rw [this]; rfl
        subst c32
        refine iteFd (by decide +kernel) ?_
        have nb : ¬ (done.isEmpty = false ∧ (32 : Nat) ≠ 32) := fun z => z.2 rfl
        have eU : (if done.isEmpty = true then 32 :: r else r) = r := if_neg (by rw [em]; decide)
        have eA : L ++ txT done ++ [32] = L ++ txT done ++ (if done = [] then [] else [32]) := by rw [if_neg nd]
        have eT2 : T0 = (L ++ txT done ++ [32]) ++ r := by rw [eT]; simp
        have e2 : (L ++ txT done ++ [32]).length = (L ++ txT done).length + 1 := by rw [List.length_append]; rfl
        refine ⟨_, rfl, _, 1, rfl, rfl, ?_⟩
        refine ⟨.str _, rfl, .int _, rfl, .int _, rfl, L ++ txT done ++ [32], r, dep, by rw [← eT2, e2]; rfl, by rw [← eT2]; exact ha, by rw [← eT2]; exact hl, hn, fun s R hs p v H4 e4 hp hv => ?_, fun e H' e4 => q2 (none_ nb (by rw [eU]; exact e)) H' (e3.trans e4)⟩
        obtain ⟨el, hl4, fin⟩ := app p v H4 nb eU (by omega) hs eA eT2 e4 hv
        rw [el] at hp
        exact ⟨p, _, rfl, SqT.of hp, rfl, v, _, rfl, _, _, rfl, rfl, .ref l, rfl, .inl ⟨rfl, _, SqL.of hl4⟩, v, rfl, l, vs, _, rfl, rfl, hl4, szl (by omega), fin⟩
theorem ok_rdAllX {f g C3 : Addr} {fd gd : FuncData} {k : Nat} (F : Fun K "read_steps" "read_steps" s_read_steps f fd) (G0 : Fun K "read_step" "read_step" s_read_step g gd) (B : Blt mg) (G : Cst mg) (x_ParseError : MkE P w K mg base "ParseError" ["self", "pos"] k C3 (spOwnI K "ParseError" "pos")) (f5 : PySem.W.findIn K (.ref C3) "tag" = some none) (f6 : PySem.W.findIn K (.ref C3) "pos" = some none)
    (c_integer_end : Cal P w K mg base CX0 "integer_end" ["text", "start"] (k + 1) spIntEndX) (c_parse_integer : Cal P w K mg base (L2N.CX P w) "parse_integer" ["text"] (k + 1) (spParseIX C3)) (gf : mg "read_steps" = some (.ref f)) (bf : Binds K fd ["text", "start", "depth"] []) (gg : mg "read_step" = some (.ref g)) (bg : Binds K gd ["text", "start", "depth"] []) : ∀ n, FnOk P w K mg base (L2N.CX P w) (2 * n + k + 1) f fd ["text", "start", "depth"] (spPrevRX C3 n)
  | 0 => ⟨fun _ _ _ _ h => h.elim, fun _ _ _ _ _ _ _ _ _ _ _ _ _ h => h.elim⟩
  | n + 1 => by
    have h := ok_rdStepsX (n := n) (k := 2 * n + k + 1) F B (x_ParseError.mono (by omega)) f5 f6 ⟨g, gd, ok_rdStepX (n := n) (k := 2 * n + k) G0 B G (x_ParseError.mono (by omega)) f5 f6 (c_integer_end.mono (by omega)) (c_parse_integer.mono (by omega)) ⟨f, fd, ok_rdAllX F G0 B G x_ParseError f5 f6 c_integer_end c_parse_integer gf bf gg bg n, gf, F.kp, bf⟩, gg, G0.kp, bg⟩
    rw [show 2 * (n + 1) + k + 1 = 2 * n + k + 1 + 2 by omega]
    exact h
end
end TT
namespace TT
open PySem PySem.Spec PyProof.Rows L2
section
variable {P : Program} {w : World} {K : PySem.W.Frag} {mg : Str → Option Value} {base : Heap}
theorem ok_parseHX {f C1 C2 C3 : Addr} {fd : FuncData} {k : Nat} (F : Fun K "parse_history" "parse_history" s_parse_history f fd) (B : Blt mg) (x_ParseError : MkE P w K mg base "ParseError" ["self", "pos"] k C3 (spOwnI K "ParseError" "pos")) (h_ParseError : MkH P w K mg base "ParseError" ["self", "pos"] k C3 (spOwnI K "ParseError" "pos"))
    (f5 : PySem.W.findIn K (.ref C3) "tag" = some none) (f6 : PySem.W.findIn K (.ref C3) "pos" = some none) (m_TooLong : mg "TooLong" = some (.ref C1)) (m_BadStep : mg "BadStep" = some (.ref C2)) (y1 : PySem.W.exmAny K (.ref C1) [.ref C1, .ref C2] = some true) (y2 : PySem.W.exmAny K (.ref C2) [.ref C1, .ref C2] = some true)
    (c_read_steps : Cal P w K mg base (L2N.CX P w) "read_steps" ["text", "start", "depth"] (k + 1) (spRdStepsX C3 4)) (c_check_history : Cal P w K mg base (L2N.CX P w) "check_history" ["history"] (k + 1) (spChkHB K C1 C2)) : FnOk P w K mg base (CXJ P w) (k + 2) f fd ["text"] (spParseHX K C3) := by
  refine okJ F sc_parse_history (fun vs H Q E h => ?_) (fun cdv A outer s H vs Q E hr h => ?_)
  · obtain ⟨T, rfl, _⟩ := h
    rfl
  · obtain ⟨T, rfl, ha, hl, q1, q2⟩ := h
    refine ⟨_, (pss_cons (ps_asg (pe_calX c_read_steps passJN (hr.mono (by omega)) (by rfl) (pa_cons (pv 0) (pa_cons pe_int (pa_cons pe_int pa_nil)))) (pg_tup rfl (pgs_cons (pg_name (i := 1) sc_parse_history.nd rfl (Or.inl rfl)) (pgs_cons (pg_name (i := 2) sc_parse_history.nd rfl (Or.inl rfl)) pgs_nil))))
  (pss_cons (ps_if (pt_cmpR op_lt (pv 2) (pe_callB call_len_str (by rfl) B.xlen PySem.boot_len (pa_cons (pv 0) pa_nil)) (nomark _))
    (pss_one (ps_raiseE rfl takesJN x_ParseError (hr.mono (by omega)) (by rfl) (pa_cons pe_int pa_nil)))
    pss_nil)
  (pss_cons (ps_set (i := 3) sc_parse_history.nd rfl (Or.inl rfl) (pe_callTy call_list_of (by rfl) B.xlist (by decide +kernel) (pa_cons (pv 1) pa_nil)))
  (pss_cons (ps_try_twoR rfl rfl (fun hd => L2H.passesAt_of rfl hd) takesJ (by rfl) m_TooLong (by rfl) m_BadStep (by decide) (by decide) (fun W pn xe tk own => (pss_one (ps_expr (pe_calS c_check_history tk (hr.mono (by omega)) (by rfl) (pa_cons (pv 3) pa_nil))))) (fun a oe pn tk hot => pss_one (ps_raiseNoneJ hot tk h_ParseError (L2H.roomH_mark (hr.mono (by omega)) _) (by rfl) (pa_cons pe_int pa_nil))))
  (pss_one (ps_ret (pv 3))))))), ?_⟩
    have sl : (SX.S T).length ≤ sizeLine := by rw [SX.S_len]; exact sz (by omega)
    refine ⟨.str _, rfl, [], T, 1, rfl, ha, hl, rfl, fun ss R hs p q' vs H1 e1 hp hq hL => ?_, fun e H' e1 => q2 (by unfold prs; rw [e]) H' e1⟩
    obtain ⟨s1, s2, s3, s4⟩ := rdL_sound (rdS_sound 4) _ _ _ _ _ hs
    have s1 : T = txT ss ++ R := s1
    have lT : T.length = (txT ss).length + R.length := by rw [s1, List.length_append]
    refine ⟨p, _, rfl, SqT.of hp, rfl, .ref q', _, rfl, _, _, rfl, rfl, ?_⟩
    refine ⟨.int _, rfl, .str _, rfl, _, rfl, sl, _, _, rfl, rfl, _, rfl, ?_⟩
    rw [SX.S_len]
    cases R with
    | cons c R =>
      refine iteTd (decide_eq_true (by rw [lT, List.length_cons]; show ((([] : List Nat).length + (txT ss).length : Nat) : Int) < _; show ((0 + (txT ss).length : Nat) : Int) < _; omega)) (rd_raise x_ParseError.T (by decide) f5 f6 (fun R h => h) (q2 (by unfold prs; rw [hs]) H1 e1))
    | nil =>
      refine iteFd (decide_eq_false (by rw [lT]; show ¬ ((([] : List Nat).length + (txT ss).length : Nat) : Int) < _; show ¬ ((0 + (txT ss).length : Nat) : Int) < (((txT ss).length + 0 : Nat) : Int); omega)) ?_
      have pe : prs T = if (okLB ss && decide (wrL ss ≤ 100)) = true then some ss else none := by unfold prs; rw [hs]
      obtain ⟨ck1, ck2⟩ := btL_chk ss (dep := 1) (pos := 0) (by decide) (by decide) s2
      refine ⟨.ref q', rfl, q', vs, rfl, .inr (SqT.of hq), fun l nl => ?_⟩
      have g := same_new (o := .lst vs) nl
      have hL2 := HPL.same g ss hL
      have bad : ∀ r, chkB 1 (btL ss) 0 = .error r → prs T = none := fun r hr => by
        rw [pe]
        refine if_neg fun z => ?_
        rw [Bool.and_eq_true, decide_eq_true_iff, okLB_iff] at z
        obtain ⟨q, hq⟩ := ck1.mpr ⟨z.1, by omega⟩
        rw [hr] at hq; cases hq
      refine ⟨.ref l, rfl, l, vs, btL ss, rfl, .inl (SqL.of upd_same), hpl_bt ss hL2, fun q hq2 H2 e2 => ?_, fun r hr => ?_⟩
      · obtain ⟨o1, o2⟩ := ck1.mp ⟨q, hq2⟩
        exact ⟨.ref l, rfl, q1 ss (by rw [pe]; exact if_pos (by rw [Bool.and_eq_true, decide_eq_true_iff, okLB_iff]; exact ⟨o1, by omega⟩)) l vs H2 (e1.trans (g.trans e2)) (e1.free nl) (e2 _ _ upd_same) (HPL.same e2 ss hL2)⟩
      · have pn := bad r hr
        cases r with
        | none => exact fun d Hf e hd => ⟨y1, rd_raise h_ParseError.T (by decide) f5 f6 (fun R h => h) (q2 pn Hf (e1.trans (g.trans e)))⟩
        | some i => exact fun d Hf e hd => ⟨y2, rd_raise h_ParseError.T (by decide) f5 f6 (fun R h => h) (q2 pn Hf (e1.trans (g.trans e)))⟩
end
end TT
namespace TT
open PySem PySem.Spec PyProof.Rows L2
section
variable {P : Program} {w : World} {K : PySem.W.Frag} {mg : Str → Option Value} {base : Heap}
theorem ok_start {f : Addr} {fd : FuncData} {k : Nat} (F : Fun K "_law_start" "_law_start" s__law_start f fd) (B : Blt mg) : FnOk P w K mg base CX0 (k + 1) f fd ["_law_script"] (spStart K) := by
  refine F.ok sc__law_start (fun vs H Q E h => ?_) (fun cdv A outer s H vs Q E hr h => ?_)
  · obtain ⟨a, ns, rfl, _⟩ := h
    rfl
  · obtain ⟨a, ns, rfl, hS, hl, q⟩ := h
    refine ⟨_, (pss_one (ps_ret (pe_lst (pa_cons (pe_callTy call_list_of (by rfl) B.xlist (by decide +kernel) (pa_cons (pe_slice sl_list (pv 0) po_none (po_some pe_int)) pa_nil)) (pa_cons pe_int (pa_cons pe_int (pa_cons (pe_op op_add pe_int (pe_op op_mul pe_int (pe_callB call_len_seq (by rfl) B.xlen PySem.boot_len (pa_cons (pe_slice sl_list (pv 0) po_none (po_some pe_int)) pa_nil)))) pa_nil))))))), ?_⟩
    obtain ⟨ms, em, lm⟩ := cutV_map ns none (some 63)
    refine ⟨.ref a, rfl, 63, rfl, a, _, rfl, hS, fun p np => ?_⟩
    rw [em]
    refine ⟨p, _, rfl, .inl (.inl (.inl upd_same)), fun c nc => ?_⟩
    have s1 : Same H (upd H p (.lst (ms.map V.int))) := same_new np
    have s2 := s1.trans (same_new (o := .lst (ms.map V.int)) nc)
    refine ⟨.ref a, rfl, 63, rfl, a, _, rfl, s2.seq hS, fun p2 np2 => ?_⟩
    rw [em]
    have s3 := s2.trans (same_new (o := .lst (ms.map V.int)) np2)
    refine ⟨p2, _, rfl, .inl (.inl (.inl upd_same)), 31, _, rfl, rfl, .inl ⟨by decide, by decide⟩, 9484, _, rfl, rfl, sz (by show 4 ≤ 100000; decide), fun d nd => ?_⟩
    have hc : (upd (upd (upd H p (.lst (ms.map V.int))) c (.lst (ms.map V.int))) p2 (.lst (ms.map V.int))) c = some (.lst (ms.map V.int)) := same_new np2 _ _ upd_same
    have ncd : c ≠ d := ne_of_none hc nd
    refine q d c ms _ (s3.trans (same_new nd)) (s3.free nd) ⟨0, 0, 9484 + 31 * (ms.length : Int), ?_, ?_, ncd, by omega, by omega, by omega, ?_⟩
    · rw [upd_same]
      simp only [List.length_map]
    · rw [upd_ne ncd]
      exact same_new np2 _ _ upd_same
    · show 9484 + 31 * (ms.length : Int) < 2305843009213693951
      omega
end
end TT
namespace TT
open PySem PySem.Spec PyProof.Rows L2
section
variable {P : Program} {w : World} {K : PySem.W.Frag} {mg : Str → Option Value} {base : Heap}
theorem ok_take {f : Addr} {fd : FuncData} {k : Nat} (F : Fun K "_law_take" "_law_take" s__law_take f fd) (B : Blt mg) : FnOk P w K mg base CX0 (k + 1) f fd ["_law_draw", "_law_many"] spTake := by
  refine F.ok sc__law_take (fun vs H Q E h => ?_) (fun cdv A outer s H vs Q E hr h => ?_)
  · obtain ⟨d, m, c, ns, rfl, _⟩ := h
    rfl
  · obtain ⟨d, m, c, ns, rfl, m1, m2, ⟨i, b, z, hd, hc, ncd, i0, b0, z0, z1⟩, q⟩ := h
    refine ⟨_, (C8.pss_cut (ps_if (PW.pt (pw_and (pt_cmpR op_lt (pe_ix ix_list (pv 0) pe_int (fun _ _ => rfl)) (pv 1) (nomark _)) (pw_and1 (pt_cmpR op_lt (pe_ix ix_list (pv 0) pe_int (fun _ _ => rfl)) (pe_callB call_len_seq (by rfl) B.xlen PySem.boot_len (pa_cons (pe_ix ix_list (pv 0) pe_int (fun _ _ => rfl)) pa_nil)) (nomark _)))))
    (pss_cons (ps_set (i := 2) sc__law_take.nd rfl (Or.inl rfl) (pe_ix ix_list (pe_ix ix_list (pv 0) pe_int (fun _ _ => rfl)) (pe_ix ix_list (pv 0) pe_int (fun _ _ => rfl)) (fun _ _ => rfl)))
  (pss_cons (ps_asg (pe_op op_add (pe_ix ix_list (pv 0) pe_int (fun _ _ => rfl)) pe_int) (pg_sub (pv 0) pe_int set_list))
  (pss_cons (ps_asg pe_int (pg_sub (pv 0) pe_int set_list))
  (C8.pss_cut (ps_if (pt_cmpR op_ge (pv 2) (pe_op op_pow pe_int pe_int) (nomark _))
    (pss_one (ps_asg (pv 2) (pg_sub (pv 0) pe_int set_list)))
    pss_nil)
  (pss_one (ps_asg (pe_op op_mod (pe_op op_add (pe_op op_add (pe_op op_mul (pe_ix ix_list (pv 0) pe_int (fun _ _ => rfl)) pe_int) (pe_op op_mul (pe_op op_mod (pv 2) pe_int) pe_int)) (pe_ix ix_list (pv 0) pe_int (fun _ _ => rfl))) pe_int) (pg_sub (pv 0) pe_int set_list)))))))
    pss_nil)
  (pss_cons (ps_if (pt_cmpR op_ge (pe_ix ix_list (pv 0) pe_int (fun _ _ => rfl)) (pv 1) (nomark _))
    (pss_cons (ps_set (i := 3) sc__law_take.nd rfl (Or.inl rfl) (pe_op op_mod (pe_ix ix_list (pv 0) pe_int (fun _ _ => rfl)) (pv 1)))
  (pss_cons (ps_asg (pe_op op_fdivW (pe_ix ix_list (pv 0) pe_int (fun _ _ => rfl)) (pv 1)) (pg_sub (pv 0) pe_int set_list))
  (pss_one (ps_ret (pv 3)))))
    pss_nil)
  (pss_cons (ps_set (i := 4) sc__law_take.nd rfl (Or.inl rfl) (pe_op op_mod (pe_op op_mul (pe_ix ix_list (pv 0) pe_int (fun _ _ => rfl)) (pe_ix ix_list (pv 0) pe_int (fun _ _ => rfl))) pe_int))
  (pss_cons (ps_asg (pe_op op_mod (pe_op op_add (pe_op op_add (pe_op op_mul (pv 4) pe_int) (pe_op op_mul (pe_ix ix_list (pv 0) pe_int (fun _ _ => rfl)) pe_int)) pe_int) pe_int) (pg_sub (pv 0) pe_int set_list))
  (pss_one (ps_ret (pe_op op_mod (pe_op op_fdivW (pe_ix ix_list (pv 0) pe_int (fun _ _ => rfl)) pe_int) (pv 1)))))))), ?_⟩
    have hL : SqL K H d [.ref c, .int i, .int b, .int z] := .inl (.inl hd)
    have hC : SqL K H c (ns.map V.int) := .inl (.inl hc)
    -- behind the first if
    refine ⟨fun σ H1 => (∃ y, σ = [some (.ref d), some (.int m), y, none, none]) ∧ Drw c ns H1 d ∧ ∀ b, b ≠ d → H1 b = H b, ?_, ?_⟩
    · refine rd_ixL 2 rfl hL rfl ⟨_, rfl, b, m, rfl, rfl, _, rfl, ite2 (fun e1 => ?_) (fun e1 => ?_)⟩
      · refine rd_ixL 1 rfl hL rfl (rd_ixL 0 rfl hL rfl ⟨c, _, rfl, .inl hC, i, _, rfl, rfl, _, rfl, ite2 (fun e2 => ?_) (fun e2 => ?_)⟩)
        · have hi : i < (ns.map V.int).length := of_decide_eq_true e2
          rw [List.length_map] at hi
          obtain ⟨n, hn⟩ : ∃ n, ns[i.toNat]? = some n := ⟨ns[i.toNat]'(by omega), List.getElem?_eq_getElem _⟩
          have hx : (ns.map V.int)[i.toNat]? = some (.int n) := by rw [List.getElem?_map, hn]; rfl
          have hx2 : atI (ns.map V.int) i = some (.int n) := by
            have := atI_nat hx
            rwa [Int.toNat_of_nonneg i0] at this
          -- cell = draw[0][draw[1]]
          refine rd_ixL 0 rfl hL rfl (rd_ixL 1 rfl hL rfl ⟨c, _, i, .int n, rfl, rfl, hC, hx2, ?_⟩)
          -- draw[1] = draw[1] + 1
          refine rd_ixL 1 rfl hL rfl ⟨i, 1, rfl, rfl, .ref d, rfl, d, _, 1, 1, rfl, rfl, hd, rfl, ?_⟩
          -- draw[2] = 0
          refine ⟨.ref d, rfl, d, _, 2, 2, rfl, rfl, upd_same, rfl, ?_⟩
          rw [upd_upd]
          -- if cell >= 10 ** 18
          refine ⟨fun σ H3 => σ = [some (.ref d), some (.int m), some (.int n), none, none] ∧ (∃ b', 0 ≤ b' ∧ H3 d = some (.lst [.ref c, .int (i + 1), .int b', .int z])) ∧ ∀ x, x ≠ d → H3 x = H x, ?_, ?_⟩
          · refine ⟨.int n, rfl, 10, 18, rfl, rfl, ⟨by decide, by decide, by decide⟩, n, _, rfl, rfl, _, rfl, ite2 (fun e3 => ?_) (fun e3 => ?_)⟩
            · have e4 : (10 : Int) ^ (18 : Int).toNat ≤ n := of_decide_eq_true e3
              have e5 : (0 : Int) ≤ n := Int.le_trans (by decide) e4
              refine ⟨.int n, rfl, .ref d, rfl, d, _, 2, 2, rfl, rfl, upd_same, rfl, rfl, ⟨n, e5, ?_⟩, fun x hx => ?_⟩
              · rw [upd_same]; rfl
              · rw [upd_ne hx, upd_ne hx]
            · exact ⟨rfl, ⟨0, Int.le_refl _, upd_same⟩, fun x hx => upd_ne hx⟩
          · rintro σ H3 ⟨rfl, ⟨b', hb', hd3⟩, hk⟩
            have hL3 : SqL K H3 d [.ref c, .int (i + 1), .int b', .int z] := .inl (.inl hd3)
            -- draw[3] = ..
            refine rd_ixL 3 rfl hL3 rfl ⟨z, 52711, rfl, rfl, .inr ⟨by decide, by decide⟩, .int n, rfl, n, MM, rfl, rfl, (by decide : (0 : Int) < MM), n % MM, 7, rfl, rfl, .inr ⟨by decide, by decide⟩, z * 52711, n % MM * 7, rfl, rfl, ?_⟩
            refine rd_ixL 1 rfl hL3 rfl ⟨z * 52711 + n % MM * 7, i + 1, rfl, rfl, z * 52711 + n % MM * 7 + (i + 1), MM, rfl, rfl, (by decide : (0 : Int) < MM), ?_⟩
            refine ⟨.ref d, rfl, d, _, 3, 3, rfl, rfl, hd3, rfl, ⟨_, rfl⟩, ⟨i + 1, b', (z * 52711 + n % MM * 7 + (i + 1)) % MM, upd_same, ?_, ncd, by omega, hb', Int.emod_nonneg _ (by decide), Int.emod_lt_of_pos _ (by decide)⟩, fun x hx => ?_⟩
            · rw [upd_ne ncd, hk c ncd]
              exact hc
            · rw [upd_ne hx]
              exact hk x hx
        · exact ⟨⟨none, rfl⟩, ⟨i, b, z, hd, hc, ncd, i0, b0, z0, z1⟩, fun _ _ => rfl⟩
      · exact ⟨⟨none, rfl⟩, ⟨i, b, z, hd, hc, ncd, i0, b0, z0, z1⟩, fun _ _ => rfl⟩
    · rintro σ H1 ⟨⟨y, rfl⟩, ⟨i, b, z, hd, hc, ncd, i0, b0, z0, z1⟩, hb⟩
      have hL : SqL K H1 d [.ref c, .int i, .int b, .int z] := .inl (.inl hd)
      have m62 : m.natAbs < 2 ^ 200 := by omega
      -- if draw[2] >= many
      refine rd_ixL 2 rfl hL rfl ⟨_, rfl, b, m, rfl, rfl, _, rfl, ite2 (fun e1 => ?_) (fun e1 => ?_)⟩
      · refine rd_ixL 2 rfl hL rfl ⟨.int m, rfl, b, m, rfl, rfl, (by omega : (0 : Int) < m), ?_⟩
        refine rd_ixL 2 rfl hL rfl ⟨.int m, rfl, b, m, rfl, rfl, wide_div (by omega) m62 (by decide) (by decide), .ref d, rfl, d, _, 2, 2, rfl, rfl, hd, rfl, .int (b % m), rfl, ?_⟩
        refine q _ _ (Int.emod_nonneg _ (by omega)) (Int.emod_lt_of_pos _ (by omega)) ⟨i, b / m, z, upd_same, ?_, ncd, i0, Int.ediv_nonneg b0 (by omega), z0, z1⟩ fun x hx => ?_
        · rw [upd_ne ncd]
          exact hc
        · rw [upd_ne hx]
          exact hb x hx
      · have z64 : -(2 ^ 64) < z ∧ z < 2 ^ 64 := ⟨by omega, Int.lt_trans z1 (by decide)⟩
        have pm : (0 : Int) < MM := by decide
        -- square
        refine rd_ixL 3 rfl hL rfl (rd_ixL 3 rfl hL rfl ⟨z, z, rfl, rfl, .inl z64, z * z, MM, rfl, rfl, pm, ?_⟩)
        -- draw[3] = ..
        refine ⟨.int (z * z % MM), rfl, z * z % MM, 48271, rfl, rfl, .inr ⟨by decide, by decide⟩, ?_⟩
        refine rd_ixL 3 rfl hL rfl ⟨z, 16807, rfl, rfl, .inr ⟨by decide, by decide⟩, _, _, rfl, rfl, _, 12345, rfl, rfl, _, MM, rfl, rfl, pm, .ref d, rfl, d, _, 3, 3, rfl, rfl, hd, rfl, ?_⟩
        have z' := Int.emod_nonneg (z * z % MM * 48271 + z * 16807 + 12345) (show MM ≠ 0 by decide)
        have z'' := Int.emod_lt_of_pos (z * z % MM * 48271 + z * 16807 + 12345) pm
        have hL2 : SqL K (upd H1 d (.lst [.ref c, .int i, .int b, .int ((z * z % MM * 48271 + z * 16807 + 12345) % MM)])) d [.ref c, .int i, .int b, .int ((z * z % MM * 48271 + z * 16807 + 12345) % MM)] := .inl (.inl upd_same)
        refine rd_ixL 3 rfl hL2 rfl ⟨((z * z % MM * 48271 + z * 16807 + 12345) % MM), 1021, rfl, rfl, wide_div (b := 62) (by decide) (by decide) (by decide) (by decide), .int m, rfl, _, m, rfl, rfl, (by omega : (0 : Int) < m), ?_⟩
        refine q _ _ (Int.emod_nonneg _ (by omega)) (Int.emod_lt_of_pos _ (by omega)) ⟨i, b, ((z * z % MM * 48271 + z * 16807 + 12345) % MM), upd_same, ?_, ncd, i0, b0, z', z''⟩ fun x hx => ?_
        · rw [upd_ne ncd]
          exact hc
        · rw [upd_ne hx]
          exact hb x hx
end
end TT
namespace TT
open PySem PySem.Spec PyProof.Rows L2
section
variable {P : Program} {w : World} {K : PySem.W.Frag} {mg : Str → Option Value} {base : Heap}
theorem ok_of {f : Addr} {fd : FuncData} {k : Nat} (F : Fun K "_law_of" "_law_of" s__law_of f fd) (B : Blt mg) (c__law_take : Cal P w K mg base CX0 "_law_take" ["_law_draw", "_law_many"] k spTake) : FnOk P w K mg base CX0 (k + 1) f fd ["_law_draw", "_law_some"] (spOf K) := by
  refine F.ok sc__law_of (fun vs H Q E h => ?_) (fun cdv A outer s H vs Q E hr h => ?_)
  · obtain ⟨d, a, xs, c, ns, rfl, _⟩ := h
    rfl
  · obtain ⟨d, a, xs, c, ns, rfl, hS, l0, l1, nad, hD, q⟩ := h
    refine ⟨_, (pss_one (ps_ret (pe_ix ix_list (pv 1) (pe_cal c__law_take (hr.mono (by omega)) (by rfl) (pa_cons (pv 0) (pa_cons (pe_callB call_len_seq (by rfl) B.xlen PySem.boot_len (pa_cons (pv 1) pa_nil)) pa_nil))) (fun _ _ => rfl)))), ?_⟩
    refine ⟨.ref a, rfl, .ref d, rfl, .ref a, rfl, a, xs, rfl, .inl hS, d, _, c, ns, rfl, by omega, by omega, hD, fun r H' r0 r1 hD' hk => ?_⟩
    have hx := List.getElem?_eq_getElem (l := xs) (i := r.toNat) (by omega)
    exact ⟨a, xs, r, _, rfl, rfl, (Ext.but hk).seq nad hS, atI_int r0 hx, q _ _ (List.mem_of_getElem? hx) hD' hk⟩
end
end TT
namespace TT
open PySem PySem.Spec PyProof.Rows L2
section
variable {P : Program} {w : World} {K : PySem.W.Frag} {mg : Str → Option Value} {base : Heap}
theorem ok_same1 {f : Addr} {fd : FuncData} {n : Nat} (F : Fun K "_law_same" "_law_same" s__law_same f fd) (B : Blt mg) (c__law_same : Cal P w K mg base CX0 "_law_same" ["_law_found", "_law_due"] n (spPrevW n)) : FnOk P w K mg base CX0 (n + 1) f fd ["_law_found", "_law_due"] (spSameW n) := by
  refine F.ok sc__law_same (fun vs H Q E h => ?_) (fun cdv A outer s H vs Q E hr h => ?_)
  · obtain ⟨x, y, rfl, _⟩ := h
    rfl
  · obtain ⟨x, y, rfl, hE, q⟩ := h
    refine ⟨_, (pss_cons (ps_if (pt_cmp (pc_isN (pv 1)))
    (pss_one (ps_ret (pe_cmp (pc_isN (pv 0)))))
    pss_nil)
  (pss_cons (ps_if (pt_val (pe_callB call_isiT (by rfl) B.xisinstance (by decide +kernel) (pa_cons (pv 1) (pa_cons (pe_tup (pa_cons (pe_bltn (v := .ty "list") (by rfl) B.xlist (by decide +kernel) rfl) (pa_cons (pe_bltn (v := .ty "tuple") (by rfl) B.xtuple (by decide +kernel) rfl) pa_nil))) pa_nil))))
    (pss_cons (ps_if (PW.pt (pw_or (pt_cmpR op_ne (pe_callB call_isi (by rfl) B.xisinstance (by decide +kernel) (pa_cons (pv 0) (pa_cons (pe_bltn (v := .ty "list") (by rfl) B.xlist (by decide +kernel) rfl) pa_nil))) (pe_callB call_isi (by rfl) B.xisinstance (by decide +kernel) (pa_cons (pv 1) (pa_cons (pe_bltn (v := .ty "list") (by rfl) B.xlist (by decide +kernel) rfl) pa_nil))) (nomark _)) (pw_or1 (pt_cmpR op_ne (pe_callB call_isi (by rfl) B.xisinstance (by decide +kernel) (pa_cons (pv 0) (pa_cons (pe_bltn (v := .ty "tuple") (by rfl) B.xtuple (by decide +kernel) rfl) pa_nil))) (pe_callB call_isi (by rfl) B.xisinstance (by decide +kernel) (pa_cons (pv 1) (pa_cons (pe_bltn (v := .ty "tuple") (by rfl) B.xtuple (by decide +kernel) rfl) pa_nil))) (nomark _)))))
    (pss_one (ps_ret pe_bl))
    pss_nil)
  (pss_one (ps_ret (pe_and (pe_cmpR op_eq (pe_callB call_len_seq (by rfl) B.xlen PySem.boot_len (pa_cons (pv 0) pa_nil)) (pe_callB call_len_seq (by rfl) B.xlen PySem.boot_len (pa_cons (pv 1) pa_nil)) (nomark _)) (pe_one (pe_callB (cr_all rfl) (by rfl) B.xall (by decide +kernel) (pa_cons (pe_lc (own := [("_law_one", 2), ("_law_other", 3)]) (g := gTup K 2 (gCons (gName 2) (gCons (gName 3) gNil))) (by rfl) sc__law_same.nd (RZ.pi_zipA (by rfl) B.xzip (pa_cons (pv 0) (pa_cons (pv 1) pa_nil))) (blkOk_by (own := [("_law_one", 2), ("_law_other", 3)]) (N := ["_law_found", "_law_due", "_law_one", "_law_other"]) (sc := defScope s__law_same) (by decide +kernel)) (fun _ _ _ _ _ => (pg_tup rfl (pgs_cons (pg_name (i := 2) sc__law_same.nd rfl (Or.inl rfl)) (pgs_cons (pg_name (i := 3) sc__law_same.nd rfl (Or.inl rfl)) pgs_nil)))) (fun _ _ _ _ _ => pts_nil) (fun _ _ _ _ _ => (pe_cal c__law_same (hr.mono (by omega)) (by rfl) (pa_cons (pv 2) (pa_cons (pv 3) pa_nil))))) pa_nil)))))))
    pss_nil)
  (pss_cons (ps_if (PW.pt (pw_or (pt_cmpR op_ne (pe_callB call_isi (by rfl) B.xisinstance (by decide +kernel) (pa_cons (pv 1) (pa_cons (pe_bltn (v := .ty "bool") (by rfl) B.xbool (by decide +kernel) rfl) pa_nil))) (pe_callB call_isi (by rfl) B.xisinstance (by decide +kernel) (pa_cons (pv 0) (pa_cons (pe_bltn (v := .ty "bool") (by rfl) B.xbool (by decide +kernel) rfl) pa_nil))) (nomark _)) (pw_or1 (pt_cmpR op_ne (pe_callB call_isi (by rfl) B.xisinstance (by decide +kernel) (pa_cons (pv 1) (pa_cons (pe_bltn (v := .ty "int") (by rfl) B.xint (by decide +kernel) rfl) pa_nil))) (pe_callB call_isi (by rfl) B.xisinstance (by decide +kernel) (pa_cons (pv 0) (pa_cons (pe_bltn (v := .ty "int") (by rfl) B.xint (by decide +kernel) rfl) pa_nil))) (nomark _)))))
    (pss_one (ps_ret pe_bl))
    pss_nil)
  (pss_one (ps_ret (pe_and (pe_cmpR op_eq (pe_callB call_isi (by rfl) B.xisinstance (by decide +kernel) (pa_cons (pv 1) (pa_cons (pe_bltn (v := .ty "str") (by rfl) B.xstr (by decide +kernel) rfl) pa_nil))) (pe_callB call_isi (by rfl) B.xisinstance (by decide +kernel) (pa_cons (pv 0) (pa_cons (pe_bltn (v := .ty "str") (by rfl) B.xstr (by decide +kernel) rfl) pa_nil))) (nomark _)) (pe_one (pe_cmpR op_eq (pv 0) (pv 1) (nomark _))))))))), ?_⟩
    have fin : ∀ H2 m, Same H H2 → Q (.bl ((List.replicate m true).all id)) H2 := fun H2 m e => by
      rw [show (List.replicate m true).all id = true by simp]
      exact q H2 e
    rcases hE.cases with ⟨hf, rfl⟩ | ⟨m, a, b, xs, ys, rfl, rfl, rfl, hs, hl, hm, hi⟩
    · cases x with
      | non => exact ⟨.non, rfl, _, rfl, iteTd rfl ⟨.non, rfl, q H (.refl H)⟩⟩
      | bl v =>
        refine ⟨.bl v, rfl, _, rfl, iteFd rfl ?_⟩
        refine ⟨.bl v, rfl, sz (by show 2 ≤ 100000; decide), fun tp ntp => ?_⟩
        refine ⟨_, tp, _, _, _, false, rfl, upd_same, .cons (.ty _) (.cons (.ty _) .nil), .base (.bl v), kLT (r1 := false) (r2 := false) (by decide +kernel) (by decide +kernel), _, rfl, iteFd rfl ?_⟩
        refine ⟨.bl v, rfl, ⟨_, _, _, _, true, rfl, .ty _, .base (.bl v), kit_ty (by decide +kernel), .bl v, rfl, ⟨_, _, _, _, true, rfl, .ty _, .base (.bl v), kit_ty (by decide +kernel), rfl, _, rfl, iteFd rfl ?_⟩⟩⟩
        refine ⟨.bl v, rfl, ⟨_, _, _, _, true, rfl, .ty _, .base (.bl v), kit_ty (by decide +kernel), .bl v, rfl, ⟨_, _, _, _, true, rfl, .ty _, .base (.bl v), kit_ty (by decide +kernel), rfl, _, rfl, iteFd rfl ?_⟩⟩⟩
        refine ⟨.bl v, rfl, ⟨_, _, _, _, false, rfl, .ty _, .base (.bl v), kit_ty (by decide +kernel), .bl v, rfl, ⟨_, _, _, _, false, rfl, .ty _, .base (.bl v), kit_ty (by decide +kernel), rfl, _, rfl, iteTd rfl ⟨.bl v, rfl, .bl v, rfl, rfl, ?_⟩⟩⟩⟩
        rw [decide_eq_true rfl]
        exact q _ (same_new ntp)
      | int v =>
        refine ⟨.int v, rfl, _, rfl, iteFd rfl ?_⟩
        refine ⟨.int v, rfl, sz (by show 2 ≤ 100000; decide), fun tp ntp => ?_⟩
        refine ⟨_, tp, _, _, _, false, rfl, upd_same, .cons (.ty _) (.cons (.ty _) .nil), .base (.int v), kLT (r1 := false) (r2 := false) (by decide +kernel) (by decide +kernel), _, rfl, iteFd rfl ?_⟩
        refine ⟨.int v, rfl, ⟨_, _, _, _, false, rfl, .ty _, .base (.int v), kit_ty (by decide +kernel), .int v, rfl, ⟨_, _, _, _, false, rfl, .ty _, .base (.int v), kit_ty (by decide +kernel), rfl, _, rfl, iteFd rfl ?_⟩⟩⟩
        refine ⟨.int v, rfl, ⟨_, _, _, _, true, rfl, .ty _, .base (.int v), kit_ty (by decide +kernel), .int v, rfl, ⟨_, _, _, _, true, rfl, .ty _, .base (.int v), kit_ty (by decide +kernel), rfl, _, rfl, iteFd rfl ?_⟩⟩⟩
        refine ⟨.int v, rfl, ⟨_, _, _, _, false, rfl, .ty _, .base (.int v), kit_ty (by decide +kernel), .int v, rfl, ⟨_, _, _, _, false, rfl, .ty _, .base (.int v), kit_ty (by decide +kernel), rfl, _, rfl, iteTd rfl ⟨.int v, rfl, .int v, rfl, rfl, ?_⟩⟩⟩⟩
        rw [decide_eq_true rfl]
        exact q _ (same_new ntp)
      | str v =>
        refine ⟨.str v, rfl, _, rfl, iteFd rfl ?_⟩
        refine ⟨.str v, rfl, sz (by show 2 ≤ 100000; decide), fun tp ntp => ?_⟩
        refine ⟨_, tp, _, _, _, false, rfl, upd_same, .cons (.ty _) (.cons (.ty _) .nil), .base (.str v), kLT (r1 := false) (r2 := false) (by decide +kernel) (by decide +kernel), _, rfl, iteFd rfl ?_⟩
        refine ⟨.str v, rfl, ⟨_, _, _, _, false, rfl, .ty _, .base (.str v), kit_ty (by decide +kernel), .str v, rfl, ⟨_, _, _, _, false, rfl, .ty _, .base (.str v), kit_ty (by decide +kernel), rfl, _, rfl, iteFd rfl ?_⟩⟩⟩
        refine ⟨.str v, rfl, ⟨_, _, _, _, false, rfl, .ty _, .base (.str v), kit_ty (by decide +kernel), .str v, rfl, ⟨_, _, _, _, false, rfl, .ty _, .base (.str v), kit_ty (by decide +kernel), rfl, _, rfl, iteFd rfl ?_⟩⟩⟩
        refine ⟨.str v, rfl, ⟨_, _, _, _, true, rfl, .ty _, .base (.str v), kit_ty (by decide +kernel), .str v, rfl, ⟨_, _, _, _, true, rfl, .ty _, .base (.str v), kit_ty (by decide +kernel), rfl, _, rfl, iteTd rfl ⟨.str v, rfl, .str v, rfl, rfl, ?_⟩⟩⟩⟩
        rw [decide_eq_true rfl]
        exact q _ (same_new ntp)
      | _ => cases hf
    · refine ⟨.ref b, rfl, _, rfl, iteFd rfl ?_⟩
      refine ⟨.ref b, rfl, sz (by show 2 ≤ 100000; decide), fun tp ntp => ?_⟩
      have e1 := same_new (o := .tup [.ty "list", .ty "tuple"]) ntp
      rcases hs with ⟨ha, hb⟩ | ⟨ha, hb⟩
      · have ha1 := e1 _ _ ha
        have hb1 := e1 _ _ hb
        refine ⟨_, tp, _, _, _, true, rfl, upd_same, .cons (.ty _) (.cons (.ty _) .nil), .base (.lst hb1), kLT (r1 := true) (r2 := false) (by decide +kernel) (by decide +kernel), _, rfl, iteTd rfl ?_⟩
        refine ⟨.ref a, rfl, ⟨_, _, _, _, true, rfl, .ty _, .base (.lst ha1), kit_ty (by decide +kernel), .ref b, rfl, ⟨_, _, _, _, true, rfl, .ty _, .base (.lst hb1), kit_ty (by decide +kernel), rfl, _, rfl, iteFd rfl ?_⟩⟩⟩
        refine ⟨.ref a, rfl, ⟨_, _, _, _, false, rfl, .ty _, .base (.lst ha1), kit_ty (by decide +kernel), .ref b, rfl, ⟨_, _, _, _, false, rfl, .ty _, .base (.lst hb1), kit_ty (by decide +kernel), rfl, _, rfl, iteFd rfl ?_⟩⟩⟩
        refine ⟨.ref a, rfl, a, xs, rfl, .inl (SqL.of ha1), .ref b, rfl, b, ys, rfl, .inl (SqL.of hb1), rfl, _, rfl, iteTd (decide_eq_true (by rw [hl])) ?_⟩
        refine ⟨.ref a, rfl, .ref b, rfl, a, b, xs, ys, rfl, .inl ⟨SqL.of ha1, SqL.of hb1, fun D nD => ?_⟩⟩
        refine lc_it (walk_zip (xs := xs) (ys := ys) (n := xs.length) (by rw [hl]; omega)) (fun i H2 => Same (upd H tp (.tup [.ty "list", .ty "tuple"])) H2 ∧ H2 D = some (.lst ((List.replicate i true).map V.bl))) ⟨same_new nD, upd_same⟩ (fun i H2 _ h => ⟨SqL.of (h.1 _ _ ha1), SqL.of (h.1 _ _ hb1)⟩) ?_ ?_
        · rintro i v H2 H3 hlt ⟨e2, hD2⟩ ⟨T, u, z, rfl, nT, rfl, hu, hz⟩
          have e3 := same_new (o := .tup [u, z]) nT
          refine ⟨T, [u, z], rfl, SqT.of upd_same, rfl, u, [z], rfl, z, [], rfl, rfl, rfl, u, rfl, z, rfl, u, z, rfl, (hi i u z hu hz).same (e1.trans (e2.trans e3)), fun H4 e4 => ?_⟩
          refine ⟨_, e4 _ _ (e3 _ _ hD2), szl (by simp; omega), Same.put (e2.trans (e3.trans e4)) nD, ?_⟩
          rw [upd_same, List.replicate_succ', List.map_append]; rfl
        · rintro H2 ⟨e2, hD2⟩
          exact ⟨D, _, rfl, SqL.of hD2, fin _ _ (e1.trans e2)⟩
      · have ha1 := e1 _ _ ha
        have hb1 := e1 _ _ hb
        refine ⟨_, tp, _, _, _, true, rfl, upd_same, .cons (.ty _) (.cons (.ty _) .nil), .base (.tup hb1), kLT (r1 := false) (r2 := true) (by decide +kernel) (by decide +kernel), _, rfl, iteTd rfl ?_⟩
        refine ⟨.ref a, rfl, ⟨_, _, _, _, false, rfl, .ty _, .base (.tup ha1), kit_ty (by decide +kernel), .ref b, rfl, ⟨_, _, _, _, false, rfl, .ty _, .base (.tup hb1), kit_ty (by decide +kernel), rfl, _, rfl, iteFd rfl ?_⟩⟩⟩
        refine ⟨.ref a, rfl, ⟨_, _, _, _, true, rfl, .ty _, .base (.tup ha1), kit_ty (by decide +kernel), .ref b, rfl, ⟨_, _, _, _, true, rfl, .ty _, .base (.tup hb1), kit_ty (by decide +kernel), rfl, _, rfl, iteFd rfl ?_⟩⟩⟩
        refine ⟨.ref a, rfl, a, xs, rfl, .inr (SqT.of ha1), .ref b, rfl, b, ys, rfl, .inr (SqT.of hb1), rfl, _, rfl, iteTd (decide_eq_true (by rw [hl])) ?_⟩
        refine ⟨.ref a, rfl, .ref b, rfl, a, b, xs, ys, rfl, .inr ⟨SqT.of ha1, SqT.of hb1, fun D nD => ?_⟩⟩
        refine lc_it (walk_zipT (xs := xs) (ys := ys) (n := xs.length) (by rw [hl]; omega)) (fun i H2 => Same (upd H tp (.tup [.ty "list", .ty "tuple"])) H2 ∧ H2 D = some (.lst ((List.replicate i true).map V.bl))) ⟨same_new nD, upd_same⟩ (fun i H2 _ h => ⟨SqT.of (h.1 _ _ ha1), SqT.of (h.1 _ _ hb1)⟩) ?_ ?_
        · rintro i v H2 H3 hlt ⟨e2, hD2⟩ ⟨T, u, z, rfl, nT, rfl, hu, hz⟩
          have e3 := same_new (o := .tup [u, z]) nT
          refine ⟨T, [u, z], rfl, SqT.of upd_same, rfl, u, [z], rfl, z, [], rfl, rfl, rfl, u, rfl, z, rfl, u, z, rfl, (hi i u z hu hz).same (e1.trans (e2.trans e3)), fun H4 e4 => ?_⟩
          refine ⟨_, e4 _ _ (e3 _ _ hD2), szl (by simp; omega), Same.put (e2.trans (e3.trans e4)) nD, ?_⟩
          rw [upd_same, List.replicate_succ', List.map_append]; rfl
        · rintro H2 ⟨e2, hD2⟩
          exact ⟨D, _, rfl, SqL.of hD2, fin _ _ (e1.trans e2)⟩
theorem ok_same {f : Addr} {fd : FuncData} (F : Fun K "_law_same" "_law_same" s__law_same f fd) (B : Blt mg) (gf : mg "_law_same" = some (.ref f)) (bf : Binds K fd ["_law_found", "_law_due"] []) : ∀ n, FnOk P w K mg base CX0 n f fd ["_law_found", "_law_due"] (spPrevW n)
  | 0 => ⟨fun _ _ _ _ h => h.elim, fun _ _ _ _ _ _ _ _ _ _ _ _ _ h => h.elim⟩
  | n + 1 => ok_same1 F B ⟨f, fd, ok_same F B gf bf n, gf, F.kp, bf⟩
end
end TT
namespace TT
open PySem PySem.Spec PyProof.Rows L2
section
variable {P : Program} {w : World} {K : PySem.W.Frag} {mg : Str → Option Value} {base : Heap}
theorem ok_field {f : Addr} {fd : FuncData} {k : Nat} (F : Fun K "_law_field" "_law_field" s__law_field f fd) : FnEJ P w K mg base CX0 (k + 1) f fd ["_law_e"] (spField K) := by
  refine fnEJ_of F sc__law_field (fun p vs H Q E h => ?_) (fun cdv A outer s H vs Q E p hot0 hr h => ?_)
  · obtain ⟨C, dd, tag, v, rfl, _⟩ := h
    rfl
  · obtain ⟨C, dd, tag, v, rfl, ec, ed, hb, q⟩ := h
    have hot : HotF (L2H.cxH CX0 P w K mg base ["_law_e"] "_law_field" (defScope s__law_field) f cdv A outer s H E p).A p := hot0
    have hpn : p ∈ (L2H.cxH CX0 P w K mg base ["_law_e"] "_law_field" (defScope s__law_field) f cdv A outer s H E p).pn := List.mem_singleton.mpr rfl
    refine ⟨_, (pss_cons (ps_if (pt_cmpR op_in_seq (pe_xpJ hot hpn (pv 0)) (pe_tup (pa_cons pe_str (pa_cons pe_str (pa_cons pe_str (pa_cons pe_str (pa_cons pe_str (pa_cons pe_str (pa_cons pe_str pa_nil)))))))) rfl)
    (pss_one (ps_ret (pe_xpJ hot hpn (pv 0))))
    pss_nil)
  (pss_cons (ps_if (pt_cmpR op_in_seq (pe_xpJ hot hpn (pv 0)) (pe_tup (pa_cons pe_str (pa_cons pe_str (pa_cons pe_str (pa_cons pe_str (pa_cons pe_str pa_nil)))))) rfl)
    (pss_one (ps_ret (pe_xpJ hot hpn (pv 0))))
    pss_nil)
  (pss_cons (ps_if (pt_cmpR op_in_seq (pe_xpJ hot hpn (pv 0)) (pe_tup (pa_cons pe_str (pa_cons pe_str (pa_cons pe_str (pa_cons pe_str pa_nil))))) rfl)
    (pss_one (ps_ret (pe_xpJ hot hpn (pv 0))))
    pss_nil)
  (pss_cons (ps_if (pt_cmpR op_in_seq (pe_xpJ hot hpn (pv 0)) (pe_tup (pa_cons pe_str (pa_cons pe_str (pa_cons pe_str (pa_cons pe_str pa_nil))))) rfl)
    (pss_one (ps_ret (pe_xpJ hot hpn (pv 0))))
    pss_nil)
  (pss_cons (ps_if (pt_cmpR op_eq (pe_xpJ hot hpn (pv 0)) pe_str (nomark _))
    (pss_one (ps_ret (pe_xpJ hot hpn (pv 0))))
    pss_nil)
  (pss_one (ps_ret (pe_ifExp (pt_cmpR op_eq (pe_xpJ hot hpn (pv 0)) pe_str (nomark _)) (pe_xpJ hot hpn (pv 0)) (pe_xpJ hot hpn (pv 0)))))))))), ?_⟩
    obtain ⟨xf, ft, ff, fs, hd, lt, lf⟩ := hb
    -- one test: tag in (..)
    have step : ∀ {H2 : Hp} {R : V → Hp → Prop}, Same H H2 → R (.str tag) H2 → tXp K p "tag" (tVar 0) [some (.ref p.1)] H2 R := fun e h => ⟨.ref p.1, rfl, rfl, C, dd, fs, _, ec, xf, ft, ed, e _ _ hd, lt, h⟩
    have get : ∀ {H2 : Hp} (nm : Str), Same H H2 → fieldOf tag = nm → tXp K p nm (tVar 0) [some (.ref p.1)] H2 Q := fun nm e h => by
      subst h
      exact ⟨.ref p.1, rfl, rfl, C, dd, fs, v, ec, xf, ff, ed, e _ _ hd, lf, q _ e⟩
    refine step (Same.refl H) ⟨sz (by show 7 ≤ 100000; decide), fun p0 n0 => ⟨p0, _, rfl, .inr (SqT.of upd_same), rfl, rfl, _, rfl, ite2 (fun h0 => ?_) (fun h0 => ?_)⟩⟩
    · simp only [Bool.false_eq_true, if_false] at h0
      exact get "key" ((Same.refl H).trans (same_new n0)) (by unfold fieldOf; rw [if_pos h0])
    simp only [Bool.false_eq_true, if_false] at h0
    refine step ((Same.refl H).trans (same_new n0)) ⟨sz (by show 5 ≤ 100000; decide), fun p1 n1 => ⟨p1, _, rfl, .inr (SqT.of upd_same), rfl, rfl, _, rfl, ite2 (fun h1 => ?_) (fun h1 => ?_)⟩⟩
    · simp only [Bool.false_eq_true, if_false] at h1
      exact get "pos" (((Same.refl H).trans (same_new n0)).trans (same_new n1)) (by unfold fieldOf; rw [if_neg h0, if_pos h1])
    simp only [Bool.false_eq_true, if_false] at h1
    refine step (((Same.refl H).trans (same_new n0)).trans (same_new n1)) ⟨sz (by show 4 ≤ 100000; decide), fun p2 n2 => ⟨p2, _, rfl, .inr (SqT.of upd_same), rfl, rfl, _, rfl, ite2 (fun h2 => ?_) (fun h2 => ?_)⟩⟩
    · simp only [Bool.false_eq_true, if_false] at h2
      exact get "limit" ((((Same.refl H).trans (same_new n0)).trans (same_new n1)).trans (same_new n2)) (by unfold fieldOf; rw [if_neg h0, if_neg h1, if_pos h2])
    simp only [Bool.false_eq_true, if_false] at h2
    refine step ((((Same.refl H).trans (same_new n0)).trans (same_new n1)).trans (same_new n2)) ⟨sz (by show 4 ≤ 100000; decide), fun p3 n3 => ⟨p3, _, rfl, .inr (SqT.of upd_same), rfl, rfl, _, rfl, ite2 (fun h3 => ?_) (fun h3 => ?_)⟩⟩
    · simp only [Bool.false_eq_true, if_false] at h3
      exact get "name" (((((Same.refl H).trans (same_new n0)).trans (same_new n1)).trans (same_new n2)).trans (same_new n3)) (by unfold fieldOf; rw [if_neg h0, if_neg h1, if_neg h2, if_pos h3])
    simp only [Bool.false_eq_true, if_false] at h3
    refine ⟨.ref p.1, rfl, rfl, C, dd, fs, _, ec, xf, ft, ed, (((((Same.refl H).trans (same_new n0)).trans (same_new n1)).trans (same_new n2)).trans (same_new n3)) _ _ hd, lt, rfl, _, rfl, ite2 (fun h4 => ?_) (fun h4 => ?_)⟩
    · exact get "size" (((((Same.refl H).trans (same_new n0)).trans (same_new n1)).trans (same_new n2)).trans (same_new n3)) (by unfold fieldOf; rw [if_neg h0, if_neg h1, if_neg h2, if_neg h3, if_pos (by simpa using h4)])
    refine ⟨.ref p.1, rfl, rfl, C, dd, fs, _, ec, xf, ft, ed, (((((Same.refl H).trans (same_new n0)).trans (same_new n1)).trans (same_new n2)).trans (same_new n3)) _ _ hd, lt, rfl, _, rfl, ite2 (fun h5 => ?_) (fun h5 => ?_)⟩
    · exact get "word" (((((Same.refl H).trans (same_new n0)).trans (same_new n1)).trans (same_new n2)).trans (same_new n3)) (by unfold fieldOf; rw [if_neg h0, if_neg h1, if_neg h2, if_neg h3, if_neg (by simpa using h4), if_pos (by simpa using h5)])
    · exact get "number" (((((Same.refl H).trans (same_new n0)).trans (same_new n1)).trans (same_new n2)).trans (same_new n3)) (by unfold fieldOf; rw [if_neg h0, if_neg h1, if_neg h2, if_neg h3, if_neg (by simpa using h4), if_neg (by simpa using h5)])
end
end TT
namespace TT
open PySem PySem.Spec PyProof.Rows L2
section
variable {P : Program} {w : World} {K : PySem.W.Frag} {mg : Str → Option Value} {base : Heap}
theorem gv_out {X : Cx} {g : Addr} {cdg : Value} {q : Str} {k : Nat} {cT cM : Value} (c_field : CalEJ X.prog X.w X.K X.mg X.base "_law_field" ["_law_e"] k (spField X.K)) (mT : X.mg "TreeError" = some cT) (mM : X.mg "Missing" = some cM) :
    GivNJ X ["_law_ask", "_law_answer", "_law_tag", "_law_field_here", "_law_e"] "_law_outcome" (defScope s__law_outcome) g cdg (defBody s__law_outcome) "_law_ask" q (k + 1) (tOut X.K cT cM) := by
  intro f c' s H Q tl hr act hc h
  refine ⟨_, pss_cons (ps_asg (pe_tup (pa_cons pe_non (pa_cons pe_str (pa_cons pe_non pa_nil)))) (pg_tup rfl (pgs_cons (pg_name (i := 1) sc__law_outcome.nd rfl (Or.inl rfl)) (pgs_cons (pg_name (i := 2) sc__law_outcome.nd rfl (Or.inl rfl)) (pgs_cons (pg_name (i := 3) sc__law_outcome.nd rfl (Or.inl rfl)) pgs_nil)))))
    (pss_cons (ps_try_twoJ (X := (cxOf C8.CX0 X.prog X.w X.K X.mg X.base ["_law_ask", "_law_answer", "_law_tag", "_law_field_here", "_law_e"] "_law_outcome" (defScope s__law_outcome) g cdg X.A X.stack s H C8.E0).nox) (i := 4) (c1 := cT) (c2 := cM) (ts := fun a oe => tPar 2 3 (tCons (tXp X.K (a, oe) "tag" (tVar 4)) (tCons (tCallE (spField X.K) (a, oe) (tCons (tVar 4) tNil)) tNil)))
      (tb := fun W D σ H => ∃ E : XK, (∀ cls d H', E cls d H' → W cls d σ H') ∧ σ[0]? = some (some (.ref f)) ∧ H c' = some (LamX.CodeO c' q) ∧ tl E H fun v H' => D.nx (σ.set 1 (some v)) H')
      rfl rfl sc__law_outcome.nd rfl rfl (by rfl) mT (by rfl) mM (by decide) (by decide) (fun W pn xe tk own => ?_) (fun a oe pn ctx hot => ?_))
      (pss_one (ps_ret (pe_tup (pa_cons (pv 1) (pa_cons (pv 2) (pa_cons (pv 3) pa_nil))))))), ?_⟩
  · refine ⟨fun pins s' σ H' D I h' => ?_⟩
    obtain ⟨E, hW, h1, h2, h3⟩ := h'
    exact (pss_one (ps_set (i := 1) sc__law_outcome.nd rfl (Or.inl rfl) (act W pn xe E _ _ tk))).run pins s' σ H' D I ⟨hW, h1, h2, h3⟩
  · exact pss_one (ps_parJ (i := 2) (j := 3) hot sc__law_outcome.nd rfl rfl (by decide) rfl rfl
      (pa_cons (pe_xpJ (p := (a, oe)) ⟨rfl, ctx⟩ List.mem_cons_self (pv 4)) (pa_cons (pe_calEJ (p := (a, oe)) c_field ⟨rfl, ctx⟩ List.mem_cons_self ⟨(hr.mono (Nat.le_succ k)).dp, (hr.mono (Nat.le_succ k)).un⟩ (by rfl) (pa_cons (pv 4) pa_nil)) pa_nil)) rfl)
  · refine ⟨sz (by show 3 ≤ 100000; decide), fun p0 n0 => ⟨p0, _, rfl, SqT.of upd_same, rfl, _, _, rfl, _, _, rfl, _, _, rfl, rfl, ?_⟩⟩
    have e0 : Same H (upd H p0 (.tup [.non, .str "", .non])) := same_new n0
    refine ⟨Xo X.K cT cM Q, fun cls d H' hX => ?_, rfl, e0 _ _ hc, h _ _ _ e0 (fun _ _ _ z => z) fun v H' z => ?_⟩
    · obtain ⟨ex, C, dd, tag, v, rfl, rfl, hB, fin⟩ := hX
      obtain ⟨xf, ft, ff, fs, hd, lt, lf⟩ := id hB
      refine ⟨ex, fun a oe na zn => ?_⟩
      exact ⟨.ref a, rfl, rfl, C, dd, fs, _, zn.1, xf, ft, zn.2, hd, lt, .ref a, rfl, C, dd, tag, v, rfl, zn.1, zn.2, hB, fun H2 e2 => ⟨_, _, rfl, .non, rfl, .str tag, rfl, v, rfl, sz (by show 3 ≤ 100000; decide), fun p np => fin p _ (e2.trans (same_new np)) (e2.free np) upd_same⟩⟩
    · exact ⟨v, rfl, .str "", rfl, .non, rfl, sz (by show 3 ≤ 100000; decide), fun p np => z p _ (same_new np) np upd_same⟩
end
end TT
namespace TT
open PySem PySem.Spec PyProof.Rows L2
section
variable {P : Program} {w : World} {K : PySem.W.Frag} {mg : Str → Option Value} {base : Heap}
theorem tOut_mono {K : PySem.W.Frag} {cT cM : Value} {tl : XK → Hp → VK → Prop} {H : Hp} {Q Q' : VK} (h : tOut K cT cM tl H Q) (m : ∀ v H', Q v H' → Q' v H') : tOut K cT cM tl H Q' := fun H1 E R e hE hR =>
  h H1 E R e (fun cls d H' ⟨x, C, dd, tag, v, e1, e2, hB, fin⟩ => hE cls d H' ⟨x, C, dd, tag, v, e1, e2, hB, fun p H'' a b c => m _ _ (fin p H'' a b c)⟩) (fun v H' z => hR v H' fun p H'' a b c => m _ _ (z p H'' a b c))
theorem gv_err {X : Cx} {ge go : Addr} {cde : Value} {q : Str} {k : Nat} {cT cM : Value} {oc kV doc pm cdv ct : Value} {od an : Option Addr} {osl : Array (Option Value)} (hm : X.mg "_law_outcome" = some (.ref go)) (hk : PySem.W.keepIn X.K (.ref go) = true)
    (lk : X.K.lookup go = some ⟨oc, od, .func (PySem.W.fnOf "_law_outcome" "_law_outcome" (defArgs s__law_outcome) (defBody s__law_outcome) (defScope s__law_outcome) .none kV doc pm an cdv ct), osl⟩) (hcg : PySem.W.codeIn X.K cdv "_law_outcome" = true)
    (hb : L2.Binds X.K (PySem.W.fnOf "_law_outcome" "_law_outcome" (defArgs s__law_outcome) (defBody s__law_outcome) (defScope s__law_outcome) .none kV doc pm an cdv ct) ["_law_ask"] [])
    (c_field : CalEJ X.prog X.w X.K X.mg X.base "_law_field" ["_law_e"] k (spField X.K)) (mT : X.mg "TreeError" = some cT) (mM : X.mg "Missing" = some cM) :
    GivMJ X ["_law_ask"] "_law_error" (defScope s__law_error) ge cde (defBody s__law_error) q k (k + 2) (tErr X.K cT cM) := by
  intro f c' s H Q tl hr act hc h
  refine ⟨_, pss_one (ps_ret (pe_slice sl_tup (pe_onNJ (ye := "_law_outcome") (by rfl) hm hk lk hcg hb sc__law_outcome rfl (.inl rfl) (gv_out c_field mT mM) hr act (pv 0)) (po_some pe_int) po_none)), ?_⟩
  refine ⟨rfl, hc, tOut_mono h ?_⟩
  rintro v H' ⟨p, x, tag, y, rfl, hp, fin⟩
  exact ⟨1, rfl, p, _, rfl, SqT.of hp, fun z => absurd (show HT.sIx 3 0 (some 1) = 0 from z.1) (by decide +kernel), fun r hr => fin r hr⟩
end
end TT
namespace TT
open PySem PySem.Spec PyProof.Rows L2
section
variable {P : Program} {w : World} {K : PySem.W.Frag} {mg : Str → Option Value} {base : Heap}
theorem ok_keysB {f : Addr} {fd : FuncData} {k : Nat} (F : Fun K "_law_keys" "_law_keys" s__law_keys f fd) (B : Blt mg) (c__law_take : Cal P w K mg base CX0 "_law_take" ["_law_draw", "_law_many"] k spTake)
    (c__law_of : Cal P w K mg base CX0 "_law_of" ["_law_draw", "_law_some"] k (spOf K)) : FnOk P w K mg base CX0 (k + 1) f fd ["_law_draw", "_law_many"] spKeysB := by
  refine F.ok sc__law_keys (fun vs H Q E h => ?_) (fun cdv A outer s H vs Q E hr h => ?_)
  · obtain ⟨d, m, c, ns, rfl, _⟩ := h
    rfl
  · obtain ⟨d, m, c, ns, rfl, m0, m1, hD, q⟩ := h
    refine ⟨_, (pss_cons (ps_set (i := 2) sc__law_keys.nd rfl (Or.inl rfl) (pe_cal c__law_of (hr.mono (by omega)) (by rfl) (pa_cons (pv 0) (pa_cons (pe_lst (pa_cons (pe_op op_sub pe_int pe_int) (pa_cons pe_int (pa_cons (pe_op op_sub pe_int (pe_op op_pow pe_int pe_int)) (pa_cons (pe_op op_sub (pe_op op_pow pe_int pe_int) pe_int) (pa_cons (pe_cal c__law_take (hr.mono (by omega)) (by rfl) (pa_cons (pv 0) (pa_cons (pe_op op_pow pe_int pe_int) pa_nil))) pa_nil)))))) pa_nil))))
  (pss_cons (ps_par (i := 3) (j := 4) rfl sc__law_keys.nd rfl rfl (by decide) rfl rfl (pa_cons (pe_cal c__law_of (hr.mono (by omega)) (by rfl) (pa_cons (pv 0) (pa_cons (pe_lst (pa_cons pe_int (pa_cons pe_int (pa_cons pe_int (pa_cons pe_int pa_nil))))) pa_nil))) (pa_cons (pe_lst pa_nil) pa_nil)) rfl)
  (pss_cons (ps_for PassesOwn.never rfl (pi_range1 (by rfl) B.xrange (pa_cons (pv 1) pa_nil)) (pg_name (i := 5) sc__law_keys.nd rfl (Or.inl rfl))
    (pss_cons (ps_expr (pe_bm PySem.F.plainAttrs_list PySem.F.slot_list_append PySem.F.type_list_append mt_append (pv 4) (pa_cons (pv 2) pa_nil)))
  (pss_one (ps_set (i := 2) sc__law_keys.nd rfl (Or.inl rfl) (pe_op op_add (pe_op op_add (pv 2) pe_int) (pe_cal c__law_take (hr.mono (by omega)) (by rfl) (pa_cons (pv 0) (pa_cons (pv 3) pa_nil))))))))
  (pss_one (ps_ret (pv 4)))))), ?_⟩
    refine ⟨.ref d, rfl, 0, 5, rfl, rfl, 10, 9, rfl, rfl, cpow (by decide) (by decide) (by decide), 0, _, rfl, rfl, 10, 9, rfl, rfl, cpow (by decide) (by decide) (by decide), _, 50000, rfl, rfl, .ref d, rfl, 10, 6, rfl, rfl, cpow (by decide) (by decide) (by decide), d, _, c, ns, rfl, by decide, by decide, hD, fun r H1 r0 r1 hD1 hk1 => ?_⟩
    refine ⟨sz (by show 5 ≤ 100000; decide), fun p np => ⟨d, p, _, c, ns, rfl, SqL.of upd_same, by show 0 < 5; decide, by show 5 ≤ 100000; decide, hD1.ne np, hD1.new np, fun x H2 hx hD2 hk2 => ?_⟩⟩
    have e2 : Ext d H H2 := (Ext.but hk1).trans ((Ext.of (same_new np)).trans (Ext.but hk2))
    obtain ⟨k0, rfl, b0, b1⟩ : ∃ k0, x = .int k0 ∧ -1000000000 ≤ k0 ∧ k0 ≤ 999950000 := by
      simp only [List.mem_cons, List.not_mem_nil, or_false] at hx
      have r2 : r < 1000000 := r1
      rcases hx with rfl | rfl | rfl | rfl | rfl
      · exact ⟨_, rfl, by decide, by decide⟩
      · exact ⟨_, rfl, by decide, by decide⟩
      · exact ⟨_, rfl, by decide, by decide⟩
      · exact ⟨_, rfl, by decide, by decide⟩
      · exact ⟨_, rfl, by omega, by omega⟩
    refine ⟨.ref d, rfl, sz (by show 4 ≤ 100000; decide), fun p2 np2 => ⟨d, p2, _, c, ns, rfl, SqL.of upd_same, by show 0 < 4; decide, by show 4 ≤ 100000; decide, hD2.ne np2, hD2.new np2, fun x H3 hx hD3 hk3 => ?_⟩⟩
    have e3 : Ext d H H3 := e2.trans ((Ext.of (same_new np2)).trans (Ext.but hk3))
    obtain ⟨wd, rfl, w0, w1⟩ : ∃ wd, x = .int wd ∧ 1 ≤ wd ∧ wd ≤ 1000 := by
      simp only [List.mem_cons, List.not_mem_nil, or_false] at hx
      rcases hx with rfl | rfl | rfl | rfl <;> exact ⟨_, rfl, by decide, by decide⟩
    refine ⟨Nat.zero_le _, fun o no => ⟨.int wd, .ref o, rfl, ?_⟩⟩
    have nod := hD3.ne no
    obtain ⟨ob, hob⟩ := hD.at
    obtain ⟨ob3, hob3⟩ := hD3.at
    have noH : H o = none := e3.free hob hob3 no
    refine ⟨.int m, rfl, m, rfl, by omega, by omega, for_range (n := m.toNat) (fun i σ H4 => ∃ key ks y, σ = [some (.ref d), some (.int m), some (.int key), some (.int wd), some (.ref o), y] ∧ ks.length = i ∧ ks.Pairwise (· < ·) ∧ (∀ j ∈ ks, -1000000000 ≤ j ∧ j < key) ∧ -1000000000 ≤ key ∧ key ≤ k0 + 1000 * i ∧ Ext d H H4 ∧ Drw c ns H4 d ∧ H4 o = some (.lst (ks.map V.int)))
      ⟨k0, [], none, rfl, rfl, List.Pairwise.nil, fun _ h => (by cases h), b0, by omega, e3.put noH, hD3.new no, upd_same⟩ ?_ ?_⟩
    · rintro i σ H4 hi ⟨key, ks, y, rfl, lk, pw, bd, kb0, kb1, e4, hD4, ho4⟩
      -- found.append(key)
      refine ⟨.ref o, rfl, .inl ⟨rfl, _, SqL.of ho4⟩, .int key, rfl, o, _, _, rfl, rfl, ho4, szl (by rw [List.length_map]; omega), ?_⟩
      -- key = key + 1 + take(draw, wide)
      refine ⟨.int key, rfl, key, 1, rfl, rfl, .ref d, rfl, .int wd, rfl, d, wd, c, ns, rfl, w0, by omega, hD4.put hD noH, fun r H5 r0 r1 hD5 hk5 => ⟨_, r, rfl, rfl, ?_⟩⟩
      refine ⟨key + 1 + r, ks ++ [key], _, rfl, by rw [List.length_append, lk]; rfl, ?_, ?_, by omega, by omega, (e4.put noH).trans (.but hk5), hD5, ?_⟩
      · rw [List.pairwise_append]
        refine ⟨pw, List.pairwise_singleton _ _, fun a ha b hb => ?_⟩
        rw [List.mem_singleton.mp hb]
        exact (bd a ha).2
      · intro j hj
        rcases List.mem_append.mp hj with h | h
        · have := bd j h; omega
        · rw [List.mem_singleton.mp h]; omega
      · rw [hk5 o nod, upd_same, List.map_append]; rfl
    · rintro σ H4 ⟨key, ks, y, rfl, lk, pw, bd, kb0, kb1, e4, hD4, ho4⟩
      exact ⟨.ref o, rfl, q ks o H4 (by omega) ⟨pw, fun j hj => by have := bd j hj; omega⟩ (fun j hj => by have := bd j hj; omega) e4 hD4 noH ho4⟩
end
end TT
namespace TT
open PySem PySem.Spec PyProof.Rows L2
section
variable {P : Program} {w : World} {K : PySem.W.Frag} {mg : Str → Option Value} {base : Heap}
theorem ok_stW1 {f : Addr} {fd : FuncData} {n k : Nat} (F : Fun K "_law_step" "_law_step" s__law_step f fd) (B : Blt mg) (c__law_take : Cal P w K mg base CX0 "_law_take" ["_law_draw", "_law_many"] k spTake) (c__law_of : Cal P w K mg base CX0 "_law_of" ["_law_draw", "_law_some"] k (spOf K)) (c__law_step : Cal P w K mg base CX0 "_law_step" ["_law_draw", "_law_keys_here", "_law_deep"] (n + k) (spPrevSw n)) : FnOk P w K mg base CX0 (n + k + 1) f fd ["_law_draw", "_law_keys_here", "_law_deep"] (spStepW n) := by
  refine F.ok sc__law_step (fun vs H Q E h => ?_) (fun cdv A outer s H vs Q E hr h => ?_)
  · obtain ⟨d, a, ks, c, ns, rfl, _⟩ := h
    rfl
  · obtain ⟨d, a, ks, c, ns, rfl, hA, l0, l1, nad, hD, q⟩ := h
    refine ⟨_, (C8.pss_cut (ps_if (PW.pt (pw_or (pt_cmpR op_eq (pv 2) pe_int (nomark _)) (pw_or1 (pt_cmpR op_gt (pe_cal c__law_take (hr.mono (by omega)) (by rfl) (pa_cons (pv 0) (pa_cons pe_int pa_nil))) pe_int (nomark _)))))
    (pss_one (ps_ret (pe_cal c__law_of (hr.mono (by omega)) (by rfl) (pa_cons (pv 0) (pa_cons (pv 1) pa_nil)))))
    pss_nil)
  (pss_cons (ps_set (i := 3) sc__law_step.nd rfl (Or.inl rfl) (pe_cal c__law_of (hr.mono (by omega)) (by rfl) (pa_cons (pv 0) (pa_cons (pe_lst (pa_cons pe_int (pa_cons pe_int (pa_cons pe_int (pa_cons pe_int (pa_cons (pe_cal c__law_take (hr.mono (by omega)) (by rfl) (pa_cons (pv 0) (pa_cons pe_int pa_nil))) (pa_cons (pe_op op_pow pe_int pe_int) (pa_cons (pe_cal c__law_take (hr.mono (by omega)) (by rfl) (pa_cons (pv 0) (pa_cons (pe_op op_pow pe_int pe_int) pa_nil))) pa_nil)))))))) pa_nil))))
  (pss_cons (ps_setLc (i := 4) (own := [("_law_k", 5)]) (g := gName 5) (by rfl) sc__law_step.nd rfl rfl (sw_true rfl rfl rfl (by decide +kernel)) (pi_range1 (by rfl) B.xrange (pa_cons (pe_cal c__law_take (hr.mono (by omega)) (by rfl) (pa_cons (pv 0) (pa_cons pe_int pa_nil))) pa_nil)) (blkOk_by (own := [("_law_k", 5)]) (N := ["_law_draw", "_law_keys_here", "_law_deep", "_law_count", "_law_steps", "_law_k"]) (sc := defScope s__law_step) (by decide +kernel)) (fun _ _ _ _ _ => (pg_name (i := 5) sc__law_step.nd rfl (Or.inl rfl))) (fun _ _ _ _ _ => pts_nil) (fun _ _ _ _ _ => (pe_cal c__law_step (hr.mono (by omega)) (by rfl) (pa_cons (pv 0) (pa_cons (pv 1) (pa_cons (pe_op op_sub (pv 2) pe_int) pa_nil))))))
  (pss_one (ps_ret (pe_tup (pa_cons pe_str (pa_cons (pv 3) (pa_cons (pe_cal c__law_of (hr.mono (by omega)) (by rfl) (pa_cons (pv 0) (pa_cons (pe_lst (pa_cons (pe_callTy call_tuple_of (by rfl) B.xtuple (by decide +kernel) (pa_cons (pv 4) pa_nil)) (pa_cons (pv 4) pa_nil))) pa_nil))) pa_nil))))))))), ?_⟩
    have key : ∀ H2, Ext d H H2 → Drw c ns H2 d → tCall (spOf K) [] E0 (tCons (tVar 0) (tCons (tVar 1) tNil)) (L2.start ["_law_draw", "_law_keys_here", "_law_deep", "_law_count", "_law_steps", "_law_k"] [.ref d, .ref a, .int (n : Nat)]) H2 Q := fun H2 e2 hD2 => by
      refine ⟨.ref d, rfl, .ref a, rfl, d, a, _, c, ns, rfl, SqL.of (e2 _ _ nad hA), by rw [List.length_map]; exact l0, by rw [List.length_map]; omega, nad, hD2, fun x H3 hx hD3 hk3 => ?_⟩
      obtain ⟨y, hy, rfl⟩ := List.mem_map.mp hx
      exact q (.k y) _ H3 trivial hy (wbn_pos n) (e2.trans (.but hk3)) hD3 rfl
    refine ⟨fun σ H2 => σ = L2.start ["_law_draw", "_law_keys_here", "_law_deep", "_law_count", "_law_steps", "_law_k"] [.ref d, .ref a, .int (n : Nat)] ∧ Ext d H H2 ∧ Drw c ns H2 d ∧ 0 < n, ?_, ?_⟩
    · refine ⟨_, rfl, rfl, _, rfl, ?_⟩
      by_cases hn : n = 0
      · refine iteTd (by rw [hn]; rfl) (iteTd rfl (key H (.refl _ _) hD))
      · refine iteFd (by simpa using hn) ⟨.ref d, rfl, d, 3, c, ns, rfl, by decide, by decide, hD, fun r H2 r0 r1 hD2 hk2 => ⟨_, 0, rfl, rfl, _, rfl, ite2 (fun _ => key H2 (.but hk2) hD2) (fun _ => ⟨rfl, .but hk2, hD2, by omega⟩)⟩⟩
    rintro σ H2 ⟨rfl, e2, hD2, hn⟩
    cases n with
    | zero => omega
    | succ m =>
      obtain ⟨o2, hd2⟩ := hD2.at
      obtain ⟨o0, hd0⟩ := hD.at
      refine ⟨.ref d, rfl, .ref d, rfl, d, 9, c, ns, rfl, by decide, by decide, hD2, fun r3 H3 a0 a1 hD3 hk3 => ⟨10, 30, rfl, rfl, cpow (by decide) (by decide) (by decide), .ref d, rfl, 10, 30, rfl, rfl, cpow (by decide) (by decide) (by decide), d, _, c, ns, rfl, by decide +kernel, by decide +kernel, hD3, fun r4 H4 b0 b1 hD4 hk4 => ⟨sz (by show 7 ≤ 100000; decide), fun l nl => ⟨d, l, _, c, ns, rfl, SqL.of upd_same, by show 0 < 7; decide, by show 7 ≤ 100000; decide, hD4.ne nl, hD4.new nl, fun x H5 hx5 hD5 hk5 => ?_⟩⟩⟩⟩
      have e5 : Ext d H H5 := e2.trans ((Ext.but hk3).trans ((Ext.but hk4).trans ((Ext.of (same_new nl)).trans (.but hk5))))
      obtain ⟨cc, rfl, c0, c1⟩ : ∃ cc, x = V.int cc ∧ 0 ≤ cc ∧ cc ≤ 1000000000000000000000000000000 := by
        have e30 : (10 : Int) ^ (Int.toNat 30) = 1000000000000000000000000000000 := by decide +kernel
        rw [e30] at b1
        simp only [List.mem_cons, List.not_mem_nil, or_false] at hx5
        rcases hx5 with rfl | rfl | rfl | rfl | rfl | rfl | rfl
        · exact ⟨0, rfl, by decide, by decide⟩
        · exact ⟨1, rfl, by decide, by decide⟩
        · exact ⟨2, rfl, by decide, by decide⟩
        · exact ⟨3, rfl, by decide, by decide⟩
        · exact ⟨r3, rfl, a0, by omega⟩
        · exact ⟨_, rfl, by decide +kernel, by decide +kernel⟩
        · exact ⟨r4, rfl, b0, by omega⟩
      refine ⟨.ref d, rfl, d, 4, c, ns, rfl, by decide, by decide, hD5, fun r6 H6 q0 q1 hD6 hk6 => ?_⟩
      obtain ⟨n6, rfl⟩ : ∃ n : Nat, r6 = n := ⟨r6.toNat, by omega⟩
      have e6 : Ext d H H6 := e5.trans (.but hk6)
      refine ⟨_, rfl, by omega, by omega, fun D nD => lc_steps (n := n6) (fun s => s.dLe m ∧ s.inK ks ∧ s.wr ≤ wbn m) hD6 nD (by omega) (fun j H7 Y hj e7 hD7 hY => ⟨rfl, .ref d, rfl, .ref a, rfl, _, rfl, _, 1, rfl, rfl, d, a, ks, c, ns, ?_, (e6.trans e7) _ _ nad hA, l0, l1, nad, hD7, fun s v H8 ds is iw e8 hD8 hS => hY s v H8 ⟨ds, is, iw⟩ e8 hD8 hS⟩) ?_⟩
      · show [V.ref d, V.ref a, V.int (((m + 1 : Nat) : Int) - 1)] = _
        rw [show (((m + 1 : Nat) : Int) - 1) = ((m : Nat) : Int) by omega]
      intro ss ws H7 ls hs e7 hD7 hDD7 hL7
      have e07 := e6.trans e7
      have lw : ws.length ≤ 6 := by rw [hL7.len, ls]; omega
      have nDd := hD6.ne nD
      have nDH : H D = none := by
        obtain ⟨o6, hd6⟩ := hD6.at
        exact e6.free hd0 hd6 nD
      refine ⟨.int cc, rfl, .ref d, rfl, .ref D, rfl, D, ws, rfl, .inl ⟨SqL.of hDD7, fun tp ntp => ⟨.ref D, rfl, sz (by show 2 ≤ 100000; decide), fun l8 nl8 => ?_⟩⟩⟩
      have g1 := same_new (o := .tup ws) ntp
      have g2 := same_new (o := .lst [.ref tp, .ref D]) nl8
      have hD8 := (hD7.same g1).same g2
      refine ⟨d, l8, _, c, ns, rfl, SqL.of upd_same, by show 0 < 2; decide, by show 2 ≤ 100000; decide, (hD7.same g1).ne nl8, hD8, fun x H9 hx9 hD9 hk9 => ?_⟩
      have e79 : Ext d H7 H9 := (Ext.of (g1.trans g2)).trans (.but hk9)
      have fr : ∀ {b : Addr}, H7 b = none → H b = none := fun {b} hb => by
        obtain ⟨o7, hd7⟩ := hD7.at
        exact e07.free hd0 hd7 hb
      obtain ⟨ib, rfl, nib, hib⟩ : ∃ ib, x = V.ref ib ∧ H ib = none ∧ (H9 ib = some (.lst ws) ∨ H9 ib = some (.tup ws)) := by
        simp only [List.mem_cons, List.not_mem_nil, or_false] at hx9
        rcases hx9 with rfl | rfl
        · refine ⟨tp, rfl, fr ntp, .inr ?_⟩
          rw [hk9 tp (hD7.ne ntp)]
          exact g2 _ _ upd_same
        · exact ⟨D, rfl, nDH, .inl (e79 _ _ nDd hDD7)⟩
      refine ⟨sz (by show 3 ≤ 100000; decide), fun ta nta => ?_⟩
      have g3 := same_new (o := .tup [.str "repeat", .int cc, .ref ib]) nta
      have e09 := e07.trans (e79.trans (.of g3))
      refine q (.r cc ss) (.ref ta) _ (dLeL_of fun s h => (hs s h).1) ⟨c0, c1, by omega, inKL_of fun s h => (hs s h).2.1⟩ (by have := wrL_le (ss := ss) (m := wbn m) fun s h => (hs s h).2.2; have := Nat.mul_le_mul_right (wbn m) (show ss.length ≤ 3 by omega); show 1 + wrL ss ≤ 1 + 3 * wbn m; omega) e09 (hD9.same g3) ⟨ta, ib, ws, rfl, nwD_at.mpr ⟨?_, (by simp), upd_same⟩, hib.imp (fun h => nwD_at.mpr ⟨nib, (by simp), g3 _ _ h⟩) (fun h => nwD_at.mpr ⟨nib, (by simp), g3 _ _ h⟩), HL.same (fun b o hb => ?_) _ hL7⟩
      · obtain ⟨o9, hd9⟩ := hD9.at
        exact (e07.trans e79).free hd0 hd9 nta
      · obtain ⟨k1, k2, k3⟩ := nwD_at.mp hb
        have bd : b ≠ d := fun z => by obtain ⟨o6, hd6⟩ := hD6.at; rw [z, hd6] at k1; cases k1
        obtain ⟨o6, hd6⟩ := hD6.at
        exact nwD_at.mpr ⟨e6.free hd0 hd6 k1, (by simp), g3 _ _ (e79 _ _ bd k3)⟩
theorem ok_stW {f : Addr} {fd : FuncData} {k : Nat} (F : Fun K "_law_step" "_law_step" s__law_step f fd) (B : Blt mg) (c__law_take : Cal P w K mg base CX0 "_law_take" ["_law_draw", "_law_many"] k spTake) (c__law_of : Cal P w K mg base CX0 "_law_of" ["_law_draw", "_law_some"] k (spOf K)) (gf : mg "_law_step" = some (.ref f)) (bf : Binds K fd ["_law_draw", "_law_keys_here", "_law_deep"] []) : ∀ n, FnOk P w K mg base CX0 (n + k) f fd ["_law_draw", "_law_keys_here", "_law_deep"] (spPrevSw n)
  | 0 => ⟨fun _ _ _ _ h => h.elim, fun _ _ _ _ _ _ _ _ _ _ _ _ _ h => h.elim⟩
  | n + 1 => by
    have h := ok_stW1 F B c__law_take c__law_of ⟨f, fd, ok_stW F B c__law_take c__law_of gf bf n, gf, F.kp, bf⟩
    rw [show n + 1 + k = n + k + 1 by omega]
    exact h
end
end TT
namespace TT
open PySem PySem.Spec PyProof.Rows L2
section
variable {P : Program} {w : World} {K : PySem.W.Frag} {mg : Str → Option Value} {base : Heap}
theorem ok_histW {f : Addr} {fd : FuncData} {k : Nat} (F : Fun K "_law_history" "_law_history" s__law_history f fd) (B : Blt mg) (c__law_take : Cal P w K mg base CX0 "_law_take" ["_law_draw", "_law_many"] k spTake) (c__law_step : ∀ n : Nat, n ≤ 4 → Cal P w K mg base CX0 "_law_step" ["_law_draw", "_law_keys_here", "_law_deep"] k (spStepW n)) : FnOk P w K mg base CX0 (k + 1) f fd ["_law_draw", "_law_keys_here", "_law_most", "_law_deep"] spHistW := by
  refine F.ok sc__law_history (fun vs H Q E h => ?_) (fun cdv A outer s H vs Q E hr h => ?_)
  · obtain ⟨d, a, ks, most, n, c, ns, rfl, _⟩ := h
    rfl
  · obtain ⟨d, a, ks, most, n, c, ns, rfl, hA, l0, l1, m1, hn, nad, hD, q⟩ := h
    have c__law_step := c__law_step n hn
    refine ⟨_, (pss_one (ps_ret (pe_lc (own := [("_law_k", 4)]) (g := gName 4) (by rfl) sc__law_history.nd (pi_range1 (by rfl) B.xrange (pa_cons (pe_cal c__law_take (hr.mono (by omega)) (by rfl) (pa_cons (pv 0) (pa_cons (pe_op op_add (pv 2) pe_int) pa_nil))) pa_nil)) (blkOk_by (own := [("_law_k", 4)]) (N := ["_law_draw", "_law_keys_here", "_law_most", "_law_deep", "_law_k"]) (sc := defScope s__law_history) (by decide +kernel)) (fun _ _ _ _ _ => (pg_name (i := 4) sc__law_history.nd rfl (Or.inl rfl))) (fun _ _ _ _ _ => pts_nil) (fun _ _ _ _ _ => (pe_cal c__law_step (hr.mono (by omega)) (by rfl) (pa_cons (pv 0) (pa_cons (pv 1) (pa_cons (pv 3) pa_nil)))))))), ?_⟩
    refine ⟨.ref d, rfl, _, rfl, _, 1, rfl, rfl, d, _, c, ns, rfl, by omega, by omega, hD, fun r2 H2 a0 a1 hD2 hk2 => ?_⟩
    obtain ⟨n2, rfl⟩ : ∃ n : Nat, r2 = n := ⟨r2.toNat, by omega⟩
    have e2 : Ext d H H2 := .but hk2
    refine ⟨_, rfl, by omega, by omega, fun D nD => lc_steps (n := n2) (fun s => s.dLe n ∧ s.inK ks ∧ s.wr ≤ wbn n) hD2 nD (by omega) (fun j H7 Y hj e7 hD7 hY => ⟨rfl, .ref d, rfl, .ref a, rfl, _, rfl, d, a, ks, c, ns, rfl, (e2.trans e7) _ _ nad hA, l0, l1, nad, hD7, fun s v H8 ds is iw e8 hD8 hS => hY s v H8 ⟨ds, is, iw⟩ e8 hD8 hS⟩) ?_⟩
    intro ss ws H7 ls hs e7 hD7 hDD7 hL7
    obtain ⟨o0, hd0⟩ := hD.at
    obtain ⟨o2, hd2⟩ := hD2.at
    exact q ss ws D H7 (by omega) (dLeL_of fun s h => (hs s h).1) (inKL_of fun s h => (hs s h).2.1) (by have := wrL_le (ss := ss) (m := wbn n) fun s h => (hs s h).2.2; have := Nat.mul_le_mul_right (wbn n) (show ss.length ≤ most by omega); omega) (e2.trans e7) hD7 (e2.free hd0 hd2 nD) hDD7 (HL.same nwD_same _ hL7)
end
end TT
namespace TT
open PySem PySem.Spec PyProof.Rows L2
section
variable {P : Program} {w : World} {K : PySem.W.Frag} {mg : Str → Option Value} {base : Heap}
theorem ok_wrX1 {f : Addr} {fd : FuncData} {n : Nat} (F : Fun K "_law_written" "_law_written" s__law_written f fd) (B : Blt mg) (c__law_written : Cal P w K mg base CX0 "_law_written" ["_law_steps"] n (spPrevWX K n)) : FnOk P w K mg base CX0 (n + 1) f fd ["_law_steps"] (spWrX K n) := by
  refine F.ok sc__law_written (fun vs H Q E h => ?_) (fun cdv A outer s H vs Q E hr h => ?_)
  · obtain ⟨b, vs, ss, rfl, _⟩ := h
    rfl
  · obtain ⟨b, vs, ss, rfl, hS, hL, hd, hw, q⟩ := h
    have hl : ss.length ≤ 30000 := Nat.le_trans (wr_tx ss) hw
    refine ⟨_, (pss_one (ps_ret (pe_callB (cr_sum rfl) (by rfl) B.xsum (by decide +kernel) (pa_cons (pe_lc (own := [("_law_step_here", 1)]) (g := gName 1) (by rfl) sc__law_written.nd (pi_sq (pv 0)) (blkOk_by (own := [("_law_step_here", 1)]) (N := ["_law_steps", "_law_step_here"]) (sc := defScope s__law_written) (by decide +kernel)) (fun _ _ _ _ _ => (pg_name (i := 1) sc__law_written.nd rfl (Or.inl rfl))) (fun _ _ _ _ _ => pts_nil) (fun _ _ _ _ _ => (pe_ifExp (pt_val (pe_callB (call_isiN (K := K) rfl) (by rfl) B.xisinstance (by decide +kernel) (pa_cons (pv 1) (pa_cons (pe_bltn (v := .ty "int") (by rfl) B.xint (by decide +kernel) rfl) pa_nil)))) pe_int (pe_op op_add pe_int (pe_cal c__law_written (hr.mono (by omega)) (by rfl) (pa_cons (pe_ix (ix_tupK (K := K) rfl) (pv 1) pe_int (fun _ _ => rfl)) pa_nil)))))) pa_nil)))), ?_⟩
    refine ⟨.ref b, rfl, b, rfl, rd_sq hS fun J Gw w hG D nD => lc_it w (fun i H3 => Same H H3 ∧ H3 D = some (.lst (((ss.take i).map fun s => ((s.wr : Nat) : Int)).map V.int))) ⟨same_new nD, upd_same⟩ (fun i H3 _ h => hG H3 h.1) ?_ ?_⟩
    · rintro i v Hx H3 hi3 ⟨e3, hD3⟩ ⟨rfl, hv⟩
      have hil : i < ss.length := by rw [← hL.len]; exact hi3
      obtain ⟨s0, hs, hv⟩ := hL.get hv
      have hm := List.mem_of_getElem? hs
      have ds := dLeL_mem hd hm
      have vS := HP.same e3 s0 hv
      have lt : ss.take (i + 1) = ss.take i ++ [s0] := by rw [List.take_add_one, hs]; rfl
      have lz : (((ss.take i).map fun s => ((s.wr : Nat) : Int)).map V.int).length < 50000 := by rw [List.length_map, List.length_map, List.length_take]; omega
      cases s0 with
      | k x =>
        have ev : v = .int x := vS
        subst ev
        refine ⟨rfl, .int x, rfl, ⟨_, _, _, _, true, rfl, .ty _, .base (.int x), kit_ty (by decide +kernel), _, rfl, iteTd rfl ⟨_, hD3, szl (by omega), Same.put e3 nD, ?_⟩⟩⟩
        rw [upd_same, lt, List.map_append, List.map_append]; rfl
      | r c inner =>
        obtain ⟨sa, ib, ivs, rfl, hsa, hib, hsi⟩ := vS
        have wi : wrL inner ≤ wrL ss := by
          have h1 := wrL_take hs
          have h2 := wrL_take_le ss (i + 1)
          have h3 : (S.r c inner).wr = 1 + wrL inner := rfl
          omega
        cases n with
        | zero => exact ds.elim
        | succ m =>
          refine ⟨rfl, .ref sa, rfl, ⟨_, _, _, _, false, rfl, .ty _, .base (.tup hsa), kit_ty (by decide +kernel), _, rfl, iteFd rfl ?_⟩⟩
          refine rd_ixT 2 rfl (SqT.of hsa) rfl ⟨ib, ivs, inner, rfl, .inr (SqT.of hib), hsi, ds, by omega, fun H4 e4 => ⟨1, _, rfl, rfl, _, e4 _ _ hD3, szl (by omega), Same.put (e3.trans e4) nD, ?_⟩⟩
          rw [upd_same, lt, List.map_append, List.map_append]
          show some (HO.lst (_ ++ [V.int (1 + ((wrL inner : Nat) : Int))])) = some (HO.lst (_ ++ [V.int ((1 + wrL inner : Nat) : Int)]))
          rw [show (1 + ((wrL inner : Nat) : Int)) = ((1 + wrL inner : Nat) : Int) by omega]
    · rintro H3 ⟨e3, hD3⟩
      rw [hL.len, List.take_length] at hD3
      refine ⟨D, _, rfl, SqL.of hD3, ?_⟩
      rw [wr_sum]
      exact q H3 e3
theorem ok_wrX {f : Addr} {fd : FuncData} (F : Fun K "_law_written" "_law_written" s__law_written f fd) (B : Blt mg) (gf : mg "_law_written" = some (.ref f)) (bf : Binds K fd ["_law_steps"] []) : ∀ n, FnOk P w K mg base CX0 n f fd ["_law_steps"] (spPrevWX K n)
  | 0 => ⟨fun _ _ _ _ h => h.elim, fun _ _ _ _ _ _ _ _ _ _ _ _ _ h => h.elim⟩
  | n + 1 => ok_wrX1 F B ⟨f, fd, ok_wrX F B gf bf n, gf, F.kp, bf⟩
end
end TT
namespace TT
open PySem PySem.Spec PyProof.Rows L2
section
variable {P : Program} {w : World} {K : PySem.W.Frag} {mg : Str → Option Value} {base : Heap}
theorem ok_lNum {f : Addr} {fd : FuncData} {k : Nat} (F : Fun K "_law_number" "_law_number" s__law_number f fd) (B : Blt mg) : FnOk P w K mg base CX0 (k + 1) f fd ["_law_text"] spLNum := by
  refine F.ok sc__law_number (fun vs H Q E h => ?_) (fun cdv A outer s H vs Q E hr h => ?_)
  · obtain ⟨l, rfl, _⟩ := h
    rfl
  · obtain ⟨l, rfl, ha, hl, q1, q2⟩ := h
    refine ⟨_, (C8.pss_cut (ps_set (i := 1) sc__law_number.nd rfl (Or.inl rfl) (pe_ifExp (pt_cmpR op_eq (pe_slice sl_str (pv 0) po_none (po_some pe_int)) pe_str (nomark _)) (pe_slice sl_str (pv 0) (po_some pe_int) po_none) (pv 0)))
  (pss_cons (ps_if (PW.pt (pw_or (pt_not (pt_chain op_le op_le pe_int (pe_callB call_len_str (by rfl) B.xlen PySem.boot_len (pa_cons (pv 1) pa_nil)) pe_int)) (pw_or1 (pt_not (pt_val (pe_callB (cr_all rfl) (by rfl) B.xall (by decide +kernel) (pa_cons (pe_lc (own := [("_law_sign", 2)]) (g := gName 2) (by rfl) sc__law_number.nd (pi_str (pv 1)) (blkOk_by (own := [("_law_sign", 2)]) (N := ["_law_text", "_law_digits", "_law_sign"]) (sc := defScope s__law_number) (by decide +kernel)) (fun _ _ _ _ _ => (pg_name (i := 2) sc__law_number.nd rfl (Or.inl rfl))) (fun _ _ _ _ _ => pts_nil) (fun _ _ _ _ _ => (pe_cmpR op_inS (pv 2) pe_str (by rfl)))) pa_nil)))))))
    (pss_one (ps_ret pe_non))
    pss_nil)
  (pss_one (ps_ret (pe_ifExp (pt_cmpR op_eq (pe_callTy call_str_int (by rfl) B.xstr (by decide +kernel) (pa_cons (pe_callTy call_int_str (by rfl) B.xint (by decide +kernel) (pa_cons (pv 0) pa_nil)) pa_nil)) (pv 0) (nomark _)) (pe_callTy call_int_str (by rfl) B.xint (by decide +kernel) (pa_cons (pv 0) pa_nil)) pe_non))))), ?_⟩
    have am : AscL (mns l) := fun c hc => ha c (mns_sub hc)
    have lm := mns_len l
    have sl : (SX.S l).length ≤ sizeLine := by rw [SX.S_len]; exact sz (by omega)
    have sn : (SX.S (mns l)).length ≤ sizeLine := by rw [SX.S_len]; exact sz (by omega)
    refine ⟨fun σ H1 => σ = [some (.str (SX.S l)), some (.str (SX.S (mns l))), none] ∧ H1 = H, ?_, ?_⟩
    · refine ⟨.str (SX.S l), rfl, ?_⟩
      dsimp only [tNoPart, tPart]
      refine ⟨1, rfl, SX.S l, rfl, sl, ?_⟩
      rw [show cutS (SX.S l) none (some 1) = SX.S (l.take 1) from cut_hiS l 1]
      refine ⟨rfl, _, rfl, ?_⟩
      rw [show decide (V.str (SX.S (l.take 1)) = V.str "-") = decide (l.take 1 = [45]) from dec_S (l.take 1) [45]]
      by_cases d : l.take 1 = [45]
      · refine iteTd (decide_eq_true d) ⟨.str (SX.S l), rfl, ?_⟩
        dsimp only [tNoPart, tPart]
        refine ⟨1, rfl, SX.S l, rfl, sl, ?_⟩
        rw [show cutS (SX.S l) (some 1) none = SX.S (l.drop 1) from cut_loS l 1, ← (mns_dash d).1]
        exact ⟨rfl, rfl⟩
      · refine iteFd (decide_eq_false d) ⟨.str (SX.S l), rfl, ?_, rfl⟩
        rw [(mns_nodash d).1]; rfl
    rintro σ H1 ⟨rfl, rfl⟩
    have lc0 : (SX.S (mns l)).cps.toList = mns l := rfl
    refine ⟨.str (SX.S (mns l)), rfl, _, rfl, sn, _, _, rfl, rfl, _, rfl, ?_⟩
    rw [SX.S_len]
    have none_ : pI l = none → ∀ {H2 : Hp}, Same H1 H2 → Q .non H2 := fun e {H2} x => q2 e H2 x
    by_cases h1 : 1 ≤ (mns l).length
    case neg =>
      refine iteFd (decide_eq_false (by omega)) ⟨false, rfl, iteTd rfl (none_ (pI_dig am ?_) (.refl H1))⟩
      rw [isdigit_S am]
      cases q : mns l with
      | nil => rfl
      | cons c r => rw [q, List.length_cons] at h1; omega
    refine iteTd (decide_eq_true (by omega)) ⟨_, _, rfl, rfl, _, rfl, ?_⟩
    by_cases h31 : (mns l).length ≤ 31
    case neg => exact iteTd (by rw [decide_eq_false (by omega)]; rfl) (none_ (pI_long (by omega)) (.refl H1))
    refine iteFd (by rw [decide_eq_true (by omega)]; rfl) ?_
    refine ⟨.str (SX.S (mns l)), rfl, _, rfl, fun D nD => ?_⟩
    refine lc_strT (x := SX.S (mns l)) (fun i H3 => Same H1 H3 ∧ H3 D = some (.lst ((((mns l).take i).map dgB).map V.bl))) ⟨same_new nD, upd_same⟩ ?_ ?_
    · rintro i c H3 hc ⟨e3, hD⟩
      have hc : (mns l)[i]? = some c := hc
      have ht : (mns l).take (i + 1) = (mns l).take i ++ [c] := by rw [List.take_add_one, hc]; rfl
      refine ⟨rfl, .str ⟨#[c]⟩, rfl, c, _, rfl, rfl, ?_⟩
      rw [tens_mem]
      exact ⟨_, hD, szl (by rw [List.length_map, List.length_map, List.length_take]; omega), Same.put e3 nD, by rw [upd_same, ht, List.map_append, List.map_append]; rfl⟩
    · rintro H3 ⟨e3, hD⟩
      rw [lc0, List.take_length] at hD
      refine ⟨D, _, rfl, SqL.of hD, ?_⟩
      have ne : mns l ≠ [] := fun z => by rw [z] at h1; exact absurd h1 (by decide)
      have ea : (((mns l).map dgB).all id) = (mns l).all dgB := by rw [List.all_map]; rfl
      rw [ea]
      refine ⟨_, rfl, ?_⟩
      by_cases ad : (mns l).all dgB = true
      case neg =>
        rw [Bool.not_eq_true] at ad
        refine iteTd (by rw [ad]; rfl) (none_ (pI_dig am ?_) e3)
        rw [isdigit_S am, ad, Bool.and_false]
      refine iteFd (by rw [ad]; rfl) ?_
      have ev := pI_val ad ne h31
      have v31 := valI_31 (all_dg.mp ad) ne h31
      have l1 : l.length ≤ 40 := by
        have : l.length ≤ (mns l).length + 1 := by
          unfold mns
          split
          · rw [List.length_cons]; exact Nat.le_refl _
          · exact Nat.le_succ _
        omega
      have iv := int_any (all_dg.mp ad) ne (by omega)
      refine ⟨.str (SX.S l), rfl, SX.S l, valI l, rfl, iv, by rw [SX.S_len]; omega, valI l, rfl, ?_, ?_⟩
      · have : (valI l).natAbs.log2 < 1920 := by
          by_cases z : (valI l).natAbs = 0
          · rw [z]; decide
          · rw [Nat.log2_lt z]
            have : (10 : Nat) ^ 31 ≤ 2 ^ 1920 := by decide +kernel
            omega
        exact this
      refine ⟨.str (SX.S l), rfl, rfl, _, rfl, ?_⟩
      have et : decide (V.str (Str.ofString (toString (valI l))) = V.str (SX.S l)) = decide (dg (valI l) = l) := by
        rw [← dec_S, ← dg_text]
      rw [et]
      by_cases e : dg (valI l) = l
      · rw [if_pos e] at ev
        exact iteTd (decide_eq_true e) ⟨.str (SX.S l), rfl, SX.S l, valI l, rfl, iv, by rw [SX.S_len]; omega, q1 _ ev H3 e3⟩
      · rw [if_neg e] at ev
        exact iteFd (decide_eq_false e) (none_ ev e3)
end
end TT
namespace TT
open PySem PySem.Spec PyProof.Rows L2
section
variable {P : Program} {w : World} {K : PySem.W.Frag} {mg : Str → Option Value} {base : Heap}
theorem ok_lIts {f : Addr} {fd : FuncData} {k : Nat} (F : Fun K "_law_items" "_law_items" s__law_items f fd) (B : Blt mg) : FnOk P w K mg base CX0 (k + 1) f fd ["_law_text"] spLIts := by
  refine F.ok sc__law_items (fun vs H Q E h => ?_) (fun cdv A outer s H vs Q E hr h => ?_)
  · obtain ⟨T, rfl, _⟩ := h
    rfl
  · obtain ⟨T, rfl, hl, q⟩ := h
    refine ⟨_, (pss_cons (ps_par (i := 1) (j := 2) rfl sc__law_items.nd rfl rfl (by decide) rfl rfl (pa_cons (pe_lst (pa_cons pe_str pa_nil)) (pa_cons pe_int pa_nil)) rfl)
  (pss_cons (ps_for PassesOwn.never rfl (pi_str (pv 0)) (pg_name (i := 3) sc__law_items.nd rfl (Or.inl rfl))
    (pss_cons (ps_set (i := 2) sc__law_items.nd rfl (Or.inl rfl) (pe_op op_sub (pe_op op_add (pv 2) (pe_callTy call_int1 (by rfl) B.xint (by decide +kernel) (pa_cons (pe_cmpR op_eq (pv 3) pe_str (nomark _)) pa_nil))) (pe_callTy call_int1 (by rfl) B.xint (by decide +kernel) (pa_cons (pe_cmpR op_eq (pv 3) pe_str (nomark _)) pa_nil))))
  (pss_one (ps_if (PW.pt (pw_and (pt_cmpR op_eq (pv 3) pe_str (nomark _)) (pw_and1 (pt_cmpR op_eq (pv 2) pe_int (nomark _)))))
    (pss_one (ps_expr (pe_bm PySem.F.plainAttrs_list PySem.F.slot_list_append PySem.F.type_list_append mt_append (pv 1) (pa_cons pe_str pa_nil))))
    (pss_one (ps_asg (pe_op op_add_str (pe_ix ix_list (pv 1) (pe_un un_neg pe_int) (fun _ _ => rfl)) (pv 3)) (pg_sub (pv 1) (pe_un un_neg pe_int) set_list)))))))
  (pss_one (ps_ret (pv 1))))), ?_⟩
    have sT : (SX.S T).cps.size = T.length := SX.S_len T
    refine ⟨sz (by show 1 ≤ 100000; decide), fun l nl => ⟨_, _, rfl, ?_⟩⟩
    have g0 := same_new (o := .lst [.str ""]) nl
    refine ⟨.str (SX.S T), rfl, SX.S T, rfl, for_it walk_strT (fun i σ H3 => ∃ y3, σ = [some (.str (SX.S T)), some (.ref l), some (.int (itR it0 (T.take i)).lv), y3] ∧ Same H H3 ∧ H3 l = some (.lst (itV (itR it0 (T.take i))))) ⟨none, rfl, g0, upd_same⟩ (fun _ _ _ _ _ => trivial) ?_ ?_⟩
    · rintro i v σ Hx H3 hi ⟨y3, rfl, e3, hl3⟩ ⟨rfl, c, hc, rfl⟩
      have hc : T[i]? = some c := by rw [← Array.getElem?_toList] at hc; exact hc
      rw [itR_take hc]
      have n1 := itR_len (T.take i) it0
      have n2 := itR_cur (T.take i) it0
      have n1 : (itR it0 (T.take i)).done.length ≤ 20000 := by
        rw [List.length_take] at n1
        have : (it0 : ItSt).done.length = 0 := rfl
        omega
      have n2 : (itR it0 (T.take i)).cur.length ≤ 20000 := by
        rw [List.length_take] at n2
        have : (it0 : ItSt).cur.length = 0 := rfl
        omega
      generalize itR it0 (T.take i) = st at hl3 n1 n2 ⊢
      have d40 : decide (V.str (⟨#[c]⟩ : Str) = V.str "(") = decide (c = 40) := dec_1 c 40
      have d41 : decide (V.str (⟨#[c]⟩ : Str) = V.str ")") = decide (c = 41) := dec_1 c 41
      have d32 : decide (V.str (⟨#[c]⟩ : Str) = V.str " ") = decide (c = 32) := dec_1 c 32
      refine ⟨.int st.lv, rfl, .str ⟨#[c]⟩, rfl, rfl, .inr ⟨_, rfl, _, _, rfl, rfl, .str ⟨#[c]⟩, rfl, rfl, .inr ⟨_, rfl, _, _, rfl, rfl, ?_⟩⟩⟩
      rw [d40, d41]
      have el : st.lv + (if decide (c = 40) = true then 1 else 0) - (if decide (c = 41) = true then 1 else 0) = lvS st.lv c := by
        unfold lvS
        simp only [decide_eq_true_eq]
      dsimp only
      rw [el]
      have li : (itV st).length = st.done.length + 1 := by unfold itV; rw [List.length_map, List.length_append]; rfl
      have vi : itV st = (st.done.map fun l => V.str (SX.S l)) ++ [V.str (SX.S st.cur)] := by unfold itV; rw [List.map_append]; rfl
      have plain : ¬ (c = 32 ∧ lvS st.lv c = 0) → itS st c = ⟨st.done, st.cur ++ [c], lvS st.lv c⟩ := fun z => by unfold itS; rw [if_neg z]
      have cut : c = 32 ∧ lvS st.lv c = 0 → itS st c = ⟨st.done ++ [st.cur], [], lvS st.lv c⟩ := fun z => by unfold itS; rw [if_pos z]
      have last : atI (itV st) (-1) = some (V.str (SX.S st.cur)) := by
        rw [vi, atI_m1v]
      have app : (SX.S st.cur) ++ (⟨#[c]⟩ : Str) = SX.S (st.cur ++ [c]) := by
        show (⟨st.cur.toArray ++ #[c]⟩ : Str) = _
        simp [SX.S]
      have put : ¬ (c = 32 ∧ lvS st.lv c = 0) → tAsg
          (tOp (fun x y H Q => ∃ i j, x = V.str i ∧ y = V.str j ∧ i.length + j.length ≤ sizeLine ∧ Q (V.str (i ++ j)) H) (tOp (rIxL K) (tVar 1) (tUn (rU fun i => V.int (-i)) (tC (V.int 1)))) (tVar 3))
          (gSub (tVar 1) (tUn (rU fun i => V.int (-i)) (tC (V.int 1))) rSetL)
          { nx := fun σ H3 => ∃ y3, σ = [some (V.str (SX.S T)), some (V.ref l), some (V.int (itS st c).lv), y3] ∧ Same H H3 ∧ H3 l = some (HO.lst (itV (itS st c))), rt := Q, bk := tRet (tVar 1) { nx := fun x H' => Q V.non H', rt := Q },
            ct := fun σ H3 => ∃ y3, σ = [some (V.str (SX.S T)), some (V.ref l), some (V.int (itS st c).lv), y3] ∧ Same H H3 ∧ H3 l = some (HO.lst (itV (itS st c))) }
          (([some (V.str (SX.S T)), some (V.ref l), some (V.int st.lv), y3].set 3 (some (V.str { cps := #[c] }))).set 2 (some (V.int (lvS st.lv c)))) H3 := fun z => by
        refine ⟨.ref l, rfl, 1, rfl, l, itV st, -1, .str (SX.S st.cur), rfl, rfl, SqL.of hl3, last, ?_⟩
        refine ⟨.str ⟨#[c]⟩, rfl, SX.S st.cur, ⟨#[c]⟩, rfl, rfl, by rw [SX.S_len]; exact sz (by show st.cur.length + 1 ≤ 100000; omega), ?_⟩
        refine ⟨.ref l, rfl, 1, rfl, l, itV st, -1, st.done.length, rfl, rfl, hl3, by rw [li, ixN_m1T (Nat.succ_pos _)]; rfl, ?_⟩
        refine ⟨_, by rw [plain z]; rfl, Same.put e3 nl, ?_⟩
        rw [upd_same, app, plain z, vi]
        unfold itV
        rw [List.map_append, List.set_append_right _ _ (by rw [List.length_map]; exact Nat.le_refl _), List.length_map, Nat.sub_self]
        rfl
      refine ⟨.str ⟨#[c]⟩, rfl, rfl, _, rfl, ?_⟩
      rw [d32]
      by_cases z32 : c = 32
      · refine iteTd (decide_eq_true z32) ⟨.int (lvS st.lv c), rfl, rfl, _, rfl, ?_⟩
        by_cases z0 : lvS st.lv c = 0
        · refine iteTd (by rw [z0]; rfl) ?_
          refine ⟨.ref l, rfl, .inl ⟨rfl, _, SqL.of hl3⟩, l, itV st, .str "", rfl, rfl, hl3, szl (by rw [li]; omega), _, by rw [cut ⟨z32, z0⟩]; rfl, Same.put e3 nl, ?_⟩
          rw [upd_same, cut ⟨z32, z0⟩]
          unfold itV
          rw [List.map_append (f := fun l => V.str (SX.S l)) (l₁ := st.done ++ [st.cur])]
          rfl
        · exact iteFd (decide_eq_false fun z => z0 (V.int.inj z)) (put fun z => z0 z.2)
      · exact iteFd (decide_eq_false z32) (put fun z => z32 z.1)
    · rintro σ H3 ⟨y3, rfl, e3, hl3⟩
      rw [sT, List.take_length] at hl3
      exact ⟨.ref l, rfl, q l H3 e3 nl hl3⟩
end
end TT
namespace TT
open PySem PySem.Spec PyProof.Rows L2
section
variable {P : Program} {w : World} {K : PySem.W.Frag} {mg : Str → Option Value} {base : Heap}
theorem ok_lRead1 {f : Addr} {fd : FuncData} {n k : Nat} (F : Fun K "_law_read" "_law_read" s__law_read f fd) (B : Blt mg) (c__law_read : Cal P w K mg base CX0 "_law_read" ["_law_text", "_law_level"] (n + k) (spPrevLR n)) (c__law_items : Cal P w K mg base CX0 "_law_items" ["_law_text"] k spLIts) (c__law_number : Cal P w K mg base CX0 "_law_number" ["_law_text"] k spLNum) : FnOk P w K mg base CX0 (n + k + 1) f fd ["_law_text", "_law_level"] (spLRead n) := by
  refine F.ok sc__law_read (fun vs H Q E h => ?_) (fun cdv A outer s H vs Q E hr h => ?_)
  · obtain ⟨T, lv, rfl, _⟩ := h
    rfl
  · obtain ⟨T, lv, rfl, hn, ha, hl, q1, q2⟩ := h
    refine ⟨_, (pss_cons (ps_if (pt_cmpR op_eq (pv 0) pe_str (nomark _))
    (pss_one (ps_ret (pe_lst pa_nil)))
    pss_nil)
  (pss_cons (ps_set (i := 2) sc__law_read.nd rfl (Or.inl rfl) (pe_lst pa_nil))
  (pss_cons (ps_for PassesOwn.never rfl (pi_list (pe_cal c__law_items (hr.mono (by omega)) (by rfl) (pa_cons (pv 0) pa_nil))) (pg_name (i := 3) sc__law_read.nd rfl (Or.inl rfl))
    (pss_cons (ps_set (i := 4) sc__law_read.nd rfl (Or.inl rfl) (pe_ix ix_list (pe_split (pv 3) pe_str) pe_int (fun _ _ => rfl)))
  (pss_cons (ps_set (i := 5) sc__law_read.nd rfl (Or.inl rfl) (pe_cal c__law_number (hr.mono (by omega)) (by rfl) (pa_cons (pv 4) pa_nil)))
  (pss_cons (ps_if (pt_cmp (pc_isN (pv 5)))
    (pss_one (ps_ret pe_non))
    pss_nil)
  (pss_one (ps_if (pt_cmpR op_eq (pv 4) (pv 3) (nomark _))
    (pss_cons (ps_if (pt_cmpR op_gt (pe_callB call_abs (by rfl) B.xabs (by decide +kernel) (pa_cons (pv 5) pa_nil)) (pe_op op_pow pe_int pe_int) (nomark _))
    (pss_one (ps_ret pe_non))
    pss_nil)
  (pss_one (ps_expr (pe_bm PySem.F.plainAttrs_list PySem.F.slot_list_append PySem.F.type_list_append mt_append (pv 2) (pa_cons (pv 5) pa_nil)))))
    (pss_cons (ps_set (i := 6) sc__law_read.nd rfl (Or.inl rfl) (pe_ifExp (PW.pt (pw_and (pt_cmpR op_lt (pv 1) pe_int (nomark _)) (pw_and1 (pt_cmpR op_eq (pe_slice sl_str (pv 3) (po_some (pe_un un_neg pe_int)) po_none) pe_str (nomark _))))) (pe_cal c__law_read (hr.mono (by omega)) (by rfl) (pa_cons (pe_slice sl_str (pv 3) (po_some (pe_op op_add (pe_callB call_len_str (by rfl) B.xlen PySem.boot_len (pa_cons (pv 4) pa_nil)) pe_int)) (po_some (pe_un un_neg pe_int))) (pa_cons (pe_op op_add (pv 1) pe_int) pa_nil))) pe_non))
  (pss_cons (ps_if (PW.pt (pw_or (pt_cmp (pc_isN (pv 6))) (pw_or1 (pt_not (pt_chain op_le op_le pe_int (pv 5) (pe_op op_pow pe_int pe_int))))))
    (pss_one (ps_ret pe_non))
    pss_nil)
  (pss_one (ps_expr (pe_bm PySem.F.plainAttrs_list PySem.F.slot_list_append PySem.F.type_list_append mt_append (pv 2) (pa_cons (pe_tup (pa_cons pe_str (pa_cons (pv 5) (pa_cons (pe_callTy call_tuple_of (by rfl) B.xtuple (by decide +kernel) (pa_cons (pv 6) pa_nil)) pa_nil)))) pa_nil))))))))))))
  (pss_one (ps_ret (pv 2)))))), ?_⟩
    refine ⟨.str (SX.S T), rfl, rfl, _, rfl, ?_⟩
    rw [show decide (V.str (SX.S T) = V.str "") = decide (T = []) from dec_S T []]
    by_cases tz : T = []
    · exact iteTd (decide_eq_true tz) ⟨Nat.zero_le _, fun p np => q1 [] tz trivial trivial p [] _ (same_new np) np upd_same rfl⟩
    refine iteFd (decide_eq_false tz) ⟨Nat.zero_le _, fun fo nfo => ?_⟩
    have g0 := same_new (o := .lst []) nfo
    refine ⟨.str (SX.S T), rfl, T, rfl, hl, fun pi H1 e1 npi hpi => ?_⟩
    have hfo1 := e1 _ _ (upd_same (H := H) (a := fo) (o := .lst []))
    have e01 := g0.trans e1
    have pf : pi ≠ fo := fun z => by rw [z, upd_same] at npi; cases npi
    have dPow : ∀ s : S, s.ok → s.dLe n → True := fun _ _ _ => trivial
    refine ⟨pi, rfl, ⟨_, SqL.of hpi⟩, for_list (xs := (itsF T).map fun l => V.str (SX.S l)) (fun i σ H3 => ∃ y3 y4 y5 y6 done vs, σ = [some (.str (SX.S T)), some (.int (lv : Nat)), some (.ref fo), y3, y4, y5, y6] ∧ Ext fo H1 H3 ∧ H3 fo = some (.lst vs) ∧ HPL H3 done vs ∧ (itsF T).take i = done.map S.tx ∧ okL done ∧ dLeL done n) ⟨none, none, none, none, [], [], rfl, .refl _ _, hfo1, rfl, rfl, trivial, trivial⟩ ?_ ?_ ?_⟩
    · rintro i σ H3 _ ⟨_, _, _, _, _, _, _, x3, _⟩
      exact SqL.of (x3 _ _ pf hpi)
    · rintro i v σ H3 hv ⟨y3, y4, y5, y6, done, vs, rfl, x3, hfo3, hP, ht, od, dd⟩
      rw [List.getElem?_map] at hv
      obtain ⟨it, hit, rfl⟩ := Option.map_eq_some_iff.mp hv
      have mit := List.mem_of_getElem? hit
      have lit := its_bd it mit
      have ait : AscL it := fun c hc => ha c (its_mem it mit hc)
      -- none of the texts of steps is this one
      have bad : (¬ ∃ s : S, it = s.tx ∧ s.ok ∧ s.dLe n) → ¬ ∃ ss, T = txT ss ∧ okL ss ∧ dLeL ss n := fun nb ⟨ss, e, o, d⟩ => by
        have ne : ss ≠ [] := fun z => tz (by rw [e, z]; rfl)
        rw [e, its_tx ne, List.getElem?_map] at hit
        obtain ⟨s, hs, e2⟩ := Option.map_eq_some_iff.mp hit
        have ms := List.mem_of_getElem? hs
        exact nb ⟨s, e2.symm, okL_mem o ms, dLeL_mem d ms⟩
      have sit : (SX.S it).length + 2 ≤ sizeLine := by rw [SX.S_len]; exact sz (by omega)
      have sit0 : (SX.S it).length ≤ sizeLine := by omega
      obtain ⟨stl, est⟩ := hd2_split it
      have lhd : (hd2 it).length ≤ it.length := by
        rcases hd2_or it with z | ⟨r, z⟩
        · rw [z]; exact Nat.le_refl _
        · have := congrArg List.length z
          rw [List.length_append] at this
          omega
      have ahd : AscL (hd2 it) := fun c hc => by
        rcases hd2_or it with z | ⟨r, z⟩
        · exact ait c (by rw [← z]; exact hc)
        · exact ait c (by rw [z]; exact List.mem_append_left _ hc)
      have back : ∀ {H' : Hp}, Ext fo H1 H' → Same H H' := fun {H'} x a o h => x _ _ (fun z => by rw [z, nfo] at h; cases h) (e01 _ _ h)
      have nT : (itsF T).length ≤ 20001 := Nat.le_trans (its_len T) (by omega)
      have ldone : done.length ≤ 20001 := by
        have := congrArg List.length ht
        rw [List.length_map, List.length_take] at this
        omega
      have lvs : vs.length = done.length := hP.len
      have step : ∀ (s : S) (v : V) (H4 : Hp) (y5 y6 : Option V), it = s.tx → s.ok → s.dLe n → Ext fo H1 H4 → H4 fo = some (.lst vs) → HPL H4 done vs → HP H4 s v →
          ∃ y3 y4 y5' y6' done' vs', [some (.str (SX.S T)), some (.int (lv : Nat)), some (.ref fo), some (V.str (SX.S it)), some (V.str (SX.S (hd2 it))), y5, y6] = [some (.str (SX.S T)), some (.int (lv : Nat)), some (.ref fo), y3, y4, y5', y6'] ∧ Ext fo H1 (upd H4 fo (.lst (vs ++ [v]))) ∧ (upd H4 fo (.lst (vs ++ [v]))) fo = some (.lst vs') ∧ HPL (upd H4 fo (.lst (vs ++ [v]))) done' vs' ∧ (itsF T).take (i + 1) = done'.map S.tx ∧ okL done' ∧ dLeL done' n := fun s v H4 y5 y6 es os ds x4 hfo4 hP4 hv => by
        refine ⟨_, _, _, _, done ++ [s], vs ++ [v], rfl, fun a o n h => by rw [upd_ne n]; exact x4 _ _ n h, upd_same, HPL.put hfo4 _ (HPL.snoc hv hP4), ?_, ?_, ?_⟩
        · rw [List.take_add_one, ht, hit, List.map_append]
          show _ ++ [it] = _ ++ [s.tx]
          rw [es]
        · clear ht hP hP4 lvs ldone
          induction done with
          | nil => exact ⟨os, trivial⟩
          | cons a as ih => exact ⟨od.1, ih od.2 dd.2⟩
        · clear ht hP hP4 lvs ldone
          induction done with
          | nil => exact ⟨ds, trivial⟩
          | cons a as ih => exact ⟨dd.1, ih od.2 dd.2⟩
      refine ⟨.str (SX.S it), rfl, ⟨_, rfl⟩, SX.S it, "*(", rfl, rfl, rfl, sit, fun ps nps => ⟨ps, _, 0, .str (SX.S (hd2 it)), rfl, rfl, SqL.of upd_same, ?_, ?_⟩⟩
      · have : Txt.split (SX.S it) "*(" = SX.S (hd2 it) :: stl := est
        rw [this]; exact atI_nat (j := 0) rfl
      have g4 := same_new (o := .lst ((Txt.split (SX.S it) "*(").map V.str)) nps
      generalize upd H3 ps (.lst ((Txt.split (SX.S it) "*(").map V.str)) = H4 at g4 ⊢
      have x4 : Ext fo H1 H4 := x3.trans (.of g4)
      have hfo4 := g4 _ _ hfo3
      have hP4 := HPL.same g4 _ hP
      clear x3 hfo3 hP
      refine ⟨.str (SX.S (hd2 it)), rfl, hd2 it, rfl, ahd, by omega, fun j hj H5 e5 => ?_, fun hj H5 e5 => ?_⟩
      case refine_2 =>
        refine ⟨_, rfl, _, rfl, iteTd rfl (q2 (bad ?_) H5 ((back x4).trans e5))⟩
        rintro ⟨s, es, os, _⟩
        have z := S.ok31 s os
        cases s with
        | k m =>
          rw [es, show (S.k m).tx = dg m from rfl, hd2_key, pI_dg z] at hj
          cases hj
        | r c ss =>
          rw [es, tx_r, hd2_round, pI_dg z.1] at hj
          cases hj
      have x5 : Ext fo H1 H5 := x4.trans (.of e5)
      have hfo5 := e5 _ _ hfo4
      have hP5 := HPL.same e5 _ hP4
      clear x4 hfo4 hP4 e5 g4
      obtain ⟨ej, j31⟩ := pI_some hj
      refine ⟨_, rfl, _, rfl, iteFd rfl ?_⟩
      refine ⟨.str (SX.S (hd2 it)), rfl, .str (SX.S it), rfl, rfl, _, rfl, ?_⟩
      rw [dec_S]
      by_cases hh : hd2 it = it
      · refine iteTd (decide_eq_true hh) ?_
        have eit : it = (S.k j).tx := hh.symm.trans ej
        refine ⟨.int j, rfl, j, rfl, 10, 9, rfl, rfl, ⟨by decide, by decide, by decide⟩, _, _, rfl, rfl, _, rfl, ?_⟩
        by_cases big : (10 : Int) ^ (9 : Int).toNat < (if j < 0 then -j else j)
        · refine iteTd (decide_eq_true big) (q2 (bad ?_) H5 (back x5))
          rintro ⟨s, es, os, _⟩
          obtain ⟨m, rfl⟩ := item_k es hh
          have : m = j := dg_inj (es.symm.trans eit)
          subst this
          have os : -1000000000 ≤ m ∧ m ≤ 1000000000 := os
          have e9 : (10 : Int) ^ (9 : Int).toNat = 1000000000 := by decide
          rw [e9] at big
          split at big <;> omega
        · refine iteFd (decide_eq_false big) ?_
          have e9 : (10 : Int) ^ (9 : Int).toNat = 1000000000 := by decide
          rw [e9] at big
          have oj : (S.k j).ok := by
            show -1000000000 ≤ j ∧ j ≤ 1000000000
            split at big <;> omega
          exact ⟨.ref fo, rfl, .inl ⟨rfl, _, SqL.of hfo5⟩, .int j, rfl, fo, vs, .int j, rfl, rfl, hfo5, szl (by omega), step (.k j) (.int j) H5 _ _ eit oj trivial x5 hfo5 hP5 rfl⟩
      · refine iteFd (decide_eq_false hh) ?_
        obtain ⟨rest, hrest⟩ := (hd2_or it).resolve_left hh
        have lit2 : it.length = (hd2 it).length + (2 + rest.length) := by
          have := congrArg List.length hrest
          rw [List.length_append, List.length_append] at this
          exact this
        -- a step that is not read
        have no : (¬ ∃ c ss, it = (S.r c ss).tx ∧ (S.r c ss).ok ∧ (S.r c ss).dLe n ∧ c = j ∧ rest = txT ss ++ [41]) → ¬ ∃ s : S, it = s.tx ∧ s.ok ∧ s.dLe n := fun nb ⟨s, es, os, ds⟩ => by
          obtain ⟨c, ss, rfl, h1, h2⟩ := item_r es hrest
          exact nb ⟨c, ss, es, os, ds, dg_inj (h1.symm.trans ej), h2⟩
        refine ⟨.int (lv : Nat), rfl, _, _, rfl, rfl, _, rfl, ?_⟩
        by_cases l4 : ((lv : Nat) : Int) < 4
        case neg =>
          refine iteFd (decide_eq_false l4) ⟨_, rfl, _, rfl, iteTd rfl (q2 (bad (no ?_)) H5 (back x5))⟩
          rintro ⟨c, ss, es, os, ds, _⟩
          have n0 : n = 0 := by omega
          subst n0
          exact ds.elim
        refine iteTd (decide_eq_true l4) ⟨.str (SX.S it), rfl, ?_⟩
        dsimp only [tNoPart, tPart]
        refine ⟨1, rfl, -1, rfl, SX.S it, rfl, sit0, ?_⟩
        rw [cut_m1S]
        refine ⟨rfl, _, rfl, ?_⟩
        rw [show decide (V.str (SX.S (it.drop (it.length - 1))) = V.str ")") = decide (it.drop (it.length - 1) = [41]) from dec_S _ [41]]
        have l41 : it.drop (it.length - 1) = [41] ↔ ∃ inn, rest = inn ++ [41] := by
          have := last_41 (A := hd2 it) (rest := rest)
          rwa [← hrest] at this
        by_cases d41 : it.drop (it.length - 1) = [41]
        case neg =>
          refine iteFd (decide_eq_false d41) ⟨_, rfl, _, rfl, iteTd rfl (q2 (bad (no ?_)) H5 (back x5))⟩
          rintro ⟨c, ss, es, os, ds, _, h2⟩
          exact d41 (l41.mpr ⟨_, h2⟩)
        obtain ⟨inn, rfl⟩ := l41.mp d41
        obtain ⟨m, rfl⟩ : ∃ m, n = m + 1 := ⟨n - 1, by omega⟩
        refine iteTd (decide_eq_true d41) ?_
        refine ⟨.str (SX.S it), rfl, ?_⟩
        dsimp only [tNoPart, tPart]
        have eA : it = (hd2 it ++ [42, 40]) ++ (inn ++ [41]) := by
          conv => lhs; rw [hrest]
          simp
        have ecut : cutS (SX.S it) (some (((SX.S (hd2 it)).length : Nat) + 2)) (some (-1)) = SX.S inn := by
          have := cut_inS (hd2 it ++ [42, 40]) inn 41
          rw [← eA] at this
          rw [SX.S_len]
          rw [List.length_append] at this
          exact this
        have linn : inn.length ≤ it.length := by rw [lit2, List.length_append]; omega
        have ainn : AscL inn := fun c hc => ait c (by rw [eA]; exact List.mem_append_right _ (List.mem_append_left _ hc))
        refine ⟨.str (SX.S (hd2 it)), rfl, _, rfl, by rw [SX.S_len]; exact sz (by omega), _, 2, rfl, rfl, _, rfl, 1, rfl, -1, rfl, SX.S it, rfl, sit0, ?_⟩
        rw [ecut]
        refine ⟨.int (lv : Nat), rfl, _, 1, rfl, rfl, inn, lv + 1, rfl, by omega, ainn, by omega, fun ss ess oss dss p vs2 H6 e6 np hp hP6 => ?_, fun nb H6 e6 => ?_⟩
        case refine_2 =>
          refine ⟨_, rfl, _, rfl, iteTd rfl (q2 (bad (no ?_)) H6 ((back x5).trans e6))⟩
          rintro ⟨c, ss, es, os, ds, _, h2⟩
          have := (List.append_inj' h2 rfl).1
          exact nb ⟨ss, this, os.2.2, ds⟩
        have x6 : Ext fo H1 H6 := x5.trans (.of e6)
        have hfo6 := e6 _ _ hfo5
        have hPo := HPL.same e6 _ hP5
        have hno : (¬ (0 ≤ j ∧ j ≤ 1000000000000000000000000000000)) → Q .non H6 := fun z => by
          refine q2 (bad (no ?_)) H6 ((back x5).trans e6)
          rintro ⟨c, ss, es, os, ds, ec, h2⟩
          rw [ec] at os
          exact z ⟨os.1, os.2.1⟩
        refine ⟨_, rfl, _, rfl, iteFd rfl ?_⟩
        refine ⟨.int j, rfl, _, _, rfl, rfl, _, rfl, ?_⟩
        have e30 : (10 : Int) ^ (30 : Int).toNat = 1000000000000000000000000000000 := by decide
        by_cases j0 : 0 ≤ j
        case neg => exact iteFd (decide_eq_false j0) ⟨false, rfl, iteTd rfl (hno fun z => j0 z.1)⟩
        refine iteTd (decide_eq_true j0) ⟨10, 30, rfl, rfl, ⟨by decide, by decide, by decide⟩, _, _, rfl, rfl, _, rfl, ?_⟩
        by_cases j30 : j ≤ (10 : Int) ^ (30 : Int).toNat
        case neg => exact iteTd (by rw [decide_eq_false j30]; rfl) (hno fun z => j30 (by rw [e30]; exact z.2))
        refine iteFd (by rw [decide_eq_true j30]; rfl) ?_
        rw [e30] at j30
        refine ⟨.ref fo, rfl, .inl ⟨rfl, _, SqL.of hfo6⟩, .int j, rfl, .ref p, rfl, p, vs2, rfl, .inl ⟨SqL.of hp, fun tp ntp => ⟨sz (by show 3 ≤ 100000; decide), fun tt ntt => ?_⟩⟩⟩
        have g7 := same_new (o := .tup vs2) ntp
        have g8 := same_new (o := .tup [.str "repeat", .int j, .ref tp]) ntt
        have g78 := g7.trans g8
        refine ⟨fo, vs, .ref tt, rfl, rfl, g78 _ _ hfo6, szl (by omega), step (.r j ss) (.ref tt) _ _ _ ?_ ⟨j0, j30, oss⟩ dss (x6.trans (.of g78)) (g78 _ _ hfo6) (HPL.same g78 _ hPo) ⟨tt, tp, vs2, rfl, upd_same, g8 _ _ upd_same, HPL.same g78 _ hP6⟩⟩
        rw [tx_r, ← ess, ← ej]; exact hrest
    · rintro σ H3 ⟨y3, y4, y5, y6, done, vs, rfl, x3, hfo3, hP, ht, od, dd⟩
      rw [List.length_map, List.take_length] at ht
      refine ⟨.ref fo, rfl, q1 done (tx_its ht) od dd fo vs H3 (fun a o h => x3 _ _ (fun z => by rw [z, nfo] at h; cases h) (e01 _ _ h)) nfo hfo3 hP⟩
theorem ok_lRead {f : Addr} {fd : FuncData} {k : Nat} (F : Fun K "_law_read" "_law_read" s__law_read f fd) (B : Blt mg) (c__law_items : Cal P w K mg base CX0 "_law_items" ["_law_text"] k spLIts) (c__law_number : Cal P w K mg base CX0 "_law_number" ["_law_text"] k spLNum) (gf : mg "_law_read" = some (.ref f)) (bf : Binds K fd ["_law_text", "_law_level"] []) : ∀ n, FnOk P w K mg base CX0 (n + k) f fd ["_law_text", "_law_level"] (spPrevLR n)
  | 0 => ⟨fun _ _ _ _ h => h.elim, fun _ _ _ _ _ _ _ _ _ _ _ _ _ h => h.elim⟩
  | n + 1 => by
    have h := ok_lRead1 (k := k) F B ⟨f, fd, ok_lRead (k := k) F B c__law_items c__law_number gf bf n, gf, F.kp, bf⟩ c__law_items c__law_number
    rw [show n + 1 + k = n + k + 1 by omega]
    exact h
end
end TT
namespace TT
open PySem PySem.Spec PyProof.Rows L2
section
variable {P : Program} {w : World} {K : PySem.W.Frag} {mg : Str → Option Value} {base : Heap}
theorem ok_bentTx {f : Addr} {fd : FuncData} {k : Nat} (F : Fun K "_law_bent_text" "_law_bent_text" s__law_bent_text f fd) (B : Blt mg) (c__law_take : Cal P w K mg base CX0 "_law_take" ["_law_draw", "_law_many"] k spTake) (c__law_of : Cal P w K mg base CX0 "_law_of" ["_law_draw", "_law_some"] k (spOf K)) : FnOk P w K mg base CX0 (k + 1) f fd ["_law_draw", "_law_text"] (spBentTx K) := by
  refine F.ok sc__law_bent_text (fun vs H Q E h => ?_) (fun cdv A outer s H vs Q E hr h => ?_)
  · obtain ⟨d, c, ns, T, rfl, _⟩ := h
    rfl
  · obtain ⟨d, c, ns, T, rfl, hD, ha, hl, q⟩ := h
    refine ⟨_, (pss_cons (ps_par (i := 2) (j := 3) rfl sc__law_bent_text.nd rfl rfl (by decide) rfl rfl (pa_cons (pe_cal c__law_take (hr.mono (by omega)) (by rfl) (pa_cons (pv 0) (pa_cons (pe_op op_add (pe_callB call_len_str (by rfl) B.xlen PySem.boot_len (pa_cons (pv 1) pa_nil)) pe_int) pa_nil))) (pa_cons (pe_cal c__law_take (hr.mono (by omega)) (by rfl) (pa_cons (pv 0) (pa_cons pe_int pa_nil))) pa_nil)) rfl)
  (C8.pss_cut (ps_set (i := 4) sc__law_bent_text.nd rfl (Or.inl rfl) (pe_cal c__law_of (hr.mono (by omega)) (by rfl) (pa_cons (pv 0) (pa_cons (pe_lst (pa_cons pe_str (pa_cons pe_str (pa_cons pe_str (pa_cons pe_str (pa_cons pe_str (pa_cons pe_str (pa_cons pe_str (pa_cons pe_str (pa_cons pe_str (pa_cons pe_str (pa_cons pe_str pa_nil)))))))))))) pa_nil))))
  (pss_cons (ps_set (i := 5) sc__law_bent_text.nd rfl (Or.inl rfl) (pe_lst (pa_cons (pe_op op_add_str (pe_op op_add_str (pe_slice sl_str (pv 1) po_none (po_some (pv 2))) (pv 4)) (pe_slice sl_str (pv 1) (po_some (pv 2)) po_none)) (pa_cons (pe_op op_add_str (pe_op op_add_str (pe_slice sl_str (pv 1) po_none (po_some (pv 2))) (pv 4)) (pe_slice sl_str (pv 1) (po_some (pe_op op_add (pv 2) pe_int)) po_none)) (pa_cons (pe_op op_add_str (pe_slice sl_str (pv 1) po_none (po_some (pv 2))) (pe_slice sl_str (pv 1) (po_some (pe_op op_add (pv 2) pe_int)) po_none)) (pa_cons (pe_op op_add_str (pv 1) (pv 4)) pa_nil))))))
  (pss_one (ps_ret (pe_ix ix_list (pv 5) (pv 3) (fun _ _ => rfl))))))), ?_⟩
    have sT : (SX.S T).length ≤ sizeLine := by rw [SX.S_len]; exact sz (by omega)
    refine ⟨.ref d, rfl, .str (SX.S T), rfl, SX.S T, rfl, sT, _, 1, rfl, rfl, d, _, c, ns, rfl, by omega, by rw [SX.S_len]; omega, hD, fun a H1 a0 a1 hD1 hk1 => ⟨.ref d, rfl, d, 4, c, ns, rfl, by decide, by decide, hD1, fun pk H2 p0 p1 hD2 hk2 => ?_⟩⟩
    have x2 : Ext d H H2 := (Ext.but hk1).trans (.but hk2)
    clear hk1 hk2 hD1 hD
    obtain ⟨n, rfl⟩ : ∃ n : Nat, a = n := ⟨a.toNat, by omega⟩
    refine ⟨_, _, rfl, fun σ H3 => ∃ G : List Nat, σ = [some (.ref d), some (.str (SX.S T)), some (.int (n : Nat)), some (.int pk), some (.str (SX.S G)), none] ∧ AscL G ∧ G.length ≤ 2 ∧ Ext d H H3 ∧ Drw c ns H3 d, ?_, ?_⟩
    · refine ⟨.ref d, rfl, sz (by show 11 ≤ 100000; decide), fun lz nlz => ⟨d, lz, _, c, ns, rfl, SqL.of upd_same, by show 0 < 11; decide, by show 11 ≤ 100000; decide, hD2.ne nlz, hD2.new nlz, fun x H3 hx hD3 hk3 => ?_⟩⟩
      have x3 : Ext d H H3 := x2.trans ((Ext.of (same_new nlz)).trans (.but hk3))
      have : ∃ G : List Nat, x = .str (SX.S G) ∧ AscL G ∧ G.length ≤ 2 := by
        simp only [List.mem_cons, List.not_mem_nil, or_false] at hx
        rcases hx with rfl | rfl | rfl | rfl | rfl | rfl | rfl | rfl | rfl | rfl | rfl
        · exact ⟨[32], rfl, by unfold AscL; decide, by decide⟩
        · exact ⟨[40], rfl, by unfold AscL; decide, by decide⟩
        · exact ⟨[41], rfl, by unfold AscL; decide, by decide⟩
        · exact ⟨[42], rfl, by unfold AscL; decide, by decide⟩
        · exact ⟨[45], rfl, by unfold AscL; decide, by decide⟩
        · exact ⟨[48], rfl, by unfold AscL; decide, by decide⟩
        · exact ⟨[49], rfl, by unfold AscL; decide, by decide⟩
        · exact ⟨[97], rfl, by unfold AscL; decide, by decide⟩
        · exact ⟨[42, 40], rfl, by unfold AscL; decide, by decide⟩
        · exact ⟨[41, 40], rfl, by unfold AscL; decide, by decide⟩
        · exact ⟨[], rfl, by unfold AscL; decide, by decide⟩
      obtain ⟨G, rfl, aG, lG⟩ := this
      exact ⟨G, rfl, aG, lG, x3, hD3⟩
    rintro σ H3 ⟨G, rfl, aG, lG, x3, hD3⟩
    have e1 : cutS (SX.S T) none (some (n : Int)) = SX.S (T.take n) := cut_hiS T n
    have e2 : cutS (SX.S T) (some (n : Int)) none = SX.S (T.drop n) := cut_loS T n
    have e3 : cutS (SX.S T) (some ((n : Int) + 1)) none = SX.S (T.drop (n + 1)) := cut_loS T (n + 1)
    have fit : ∀ {a b : List Nat}, a.length ≤ 20000 → b.length ≤ 20000 → (SX.S a).length + (SX.S b).length ≤ sizeLine := fun {a b} h1 h2 => by rw [SX.S_len, SX.S_len]; exact sz (by omega)
    have lt : (T.take n).length ≤ T.length := by rw [List.length_take]; omega
    have ld : ∀ m, (T.drop m).length ≤ T.length := fun m => by rw [List.length_drop]; omega
    have at' : AscL (T.take n) := fun c hc => ha c (List.mem_of_mem_take hc)
    have ad : ∀ m, AscL (T.drop m) := fun m c hc => ha c (List.mem_of_mem_drop hc)
    have aapp : ∀ {a b : List Nat}, AscL a → AscL b → AscL (a ++ b) := fun h1 h2 c hc => (List.mem_append.mp hc).elim (h1 c) (h2 c)
    have lTD : ∀ m, n ≤ m → (T.take n).length + (T.drop m).length ≤ T.length := fun m h => by rw [List.length_take, List.length_drop]; omega
    refine ⟨.str (SX.S T), rfl, ?_⟩
    dsimp only [tNoPart, tPart]
    refine ⟨.int n, rfl, n, rfl, SX.S T, rfl, sT, ?_⟩
    rw [e1]
    refine ⟨.str (SX.S G), rfl, SX.S (T.take n), SX.S G, rfl, rfl, fit (by omega) (by omega), ?_⟩
    rw [S_app]
    refine ⟨.str (SX.S T), rfl, ?_⟩
    dsimp only [tNoPart, tPart]
    refine ⟨.int n, rfl, n, rfl, SX.S T, rfl, sT, ?_⟩
    rw [e2]
    refine ⟨SX.S (T.take n ++ G), SX.S (T.drop n), rfl, rfl, fit (by rw [List.length_append]; omega) (by have := ld n; omega), ?_⟩
    rw [S_app]
    refine ⟨.str (SX.S T), rfl, ?_⟩
    dsimp only [tNoPart, tPart]
    refine ⟨.int n, rfl, n, rfl, SX.S T, rfl, sT, ?_⟩
    rw [e1]
    refine ⟨.str (SX.S G), rfl, SX.S (T.take n), SX.S G, rfl, rfl, fit (by omega) (by omega), ?_⟩
    rw [S_app]
    refine ⟨.str (SX.S T), rfl, ?_⟩
    dsimp only [tNoPart, tPart]
    refine ⟨.int n, rfl, _, 1, rfl, rfl, _, rfl, SX.S T, rfl, sT, ?_⟩
    rw [e3]
    refine ⟨SX.S (T.take n ++ G), SX.S (T.drop (n + 1)), rfl, rfl, fit (by rw [List.length_append]; omega) (by have := ld (n + 1); omega), ?_⟩
    rw [S_app]
    refine ⟨.str (SX.S T), rfl, ?_⟩
    dsimp only [tNoPart, tPart]
    refine ⟨.int n, rfl, n, rfl, SX.S T, rfl, sT, ?_⟩
    rw [e1]
    refine ⟨.str (SX.S T), rfl, ?_⟩
    dsimp only [tNoPart, tPart]
    refine ⟨.int n, rfl, _, 1, rfl, rfl, _, rfl, SX.S T, rfl, sT, ?_⟩
    rw [e3]
    refine ⟨SX.S (T.take n), SX.S (T.drop (n + 1)), rfl, rfl, fit (by omega) (by have := ld (n + 1); omega), ?_⟩
    rw [S_app]
    refine ⟨.str (SX.S T), rfl, .str (SX.S G), rfl, SX.S T, SX.S G, rfl, rfl, fit (by omega) (by omega), ?_⟩
    rw [S_app]
    refine ⟨sz (by show 4 ≤ 100000; decide), fun lq nlq => ?_⟩
    have x4 := x3.trans (Ext.of (d := d) (same_new (o := .lst [.str (SX.S (T.take n ++ G ++ T.drop n)), .str (SX.S (T.take n ++ G ++ T.drop (n + 1))), .str (SX.S (T.take n ++ T.drop (n + 1))), .str (SX.S (T ++ G))]) nlq))
    obtain ⟨m, rfl⟩ : ∃ m : Nat, pk = m := ⟨pk.toNat, by omega⟩
    have end_ : ∀ U : List Nat, [V.str (SX.S (T.take n ++ G ++ T.drop n)), .str (SX.S (T.take n ++ G ++ T.drop (n + 1))), .str (SX.S (T.take n ++ T.drop (n + 1))), .str (SX.S (T ++ G))][m]? = some (.str (SX.S U)) → AscL U → U.length ≤ T.length + 2 → tRet (tOp (rIxL K) (tVar 5) (tVar 3)) { nx := fun x H' => Q V.non H', rt := Q } [some (.ref d), some (.str (SX.S T)), some (.int (n : Nat)), some (.int (m : Nat)), some (.str (SX.S G)), some (.ref lq)] (upd H3 lq (.lst [.str (SX.S (T.take n ++ G ++ T.drop n)), .str (SX.S (T.take n ++ G ++ T.drop (n + 1))), .str (SX.S (T.take n ++ T.drop (n + 1))), .str (SX.S (T ++ G))])) := fun U hU aU lU =>
      ⟨.ref lq, rfl, .int (m : Nat), rfl, lq, _, (m : Int), .str (SX.S U), rfl, rfl, SqL.of upd_same, atI_nat hU, q U _ aU lU x4 (hD3.new nlq)⟩
    have l0 := lTD n (Nat.le_refl _)
    have l1 := lTD (n + 1) (Nat.le_succ _)
    match m, p1, @end_ with
    | 0, _, e => exact e _ rfl (aapp (aapp at' aG) (ad n)) (by rw [List.length_append, List.length_append]; omega)
    | 1, _, e => exact e _ rfl (aapp (aapp at' aG) (ad _)) (by rw [List.length_append, List.length_append]; omega)
    | 2, _, e => exact e _ rfl (aapp at' (ad _)) (by rw [List.length_append]; omega)
    | 3, _, e => exact e _ rfl (aapp ha aG) (by rw [List.length_append]; omega)
end
end TT
namespace TT
open PySem PySem.Spec PyProof.Rows L2
theorem lc_fV {α : Type} {K : PySem.W.Frag} {a : Addr} {ks : List α} {g : TG} {tt : L2.TT} {te : TE} {vs : List Nat} {σ : L2.St} {H1 : Hp} {D : Addr} {Qd : Hp → Prop} (v : α → V) (p : α → Bool) (f : α → V) (hS : SqL K H1 a (ks.map v)) (nD : H1 D = none) (hl : ks.length ≤ 1000)
    (hs : ∀ x H2 (Y : VK) (N : Hp → Prop), x ∈ ks → Same H1 H2 → (p x = true → ∀ H3, Same H2 H3 → Y (f x) H3) → (p x = false → ∀ H3, Same H2 H3 → N H3) →
      g (v x) (wipe σ vs) H2 fun σ2 H3 => wipe σ2 vs = wipe σ vs ∧ tt σ2 H3 fun b H4 => if b = true then te σ2 H4 Y else N H4)
    (hd : ∀ H2, Same H1 H2 → H2 D = some (.lst ((ks.filter p).map f)) → Qd H2) :
    ∃ W : Nat → Nat → Hp → Prop, (∃ m, W 0 m (upd H1 D (.lst []))) ∧ ∀ i m H, W i m H →
      ((Itl K a).stop i H ∧ Qd H) ∨ ((Itl K a).go i H ∧ ∃ Nx : Hp → Prop, (∀ H', Nx H' → ∃ m', m' < m ∧ W (i + 1) m' H') ∧ ∀ x H', (Itl K a).yld i H x H' → g x (wipe σ vs) H' fun σ2 H2 => wipe σ2 vs = wipe σ vs ∧ tt σ2 H2 fun b H3 =>
        if b = true then te σ2 H3 fun y H4 => ∃ acc, H4 D = some (.lst acc) ∧ acc.length < sizeLine ∧ Nx (upd H4 D (.lst (acc ++ [y]))) else Nx H3) := by
  refine lc_list (xs := ks.map v) (fun i H2 => Same H1 H2 ∧ H2 D = some (.lst (((ks.take i).filter p).map f))) ⟨same_new nD, upd_same⟩ (fun i H2 _ h => Same.seq h.1 hS) ?_ ?_
  · rintro i z H2 hv ⟨e2, hD⟩
    rw [List.getElem?_map] at hv
    obtain ⟨x, hx, rfl⟩ := Option.map_eq_some_iff.mp hv
    have ht : ks.take (i + 1) = ks.take i ++ [x] := by rw [List.take_add_one, hx]; rfl
    refine hs x H2 _ _ (List.mem_of_getElem? hx) e2 (fun hp H3 e3 => ?_) (fun hp H3 e3 => ?_)
    · refine ⟨_, e3 _ _ hD, szl ?_, Same.put (e2.trans e3) nD, ?_⟩
      · rw [List.length_map]
        have := List.length_filter_le p (ks.take i)
        have := List.length_take_le' i ks
        omega
      · rw [upd_same, ht, List.filter_append, List.map_append, List.filter_cons_of_pos hp]; rfl
    · refine ⟨e2.trans e3, ?_⟩
      rw [e3 _ _ hD, ht, List.filter_append, List.filter_cons_of_neg (by rw [hp]; exact Bool.false_ne_true), List.filter_nil, List.append_nil]
  · rintro H2 ⟨e2, hD⟩
    rw [List.length_map, List.take_length] at hD
    exact hd H2 e2 hD
mutual
theorem S.wr_len : ∀ s : S, s.wr ≤ s.tx.length
  | .k x => by
    have := dg_ne x
    have : 0 < (dg x).length := List.length_pos_iff.mpr this
    show 1 ≤ (dg x).length
    omega
  | .r n bs => by
    have h := wrT_len bs
    show 1 + wrL bs ≤ (dg n ++ ([42, 40] ++ (txT bs ++ [41]))).length
    simp only [List.length_append, List.length_cons, List.length_nil]
    omega
theorem wrT_len : ∀ ss : List S, wrL ss ≤ (txT ss).length
  | [] => Nat.le_refl _
  | s :: ss => by
    have h1 := S.wr_len s
    have h2 := wrR_len ss
    show s.wr + wrL ss ≤ (s.tx ++ txR ss).length
    rw [List.length_append]
    omega
theorem wrR_len : ∀ ss : List S, wrL ss ≤ (txR ss).length
  | [] => Nat.le_refl _
  | s :: ss => by
    have h1 := S.wr_len s
    have h2 := wrR_len ss
    show s.wr + wrL ss ≤ (32 :: (s.tx ++ txR ss)).length
    rw [List.length_cons, List.length_append]
    omega
end
theorem b2a {T : List Nat} (l : T.length ≤ 15000) : (Str.ofString "2*(").length + (SX.S T).length ≤ sizeLine := by
  have e1 : Str.ofString "2*(" = SX.S (tl "2*(") := (S_back _).symm
  have a : (tl "2*(").length = 3 := by decide +kernel
  rw [e1, SX.S_len, SX.S_len, a]; exact sz (by omega)
theorem catL1 (x : Str) (l : List Nat) (k : Nat) (h : x.length + l.length * k ≤ 100000) : x.length + (SX.S (rep l k)).length ≤ sizeLine := by
  rw [SX.S_len (rep l k), repN_len]; exact sz h
theorem catL2 (l m : List Nat) (k n : Nat) (h : l.length * k + m.length * n ≤ 100000) : (SX.S (rep l k)).length + (SX.S (rep m n)).length ≤ sizeLine := by
  rw [SX.S_len, SX.S_len, repN_len, repN_len]; exact sz h
theorem catL3 (x y : Str) (l : List Nat) (k : Nat) (h : x.cps.toList.length + l.length * k + y.length ≤ 100000) : (x ++ SX.S (rep l k) : Str).length + y.length ≤ sizeLine := by
  have e : (x ++ SX.S (rep l k) : Str) = SX.S (x.cps.toList ++ rep l k) := by rw [← S_app, S_back]
  rw [e, SX.S_len (x.cps.toList ++ rep l k), List.length_append, repN_len]; exact sz h
theorem b2b {T : List Nat} (l : T.length ≤ 15000) : (Str.ofString "2*(" ++ SX.S T : Str).length + (Str.ofString ")").length ≤ sizeLine := by
  have e1 : Str.ofString "2*(" = SX.S (tl "2*(") := (S_back _).symm
  have e2 : Str.ofString ")" = SX.S (tl ")") := (S_back _).symm
  have a : (tl "2*(").length = 3 := by decide +kernel
  have b : (tl ")").length = 1 := by decide +kernel
  rw [e1, e2, S_app, SX.S_len, SX.S_len, List.length_append, a, b]; exact sz (by omega)
def PR (H : Hp) : Nat → List V → Prop
  | 0, vs => vs = []
  | n + 1, vs => ∃ (p : Addr) (ws : List V), vs = .ref p :: ws ∧ H p = some (.tup [.str "ParseError", .int 0]) ∧ PR H n ws
theorem PR.at {H H' : Hp} (e : ∀ x xs, H x = some (.tup xs) → H' x = some (.tup xs)) : ∀ {n : Nat} {vs : List V}, PR H n vs → PR H' n vs
  | 0, _, h => h
  | _ + 1, _, ⟨p, ws, h1, h2, h3⟩ => ⟨p, ws, h1, e _ _ h2, PR.at e h3⟩
theorem PR.snoc {H : Hp} {p : Addr} (hp : H p = some (.tup [.str "ParseError", .int 0])) : ∀ {n : Nat} {vs : List V}, PR H n vs → PR H (n + 1) (vs ++ [.ref p])
  | 0, _, h => by rw [show _ = [] from h]; exact ⟨p, [], rfl, hp, rfl⟩
  | _ + 1, _, ⟨p', us, h1, h2, h3⟩ => by rw [h1]; exact ⟨p', us ++ [.ref p], rfl, h2, PR.snoc hp h3⟩
theorem PR.len {H : Hp} : ∀ {n : Nat} {vs : List V}, PR H n vs → vs.length = n
  | 0, _, h => congrArg List.length (show _ = [] from h)
  | _ + 1, _, ⟨p, ws, h1, _, h3⟩ => by rw [h1, List.length_cons, PR.len h3]
theorem PR.put {H : Hp} {D : Addr} {l : List V} {o : HO} {n : Nat} {vs : List V} (hD : H D = some (.lst l)) (h : PR H n vs) : PR (upd H D o) n vs :=
  h.at fun x xs hx => by rw [upd_ne (fun z => by rw [z, hD] at hx; cases hx)]; exact hx
theorem PR.rep {H : Hp} {p : Addr} (hp : H p = some (.tup [.str "ParseError", .int 0])) : ∀ n, PR H n (List.replicate n (.ref p))
  | 0 => rfl
  | n + 1 => ⟨p, _, rfl, hp, PR.rep hp n⟩
theorem PR.dp {K : PySem.W.Frag} {H : Hp} : ∀ {n : Nat} {vs : List V}, PR H n vs → DpAll K H vs (List.replicate n (.tuple [.str "ParseError", .int 0]))
  | 0, _, h => by rw [show _ = [] from h]; exact .nil
  | _ + 1, _, ⟨p, ws, h1, h2, h3⟩ => by rw [h1]; exact .cons (.tup (SqT.of h2) (.cons (.str _) (.cons (.int _) .nil))) (PR.dp h3)
abbrev sv (T : List Nat) : V := .str (SX.S T)
theorem odd1_eq : [V.str " ", .str "1 ", .str "01", .str "-0", .str "1*", .str "1*(", .str "1*()2", .str "1*2", .str "()", .str "a", .str "+1", .str "1*(1))", .str "-1*(2)", .str "1000000001", .str "2 *(1)", .str ((Str.ofString "1") ++ SX.S (rep (tl " 1") 100))] = odd1.map sv := by
  unfold odd1
  simp only [List.map_cons, List.map_nil, sv, tl, ← S_app, S_back]
theorem odd2_eq : [V.str (Str.ofString "1" ++ SX.S (rep (tl "0") 31) ++ Str.ofString "*()"), .str (SX.S (rep (tl "1") 32)), .str "2*(3 )", .str (SX.S (rep (tl "2*(") 5) ++ SX.S (rep (tl ")") 5)), .str (SX.S (rep (tl "2*(") 900) ++ SX.S (rep (tl ")") 900))] = odd2.map sv := by
  unfold odd2
  simp only [List.map_cons, List.map_nil, sv, tl, ← S_app, S_back]
theorem odd_len1 : odd1.length = 16 := by decide +kernel
theorem odd_len2 : odd2.length = 5 := by decide +kernel
section
variable {P : Program} {w : World} {K : PySem.W.Frag} {mg : Str → Option Value} {base : Heap}
theorem ok_law {f cl PT go ge CT CM C3 : Addr} {fdo fde : FuncData} {k : Nat} {oc kV doc pm ct : Value} {od an : Option Addr} {osl : Array (Option Value)}
    (l_law : K.lookup f = some ⟨oc, od, .func (PySem.W.fnOf "law" "law" (defArgs s_law) (defBody s_law) (defScope s_law) .none kV doc pm an (.ref cl) ct), osl⟩) (cd_law : PySem.W.codeIn K (.ref cl) "law" = true) (TB : LamX.TabB base mg cl PT) (B : Blt mg)
    (FO : Fun K "_law_outcome" "_law_outcome" s__law_outcome go fdo) (g_out : mg "_law_outcome" = some (.ref go)) (FE : Fun K "_law_error" "_law_error" s__law_error ge fde) (g_err : mg "_law_error" = some (.ref ge)) (c_field : CalEJ P w K mg base "_law_field" ["_law_e"] k (spField K)) (mT : mg "TreeError" = some (.ref CT)) (mM : mg "Missing" = some (.ref CM))
    (n3 : PySem.W.exmAny K (.ref C3) [.ref CT, .ref CM] = some true) (X3 : XfC K C3) (f5 : PySem.W.findIn K (.ref C3) "tag" = some none) (f6 : PySem.W.findIn K (.ref C3) "pos" = some none)
    (c__law_start : Cal P w K mg base CX0 "_law_start" ["_law_script"] k (spStart K)) (c__law_of : Cal P w K mg base CX0 "_law_of" ["_law_draw", "_law_some"] k (spOf K)) (c__law_take : Cal P w K mg base CX0 "_law_take" ["_law_draw", "_law_many"] k spTake)
    (c__law_keys : Cal P w K mg base CX0 "_law_keys" ["_law_draw", "_law_many"] k spKeysB) (c__law_same : Cal P w K mg base CX0 "_law_same" ["_law_found", "_law_due"] k (spSameW 12)) (c__law_history : Cal P w K mg base CX0 "_law_history" ["_law_draw", "_law_keys_here", "_law_most", "_law_deep"] k spHistW) (c__law_written : Cal P w K mg base CX0 "_law_written" ["_law_steps"] k (spWrX K 4)) (c__law_bent_text : Cal P w K mg base CX0 "_law_bent_text" ["_law_draw", "_law_text"] k (spBentTx K)) (c__law_read : Cal P w K mg base CX0 "_law_read" ["_law_text", "_law_level"] k (spLRead 4))
    (c_format_history : Cal P w K mg base CX0 "format_history" ["history"] k (spFormatH K)) (c_parse_history : Cal P w K mg base (CXJ P w) "parse_history" ["text"] k (spParseHX K C3)) :
    FnOk P w K mg base CX0 (k + 4) f (PySem.W.fnOf "law" "law" (defArgs s_law) (defBody s_law) (defScope s_law) .none kV doc pm an (.ref cl) ct) ["_law_script"] (spLawT K PT) := by
  obtain ⟨oco, odo, kVo, doco, pmo, ano, cdo, cto, oslo, rfl, l_out, cd_out⟩ := FO.ex
  have b_out := FO.binds (ps := ["_law_ask"]) fun _ _ _ _ _ _ us hl => match us, hl with | [_], _ => rfl
  obtain ⟨oce, ode, kVe, doce, pme, ane, cde, cte, osle, rfl, l_err, cd_err⟩ := FE.ex
  have b_err := FE.binds (ps := ["_law_ask"]) fun _ _ _ _ _ _ us hl => match us, hl with | [_], _ => rfl
  refine fn_of l_law cd_law sc_law (fun vs H Q E h => ?_) (fun A outer s H vs Q E hr h => ?_)
  · obtain ⟨a, ns, rfl, _⟩ := h
    rfl
  · obtain ⟨a, ns, rfl, hS0, hl, hP, q⟩ := h
    suffices hh : ∃ t, PSs (cxOf CX0 P w K mg base ["_law_script", "_law_draw", "_law_turn", "_law_keys_here", "_law_history_here", "_law_text", "_law_step_here", "_law_due", "_law_expected", "_law_odd", "_law_one"] "law" (defScope s_law) f (.ref cl) A outer s H E).nox (defBody s_law) t ∧ t { nx := fun _ H' => Q .non H', rt := Q } (L2.start ["_law_script", "_law_draw", "_law_turn", "_law_keys_here", "_law_history_here", "_law_text", "_law_step_here", "_law_due", "_law_expected", "_law_odd", "_law_one"] [.ref a]) H by
      obtain ⟨t, h1, h2⟩ := hh
      exact ⟨t, h1.nox, h2⟩
    have hu := hu_of hr
    let TT0 : List (Addr × Str) := [(PT, (envOfC "law" (defScope s_law) s.heap.objs.size f (.ref cl)).qual ++ "<lambda>")]
    refine ⟨_, (pss_cons (ps_set (i := 1) sc_law.nd rfl (Or.inl rfl) (pe_cal c__law_start (hr.mono (by omega)) (by rfl) (pa_cons (pv 0) pa_nil)))
  (pss_cons (ps_for PassesOwn.never rfl (pi_range1 (by rfl) B.xrange (pa_cons pe_int pa_nil)) (pg_name (i := 2) sc_law.nd rfl (Or.inl rfl))
    (pss_cons (ps_set (i := 3) sc_law.nd rfl (Or.inl rfl) (pe_cal c__law_keys (hr.mono (by omega)) (by rfl) (pa_cons (pv 1) (pa_cons (pe_op op_add pe_int (pe_cal c__law_take (hr.mono (by omega)) (by rfl) (pa_cons (pv 1) (pa_cons pe_int pa_nil)))) pa_nil))))
  (pss_cons (ps_setLc (i := 4) (own := [("_law_step_here", 6)]) (g := gName 6) (by rfl) sc_law.nd rfl rfl (sw_true rfl rfl rfl (by decide +kernel)) (pi_list (pe_cal c__law_history (hr.mono (by omega)) (by rfl) (pa_cons (pv 1) (pa_cons (pv 3) (pa_cons pe_int (pa_cons pe_int pa_nil)))))) (blkOk_by (own := [("_law_step_here", 6)]) (N := ["_law_script", "_law_draw", "_law_turn", "_law_keys_here", "_law_history_here", "_law_text", "_law_step_here", "_law_due", "_law_expected", "_law_odd", "_law_one"]) (sc := defScope s_law) (by decide +kernel)) (fun _ _ _ _ _ => (pg_name (i := 6) sc_law.nd rfl (Or.inl rfl))) (fun _ _ _ _ _ => pts_nil) (fun _ _ _ _ _ => (pv 6)))
  (C8.pss_cut (ps_set (i := 5) sc_law.nd rfl (Or.inr rfl) (pe_cal c_format_history (hr.mono (by omega)) (by rfl) (pa_cons (pv 4) pa_nil)))
  (C8.pss_cut (ps_for PassesOwn.never rfl (pi_range1 (by rfl) B.xrange (pa_cons (pe_cal c__law_take (hr.mono (by omega)) (by rfl) (pa_cons (pv 1) (pa_cons pe_int pa_nil))) pa_nil)) (pg_name (i := 6) sc_law.nd rfl (Or.inl rfl))
    (pss_one (ps_set (i := 5) sc_law.nd rfl (Or.inr rfl) (pe_cal c__law_bent_text (hr.mono (by omega)) (by rfl) (pa_cons (pv 1) (pa_cons (pv 5) pa_nil))))))
  (C8.pss_cut (ps_for PassesOwn.never rfl (pi_range1 (by rfl) B.xrange (pa_cons (pe_cal c__law_of (hr.mono (by omega)) (by rfl) (pa_cons (pv 1) (pa_cons (pe_lst (pa_cons pe_int (pa_cons pe_int (pa_cons pe_int (pa_cons pe_int (pa_cons pe_int (pa_cons pe_int pa_nil))))))) pa_nil))) pa_nil)) (pg_name (i := 6) sc_law.nd rfl (Or.inl rfl))
    (pss_one (ps_set (i := 5) sc_law.nd rfl (Or.inr rfl) (pe_op op_add_str (pe_op op_add_str pe_str (pv 5)) pe_str))))
  (C8.pss_cut (ps_set (i := 7) sc_law.nd rfl (Or.inl rfl) (pe_cal c__law_read (hr.mono (by omega)) (by rfl) (pa_cons (pv 5) (pa_cons pe_int pa_nil))))
  (C8.pss_cut (ps_set (i := 7) sc_law.nd rfl (Or.inl rfl) (pe_ifExp (PW.pt (pw_or (pt_cmp (pc_isN (pv 7))) (pw_or1 (pt_cmpR op_gt (pe_cal c__law_written (hr.mono (by omega)) (by rfl) (pa_cons (pv 7) pa_nil)) pe_int (nomark _))))) pe_non (pv 7)))
  (C8.pss_cut (ps_set (i := 8) sc_law.nd rfl (Or.inl rfl) (pe_ifExp (pt_cmp (pc_isN (pv 7))) (pe_tup (pa_cons pe_non (pa_cons pe_str (pa_cons pe_int pa_nil)))) (pe_tup (pa_cons (pv 7) (pa_cons pe_str (pa_cons pe_non pa_nil))))))
  (pss_one (ps_if (pt_not (pt_val (pe_cal c__law_same (hr.mono (by omega)) (by rfl) (pa_cons (pe_lamMJ (T := [(PT, (envOfC "law" (defScope s_law) s.heap.objs.size f (.ref cl)).qual ++ "<lambda>")]) (j := k) (k := k + 1) (by rfl) g_out FO.kp l_out cd_out b_out sc__law_outcome (GivMJ.of (gv_out c_field mT mM) rfl (.inl rfl)) TB rfl (List.mem_singleton.mpr rfl) (fun p hp _ => by rw [List.mem_singleton.mp hp]; rfl) (hr.mono (by omega)) (LamX.lamS_by (sc := defScope s_law) (by decide +kernel)) rfl (fun _ _ _ _ _ => rfl) (fun A outer s H E f c' hr => (pe_calX c_parse_history passLJ (hr.mono (by omega)) (by rfl) (pa_cons (pv 5) pa_nil)))) (pa_cons (pv 8) pa_nil)))))
    (pss_one (ps_ret pe_bl))
    pss_nil)))))))))))
  (pss_cons (ps_set (i := 9) sc_law.nd rfl (Or.inl rfl) (pe_lst (pa_cons pe_str (pa_cons pe_str (pa_cons pe_str (pa_cons pe_str (pa_cons pe_str (pa_cons pe_str (pa_cons pe_str (pa_cons pe_str (pa_cons pe_str (pa_cons pe_str (pa_cons pe_str (pa_cons pe_str (pa_cons pe_str (pa_cons pe_str (pa_cons pe_str (pa_cons (pe_op op_add_str pe_str (pe_op op_repG pe_str pe_int)) pa_nil))))))))))))))))))
  (pss_cons (ps_set (i := 9) sc_law.nd rfl (Or.inl rfl) (pe_op op_cat (pv 9) (pe_lst (pa_cons (pe_op op_add_str (pe_op op_add_str pe_str (pe_op op_repG pe_str pe_int)) pe_str) (pa_cons (pe_op op_repG pe_str pe_int) (pa_cons pe_str (pa_cons (pe_op op_add_str (pe_op op_repG pe_str pe_int) (pe_op op_repG pe_str pe_int)) (pa_cons (pe_op op_add_str (pe_op op_repG pe_str pe_int) (pe_op op_repG pe_str pe_int)) pa_nil))))))))
  (pss_one (ps_ret (pe_cmpR (op_eqD hr.units) (pe_lc (own := [("_law_one", 10)]) (g := gName 10) (by rfl) sc_law.nd (pi_list (pv 9)) (blkOk_by (own := [("_law_one", 10)]) (N := ["_law_script", "_law_draw", "_law_turn", "_law_keys_here", "_law_history_here", "_law_text", "_law_step_here", "_law_due", "_law_expected", "_law_odd", "_law_one"]) (sc := defScope s_law) (by decide +kernel)) (fun _ _ _ _ _ => (pg_name (i := 10) sc_law.nd rfl (Or.inr rfl))) (fun _ _ _ _ _ => pts_nil) (fun _ _ _ _ _ => (pe_lamMJ (TO := tErr K (.ref CT) (.ref CM)) (T := [(PT, (envOfC "law" (defScope s_law) s.heap.objs.size f (.ref cl)).qual ++ "<lambda>")]) (j := k) (k := k + 2) (by rfl) g_err FE.kp l_err cd_err b_err sc__law_error (gv_err g_out FO.kp l_out cd_out b_out c_field mT mM) TB rfl (List.mem_singleton.mpr rfl) (fun p hp _ => by rw [List.mem_singleton.mp hp]; rfl) (hr.mono (by omega)) (LamX.lamS_by (sc := { kind := ScopeKind.function, names := [(".0", NameKind.local), ("_law_one", NameKind.cell), ("_law_error", NameKind.globalImplicit)], isGenerator := false, isCoroutine := false }) (by decide +kernel)) rfl (fun _ _ _ _ _ => rfl) (fun A outer s H E f c' hr => (pe_calX c_parse_history passLJ (hr.mono (by omega)) (by rfl) (pa_cons (pv 10) pa_nil)))))) (pe_op op_rep (pe_lst (pa_cons (pe_tup (pa_cons pe_str (pa_cons pe_int pa_nil))) pa_nil)) pe_int) (nomark _)))))))), ?_⟩
    refine ⟨.ref a, rfl, a, ns, rfl, hS0, hl, fun d c ms H1 e1 nd hD1 => ?_⟩
    have hT1 : LamX.Tabs TT0 H1 := fun p hp => by rw [List.mem_singleton.mp hp]; exact LamX.TabS.nil (e1 _ _ hP)
    refine ⟨6, rfl, by decide, by decide, for_range (n := 6) (fun i σ H3 => ∃ y2 y3 y4 y5 y6 y7 y8 y9, σ = [some (.ref a), some (.ref d), y2, y3, y4, y5, y6, y7, y8, y9, none] ∧ Drw c ms H3 d ∧ LamX.Tabs TT0 H3) ⟨none, none, none, none, none, none, none, none, rfl, hD1, hT1⟩ ?_ ?_⟩
    · rintro i σ H0 hi ⟨y2, y3, y4, y5, y6, y7, y8, y9, rfl, hD, hT0⟩
      refine ⟨.ref d, rfl, .ref d, rfl, d, 5, c, ms, rfl, by decide, by decide, hD, fun r H2 r0 r1 hD2 hk2 => ⟨1, r, rfl, rfl, d, 1 + r, c, ms, rfl, by omega, by omega, hD2, fun ks p H3 lk hasc hkB e3 hD3 np hp => ?_⟩⟩
      have npd := hD2.ne np
      have kb : ∀ x ∈ ks, -1000000000 ≤ x ∧ x ≤ 1000000000 := hasc.bd
      have hT3 := tabs_ext hT0 ((Ext.but hk2).trans e3) hD
      refine ⟨.ref d, rfl, .ref p, rfl, d, p, ks, 4, 2, c, ms, rfl, hp, by omega, by omega, by decide, by decide, npd, hD3, fun ss vs hh H5 lss dss iss wss e5 hD5 nhh hhh hHL => ?_⟩
      have hT5 := tabs_ext hT3 e5 hD3
      have oks := inKL_ok kb iss
      have lvs : vs.length ≤ 4 := by rw [hHL.len]; exact lss
      have w52 : wrL ss ≤ 52 := by have : wbn 2 = 13 := by decide +kernel
                                   rw [this] at wss; omega
      have tR := txR_lenB kb ss iss dss
      have t0 : (txT ss).length ≤ (txR ss).length := by
        cases ss with
        | nil => exact Nat.le_refl _
        | cons x xs => show (x.tx ++ txR xs).length ≤ (32 :: (x.tx ++ txR xs)).length; rw [List.length_cons]; omega
      have t1 : (txT ss).length ≤ 5760 := by
        have h1 : ss.length * (bT 2 + 1) ≤ 4 * (bT 2 + 1) := Nat.mul_le_mul_right _ lss
        have h2 : 4 * (bT 2 + 1) ≤ 5760 := by decide +kernel
        omega
      refine ⟨hh, rfl, ⟨_, SqL.of hhh⟩, fun DD nDD => lc_fV (fun v : V => v) (fun _ => true) (fun v => v) (SqL.of (by rw [List.map_id']; exact hhh)) nDD (by omega) (fun x H6 Y N hx e6 h1 h2 => ⟨rfl, x, rfl, h1 rfl H6 (.refl _)⟩) fun H6 e6 hDD => ?_⟩
      have hDD : H6 DD = some (.lst vs) := by
        rw [hDD, List.map_id', List.filter_eq_self.mpr (fun _ _ => rfl)]
      refine ⟨(fun σ H7 => ∃ (y6 y7 y8 y9 : Option V) (T : List Nat), σ = [some (.ref a), some (.ref d), some (.int (0 + i)), some (.ref p), some (.ref DD), some (.str (SX.S T)), y6, y7, y8, y9, none] ∧ Drw c ms H7 d ∧ LamX.Tabs TT0 H7 ∧ AscL T ∧ T.length ≤ 5760), ?_, ?_⟩
      · exact ⟨.ref DD, rfl, DD, vs, ss, rfl, .inl (SqL.of hDD), HL.same e6 _ hHL, oks, dLeL_mono (by decide) _ dss, by omega, by omega, fun H7 e7 => ⟨_, _, _, _, _, rfl, hD5.same (e6.trans e7), hT5.ext (e6.trans e7), txT_asc ss, t1⟩⟩
      clear hDD e6 hHL hhh nhh nDD t1 t0 tR w52 lvs oks wss iss dss lss hD5 hT5 e5 hT3 hD3 hp np e3 hD2 hk2 hT0 hD npd
      rintro σ H7 ⟨y6, y7, y8, y9, T, rfl, hD7, hT7, aT, lT⟩
      refine ⟨(fun σ H7 => ∃ (y6 y7 y8 y9 : Option V) (T : List Nat), σ = [some (.ref a), some (.ref d), some (.int (0 + i)), some (.ref p), some (.ref DD), some (.str (SX.S T)), y6, y7, y8, y9, none] ∧ Drw c ms H7 d ∧ LamX.Tabs TT0 H7 ∧ AscL T ∧ T.length ≤ 5764), ?_, ?_⟩
      · refine ⟨.ref d, rfl, d, 3, c, ms, rfl, by decide, by decide, hD7, fun r9 H9 r90 r91 hD9 hk9 => ?_⟩
        obtain ⟨n9, rfl⟩ : ∃ n : Nat, r9 = n := ⟨r9.toNat, by omega⟩
        have e9 : Ext d H7 H9 := .but hk9
        refine ⟨(n9 : Int), rfl, by omega, by omega, for_range (n := (n9 : Int).toNat) (fun j σ HH => ∃ (y6 : Option V) (T : List Nat), σ = [some (.ref a), some (.ref d), some (.int (0 + i)), some (.ref p), some (.ref DD), some (.str (SX.S T)), y6, y7, y8, y9, none] ∧ Drw c ms HH d ∧ LamX.Tabs TT0 HH ∧ AscL T ∧ T.length ≤ 5760 + 2 * j) ⟨y6, T, rfl, hD9, tabs_ext hT7 e9 hD7, aT, by omega⟩ ?_ ?_⟩
        · rintro j σ HA hj ⟨y6, T, rfl, hDA, hTA, aT, lT⟩
          exact ⟨.ref d, rfl, .str _, rfl, d, c, ms, T, rfl, hDA, aT, by omega, fun T' HB aT' lT' eB hDB => ⟨_, _, rfl, hDB, tabs_ext hTA eB hDA, aT', by omega⟩⟩
        · rintro σ HA ⟨y6, T, rfl, hDA, hTA, aT, lT⟩
          exact ⟨_, _, _, _, _, rfl, hDA, hTA, aT, by omega⟩
      clear hD7 hT7 aT lT T y6 y7 y8 y9
      rintro σ H7 ⟨y6, y7, y8, y9, T, rfl, hD7, hT7, aT, lT⟩
      refine ⟨(fun σ H7 => ∃ (y6 y7 y8 y9 : Option V) (T : List Nat), σ = [some (.ref a), some (.ref d), some (.int (0 + i)), some (.ref p), some (.ref DD), some (.str (SX.S T)), y6, y7, y8, y9, none] ∧ Drw c ms H7 d ∧ LamX.Tabs TT0 H7 ∧ AscL T ∧ T.length ≤ 5784), ?_, ?_⟩
      · refine ⟨.ref d, rfl, sz (by show 6 ≤ 100000; decide), fun l nl => ?_⟩
        have g1 := same_new (o := .lst [.int 0, .int 0, .int 0, .int 3, .int 4, .int 5]) nl
        refine ⟨d, l, _, c, ms, rfl, SqL.of upd_same, by decide, by decide, hD7.ne nl, hD7.same g1, fun x H9 hx hD9 hk9 => ?_⟩
        obtain ⟨m, rfl, m5⟩ : ∃ m : Nat, x = .int m ∧ m ≤ 5 := by
          simp only [List.mem_cons, List.not_mem_nil, or_false] at hx
          rcases hx with rfl | rfl | rfl | rfl | rfl | rfl
          · exact ⟨0, rfl, by decide⟩
          · exact ⟨0, rfl, by decide⟩
          · exact ⟨0, rfl, by decide⟩
          · exact ⟨3, rfl, by decide⟩
          · exact ⟨4, rfl, by decide⟩
          · exact ⟨5, rfl, by decide⟩
        have e9 : Ext d H7 H9 := (Ext.of g1).trans (.but hk9)
        refine ⟨(m : Int), rfl, by omega, by omega, for_range (n := (m : Int).toNat) (fun j σ HH => ∃ (y6 : Option V) (T : List Nat), σ = [some (.ref a), some (.ref d), some (.int (0 + i)), some (.ref p), some (.ref DD), some (.str (SX.S T)), y6, y7, y8, y9, none] ∧ Drw c ms HH d ∧ LamX.Tabs TT0 HH ∧ AscL T ∧ T.length ≤ 5764 + 4 * j) ⟨y6, T, rfl, hD9, tabs_ext hT7 e9 hD7, aT, by omega⟩ ?_ ?_⟩
        · rintro j σ HA hj ⟨y6, T, rfl, hDA, hTA, aT, lT⟩
          refine ⟨.str _, rfl, _, _, rfl, rfl, b2a (T := T) (by omega), _, _, rfl, rfl, b2b (T := T) (by omega), ?_⟩
          rw [bent2]
          exact ⟨_, _, rfl, hDA, hTA, bent2_asc aT, by rw [bent2_len]; omega⟩
        · rintro σ HA ⟨y6, T, rfl, hDA, hTA, aT, lT⟩
          exact ⟨_, _, _, _, _, rfl, hDA, hTA, aT, by omega⟩
      clear hD7 hT7 aT lT T y6 y7 y8 y9
      rintro σ H7 ⟨y6, y7, y8, y9, T, rfl, hD7, hT7, aT, lT⟩
      refine ⟨(fun σ H7 => ∃ (y7 : V), σ = [some (.ref a), some (.ref d), some (.int (0 + i)), some (.ref p), some (.ref DD), some (.str (SX.S T)), y6, some y7, y8, y9, none] ∧ Drw c ms H7 d ∧ LamX.Tabs TT0 H7 ∧ ((∃ ss q vs, y7 = .ref q ∧ T = txT ss ∧ okL ss ∧ dLeL ss 4 ∧ H7 q = some (.lst vs) ∧ HPL H7 ss vs) ∨ (y7 = .non ∧ ¬ ∃ ss, T = txT ss ∧ okL ss ∧ dLeL ss 4))), ?_, ?_⟩
      · exact ⟨.str _, rfl, T, 0, rfl, rfl, aT, by omega, fun ss e o dl q vs H9 e9 nq hq hQ => ⟨_, rfl, hD7.same e9, hT7.ext e9, .inl ⟨ss, q, vs, rfl, e, o, dl, hq, hQ⟩⟩, fun hn H9 e9 => ⟨_, rfl, hD7.same e9, hT7.ext e9, .inr ⟨rfl, hn⟩⟩⟩
      clear hD7 hT7 y7
      rintro σ H7 ⟨y7, rfl, hD7, hT7, hy⟩
      refine ⟨(fun σ H7 => ∃ (y7 : V), σ = [some (.ref a), some (.ref d), some (.int (0 + i)), some (.ref p), some (.ref DD), some (.str (SX.S T)), y6, some y7, y8, y9, none] ∧ Drw c ms H7 d ∧ LamX.Tabs TT0 H7 ∧ ((∃ ss q vs, y7 = .ref q ∧ prs T = some ss ∧ H7 q = some (.lst vs) ∧ HPL H7 ss vs) ∨ (y7 = .non ∧ prs T = none))), ?_, ?_⟩
      · rcases hy with ⟨ss, q, vs, rfl, eT, o, dl, hq, hQ⟩ | ⟨rfl, hn⟩
        · have w1 : wrL ss ≤ 30000 := by have := wrT_len ss; rw [← eT] at this; omega
          refine ⟨.ref q, rfl, _, rfl, iteFd (decide_eq_false fun z => by cases z) ⟨.ref q, rfl, q, vs, ss, rfl, .inl (SqL.of hq), hQ, dl, w1, fun H9 e9 => ⟨_, 100, rfl, rfl, _, rfl, ite2 (fun h => ?_) (fun h => ?_)⟩⟩⟩
          · refine ⟨_, rfl, hD7.same e9, hT7.ext e9, .inr ⟨rfl, ?_⟩⟩
            cases hp : prs T with
            | none => rfl
            | some ss' =>
              obtain ⟨e', o', d', w'⟩ := prs_iff.mp hp
              have : ss' = ss := txT_inj (e'.symm.trans eT) o' d' o dl
              rw [this] at w'
              have h := of_decide_eq_true h
              omega
          · refine ⟨.ref q, rfl, _, rfl, hD7.same e9, hT7.ext e9, .inl ⟨ss, q, vs, rfl, prs_iff.mpr ⟨eT, o, dl, ?_⟩, e9 _ _ hq, HPL.same e9 _ hQ⟩⟩
            rcases Nat.lt_or_ge 100 (wrL ss) with l | l
            · exact absurd (decide_eq_true (by omega)) h
            · exact l
        · refine ⟨.non, rfl, _, rfl, iteTd (by decide) ⟨_, rfl, hD7, hT7, .inr ⟨rfl, ?_⟩⟩⟩
          cases hp : prs T with
          | none => rfl
          | some ss' =>
            obtain ⟨e', o', d', _⟩ := prs_iff.mp hp
            exact absurd ⟨ss', e', o', d'⟩ hn
      clear hD7 hT7 hy y7
      rintro σ H7 ⟨y7, rfl, hD7, hT7, hy⟩
      refine ⟨(fun σ H7 => ∃ (t : Addr), σ = [some (.ref a), some (.ref d), some (.int (0 + i)), some (.ref p), some (.ref DD), some (.str (SX.S T)), y6, some y7, some (.ref t), y9, none] ∧ Drw c ms H7 d ∧ LamX.Tabs TT0 H7 ∧ ((∃ ss q vs, prs T = some ss ∧ H7 q = some (.lst vs) ∧ HPL H7 ss vs ∧ H7 t = some (.tup [.ref q, .str "", .non])) ∨ (prs T = none ∧ H7 t = some (.tup [.non, .str "ParseError", .int 0])))), ?_, ?_⟩
      · rcases hy with ⟨ss, q, vs, rfl, eT, hq, hQ⟩ | ⟨rfl, hn⟩
        · refine ⟨.ref q, rfl, _, rfl, iteFd (decide_eq_false fun z => by cases z) ⟨.ref q, rfl, sz (by show 3 ≤ 100000; decide), fun t nt => ?_⟩⟩
          have g := same_new (o := .tup [.ref q, .str "", .non]) nt
          exact ⟨t, rfl, hD7.same g, hT7.ext g, .inl ⟨ss, q, vs, eT, g _ _ hq, HPL.same g _ hQ, upd_same⟩⟩
        · refine ⟨.non, rfl, _, rfl, iteTd (by decide) ⟨sz (by show 3 ≤ 100000; decide), fun t nt => ?_⟩⟩
          have g := same_new (o := .tup [.non, .str "ParseError", .int 0]) nt
          exact ⟨t, rfl, hD7.same g, hT7.ext g, .inr ⟨hn, upd_same⟩⟩
      clear hD7 hT7 hy
      rintro σ H7 ⟨t, rfl, hD7, hT7, hy⟩
      refine ⟨hT7, fun H10 eN hT10 H11 E1 R1 e11 hE hR => ?_⟩
      have hD11 := (drw_extN hD7 eN).same e11
      have hT11 := hT10.ext e11
      have up : ∀ x xs, H7 x = some (.tup xs) → H11 x = some (.tup xs) := fun x xs h => e11 _ _ (eN _ _ h fun ps z => by cases z)
      refine ⟨.str _, rfl, prs_out aT (by omega) n3 X3 f5 f6 hE hR (fun ss hs l us p1 Hx ex hl hL hp1 => ?_) (fun hs p1 Hx ex hp1 => ?_)⟩
      · rcases hy with ⟨ss', q, vs, eT, hq, hQ, ht⟩ | ⟨hn, _⟩
        · rw [hs] at eT
          cases eT
          obtain ⟨_, _, dl, w⟩ := prs_iff.mp hs
          refine ⟨.ref t, rfl, .ref p1, .ref t, rfl, eqvW_tri hp1 (ex _ _ (up _ _ ht)) (hplist_eqv (n := 4) (k := 2) hl (ex _ _ (e11 _ _ (eN _ _ hq fun ps z => by cases z))) hL (HPL.same ex _ (HPL.at up _ hQ)) dl (by omega)) (EqvW.flat rfl) (EqvW.flat rfl), fun HD eD => ⟨true, rfl, iteFd rfl ?_⟩⟩
          exact ⟨_, _, _, _, _, _, _, _, rfl, hD11.same (ex.trans eD), hT11.ext (ex.trans eD)⟩
        · rw [hs] at hn; cases hn
      · rcases hy with ⟨ss', q, vs, eT, hq, hQ, ht⟩ | ⟨_, ht⟩
        · rw [hs] at eT; cases eT
        · refine ⟨.ref t, rfl, .ref p1, .ref t, rfl, eqvW_tri hp1 (ex _ _ (up _ _ ht)) (EqvW.flat rfl) (EqvW.flat rfl) (EqvW.flat rfl), fun HD eD => ⟨true, rfl, iteFd rfl ?_⟩⟩
          exact ⟨_, _, _, _, _, _, _, _, rfl, hD11.same (ex.trans eD), hT11.ext (ex.trans eD)⟩
    · rintro σ H0 ⟨y2, y3, y4, y5, y6, y7, y8, y9, rfl, hD, hT0⟩
      refine ⟨tl " 1", 100, congrArg V.str (S_back _).symm, rfl, by decide +kernel, by decide +kernel, by decide, by decide, by decide +kernel, _, _, rfl, rfl, catL1 _ _ _ (by decide +kernel), sz (by show 16 ≤ 100000; decide), fun l1 nl1 => ?_⟩
      have el1 := upd_same (H := H0) (a := l1) (o := .lst [V.str " ", .str "1 ", .str "01", .str "-0", .str "1*", .str "1*(", .str "1*()2", .str "1*2", .str "()", .str "a", .str "+1", .str "1*(1))", .str "-1*(2)", .str "1000000001", .str "2 *(1)", .str ((Str.ofString "1") ++ SX.S (rep (tl " 1") 100))])
      have g1 := same_new (o := .lst [V.str " ", .str "1 ", .str "01", .str "-0", .str "1*", .str "1*(", .str "1*()2", .str "1*2", .str "()", .str "a", .str "+1", .str "1*(1))", .str "-1*(2)", .str "1000000001", .str "2 *(1)", .str ((Str.ofString "1") ++ SX.S (rep (tl " 1") 100))]) nl1
      rw [odd1_eq] at el1 g1 ⊢
      have hT1 := hT0.ext g1
      generalize upd H0 l1 (HO.lst (odd1.map sv)) = HA at el1 hT1 ⊢
      clear g1
      refine ⟨.ref l1, rfl, tl "0", 31, congrArg V.str (S_back _).symm, rfl, by decide +kernel, by decide +kernel, by decide, by decide, by decide +kernel, _, _, rfl, rfl, catL1 _ _ _ (by decide +kernel), _, _, rfl, rfl, catL3 _ _ _ _ (by decide +kernel), tl "1", 32, congrArg V.str (S_back _).symm, rfl, by decide +kernel, by decide +kernel, by decide, by decide, by decide +kernel,
        tl "2*(", 5, congrArg V.str (S_back _).symm, rfl, by decide +kernel, by decide +kernel, by decide, by decide, by decide +kernel, tl ")", 5, congrArg V.str (S_back _).symm, rfl, by decide +kernel, by decide +kernel, by decide, by decide, by decide +kernel, _, _, rfl, rfl, catL2 _ _ _ _ (by decide +kernel),
        tl "2*(", 900, congrArg V.str (S_back _).symm, rfl, by decide +kernel, by decide +kernel, by decide, by decide, by decide +kernel, tl ")", 900, congrArg V.str (S_back _).symm, rfl, by decide +kernel, by decide +kernel, by decide, by decide, by decide +kernel, _, _, rfl, rfl, catL2 _ _ _ _ (by decide +kernel), sz (by show 5 ≤ 100000; decide), fun l2 nl2 => ?_⟩
      have el2 := upd_same (H := HA) (a := l2) (o := .lst [V.str (Str.ofString "1" ++ SX.S (rep (tl "0") 31) ++ Str.ofString "*()"), .str (SX.S (rep (tl "1") 32)), .str "2*(3 )", .str (SX.S (rep (tl "2*(") 5) ++ SX.S (rep (tl ")") 5)), .str (SX.S (rep (tl "2*(") 900) ++ SX.S (rep (tl ")") 900))])
      have g2 := same_new (o := .lst [V.str (Str.ofString "1" ++ SX.S (rep (tl "0") 31) ++ Str.ofString "*()"), .str (SX.S (rep (tl "1") 32)), .str "2*(3 )", .str (SX.S (rep (tl "2*(") 5) ++ SX.S (rep (tl ")") 5)), .str (SX.S (rep (tl "2*(") 900) ++ SX.S (rep (tl ")") 900))]) nl2
      rw [odd2_eq] at el2 g2 ⊢
      have hT2 := hT1.ext g2
      have em1 := g2 _ _ el1
      generalize upd HA l2 (HO.lst (odd2.map sv)) = HB at el2 em1 hT2 ⊢
      clear g2
      refine ⟨l1, l2, _, _, rfl, rfl, em1, el2, sz (by rw [List.length_map, List.length_map, odd_len1, odd_len2]; decide), fun lf nlf => ?_⟩
      have hlf := upd_same (H := HB) (a := lf) (o := .lst (odd1.map sv ++ odd2.map sv))
      have hTF := hT2.ext (same_new (o := .lst (odd1.map sv ++ odd2.map sv)) nlf)
      rw [← List.map_append] at hlf hTF ⊢
      generalize upd HB lf (HO.lst ((odd1 ++ odd2).map sv)) = HF at hlf hTF ⊢
      have each : ∀ (j : Nat) (v : V), ((odd1 ++ odd2).map sv)[j]? = some v → ∃ T, v = .str (SX.S T) ∧ prs T = none ∧ AscL T ∧ T.length ≤ 20000 := by
        intro j v hj
        rw [List.getElem?_map] at hj
        obtain ⟨T, hT, rfl⟩ := Option.map_eq_some_iff.mp hj
        have m : goodOdd T = true := List.all_eq_true.mp odd_good T (List.mem_of_getElem? hT)
        exact ⟨T, rfl, goodOdd_iff m⟩
      have l21 : ((odd1 ++ odd2).map sv).length = 21 := by rw [List.length_map]; exact odd_len
      generalize (odd1 ++ odd2).map sv = ZS at hlf each l21
      refine ⟨.ref lf, rfl, lf, rfl, ⟨_, SqL.of hlf⟩, fun DD nDD => ?_⟩
      refine lc_list (xs := ZS) (fun j H2 => LamX.Tabs TT0 H2 ∧ LamX.ExtN HF H2 ∧ ∃ us, H2 DD = some (.lst us) ∧ PR H2 j us) ⟨hTF.ext (same_new nDD), fun b o h _ => same_new nDD b o h, [], upd_same, rfl⟩ (fun j H2 _ h => SqL.of (h.2.1 _ _ hlf fun ps z => by cases z)) ?_ ?_
      · rintro j v H2 hv ⟨hT2, eF, us, hus, hTR⟩
        obtain ⟨T, rfl, hn, aT, lT⟩ := each j v hv
        have j21 : j < 21 := by
          obtain ⟨h, _⟩ := List.getElem?_eq_some_iff.mp hv
          omega
        refine ⟨rfl, hT2, fun H10 eN hT10 H11 E1 R1 e11 hE hR => ?_⟩
        have eF11 : LamX.ExtN HF H11 := fun b o h n => e11 _ _ (eN _ _ (eF _ _ h n) n)
        have hus11 := e11 _ _ (eN _ _ hus fun ps z => by cases z)
        have hTR11 := (hTR.at fun x xs h => eN _ _ h fun ps z => by cases z).at (e11 · <| .tup ·)
        refine ⟨.str _, rfl, prs_out aT lT n3 X3 f5 f6 hE hR (fun ss hs => by rw [hn] at hs; cases hs) (fun _ p2 H12 e12 hp2 => ⟨p2, .non, _, _, rfl, hp2, fun r nr => ?_⟩)⟩
        have gr := same_new (o := .tup [.str "ParseError", .int 0]) nr
        have c := e12.trans gr
        have hus13 := c _ _ hus11
        have hTR13 := (hTR11.at (c · <| .tup ·)).snoc (p := r) upd_same
        refine ⟨us, hus13, szl (by rw [hTR.len]; omega), tabs_lst ((hT10.ext e11).ext c) hus13, fun b o h n => ?_, us ++ [.ref r], upd_same, hTR13.put hus13⟩
        have nb : b ≠ DD := fun z => by rw [z, nDD] at h; cases h
        rw [upd_ne nb]
        exact c _ _ (eF11 _ _ h n)
      · rintro H3 ⟨hT3, eF, us, hus, hTR⟩
        rw [l21] at hTR
        refine ⟨sz (by show 2 ≤ 100000; decide), fun t nt => ⟨sz (by show 1 ≤ 100000; decide), fun l nl => ⟨l, 21, [.ref t], rfl, rfl, upd_same, by decide, by decide, sz (by show 1 * 21 ≤ 100000; decide), fun lq nlq => ?_⟩⟩⟩
        rw [rep_one]
        have m3 := same_new (o := .lst (List.replicate (Int.toNat 21) (V.ref t))) nlq
        have m2 := (same_new (o := .lst [.ref t]) nl).trans m3
        have m1 := (same_new (o := .tup [.str "ParseError", .int 0]) nt).trans m2
        refine ⟨_, _, .lst (SqL.of (m1 _ _ hus)) (PR.dp (hTR.at (m1 · <| .tup ·))), .lst (SqL.of upd_same) (PR.dp (PR.rep (m2 _ _ upd_same) 21)), by decide +kernel, by decide +kernel, ?_⟩
        rw [show PyData.eqv (.list (List.replicate 21 (.tuple [.str "ParseError", .int 0]))) (.list (List.replicate 21 (.tuple [.str "ParseError", .int 0]))) = true by decide +kernel]
        exact q _
end
end TT
namespace TT
open PySem PySem.Spec PyProof.Rows L2
section
variable {P : Program} {w : World} {K : PySem.W.Frag} {mg : Str → Option Value} {base : Heap}
theorem ok_TreeI {f : Addr} {fd : FuncData} {k : Nat} (F : Fun K "__init__" "TreeError.__init__" s_TreeError_init f fd) (hV : mg "ValueError" = none) (vV : PySem.W.findCls K (.type "ValueError") (.type "type") "__init__" = some (.val (.builtin "ValueError.__init__"))) :
    FnOk P w K mg base CX0 (k + 1) f fd ["self", "tag", "told"] (spTreeI K) := by
  refine F.ok sc_TreeError_init (fun vs H Q E h => ?_) (fun cdv A outer s H vs Q E hr h => ?_)
  · obtain ⟨a, C, tag, told, rfl, _⟩ := h
    rfl
  · obtain ⟨a, C, tag, told, rfl, T, ha, ft, q⟩ := h
    refine ⟨_, (pss_cons (ps_expr (pe_veinit (by rfl) hV vV (pa_cons (pv 0) (pa_cons (pv 2) pa_nil)))) (pss_one (ps_ost (pv 0) (pv 1)))), ?_⟩
    exact ⟨.ref a, rfl, .str told, rfl, a, C, [.str told], rfl, by show 1 ≤ 1000; decide, T, ha, .str tag, rfl, .ref a, rfl, a, C, rfl, T, ft, .inl ⟨ha, fun dx n ne => q dx n ne⟩⟩
theorem ok_TreeIH {f : Addr} {fd : FuncData} {k : Nat} (F : Fun K "__init__" "TreeError.__init__" s_TreeError_init f fd) (hV : mg "ValueError" = none) (vV : PySem.W.findCls K (.type "ValueError") (.type "type") "__init__" = some (.val (.builtin "ValueError.__init__"))) :
    L2H.FnH P w K mg base CX0 (k + 1) f fd ["self", "tag", "told"] (spTreeI K) := by
  refine fnH_of F sc_TreeError_init (fun vs H Q E h => ?_) (fun cdv A outer s H vs Q E p hot hr h => ?_)
  · obtain ⟨a, C, tag, told, rfl, _⟩ := h
    rfl
  · obtain ⟨a, C, tag, told, rfl, T, ha, ft, q⟩ := h
    refine ⟨_, (pss_cons (ps_expr (pe_veinit (by rfl) hV vV (pa_cons (pv 0) (pa_cons (pv 2) pa_nil)))) (pss_one (ps_ost (pv 0) (pv 1)))), ?_⟩
    exact ⟨.ref a, rfl, .str told, rfl, a, C, [.str told], rfl, by show 1 ≤ 1000; decide, T, ha, .str tag, rfl, .ref a, rfl, a, C, rfl, T, ft, .inl ⟨ha, fun dx n ne => q dx n ne⟩⟩
end
end TT
namespace TT
open PySem PySem.Spec PyProof.Rows L2
section
variable {P : Program} {w : World} {K : PySem.W.Frag} {mg : Str → Option Value} {base : Heap}
theorem ok_BadStepI {f fT CT : Addr} {fd fdT : FuncData} {k : Nat} (F : Fun K "__init__" "BadStep.__init__" s_BadStep_init f fd) (FT : FnOk P w K mg base CX0 k fT fdT ["self", "tag", "told"] (spTreeI K)) (bT : Binds K fdT ["self", "tag", "told"] []) (kT : PySem.W.keepIn K (.ref fT) = true) (mT : mg "TreeError" = some (.ref CT)) (cT : ClsFn K CT "__init__" fT) :
    FnOk P w K mg base CX0 (k + 1) f fd ["self", "pos"] (spOwnI K "BadStep" "pos") := by
  refine F.ok sc_BadStep_init (fun vs H Q E h => ?_) (fun cdv A outer s H vs Q E hr h => ?_)
  · obtain ⟨a, C, n, rfl, _⟩ := h
    rfl
  · obtain ⟨a, C, n, rfl, hn, T, ha, ft, ff, q⟩ := h
    refine ⟨_, (pss_cons (ps_expr (pe_clsfn (E := E0) (by rfl) mT cT FT (hr.mono (by omega)) kT bT pass0 (pa_cons (pv 0) (pa_cons pe_str (pa_cons (pe_joined (.cons pe_str (.cons (pe_fmt (pv 1)) (.cons pe_str .nil)))) pa_nil))))) (pss_one (ps_ost (pv 0) (pv 1)))), ?_⟩
    refine ⟨.ref a, rfl, _, rfl, fits_app (m := 0) (n := 100) (by decide) (by decide +kernel) (by decide), .int n, rfl, .inr ⟨n, rfl, hn, _, rfl, fits_app (m := 100) (n := 2000) (le_app (m := 0) (n := 100) (by decide) (by decide +kernel)) (int_len hn) (by decide), _, rfl, fits_app (m := 2100) (n := 100) (le_app (m := 100) (n := 2000) (le_app (m := 0) (n := 100) (by decide) (by decide +kernel)) (int_len hn)) (by decide +kernel) (by decide), a, C, _, _, rfl, T, ha, ft, fun dx nd ne => ?_⟩⟩
    refine ⟨.int n, rfl, .ref a, rfl, a, C, rfl, T, ff, .inr ⟨dx, _, upd_same, ?_, by show 1 ≤ 900; decide, q dx nd ne⟩⟩
    rw [upd_ne ne, upd_same]
end
end TT
namespace TT
open PySem PySem.Spec PyProof.Rows L2
section
variable {P : Program} {w : World} {K : PySem.W.Frag} {mg : Str → Option Value} {base : Heap}
theorem ok_TooLongI {f fT CT : Addr} {fd fdT : FuncData} {k : Nat} (F : Fun K "__init__" "TooLong.__init__" s_TooLong_init f fd) (FT : FnOk P w K mg base CX0 k fT fdT ["self", "tag", "told"] (spTreeI K)) (bT : Binds K fdT ["self", "tag", "told"] []) (kT : PySem.W.keepIn K (.ref fT) = true) (mT : mg "TreeError" = some (.ref CT)) (cT : ClsFn K CT "__init__" fT) :
    FnOk P w K mg base CX0 (k + 1) f fd ["self", "limit"] (spOwnI K "TooLong" "limit") := by
  refine F.ok sc_TooLong_init (fun vs H Q E h => ?_) (fun cdv A outer s H vs Q E hr h => ?_)
  · obtain ⟨a, C, n, rfl, _⟩ := h
    rfl
  · obtain ⟨a, C, n, rfl, hn, T, ha, ft, ff, q⟩ := h
    refine ⟨_, (pss_cons (ps_expr (pe_clsfn (E := E0) (by rfl) mT cT FT (hr.mono (by omega)) kT bT pass0 (pa_cons (pv 0) (pa_cons pe_str (pa_cons (pe_joined (.cons pe_str (.cons (pe_fmt (pv 1)) (.cons pe_str .nil)))) pa_nil))))) (pss_one (ps_ost (pv 0) (pv 1)))), ?_⟩
    refine ⟨.ref a, rfl, _, rfl, fits_app (m := 0) (n := 100) (by decide) (by decide +kernel) (by decide), .int n, rfl, .inr ⟨n, rfl, hn, _, rfl, fits_app (m := 100) (n := 2000) (le_app (m := 0) (n := 100) (by decide) (by decide +kernel)) (int_len hn) (by decide), _, rfl, fits_app (m := 2100) (n := 100) (le_app (m := 100) (n := 2000) (le_app (m := 0) (n := 100) (by decide) (by decide +kernel)) (int_len hn)) (by decide +kernel) (by decide), a, C, _, _, rfl, T, ha, ft, fun dx nd ne => ?_⟩⟩
    refine ⟨.int n, rfl, .ref a, rfl, a, C, rfl, T, ff, .inr ⟨dx, _, upd_same, ?_, by show 1 ≤ 900; decide, q dx nd ne⟩⟩
    rw [upd_ne ne, upd_same]
end
end TT
namespace TT
open PySem PySem.Spec PyProof.Rows L2
section
variable {P : Program} {w : World} {K : PySem.W.Frag} {mg : Str → Option Value} {base : Heap}
theorem ok_ParseErrorI {f fT CT : Addr} {fd fdT : FuncData} {k : Nat} (F : Fun K "__init__" "ParseError.__init__" s_ParseError_init f fd) (FT : FnOk P w K mg base CX0 k fT fdT ["self", "tag", "told"] (spTreeI K)) (bT : Binds K fdT ["self", "tag", "told"] []) (kT : PySem.W.keepIn K (.ref fT) = true) (mT : mg "TreeError" = some (.ref CT)) (cT : ClsFn K CT "__init__" fT) :
    FnOk P w K mg base CX0 (k + 1) f fd ["self", "pos"] (spOwnI K "ParseError" "pos") := by
  refine F.ok sc_ParseError_init (fun vs H Q E h => ?_) (fun cdv A outer s H vs Q E hr h => ?_)
  · obtain ⟨a, C, n, rfl, _⟩ := h
    rfl
  · obtain ⟨a, C, n, rfl, hn, T, ha, ft, ff, q⟩ := h
    refine ⟨_, (pss_cons (ps_expr (pe_clsfn (E := E0) (by rfl) mT cT FT (hr.mono (by omega)) kT bT pass0 (pa_cons (pv 0) (pa_cons pe_str (pa_cons (pe_joined (.cons pe_str (.cons (pe_fmt (pv 1)) .nil))) pa_nil))))) (pss_one (ps_ost (pv 0) (pv 1)))), ?_⟩
    refine ⟨.ref a, rfl, _, rfl, fits_app (m := 0) (n := 100) (by decide) (by decide +kernel) (by decide), .int n, rfl, .inr ⟨n, rfl, hn, _, rfl, fits_app (m := 100) (n := 2000) (le_app (m := 0) (n := 100) (by decide) (by decide +kernel)) (int_len hn) (by decide), a, C, _, _, rfl, T, ha, ft, fun dx nd ne => ?_⟩⟩
    refine ⟨.int n, rfl, .ref a, rfl, a, C, rfl, T, ff, .inr ⟨dx, _, upd_same, ?_, by show 1 ≤ 900; decide, q dx nd ne⟩⟩
    rw [upd_ne ne, upd_same]
theorem ok_ParseErrorIH {f fT CT : Addr} {fd fdT : FuncData} {k : Nat} (F : Fun K "__init__" "ParseError.__init__" s_ParseError_init f fd) (FT : L2H.FnH P w K mg base CX0 k fT fdT ["self", "tag", "told"] (spTreeI K)) (bT : Binds K fdT ["self", "tag", "told"] []) (kT : PySem.W.keepIn K (.ref fT) = true) (mT : mg "TreeError" = some (.ref CT)) (cT : ClsFn K CT "__init__" fT) :
    L2H.FnH P w K mg base CX0 (k + 1) f fd ["self", "pos"] (spOwnI K "ParseError" "pos") := by
  refine fnH_of F sc_ParseError_init (fun vs H Q E h => ?_) (fun cdv A outer s H vs Q E p hot hr h => ?_)
  · obtain ⟨a, C, n, rfl, _⟩ := h
    rfl
  · obtain ⟨a, C, n, rfl, hn, T, ha, ft, ff, q⟩ := h
    refine ⟨_, (pss_cons (ps_expr (pe_clsfnH (by rfl) mT cT FT (hr.mono (by omega)) ⟨p, hot, List.mem_singleton.mpr rfl⟩ kT bT (fun _ _ _ _ _ _ _ c => c.elim) (pa_cons (pv 0) (pa_cons pe_str (pa_cons (pe_joined (.cons pe_str (.cons (pe_fmt (pv 1)) .nil))) pa_nil))))) (pss_one (ps_ost (pv 0) (pv 1)))), ?_⟩
    refine ⟨.ref a, rfl, _, rfl, fits_app (m := 0) (n := 100) (by decide) (by decide +kernel) (by decide), .int n, rfl, .inr ⟨n, rfl, hn, _, rfl, fits_app (m := 100) (n := 2000) (le_app (m := 0) (n := 100) (by decide) (by decide +kernel)) (int_len hn) (by decide), a, C, _, _, rfl, T, ha, ft, fun dx nd ne => ?_⟩⟩
    refine ⟨.int n, rfl, .ref a, rfl, a, C, rfl, T, ff, .inr ⟨dx, _, upd_same, ?_, by show 1 ≤ 900; decide, q dx nd ne⟩⟩
    rw [upd_ne ne, upd_same]
end
end TT
namespace TT
open PySem PySem.Spec PyProof.Rows L2
theorem all_mk {l : PySem.W.OpenLaw} {w : World} {K : PySem.W.Frag} {h : Heap} {mg : Str → Option Value} {fa : Addr} (X : K.In h) (G : h.Ns mainGlobals mg) (hfa : mg "law" = some (.ref fa)) (own : LamX.OwnTab K fa h)
    {f0 : Addr} {od0 an0 : Option Addr} {sl0 : Array (Option Value)} {oc0 kV0 dc0 pm0 cd0 ct0 : Value}
    {f1 : Addr} {od1 an1 : Option Addr} {sl1 : Array (Option Value)} {oc1 kV1 dc1 pm1 cd1 ct1 : Value}
    {f2 : Addr} {od2 an2 : Option Addr} {sl2 : Array (Option Value)} {oc2 kV2 dc2 pm2 cd2 ct2 : Value}
    {f3 : Addr} {od3 an3 : Option Addr} {sl3 : Array (Option Value)} {oc3 kV3 dc3 pm3 cd3 ct3 : Value}
    {f4 : Addr} {od4 an4 : Option Addr} {sl4 : Array (Option Value)} {oc4 kV4 dc4 pm4 cd4 ct4 : Value}
    {f5 : Addr} {od5 an5 : Option Addr} {sl5 : Array (Option Value)} {oc5 kV5 dc5 pm5 cd5 ct5 : Value}
    {f6 : Addr} {od6 an6 : Option Addr} {sl6 : Array (Option Value)} {oc6 kV6 dc6 pm6 cd6 ct6 : Value}
    {f7 : Addr} {od7 an7 : Option Addr} {sl7 : Array (Option Value)} {oc7 kV7 dc7 pm7 cd7 ct7 : Value}
    {f8 : Addr} {od8 an8 : Option Addr} {sl8 : Array (Option Value)} {oc8 kV8 dc8 pm8 cd8 ct8 : Value}
    {f9 : Addr} {od9 an9 : Option Addr} {sl9 : Array (Option Value)} {oc9 kV9 dc9 pm9 cd9 ct9 : Value}
    {f10 : Addr} {od10 an10 : Option Addr} {sl10 : Array (Option Value)} {oc10 kV10 dc10 pm10 cd10 ct10 : Value}
    {f11 : Addr} {od11 an11 : Option Addr} {sl11 : Array (Option Value)} {oc11 kV11 dc11 pm11 cd11 ct11 : Value}
    {f12 : Addr} {od12 an12 : Option Addr} {sl12 : Array (Option Value)} {oc12 kV12 dc12 pm12 cd12 ct12 : Value}
    {f13 : Addr} {od13 an13 : Option Addr} {sl13 : Array (Option Value)} {oc13 kV13 dc13 pm13 cd13 ct13 : Value}
    {f14 : Addr} {od14 an14 : Option Addr} {sl14 : Array (Option Value)} {oc14 kV14 dc14 pm14 cd14 ct14 : Value}
    {f15 : Addr} {od15 an15 : Option Addr} {sl15 : Array (Option Value)} {oc15 kV15 dc15 pm15 cd15 ct15 : Value}
    {f16 : Addr} {od16 an16 : Option Addr} {sl16 : Array (Option Value)} {oc16 kV16 dc16 pm16 cd16 ct16 : Value}
    {f17 : Addr} {od17 an17 : Option Addr} {sl17 : Array (Option Value)} {oc17 kV17 dc17 pm17 cd17 ct17 : Value}
    {f18 : Addr} {od18 an18 : Option Addr} {sl18 : Array (Option Value)} {oc18 kV18 dc18 pm18 cd18 ct18 : Value}
    {f19 : Addr} {od19 an19 : Option Addr} {sl19 : Array (Option Value)} {oc19 kV19 dc19 pm19 cd19 ct19 : Value}
    {f20 : Addr} {od20 an20 : Option Addr} {sl20 : Array (Option Value)} {oc20 kV20 dc20 pm20 cd20 ct20 : Value}
    {f21 : Addr} {od21 an21 : Option Addr} {sl21 : Array (Option Value)} {oc21 kV21 dc21 pm21 cd21 ct21 : Value}
    {f22 : Addr} {od22 an22 : Option Addr} {sl22 : Array (Option Value)} {oc22 kV22 dc22 pm22 cd22 ct22 : Value}
    {f23 : Addr} {od23 an23 : Option Addr} {sl23 : Array (Option Value)} {oc23 kV23 dc23 pm23 cd23 ct23 : Value}
    {f24 : Addr} {od24 an24 : Option Addr} {sl24 : Array (Option Value)} {oc24 kV24 dc24 pm24 cd24 ct24 : Value}
    {f25 : Addr} {od25 an25 : Option Addr} {sl25 : Array (Option Value)} {oc25 kV25 dc25 pm25 cd25 ct25 : Value}
    {f26 : Addr} {od26 an26 : Option Addr} {sl26 : Array (Option Value)} {oc26 kV26 dc26 pm26 cd26 ct26 : Value}
    {f27 : Addr} {od27 an27 : Option Addr} {sl27 : Array (Option Value)} {oc27 kV27 dc27 pm27 ct27 : Value}
    {cl PT : Addr} {ec : Value} {dcl : Option Addr} {vcl : Array Value} {slc : Array (Option Value)}
    {t_KEY_LIMIT : Tok}
    {t_MAX_STEPS : Tok}
    {t_MAX_NESTING : Tok}
    {t_COUNT_LIMIT : Tok}
    {t_MAX_DIGITS : Tok}
    {C_TreeError : Addr}
    {C_Missing : Addr}
    {C_BadStep : Addr}
    {C_TooLong : Addr}
    {C_ParseError : Addr}
    {i_TreeError : Addr} {iod_TreeError ian_TreeError : Option Addr} {isl_TreeError : Array (Option Value)} {ioc_TreeError ikV_TreeError idc_TreeError ipm_TreeError icd_TreeError ict_TreeError : Value}
    {i_BadStep : Addr} {iod_BadStep ian_BadStep : Option Addr} {isl_BadStep : Array (Option Value)} {ioc_BadStep ikV_BadStep idc_BadStep ipm_BadStep icd_BadStep ict_BadStep : Value}
    {i_TooLong : Addr} {iod_TooLong ian_TooLong : Option Addr} {isl_TooLong : Array (Option Value)} {ioc_TooLong ikV_TooLong idc_TooLong ipm_TooLong icd_TooLong ict_TooLong : Value}
    {i_ParseError : Addr} {iod_ParseError ian_ParseError : Option Addr} {isl_ParseError : Array (Option Value)} {ioc_ParseError ikV_ParseError idc_ParseError ipm_ParseError icd_ParseError ict_ParseError : Value}
    (a0 : PySem.W.nsIn K mainGlobals "is_key" = some (some (.ref f0)))
    (l0 : K.lookup f0 = some ⟨oc0, od0, .func (PySem.W.fnOf "is_key" "is_key" (defArgs s_is_key) (defBody s_is_key) (defScope s_is_key) .none kV0 dc0 pm0 an0 cd0 ct0), sl0⟩)
    (c0 : PySem.W.codeIn K cd0 "is_key" = true)
    (k0 : PySem.W.keepIn K (.ref f0) = true)
    (a1 : PySem.W.nsIn K mainGlobals "is_round" = some (some (.ref f1)))
    (l1 : K.lookup f1 = some ⟨oc1, od1, .func (PySem.W.fnOf "is_round" "is_round" (defArgs s_is_round) (defBody s_is_round) (defScope s_is_round) .none kV1 dc1 pm1 an1 cd1 ct1), sl1⟩)
    (c1 : PySem.W.codeIn K cd1 "is_round" = true)
    (k1 : PySem.W.keepIn K (.ref f1) = true)
    (a2 : PySem.W.nsIn K mainGlobals "check_steps" = some (some (.ref f2)))
    (l2 : K.lookup f2 = some ⟨oc2, od2, .func (PySem.W.fnOf "check_steps" "check_steps" (defArgs s_check_steps) (defBody s_check_steps) (defScope s_check_steps) .none kV2 dc2 pm2 an2 cd2 ct2), sl2⟩)
    (c2 : PySem.W.codeIn K cd2 "check_steps" = true)
    (k2 : PySem.W.keepIn K (.ref f2) = true)
    (a3 : PySem.W.nsIn K mainGlobals "check_history" = some (some (.ref f3)))
    (l3 : K.lookup f3 = some ⟨oc3, od3, .func (PySem.W.fnOf "check_history" "check_history" (defArgs s_check_history) (defBody s_check_history) (defScope s_check_history) .none kV3 dc3 pm3 an3 cd3 ct3), sl3⟩)
    (c3 : PySem.W.codeIn K cd3 "check_history" = true)
    (k3 : PySem.W.keepIn K (.ref f3) = true)
    (a4 : PySem.W.nsIn K mainGlobals "parse_integer" = some (some (.ref f4)))
    (l4 : K.lookup f4 = some ⟨oc4, od4, .func (PySem.W.fnOf "parse_integer" "parse_integer" (defArgs s_parse_integer) (defBody s_parse_integer) (defScope s_parse_integer) .none kV4 dc4 pm4 an4 cd4 ct4), sl4⟩)
    (c4 : PySem.W.codeIn K cd4 "parse_integer" = true)
    (k4 : PySem.W.keepIn K (.ref f4) = true)
    (a5 : PySem.W.nsIn K mainGlobals "steps_text" = some (some (.ref f5)))
    (l5 : K.lookup f5 = some ⟨oc5, od5, .func (PySem.W.fnOf "steps_text" "steps_text" (defArgs s_steps_text) (defBody s_steps_text) (defScope s_steps_text) .none kV5 dc5 pm5 an5 cd5 ct5), sl5⟩)
    (c5 : PySem.W.codeIn K cd5 "steps_text" = true)
    (k5 : PySem.W.keepIn K (.ref f5) = true)
    (a6 : PySem.W.nsIn K mainGlobals "step_text" = some (some (.ref f6)))
    (l6 : K.lookup f6 = some ⟨oc6, od6, .func (PySem.W.fnOf "step_text" "step_text" (defArgs s_step_text) (defBody s_step_text) (defScope s_step_text) .none kV6 dc6 pm6 an6 cd6 ct6), sl6⟩)
    (c6 : PySem.W.codeIn K cd6 "step_text" = true)
    (k6 : PySem.W.keepIn K (.ref f6) = true)
    (a7 : PySem.W.nsIn K mainGlobals "format_history" = some (some (.ref f7)))
    (l7 : K.lookup f7 = some ⟨oc7, od7, .func (PySem.W.fnOf "format_history" "format_history" (defArgs s_format_history) (defBody s_format_history) (defScope s_format_history) .none kV7 dc7 pm7 an7 cd7 ct7), sl7⟩)
    (c7 : PySem.W.codeIn K cd7 "format_history" = true)
    (k7 : PySem.W.keepIn K (.ref f7) = true)
    (a8 : PySem.W.nsIn K mainGlobals "integer_end" = some (some (.ref f8)))
    (l8 : K.lookup f8 = some ⟨oc8, od8, .func (PySem.W.fnOf "integer_end" "integer_end" (defArgs s_integer_end) (defBody s_integer_end) (defScope s_integer_end) .none kV8 dc8 pm8 an8 cd8 ct8), sl8⟩)
    (c8 : PySem.W.codeIn K cd8 "integer_end" = true)
    (k8 : PySem.W.keepIn K (.ref f8) = true)
    (a9 : PySem.W.nsIn K mainGlobals "read_step" = some (some (.ref f9)))
    (l9 : K.lookup f9 = some ⟨oc9, od9, .func (PySem.W.fnOf "read_step" "read_step" (defArgs s_read_step) (defBody s_read_step) (defScope s_read_step) .none kV9 dc9 pm9 an9 cd9 ct9), sl9⟩)
    (c9 : PySem.W.codeIn K cd9 "read_step" = true)
    (k9 : PySem.W.keepIn K (.ref f9) = true)
    (a10 : PySem.W.nsIn K mainGlobals "read_steps" = some (some (.ref f10)))
    (l10 : K.lookup f10 = some ⟨oc10, od10, .func (PySem.W.fnOf "read_steps" "read_steps" (defArgs s_read_steps) (defBody s_read_steps) (defScope s_read_steps) .none kV10 dc10 pm10 an10 cd10 ct10), sl10⟩)
    (c10 : PySem.W.codeIn K cd10 "read_steps" = true)
    (k10 : PySem.W.keepIn K (.ref f10) = true)
    (a11 : PySem.W.nsIn K mainGlobals "parse_history" = some (some (.ref f11)))
    (l11 : K.lookup f11 = some ⟨oc11, od11, .func (PySem.W.fnOf "parse_history" "parse_history" (defArgs s_parse_history) (defBody s_parse_history) (defScope s_parse_history) .none kV11 dc11 pm11 an11 cd11 ct11), sl11⟩)
    (c11 : PySem.W.codeIn K cd11 "parse_history" = true)
    (k11 : PySem.W.keepIn K (.ref f11) = true)
    (a12 : PySem.W.nsIn K mainGlobals "_law_start" = some (some (.ref f12)))
    (l12 : K.lookup f12 = some ⟨oc12, od12, .func (PySem.W.fnOf "_law_start" "_law_start" (defArgs s__law_start) (defBody s__law_start) (defScope s__law_start) .none kV12 dc12 pm12 an12 cd12 ct12), sl12⟩)
    (c12 : PySem.W.codeIn K cd12 "_law_start" = true)
    (k12 : PySem.W.keepIn K (.ref f12) = true)
    (a13 : PySem.W.nsIn K mainGlobals "_law_take" = some (some (.ref f13)))
    (l13 : K.lookup f13 = some ⟨oc13, od13, .func (PySem.W.fnOf "_law_take" "_law_take" (defArgs s__law_take) (defBody s__law_take) (defScope s__law_take) .none kV13 dc13 pm13 an13 cd13 ct13), sl13⟩)
    (c13 : PySem.W.codeIn K cd13 "_law_take" = true)
    (k13 : PySem.W.keepIn K (.ref f13) = true)
    (a14 : PySem.W.nsIn K mainGlobals "_law_of" = some (some (.ref f14)))
    (l14 : K.lookup f14 = some ⟨oc14, od14, .func (PySem.W.fnOf "_law_of" "_law_of" (defArgs s__law_of) (defBody s__law_of) (defScope s__law_of) .none kV14 dc14 pm14 an14 cd14 ct14), sl14⟩)
    (c14 : PySem.W.codeIn K cd14 "_law_of" = true)
    (k14 : PySem.W.keepIn K (.ref f14) = true)
    (a15 : PySem.W.nsIn K mainGlobals "_law_same" = some (some (.ref f15)))
    (l15 : K.lookup f15 = some ⟨oc15, od15, .func (PySem.W.fnOf "_law_same" "_law_same" (defArgs s__law_same) (defBody s__law_same) (defScope s__law_same) .none kV15 dc15 pm15 an15 cd15 ct15), sl15⟩)
    (c15 : PySem.W.codeIn K cd15 "_law_same" = true)
    (k15 : PySem.W.keepIn K (.ref f15) = true)
    (a16 : PySem.W.nsIn K mainGlobals "_law_field" = some (some (.ref f16)))
    (l16 : K.lookup f16 = some ⟨oc16, od16, .func (PySem.W.fnOf "_law_field" "_law_field" (defArgs s__law_field) (defBody s__law_field) (defScope s__law_field) .none kV16 dc16 pm16 an16 cd16 ct16), sl16⟩)
    (c16 : PySem.W.codeIn K cd16 "_law_field" = true)
    (k16 : PySem.W.keepIn K (.ref f16) = true)
    (a17 : PySem.W.nsIn K mainGlobals "_law_outcome" = some (some (.ref f17)))
    (l17 : K.lookup f17 = some ⟨oc17, od17, .func (PySem.W.fnOf "_law_outcome" "_law_outcome" (defArgs s__law_outcome) (defBody s__law_outcome) (defScope s__law_outcome) .none kV17 dc17 pm17 an17 cd17 ct17), sl17⟩)
    (c17 : PySem.W.codeIn K cd17 "_law_outcome" = true)
    (k17 : PySem.W.keepIn K (.ref f17) = true)
    (a18 : PySem.W.nsIn K mainGlobals "_law_error" = some (some (.ref f18)))
    (l18 : K.lookup f18 = some ⟨oc18, od18, .func (PySem.W.fnOf "_law_error" "_law_error" (defArgs s__law_error) (defBody s__law_error) (defScope s__law_error) .none kV18 dc18 pm18 an18 cd18 ct18), sl18⟩)
    (c18 : PySem.W.codeIn K cd18 "_law_error" = true)
    (k18 : PySem.W.keepIn K (.ref f18) = true)
    (a19 : PySem.W.nsIn K mainGlobals "_law_keys" = some (some (.ref f19)))
    (l19 : K.lookup f19 = some ⟨oc19, od19, .func (PySem.W.fnOf "_law_keys" "_law_keys" (defArgs s__law_keys) (defBody s__law_keys) (defScope s__law_keys) .none kV19 dc19 pm19 an19 cd19 ct19), sl19⟩)
    (c19 : PySem.W.codeIn K cd19 "_law_keys" = true)
    (k19 : PySem.W.keepIn K (.ref f19) = true)
    (a20 : PySem.W.nsIn K mainGlobals "_law_step" = some (some (.ref f20)))
    (l20 : K.lookup f20 = some ⟨oc20, od20, .func (PySem.W.fnOf "_law_step" "_law_step" (defArgs s__law_step) (defBody s__law_step) (defScope s__law_step) .none kV20 dc20 pm20 an20 cd20 ct20), sl20⟩)
    (c20 : PySem.W.codeIn K cd20 "_law_step" = true)
    (k20 : PySem.W.keepIn K (.ref f20) = true)
    (a21 : PySem.W.nsIn K mainGlobals "_law_history" = some (some (.ref f21)))
    (l21 : K.lookup f21 = some ⟨oc21, od21, .func (PySem.W.fnOf "_law_history" "_law_history" (defArgs s__law_history) (defBody s__law_history) (defScope s__law_history) .none kV21 dc21 pm21 an21 cd21 ct21), sl21⟩)
    (c21 : PySem.W.codeIn K cd21 "_law_history" = true)
    (k21 : PySem.W.keepIn K (.ref f21) = true)
    (a22 : PySem.W.nsIn K mainGlobals "_law_written" = some (some (.ref f22)))
    (l22 : K.lookup f22 = some ⟨oc22, od22, .func (PySem.W.fnOf "_law_written" "_law_written" (defArgs s__law_written) (defBody s__law_written) (defScope s__law_written) .none kV22 dc22 pm22 an22 cd22 ct22), sl22⟩)
    (c22 : PySem.W.codeIn K cd22 "_law_written" = true)
    (k22 : PySem.W.keepIn K (.ref f22) = true)
    (a23 : PySem.W.nsIn K mainGlobals "_law_number" = some (some (.ref f23)))
    (l23 : K.lookup f23 = some ⟨oc23, od23, .func (PySem.W.fnOf "_law_number" "_law_number" (defArgs s__law_number) (defBody s__law_number) (defScope s__law_number) .none kV23 dc23 pm23 an23 cd23 ct23), sl23⟩)
    (c23 : PySem.W.codeIn K cd23 "_law_number" = true)
    (k23 : PySem.W.keepIn K (.ref f23) = true)
    (a24 : PySem.W.nsIn K mainGlobals "_law_items" = some (some (.ref f24)))
    (l24 : K.lookup f24 = some ⟨oc24, od24, .func (PySem.W.fnOf "_law_items" "_law_items" (defArgs s__law_items) (defBody s__law_items) (defScope s__law_items) .none kV24 dc24 pm24 an24 cd24 ct24), sl24⟩)
    (c24 : PySem.W.codeIn K cd24 "_law_items" = true)
    (k24 : PySem.W.keepIn K (.ref f24) = true)
    (a25 : PySem.W.nsIn K mainGlobals "_law_read" = some (some (.ref f25)))
    (l25 : K.lookup f25 = some ⟨oc25, od25, .func (PySem.W.fnOf "_law_read" "_law_read" (defArgs s__law_read) (defBody s__law_read) (defScope s__law_read) .none kV25 dc25 pm25 an25 cd25 ct25), sl25⟩)
    (c25 : PySem.W.codeIn K cd25 "_law_read" = true)
    (k25 : PySem.W.keepIn K (.ref f25) = true)
    (a26 : PySem.W.nsIn K mainGlobals "_law_bent_text" = some (some (.ref f26)))
    (l26 : K.lookup f26 = some ⟨oc26, od26, .func (PySem.W.fnOf "_law_bent_text" "_law_bent_text" (defArgs s__law_bent_text) (defBody s__law_bent_text) (defScope s__law_bent_text) .none kV26 dc26 pm26 an26 cd26 ct26), sl26⟩)
    (c26 : PySem.W.codeIn K cd26 "_law_bent_text" = true)
    (k26 : PySem.W.keepIn K (.ref f26) = true)
    (a27 : PySem.W.nsIn K mainGlobals "law" = some (some (.ref f27)))
    (l27 : K.lookup f27 = some ⟨oc27, od27, .func (PySem.W.fnOf "law" "law" (defArgs s_law) (defBody s_law) (defScope s_law) .none kV27 dc27 pm27 an27 (.ref cl) ct27), sl27⟩)
    (c27 : PySem.W.codeIn K (.ref cl) "law" = true)
    (k27 : PySem.W.keepIn K (.ref f27) = true)
    (kcl : K.lookup cl = some ⟨ec, dcl, .fields vcl, slc⟩)
    (v11 : vcl[11]? = some (.ref PT))
    (hcd : PySem.W.codeHdIn K cl PT = true)
    (nPT : K.lookup PT = none)
    (b_abs : PySem.W.nsIn K mainGlobals "abs" = some none)
    (b_all : PySem.W.nsIn K mainGlobals "all" = some none)
    (b_bool : PySem.W.nsIn K mainGlobals "bool" = some none)
    (b_int : PySem.W.nsIn K mainGlobals "int" = some none)
    (b_isinstance : PySem.W.nsIn K mainGlobals "isinstance" = some none)
    (b_len : PySem.W.nsIn K mainGlobals "len" = some none)
    (b_list : PySem.W.nsIn K mainGlobals "list" = some none)
    (b_range : PySem.W.nsIn K mainGlobals "range" = some none)
    (b_str : PySem.W.nsIn K mainGlobals "str" = some none)
    (b_sum : PySem.W.nsIn K mainGlobals "sum" = some none)
    (b_tuple : PySem.W.nsIn K mainGlobals "tuple" = some none)
    (b_zip : PySem.W.nsIn K mainGlobals "zip" = some none)
    (b_ValueError : PySem.W.nsIn K mainGlobals "ValueError" = some none)
    (g_KEY_LIMIT : PySem.W.nsIn K mainGlobals "KEY_LIMIT" = some (some (.int 1000000000 t_KEY_LIMIT)))
    (g_MAX_STEPS : PySem.W.nsIn K mainGlobals "MAX_STEPS" = some (some (.int 100 t_MAX_STEPS)))
    (g_MAX_NESTING : PySem.W.nsIn K mainGlobals "MAX_NESTING" = some (some (.int 4 t_MAX_NESTING)))
    (g_COUNT_LIMIT : PySem.W.nsIn K mainGlobals "COUNT_LIMIT" = some (some (.int 1000000000000000000000000000000 t_COUNT_LIMIT)))
    (g_MAX_DIGITS : PySem.W.nsIn K mainGlobals "MAX_DIGITS" = some (some (.int 31 t_MAX_DIGITS)))
    (m_TreeError : PySem.W.nsIn K mainGlobals "TreeError" = some (some (.ref C_TreeError)))
    (m_Missing : PySem.W.nsIn K mainGlobals "Missing" = some (some (.ref C_Missing)))
    (m_BadStep : PySem.W.nsIn K mainGlobals "BadStep" = some (some (.ref C_BadStep)))
    (m_TooLong : PySem.W.nsIn K mainGlobals "TooLong" = some (some (.ref C_TooLong)))
    (m_ParseError : PySem.W.nsIn K mainGlobals "ParseError" = some (some (.ref C_ParseError)))
    (vV_TreeError : PySem.W.findCls K (.type "ValueError") (.type "type") "__init__" = some (.val (.builtin "ValueError.__init__")))
    (ga_TreeError : PySem.W.specialIn K (.ref C_TreeError) "__getattribute__" = some (some (.builtin "type.__getattribute__")))
    (rd_TreeError : PySem.W.readsIn K C_TreeError (.type "type") = true)
    (fc_TreeError : PySem.W.findCls K (.ref C_TreeError) (.type "type") "__init__" = some (.val (.ref i_TreeError)))
    (il_TreeError : K.lookup i_TreeError = some ⟨ioc_TreeError, iod_TreeError, .func (PySem.W.fnOf "__init__" "TreeError.__init__" (defArgs s_TreeError_init) (defBody s_TreeError_init) (defScope s_TreeError_init) .none ikV_TreeError idc_TreeError ipm_TreeError ian_TreeError icd_TreeError ict_TreeError), isl_TreeError⟩)
    (ic_TreeError : PySem.W.codeIn K icd_TreeError "TreeError.__init__" = true)
    (ik_TreeError : PySem.W.keepIn K (.ref i_TreeError) = true)
    (o_BadStep : oexB K C_BadStep = true)
    (sa_BadStep : PySem.W.findIn K (.ref C_BadStep) "__setattr__" = some (some (.builtin "object.__setattr__")))
    (ex_BadStep : PySem.W.subIn K (.ref C_BadStep) (.type "BaseException") = some true)
    (ty_BadStep : PySem.W.typeIn K (.ref C_BadStep) = some (.type "type"))
    (kp_BadStep : PySem.W.keepIn K (.ref C_BadStep) = true)
    (fi_BadStep : PySem.W.findIn K (.ref C_BadStep) "__init__" = some (some (.ref i_BadStep)))
    (ti_BadStep : PySem.W.typeIn K (.ref i_BadStep) = some (.type "function"))
    (il_BadStep : K.lookup i_BadStep = some ⟨ioc_BadStep, iod_BadStep, .func (PySem.W.fnOf "__init__" "BadStep.__init__" (defArgs s_BadStep_init) (defBody s_BadStep_init) (defScope s_BadStep_init) .none ikV_BadStep idc_BadStep ipm_BadStep ian_BadStep icd_BadStep ict_BadStep), isl_BadStep⟩)
    (ic_BadStep : PySem.W.codeIn K icd_BadStep "BadStep.__init__" = true)
    (ik_BadStep : PySem.W.keepIn K (.ref i_BadStep) = true)
    (xf_BadStep : xfB K C_BadStep = true)
    (ft_BadStep : PySem.W.findIn K (.ref C_BadStep) "tag" = some none)
    (ff_BadStep : PySem.W.findIn K (.ref C_BadStep) "pos" = some none)
    (n_BadStep : PySem.W.exmAny K (.ref C_BadStep) [.ref C_TreeError, .ref C_Missing] = some true)
    (o_TooLong : oexB K C_TooLong = true)
    (sa_TooLong : PySem.W.findIn K (.ref C_TooLong) "__setattr__" = some (some (.builtin "object.__setattr__")))
    (ex_TooLong : PySem.W.subIn K (.ref C_TooLong) (.type "BaseException") = some true)
    (ty_TooLong : PySem.W.typeIn K (.ref C_TooLong) = some (.type "type"))
    (kp_TooLong : PySem.W.keepIn K (.ref C_TooLong) = true)
    (fi_TooLong : PySem.W.findIn K (.ref C_TooLong) "__init__" = some (some (.ref i_TooLong)))
    (ti_TooLong : PySem.W.typeIn K (.ref i_TooLong) = some (.type "function"))
    (il_TooLong : K.lookup i_TooLong = some ⟨ioc_TooLong, iod_TooLong, .func (PySem.W.fnOf "__init__" "TooLong.__init__" (defArgs s_TooLong_init) (defBody s_TooLong_init) (defScope s_TooLong_init) .none ikV_TooLong idc_TooLong ipm_TooLong ian_TooLong icd_TooLong ict_TooLong), isl_TooLong⟩)
    (ic_TooLong : PySem.W.codeIn K icd_TooLong "TooLong.__init__" = true)
    (ik_TooLong : PySem.W.keepIn K (.ref i_TooLong) = true)
    (xf_TooLong : xfB K C_TooLong = true)
    (ft_TooLong : PySem.W.findIn K (.ref C_TooLong) "tag" = some none)
    (ff_TooLong : PySem.W.findIn K (.ref C_TooLong) "limit" = some none)
    (n_TooLong : PySem.W.exmAny K (.ref C_TooLong) [.ref C_TreeError, .ref C_Missing] = some true)
    (o_ParseError : oexB K C_ParseError = true)
    (sa_ParseError : PySem.W.findIn K (.ref C_ParseError) "__setattr__" = some (some (.builtin "object.__setattr__")))
    (ex_ParseError : PySem.W.subIn K (.ref C_ParseError) (.type "BaseException") = some true)
    (ty_ParseError : PySem.W.typeIn K (.ref C_ParseError) = some (.type "type"))
    (kp_ParseError : PySem.W.keepIn K (.ref C_ParseError) = true)
    (fi_ParseError : PySem.W.findIn K (.ref C_ParseError) "__init__" = some (some (.ref i_ParseError)))
    (ti_ParseError : PySem.W.typeIn K (.ref i_ParseError) = some (.type "function"))
    (il_ParseError : K.lookup i_ParseError = some ⟨ioc_ParseError, iod_ParseError, .func (PySem.W.fnOf "__init__" "ParseError.__init__" (defArgs s_ParseError_init) (defBody s_ParseError_init) (defScope s_ParseError_init) .none ikV_ParseError idc_ParseError ipm_ParseError ian_ParseError icd_ParseError ict_ParseError), isl_ParseError⟩)
    (ic_ParseError : PySem.W.codeIn K icd_ParseError "ParseError.__init__" = true)
    (ik_ParseError : PySem.W.keepIn K (.ref i_ParseError) = true)
    (xf_ParseError : xfB K C_ParseError = true)
    (ft_ParseError : PySem.W.findIn K (.ref C_ParseError) "tag" = some none)
    (ff_ParseError : PySem.W.findIn K (.ref C_ParseError) "pos" = some none)
    (n_ParseError : PySem.W.exmAny K (.ref C_ParseError) [.ref C_TreeError, .ref C_Missing] = some true)
    (y_1 : PySem.W.exmAny K (.ref C_TooLong) [.ref C_TooLong, .ref C_BadStep] = some true)
    (y_2 : PySem.W.exmAny K (.ref C_BadStep) [.ref C_TooLong, .ref C_BadStep] = some true) :
    LamX.LawAtS l w K CX0 20 63 "_law_script" mg fa h := by
  have e := hfa.symm.trans (PySem.W.mg_of X G a27)
  cases e
  have B : Blt mg := ⟨PySem.W.mg_none_of X G b_abs, PySem.W.mg_none_of X G b_all, PySem.W.mg_none_of X G b_bool, PySem.W.mg_none_of X G b_int, PySem.W.mg_none_of X G b_isinstance, PySem.W.mg_none_of X G b_len, PySem.W.mg_none_of X G b_list, PySem.W.mg_none_of X G b_range, PySem.W.mg_none_of X G b_str, PySem.W.mg_none_of X G b_sum, PySem.W.mg_none_of X G b_tuple, PySem.W.mg_none_of X G b_zip⟩
  have Gc : Cst mg := ⟨⟨_, PySem.W.mg_of X G g_KEY_LIMIT⟩, ⟨_, PySem.W.mg_of X G g_MAX_STEPS⟩, ⟨_, PySem.W.mg_of X G g_MAX_NESTING⟩, ⟨_, PySem.W.mg_of X G g_COUNT_LIMIT⟩, ⟨_, PySem.W.mg_of X G g_MAX_DIGITS⟩⟩
  refine ⟨PySem.W.fnOf "law" "law" (defArgs s_law) (defBody s_law) (defScope s_law) .none kV27 dc27 pm27 an27 (.ref cl) ct27, [(cl, PT)], spLawT K PT, fun p hp => ?_, fun p hp => ?_, fun p hp => ?_, fun s v => .of_eq rfl, fun H a ns hl _ hT hS => ?_, fun base _ _ hB => ?_⟩
  · rw [List.mem_singleton.mp hp]; exact own cl PT _ _ _ _ _ _ l27 rfl rfl kcl v11
  · rw [List.mem_singleton.mp hp]; exact nPT
  · rw [List.mem_singleton.mp hp]; exact PySem.W.codeHd_of_K X hcd
  · exact ⟨a, ns, rfl, hS, hl, hT (cl, PT) (List.mem_singleton.mpr rfl), fun _ => rfl⟩
  have mS_TreeError := PySem.W.mg_of X G m_TreeError
  have F_TreeError := fun_mk (st := s_TreeError_init) il_TreeError ic_TreeError ik_TreeError
  have b_STreeError := F_TreeError.binds (ps := ["self", "tag", "told"]) fun _ _ _ _ _ _ us hl => match us, hl with | [_, _, _], _ => rfl
  have O_TreeError : FnOk l.prog w K mg base CX0 1 i_TreeError _ ["self", "tag", "told"] (spTreeI K) := ok_TreeI F_TreeError (PySem.W.mg_none_of X G b_ValueError) vV_TreeError
  have mS_Missing := PySem.W.mg_of X G m_Missing
  have F_BadStep := fun_mk (st := s_BadStep_init) il_BadStep ic_BadStep ik_BadStep
  have b_BadStep := F_BadStep.binds (ps := ["self", "pos"]) fun _ _ _ _ _ _ us hl => match us, hl with | [_, _], _ => rfl
  have T_BadStep : OexC K C_BadStep := ⟨oexB_cls o_BadStep, sa_BadStep, ex_BadStep, ty_BadStep, kp_BadStep⟩
  have x_BadStep : MkE l.prog w K mg base "BadStep" ["self", "pos"] 2 C_BadStep (spOwnI K "BadStep" "pos") := ⟨T_BadStep, _, _, fi_BadStep, ti_BadStep, ok_BadStepI F_BadStep O_TreeError b_STreeError ik_TreeError mS_TreeError ⟨ga_TreeError, rd_TreeError, fc_TreeError, rfl⟩, b_BadStep, PySem.W.mg_of X G m_BadStep⟩
  have F_TooLong := fun_mk (st := s_TooLong_init) il_TooLong ic_TooLong ik_TooLong
  have b_TooLong := F_TooLong.binds (ps := ["self", "limit"]) fun _ _ _ _ _ _ us hl => match us, hl with | [_, _], _ => rfl
  have T_TooLong : OexC K C_TooLong := ⟨oexB_cls o_TooLong, sa_TooLong, ex_TooLong, ty_TooLong, kp_TooLong⟩
  have x_TooLong : MkE l.prog w K mg base "TooLong" ["self", "limit"] 2 C_TooLong (spOwnI K "TooLong" "limit") := ⟨T_TooLong, _, _, fi_TooLong, ti_TooLong, ok_TooLongI F_TooLong O_TreeError b_STreeError ik_TreeError mS_TreeError ⟨ga_TreeError, rd_TreeError, fc_TreeError, rfl⟩, b_TooLong, PySem.W.mg_of X G m_TooLong⟩
  have F_ParseError := fun_mk (st := s_ParseError_init) il_ParseError ic_ParseError ik_ParseError
  have b_ParseError := F_ParseError.binds (ps := ["self", "pos"]) fun _ _ _ _ _ _ us hl => match us, hl with | [_, _], _ => rfl
  have T_ParseError : OexC K C_ParseError := ⟨oexB_cls o_ParseError, sa_ParseError, ex_ParseError, ty_ParseError, kp_ParseError⟩
  have x_ParseError : MkE l.prog w K mg base "ParseError" ["self", "pos"] 2 C_ParseError (spOwnI K "ParseError" "pos") := ⟨T_ParseError, _, _, fi_ParseError, ti_ParseError, ok_ParseErrorI F_ParseError O_TreeError b_STreeError ik_TreeError mS_TreeError ⟨ga_TreeError, rd_TreeError, fc_TreeError, rfl⟩, b_ParseError, PySem.W.mg_of X G m_ParseError⟩
  have OH_TreeError : L2H.FnH l.prog w K mg base CX0 1 i_TreeError _ ["self", "tag", "told"] (spTreeI K) := ok_TreeIH F_TreeError (PySem.W.mg_none_of X G b_ValueError) vV_TreeError
  have h_ParseError : MkH l.prog w K mg base "ParseError" ["self", "pos"] 2 C_ParseError (spOwnI K "ParseError" "pos") := ⟨T_ParseError, _, _, fi_ParseError, ti_ParseError, ok_ParseErrorIH F_ParseError OH_TreeError b_STreeError ik_TreeError mS_TreeError ⟨ga_TreeError, rd_TreeError, fc_TreeError, rfl⟩, b_ParseError, PySem.W.mg_of X G m_ParseError⟩
  have F_is_key := fun_mk (st := s_is_key) l0 c0 k0
  have b_is_key := F_is_key.binds (ps := ["number"]) fun _ _ _ _ _ _ us hl => match us, hl with | [_], _ => rfl
  have g_is_key := PySem.W.mg_of X G a0
  have O_is_key : FnOk l.prog w K mg base CX0 1 f0 _ ["number"] spIsKey := ok_is_key (k := 0) F_is_key Gc  
  have c_is_key : Cal l.prog w K mg base CX0 "is_key" ["number"] 1 spIsKey := ⟨_, _, O_is_key, g_is_key, F_is_key.kp, b_is_key⟩
  have F_is_round := fun_mk (st := s_is_round) l1 c1 k1
  have b_is_round := F_is_round.binds (ps := ["step"]) fun _ _ _ _ _ _ us hl => match us, hl with | [_], _ => rfl
  have g_is_round := PySem.W.mg_of X G a1
  have O_is_round : FnOk l.prog w K mg base CX0 1 f1 _ ["step"] spRoundB := ok_roundB (k := 0) F_is_round B Gc  
  have c_is_round : Cal l.prog w K mg base CX0 "is_round" ["step"] 1 spRoundB := ⟨_, _, O_is_round, g_is_round, F_is_round.kp, b_is_round⟩
  have F_check_steps := fun_mk (st := s_check_steps) l2 c2 k2
  have b_check_steps := F_check_steps.binds (ps := ["steps", "start", "depth"]) fun _ _ _ _ _ _ us hl => match us, hl with | [_, _, _], _ => rfl
  have g_check_steps := PySem.W.mg_of X G a2
  have c_check_steps : Cal l.prog w K mg base (L2N.CX l.prog w) "check_steps" ["steps", "start", "depth"] 8 (spChkB K C_TooLong C_BadStep 4) := ⟨_, _, ok_chkBN F_check_steps B Gc (c_is_key.mono (show 1 ≤ 2 by decide)) (c_is_round.mono (show 1 ≤ 2 by decide)) (x_TooLong.mono (by decide)) (x_BadStep.mono (by decide)) ft_TooLong ff_TooLong ft_BadStep ff_BadStep g_check_steps b_check_steps 5, g_check_steps, F_check_steps.kp, b_check_steps⟩
  have F_check_history := fun_mk (st := s_check_history) l3 c3 k3
  have b_check_history := F_check_history.binds (ps := ["history"]) fun _ _ _ _ _ _ us hl => match us, hl with | [_], _ => rfl
  have g_check_history := PySem.W.mg_of X G a3
  have O_check_history : FnOk l.prog w K mg base (L2N.CX l.prog w) 9 f3 _ ["history"] (spChkHB K C_TooLong C_BadStep) := ok_chkHB (k := 8) F_check_history (c_check_steps.mono (show 8 ≤ 8 by decide)) 
  have c_check_history : Cal l.prog w K mg base (L2N.CX l.prog w) "check_history" ["history"] 9 (spChkHB K C_TooLong C_BadStep) := ⟨_, _, O_check_history, g_check_history, F_check_history.kp, b_check_history⟩
  have F_parse_integer := fun_mk (st := s_parse_integer) l4 c4 k4
  have b_parse_integer := F_parse_integer.binds (ps := ["text"]) fun _ _ _ _ _ _ us hl => match us, hl with | [_], _ => rfl
  have g_parse_integer := PySem.W.mg_of X G a4
  have O_parse_integer : FnOk l.prog w K mg base (L2N.CX l.prog w) 4 f4 _ ["text"] (spParseIX C_ParseError) := ok_parseIX (k := 2) F_parse_integer B Gc (x_ParseError.mono (by decide)) ft_ParseError ff_ParseError  
  have c_parse_integer : Cal l.prog w K mg base (L2N.CX l.prog w) "parse_integer" ["text"] 4 (spParseIX C_ParseError) := ⟨_, _, O_parse_integer, g_parse_integer, F_parse_integer.kp, b_parse_integer⟩
  have F_steps_text := fun_mk (st := s_steps_text) l5 c5 k5
  have b_steps_text := F_steps_text.binds (ps := ["steps"]) fun _ _ _ _ _ _ us hl => match us, hl with | [_], _ => rfl
  have g_steps_text := PySem.W.mg_of X G a5
  have F_step_text := fun_mk (st := s_step_text) l6 c6 k6
  have b_step_text := F_step_text.binds (ps := ["step"]) fun _ _ _ _ _ _ us hl => match us, hl with | [_], _ => rfl
  have g_step_text := PySem.W.mg_of X G a6
  have c_steps_text : Cal l.prog w K mg base CX0 "steps_text" ["steps"] 10 (spStepsText K 4) := ⟨_, _, ok_txAll (k := 0) F_steps_text F_step_text B g_steps_text b_steps_text g_step_text b_step_text 5, g_steps_text, F_steps_text.kp, b_steps_text⟩
  have F_format_history := fun_mk (st := s_format_history) l7 c7 k7
  have b_format_history := F_format_history.binds (ps := ["history"]) fun _ _ _ _ _ _ us hl => match us, hl with | [_], _ => rfl
  have g_format_history := PySem.W.mg_of X G a7
  have O_format_history : FnOk l.prog w K mg base CX0 11 f7 _ ["history"] (spFormatH K) := ok_formatX (k := 10) F_format_history (c_check_history.mono (show 9 ≤ 10 by decide)) (c_steps_text.mono (show 10 ≤ 10 by decide)) 
  have c_format_history : Cal l.prog w K mg base CX0 "format_history" ["history"] 11 (spFormatH K) := ⟨_, _, O_format_history, g_format_history, F_format_history.kp, b_format_history⟩
  have F_integer_end := fun_mk (st := s_integer_end) l8 c8 k8
  have b_integer_end := F_integer_end.binds (ps := ["text", "start"]) fun _ _ _ _ _ _ us hl => match us, hl with | [_, _], _ => rfl
  have g_integer_end := PySem.W.mg_of X G a8
  have O_integer_end : FnOk l.prog w K mg base CX0 1 f8 _ ["text", "start"] spIntEndX := ok_intEndX (k := 0) F_integer_end B  
  have c_integer_end : Cal l.prog w K mg base CX0 "integer_end" ["text", "start"] 1 spIntEndX := ⟨_, _, O_integer_end, g_integer_end, F_integer_end.kp, b_integer_end⟩
  have F_read_step := fun_mk (st := s_read_step) l9 c9 k9
  have b_read_step := F_read_step.binds (ps := ["text", "start", "depth"]) fun _ _ _ _ _ _ us hl => match us, hl with | [_, _, _], _ => rfl
  have g_read_step := PySem.W.mg_of X G a9
  have F_read_steps := fun_mk (st := s_read_steps) l10 c10 k10
  have b_read_steps := F_read_steps.binds (ps := ["text", "start", "depth"]) fun _ _ _ _ _ _ us hl => match us, hl with | [_, _, _], _ => rfl
  have g_read_steps := PySem.W.mg_of X G a10
  have c_read_steps : Cal l.prog w K mg base (L2N.CX l.prog w) "read_steps" ["text", "start", "depth"] 14 (spRdStepsX C_ParseError 4) := ⟨_, _, ok_rdAllX (k := 3) F_read_steps F_read_step B Gc (x_ParseError.mono (by decide)) ft_ParseError ff_ParseError (c_integer_end.mono (show 1 ≤ 4 by decide)) (c_parse_integer.mono (show 4 ≤ 4 by decide)) g_read_steps b_read_steps g_read_step b_read_step 5, g_read_steps, F_read_steps.kp, b_read_steps⟩
  have F_parse_history := fun_mk (st := s_parse_history) l11 c11 k11
  have b_parse_history := F_parse_history.binds (ps := ["text"]) fun _ _ _ _ _ _ us hl => match us, hl with | [_], _ => rfl
  have g_parse_history := PySem.W.mg_of X G a11
  have c_parse_history : Cal l.prog w K mg base (CXJ l.prog w) "parse_history" ["text"] 16 (spParseHX K C_ParseError) := ⟨_, _, ok_parseHX (k := 14) F_parse_history B (x_ParseError.mono (by decide)) (h_ParseError.mono (by decide)) ft_ParseError ff_ParseError (PySem.W.mg_of X G m_TooLong) (PySem.W.mg_of X G m_BadStep) y_1 y_2 (c_read_steps.mono (show 14 ≤ 15 by decide)) (c_check_history.mono (show 9 ≤ 15 by decide)), g_parse_history, F_parse_history.kp, b_parse_history⟩
  have F__law_start := fun_mk (st := s__law_start) l12 c12 k12
  have b__law_start := F__law_start.binds (ps := ["_law_script"]) fun _ _ _ _ _ _ us hl => match us, hl with | [_], _ => rfl
  have g__law_start := PySem.W.mg_of X G a12
  have O__law_start : FnOk l.prog w K mg base CX0 1 f12 _ ["_law_script"] (spStart K) := ok_start (k := 0) F__law_start B  
  have c__law_start : Cal l.prog w K mg base CX0 "_law_start" ["_law_script"] 1 (spStart K) := ⟨_, _, O__law_start, g__law_start, F__law_start.kp, b__law_start⟩
  have F__law_take := fun_mk (st := s__law_take) l13 c13 k13
  have b__law_take := F__law_take.binds (ps := ["_law_draw", "_law_many"]) fun _ _ _ _ _ _ us hl => match us, hl with | [_, _], _ => rfl
  have g__law_take := PySem.W.mg_of X G a13
  have O__law_take : FnOk l.prog w K mg base CX0 1 f13 _ ["_law_draw", "_law_many"] spTake := ok_take (k := 0) F__law_take B  
  have c__law_take : Cal l.prog w K mg base CX0 "_law_take" ["_law_draw", "_law_many"] 1 spTake := ⟨_, _, O__law_take, g__law_take, F__law_take.kp, b__law_take⟩
  have F__law_of := fun_mk (st := s__law_of) l14 c14 k14
  have b__law_of := F__law_of.binds (ps := ["_law_draw", "_law_some"]) fun _ _ _ _ _ _ us hl => match us, hl with | [_, _], _ => rfl
  have g__law_of := PySem.W.mg_of X G a14
  have O__law_of : FnOk l.prog w K mg base CX0 2 f14 _ ["_law_draw", "_law_some"] (spOf K) := ok_of (k := 1) F__law_of B (c__law_take.mono (show 1 ≤ 1 by decide)) 
  have c__law_of : Cal l.prog w K mg base CX0 "_law_of" ["_law_draw", "_law_some"] 2 (spOf K) := ⟨_, _, O__law_of, g__law_of, F__law_of.kp, b__law_of⟩
  have F__law_same := fun_mk (st := s__law_same) l15 c15 k15
  have b__law_same := F__law_same.binds (ps := ["_law_found", "_law_due"]) fun _ _ _ _ _ _ us hl => match us, hl with | [_, _], _ => rfl
  have g__law_same := PySem.W.mg_of X G a15
  have c__law_same : Cal l.prog w K mg base CX0 "_law_same" ["_law_found", "_law_due"] 13 (spSameW 12) := ⟨_, _, ok_same F__law_same B g__law_same b__law_same 13, g__law_same, F__law_same.kp, b__law_same⟩
  have F__law_field := fun_mk (st := s__law_field) l16 c16 k16
  have b__law_field := F__law_field.binds (ps := ["_law_e"]) fun _ _ _ _ _ _ us hl => match us, hl with | [_], _ => rfl
  have g__law_field := PySem.W.mg_of X G a16
  have c_field : CalEJ l.prog w K mg base "_law_field" ["_law_e"] 1 (spField K) := ⟨⟨_, _, ok_field (k := 0) F__law_field  , g__law_field, F__law_field.kp, b__law_field⟩⟩
  have F__law_outcome := fun_mk (st := s__law_outcome) l17 c17 k17
  have b__law_outcome := F__law_outcome.binds (ps := ["_law_ask"]) fun _ _ _ _ _ _ us hl => match us, hl with | [_], _ => rfl
  have g__law_outcome := PySem.W.mg_of X G a17
  have F__law_error := fun_mk (st := s__law_error) l18 c18 k18
  have b__law_error := F__law_error.binds (ps := ["_law_ask"]) fun _ _ _ _ _ _ us hl => match us, hl with | [_], _ => rfl
  have g__law_error := PySem.W.mg_of X G a18
  have F__law_keys := fun_mk (st := s__law_keys) l19 c19 k19
  have b__law_keys := F__law_keys.binds (ps := ["_law_draw", "_law_many"]) fun _ _ _ _ _ _ us hl => match us, hl with | [_, _], _ => rfl
  have g__law_keys := PySem.W.mg_of X G a19
  have O__law_keys : FnOk l.prog w K mg base CX0 3 f19 _ ["_law_draw", "_law_many"] spKeysB := ok_keysB (k := 2) F__law_keys B (c__law_take.mono (show 1 ≤ 2 by decide)) (c__law_of.mono (show 2 ≤ 2 by decide)) 
  have c__law_keys : Cal l.prog w K mg base CX0 "_law_keys" ["_law_draw", "_law_many"] 3 spKeysB := ⟨_, _, O__law_keys, g__law_keys, F__law_keys.kp, b__law_keys⟩
  have F__law_step := fun_mk (st := s__law_step) l20 c20 k20
  have b__law_step := F__law_step.binds (ps := ["_law_draw", "_law_keys_here", "_law_deep"]) fun _ _ _ _ _ _ us hl => match us, hl with | [_, _, _], _ => rfl
  have g__law_step := PySem.W.mg_of X G a20
  have c__law_step : ∀ n : Nat, n ≤ 4 → Cal l.prog w K mg base CX0 "_law_step" ["_law_draw", "_law_keys_here", "_law_deep"] 7 (spStepW n) := fun n hn => (show Cal l.prog w K mg base CX0 "_law_step" ["_law_draw", "_law_keys_here", "_law_deep"] (n + 1 + 2) (spStepW n) from ⟨_, _, ok_stW F__law_step B (c__law_take.mono (show 1 ≤ 2 by decide)) (c__law_of.mono (show 2 ≤ 2 by decide)) g__law_step b__law_step (n + 1), g__law_step, F__law_step.kp, b__law_step⟩).mono (show n + 1 + 2 ≤ 7 by omega)
  have F__law_history := fun_mk (st := s__law_history) l21 c21 k21
  have b__law_history := F__law_history.binds (ps := ["_law_draw", "_law_keys_here", "_law_most", "_law_deep"]) fun _ _ _ _ _ _ us hl => match us, hl with | [_, _, _, _], _ => rfl
  have g__law_history := PySem.W.mg_of X G a21
  have c__law_history : Cal l.prog w K mg base CX0 "_law_history" ["_law_draw", "_law_keys_here", "_law_most", "_law_deep"] 8 spHistW := ⟨_, _, ok_histW (k := 7) F__law_history B (c__law_take.mono (show 1 ≤ 7 by decide)) (fun n hn => (c__law_step n hn).mono (show 7 ≤ 7 by decide)), g__law_history, F__law_history.kp, b__law_history⟩
  have F__law_written := fun_mk (st := s__law_written) l22 c22 k22
  have b__law_written := F__law_written.binds (ps := ["_law_steps"]) fun _ _ _ _ _ _ us hl => match us, hl with | [_], _ => rfl
  have g__law_written := PySem.W.mg_of X G a22
  have c__law_written : Cal l.prog w K mg base CX0 "_law_written" ["_law_steps"] 5 (spWrX K 4) := ⟨_, _, ok_wrX F__law_written B g__law_written b__law_written 5, g__law_written, F__law_written.kp, b__law_written⟩
  have F__law_number := fun_mk (st := s__law_number) l23 c23 k23
  have b__law_number := F__law_number.binds (ps := ["_law_text"]) fun _ _ _ _ _ _ us hl => match us, hl with | [_], _ => rfl
  have g__law_number := PySem.W.mg_of X G a23
  have O__law_number : FnOk l.prog w K mg base CX0 1 f23 _ ["_law_text"] spLNum := ok_lNum (k := 0) F__law_number B  
  have c__law_number : Cal l.prog w K mg base CX0 "_law_number" ["_law_text"] 1 spLNum := ⟨_, _, O__law_number, g__law_number, F__law_number.kp, b__law_number⟩
  have F__law_items := fun_mk (st := s__law_items) l24 c24 k24
  have b__law_items := F__law_items.binds (ps := ["_law_text"]) fun _ _ _ _ _ _ us hl => match us, hl with | [_], _ => rfl
  have g__law_items := PySem.W.mg_of X G a24
  have O__law_items : FnOk l.prog w K mg base CX0 1 f24 _ ["_law_text"] spLIts := ok_lIts (k := 0) F__law_items B  
  have c__law_items : Cal l.prog w K mg base CX0 "_law_items" ["_law_text"] 1 spLIts := ⟨_, _, O__law_items, g__law_items, F__law_items.kp, b__law_items⟩
  have F__law_read := fun_mk (st := s__law_read) l25 c25 k25
  have b__law_read := F__law_read.binds (ps := ["_law_text", "_law_level"]) fun _ _ _ _ _ _ us hl => match us, hl with | [_, _], _ => rfl
  have g__law_read := PySem.W.mg_of X G a25
  have c__law_read : Cal l.prog w K mg base CX0 "_law_read" ["_law_text", "_law_level"] 6 (spLRead (5 - 1)) := ⟨_, _, ok_lRead (k := 1) F__law_read B (c__law_items.mono (show 1 ≤ 1 by decide)) (c__law_number.mono (show 1 ≤ 1 by decide)) g__law_read b__law_read 5, g__law_read, F__law_read.kp, b__law_read⟩
  have F__law_bent_text := fun_mk (st := s__law_bent_text) l26 c26 k26
  have b__law_bent_text := F__law_bent_text.binds (ps := ["_law_draw", "_law_text"]) fun _ _ _ _ _ _ us hl => match us, hl with | [_, _], _ => rfl
  have g__law_bent_text := PySem.W.mg_of X G a26
  have O__law_bent_text : FnOk l.prog w K mg base CX0 3 f26 _ ["_law_draw", "_law_text"] (spBentTx K) := ok_bentTx (k := 2) F__law_bent_text B (c__law_take.mono (show 1 ≤ 2 by decide)) (c__law_of.mono (show 2 ≤ 2 by decide)) 
  have c__law_bent_text : Cal l.prog w K mg base CX0 "_law_bent_text" ["_law_draw", "_law_text"] 3 (spBentTx K) := ⟨_, _, O__law_bent_text, g__law_bent_text, F__law_bent_text.kp, b__law_bent_text⟩
  exact ok_law (k := 16) l27 c27 (hB (cl, PT) (List.mem_singleton.mpr rfl)) B F__law_outcome g__law_outcome F__law_error g__law_error (c_field.mono (by decide)) mS_TreeError mS_Missing n_ParseError (xfB_ok xf_ParseError) ft_ParseError ff_ParseError (c__law_start.mono (by decide)) (c__law_of.mono (by decide)) (c__law_take.mono (by decide)) (c__law_keys.mono (by decide)) (c__law_same.mono (by decide)) (c__law_history.mono (by decide)) (c__law_written.mono (by decide)) (c__law_bent_text.mono (by decide)) (c__law_read.mono (by decide)) (c_format_history.mono (by decide)) (c_parse_history.mono (by decide))
end TT
open PySem PySem.W PyProof.Rows
set_option maxHeartbeats 0 in
theorem PySem.Challenge.cw_touchtrees_k57_texts_that_are_no_histori_holds : PySem.Challenge.rw_touchtrees_k57_texts_that_are_no_histori.Holds := by
  w_on; o_law; k_head; (case hw => w_witness2)
  k_fill
  refine LamX.walk_ofOwn (l := PySem.Challenge.rw_touchtrees_k57_texts_that_are_no_histori) (n := 63) (k := 20) (x := "_law_script") (CX := fun _ => L2.CX0) rfl (by decide) rfl ⟨rfl, by decide, by decide⟩ (by decide +kernel) (fun w h Y => by first | exact PySem.W.km_in_of Y | exact PySem.W.kIn_of Y) ?F (fun _ _ _ _ _ h => h)
  case F =>
    intro w mg fa h _ KX G hmg own
    refine' TT.all_mk KX G hmg own ?a0 ?l0 ?c0 ?k0 ?a1 ?l1 ?c1 ?k1 ?a2 ?l2 ?c2 ?k2 ?a3 ?l3 ?c3 ?k3 ?a4 ?l4 ?c4 ?k4 ?a5 ?l5 ?c5 ?k5 ?a6 ?l6 ?c6 ?k6 ?a7 ?l7 ?c7 ?k7 ?a8 ?l8 ?c8 ?k8 ?a9 ?l9 ?c9 ?k9 ?a10 ?l10 ?c10 ?k10 ?a11 ?l11 ?c11 ?k11 ?a12 ?l12 ?c12 ?k12 ?a13 ?l13 ?c13 ?k13 ?a14 ?l14 ?c14 ?k14 ?a15 ?l15 ?c15 ?k15 ?a16 ?l16 ?c16 ?k16 ?a17 ?l17 ?c17 ?k17 ?a18 ?l18 ?c18 ?k18 ?a19 ?l19 ?c19 ?k19 ?a20 ?l20 ?c20 ?k20 ?a21 ?l21 ?c21 ?k21 ?a22 ?l22 ?c22 ?k22 ?a23 ?l23 ?c23 ?k23 ?a24 ?l24 ?c24 ?k24 ?a25 ?l25 ?c25 ?k25 ?a26 ?l26 ?c26 ?k26 ?a27 ?l27 ?c27 ?k27 ?kcl ?v11 ?hcd ?nPT ?b_abs ?b_all ?b_bool ?b_int ?b_isinstance ?b_len ?b_list ?b_range ?b_str ?b_sum ?b_tuple ?b_zip ?b_ValueError ?g_KEY_LIMIT ?g_MAX_STEPS ?g_MAX_NESTING ?g_COUNT_LIMIT ?g_MAX_DIGITS ?m_TreeError ?m_Missing ?m_BadStep ?m_TooLong ?m_ParseError ?vV_TreeError ?ga_TreeError ?rd_TreeError ?fc_TreeError ?il_TreeError ?ic_TreeError ?ik_TreeError ?o_BadStep ?sa_BadStep ?ex_BadStep ?ty_BadStep ?kp_BadStep ?fi_BadStep ?ti_BadStep ?il_BadStep ?ic_BadStep ?ik_BadStep ?xf_BadStep ?ft_BadStep ?ff_BadStep ?n_BadStep ?o_TooLong ?sa_TooLong ?ex_TooLong ?ty_TooLong ?kp_TooLong ?fi_TooLong ?ti_TooLong ?il_TooLong ?ic_TooLong ?ik_TooLong ?xf_TooLong ?ft_TooLong ?ff_TooLong ?n_TooLong ?o_ParseError ?sa_ParseError ?ex_ParseError ?ty_ParseError ?kp_ParseError ?fi_ParseError ?ti_ParseError ?il_ParseError ?ic_ParseError ?ik_ParseError ?xf_ParseError ?ft_ParseError ?ff_ParseError ?n_ParseError ?y_1 ?y_2
    (case a0 => k_is)
    (case l0 => k_is)
    (case c0 => k_is)
    (case k0 => k_is)
    (case a1 => k_is)
    (case l1 => k_is)
    (case c1 => k_is)
    (case k1 => k_is)
    (case a2 => k_is)
    (case l2 => k_is)
    (case c2 => k_is)
    (case k2 => k_is)
    (case a3 => k_is)
    (case l3 => k_is)
    (case c3 => k_is)
    (case k3 => k_is)
    (case a4 => k_is)
    (case l4 => k_is)
    (case c4 => k_is)
    (case k4 => k_is)
    (case a5 => k_is)
    (case l5 => k_is)
    (case c5 => k_is)
    (case k5 => k_is)
    (case a6 => k_is)
    (case l6 => k_is)
    (case c6 => k_is)
    (case k6 => k_is)
    (case a7 => k_is)
    (case l7 => k_is)
    (case c7 => k_is)
    (case k7 => k_is)
    (case a8 => k_is)
    (case l8 => k_is)
    (case c8 => k_is)
    (case k8 => k_is)
    (case a9 => k_is)
    (case l9 => k_is)
    (case c9 => k_is)
    (case k9 => k_is)
    (case a10 => k_is)
    (case l10 => k_is)
    (case c10 => k_is)
    (case k10 => k_is)
    (case a11 => k_is)
    (case l11 => k_is)
    (case c11 => k_is)
    (case k11 => k_is)
    (case a12 => k_is)
    (case l12 => k_is)
    (case c12 => k_is)
    (case k12 => k_is)
    (case a13 => k_is)
    (case l13 => k_is)
    (case c13 => k_is)
    (case k13 => k_is)
    (case a14 => k_is)
    (case l14 => k_is)
    (case c14 => k_is)
    (case k14 => k_is)
    (case a15 => k_is)
    (case l15 => k_is)
    (case c15 => k_is)
    (case k15 => k_is)
    (case a16 => k_is)
    (case l16 => k_is)
    (case c16 => k_is)
    (case k16 => k_is)
    (case a17 => k_is)
    (case l17 => k_is)
    (case c17 => k_is)
    (case k17 => k_is)
    (case a18 => k_is)
    (case l18 => k_is)
    (case c18 => k_is)
    (case k18 => k_is)
    (case a19 => k_is)
    (case l19 => k_is)
    (case c19 => k_is)
    (case k19 => k_is)
    (case a20 => k_is)
    (case l20 => k_is)
    (case c20 => k_is)
    (case k20 => k_is)
    (case a21 => k_is)
    (case l21 => k_is)
    (case c21 => k_is)
    (case k21 => k_is)
    (case a22 => k_is)
    (case l22 => k_is)
    (case c22 => k_is)
    (case k22 => k_is)
    (case a23 => k_is)
    (case l23 => k_is)
    (case c23 => k_is)
    (case k23 => k_is)
    (case a24 => k_is)
    (case l24 => k_is)
    (case c24 => k_is)
    (case k24 => k_is)
    (case a25 => k_is)
    (case l25 => k_is)
    (case c25 => k_is)
    (case k25 => k_is)
    (case a26 => k_is)
    (case l26 => k_is)
    (case c26 => k_is)
    (case k26 => k_is)
    (case a27 => k_is)
    (case l27 => k_is)
    (case c27 => k_is)
    (case k27 => k_is)
    (case kcl => k_is)
    (case v11 => first | with_unfolding_all exact rfl | kernel_rfl | k_is)
    (case hcd => first | kernel_rfl | decide +kernel | with_unfolding_all exact rfl)
    (case nPT => first | k_is | kernel_rfl | decide +kernel)
    (case b_abs => k_is)
    (case b_all => k_is)
    (case b_bool => k_is)
    (case b_int => k_is)
    (case b_isinstance => k_is)
    (case b_len => k_is)
    (case b_list => k_is)
    (case b_range => k_is)
    (case b_str => k_is)
    (case b_sum => k_is)
    (case b_tuple => k_is)
    (case b_zip => k_is)
    (case b_ValueError => k_is)
    (case g_KEY_LIMIT => k_is)
    (case g_MAX_STEPS => k_is)
    (case g_MAX_NESTING => k_is)
    (case g_COUNT_LIMIT => k_is)
    (case g_MAX_DIGITS => k_is)
    (case m_TreeError => k_is)
    (case m_Missing => k_is)
    (case m_BadStep => k_is)
    (case m_TooLong => k_is)
    (case m_ParseError => k_is)
    (case vV_TreeError => k_is)
    (case ga_TreeError => k_is)
    (case rd_TreeError => k_is)
    (case fc_TreeError => k_is)
    (case il_TreeError => k_is)
    (case ic_TreeError => k_is)
    (case ik_TreeError => k_is)
    (case o_BadStep => first | kernel_rfl | decide +kernel | with_unfolding_all exact rfl)
    (case sa_BadStep => k_is)
    (case ex_BadStep => k_is)
    (case ty_BadStep => k_is)
    (case kp_BadStep => k_is)
    (case fi_BadStep => k_is)
    (case ti_BadStep => k_is)
    (case il_BadStep => k_is)
    (case ic_BadStep => k_is)
    (case ik_BadStep => k_is)
    (case xf_BadStep => first | kernel_rfl | decide +kernel | with_unfolding_all exact rfl)
    (case ft_BadStep => k_is)
    (case ff_BadStep => k_is)
    (case n_BadStep => first | kernel_rfl | decide +kernel | with_unfolding_all exact rfl)
    (case o_TooLong => first | kernel_rfl | decide +kernel | with_unfolding_all exact rfl)
    (case sa_TooLong => k_is)
    (case ex_TooLong => k_is)
    (case ty_TooLong => k_is)
    (case kp_TooLong => k_is)
    (case fi_TooLong => k_is)
    (case ti_TooLong => k_is)
    (case il_TooLong => k_is)
    (case ic_TooLong => k_is)
    (case ik_TooLong => k_is)
    (case xf_TooLong => first | kernel_rfl | decide +kernel | with_unfolding_all exact rfl)
    (case ft_TooLong => k_is)
    (case ff_TooLong => k_is)
    (case n_TooLong => first | kernel_rfl | decide +kernel | with_unfolding_all exact rfl)
    (case o_ParseError => first | kernel_rfl | decide +kernel | with_unfolding_all exact rfl)
    (case sa_ParseError => k_is)
    (case ex_ParseError => k_is)
    (case ty_ParseError => k_is)
    (case kp_ParseError => k_is)
    (case fi_ParseError => k_is)
    (case ti_ParseError => k_is)
    (case il_ParseError => k_is)
    (case ic_ParseError => k_is)
    (case ik_ParseError => k_is)
    (case xf_ParseError => first | kernel_rfl | decide +kernel | with_unfolding_all exact rfl)
    (case ft_ParseError => k_is)
    (case ff_ParseError => k_is)
    (case n_ParseError => first | kernel_rfl | decide +kernel | with_unfolding_all exact rfl)
    (case y_1 => first | kernel_rfl | decide +kernel | with_unfolding_all exact rfl)
    (case y_2 => first | kernel_rfl | decide +kernel | with_unfolding_all exact rfl)
