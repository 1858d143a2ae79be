import PyProof.Rows.All
import Wide.All
import OpenK.AllK
import Wide.FinOn
import HandS.ForMost
import HandS.More
import HandS.SortRule
import HandS.SortInts
import HandS.TupSets
import HandS.Deep
import HandS.IsInst
import HandS.DictComp
import HandS.Style
import HandS.Flow
import HandS.TupAny
import HandS.Walk
import HandS.Rev
import HandS.RevTup
import HandS.AnyAll
import HandS.GenOver
import PyProof.GenQ
import PyProof.GenComp
import PyProof.ConsumeS
import HandS.Zip
import HandS.Defaults
import PySem.Challenge.RW_pointedties_k28_common_to
import KE.KDictCopyH
import KE.KDictPairs
import HandS.HeadWalk
import PyProof.ReprRoads
import KE.KStateDown
import HandS.Head0
import HandS.Head1
import HandS.Head2
import HandS.HeadEnd
import HandS.HeadHook1
import HandS.HeadHook2
import HandS.HeadHook3
import HandS.HeadHook4
set_option Elab.async false
set_option linter.all false
set_option maxRecDepth 100000
namespace My
open PySem PySem.Spec PyProof.Rows L2

/-! ### a def that may be called by its name -/
structure Cl (P : Program) (w : World) (K : PySem.W.Frag) (mg : Str → Option Value) (base : Heap)
    (k : Nat) (x : Str) (sp : Sp) : Prop where
  ex : ∃ (f : Addr) (fd : FuncData) (ps : List Str), FnOk P w K mg base CX0 k f fd ps sp ∧
    mg x = some (.ref f) ∧ PySem.W.keepIn K (.ref f) = true ∧ Binds K fd ps []
theorem Cl.mk' {P : Program} {w : World} {K : PySem.W.Frag} {mg : Str → Option Value} {base : Heap} {k : Nat} {x : Str} {sp : Sp}
    {st : Stmt} {f : Addr} {fd : FuncData} {ps : List Str} (F : Fun K x x st f fd) (hm : mg x = some (.ref f))
    (hb : Binds K fd ps []) (ok : FnOk P w K mg base CX0 k f fd ps sp) : Cl P w K mg base k x sp := ⟨f, fd, ps, ok, hm, F.kp, hb⟩
theorem pe_c {X : Cx} {k j : Nat} {x : Str} {sp : Sp} {p pos : Pos} {e : Expr} {es : List Expr} {t : TA}
    (c : Cl X.prog X.w X.K X.mg X.base k x sp) (hr : Room j X.A) (hk : k ≤ j) (hg : Gl X x) (ha : PA X (e :: es) t)
    (h1 : (x == ("__debug__" : Str)) = false := by decide)
    (h2 : starEach (e :: es) X.env = (false, eval e X.env) :: starEach es X.env := by rfl)
    (h3 : (backTo pos (starEach es X.env)).any (·.1) = false := by rfl) :
    PE X (.Call (.Name x p) (e :: es) [] pos) (tCall sp [] E0 t) := by
  obtain ⟨f, fd, ps, F, hm, kp, b⟩ := c.ex
  exact pe_call F (hr.mono hk) hg hm kp b .nil pass0 ha h1 h2 h3

/-! ### heaps: all stays but the list of draws at L -/
def Fr (L : Addr) (H H' : Hp) : Prop := ∀ b o, b ≠ L → H b = some o → H' b = some o
theorem Fr.refl (L : Addr) (H : Hp) : Fr L H H := fun _ _ _ h => h
theorem Fr.trans {L : Addr} {H H1 H2 : Hp} (a : Fr L H H1) (b : Fr L H1 H2) : Fr L H H2 :=
  fun c o n h => b c o n (a c o n h)
theorem Fr.of {L : Addr} {H H' : Hp} (a : Same H H') : Fr L H H' := fun b o _ h => a b o h
theorem same_new {H : Hp} {p : Addr} {o : HO} (h : H p = none) : Same H (upd H p o) := fun b x e => by
  rw [upd_ne (ne_of_none e h)]; exact e
theorem Fr.new {L : Addr} {H : Hp} {p : Addr} {o : HO} (h : H p = none) : Fr L H (upd H p o) := Fr.of (same_new h)
/-- what is new to the first heap may change -/
theorem Fr.put {L : Addr} {H H' : Hp} {p : Addr} {o : HO} (a : Fr L H H') (h : H p = none) : Fr L H (upd H' p o) :=
  fun b x n e => by rw [upd_ne (ne_of_none e h)]; exact a b x n e
theorem Same.put {H H' : Hp} {p : Addr} {o : HO} (a : Same H H') (h : H p = none) : Same H (upd H' p o) :=
  fun b x e => by rw [upd_ne (ne_of_none e h)]; exact a b x e
theorem Fr.putL {L : Addr} {H H' : Hp} {o : HO} (a : Fr L H H') : Fr L H (upd H' L o) :=
  fun b x n e => by rw [upd_ne n]; exact a b x n e

/-! ### the list of draws -/
def Lf (H : Hp) (L : Addr) (c : Int) : Prop :=
  ∃ x y z : Int, H L = some (.lst [.int x, .int y, .int z]) ∧ 0 ≤ x ∧ 0 ≤ z ∧ z ≤ c
theorem Lf.mono {H : Hp} {L : Addr} {c d : Int} (h : Lf H L c) (e : c ≤ d) : Lf H L d := by
  obtain ⟨x, y, z, h1, h2, h3, h4⟩ := h
  exact ⟨x, y, z, h1, h2, h3, Int.le_trans h4 e⟩
theorem Lf.same {H H' : Hp} {L : Addr} {c : Int} (h : Lf H L c) (e : Same H H') : Lf H' L c := by
  obtain ⟨x, y, z, h1, h2⟩ := h
  exact ⟨x, y, z, e _ _ h1, h2⟩
theorem Lf.new {H : Hp} {L p : Addr} {c : Int} {o : HO} (h : Lf H L c) (e : H p = none) : Lf (upd H p o) L c := h.same (same_new e)
theorem Lf.ne {H : Hp} {L p : Addr} {c : Int} (h : Lf H L c) (e : H p = none) : p ≠ L := by
  obtain ⟨x, y, z, h1, h2⟩ := h
  rintro rfl; rw [h1] at e; cases e
theorem Lf.put {H : Hp} {L p : Addr} {c : Int} {o : HO} (h : Lf H L c) (e : p ≠ L) : Lf (upd H p o) L c := by
  obtain ⟨x, y, z, h1, h2⟩ := h
  exact ⟨x, y, z, by rw [upd_ne (Ne.symm e)]; exact h1, h2⟩
theorem Lf.free {H H' : Hp} {L p : Addr} {c' : Int} (a : Fr L H H') (h' : Lf H' L c') (e : H' p = none) : H p = none := by
  have n := h'.ne e
  cases q : H p with
  | none => rfl
  | some o => rw [a p o n q] at e; cases e
theorem Lf.tup {H H' : Hp} {L p : Addr} {c : Int} {xs : List V} (a : Fr L H H') (h : Lf H L c) (e : H p = some (.tup xs)) : H' p = some (.tup xs) := by
  refine a p _ ?_ e
  obtain ⟨x, y, z, h1, h2⟩ := h
  rintro rfl; rw [h1] at e; cases e

/-! ### ties, rows of ties, webs -/
def Tie (H : Hp) (v : V) (t : Int × Int) : Prop := ∃ p, v = .ref p ∧ H p = some (.tup [.int t.1, .int t.2])
def Ties (H : Hp) : List V → List (Int × Int) → Prop
  | [], [] => True
  | v :: vs, t :: ts => Tie H v t ∧ Ties H vs ts
  | _, _ => False
/-- tuples stay -/
def Tst (H H' : Hp) : Prop := ∀ b xs, H b = some (.tup xs) → H' b = some (.tup xs)
theorem Tst.refl (H : Hp) : Tst H H := fun _ _ h => h
theorem Tst.trans {H H1 H2 : Hp} (a : Tst H H1) (b : Tst H1 H2) : Tst H H2 := fun c o h => b c o (a c o h)
theorem Same.tst {H H' : Hp} (a : Same H H') : Tst H H' := fun b xs h => a b _ h
theorem Lf.tst {H H' : Hp} {L : Addr} {c : Int} (h : Lf H L c) (a : Fr L H H') : Tst H H' := fun b xs e => Lf.tup a h e
theorem tst_new {H : Hp} {p : Addr} {o : HO} (h : H p = none) : Tst H (upd H p o) := Same.tst (same_new h)
theorem tst_put {H : Hp} {p : Addr} {o : HO} {xs : List V} (h : H p = some (.lst xs)) : Tst H (upd H p o) := fun b ys e => by
  rw [upd_ne]
  · exact e
  · rintro rfl; rw [h] at e; cases e
theorem Tie.mono {H H' : Hp} {v : V} {t : Int × Int} (a : Tst H H') (h : Tie H v t) : Tie H' v t := by
  obtain ⟨p, e, h⟩ := h
  exact ⟨p, e, a _ _ h⟩
theorem Ties.mono {H H' : Hp} (a : Tst H H') : ∀ {vs : List V} {ts : List (Int × Int)}, Ties H vs ts → Ties H' vs ts
  | [], [], _ => trivial
  | _ :: _, _ :: _, h => ⟨h.1.mono a, Ties.mono a h.2⟩
  | [], _ :: _, h => h.elim
  | _ :: _, [], h => h.elim
theorem Ties.app {H : Hp} : ∀ {vs : List V} {ts : List (Int × Int)} {us : List V} {rs : List (Int × Int)}, Ties H vs ts → Ties H us rs → Ties H (vs ++ us) (ts ++ rs)
  | [], [], _, _, _, k => k
  | _ :: _, _ :: _, _, _, h, k => ⟨h.1, Ties.app h.2 k⟩
  | [], _ :: _, _, _, h, _ => h.elim
  | _ :: _, [], _, _, h, _ => h.elim
theorem Ties.len {H : Hp} : ∀ {vs : List V} {ts : List (Int × Int)}, Ties H vs ts → vs.length = ts.length
  | [], [], _ => rfl
  | _ :: _, _ :: _, h => congrArg (· + 1) (Ties.len h.2)
  | [], _ :: _, h => h.elim
  | _ :: _, [], h => h.elim
theorem Ties.at {H : Hp} : ∀ {vs : List V} {ts : List (Int × Int)} {i : Nat} {v : V}, Ties H vs ts → vs[i]? = some v → ∃ t, ts[i]? = some t ∧ Tie H v t
  | [], [], _, _, _, e => by cases e
  | _ :: _, t :: _, 0, _, h, e => by cases e; exact ⟨t, rfl, h.1⟩
  | _ :: _, _ :: _, i + 1, _, h, e => Ties.at (i := i) h.2 e
  | [], _ :: _, _, _, h, _ => h.elim
  | _ :: _, [], _, _, h, _ => h.elim
theorem Ties.one {H : Hp} {v : V} {t : Int × Int} (h : Tie H v t) : Ties H [v] [t] := ⟨h, trivial⟩
theorem Tie.new {H : Hp} {p : Addr} {a b : Int} : Tie (upd H p (.tup [.int a, .int b])) (.ref p) (a, b) := ⟨p, rfl, upd_same⟩

/-! ### what a web is -/
def ltT (s t : Int × Int) : Prop := s.1 < t.1 ∨ (s.1 = t.1 ∧ s.2 < t.2)
def WOk (n : Nat) (ts : List (Int × Int)) : Prop := ts.Pairwise ltT ∧ ∀ t ∈ ts, 0 ≤ t.1 ∧ t.1 < t.2 ∧ t.2 < (n : Int)
def Web (H : Hp) (v : V) (n : Nat) (ts : List (Int × Int)) : Prop :=
  ∃ p q vs, v = .ref p ∧ H p = some (.tup [.int (n : Int), .ref q]) ∧ H q = some (.tup vs) ∧ Ties H vs ts
theorem Web.mono {H H' : Hp} {v : V} {n : Nat} {ts : List (Int × Int)} (a : Tst H H') (h : Web H v n ts) : Web H' v n ts := by
  obtain ⟨p, q, vs, e, h1, h2, h3⟩ := h
  exact ⟨p, q, vs, e, a _ _ h1, a _ _ h2, h3.mono a⟩

theorem sz {n : Nat} (h : n ≤ 100000) : n ≤ sizeLine := Nat.le_trans h (by decide)
theorem sz' {n : Nat} (h : n < 100000) : n < sizeLine := Nat.lt_of_lt_of_le h (by decide)

theorem bi (b : Bool) : -(2 ^ 64) < (if b = true then (1 : Int) else 0) ∧ (if b = true then (1 : Int) else 0) < 2 ^ 64 ∧ 0 ≤ (if b = true then (1 : Int) else 0) := by
  cases b <;> decide

theorem yes {σ : L2.St} {H : Hp} {R N : Hp → Prop} (h : R H) : tYes σ H (fun b H3 => if b = true then R H3 else N H3) := by
  show (if true = true then R H else N H)
  exact iteT h

/-! ### all pairs, rising -/
def prow (a : Nat) (j : Nat) : List (Int × Int) := (List.range j).map fun (i : Nat) => ((a : Int), (a : Int) + 1 + (i : Int))
def pup (n i : Nat) : List (Int × Int) := (List.range i).flatMap fun a => prow a (n - (a + 1))
theorem prow_succ (a j : Nat) : prow a (j + 1) = prow a j ++ [((a : Int), (a : Int) + 1 + (j : Int))] := by
  unfold prow; rw [List.range_succ, List.map_append]; rfl
theorem pup_succ (n i : Nat) : pup n (i + 1) = pup n i ++ prow i (n - (i + 1)) := by
  unfold pup; rw [List.range_succ, List.flatMap_append, List.flatMap_singleton]
theorem prow_len (a j : Nat) : (prow a j).length = j := by unfold prow; rw [List.length_map, List.length_range]
theorem mem_prow {a j : Nat} {t : Int × Int} : t ∈ prow a j ↔ t.1 = a ∧ (a : Int) < t.2 ∧ t.2 < (a : Int) + 1 + j := by
  unfold prow
  rw [List.mem_map]
  constructor
  · rintro ⟨i, hi, rfl⟩
    have := List.mem_range.mp hi
    refine ⟨rfl, ?_, ?_⟩ <;> dsimp only <;> omega
  · rintro ⟨h1, h2, h3⟩
    refine ⟨(t.2 - a - 1).toNat, List.mem_range.mpr (by omega), ?_⟩
    cases t with
    | mk x y =>
      dsimp only at h1 h2 h3
      rw [h1]
      congr 1
      omega
theorem mem_pup {n i : Nat} {t : Int × Int} (hi : i ≤ n) : t ∈ pup n i ↔ 0 ≤ t.1 ∧ t.1 < i ∧ t.1 < t.2 ∧ t.2 < n := by
  unfold pup
  rw [List.mem_flatMap]
  constructor
  · rintro ⟨a, ha, h⟩
    have := List.mem_range.mp ha
    have := mem_prow.mp h
    omega
  · rintro ⟨h1, h2, h3, h4⟩
    refine ⟨t.1.toNat, List.mem_range.mpr (by omega), mem_prow.mpr ?_⟩
    omega
theorem prow_pw (a : Nat) : ∀ j, (prow a j).Pairwise ltT
  | 0 => by exact List.Pairwise.nil
  | j + 1 => by
    rw [prow_succ, List.pairwise_append]
    refine ⟨prow_pw a j, List.pairwise_singleton _ _, fun s hs t ht => ?_⟩
    have h := mem_prow.mp hs
    have e := List.mem_singleton.mp ht
    subst e
    refine .inr ⟨h.1, ?_⟩
    show s.2 < (a : Int) + 1 + j
    omega
theorem pup_pw (n : Nat) : ∀ i, i ≤ n → (pup n i).Pairwise ltT
  | 0, _ => by exact List.Pairwise.nil
  | i + 1, h => by
    rw [pup_succ, List.pairwise_append]
    refine ⟨pup_pw n i (by omega), prow_pw i _, fun s hs t ht => ?_⟩
    have h1 := (mem_pup (by omega)).mp hs
    have h2 := mem_prow.mp ht
    refine .inl ?_
    omega
theorem pup_len (n : Nat) : ∀ i, (pup n i).length ≤ i * n
  | 0 => Nat.zero_le _
  | i + 1 => by
    rw [pup_succ, List.length_append, prow_len, Nat.succ_mul]
    have := pup_len n i
    omega
theorem pup_len' {n i : Nat} (hn : n ≤ 100) (hi : i ≤ n) : (pup n i).length ≤ 10000 :=
  Nat.le_trans (pup_len n i) (Nat.le_trans (Nat.mul_le_mul (Nat.le_trans hi hn) hn) (by decide))
theorem wok_sub {n : Nat} {ts : List (Int × Int)} (h : ts.Sublist (pup n n)) : WOk n ts :=
  ⟨(pup_pw n n (Nat.le_refl n)).sublist h, fun t ht => by
    have := (mem_pup (Nat.le_refl n)).mp (h.subset ht)
    omega⟩

/-! ### the numbers below n -/
def up (n : Nat) : List Int := (List.range n).map fun (i : Nat) => (i : Int)
theorem up_succ (n : Nat) : up (n + 1) = up n ++ [(n : Int)] := by unfold up; rw [List.range_succ, List.map_append]; rfl
theorem up_len (n : Nat) : (up n).length = n := by unfold up; rw [List.length_map, List.length_range]
theorem mem_up {n : Nat} {x : Int} : x ∈ up n ↔ 0 ≤ x ∧ x < n := by
  unfold up
  rw [List.mem_map]
  constructor
  · rintro ⟨i, hi, rfl⟩
    have := List.mem_range.mp hi
    omega
  · intro h
    exact ⟨x.toNat, List.mem_range.mpr (by omega), by omega⟩
theorem up_nodup (n : Nat) : (up n).Nodup := by
  unfold up
  rw [List.nodup_iff_pairwise_ne, List.pairwise_map]
  exact (List.nodup_iff_pairwise_ne.mp List.nodup_range).imp fun h e => h (by omega)
theorem ins_perm {α : Type} (l : List α) (x : α) (k : Nat) : (l.take k ++ [x] ++ l.drop k).Perm (l ++ [x]) := by
  have h : (l.take k ++ [x] ++ l.drop k).Perm (l.take k ++ (l.drop k ++ [x])) := by
    rw [List.append_assoc]
    exact List.Perm.append_left _ List.perm_append_comm
  refine h.trans ?_
  rw [← List.append_assoc, List.take_append_drop]

/-! ### where a number stands in a list -/
theorem all_flat (ns : List Int) : (ns.map V.int).all flatV = true := by
  rw [List.all_map, List.all_eq_true]; intro x _; rfl
theorem idx_at {ns : List Int} {x : Int} (h : x ∈ ns) : (ns.map V.int)[ns.idxOf x]? = some (.int x) := by
  have hl := List.idxOf_lt_length_of_mem h
  rw [List.getElem?_map, List.getElem?_eq_getElem hl, List.getElem_idxOf hl]; rfl
theorem idx_first {ns : List Int} {x : Int} : ∀ (m : Nat) (z : V), m < ns.idxOf x → (ns.map V.int)[m]? = some z → eqV z (.int x) = false := by
  intro m z hm hz
  rw [List.getElem?_map] at hz
  have hml : m < ns.length := Nat.lt_of_lt_of_le hm List.idxOf_le_length
  rw [List.getElem?_eq_getElem hml] at hz
  cases hz
  have : ns[m] ≠ x := fun e => by
    have := List.not_of_lt_findIdx (xs := ns) (p := fun y => y == x) hm
    rw [e] at this
    simp at this
  exact beq_eq_false_iff_ne.mpr this

/-! ### readings by name -/
abbrev rLenK (K : PySem.W.Frag) : List V → Hp → VK → Prop :=
  fun xs H Q => ∃ p ys, xs = [.ref p] ∧ (SqL K H p ys ∨ SqT K H p ys) ∧ Q (.int ys.length) H
abbrev rTupK (K : PySem.W.Frag) : List V → Hp → VK → Prop :=
  fun xs H Q => ∃ p ys, xs = [.ref p] ∧ ((SqL K H p ys ∧ ∀ l, H l = none → Q (.ref l) (upd H l (.tup ys))) ∨ (SqT K H p ys ∧ Q (.ref p) H))
abbrev rLstK (K : PySem.W.Frag) : List V → Hp → VK → Prop :=
  fun xs H Q => ∃ p ys, xs = [.ref p] ∧ (SqL K H p ys ∨ SqT K H p ys) ∧ ∀ l, H l = none → Q (.ref l) (upd H l (.lst ys))

/-! ### the built-in names -/
structure Bts (mg : Str → Option Value) : Prop where
  len : mg "len" = none
  range : mg "range" = none
  tuple : mg "tuple" = none
  list : mg "list" = none
  int : mg "int" = none
  abs : mg "abs" = none
  min : mg "min" = none
  sorted : mg "sorted" = none
  set : mg "set" = none
  all : mg "all" = none
  any : mg "any" = none
  enumerate : mg "enumerate" = none
  zip : mg "zip" = none
  isinstance : mg "isinstance" = none
  bool : mg "bool" = none
  str : mg "str" = none
  dict : mg "dict" = none
  max : mg "max" = none
  reversed : mg "reversed" = none
  sum : mg "sum" = none
end My

set_option Elab.async false
set_option linter.all false
set_option maxRecDepth 100000
set_option maxHeartbeats 1000000
namespace My
open PySem PySem.Spec PyProof.Rows L2
/-! list(reversed(a list)) -/
section
variable {prog : Program} {w : World} {A : Around} {E : Value → Shared → Prop} {s : Shared}
theorem ext_revL {R : Result → Shared → Prop} {it l : Addr} {items : Array Value} (hh : A.handled = none) (hit : s.heap.IsRevIter it l ((items.size : Int) - 1)) (hl : s.heap.IsList l items) (hne : l ≠ it) (hn : items.size ≤ sizeLine) (S : Addr) (res : Value) (c₀ : Nat) (hS : s.heap.get? S = some { cls := .type "list", data := .seq #[] c₀ }) (hSi : S ≠ it) (hSl : S ≠ l)
    (hR : ∀ h' tk acc' c', (∀ b o, b ≠ S → b ≠ it → s.heap.get? b = some o → h'.get? b = some o) → h'.get? S = some { cls := .type "list", dict := none, data := .seq acc' c', slots := #[] } →
      ItemsOf (fun i v => items[items.size - 1 - i]? = some v) acc' items.size → R (.ok (.ret res)) { s with heap := h', toks := tk }) :
    wpAny (model prog w) A.in1 (Builtin.List.listExtendWith (.ref S) (.ref it) res)
      (fun fin s' => match fin with | .done f => R (.ok f) s' | .again c' => c'.quiet = true ∧ codeAny (model prog w) A c' R s') (fun e s' => R (.error e) s') s := by
  have W := (Walks.listRev (prog := prog) (w := w) (A := A.in1) hh it l hne items).toS
  have hSf : S ∉ [it, l] := by simp only [List.mem_cons, List.not_mem_nil, or_false, not_or]; exact ⟨hSi, hSl⟩
  have hT : s.TypeIs (.ref it) "list_reverseiterator" := hit.typeIs
  have h1 : Builtin.List.listSameRef (.ref S) (.ref it) = false := by simp [Builtin.List.listSameRef, hSi]
  unfold Builtin.List.listExtendWith
  refine wpAny_bind (wpAny_typeOf hT ?_)
  rw [if_neg (by rw [h1]; decide)]
  refine wpAny_bind (wpAny_pyIter_revIter hit ?_)
  refine wpAny_bind (wpAny_holding ?_)
  unfold Builtin.List.listLengthHint
  refine wpAny_bind (wpAny_specialOf hT RT.nolen_lri ?_)
  show wpAny _ A.in1 (specialOf (Value.ref it) (Str.ofString "__length_hint__") >>= _) _ _ _
  refine wpAny_bind (wpAny_specialOf hT RT.hint_lri ?_)
  generalize hid : ("list_reverseiterator.__length_hint__" : String) = id0
  wp_delta
  rw [show splitId id0 = some ("list_reverseiterator", "__length_hint__") from by subst hid; decide +kernel]
  subst hid
  refine wpAny_bind (wpAny_isInstance (b := true) hT (by rw [isSubtype_type]; kernel_rfl) ?_)
  refine wpAny_pure ?_
  rw [if_neg (by decide)]
  have e0 : ((items.size : Nat) : Int) - 1 - ((0 : Nat) : Int) = (items.size : Int) - 1 := by omega
  refine wpAny_pure ⟨plainId_quiet F.plain_extend_loop _, codeAny_extend_loopS W hn _ hSf _ items.size 0 _ _ _ rfl (Nat.zero_le _) ⟨Nat.zero_le _, by rw [e0]; exact hit, hl⟩ hS (ItemsOf.nil _) fun s' acc' c' hm hS' hacc => ?_⟩
  rw [Moved.eq_with hm]
  refine hR s'.heap s'.toks acc' c' (fun b o hb hb2 e => hm.heap b o (fun hmem => ?_) e) hS' hacc
  rcases List.mem_cons.mp hmem with e' | hmem
  · exact hb e'
  · exact hb2 (List.mem_singleton.mp hmem)
theorem init_revL {R : Result → Shared → Prop} {it l : Addr} {items : Array Value} (hh : A.handled = none) (hit : s.heap.IsRevIter it l ((items.size : Int) - 1)) (hl : s.heap.IsList l items) (hne : l ≠ it) (hn : items.size ≤ sizeLine) (S : Addr) (hS : s.heap.get? S = some { cls := .type "list", data := .seq #[] }) (hSi : S ≠ it) (hSl : S ≠ l)
    (hR : ∀ h' tk acc' c', (∀ b o, b ≠ S → b ≠ it → s.heap.get? b = some o → h'.get? b = some o) → h'.get? S = some { cls := .type "list", dict := none, data := .seq acc' c', slots := #[] } →
      ItemsOf (fun i v => items[items.size - 1 - i]? = some v) acc' items.size → R (.ok (.ret .none)) { s with heap := h', toks := tk }) :
    wpAny (model prog w) A.in1 (Builtin.«list.__init__» ⟨[.ref S, .ref it], []⟩)
      (fun fin s' => match fin with | .done f => R (.ok f) s' | .again c' => c'.quiet = true ∧ codeAny (model prog w) A c' R s') (fun e s' => R (.error e) s') s := by
  show wpAny _ _ (do let old ← Builtin.List.listItems (.ref S); Builtin.List.listUpdate (.ref S) (fun _ => #[]); letGo old.toList.reverse; Builtin.List.listExtendWith (.ref S) (.ref it) .none) _ _ s
  refine wpAny_bind ?_
  unfold Builtin.List.listItems
  refine wpAny_bind (wpAny_seqItems hS rfl (wpAny_pure ?_))
  show wpAny _ _ (updateSeq S (fun _ => #[]) >>= fun _ => letGo (#[] : Array Value).toList.reverse >>= fun _ => Builtin.List.listExtendWith (.ref S) (.ref it) .none) _ _ s
  refine wpAny_bind (wpAny_updateSeq hS rfl ?_)
  have hS₂ := Heap.get?_update_self (Obj.mapSeq (fun _ => (#[] : Array Value))) hS rfl
  have oth : ∀ b o, b ≠ S → s.heap.get? b = some o → (s.heap.update S (Obj.mapSeq (fun _ => (#[] : Array Value)))).get? b = some o :=
    fun b o hb e => (Heap.get?_update_other _ _ (Ne.symm hb)).trans e
  refine wpAny_bind (wpAny_letGo ?_)
  refine ext_revL hh (hit.at fun o e => oth _ _ (Ne.symm hSi) e) (hl.at fun o e => oth _ _ (Ne.symm hSl) e) hne hn S .none _ hS₂ hSi hSl fun h' tk acc' c' hk hS' hacc => ?_
  exact hR h' tk acc' c' (fun b o hb hb2 e => hk b o hb hb2 (oth b o hb e)) hS' hacc
theorem call_list_revL {Q : Value → Shared → Prop} {it l : Addr} {items : Array Value} (hh : A.handled = none) (hit : s.heap.IsRevIter it l ((items.size : Int) - 1)) (hl : s.heap.IsList l items) (hne : l ≠ it) (hn : items.size ≤ sizeLine)
    (hQ : ∀ h' tk acc' c', (∀ b o, b ≠ it → s.heap.get? b = some o → h'.get? b = some o) →
      h'.get? s.heap.objs.size = some { cls := .type "list", dict := none, data := .seq acc' c', slots := #[] } → ItemsOf (fun i v => items[items.size - 1 - i]? = some v) acc' items.size → Q (.ref s.heap.objs.size) { s with heap := h', toks := tk }) :
    wpAny (model prog w) A (call (.type "list") [.ref it]) Q E s := by
  refine callType_codes (Q₁ := fun obj s₁ => obj = .ref s.heap.objs.size ∧ s₁ = { s with heap := s.heap.push { cls := .type "list", data := .seq #[] } }) F.called_list (F.typeCall_list_1 _) F.entry_list_init
    (code_list_new _ ⟨rfl, rfl⟩) fun obj s₁ h₁ => ?_
  obtain ⟨rfl, rfl⟩ := h₁
  have hS : (s.heap.push { cls := .type "list", data := .seq #[] }).get? s.heap.objs.size = some { cls := .type "list", data := .seq #[] } := Heap.get?_push_size _ rfl
  obtain ⟨oi, hoi, _⟩ := id hit
  obtain ⟨ol, hol, _⟩ := id hl
  refine ⟨⟨_, hS, rfl⟩, F.args_list_init_2 _ _, init_revL (A := A.in1) (items := items) (it := it) (l := l) hh (hit.at fun o e => Heap.get?_push_of_some _ e) (hl.push _) hne hn _ hS (Nat.ne_of_gt (Heap.lt_size hoi)) (Nat.ne_of_gt (Heap.lt_size hol)) fun h' tk acc' c' hk hS' hacc => ?_⟩
  exact ⟨rfl, hQ h' tk acc' c' (fun b o hb e => hk b o (Nat.ne_of_lt (Heap.lt_size e)) hb (Heap.get?_push_of_some _ e)) hS' hacc⟩
end
def tLstRev (K : PySem.W.Frag) (te : TE) : TE := fun σ H Q => te σ H fun v H1 => ∃ (a : Addr) (xs : List V), v = .ref a ∧ SqL K H1 a xs ∧ ∀ q, H1 q = none → Q (.ref q) (upd H1 q (.lst xs.reverse))
section
variable {X : Cx}
theorem pe_lstRev {e : Expr} {te : TE} {p p2 pos pos2 : Pos} (hc : X.calm = true) (hg : Gl X "list") (hm : X.mg "list" = none) (hg2 : Gl X "reversed") (hm2 : X.mg "reversed" = none) (he : PE X e te)
    (hs : starEach [e] X.env = (false, eval e X.env) :: starEach [] X.env := by rfl)
    (hs2 : starEach [.Call (.Name "reversed" p2) [e] [] pos2] X.env = (false, eval (.Call (.Name "reversed" p2) [e] [] pos2) X.env) :: starEach [] X.env := by rfl) :
    PE X (.Call (.Name "list" p) [.Call (.Name "reversed" p2) [e] [] pos2] [] pos) (tLstRev X.K te) := by
  refine ⟨fun pins s σ H Q I h => ?_⟩
  refine Call_ (ld_blt I hg hm boot_list (PyProof.Rows.callWith_type1 (args_cons (Call_ (ld_blt I hg2 hm2 PyProof.Rows.boot_reversed (PyProof.Rows.callWith_type1 (args_cons (thn (he.run pins s σ H _ I h) fun u s1 ⟨v, H1, I1, r1, q1⟩ => args_nil ?_) hs) hs rfl))) hs2) hs2 rfl))
  obtain ⟨a, xs, ev, hq, q⟩ := q1
  subst ev
  obtain rfl : u = Value.ref a := r1
  obtain ⟨its, rv, p', hz⟩ := I1.list hq
  refine call_reversed_list p'.isList (args_nil ?_)
  have k0 : ∀ b o, s1.heap.get? b = some o → (s1.heap.push (revObj a ((its.toArray.size : Int) - 1))).get? b = some o := fun b o e => Heap.get?_push_of_some _ e
  have I2 : Inv X pins σ H1 { s1 with heap := s1.heap.push (revObj a ((its.toArray.size : Int) - 1)) } := I1.kept (t' := s1.toks) k0
  obtain ⟨f0, f1, f2, f3, f4, f5⟩ := I1.fpOk (H' := H1) (b := s1.heap.objs.size) (Nat.le_refl _) (I1.hok.fresh (Nat.le_refl _))
  have hl := p'.isList
  obtain ⟨ol, hol, _⟩ := id hl
  have hne : a ≠ s1.heap.objs.size := Nat.ne_of_lt (Heap.lt_size hol)
  have hn : its.toArray.size ≤ sizeLine := by rw [List.size_toArray, ← rv.length]; exact hz
  refine call_list_revL (s := { s1 with heap := s1.heap.push (revObj a ((its.toArray.size : Int) - 1)) }) (I1.ok.hd hc) ⟨_, Heap.get?_push_size _ rfl, rfl, rfl⟩ (hl.push _) hne hn fun h' tk acc c' hk hS' hi => ?_
  have I3 := I2.turnedNew (t' := tk) (ch := [s1.heap.objs.size]) (T := (s1.heap.push (revObj a ((its.toArray.size : Int) - 1))).objs.size) (ob := .lst xs.reverse) (h' := h') (fun b o hb e => hk b o (fun z => hb (by rw [z]; exact List.mem_singleton.mpr rfl)) e) (fun b hb => by rw [List.mem_singleton.mp hb]; exact ⟨f0, f1, f2, f3, f4, f5⟩) (Nat.le_refl _)
    (show ObjOk X.prog X.w _ _ _ (.lst xs.reverse) from ⟨by rw [List.length_reverse]; exact hz, acc.toList, c', RT.vals_rev rv hi, by rw [Array.toArray_toList]; exact hS'⟩)
  exact ⟨.ref _, _, I3, rfl, q _ (I2.hok.fresh (Nat.le_refl _))⟩
end
end My

set_option Elab.async false
set_option linter.all false
set_option maxRecDepth 100000
namespace My
open PySem PySem.Spec PyProof.Rows L2

/-! ### the pair that a value tells -/
theorem Tie.inj {H : Hp} {v : V} {s t : Int × Int} (h : Tie H v s) (k : Tie H v t) : s = t := by
  obtain ⟨p, rfl, h⟩ := h
  obtain ⟨q, e, k⟩ := k
  cases e
  rw [h] at k
  cases s; cases t
  cases k
  rfl
open Classical in
noncomputable def key (H : Hp) (v : V) : Int × Int := if h : ∃ t, Tie H v t then h.choose else (0, 0)
theorem key_of {H : Hp} {v : V} {t : Int × Int} (h : Tie H v t) : key H v = t := by
  unfold key
  rw [dif_pos ⟨t, h⟩]
  exact (Exists.choose_spec (⟨t, h⟩ : ∃ t, Tie H v t)).inj h
theorem Ties.key {H : Hp} : ∀ {vs : List V} {ts : List (Int × Int)}, Ties H vs ts → ts = vs.map (My.key H)
  | [], [], _ => rfl
  | _ :: _, _ :: _, h => by rw [List.map_cons, key_of h.1, ← Ties.key h.2]
  | [], _ :: _, h => h.elim
  | _ :: _, [], h => h.elim
theorem Ties.all {H : Hp} : ∀ {vs : List V} {ts : List (Int × Int)}, Ties H vs ts → ∀ v ∈ vs, Tie H v (My.key H v)
  | [], [], _, _, hv => by cases hv
  | _ :: _, _ :: _, h, v, hv => by
    rcases List.mem_cons.mp hv with rfl | hv
    · rw [key_of h.1]; exact h.1
    · exact Ties.all h.2 v hv
  | [], _ :: _, h, _, _ => h.elim
  | _ :: _, [], h, _, _ => h.elim
theorem ties_mk {H : Hp} : ∀ {vs : List V}, (∀ v ∈ vs, Tie H v (My.key H v)) → Ties H vs (vs.map (My.key H))
  | [], _ => trivial
  | v :: vs, h => ⟨h v List.mem_cons_self, ties_mk fun u hu => h u (List.mem_cons_of_mem _ hu)⟩

/-! ### a list of ties, sorted -/
theorem srt_ties {H : Hp} {xs ys : List V} {ts : List (Int × Int)} (hs : SrtO.Srtd (ltP (My.key H)) ys) (hb : ys.Perm xs) (hT : Ties H xs ts) :
    ∃ ts', Ties H ys ts' ∧ ts'.Perm ts ∧ ts'.Pairwise (fun s t => ¬ ltT t s) := by
  refine ⟨ys.map (My.key H), ties_mk fun v hv => hT.all v (hb.mem_iff.mp hv), ?_, ?_⟩
  · rw [hT.key]; exact hb.map _
  · rw [List.pairwise_map]
    refine hs.imp fun {a b} h l => ?_
    have : ltP (My.key H) b a = true := SrtO.lexB_iff.mpr l
    rw [this] at h
    cases h
theorem ltT_tri (s t : Int × Int) : ltT s t ∨ s = t ∨ ltT t s := by
  cases s with | mk a b =>
  cases t with | mk c d =>
  unfold ltT
  by_cases h1 : a < c
  · exact .inl (.inl h1)
  · by_cases h2 : c < a
    · exact .inr (.inr (.inl h2))
    · have e : a = c := by omega
      subst e
      by_cases h3 : b < d
      · exact .inl (.inr ⟨rfl, h3⟩)
      · by_cases h4 : d < b
        · exact .inr (.inr (.inr ⟨rfl, h4⟩))
        · have e : b = d := by omega
          subst e
          exact .inr (.inl rfl)
theorem ltT_irr {s : Int × Int} : ¬ ltT s s := by unfold ltT; omega
theorem ltT_tr {s t u : Int × Int} (h : ltT s t) (k : ltT t u) : ltT s u := by unfold ltT at *; omega
theorem pw_lt {ts : List (Int × Int)} (h : ts.Pairwise (fun s t => ¬ ltT t s)) (nd : ts.Nodup) : ts.Pairwise ltT := by
  refine (h.and (List.nodup_iff_pairwise_ne.mp nd)).imp ?_
  rintro s t ⟨h1, h2⟩
  rcases ltT_tri s t with h | h | h
  · exact h
  · exact absurd h h2
  · exact absurd h h1
/-- two rising lists with the same items are one -/
theorem pw_eq : ∀ {as bs : List (Int × Int)}, as.Pairwise ltT → bs.Pairwise ltT → (∀ t, t ∈ as ↔ t ∈ bs) → as = bs
  | [], [], _, _, _ => rfl
  | [], b :: bs, _, _, h => by have := (h b).mpr List.mem_cons_self; cases this
  | a :: as, [], _, _, h => by have := (h a).mp List.mem_cons_self; cases this
  | a :: as, b :: bs, ha, hb, h => by
    have ha' := List.pairwise_cons.mp ha
    have hb' := List.pairwise_cons.mp hb
    have e : a = b := by
      rcases List.mem_cons.mp ((h a).mp List.mem_cons_self) with e | m1
      · exact e
      · rcases List.mem_cons.mp ((h b).mpr List.mem_cons_self) with e | m2
        · exact e.symm
        · exact absurd (ltT_tr (ha'.1 b m2) (hb'.1 a m1)) ltT_irr
    subst e
    rw [pw_eq ha'.2 hb'.2 fun t => ⟨fun m => ?_, fun m => ?_⟩]
    · rcases List.mem_cons.mp ((h t).mp (List.mem_cons_of_mem _ m)) with e | m'
      · subst e; exact absurd (ha'.1 t m) ltT_irr
      · exact m'
    · rcases List.mem_cons.mp ((h t).mpr (List.mem_cons_of_mem _ m)) with e | m'
      · subst e; exact absurd (hb'.1 t m) ltT_irr
      · exact m'

/-! ### ties as data -/
def dT (t : Int × Int) : PyData := .tuple [.int t.1, .int t.2]
theorem Tie.dp {K : PySem.W.Frag} {H : Hp} {v : V} {t : Int × Int} (h : Tie H v t) : Dp K H v (dT t) := by
  obtain ⟨p, rfl, h⟩ := h
  exact .tup (Or.inl (Or.inl h)) (.cons (.int _) (.cons (.int _) .nil))
theorem Ties.dp {K : PySem.W.Frag} {H : Hp} : ∀ {vs : List V} {ts : List (Int × Int)}, Ties H vs ts → DpAll K H vs (ts.map dT)
  | [], [], _ => .nil
  | _ :: _, _ :: _, h => .cons h.1.dp (Ties.dp h.2)
  | [], _ :: _, h => h.elim
  | _ :: _, [], h => h.elim
theorem shaped_dT (t : Int × Int) : SeqAt.shaped (dT t) = true := rfl
theorem can_ties (ts : List (Int × Int)) : PyData.canLayAll0 (ts.map dT) = true := by
  induction ts with
  | nil => rfl
  | cons t ts ih => rw [List.map_cons, PyData.canLayAll0, ih]; rfl
theorem dep_ties (ts : List (Int × Int)) : PyData.depthAll (ts.map dT) ≤ 1 := by
  induction ts with
  | nil => exact Nat.zero_le _
  | cons t ts ih =>
    rw [List.map_cons, PyData.depthAll]
    exact Nat.max_le.mpr ⟨Nat.le_refl _, ih⟩
theorem shaped_ties (ts : List (Int × Int)) : SeqAt.shaped (.list (ts.map dT)) = true := by
  unfold SeqAt.shaped
  rw [Bool.and_eq_true, decide_eq_true_eq]
  refine ⟨can_ties ts, ?_⟩
  show PyData.depthAll (ts.map dT) + 1 ≤ 64
  have := dep_ties ts
  omega
theorem eqv_dT (s t : Int × Int) : PyData.eqv (dT s) (dT t) = decide (s = t) := by
  cases s with | mk a b =>
  cases t with | mk c d =>
  show ((a == c) && ((b == d) && true)) = _
  by_cases h : a = c <;> by_cases k : b = d <;> simp [h, k]
theorem two {A : Hp → Prop} {C : Prop} (R : Hp → Prop) (k : (∀ H, R H → A H) → C) (h : ∀ H, R H → A H) : C := k h
theorem at_mem {ns : List Int} {j : Int} (h1 : -(ns.length : Int) ≤ j) (h2 : j < ns.length) : ∃ x, atI (ns.map V.int) j = some (.int x) ∧ x ∈ ns := by
  unfold atI ixN
  rw [List.length_map]
  by_cases h0 : 0 ≤ j
  · have hl : j.toNat < ns.length := by omega
    rw [if_pos h0, if_pos h2]
    refine ⟨ns[j.toNat], ?_, List.getElem_mem hl⟩
    show (ns.map V.int)[j.toNat]? = _
    rw [List.getElem?_map, List.getElem?_eq_getElem hl]; rfl
  · have hl : (j + ns.length).toNat < ns.length := by omega
    rw [if_neg h0, if_pos h1]
    refine ⟨ns[(j + ns.length).toNat], ?_, List.getElem_mem hl⟩
    show (ns.map V.int)[(j + ns.length).toNat]? = _
    rw [List.getElem?_map, List.getElem?_eq_getElem hl]; rfl
theorem perm2 {ns : List Int} {x y : Int} (h : ns.Perm [x, y]) (s : ns.Pairwise (· ≤ ·)) : ns = [if x ≤ y then x else y, if x ≤ y then y else x] := by
  match ns, h.length_eq with
  | [a, b], _ =>
    have ab : a ≤ b := (List.pairwise_cons.mp s).1 b (List.mem_singleton.mpr rfl)
    have ha := h.mem_iff (a := a) |>.mp List.mem_cons_self
    have hb := h.mem_iff (a := b) |>.mp (List.mem_cons_of_mem _ List.mem_cons_self)
    have hx := h.mem_iff (a := x) |>.mpr List.mem_cons_self
    have hy := h.mem_iff (a := y) |>.mpr (List.mem_cons_of_mem _ List.mem_cons_self)
    simp only [List.mem_cons, List.not_mem_nil, or_false] at ha hb hx hy
    by_cases c : x ≤ y
    · rw [if_pos c, if_pos c]
      have : a = x ∧ b = y := by omega
      rw [this.1, this.2]
    · rw [if_neg c, if_neg c]
      have : a = y ∧ b = x := by omega
      rw [this.1, this.2]
/-! ### ties by their places, for sets -/
def prT (p : Addr × List Int) : Int × Int := (p.2.getD 0 0, p.2.getD 1 0)
theorem Ties.addr {H : Hp} : ∀ {vs : List V} {ts : List (Int × Int)}, Ties H vs ts → ∃ ks : List (Addr × List Int), vs = (ks.map fun p => V.ref p.1) ∧
    (∀ p ∈ ks, H p.1 = some (.tup (p.2.map V.int)) ∧ ∃ t ∈ ts, p.2 = [t.1, t.2]) ∧ ks.map prT = ts
  | [], [], _ => ⟨[], rfl, (fun _ h => by cases h), rfl⟩
  | v :: vs, t :: ts, h => by
    obtain ⟨ks, e1, e2, e3⟩ := Ties.addr h.2
    obtain ⟨p, rfl, hp⟩ := h.1
    refine ⟨(p, [t.1, t.2]) :: ks, by rw [e1]; rfl, fun q hq => ?_, by rw [List.map_cons, e3]; rfl⟩
    rcases List.mem_cons.mp hq with rfl | hq
    · exact ⟨hp, t, List.mem_cons_self, rfl⟩
    · obtain ⟨g1, t', g2, g3⟩ := e2 q hq
      exact ⟨g1, t', List.mem_cons_of_mem _ g2, g3⟩
  | [], _ :: _, h => h.elim
  | _ :: _, [], h => h.elim
theorem ties_addr {H : Hp} : ∀ {ks : List (Addr × List Int)}, (∀ p ∈ ks, H p.1 = some (.tup (p.2.map V.int)) ∧ ∃ t : Int × Int, p.2 = [t.1, t.2]) → Ties H (ks.map fun p => V.ref p.1) (ks.map prT)
  | [], _ => trivial
  | p :: ks, h => by
    refine ⟨?_, ties_addr fun q hq => h q (List.mem_cons_of_mem _ hq)⟩
    obtain ⟨g1, t, g2⟩ := h p List.mem_cons_self
    refine ⟨p.1, rfl, ?_⟩
    unfold prT
    rw [g1, g2]; rfl
theorem u65 {k : Nat} {A : Around} (r : Room k A) : A.units + 65 < cLine := by have := r.un; omega
end My

set_option Elab.async false
set_option linter.all false
set_option maxRecDepth 100000
namespace My
open PySem PySem.Spec PyProof.Rows L2

/-! ### lists side by side -/
def All2 {α : Type} (R : V → α → Prop) : List V → List α → Prop
  | [], [] => True
  | v :: vs, t :: ts => R v t ∧ All2 R vs ts
  | _, _ => False
section
variable {α : Type} {R S : V → α → Prop}
theorem All2.imp (a : ∀ v t, R v t → S v t) : ∀ {vs : List V} {ts : List α}, All2 R vs ts → All2 S vs ts
  | [], [], _ => trivial
  | _ :: _, _ :: _, h => ⟨a _ _ h.1, All2.imp a h.2⟩
  | [], _ :: _, h => h.elim
  | _ :: _, [], h => h.elim
theorem All2.app : ∀ {vs us : List V} {ts rs : List α}, All2 R vs ts → All2 R us rs → All2 R (vs ++ us) (ts ++ rs)
  | [], _, [], _, _, k => k
  | _ :: _, _, _ :: _, _, h, k => ⟨h.1, All2.app h.2 k⟩
  | [], _, _ :: _, _, h, _ => h.elim
  | _ :: _, _, [], _, h, _ => h.elim
theorem All2.len : ∀ {vs : List V} {ts : List α}, All2 R vs ts → vs.length = ts.length
  | [], [], _ => rfl
  | _ :: _, _ :: _, h => congrArg (· + 1) (All2.len h.2)
  | [], _ :: _, h => h.elim
  | _ :: _, [], h => h.elim
theorem All2.at : ∀ {vs : List V} {ts : List α} {i : Nat} {v : V}, All2 R vs ts → vs[i]? = some v → ∃ t, ts[i]? = some t ∧ R v t
  | [], [], _, _, _, e => by cases e
  | _ :: _, t :: _, 0, _, h, e => by cases e; exact ⟨t, rfl, h.1⟩
  | _ :: _, _ :: _, i + 1, _, h, e => All2.at (i := i) h.2 e
  | [], _ :: _, _, _, h, _ => h.elim
  | _ :: _, [], _, _, h, _ => h.elim
theorem All2.at' : ∀ {vs : List V} {ts : List α} {i : Nat} {t : α}, All2 R vs ts → ts[i]? = some t → ∃ v, vs[i]? = some v ∧ R v t
  | [], [], _, _, _, e => by cases e
  | v :: _, _ :: _, 0, _, h, e => by cases e; exact ⟨v, rfl, h.1⟩
  | _ :: _, _ :: _, i + 1, _, h, e => All2.at' (i := i) h.2 e
  | [], _ :: _, _, _, h, _ => h.elim
  | _ :: _, [], _, _, h, _ => h.elim
theorem All2.erase : ∀ {vs : List V} {ts : List α} (k : Nat), All2 R vs ts → All2 R (vs.eraseIdx k) (ts.eraseIdx k)
  | [], [], _, _ => trivial
  | _ :: _, _ :: _, 0, h => h.2
  | _ :: _, _ :: _, k + 1, h => ⟨h.1, All2.erase k h.2⟩
  | [], _ :: _, _, h => h.elim
  | _ :: _, [], _, h => h.elim
end

/-! ### pairs of places of unlike groups -/
def norm (a b : Int) : Int × Int := (if a ≤ b then a else b, if a ≤ b then b else a)
theorem norm_inj {a b c d : Int} (h : norm a b = norm c d) : (a = c ∧ b = d) ∨ (a = d ∧ b = c) := by
  unfold norm at h
  have h1 := congrArg Prod.fst h
  have h2 := congrArg Prod.snd h
  dsimp only at h1 h2
  by_cases x : a ≤ b <;> by_cases y : c ≤ d
  · rw [if_pos x, if_pos y] at h1 h2; omega
  · rw [if_pos x, if_neg y] at h1 h2; omega
  · rw [if_neg x, if_pos y] at h1 h2; omega
  · rw [if_neg x, if_neg y] at h1 h2; omega
def newA (g h : List Int) : List (Int × Int) := g.flatMap fun a => h.map fun b => norm a b
def newK (s : List (List Int)) (cd : Nat → Nat → Bool) (k j : Nat) : List (Int × Int) :=
  (List.range j).flatMap fun j => newA (if cd k j = true then s.getD k [] else []) (s.getD j [])
def news (s : List (List Int)) (cd : Nat → Nat → Bool) (m : Nat) : List (Int × Int) := (List.range m).flatMap fun k => newK s cd k k
theorem newA_app (g g' h : List Int) : newA (g ++ g') h = newA g h ++ newA g' h := by unfold newA; rw [List.flatMap_append]
theorem newA_one (a : Int) (h : List Int) : newA [a] h = h.map fun b => norm a b := by unfold newA; rw [List.flatMap_singleton]
theorem newK_succ (s : List (List Int)) (cd : Nat → Nat → Bool) (k j : Nat) : newK s cd k (j + 1) = newK s cd k j ++ newA (if cd k j = true then s.getD k [] else []) (s.getD j []) := by
  unfold newK; rw [List.range_succ, List.flatMap_append, List.flatMap_singleton]
theorem news_succ (s : List (List Int)) (cd : Nat → Nat → Bool) (m : Nat) : news s cd (m + 1) = news s cd m ++ newK s cd m m := by
  unfold news; rw [List.range_succ, List.flatMap_append, List.flatMap_singleton]
theorem mem_newA {g h : List Int} {t : Int × Int} : t ∈ newA g h ↔ ∃ a ∈ g, ∃ b ∈ h, t = norm a b := by
  unfold newA
  simp only [List.mem_flatMap, List.mem_map]
  constructor
  · rintro ⟨a, ha, b, hb, rfl⟩; exact ⟨a, ha, b, hb, rfl⟩
  · rintro ⟨a, ha, b, hb, rfl⟩; exact ⟨a, ha, b, hb, rfl⟩
theorem mem_newK {s : List (List Int)} {cd : Nat → Nat → Bool} {k j : Nat} {t : Int × Int} (h : t ∈ newK s cd k j) :
    ∃ j' < j, ∃ a ∈ s.getD k [], ∃ b ∈ s.getD j' [], t = norm a b := by
  unfold newK at h
  obtain ⟨j', hj, h⟩ := List.mem_flatMap.mp h
  obtain ⟨a, ha, b, hb, e⟩ := mem_newA.mp h
  refine ⟨j', List.mem_range.mp hj, a, ?_, b, hb, e⟩
  split at ha
  · exact ha
  · cases ha
theorem mem_news {s : List (List Int)} {cd : Nat → Nat → Bool} {m : Nat} {t : Int × Int} (h : t ∈ news s cd m) :
    ∃ k < m, ∃ j < k, ∃ a ∈ s.getD k [], ∃ b ∈ s.getD j [], t = norm a b := by
  unfold news at h
  obtain ⟨k, hk, h⟩ := List.mem_flatMap.mp h
  obtain ⟨j, hj, r⟩ := mem_newK h
  exact ⟨k, List.mem_range.mp hk, j, hj, r⟩
/-- a place is in one group alone -/
theorem grp_one {s : List (List Int)} (nd : s.flatten.Nodup) {a : Int} {i j : Nat} (hi : a ∈ s.getD i []) (hj : a ∈ s.getD j []) : i = j := by
  have li : i < s.length := by
    rcases Nat.lt_or_ge i s.length with h | h
    · exact h
    · rw [List.getD_eq_getElem?_getD, List.getElem?_eq_none h] at hi; cases hi
  have lj : j < s.length := by
    rcases Nat.lt_or_ge j s.length with h | h
    · exact h
    · rw [List.getD_eq_getElem?_getD, List.getElem?_eq_none h] at hj; cases hj
  rw [List.getD_eq_getElem?_getD, List.getElem?_eq_getElem li] at hi
  rw [List.getD_eq_getElem?_getD, List.getElem?_eq_getElem lj] at hj
  dsimp only [Option.getD_some] at hi hj
  have pw := (List.pairwise_flatten.mp (List.nodup_iff_pairwise_ne.mp nd)).2
  rw [List.pairwise_iff_getElem] at pw
  rcases Nat.lt_trichotomy i j with h | h | h
  · exact absurd rfl (pw i j li lj h a hi a hj)
  · exact h
  · exact absurd rfl (pw j i lj li h a hj a hi)
theorem grp_nd {s : List (List Int)} (nd : s.flatten.Nodup) (i : Nat) : (s.getD i []).Nodup := by
  rcases Nat.lt_or_ge i s.length with h | h
  · rw [List.getD_eq_getElem?_getD, List.getElem?_eq_getElem h]
    exact List.nodup_iff_pairwise_ne.mpr ((List.pairwise_flatten.mp (List.nodup_iff_pairwise_ne.mp nd)).1 _ (List.getElem_mem h))
  · rw [List.getD_eq_getElem?_getD, List.getElem?_eq_none h]; exact List.nodup_nil
theorem four_inj {s : List (List Int)} (nd : s.flatten.Nodup) {k j k' j' : Nat} {a b a' b' : Int} (hj : j < k) (hj' : j' < k') (ha : a ∈ s.getD k []) (hb : b ∈ s.getD j [])
    (ha' : a' ∈ s.getD k' []) (hb' : b' ∈ s.getD j' []) (e : norm a b = norm a' b') : k = k' ∧ j = j' ∧ a = a' ∧ b = b' := by
  rcases norm_inj e with ⟨rfl, rfl⟩ | ⟨rfl, rfl⟩
  · exact ⟨grp_one nd ha ha', grp_one nd hb hb', rfl, rfl⟩
  · have e1 := grp_one nd ha hb'
    have e2 := grp_one nd hb ha'
    omega
theorem news_nd {s : List (List Int)} (nd : s.flatten.Nodup) (cd : Nat → Nat → Bool) (m : Nat) : (news s cd m).Nodup := by
  unfold news
  rw [List.nodup_iff_pairwise_ne, List.pairwise_flatMap]
  refine ⟨fun k hk => ?_, ?_⟩
  · unfold newK
    rw [List.pairwise_flatMap]
    refine ⟨fun j hj => ?_, ?_⟩
    · have hj := List.mem_range.mp hj
      unfold newA
      rw [List.pairwise_flatMap]
      refine ⟨fun a ha => ?_, ?_⟩
      · rw [List.pairwise_map]
        refine (List.nodup_iff_pairwise_ne.mp (grp_nd nd j)).imp_of_mem fun {b b'} hb hb' ne e => ?_
        have ha : a ∈ s.getD k [] := by split at ha; exact ha; cases ha
        exact ne (four_inj nd hj hj ha hb ha hb' e).2.2.2
      · have nda : (if cd k j = true then s.getD k [] else []).Nodup := by split; exact grp_nd nd k; exact List.nodup_nil
        refine (List.nodup_iff_pairwise_ne.mp nda).imp_of_mem fun {a a'} ha ha' ne x hx y hy e => ?_
        have ha : a ∈ s.getD k [] := by split at ha; exact ha; cases ha
        have ha' : a' ∈ s.getD k [] := by split at ha'; exact ha'; cases ha'
        obtain ⟨b, hb, rfl⟩ := List.mem_map.mp hx
        obtain ⟨b', hb', rfl⟩ := List.mem_map.mp hy
        exact ne (four_inj nd hj hj ha hb ha' hb' e).2.2.1
    · refine (List.nodup_iff_pairwise_ne.mp List.nodup_range).imp_of_mem fun {j j'} hj hj' ne x hx y hy e => ?_
      have hj := List.mem_range.mp hj
      have hj' := List.mem_range.mp hj'
      obtain ⟨a, ha, b, hb, rfl⟩ := mem_newA.mp hx
      obtain ⟨a', ha', b', hb', rfl⟩ := mem_newA.mp hy
      have ha : a ∈ s.getD k [] := by split at ha; exact ha; cases ha
      have ha' : a' ∈ s.getD k [] := by split at ha'; exact ha'; cases ha'
      exact ne (four_inj nd hj hj' ha hb ha' hb' e).2.1
  · refine (List.nodup_iff_pairwise_ne.mp List.nodup_range).imp_of_mem fun {k k'} hk hk' ne x hx y hy e => ?_
    obtain ⟨j, hj, a, ha, b, hb, rfl⟩ := mem_newK hx
    obtain ⟨j', hj', a', ha', b', hb', rfl⟩ := mem_newK hy
    exact ne (four_inj nd hj hj' ha hb ha' hb' e).1

/-- what holds of groups and ties between two turns -/
structure PInv (n : Nat) (gs : List (List Int)) (ts : List (Int × Int)) : Prop where
  fl : gs.flatten.Perm (up n)
  nd : ts.Nodup
  bd : ∀ t ∈ ts, 0 ≤ t.1 ∧ t.1 < t.2 ∧ t.2 < (n : Int)
  one : ∀ t ∈ ts, ∃ g ∈ gs, t.1 ∈ g ∧ t.2 ∈ g
theorem nd_len {α : Type} [DecidableEq α] : ∀ {l m : List α}, l.Nodup → (∀ x ∈ l, x ∈ m) → l.length ≤ m.length
  | [], _, _, _ => Nat.zero_le _
  | a :: l, m, nd, h => by
    have nd' := List.nodup_cons.mp nd
    have ha := h a List.mem_cons_self
    have := nd_len (l := l) (m := m.erase a) nd'.2 fun x hx => (List.mem_erase_of_ne (fun (e : x = a) => nd'.1 (by rw [← e]; exact hx))).mpr (h x (List.mem_cons_of_mem _ hx))
    rw [List.length_erase_of_mem ha] at this
    have := List.length_pos_of_mem ha
    rw [List.length_cons]
    omega
theorem PInv.len {n : Nat} {gs : List (List Int)} {ts : List (Int × Int)} (h : PInv n gs ts) (hn : n ≤ 100) : ts.length ≤ 10000 := by
  refine Nat.le_trans (nd_len (m := pup n n) h.nd fun t ht => ?_) (pup_len' hn (Nat.le_refl n))
  have := h.bd t ht
  exact (mem_pup (Nat.le_refl n)).mpr (by omega)
theorem norm_ends {a b : Int} {g : List Int} (h1 : (norm a b).1 ∈ g) (h2 : (norm a b).2 ∈ g) : a ∈ g ∧ b ∈ g := by
  unfold norm at h1 h2
  dsimp only at h1 h2
  by_cases x : a ≤ b
  · rw [if_pos x] at h1 h2; exact ⟨h1, h2⟩
  · rw [if_neg x] at h1 h2; exact ⟨h2, h1⟩
theorem PInv.next {n : Nat} {gs s r : List (List Int)} {ts : List (Int × Int)} (h : PInv n gs ts) (pm : gs.Perm (s ++ r)) (cd : Nat → Nat → Bool) :
    PInv n (r ++ [s.flatten]) (ts ++ news s cd s.length) := by
  have pf : (s ++ r).flatten.Perm (up n) := pm.flatten.symm.trans h.fl
  have ndf : (s ++ r).flatten.Nodup := pf.nodup_iff.mpr (up_nodup n)
  have nds : s.flatten.Nodup := by
    rw [List.flatten_append] at ndf
    exact (List.nodup_append.mp ndf).1
  have gd : ∀ i, i < s.length → (s ++ r).getD i [] = s.getD i [] := fun i hi => by
    rw [List.getD_eq_getElem?_getD, List.getD_eq_getElem?_getD, List.getElem?_append_left hi]
  have inS : ∀ {a : Int} {k : Nat}, a ∈ s.getD k [] → a ∈ s.flatten ∧ k < s.length := fun {a k} ha => by
    rcases Nat.lt_or_ge k s.length with hk | hk
    · rw [List.getD_eq_getElem?_getD, List.getElem?_eq_getElem hk] at ha
      exact ⟨List.mem_flatten.mpr ⟨_, List.getElem_mem hk, ha⟩, hk⟩
    · rw [List.getD_eq_getElem?_getD, List.getElem?_eq_none hk] at ha; cases ha
  have bd : ∀ {a : Int}, a ∈ s.flatten → 0 ≤ a ∧ a < (n : Int) := fun {a} ha =>
    mem_up.mp (pf.mem_iff.mp (by rw [List.flatten_append]; exact List.mem_append_left _ ha))
  refine ⟨?_, ?_, ?_, ?_⟩
  · refine List.Perm.trans ?_ pf
    rw [List.flatten_append, List.flatten_append]
    have : [s.flatten].flatten = s.flatten := by simp
    rw [this]
    exact List.perm_append_comm
  · rw [List.nodup_append]
    refine ⟨h.nd, news_nd nds cd _, fun t ht t' ht' e => ?_⟩
    subst e
    obtain ⟨k, hk, j, hj, a, ha, b, hb, rfl⟩ := mem_news ht'
    obtain ⟨g, hg, g1, g2⟩ := h.one _ ht
    obtain ⟨ga, gb⟩ := norm_ends g1 g2
    obtain ⟨i, hi, e⟩ := List.getElem_of_mem (pm.mem_iff.mp hg)
    have gi : (s ++ r).getD i [] = g := by rw [List.getD_eq_getElem?_getD, List.getElem?_eq_getElem hi, e]; rfl
    have e1 := grp_one ndf (i := i) (j := k) (by rw [gi]; exact ga) (by rw [gd k hk]; exact ha)
    have e2 := grp_one ndf (i := i) (j := j) (by rw [gi]; exact gb) (by rw [gd j (by omega)]; exact hb)
    omega
  · intro t ht
    rcases List.mem_append.mp ht with ht | ht
    · exact h.bd t ht
    · obtain ⟨k, hk, j, hj, a, ha, b, hb, rfl⟩ := mem_news ht
      have b1 := bd (inS ha).1
      have b2 := bd (inS hb).1
      have ne : a ≠ b := fun e => by subst e; have := grp_one nds ha hb; omega
      unfold norm
      dsimp only
      split <;> omega
  · intro t ht
    rcases List.mem_append.mp ht with ht | ht
    · obtain ⟨g, hg, g1, g2⟩ := h.one t ht
      rcases List.mem_append.mp (pm.mem_iff.mp hg) with m | m
      · exact ⟨s.flatten, List.mem_append_right _ (List.mem_singleton.mpr rfl), List.mem_flatten.mpr ⟨g, m, g1⟩, List.mem_flatten.mpr ⟨g, m, g2⟩⟩
      · exact ⟨g, List.mem_append_left _ m, g1, g2⟩
    · obtain ⟨k, hk, j, hj, a, ha, b, hb, rfl⟩ := mem_news ht
      refine ⟨s.flatten, List.mem_append_right _ (List.mem_singleton.mpr rfl), ?_, ?_⟩
      · unfold norm; dsimp only; split
        · exact (inS ha).1
        · exact (inS hb).1
      · unfold norm; dsimp only; split
        · exact (inS hb).1
        · exact (inS ha).1
theorem flat_one : ∀ ns : List Int, (ns.map fun x => [x]).flatten = ns
  | [] => rfl
  | a :: l => by rw [List.map_cons, List.flatten_cons, flat_one l]; rfl
theorem erase_perm {α : Type} : ∀ {l : List α} {i : Nat} (h : i < l.length), (l[i] :: l.eraseIdx i).Perm l
  | _ :: _, 0, _ => .refl _
  | a :: l, i + 1, h => by
    show (l[i]'(Nat.lt_of_succ_lt_succ h) :: a :: l.eraseIdx i).Perm (a :: l)
    exact (List.Perm.swap _ _ _).trans ((erase_perm (Nat.lt_of_succ_lt_succ h)).cons a)
/-! ### lengths -/
theorem newA_len {g h : List Int} {x y : Nat} (hg : g.length ≤ x) (hh : h.length ≤ y) : (newA g h).length ≤ x * y := by
  have : ∀ g : List Int, (newA g h).length = g.length * h.length := by
    intro g
    induction g with
    | nil => simp [newA]
    | cons a g ih =>
      have e : newA (a :: g) h = newA [a] h ++ newA g h := newA_app [a] g h
      rw [e, List.length_append, ih, newA_one, List.length_map, List.length_cons, Nat.succ_mul, Nat.add_comm]
  rw [this]
  exact Nat.mul_le_mul hg hh
theorem newK_len {s : List (List Int)} {cd : Nat → Nat → Bool} {k : Nat} (hs : ∀ i, (s.getD i []).length ≤ 12) : ∀ j, (newK s cd k j).length ≤ j * 144
  | 0 => Nat.zero_le _
  | j + 1 => by
    rw [newK_succ, List.length_append]
    have h1 := newK_len (s := s) (cd := cd) (k := k) hs j
    have h2 : (newA (if cd k j = true then s.getD k [] else []) (s.getD j [])).length ≤ 12 * 12 := newA_len (by split; exact hs k; exact Nat.zero_le _) (hs j)
    omega
theorem news_len {s : List (List Int)} {cd : Nat → Nat → Bool} (hs : ∀ i, (s.getD i []).length ≤ 12) : ∀ m, m ≤ 10 → (news s cd m).length ≤ m * 1440
  | 0, _ => Nat.zero_le _
  | m + 1, h => by
    rw [news_succ, List.length_append]
    have h1 := news_len (s := s) (cd := cd) hs m (by omega)
    have h2 := newK_len (s := s) (cd := cd) (k := m) hs m
    omega
theorem grp_len {n : Nat} {s : List (List Int)} {r : List (List Int)} (h : (s ++ r).flatten.Perm (up n)) (i : Nat) : (s.getD i []).length ≤ n := by
  rcases Nat.lt_or_ge i s.length with hi | hi
  · rw [List.getD_eq_getElem?_getD, List.getElem?_eq_getElem hi]
    have e := h.length_eq
    rw [up_len, List.flatten_append, List.length_append] at e
    have : ∀ (l : List (List Int)) (g : List Int), g ∈ l → g.length ≤ l.flatten.length := by
      intro l g hg
      induction l with
      | nil => cases hg
      | cons x l ih =>
        rw [List.flatten_cons, List.length_append]
        rcases List.mem_cons.mp hg with rfl | hg
        · omega
        · have := ih hg; omega
    have := this s _ (List.getElem_mem hi)
    show s[i].length ≤ n
    omega
  · rw [List.getD_eq_getElem?_getD, List.getElem?_eq_none hi]; exact Nat.zero_le _
end My

set_option Elab.async false
set_option linter.all false
set_option maxRecDepth 100000
set_option maxHeartbeats 2000000
namespace My
open PySem PySem.Spec PyProof.Rows L2 GxR

/-! ### the frame of a generator expression -/
abbrev gcx (X : Cx) (A' : Around) (s : Shared) (H : Hp) (cenv : Env) (fp : List Addr) (pn : List (Addr × Obj)) : Cx :=
  { X with A := A', s_0 := s, H_0 := H, env := cenv, outer := X.stack, stack := cenv :: X.stack, ex := fp, fn := fun _ => false, calm := true, pn := pn, xe := fun _ _ => False }
structure GsOk (scope : Scope) : Prop where
  co : scope.isCoroutine = false
  cell : ∀ y ∈ scope.names, y.2 ≠ .cell
  dot : scope.names.lookup (".0" : Str) = some NameKind.local

section
variable {X : Cx} {pins : List (Addr × Obj)} {σ : L2.St} {H : Hp} {s : Shared}
abbrev gEnv (X : Cx) (scope : Scope) (C : Addr) (code : Value) : Env :=
  genEnv scope (cloFrom X.env.cells scope.names []) C code builtinsNs X.env
theorem gen_inv {scope : Scope} {own : List (Str × Nat)} {fp : List Addr} {A' : Around} {C : Addr} {code : Value} {s5 : Shared}
    {m : Str → Option Value} {pn : List (Addr × Obj)} (I : Inv X pins σ H s) (ok : BlkOk X.N X.env.scope scope own) (hN : X.N.Nodup)
    (S : GsOk scope) (hfp : ∀ b ∈ fp, FpOk X pins H b ∧ b < s.heap.objs.size) (hC : C = s.heap.objs.size) (hA : A'.handled = none)
    (hF : A'.frames = some (gEnv X scope C code :: X.stack)) (kp : ∀ b o, s.heap.get? b = some o → s5.heap.get? b = some o)
    (hns : s5.heap.Ns C m) (hos : s5.os = s.os) (hb : AllBare s5.gens)
    (hpn : ∀ p ∈ pn, s5.heap.get? p.1 = some p.2 ∧ s.heap.objs.size < p.1 ∧ ∀ v, p.2.data ≠ .cell v) :
    Inv (gcx X A' s H (gEnv X scope C code) fp pn) [] (wipe σ (own.map (·.2))) H s5 := by
  have cm : ∀ {y : Str} {c : Addr}, (cloFrom X.env.cells scope.names []).lookup y = some c → X.env.cells.lookup y = some c ∧ c < s.heap.objs.size := fun {y c} e => by
    rcases cloFrom_mem (PySem.mem_of_lookup e) with z | ⟨h1, rfl⟩
    · cases z
    · have : ∃ c, X.env.cells.lookup y = some c := by
        rcases ok.free _ h1 rfl with k | k
        · exact I.ok.has _ (.inl k)
        · exact I.ok.has _ (.inr k)
      obtain ⟨c, hc⟩ := this
      rw [hc]
      obtain ⟨w, z⟩ := I.cell _ _ hc
      exact ⟨rfl, z.lt⟩
  have look : ∀ {y : Str}, scope.names.lookup y = some .free → ∃ c, (cloFrom X.env.cells scope.names []).lookup y = some c ∧ X.env.cells.lookup y = some c := fun {y} hl => by
    obtain ⟨c, e⟩ := mem_lookup (cloFrom_has (cells := X.env.cells) (acc := []) (PySem.mem_of_lookup hl))
    exact ⟨c, e, (cm e).1⟩
  have hCs : s.heap.objs.size ≤ C := Nat.le_of_eq hC.symm
  have okB : (gcx X A' s H (gEnv X scope C code) fp pn).Ok := by
    refine ⟨I.ok.mod, ok.kind, I.ok.glob, rfl, hCs, fun y z c e1 e2 => I.ok.inj y z c (cm e1).1 (cm e2).1, fun y hy => ?_, (fun y c z e => by cases z), fun _ => hA, hF, .inr ⟨rfl, rfl⟩,
      fun b hb => ⟨?_, fun y c e => (hfp b hb).1.2.2.2.2.1 y c (cm e).1⟩, I.bs, Nat.le_trans I.ok.bsz I.sz, fun b o e hb => ?_, fun b hb z => ?_, I.stack, I.stkFree⟩
    · rcases hy with hy | hy
      · exact absurd rfl (S.cell _ (PySem.mem_of_lookup (show scope.names.lookup y = some .cell from hy)))
      · obtain ⟨c, e, _⟩ := look (show scope.names.lookup y = some .free from hy)
        exact ⟨c, e⟩
    · show b ≠ C
      rw [hC]; exact Nat.ne_of_lt (hfp b hb).2
    · rcases (hfp b hb).1.2.2.2.1 with z | z
      · exact I.ok.noex b o e z
      · exact absurd (Nat.lt_of_lt_of_le (Heap.lt_size e) (Nat.le_trans I.ok.bsz z)) (Nat.lt_irrefl _)
    · rcases List.mem_cons.mp (I.stkSub b z) with z | z
      · exact (hfp b hb).1.2.1 z
      · exact (hfp b hb).1.2.2.1 z
  refine ⟨okB, hos, hb, Un.kept kp, ⟨m, hns, fun i y v e1 e2 e3 => ?_⟩, fun y c e => ?_, ?_, fun y c e => I.freeC y c (cm e).1, fun p hp => ?_, I.hok.kept kp, by rw [wipe_length]; exact I.len⟩
  · obtain ⟨e2, hne⟩ := wipe_some e2
    have no : ∀ k, scope.names.lookup y = some k → ¬ (k = .local ∨ k = .cell) := fun k e hh => by
      rcases ok.own _ (PySem.mem_of_lookup e) hh with z | z
      · obtain ⟨p, hp, hpy⟩ := List.mem_map.mp z
        have e4 := ok.ix p hp
        have hpy : p.1 = y := hpy
        rw [hpy] at e4
        exact hne (List.mem_map.mpr ⟨p, hp, nodup_ix hN e4 e1⟩)
      · exact z (List.mem_of_getElem? e1)
    have e3 : Vis scope y := e3
    have fr : scope.names.lookup y = some .free := by
      rcases e3 with e3 | e3 | e3
      · exact absurd (.inl rfl) (no _ e3)
      · exact absurd (.inr rfl) (no _ e3)
      · exact e3
    obtain ⟨m', hn, hl⟩ := I.loc
    have k := ok.free _ (PySem.mem_of_lookup fr) rfl
    have hv : Vis X.env.scope y := by
      rcases k with k | k
      · exact .inr (.inl k)
      · exact .inr (.inr k)
    obtain ⟨w, r, q⟩ := hl i y v e1 e2 hv
    refine ⟨w, r, .inr ⟨.inr fr, ?_⟩⟩
    obtain ⟨c, h1, h2⟩ := look fr
    rcases q with ⟨z, _⟩ | ⟨_, c', e', z⟩
    · have z : X.env.scope.names.lookup y = some .local := z
      rcases k with k | k <;> (have k : X.env.scope.names.lookup y = _ := k; rw [k] at z; cases z)
    · rw [h2] at e'; cases e'
      exact ⟨c, h1, z.keeps kp⟩
  · obtain ⟨w, z⟩ := I.cell y c (cm e).1
    exact ⟨w, z.keeps kp⟩
  · exact I.hok.fresh hCs
  · rw [List.append_nil] at hp
    obtain ⟨h1, h2, h3⟩ := hpn p hp
    refine ⟨h1, I.hok.fresh (Nat.le_of_lt h2), ?_, fun z => ?_, h3⟩
    · show p.1 ≠ C
      rw [hC]; exact Nat.ne_of_gt h2
    · rcases List.mem_cons.mp (I.stkSub p.1 z) with z | z
      · have := I.lt
        rw [← z] at this
        exact absurd (Nat.lt_trans h2 this) (Nat.lt_irrefl _)
      · exact I.nofs (Nat.le_of_lt h2) z
theorem inv_gens {gs : Array GenState} (I : Inv X pins σ H s) (hb : AllBare gs) : Inv X pins σ H { s with gens := gs } :=
  ⟨I.ok, I.os, hb, I.base, I.loc, I.cell, I.free, I.freeC, I.pin, I.hok, I.len⟩
theorem inv_setGen {g : Nat} {x : GenState} (I : Inv X pins σ H s) (hx : x.bare = true) : Inv X pins σ H (s.setGen g x) := by
  refine inv_gens I fun y hy => ?_
  rcases Array.mem_or_eq_of_mem_setIfInBounds hy with h | h
  · exact I.bare y h
  · rw [h]; exact hx
end

/-! ### the loop of a generator expression -/
section
variable {prog : Program} {w : World} {A : Around}
/-- n: how many more may come; Yl m v s: v is handed out, fewer than m turns are left; St m s: ready for the next turn -/
def protoG (St : Nat → Shared → Prop) (Yl : Nat → Value → Shared → Prop) : Protocol := fun n _ v s kap =>
  (∃ m, m ≤ n ∧ Yl m v s) ∧ ∀ s'' m', m' < n → St m' s'' → kap (.send .none) s''
theorem seg_loopG {elt tg iter : Expr} {scope : Scope} {pos : Pos} {it : Addr} {cenv : Env} (hco : cenv.scope.isCoroutine = false)
    (St : Nat → Shared → Prop) (En : Shared → Prop) (Yl : Nat → Value → Shared → Prop)
    (turn : ∀ m s, St m s → wpAny (model prog w) (A.over (.compLoop (.GeneratorExp elt [⟨tg, iter, [], 0⟩] scope pos) 0 (.ref it) .none cenv) []) (pyNext (.ref it)) (fun r s1 => match r with
      | none => En s1
      | some u => wpAny (model prog w) (A.over (.compLoop (.GeneratorExp elt [⟨tg, iter, [], 0⟩] scope pos) 0 (.ref it) .none cenv) []) (letOwnedTupleGo tg (.ref it) u) (fun _ s2 =>
          wpAny (model prog w) (A.over (.compLoop (.GeneratorExp elt [⟨tg, iter, [], 0⟩] scope pos) 0 (.ref it) .none cenv) []) (assign tg cenv u) (fun _ s3 =>
            wpAny (model prog w) (A.over (.compLoop (.GeneratorExp elt [⟨tg, iter, [], 0⟩] scope pos) 0 (.ref it) .none cenv) []) (eval elt cenv) (fun v s4 => Yl m v s4) (fun _ _ => False) s3) (fun _ _ => False) s2) (fun _ _ => False) s1) (fun _ _ => False) s) :
    ∀ (n m : Nat) (s₀ s : Shared), m < n → St m s →
      Seg (model prog w) A (fun _ _ r s₁ => r = .ok .next ∧ En s₁) (protoG St Yl) n s₀
        (.compLoop (.GeneratorExp elt [⟨tg, iter, [], 0⟩] scope pos) 0 (.ref it) .none cenv)
        ((model prog w).den (.compLoop (.GeneratorExp elt [⟨tg, iter, [], 0⟩] scope pos) 0 (.ref it) .none cenv)) [] s := by
  intro n
  induction n with
  | zero => intro m _ _ h; exact absurd h (Nat.not_lt_zero _)
  | succ n ih =>
    intro m s₀ s hm hst
    show Seg _ A _ _ _ s₀ _ ((compTurn (.GeneratorExp elt [⟨tg, iter, [], 0⟩] scope pos) 0 (.ref it) .none cenv).onRaise (leaving cenv)) [] s
    rw [compTurn_gen, Sem.onRaise_eq_wrap]
    refine seg_bind_wrap (wpAny_standAt ?_)
    refine seg_bind_wrap (wpAny_mono (turn m s hst) (fun r s1 h1 => ?_) fun _ _ e => e.elim)
    cases r with
    | none => exact seg_end (.ok .next) ⟨rfl, h1⟩
    | some u =>
      refine seg_bind_wrap (wpAny_mono h1 (fun _ s2 h2 => ?_) fun _ _ e => e.elim)
      refine seg_bind_wrap (wpAny_mono h2 (fun _ s3 h3 => ?_) fun _ _ e => e.elim)
      refine seg_bind_wrap ?_
      simp only [List.forIn_nil]
      refine wpAny_pure ?_
      simp only [if_true]
      have hy : ∀ v, yieldOut cenv v = yieldValue v := fun v => by simp only [yieldOut, hco, Bool.false_eq_true, if_false]
      simp only [hy]
      rw [Sem.bind_eq_wrap', Sem.bind_eq_wrap', Sem.wrap_wrap, Sem.wrap_wrap]
      refine seg_wrap (wpAny_mono h3 (fun v s4 h4 => ?_) fun _ _ e => e.elim)
      refine seg_at (seg_yield rfl rfl rfl ⟨⟨m, Nat.le_of_lt_succ hm, h4⟩, fun s'' m' hm' hst' => ?_⟩)
      exact seg_again rfl (ih m' s'' s'' hm' hst')
end
end My

set_option Elab.async false
set_option linter.all false
set_option maxRecDepth 100000
set_option maxHeartbeats 2000000
namespace My
open PySem PySem.Spec PyProof.Rows L2 GxR GenW

abbrev genObj (g : Nat) (x y : Value) : Obj := { cls := .type "generator", data := .fields #[.int g 0, x, y] }
/-- a generator expression is made: what stands then -/
structure Made (X : Cx) (pins : List (Addr × Obj)) (σ : L2.St) (elt tg iter : Expr) (scope : Scope) (gpos : Pos) (P : Addr) (J : It) (H1 H2 : Hp)
    (it : Addr) (fp : List Addr) (tn : Nat → Heap → Prop) (s4 s5 : Shared) (C a : Addr) (code : Value) (g : Nat) (x y : Value) : Prop where
  tab : Tabbed P H1 H2
  inv : Inv X pins σ H2 s4
  tu : Turn X.prog X.w X.K tg J fp it tn
  st : tn 0 s4.heap
  fp : ∀ b ∈ fp, FpOk X pins H2 b ∧ b < s4.heap.objs.size
  c : C = s4.heap.objs.size
  kp : ∀ b o, s4.heap.get? b = some o → s5.heap.get? b = some o
  ns : s5.heap.Ns C (fun y => if y = (".0" : Str) then some (.ref it) else none)
  os : s5.os = s4.os
  bare : AllBare s5.gens
  obj : s5.heap.get? a = some (genObj g x y)
  lt : s4.heap.objs.size < a
  gs : s5.gens[g]? = some (.fresh (.compStart (.GeneratorExp elt [⟨tg, iter, [], 0⟩] scope gpos) 0 (.ref it) .none (gEnv X scope C code)))

section
variable {X : Cx} {pins : List (Addr × Obj)} {σ : L2.St} {H : Hp} {s : Shared}
theorem gen_mk {c P : Addr} {elt tg iter : Expr} {gpos : Pos} {scope : Scope} {own : List (Str × Nat)} {wi : TI} {k : Nat} {Q' : Value → Shared → Prop} {R : It → Hp → Prop}
    (hr : Room k X.A) (TB : TabB X.base X.mg c P) (hcode : X.env.code = .ref c) (S : GsOk scope) (ok : BlkOk X.N X.env.scope scope own) (hi : PI X tg iter wi)
    (hs : ∀ v, genFold iter X.env v = pure v) (I : Inv X pins σ H s) (h : wi σ H fun J H1 => TabG H1 P ∧ R J H1)
    (hQ : ∀ J H1 H2 it fp tn s4 s5 C a code g x y, R J H1 → Made X pins σ elt tg iter scope gpos P J H1 H2 it fp tn s4 s5 C a code g x y → Q' (.ref a) s5) :
    wpAny (model X.prog X.w) X.A (eval (.GeneratorExp elt [⟨tg, iter, [], 0⟩] scope gpos) X.env) Q' X.xe s := by
  have hfree : ∀ y ∈ scope.names, y.2 = .free → ∃ c, X.env.cells.lookup y.1 = some c := fun y hy e => (ok.free y hy e).elim (fun k => I.ok.has _ (.inl k)) fun k => I.ok.has _ (.inr k)
  refine wpAny_GeneratorExp_make S.co (closure_ok hfree) S.cell S.dot ok.kind (by have := hr.dp; omega) ?_ hs
  refine thn (hi.run pins s σ H _ I h) fun xv s1 hx => thn hx fun itv s2 h2 => ?_
  obtain ⟨it, fp, tn, J, H1, rfl, I2, T, st2, f2, ⟨ps, hP, ht⟩, q⟩ := h2
  have hPs : s2.heap.get? P = some { cls := .none, data := .fields ps } := I2.hok P _ hP
  have cd : PySem.W.CodeHd s2.heap c P := TB.code.keeps fun b u e => I2.bk b u e
  have cont : ∀ (code : Value) (h3 : Heap) (tk : Nat) (more : Array Value), Heap.ExtBut P s2.heap h3 → s2.heap.objs.size ≤ h3.objs.size → h3.get? P = some { cls := .none, data := .fields (ps ++ more) } → TriplesOk (ps ++ more).toList →
      wpAny (model X.prog X.w) X.A (builtinsFor X.env.globals X.env.builtins) (fun bi s₄ =>
        ∀ h', h'.Ns s₄.heap.objs.size (fun y => if y = ".0" then some (Value.ref it) else none) → Heap.SameBut s₄.heap.objs.size (s₄.heap.push { cls := .type "frame", data := .dict #[] }) h' →
          Q' (.ref h'.objs.size) { s₄ with
            gens := s₄.gens.push (.fresh (.compStart (.GeneratorExp elt [⟨tg, iter, [], 0⟩] scope gpos) 0 (.ref it) .none (genEnv scope (cloFrom X.env.cells scope.names []) s₄.heap.objs.size code bi X.env))),
            toks := s₄.toks + 1 + 1 + 1,
            heap := h'.push { cls := .type "generator", data := .fields #[.int s₄.gens.size 0, .str "<genexpr>" (s₄.toks + 1), .str (X.env.qual ++ "<genexpr>") (s₄.toks + 1 + 1)] } }) X.xe { s2 with heap := h3, toks := tk } := by
    intro code h3 tk more hx hsz hP3 ht3
    obtain ⟨bm, ob, e1, e2, e3, e4, e5, e6, e7, e8⟩ := TB.bm
    have keep3 : ∀ b u, b ≠ P → s2.heap.get? b = some u → h3.get? b = some u := fun b u hb e => hx b u hb e
    refine wpAny_builtinsFor (m := X.mg) (by rw [I2.ok.glob]; exact (I2.mod.glob.keeps I2.bk).extBut hx TB.gP) e1 e2 (keep3 _ _ e4 (I2.bk _ _ e5)) e6 e7 e8 ?_
    intro h' hns hsb
    have I4 := inv_tab (more := more) (h' := h3) (g' := s2.gens) (d' := s2.drawn) (t' := tk) I2 hP keep3 hP3 I2.bare
    have old : ∀ b u, h3.get? b = some u → h'.get? b = some u := fun b u e => hsb.extBut b u (Nat.ne_of_lt (Heap.lt_size e)) (Heap.get?_push_of_some _ e)
    have hsz' : h'.objs.size = h3.objs.size + 1 := by rw [hsb.1, Heap.size_push]
    refine hQ J H1 (upd H1 P (.tbl (ps ++ more))) it fp tn { s2 with heap := h3, toks := tk } _ h3.objs.size _ code s2.gens.size _ _ q
      ⟨⟨⟨_, upd_same, ht3⟩, fun b hb => upd_ne hb⟩, I4, T, ?_, fun b hb => ⟨?_, ?_⟩, rfl, fun b o e => Heap.get?_push_of_some _ (old b o e), hns.keeps fun b o e => Heap.get?_push_of_some _ e, rfl, I2.bare.push rfl, Heap.get?_push_size _ rfl, ?_, ?_⟩
    · refine T.keep _ _ _ st2 fun b hb o e => keep3 b o (fun z => ?_) e
      have z2 := (f2 b hb).1
      rw [z, hP] at z2; cases z2
    · refine ⟨?_, (f2 b hb).2⟩
      have nb : b ≠ P := fun z => by
        have z2 := (f2 b hb).1
        rw [z, hP] at z2; cases z2
      rw [upd_ne nb]; exact (f2 b hb).1
    · obtain ⟨o, e, _⟩ := T.obj _ _ st2 b hb
      exact Nat.lt_of_lt_of_le (Heap.lt_size e) hsz
    · show h3.objs.size < h'.objs.size
      omega
    · show (s2.gens.push _)[s2.gens.size]? = _
      rw [Array.getElem?_push_size]
  refine ⟨I2.nolimit, ?_⟩
  cases hf : codeAmong gpos ps.toList with
  | none =>
    refine wpAny_genexprCodeX hcode (cd.code hPs ht) (cd.tab hPs) hf fun c' h' tk hx hge hlt hco' _ htab' _ => ?_
    obtain ⟨o1, vs, f1, tf, fl, tg', inF, tx, tt, op, _, _, _, _, _, _, _, _, _, htr, _⟩ := hco'
    exact cont _ h' tk _ hx (Nat.le_trans hge (Nat.le_of_lt hlt)) htab'.2 htr
  | some cv =>
    refine wpAny_genexprCode_hit hcode (cd.code hPs ht) hf ?_
    have z : ps ++ #[] = ps := by simp
    exact cont cv s2.heap s2.toks #[] (Heap.ExtBut.refl _ _) (Nat.le_refl _) (by rw [z]; exact hPs) (by rw [z]; exact ht)
end

/-! ### all, any: one item after another -/
section
variable {prog : Program} {w : World} {A : Around} {R : Result → Shared → Prop} {a : Addr} {g : Nat} {St : Nat → Shared → Prop} {En : Shared → Prop} {Yl : Nat → Value → Shared → Prop}
theorem allG_loop (hh : A.handled = none) (hd : A.in1.depth < recursionLimit)
    (hen : ∀ s₁ h', En s₁ → (∀ b o, s₁.heap.get? b = some o → h'.get? b = some o) → R (.ok (.ret (.bool true))) { s₁.setGen g .finished with heap := h' })
    (hyl : ∀ m v s₁ gs', gs'.bare = true → Yl m v s₁ → (v = .bool false ∧ R (.ok (.ret (.bool false))) (s₁.setGen g gs')) ∨
      (v = .bool true ∧ (s₁.setGen g gs').heap.NoLimit ∧ (s₁.setGen g gs').heap.IsGen a g ∧ ∃ m', m' < m ∧ St m' ((s₁.setGen g gs').setGen g .running))) :
    ∀ (n : Nat) (s : Shared), s.heap.NoLimit → s.heap.IsGen a g →
      (∃ gs, s.gens[g]? = some gs ∧ gs.Goes (model prog w) A.in1.in1 (fun _ _ r s₁ => r = .ok .next ∧ En s₁) (protoG St Yl) n (.send .none) (s.setGen g .running)) →
      codeAny (model prog w) A (.builtin "all.loop" ⟨[.ref a], []⟩) R s := by
  intro n
  induction n with
  | zero =>
    rintro s hl hg ⟨gs, hgs, hgo⟩
    refine codeAny_builtin F.entry_all_loop ?_
    rw [Around.under_plainId F.plain_all_loop _]
    show wpAny _ A.in1 (pyNext (.ref a) >>= _) _ _ s
    refine wpAny_bind (wpAny_pyNext_genexpQ (P := fun _ _ s₁ => En s₁) hh hl hd hg hgs hgo (fun v s₁ gs' hb hY => ?_) (fun s₁ hP h' hk => ?_))
    · obtain ⟨⟨m, hm, hy⟩, _⟩ := hY
      rcases hyl m v s₁ gs' hb hy with ⟨rfl, hR⟩ | ⟨_, _, _, m', hm', _⟩
      · refine wpAny_bind (wpAny_holding (wpAny_truthy_bool ?_))
        refine wpAny_bind (wpAny_letGo ?_)
        simp only [Bool.false_eq_true, if_false]
        exact wpAny_bind (wpAny_rule (wpAny_pure hR))
      · omega
    · exact wpAny_bind (wpAny_rule (wpAny_pure (hen s₁ h' hP hk)))
  | succ n ih =>
    rintro s hl hg ⟨gs, hgs, hgo⟩
    refine codeAny_builtin F.entry_all_loop ?_
    rw [Around.under_plainId F.plain_all_loop _]
    show wpAny _ A.in1 (pyNext (.ref a) >>= _) _ _ s
    have hsz : g + 1 ≤ s.gens.size := by
      rcases Nat.lt_or_ge g s.gens.size with z | z
      · exact z
      · rw [Array.getElem?_eq_none z] at hgs; cases hgs
    refine wpAny_bind (wpAny_gsz hsz (wpAny_pyNext_genexpQ (P := fun _ _ s₁ => En s₁) hh hl hd hg hgs hgo (fun v s₁ gs' hb hY hn => ?_) (fun s₁ hP h' hk _ => ?_)))
    · obtain ⟨⟨m, hm, hy⟩, hres⟩ := hY
      rcases hyl m v s₁ gs' hb hy with ⟨rfl, hR⟩ | ⟨rfl, hl', hg', m', hm', hst⟩
      · refine wpAny_bind (wpAny_holding (wpAny_truthy_bool ?_))
        refine wpAny_bind (wpAny_letGo ?_)
        simp only [Bool.false_eq_true, if_false]
        exact wpAny_bind (wpAny_rule (wpAny_pure hR))
      · refine wpAny_bind (wpAny_holding (wpAny_truthy_bool ?_))
        refine wpAny_bind (wpAny_letGo ?_)
        simp only [if_true]
        have hm : m ≤ n := hm
        refine wpAny_pure ⟨plainId_quiet F.plain_all_loop _, ih _ hl' hg' ⟨gs', ?_, hres _ m' (by omega) hst⟩⟩
        have hn' : g < s₁.gens.size := by
          rw [setGen_size] at hn; exact hn
        show (s₁.gens.setIfInBounds g gs')[g]? = some gs'
        rw [Array.getElem?_setIfInBounds_self, if_pos hn']
    · exact wpAny_bind (wpAny_rule (wpAny_pure (hen s₁ h' hP hk)))
end
end My

set_option Elab.async false
set_option linter.all false
set_option maxRecDepth 100000
set_option maxHeartbeats 2000000
namespace My
open PySem PySem.Spec PyProof.Rows L2 GxR GenW

/-- the around of the generator's frame, asked for by all or any -/
abbrev gA (X : Cx) (elt tg iter : Expr) (scope : Scope) (gpos : Pos) (it : Addr) (C : Addr) (code : Value) : Around :=
  X.A.in1.in1.over (.compLoop (.GeneratorExp elt [⟨tg, iter, [], 0⟩] scope gpos) 0 (.ref it) .none (gEnv X scope C code)) []
theorem gA_room {X : Cx} {elt tg iter : Expr} {scope : Scope} {gpos : Pos} {it C : Addr} {code : Value} {k : Nat} (hr : Room (k + 1) X.A) : Room k (gA X elt tg iter scope gpos it C code) := by
  have h1 : (gA X elt tg iter scope gpos it C code).depth = X.A.depth + 1 := rfl
  have h2 : (gA X elt tg iter scope gpos it C code).units ≤ X.A.units + 16 := by
    show X.A.in1.in1.units + _ + _ ≤ _
    have : X.A.in1.in1.units ≤ X.A.units + 8 := by
      first
        | exact Nat.le_add_right _ _
        | (show X.A.units + _ + _ ≤ _; omega)
    show X.A.in1.in1.units + 0 + 3 ≤ _
    omega
  exact ⟨hr.hd, by have := hr.dp; omega, by have := hr.un; omega⟩
theorem gA_frames {X : Cx} {elt tg iter : Expr} {scope : Scope} {gpos : Pos} {it C : Addr} {code : Value} (h : X.A.frames = some X.stack) :
    (gA X elt tg iter scope gpos it C code).frames = some (gEnv X scope C code :: X.stack) := by
  have e : (gA X elt tg iter scope gpos it C code).frames = pushEnvs [gEnv X scope C code] (pushEnvs [] X.A.frames) := rfl
  rw [e, h]; rfl

/-- all(e for tg in iter) -/
def tAllG (P : Addr) (wi : TI) (g : TG) (te : TE) (vs : List Nat) : TE := fun σ H Q => wi σ H fun J H1 => TabG H1 P ∧ ∀ H2, Tabbed P H1 H2 →
  ∃ W : Nat → Nat → Hp → Prop, (∃ m, W 0 m H2) ∧ ∀ i m H, W i m H → (J.stop i H ∧ Q (.bl true) H) ∨
    (J.go i H ∧ ∃ Nx : Hp → Prop, (∀ H', Nx H' → ∃ m', m' < m ∧ W (i + 1) m' H') ∧ ∀ x H', J.yld i H x H' → g x (wipe σ vs) H' fun σ2 H2 => wipe σ2 vs = wipe σ vs ∧
      te σ2 H2 fun y H3 => ∃ b, y = .bl b ∧ if b = true then Nx H3 else Q (.bl false) H3)

section
variable {X : Cx}
theorem pe_allG {c P : Addr} {elt tg iter : Expr} {p pos gpos : Pos} {scope : Scope} {own : List (Str × Nat)} {wi : TI} {g : TG} {te : TE} {k : Nat}
    (hc : X.calm = true) (hN : X.N.Nodup) (hr : Room (k + 1) X.A) (hgl : Gl X "all") (hm : X.mg "all" = none) (TB : TabB X.base X.mg c P) (hcode : X.env.code = .ref c)
    (S : GsOk scope) (ok : BlkOk X.N X.env.scope scope own) (hi : PI X tg iter wi)
    (hg : ∀ A' s H C code fp pn, PG (gcx X A' s H (gEnv X scope C code) fp pn) tg g)
    (he : ∀ A' s H C code fp pn, Room k A' → PE (gcx X A' s H (gEnv X scope C code) fp pn) elt te)
    (hs : ∀ v, genFold iter X.env v = pure v := by intro _; rfl)
    (h1 : starEach [.GeneratorExp elt [⟨tg, iter, [], 0⟩] scope gpos] X.env = (false, eval (.GeneratorExp elt [⟨tg, iter, [], 0⟩] scope gpos) X.env) :: starEach [] X.env := by rfl) :
    PE X (.Call (.Name "all" p) [.GeneratorExp elt [⟨tg, iter, [], 0⟩] scope gpos] [] pos) (tAllG P wi g te (own.map (·.2))) := by
  refine ⟨fun pins s σ H Q I h => ?_⟩
  refine wpAny_Call_Name_kw (ld_blt I hgl hm boot_all ?_)
  refine PyProof.Rows.callWith_builtin1 ?_ h1 (by rfl)
  rw [h1]
  show wpAny _ _ (spliced ((false, eval (.GeneratorExp elt [⟨tg, iter, [], 0⟩] scope gpos) X.env) :: backTo pos (starEach [] X.env))) _ _ s
  refine Calls.spliced_cons (gen_mk hr TB hcode S ok hi hs I h fun J H1 H2 it fp tn s4 s5 C a code gi x y q M => ?_)
  refine Calls.spliced_nil ?_
  obtain ⟨W, ⟨m0, w0⟩, turn⟩ := q H2 M.tab
  have hX : X.A.handled = none := M.inv.ok.hd hc
  have I5 : Inv (gcx X (gA X elt tg iter scope gpos it C code) s4 H2 (gEnv X scope C code) fp [(a, genObj gi x y)]) [] (wipe σ (own.map (·.2))) H2 s5 :=
    gen_inv M.inv ok hN S M.fp M.c hX (gA_frames M.inv.ok.frames) M.kp M.ns M.os M.bare fun p hp => by
      rw [List.mem_singleton.mp hp]
      exact ⟨M.obj, M.lt, fun v e => by cases e⟩
  have pg := hg (gA X elt tg iter scope gpos it C code) s4 H2 C code fp [(a, genObj gi x y)]
  have pe := he (gA X elt tg iter scope gpos it C code) s4 H2 C code fp [(a, genObj gi x y)] (gA_room hr)
  have T := M.tu
  generalize hY : gcx X (gA X elt tg iter scope gpos it C code) s4 H2 (gEnv X scope C code) fp [(a, genObj gi x y)] = Y at I5 pg pe
  have stat : ∀ {σ' : L2.St} {H' : Hp} {s' : Shared}, Inv Y [] σ' H' s' → (∀ b ∈ fp, H' b = none) → ∀ b ∈ fp, FpOk Y [] H' b := fun {σ' H' s'} I' hn b hb => by
    subst hY
    refine ⟨hn b hb, (I'.ok.exf b hb).1, I'.ok.exfs b hb, .inl hb, fun x c e => (I'.ok.exf b hb).2 x c e, fun p hp => ?_⟩
    have hp : p ∈ [(a, genObj gi x y)] ++ ([] : List (Addr × Obj)) := hp
    rw [List.append_nil] at hp
    rw [List.mem_singleton.mp hp]
    have h2 := (M.fp b hb).2
    have h3 := M.lt
    exact Nat.ne_of_gt (Nat.lt_trans h2 h3)
  have obj : ∀ {σ' : L2.St} {H' : Hp} {s' : Shared}, Inv Y [] σ' H' s' → s'.heap.IsGen a gi := fun {σ' H' s'} I' => by
    subst hY
    exact ⟨_, x, y, (I'.pin (a, genObj gi x y) (List.mem_append_left _ (List.mem_singleton.mpr rfl))).1, rfl, rfl, rfl⟩
  have back : ∀ {σ' : L2.St} {H' : Hp} {s' : Shared}, Inv Y [] σ' H' s' → Inv X pins σ H' s' := fun {σ' H' s'} I' => by
    subst hY
    exact M.inv.call' (ch := fp) I'.os I'.base I'.hok I'.bare fun b hb => ⟨(M.fp b hb).1.2.2.2.1, (M.fp b hb).1.2.1, (M.fp b hb).1.2.2.2.2.1, (M.fp b hb).1.2.2.2.2.2⟩
  have seg := seg_loopG (prog := X.prog) (w := X.w) (A := X.A.in1.in1) (elt := elt) (tg := tg) (iter := iter) (scope := scope) (pos := gpos) (it := it) (cenv := gEnv X scope C code) S.co
    (fun m s => ∃ i H', Inv Y [] (wipe σ (own.map (·.2))) H' s ∧ tn i s.heap ∧ (∀ b ∈ fp, H' b = none) ∧ W i m H')
    (fun s => ∃ H', Inv Y [] (wipe σ (own.map (·.2))) H' s ∧ Q (.bl true) H')
    (fun m v s => ∃ i H' b, v = .bool b ∧ Inv Y [] (wipe σ (own.map (·.2))) H' s ∧ tn i s.heap ∧ (∀ b ∈ fp, H' b = none) ∧ if b = true then ∃ m', m' < m ∧ W i m' H' else Q (.bl false) H') ?_
  · have hl5 : s5.heap.NoLimit := I5.nolimit
    refine call_function_tree F.kind_all F.plain_all F.entry_all (F.args_all1 _) ?_
    unfold Builtin.«all»
    refine wpAny_bind (m := oneArg "all" _) (wpAny_pure ?_)
    refine wpAny_bind (wpAny_pyIter_gen (obj I5) ?_)
    refine wpAny_pure ⟨plainId_quiet F.plain_all_loop _, ?_⟩
    refine allG_loop (g := gi) (n := m0 + 1) (St := fun m s => ∃ i H', Inv Y [] (wipe σ (own.map (·.2))) H' s ∧ tn i s.heap ∧ (∀ b ∈ fp, H' b = none) ∧ W i m H')
      (En := fun s => ∃ H', Inv Y [] (wipe σ (own.map (·.2))) H' s ∧ Q (.bl true) H')
      (Yl := fun m v s => ∃ i H' b, v = .bool b ∧ Inv Y [] (wipe σ (own.map (·.2))) H' s ∧ tn i s.heap ∧ (∀ b ∈ fp, H' b = none) ∧ if b = true then ∃ m', m' < m ∧ W i m' H' else Q (.bl false) H')
      hX (by have := hr.dp; show X.A.depth < _; omega) ?_ ?_ s5 hl5 (obj I5) ⟨_, M.gs, rfl, ?_⟩
    · rintro s₁ h' ⟨H', I', qq⟩ hk
      have I6 := inv_setGen (g := gi) (x := .finished) I' rfl
      have I7 := (back I6).kept (t' := s₁.toks) hk
      exact ⟨.bl true, H', I7, rfl, qq⟩
    · rintro m v s₁ gs' hb ⟨i, H', b, rfl, I', st', n', q'⟩
      have I6 := inv_setGen (g := gi) I' hb
      cases b with
      | false => exact .inl ⟨rfl, .bl false, H', back I6, rfl, q'⟩
      | true =>
        obtain ⟨m', hm', w'⟩ : ∃ m', m' < m ∧ W i m' H' := q'
        exact .inr ⟨rfl, I6.nolimit, obj I6, m', hm', i, H', inv_setGen I6 rfl, st', n', w'⟩
    · -- the start
      have I6 : Inv Y [] (wipe σ (own.map (·.2))) H2 (s5.setGen gi .running) := inv_setGen I5 rfl
      have st5 : tn 0 (s5.setGen gi .running).heap := T.keep _ _ _ M.st fun b _ o e => M.kp b o e
      have loop := seg (m0 + 1) m0 (s5.setGen gi .running) (s5.setGen gi .running) (Nat.lt_succ_self _) ⟨0, H2, I6, st5, fun b hb => (M.fp b hb).1.1, w0⟩
      show Seg _ X.A.in1.in1 _ _ _ _ _ ((compStart (.GeneratorExp elt [⟨tg, iter, [], 0⟩] scope gpos) 0 (.ref it) .none (gEnv X scope C code)).onRaise (leaving (gEnv X scope C code))) [] _
      unfold compStart
      rw [Sem.onRaise_eq_wrap]
      show Seg _ X.A.in1.in1 _ _ _ _ _ ((ask >>= _).wrap _ _ _ _) [] _
      refine seg_bind_wrap (wpAny_askSetting ?_)
      split
      · exact seg_again rfl loop
      · refine seg_bind_wrap (wpAny_rule ?_)
        show Seg _ X.A.in1.in1 _ _ _ _ _ ((standAt iter.pos >>= _).wrap _ _ _ _) [] _
        exact seg_bind_wrap (wpAny_standAt (seg_bind_wrap (T.self _ 0 _ _ _ st5 (seg_again rfl loop))))
  · rintro m s6 ⟨i, H', I', st', n', w'⟩
    rcases turn i m H' w' with ⟨stop, qq⟩ | ⟨go, Nx, hNx, step⟩
    · have td := T.done Y (by subst hY; rfl) (by subst hY; rfl) (by subst hY; rfl) (by subst hY; rfl) i [] s6 _ H' (fun _ _ => False) I' (stat I' n') st' stop
      subst hY
      refine wpAny_mono td (fun r s7 ⟨hr7, I7⟩ => ?_) fun _ _ e => e
      subst hr7
      exact ⟨H', I7, qq⟩
    · have ti := T.item Y (by subst hY; rfl) (by subst hY; rfl) (by subst hY; rfl) (by subst hY; rfl) i [] s6 _ H' (fun _ _ => False) I' (stat I' n') st' go
      subst hY
      refine wpAny_mono ti (fun r s7 ⟨u, hr7, h7⟩ => ?_) fun _ _ e => e
      subst hr7
      refine wpAny_mono h7 (fun _ s8 ⟨xv, H8, I8, r8, y8, st8, n8⟩ => ?_) fun _ _ e => e
      have I8' := I8.pinned (stat I8 n8) (T.obj _ _ st8)
      refine wpAny_mono (pg.run _ s8 _ H8 xv u _ I8' r8 (step xv H8 y8)) (fun _ s9 ⟨σ9, H9, I9, hw9, q9⟩ => ?_) fun _ _ e => e
      refine wpAny_mono (pe.run _ s9 σ9 H9 _ I9 q9) (fun v s10 ⟨yv, H10, I10, r10, b, eb, q10⟩ => ?_) fun _ _ e => e
      subst eb
      cases r10
      have pin' : ∀ b ∈ fp, ∀ o, s8.heap.get? b = some o → s10.heap.get? b = some o ∧ H10 b = none := fun b hb o e =>
        let z := I10.pin (b, o) (List.mem_append_right _ (List.mem_append_right _ (mem_pinsAt hb e)))
        ⟨z.1, z.2.1⟩
      have hl : (wipe σ (own.map (·.2))).length = σ9.length := by rw [← hw9, wipe_length]
      refine ⟨i + 1, H10, b, rfl, (I10.unpinned (pins := [])).weak hl (fun j v e => ?_), T.keep _ _ _ st8 fun b hb o e => (pin' b hb o e).1, fun b hb => ?_, ?_⟩
      · rw [← hw9] at e
        exact (wipe_some e).1
      · obtain ⟨o, e, _⟩ := T.obj _ _ st8 b hb
        exact (pin' b hb o e).2
      · cases b with
        | true => exact hNx H10 q10
        | false => exact q10
end
end My

set_option Elab.async false
set_option linter.all false
set_option maxRecDepth 100000
namespace My
open PySem PySem.Spec PyProof.Rows L2 GxR

/-! ### a def whose code object is known -/
section
variable {P : Program} {w : World} {K : PySem.W.Frag} {mg : Str → Option Value} {base : Heap}
theorem okC {x qual : Str} {st : Stmt} {f c : Addr} {fd : FuncData} {N ps : List Str} {k : Nat} {sp : Sp} (F : Fun K x qual st f fd) (hc : fd.code = .ref c) (S : FnScope N ps (defScope st))
    (len : ∀ vs H Q E, sp vs H Q E → vs.length = ps.length)
    (hbody : ∀ (A : Around) (outer : List Env) (s : Shared) (H : Hp) (vs : List V) (Q : VK) (E : XK), Room k (A.deeper (envOfC qual (defScope st) s.heap.objs.size f (.ref c))) → sp vs H Q E →
      ∃ t, PSs (cxOf CX0 P w K mg base N qual (defScope st) f (.ref c) A outer s H E).nox (defBody st) t ∧ t { nx := fun _ H' => Q .non H', rt := Q } (start N vs) H) : FnOk P w K mg base CX0 (k + 1) f fd ps sp := by
  obtain ⟨oc, od, kV, doc, pm, an, cdv, ct, osl, rfl, lk, hcd⟩ := F.ex
  have e : cdv = .ref c := hc
  subst e
  refine fn_of lk hcd S len fun A outer s H vs Q E hr hsp => ?_
  obtain ⟨t, h, q⟩ := hbody A outer s H vs Q E hr hsp
  exact ⟨t, h.nox, q⟩
theorem fun_of {x qual : Str} {st : Stmt} {f : Addr} {fd : FuncData} {kws : List (Str × V)} (F : FunD K x qual (defArgs st) (defBody st) (defScope st) [] kws f fd) : Fun K x qual st f fd := by
  obtain ⟨oc, od, dV, kV, doc, pm, an, cdv, ct, osl, rfl, lk, hcd, hD, _⟩ := F.ex
  rcases hD with ⟨_, rfl⟩ | ⟨e, _⟩
  · exact ⟨⟨oc, od, kV, doc, pm, an, cdv, ct, osl, rfl, lk, hcd⟩, F.kp⟩
  · exact absurd rfl e
end

/-! ### a < b < c < d -/
section
variable {X : Cx} {a b c d : Expr} {ta tb tc td : TE} {pos : Pos}
def tChain3 (r1 r2 r3 : R2) (ta tb tc td : TE) : TE := fun σ H Q => ta σ H fun x H1 => tb σ H1 fun y H2 => r1 x y H2 fun z H3 => ∃ k, z = .bl k ∧
  (if k = true then tc σ H3 fun v H4 => r2 y v H4 fun z H5 => ∃ k, z = .bl k ∧ (if k = true then td σ H5 fun u H6 => r3 v u H6 Q else Q (.bl false) H5) else Q (.bl false) H3)
theorem pe_chain3 {o1 o2 o3 : CmpOp} {r1 r2 r3 : R2} (h1 : OpR X (compareOp o1) r1) (h2 : OpR X (compareOp o2) r2) (h3 : OpR X (compareOp o3) r3) (ha : PE X a ta) (hb : PE X b tb) (hc : PE X c tc) (hd : PE X d td)
    (hm : lastMarks [o1, o2, o3] [b, c, d] = false := by with_unfolding_all rfl) : PE X (.Compare a [o1, o2, o3] [b, c, d] pos) (tChain3 r1 r2 r3 ta tb tc td) := by
  refine ⟨fun pins s σ H Q I h => ?_⟩
  refine Compare_chain (thn (ha.run pins s σ H _ I h) fun v s1 ⟨x, H1, I1, q1, p1⟩ => chain_link (thn (hb.run pins s1 σ H1 _ I1 p1) fun u s2 ⟨y, H2, I2, q2, p2⟩ =>
    thn (h1 pins s2 σ H2 x y v u _ I2 q1 q2 p2) fun e s3 ⟨z, H3, I3, q3, k, ek, p3⟩ => ?_)) hm
  subst ek
  cases q3
  refine wpAny_truthy_bool ?_
  cases k with
  | false => exact ite_ff ⟨.bl false, H3, I3, rfl, p3⟩
  | true =>
    refine ite_tt (chain_link (thn (hc.run pins s3 σ H3 _ I3 p3) fun u4 s4 ⟨y4, H4, I4, q4, p4⟩ => thn (h2 pins s4 σ H4 y y4 u u4 _ I4 q2 q4 p4) fun e5 s5 ⟨z5, H5, I5, q5, k5, ek5, p5⟩ => ?_))
    subst ek5
    cases q5
    refine wpAny_truthy_bool ?_
    cases k5 with
    | false => exact ite_ff ⟨.bl false, H5, I5, rfl, p5⟩
    | true => exact ite_tt (chain_last (thn (hd.run pins s5 σ H5 _ I5 p5) fun u6 s6 ⟨y6, H6, I6, q6, p6⟩ => h3 pins s6 σ H6 y4 y6 u4 u6 Q I6 q4 q6 p6))
end

/-! ### all over what is walked -/
theorem allG_it {J : It} {n : Nat} {G : Hp → Prop} {Y : Nat → Hp → V → Hp → Prop} (w : Walk J n G Y) {g : TG} {te : TE} {vs : List Nat} {σ : L2.St} {H0 : Hp} {QT QF : Hp → Prop} (Pv : Nat → Hp → Prop) (h0 : Pv 0 H0) (hG : ∀ i H, i ≤ n → Pv i H → G H)
    (hs : ∀ i x H H', i < n → Pv i H → Y i H x H' → g x (wipe σ vs) H' fun σ2 H2 => wipe σ2 vs = wipe σ vs ∧ te σ2 H2 fun y H3 => ∃ b, y = .bl b ∧ if b = true then Pv (i + 1) H3 else QF H3)
    (hd : ∀ H, Pv n H → QT H) :
    ∃ W : Nat → Nat → Hp → Prop, (∃ m, W 0 m H0) ∧ ∀ i m H, W i m H → (J.stop i H ∧ QT H) ∨
      (J.go i H ∧ ∃ Nx : Hp → Prop, (∀ H', Nx H' → ∃ m', m' < m ∧ W (i + 1) m' H') ∧ ∀ x H', J.yld i H x H' → g x (wipe σ vs) H' fun σ2 H2 => wipe σ2 vs = wipe σ vs ∧
        te σ2 H2 fun y H3 => ∃ b, y = .bl b ∧ if b = true then Nx H3 else QF H3) := by
  refine ⟨fun i m H => m = n - i ∧ i ≤ n ∧ Pv i H, ⟨n, rfl, Nat.zero_le _, h0⟩, ?_⟩
  rintro i m H ⟨rfl, hi, p⟩
  have q := hG i H hi p
  by_cases hlt : i < n
  · exact .inr ⟨w.goes i H hlt q, Pv (i + 1), fun H' p' => ⟨n - (i + 1), by omega, rfl, hlt, p'⟩, fun x H' y => hs i x H H' hlt p (w.yields i H x H' hlt q y)⟩
  · have e : i = n := by omega
    subst e
    exact .inl ⟨w.stops H q, hd H p⟩
theorem walk_zipT {K : PySem.W.Frag} {a b : Addr} {xs ys : List V} {n : Nat} (hn : n = min xs.length ys.length) :
    Walk (RZ.ItzT K a b) n (fun H => SqT K H a xs ∧ SqT K H b ys) (YPair (fun i => xs[i]?) (fun i => ys[i]?)) := by
  subst hn
  refine ⟨fun i _ hi q => ?_, fun _ q => ⟨xs, ys, q.1, q.2, by omega⟩, fun i H v H' _ q y => ?_⟩
  · have h1 : i < xs.length := by omega
    have h2 : i < ys.length := by omega
    exact ⟨xs, ys, xs[i], ys[i], q.1, q.2, List.getElem?_eq_getElem h1, List.getElem?_eq_getElem h2⟩
  · obtain ⟨T, x, z, h1, h2, h3, h4, h5⟩ := y
    exact ⟨T, x, z, h1, h2, h3, h4 xs q.1, h5 ys q.2⟩
theorem cut1 (xs : List V) : cutV xs (some 1) none = xs.drop 1 := by
  unfold cutV
  rw [show HT.sIx xs.length 0 (some 1) = min 1 xs.length from HT.sIx_nat xs.length 0 1, HT.sIx_none]
  cases xs with
  | nil => rfl
  | cons x r =>
    rw [show min 1 (x :: r).length = 1 by rw [List.length_cons]; omega]
    show (List.take ((x :: r).length - 1) r) = r
    rw [List.length_cons, Nat.add_sub_cancel]
    exact List.take_length
theorem lex_of {s t : Int × Int} (h : ltT s t) : HT.lexLt [s.1, s.2] [t.1, t.2] = true := by
  rw [HT.lexLt_cons]
  rcases h with h | ⟨h, k⟩
  · rw [if_neg (by omega)]; exact decide_eq_true h
  · rw [if_pos h, HT.lexLt_cons, if_neg (by omega)]; exact decide_eq_true k
end My

set_option Elab.async false
set_option linter.all false
set_option maxRecDepth 100000
namespace My
open PySem PySem.Spec PyProof.Rows L2
def topS (i : Nat) : Stmt := PySem.Challenge.pw_pointedties_k28_common_to.main.body.getD i (.Pass ⟨0, 0, 0, 0⟩)
section
variable {P : Program} {w : World} {K : PySem.W.Frag} {mg : Str → Option Value} {base : Heap}

/-! ### _law_mix -/
abbrev s__law_mix : Stmt := topS 3
abbrev N__law_mix : List Str := ["_law_cell", "_law_k", "_law_m"]
theorem sc__law_mix : FnScope N__law_mix ["_law_cell", "_law_k"] (defScope s__law_mix) := ⟨rfl, rfl, rfl, by decide +kernel, rfl, by decide +kernel, by decide +kernel⟩
def sp_mix : Sp := fun vs H Q _ => ∃ c k : Int, vs = [.int c, .int k] ∧ -(2 ^ 60) < k ∧ k < 2 ^ 60 ∧
  ∀ r : Int, 0 ≤ r → Q (.int r) H
theorem ok_mix {f : Addr} {fd : FuncData} (F : Fun K "_law_mix" "_law_mix" s__law_mix f fd) :
    FnOk P w K mg base CX0 1 f fd ["_law_cell", "_law_k"] sp_mix := by
  refine F.ok sc__law_mix (fun vs H Q E h => ?_) (fun cdv A outer s H vs Q E hr h => ?_)
  · obtain ⟨c, k, rfl, _⟩ := h; rfl
  · obtain ⟨c, k, rfl, h1, h2, q⟩ := h
    refine ⟨_, (pss_cons (ps_set (i := 2) sc__law_mix.nd rfl (by first | exact Or.inl rfl | exact Or.inr rfl) (pe_op op_mod (pe_op op_mul (pe_op op_add (pe_op op_add (pe_op op_mod (pv 0) pe_int) (pe_op op_mul (pe_op op_mul (pv 1) (pv 1)) pe_int)) pe_int) pe_int) pe_int))
    (pss_one (ps_ret (pe_op op_mod (pe_op op_mul (pv 2) (pv 2)) pe_int)))), ?_⟩
    refine ⟨_, rfl, _, _, rfl, rfl, (by decide : (0 : Int) < 2147483629), ?_⟩
    refine ⟨_, rfl, _, rfl, _, _, rfl, rfl, .inl ⟨by omega, by omega⟩, ?_⟩
    refine ⟨_, _, rfl, rfl, .inr ⟨by decide, by decide⟩, ?_⟩
    refine ⟨_, _, rfl, rfl, ?_⟩
    refine ⟨_, _, rfl, rfl, ?_⟩
    refine ⟨_, _, rfl, rfl, .inr ⟨by decide, by decide⟩, ?_⟩
    refine ⟨_, _, rfl, rfl, (by decide : (0 : Int) < 2147483647), ?_⟩
    have b1 : ∀ x : Int, 0 ≤ x % 2147483647 := fun x => Int.emod_nonneg _ (by decide)
    have b2 : ∀ x : Int, x % 2147483647 < 2147483647 := fun x => Int.emod_lt_of_pos _ (by decide)
    refine ⟨_, rfl, _, rfl, _, _, rfl, rfl, .inl ⟨by have := b1 (((c % 2147483629 + k * k * 7919) + 11) * 48271); omega, by have := b2 (((c % 2147483629 + k * k * 7919) + 11) * 48271); omega⟩, ?_⟩
    refine ⟨_, _, rfl, rfl, (by decide : (0 : Int) < 1999999973), ?_⟩
    exact q _ (Int.emod_nonneg _ (by decide))

/-! ### _law_left -/
abbrev s__law_left : Stmt := topS 4
abbrev N__law_left : List Str := ["_law_script", "_law_k", "_law_cell"]
theorem sc__law_left : FnScope N__law_left ["_law_script", "_law_k"] (defScope s__law_left) := ⟨rfl, rfl, rfl, by decide +kernel, rfl, by decide +kernel, by decide +kernel⟩
def sp_left (K : PySem.W.Frag) : Sp := fun vs H Q _ => ∃ (a : Addr) (ns : List Int) (k : Int), vs = [.ref a, .int k] ∧ SqL K H a (ns.map V.int) ∧ 0 ≤ k ∧ k < 2 ^ 60 ∧
  ∀ L H', H L = none → Same H H' → Lf H' L 0 → Q (.ref L) H'
theorem ok_left {f : Addr} {fd : FuncData} (B : Bts mg) (F : Fun K "_law_left" "_law_left" s__law_left f fd) :
    FnOk P w K mg base CX0 1 f fd ["_law_script", "_law_k"] (sp_left K) := by
  refine F.ok sc__law_left (fun vs H Q E h => ?_) (fun cdv A outer s H vs Q E hr h => ?_)
  · obtain ⟨c, k, _, rfl, _⟩ := h; rfl
  · obtain ⟨a, ns, k, rfl, hS, h1, h2, q⟩ := h
    refine ⟨_, (pss_cons (ps_set (i := 2) sc__law_left.nd rfl (by first | exact Or.inl rfl | exact Or.inr rfl) (pe_ifExp (pt_cmpR op_lt (pv 1) (pe_callB call_len_seq (by rfl) B.len (by decide +kernel) (pa_cons (pv 0) pa_nil)) (nomark _)) (pe_ix ix_list (pv 0) (pv 1) (fun _ _ => rfl)) pe_int))
    (pss_one (ps_ret (pe_lst (pa_cons (pe_op op_mul (pe_callB call_abs (by rfl) B.abs (by decide +kernel) (pa_cons (pv 2) pa_nil)) (pe_callTy call_int1 (by rfl) B.int (by decide +kernel) (pa_cons (pe_cmpR op_ge (pe_callB call_abs (by rfl) B.abs (by decide +kernel) (pa_cons (pv 2) pa_nil)) (pe_op op_pow pe_int pe_int) (nomark _)) pa_nil))) (pa_cons (pe_op op_add (pv 2) (pe_op op_mul pe_int (pv 1))) (pa_cons pe_int pa_nil))))))), ?_⟩
    have rest : ∀ x : Int, (tRet (tLst (tCons (tOp (rI CMul fun i j => .int (i * j)) (tCB (fun xs H Q => ∃ i, xs = [.int i] ∧ Q (.int (if i < 0 then -i else i)) H) (tCons (tVar 2) tNil)) (tCB (fun xs H Q => (∃ i, xs = [.int i] ∧ Q (.int i) H) ∨ ∃ k, xs = [.bl k] ∧ Q (.int (if k then 1 else 0)) H) (tCons (tOp (rI0 fun i j => .bl (decide (j ≤ i))) (tCB (fun xs H Q => ∃ i, xs = [.int i] ∧ Q (.int (if i < 0 then -i else i)) H) (tCons (tVar 2) tNil)) (tOp (rI CPow fun i j => .int (i ^ j.toNat)) (tC (.int 10)) (tC (.int 18)))) tNil))) (tCons (tOp (rI0 fun i j => .int (i + j)) (tVar 2) (tOp (rI CMul fun i j => .int (i * j)) (tC (.int 1000003)) (tVar 1))) (tCons (tC (.int 0)) tNil))))) { nx := fun _ H' => Q .non H', rt := Q } ((start N__law_left [.ref a, .int k]).set 2 (some (.int x))) H := by
      intro x
      refine ⟨_, rfl, _, rfl, ?_⟩
      refine ⟨_, rfl, _, rfl, ?_⟩
      refine ⟨_, _, rfl, rfl, ⟨by decide, by decide, by decide⟩, ?_⟩
      refine ⟨_, _, rfl, rfl, .inr ⟨_, rfl, ?_⟩⟩
      refine ⟨_, _, rfl, rfl, .inr ⟨?_, ?_⟩, ?_⟩
      · exact (bi _).1
      · exact (bi _).2.1
      refine ⟨_, rfl, _, rfl, _, _, rfl, rfl, .inl ⟨by decide, by decide⟩, ?_⟩
      refine ⟨_, _, rfl, rfl, ?_⟩
      refine ⟨by show 3 ≤ sizeLine; decide, fun p np => ?_⟩
      refine q p _ np (same_new np) ⟨_, _, _, upd_same, ?_, Int.le_refl _, Int.le_refl _⟩
      refine Int.mul_nonneg ?_ ?_
      · split <;> omega
      · exact (bi _).2.2
    refine ⟨_, rfl, _, rfl, a, _, rfl, .inl hS, _, _, rfl, rfl, _, rfl, ite2 (fun e => ?_) (fun e => ?_)⟩
    · have e := of_decide_eq_true e
      rw [List.length_map] at e
      have hk : k.toNat < ns.length := by omega
      have g : (ns.map V.int)[k.toNat]? = some (.int ns[k.toNat]) := by
        rw [List.getElem?_map, List.getElem?_eq_getElem hk]; rfl
      have g2 := atI_nat g
      rw [Int.toNat_of_nonneg h1] at g2
      refine ⟨_, rfl, _, rfl, a, _, k, _, rfl, rfl, hS, g2, ?_⟩
      exact rest _
    · exact rest 0

/-! ### _law_pick -/
abbrev s__law_pick : Stmt := topS 5
abbrev N__law_pick : List Str := ["_law_left_here", "_law_many", "_law_digit"]
theorem sc__law_pick : FnScope N__law_pick ["_law_left_here", "_law_many"] (defScope s__law_pick) := ⟨rfl, rfl, rfl, by decide +kernel, rfl, by decide +kernel, by decide +kernel⟩
def sp_pick : Sp := fun vs H Q _ => ∃ (L : Addr) (m c : Int), vs = [.ref L, .int m] ∧ Lf H L c ∧ 0 < m ∧ m < 1000000 ∧ c < 2 ^ 50 ∧
  ∀ (r : Int) (H' : Hp), 0 ≤ r → r < m → Fr L H H' → Lf H' L (c + 1) → Q (.int r) H'
theorem ok_pick {f : Addr} {fd : FuncData} (F : Fun K "_law_pick" "_law_pick" s__law_pick f fd) (c__law_mix : Cl P w K mg base 1 "_law_mix" sp_mix) :
    FnOk P w K mg base CX0 2 f fd ["_law_left_here", "_law_many"] sp_pick := by
  refine F.ok sc__law_pick (fun vs H Q E h => ?_) (fun cdv A outer s H vs Q E hr h => ?_)
  · obtain ⟨c, k, _, rfl, _⟩ := h; rfl
  · obtain ⟨L, m, c, rfl, ⟨x, y, z, hL, hx, hz, hzc⟩, h1, h2, h3, q⟩ := h
    refine ⟨_, (pss_cons (ps_asg (pe_op op_add (pe_ix ix_list (pv 0) pe_int (fun _ _ => rfl)) pe_int) (pg_sub (pv 0) pe_int set_list))
    (pss_cons (ps_if (pt_cmpR op_gt (pe_ix ix_list (pv 0) pe_int (fun _ _ => rfl)) pe_int (nomark _)) (pss_cons (ps_set (i := 2) sc__law_pick.nd rfl (by first | exact Or.inl rfl | exact Or.inr rfl) (pe_op op_mod (pe_ix ix_list (pv 0) pe_int (fun _ _ => rfl)) (pv 1)))
      (pss_cons (ps_asg (pe_op op_fdiv (pe_ix ix_list (pv 0) pe_int (fun _ _ => rfl)) (pv 1)) (pg_sub (pv 0) pe_int set_list))
      (pss_one (ps_ret (pv 2))))) pss_nil)
    (pss_one (ps_ret (pe_op op_mod (pe_op op_fdiv (pe_c c__law_mix hr (by decide) (by rfl) (pa_cons (pe_c c__law_mix hr (by decide) (by rfl) (pa_cons (pe_ix ix_list (pv 0) pe_int (fun _ _ => rfl)) (pa_cons (pe_ix ix_list (pv 0) pe_int (fun _ _ => rfl)) pa_nil))) (pa_cons (pe_op op_add (pe_ix ix_list (pv 0) pe_int (fun _ _ => rfl)) pe_int) pa_nil))) pe_int) (pv 1)))))), ?_⟩
    refine ⟨_, rfl, L, _, _, _, rfl, rfl, SqL.of hL, rfl, _, _, rfl, rfl, ?_⟩
    refine ⟨_, rfl, L, _, _, _, rfl, rfl, hL, rfl, ?_⟩
    refine ⟨_, rfl, L, _, _, _, rfl, rfl, SqL.of upd_same, rfl, _, _, rfl, rfl, _, rfl, ite2 (fun e => ?_) (fun e => ?_)⟩
    · refine ⟨_, rfl, L, _, _, _, rfl, rfl, SqL.of upd_same, rfl, _, rfl, _, _, rfl, rfl, h1, ?_⟩
      refine ⟨_, rfl, L, _, _, _, rfl, rfl, SqL.of upd_same, rfl, _, rfl, _, _, rfl, rfl, ⟨h1, by omega⟩, ?_⟩
      refine ⟨_, rfl, L, _, _, _, rfl, rfl, upd_same, rfl, ?_⟩
      refine ⟨_, rfl, ?_⟩
      refine q _ _ (Int.emod_nonneg _ (by omega)) (Int.emod_lt_of_pos _ h1) ((Fr.refl L H).putL.putL) ⟨_, _, _, upd_same, ?_, ?_, ?_⟩
      · exact Int.ediv_nonneg hx (Int.le_of_lt h1)
      · omega
      · omega
    · refine ⟨_, rfl, L, _, _, _, rfl, rfl, SqL.of upd_same, rfl, ?_⟩
      refine ⟨_, rfl, L, _, _, _, rfl, rfl, SqL.of upd_same, rfl, ?_⟩
      refine ⟨_, _, rfl, by omega, by omega, fun r hr0 => ?_⟩
      refine ⟨_, rfl, L, _, _, _, rfl, rfl, SqL.of upd_same, rfl, _, _, rfl, rfl, ?_⟩
      refine ⟨_, _, rfl, by omega, by omega, fun r2 hr2 => ?_⟩
      refine ⟨_, _, rfl, rfl, ⟨by decide, by decide⟩, ?_⟩
      refine ⟨_, rfl, _, _, rfl, rfl, h1, ?_⟩
      exact q _ _ (Int.emod_nonneg _ (by omega)) (Int.emod_lt_of_pos _ h1) (Fr.refl L H).putL ⟨_, _, _, upd_same, hx, by omega, by omega⟩
end
end My

set_option Elab.async false
set_option linter.all false
set_option maxRecDepth 100000
namespace My
open PySem PySem.Spec PyProof.Rows L2
section
variable {P : Program} {w : World} {K : PySem.W.Frag} {mg : Str → Option Value} {base : Heap}

/-! ### _law_pairs -/
abbrev s__law_pairs : Stmt := topS 7
abbrev N__law_pairs : List Str := ["_law_many", "_law_found", "_law_a", "_law_b"]
theorem sc__law_pairs : FnScope N__law_pairs ["_law_many"] (defScope s__law_pairs) := ⟨rfl, rfl, rfl, by decide +kernel, rfl, by decide +kernel, by decide +kernel⟩
def sp_pairs : Sp := fun vs H Q _ => ∃ n : Nat, vs = [.int (n : Int)] ∧ n ≤ 100 ∧
  ∀ p vs H', H p = none → Same H H' → H' p = some (.lst vs) → Ties H' vs (pup n n) → Q (.ref p) H'
theorem ok_pairs {f : Addr} {fd : FuncData} (B : Bts mg) (F : Fun K "_law_pairs" "_law_pairs" s__law_pairs f fd) :
    FnOk P w K mg base CX0 1 f fd ["_law_many"] sp_pairs := by
  refine F.ok sc__law_pairs (fun vs H Q E h => ?_) (fun cdv A outer s H vs Q E hr h => ?_)
  · obtain ⟨n, rfl, _⟩ := h; rfl
  · obtain ⟨n, rfl, hn, q⟩ := h
    refine ⟨_, (pss_cons (ps_set (i := 1) sc__law_pairs.nd rfl (by first | exact Or.inl rfl | exact Or.inr rfl) (pe_lst pa_nil))
    (pss_cons (ps_for PassesOwn.never rfl (pi_range1 (by rfl) B.range (pa_cons (pv 0) pa_nil)) (pg_name (i := 2) sc__law_pairs.nd rfl (by first | exact Or.inl rfl | exact Or.inr rfl))
      (pss_one (ps_expr (pe_bm PySem.F.plainAttrs_list PySem.F.slot_list_extend PySem.F.type_list_extend mt_extend (pv 1) (pa_cons (pe_lc (own := [("_law_b", 3)]) (g := (gName 3)) (tt := tYes) rfl sc__law_pairs.nd (pi_range2 (by rfl) B.range (pa_cons (pe_op op_add (pv 2) pe_int) (pa_cons (pv 0) pa_nil))) (blkOk_by (own := [("_law_b", 3)]) (N := N__law_pairs) (sc := defScope s__law_pairs) (by decide +kernel)) (fun _ _ _ _ _ => (pg_name (i := 3) sc__law_pairs.nd rfl (by first | exact Or.inl rfl | exact Or.inr rfl))) (fun _ _ _ _ _ => pts_nil) (fun _ _ _ _ _ => (pe_tup (pa_cons (pv 2) (pa_cons (pv 3) pa_nil))))) pa_nil)))))
    (pss_one (ps_ret (pv 1))))), ?_⟩
    refine ⟨Nat.zero_le _, fun o no => ?_⟩
    refine ⟨_, rfl, _, rfl, by omega, by omega, ?_⟩
    refine for_range (fun i σ H1 => ∃ vs y2 y3, σ = [some (.int (n : Int)), some (.ref o), y2, y3] ∧ Same H H1 ∧ H1 o = some (.lst vs) ∧ Ties H1 vs (pup n i)) ⟨[], none, none, rfl, same_new no, upd_same, trivial⟩ ?_ ?_
    · rintro i σ H1 hi ⟨vs, y2, y3, rfl, sm, eo, hT⟩
      have hi : i < n := by omega
      refine ⟨_, rfl, .inl ⟨rfl, _, SqL.of eo⟩, ?_⟩
      refine ⟨_, rfl, _, _, rfl, rfl, _, rfl, _, _, rfl, ⟨by omega, by omega, by omega, by omega⟩, fun D nD => ?_⟩
      refine lc_range (fun j H2 => ∃ us, Same H1 H2 ∧ H2 D = some (.lst us) ∧ Ties H2 us (prow i j)) ⟨[], same_new nD, upd_same, trivial⟩ ?_ ?_
      · rintro j H2 hj ⟨us, sm2, eD, hU⟩
        refine ⟨rfl, yes ?_⟩
        refine ⟨_, rfl, _, rfl, by show 2 ≤ sizeLine; decide, fun t nt => ?_⟩
        have nDt : D ≠ t := ne_of_none eD nt
        refine ⟨us, by rw [upd_ne nDt]; exact eD, sz' (by rw [hU.len, prow_len]; omega), us ++ [.ref t], ?_, upd_same, ?_⟩
        · exact Same.put (sm2.trans (same_new nt)) nD
        · rw [prow_succ]
          have a1 : Tst (upd H2 t (.tup [.int (0 + (i : Int)), .int (0 + (i : Int) + 1 + (j : Int))])) (upd (upd H2 t (.tup [.int (0 + (i : Int)), .int (0 + (i : Int) + 1 + (j : Int))])) D (.lst (us ++ [.ref t]))) := tst_put (by rw [upd_ne nDt]; exact eD)
          refine ((hU.mono (tst_new nt)).mono a1).app (Ties.one ?_)
          rw [Int.zero_add] at a1 ⊢
          exact Tie.new.mono a1
      · rintro H2 ⟨us, sm2, eD, hU⟩
        have e : ((n : Int) - (0 + (i : Int) + 1)).toNat = n - (i + 1) := by omega
        rw [e] at hU
        have eo2 := sm2 _ _ eo
        have l1 := pup_len' hn (Nat.le_of_lt hi)
        refine ⟨o, D, vs, us, rfl, rfl, eo2, eD, sz (by rw [hT.len, hU.len, prow_len]; omega), ?_⟩
        refine ⟨vs ++ us, _, y3, rfl, Same.put (sm.trans sm2) no, upd_same, ?_⟩
        rw [pup_succ]
        exact ((hT.mono (Same.tst sm2)).app hU).mono (tst_put eo2)
    · rintro σ H1 ⟨vs, y2, y3, rfl, sm, eo, hT⟩
      rw [Int.toNat_natCast] at hT
      exact ⟨_, rfl, q o vs H1 no sm eo hT⟩

/-! ### _law_row -/
abbrev s__law_row : Stmt := topS 9
abbrev N__law_row : List Str := ["_law_left_here", "_law_many", "_law_row_here", "_law_k"]
theorem sc__law_row : FnScope N__law_row ["_law_left_here", "_law_many"] (defScope s__law_row) := ⟨rfl, rfl, rfl, by decide +kernel, rfl, by decide +kernel, by decide +kernel⟩
def sp_row : Sp := fun vs H Q _ => ∃ (L : Addr) (n : Nat) (c : Int), vs = [.ref L, .int (n : Int)] ∧ Lf H L c ∧ n ≤ 100 ∧ c < 2 ^ 49 ∧
  ∀ (p : Addr) (ns : List Int) (H' : Hp), H p = none → Fr L H H' → Lf H' L (c + n) → H' p = some (.lst (ns.map V.int)) → ns.Perm (up n) → Q (.ref p) H'
theorem ok_row {f : Addr} {fd : FuncData} (B : Bts mg) (F : Fun K "_law_row" "_law_row" s__law_row f fd) (c__law_pick : Cl P w K mg base 2 "_law_pick" sp_pick) :
    FnOk P w K mg base CX0 3 f fd ["_law_left_here", "_law_many"] sp_row := by
  refine F.ok sc__law_row (fun vs H Q E h => ?_) (fun cdv A outer s H vs Q E hr h => ?_)
  · obtain ⟨L, n, c, rfl, _⟩ := h; rfl
  · obtain ⟨L, n, c, rfl, hL, hn, hc, q⟩ := h
    refine ⟨_, (pss_cons (ps_set (i := 2) sc__law_row.nd rfl (by first | exact Or.inl rfl | exact Or.inr rfl) (pe_lst pa_nil))
    (pss_cons (ps_for PassesOwn.never rfl (pi_range1 (by rfl) B.range (pa_cons (pv 1) pa_nil)) (pg_name (i := 3) sc__law_row.nd rfl (by first | exact Or.inl rfl | exact Or.inr rfl))
      (pss_one (ps_expr (pe_bm PySem.F.plainAttrs_list PySem.F.slot_list_insert PySem.F.type_list_insert mt_insert (pv 2) (pa_cons (pe_c c__law_pick hr (by decide) (by rfl) (pa_cons (pv 0) (pa_cons (pe_op op_add (pv 3) pe_int) pa_nil))) (pa_cons (pv 3) pa_nil))))))
    (pss_one (ps_ret (pv 2))))), ?_⟩
    refine ⟨Nat.zero_le _, fun o no => ?_⟩
    refine ⟨_, rfl, _, rfl, by omega, by omega, ?_⟩
    refine for_range (fun i σ H1 => ∃ (ns : List Int) (y3 : Option V), σ = [some (.ref L), some (.int (n : Int)), some (.ref o), y3] ∧ Fr L H H1 ∧ Lf H1 L (c + i) ∧ H1 o = some (.lst (ns.map V.int)) ∧ ns.Perm (up i)) ⟨[], none, rfl, Fr.new no, (hL.new no).mono (by omega), upd_same, .refl _⟩ ?_ ?_
    · rintro i σ H1 hi ⟨ns, y3, rfl, fr, lf, eo, hp⟩
      have hi : i < n := by omega
      have no' : o ≠ L := hL.ne no
      refine ⟨_, rfl, .inl ⟨rfl, _, SqL.of eo⟩, ?_⟩
      refine ⟨_, rfl, _, rfl, _, _, rfl, rfl, ?_⟩
      refine ⟨L, _, c + i, rfl, lf, by omega, by omega, by omega, fun r H2 r0 r1 fr2 lf2 => ?_⟩
      refine ⟨_, rfl, ?_⟩
      have eo2 := fr2 _ _ no' eo
      refine ⟨o, _, _, _, rfl, rfl, eo2, sz' ?_, r0, by omega, ?_⟩
      · rw [List.length_map, hp.length_eq, up_len]; omega
      · refine ⟨ns.take r.toNat ++ [(i : Int)] ++ ns.drop r.toNat, _, rfl, ?_, ?_, ?_, ?_⟩
        · exact (fr.trans fr2).put no
        · exact (lf2.mono (by omega)).put no'
        · rw [upd_same, List.map_append, List.map_append, List.map_take, List.map_drop, Int.zero_add]; rfl
        · rw [up_succ]
          exact (ins_perm _ _ _).trans (hp.append_right _)
    · rintro σ H1 ⟨ns, y3, rfl, fr, lf, eo, hp⟩
      rw [Int.toNat_natCast] at lf hp
      exact ⟨_, rfl, q o ns H1 no fr lf eo hp⟩
end
end My

set_option Elab.async false
set_option linter.all false
set_option maxRecDepth 100000
namespace My
open PySem PySem.Spec PyProof.Rows L2
section
variable {P : Program} {w : World} {K : PySem.W.Frag} {mg : Str → Option Value} {base : Heap}

def sp_gen : Sp := fun vs H Q _ => ∃ (L : Addr) (n : Nat) (c : Int), vs = [.ref L, .int (n : Int)] ∧ Lf H L c ∧ n ≤ 12 ∧ c < 2 ^ 48 ∧
  ∀ (v : V) (H' : Hp) (ts : List (Int × Int)), Fr L H H' → Lf H' L (c + 100000) → Web H' v n ts → WOk n ts → Q v H'

/-! ### _law_any_web -/
abbrev s__law_any_web : Stmt := topS 8
abbrev N__law_any_web : List Str := ["_law_left_here", "_law_many", "_law_often", "_law_tie"]
theorem sc__law_any_web : FnScope N__law_any_web ["_law_left_here", "_law_many"] (defScope s__law_any_web) := ⟨rfl, rfl, rfl, by decide +kernel, rfl, by decide +kernel, by decide +kernel⟩
theorem often4 {r : Int} (h0 : 0 ≤ r) (h1 : r < 4) : ∃ o : Int, atI [V.int 2, V.int 3, V.int 5, V.int 8] r = some (.int o) ∧ 0 < o ∧ o < 100 := by
  have : r = 0 ∨ r = 1 ∨ r = 2 ∨ r = 3 := by omega
  rcases this with rfl | rfl | rfl | rfl
  · exact ⟨2, rfl, by decide, by decide⟩
  · exact ⟨3, rfl, by decide, by decide⟩
  · exact ⟨5, rfl, by decide, by decide⟩
  · exact ⟨8, rfl, by decide, by decide⟩
theorem ok_any_web {f : Addr} {fd : FuncData} (B : Bts mg) (F : Fun K "_law_any_web" "_law_any_web" s__law_any_web f fd) (c__law_pick : Cl P w K mg base 2 "_law_pick" sp_pick) (c__law_pairs : Cl P w K mg base 1 "_law_pairs" sp_pairs) :
    FnOk P w K mg base CX0 3 f fd ["_law_left_here", "_law_many"] sp_gen := by
  refine F.ok sc__law_any_web (fun vs H Q E h => ?_) (fun cdv A outer s H vs Q E hr h => ?_)
  · obtain ⟨L, n, c, rfl, _⟩ := h; rfl
  · obtain ⟨L, n, c, rfl, hL, hn, hc, q⟩ := h
    refine ⟨_, (pss_cons (ps_set (i := 2) sc__law_any_web.nd rfl (by first | exact Or.inl rfl | exact Or.inr rfl) (pe_ix ix_list (pe_lst (pa_cons pe_int (pa_cons pe_int (pa_cons pe_int (pa_cons pe_int pa_nil))))) (pe_c c__law_pick hr (by decide) (by rfl) (pa_cons (pv 0) (pa_cons pe_int pa_nil))) (fun _ _ => rfl)))
    (pss_one (ps_ret (pe_tup (pa_cons (pv 1) (pa_cons (pe_callTy call_tuple_of (by rfl) B.tuple (by decide +kernel) (pa_cons (pe_lc (own := [("_law_tie", 3)]) (g := (gName 3)) rfl sc__law_any_web.nd (pi_list (pe_c c__law_pairs hr (by decide) (by rfl) (pa_cons (pv 1) pa_nil))) (blkOk_by (own := [("_law_tie", 3)]) (N := N__law_any_web) (sc := defScope s__law_any_web) (by decide +kernel)) (fun _ _ _ _ _ => (pg_name (i := 3) sc__law_any_web.nd rfl (by first | exact Or.inl rfl | exact Or.inr rfl))) (fun _ _ _ _ _ => (pts_one (pt_cmpR op_eq (pe_cmpR op_eq (pe_c c__law_pick hr (by decide) (by rfl) (pa_cons (pv 0) (pa_cons (pv 2) pa_nil))) pe_int (nomark _)) (pe_cmpR op_lt (pv 2) pe_int (nomark _)) (nomark _)))) (fun _ _ _ _ _ => (pv 3))) pa_nil)) pa_nil)))))), ?_⟩
    refine ⟨by show 4 ≤ sizeLine; decide, fun o no => ?_⟩
    refine ⟨_, rfl, L, _, c, rfl, hL.new no, by decide, by decide, by omega, fun r H1 r0 r1 fr1 lf1 => ?_⟩
    obtain ⟨oft, e1, o1, o2⟩ := often4 r0 r1
    have eo : H1 o = some (.lst [V.int 2, V.int 3, V.int 5, V.int 8]) := fr1 _ _ (hL.ne no) upd_same
    refine ⟨o, _, _, _, rfl, rfl, SqL.of eo, e1, ?_⟩
    have frA : Fr L H H1 := (Fr.new no).trans fr1
    refine ⟨_, rfl, ?_⟩
    refine ⟨_, rfl, n, rfl, by omega, fun p vs H2 np sm2 ep hT => ?_⟩
    refine ⟨p, rfl, ⟨_, SqL.of ep⟩, fun D nD => ?_⟩
    have lf2 := lf1.same sm2
    have npL : p ≠ L := lf1.ne np
    have nDL : D ≠ L := lf2.ne nD
    refine lc_list (K := K) (a := p) (xs := vs) (fun i H3 => ∃ us sub, Fr L H2 H3 ∧ Lf H3 L (c + 1 + i) ∧ H3 D = some (.lst us) ∧ Ties H3 us sub ∧ sub.Sublist ((pup n n).take i)) ⟨[], [], Fr.new nD, (lf2.new nD).mono (by omega), upd_same, trivial, List.nil_sublist _⟩ ?_ ?_ ?_
    · rintro i H3 hi ⟨us, sub, fr3, lf3, eD, hU, hs⟩
      exact SqL.of (fr3 _ _ npL ep)
    · rintro i x H3 hx ⟨us, sub, fr3, lf3, eD, hU, hs⟩
      obtain ⟨t, ht, hxt⟩ := hT.at hx
      have hi : i < vs.length := (List.getElem?_eq_some_iff.mp hx).1
      have l1 := pup_len' (n := n) (i := n) (by omega) (Nat.le_refl n)
      have l2 := hT.len
      have tk : (pup n n).take (i + 1) = (pup n n).take i ++ [t] := by rw [List.take_add_one, ht]; rfl
      refine ⟨rfl, ?_⟩
      refine ⟨_, rfl, _, rfl, ?_⟩
      refine ⟨L, _, c + 1 + i, rfl, lf3, by omega, by omega, by omega, fun r H4 r0 r1 fr4 lf4 => ?_⟩
      have eD4 := fr4 _ _ nDL eD
      have a4 : Tst H3 H4 := lf3.tst fr4
      refine ⟨rfl, _, rfl, _, _, rfl, rfl, rfl, _, rfl, ite2 (fun e => ?_) (fun e => ?_)⟩
      · refine ⟨x, rfl, us, eD4, sz' (by rw [hU.len]; have := hs.length_le; rw [List.length_take] at this; omega), us ++ [x], sub ++ [t], ?_, ?_, upd_same, ?_, ?_⟩
        · exact (fr3.trans fr4).put nD
        · exact (lf4.mono (by omega)).put nDL
        · refine Ties.mono (tst_put eD4) ((hU.mono a4).app (Ties.one ?_))
          exact (hxt.mono (lf2.tst fr3)).mono a4
        · rw [tk]; exact hs.append (List.Sublist.refl _)
      · refine ⟨us, sub, fr3.trans fr4, lf4.mono (by omega), eD4, hU.mono a4, ?_⟩
        rw [tk]; exact hs.trans (List.sublist_append_left _ _)
    · rintro H3 ⟨us, sub, fr3, lf3, eD, hU, hs⟩
      have l1 := pup_len' (n := n) (i := n) (by omega) (Nat.le_refl n)
      have l2 := hT.len
      refine ⟨D, us, rfl, .inl ⟨SqL.of eD, fun t nt => ?_⟩⟩
      refine ⟨by show 2 ≤ sizeLine; decide, fun u nu => ?_⟩
      refine q _ _ sub ?_ ?_ ⟨u, t, us, rfl, upd_same, ?_, ?_⟩ ?_
      · exact (frA.trans ((Fr.of sm2).trans fr3)).trans ((Fr.new nt).trans (Fr.new nu))
      · exact ((lf3.mono (by omega)).new nt).new nu
      · rw [upd_ne (ne_of_none upd_same nu)]; exact upd_same
      · exact (hU.mono (tst_new nt)).mono (tst_new nu)
      · exact wok_sub (hs.trans (List.take_sublist _ _))
end
end My

set_option Elab.async false
set_option linter.all false
set_option maxRecDepth 100000
namespace My
open PySem PySem.Spec PyProof.Rows L2
section
variable {P : Program} {w : World} {K : PySem.W.Frag} {mg : Str → Option Value} {base : Heap}

/-- rows of all places, each a list of its own, none of them at one of two places -/
def Rws (H : Hp) (n : Nat) (L D : Addr) (vs : List V) : Prop :=
  ∀ v ∈ vs, ∃ (p : Addr) (ns : List Int), v = .ref p ∧ p ≠ L ∧ p ≠ D ∧ H p = some (.lst (ns.map V.int)) ∧ ns.Perm (up n)

/-! ### _law_row_web -/
abbrev s__law_row_web : Stmt := topS 10
abbrev N__law_row_web : List Str := ["_law_left_here", "_law_many", "_law_rows", "_law_k", "_law_ties", "_law_a", "_law_b", "_law_ahead", "_law_row_here"]
theorem sc__law_row_web : FnScope N__law_row_web ["_law_left_here", "_law_many"] (defScope s__law_row_web) := ⟨rfl, rfl, rfl, by decide +kernel, rfl, by decide +kernel, by decide +kernel⟩
theorem ok_row_web {f : Addr} {fd : FuncData} (B : Bts mg) (F : Fun K "_law_row_web" "_law_row_web" s__law_row_web f fd) (c__law_pick : Cl P w K mg base 2 "_law_pick" sp_pick) (c__law_row : Cl P w K mg base 3 "_law_row" sp_row) :
    FnOk P w K mg base CX0 4 f fd ["_law_left_here", "_law_many"] sp_gen := by
  refine F.ok sc__law_row_web (fun vs H Q E h => ?_) (fun cdv A outer s H vs Q E hr h => ?_)
  · obtain ⟨L, n, c, rfl, _⟩ := h; rfl
  · obtain ⟨L, n, c, rfl, hL, hn, hc, q⟩ := h
    refine ⟨_, (pss_cons (ps_setLc (i := 2) (own := [("_law_k", 3)]) (g := (gName 3)) (tt := tYes) rfl sc__law_row_web.nd rfl rfl (sw_true rfl rfl rfl (by decide +kernel)) (pi_range1 (by rfl) B.range (pa_cons (pe_op op_add pe_int (pe_c c__law_pick hr (by decide) (by rfl) (pa_cons (pv 0) (pa_cons pe_int pa_nil)))) pa_nil)) (blkOk_by (own := [("_law_k", 3)]) (N := N__law_row_web) (sc := defScope s__law_row_web) (by decide +kernel)) (fun _ _ _ _ _ => (pg_name (i := 3) sc__law_row_web.nd rfl (by first | exact Or.inl rfl | exact Or.inr rfl))) (fun _ _ _ _ _ => pts_nil) (fun _ _ _ _ _ => (pe_c c__law_row hr (by decide) (by rfl) (pa_cons (pv 0) (pa_cons (pv 1) pa_nil)))))
    (pss_cons (ps_set (i := 4) sc__law_row_web.nd rfl (by first | exact Or.inl rfl | exact Or.inr rfl) (pe_lst pa_nil))
    (pss_cons (ps_for PassesOwn.never rfl (pi_range1 (by rfl) B.range (pa_cons (pv 1) pa_nil)) (pg_name (i := 5) sc__law_row_web.nd rfl (by first | exact Or.inl rfl | exact Or.inr rfl))
      (pss_one (ps_for PassesOwn.never rfl (pi_range2 (by rfl) B.range (pa_cons (pe_op op_add (pv 5) pe_int) (pa_cons (pv 1) pa_nil))) (pg_name (i := 6) sc__law_row_web.nd rfl (by first | exact Or.inl rfl | exact Or.inr rfl))
        (pss_cons (ps_setLc (i := 7) (own := [("_law_row_here", 8)]) (g := (gName 8)) (tt := tYes) (te := (tOp _ (tBM K "list" (rIndex K) _ _) (tBM K "list" (rIndex K) _ _))) rfl sc__law_row_web.nd rfl rfl (sw_true rfl rfl rfl (by decide +kernel)) (pi_list (pv 2)) (blkOk_by (own := [("_law_row_here", 8)]) (N := N__law_row_web) (sc := defScope s__law_row_web) (by decide +kernel)) (fun _ _ _ _ _ => (pg_name (i := 8) sc__law_row_web.nd rfl (by first | exact Or.inl rfl | exact Or.inr rfl))) (fun _ _ _ _ _ => pts_nil) (fun _ _ _ _ _ => (pe_cmpR op_lt (pe_bm PySem.F.plainAttrs_list PySem.F.slot_list_index PySem.F.type_list_index mt_index (pv 8) (pa_cons (pv 5) pa_nil)) (pe_bm PySem.F.plainAttrs_list PySem.F.slot_list_index PySem.F.type_list_index mt_index (pv 8) (pa_cons (pv 6) pa_nil)) (nomark _))))
        (pss_one (ps_if (PW.pt (pw_or (pt_val (pe_callB (cr_all rfl) (by rfl) B.all (by decide +kernel) (pa_cons (pv 7) pa_nil))) (pw_or1 (pt_not (pt_val (pe_callB (cr_any rfl) (by rfl) B.any (by decide +kernel) (pa_cons (pv 7) pa_nil))))))) (pss_one (ps_expr (pe_bm PySem.F.plainAttrs_list PySem.F.slot_list_append PySem.F.type_list_append mt_append (pv 4) (pa_cons (pe_tup (pa_cons (pv 5) (pa_cons (pv 6) pa_nil))) pa_nil)))) pss_nil))))))
    (pss_one (ps_ret (pe_tup (pa_cons (pv 1) (pa_cons (pe_callTy call_tuple_of (by rfl) B.tuple (by decide +kernel) (pa_cons (pv 4) pa_nil)) pa_nil)))))))), ?_⟩
    refine ⟨_, rfl, L, _, c, rfl, hL, by decide, by decide, by omega, fun r H1 r0 r1 fr1 lf1 => ?_⟩
    refine ⟨_, _, rfl, rfl, _, rfl, by omega, by omega, fun D nD => ?_⟩
    have nDL : D ≠ L := lf1.ne nD
    refine lc_range (fun i H2 => ∃ vs, Fr L H1 H2 ∧ Lf H2 L (c + 1 + 12 * i) ∧ H2 D = some (.lst vs) ∧ vs.length = i ∧ Rws H2 n L D vs) ⟨[], Fr.new nD, (lf1.new nD).mono (by omega), upd_same, rfl, fun v hv => by cases hv⟩ ?_ ?_
    · rintro i H2 hi ⟨vs, fr2, lf2, eD, hl, hR⟩
      refine ⟨rfl, yes ?_⟩
      refine ⟨_, rfl, _, rfl, ?_⟩
      refine ⟨L, n, _, rfl, lf2, by omega, by omega, fun p ns H3 np fr3 lf3 ep hp => ?_⟩
      have eD3 := fr3 _ _ nDL eD
      refine ⟨vs, eD3, sz' (by omega), vs ++ [.ref p], (fr2.trans fr3).put nD, (lf3.mono (by omega)).put nDL, upd_same, by rw [List.length_append, hl]; rfl, ?_⟩
      intro v hv
      rcases List.mem_append.mp hv with hv | hv
      · obtain ⟨p', ns', e, h1, h2, h3, h4⟩ := hR v hv
        exact ⟨p', ns', e, h1, h2, by rw [upd_ne h2]; exact fr3 _ _ h1 h3, h4⟩
      · rw [List.mem_singleton] at hv
        have npD : p ≠ D := fun e => by rw [e, eD] at np; cases np
        exact ⟨p, ns, hv, lf2.ne np, npD, by rw [upd_ne npD]; exact ep, hp⟩
    · rintro H2 ⟨rows, fr2, lf2, eD, hl, hR⟩
      have lf2' : Lf H2 L (c + 1000) := lf2.mono (by omega)
      have frA : Fr L H H2 := fr1.trans fr2
      refine ⟨Nat.zero_le _, fun o no => ?_⟩
      refine ⟨_, rfl, _, rfl, by omega, by omega, ?_⟩
      refine for_range (fun i σ H3 => ∃ (vs : List V) (sub : List (Int × Int)) (y3 y5 y6 y7 y8 : Option V), σ = [some (.ref L), some (.int (n : Int)), some (.ref D), y3, some (.ref o), y5, y6, y7, y8] ∧ Same H2 H3 ∧ H3 o = some (.lst vs) ∧ Ties H3 vs sub ∧ sub.Sublist (pup n i))
        ⟨[], [], none, none, none, none, none, rfl, same_new no, upd_same, trivial, List.nil_sublist _⟩ ?_ ?_
      · rintro i σ H3 hi ⟨vs, sub, y3, y5, y6, y7, y8, rfl, sm3, eo, hT, hS⟩
        have hi : i < n := by omega
        refine ⟨_, rfl, _, _, rfl, rfl, _, rfl, _, _, rfl, ⟨by omega, by omega, by omega, by omega⟩, ?_⟩
        refine for_range (fun j σ H4 => ∃ (vs : List V) (sub : List (Int × Int)) (y3 y6 y7 y8 : Option V), σ = [some (.ref L), some (.int (n : Int)), some (.ref D), y3, some (.ref o), some (.int (i : Int)), y6, y7, y8] ∧ Same H2 H4 ∧ H4 o = some (.lst vs) ∧ Ties H4 vs sub ∧ sub.Sublist (pup n i ++ prow i j))
          ⟨vs, sub, y3, y6, y7, y8, by rw [Int.zero_add]; rfl, sm3, eo, hT, by exact (List.append_nil (pup n i)).symm ▸ hS⟩ ?_ ?_
        · rintro j σ H4 hj ⟨vs, sub, y3, y6, y7, y8, rfl, sm4, eo4, hT4, hS4⟩
          have hj : j < n - (i + 1) := by omega
          refine ⟨_, rfl, D, rfl, ⟨_, SqL.of (sm4 _ _ eD)⟩, fun D2 nD2 => ?_⟩
          refine lc_list (K := K) (a := D) (xs := rows) (fun m H5 => ∃ bs : List Bool, Same H4 H5 ∧ H5 D2 = some (.lst (bs.map V.bl)) ∧ bs.length = m) ⟨[], same_new nD2, upd_same, rfl⟩ ?_ ?_ ?_
          · rintro m H5 _ ⟨bs, sm5, _⟩
            exact SqL.of (sm5 _ _ (sm4 _ _ eD))
          · rintro m x H5 hx ⟨bs, sm5, eD2, hb⟩
            have hm : m < rows.length := (List.getElem?_eq_some_iff.mp hx).1
            have hxm : x ∈ rows := List.mem_of_getElem? hx
            obtain ⟨p, ns, rfl, h1, h2, h3, h4⟩ := hR x hxm
            have ep := sm5 _ _ (sm4 _ _ h3)
            have ha : (i : Int) ∈ ns := h4.mem_iff.mpr (mem_up.mpr ⟨by omega, by omega⟩)
            have hb2 : (0 + (i : Int) + 1 + (j : Int)) ∈ ns := h4.mem_iff.mpr (mem_up.mpr ⟨by omega, by omega⟩)
            refine ⟨rfl, yes ?_⟩
            refine ⟨_, rfl, .inl ⟨rfl, _, SqL.of ep⟩, _, rfl, ?_⟩
            refine ⟨p, _, _, _, _, rfl, rfl, SqL.of ep, rfl, all_flat ns, idx_at ha, by simp [eqV], idx_first, ?_⟩
            refine ⟨_, rfl, .inl ⟨rfl, _, SqL.of ep⟩, _, rfl, ?_⟩
            refine ⟨p, _, _, _, _, rfl, rfl, SqL.of ep, rfl, all_flat ns, idx_at hb2, by simp [eqV], idx_first, ?_⟩
            refine ⟨_, _, rfl, rfl, ?_⟩
            refine ⟨_, eD2, sz' (by rw [List.length_map, hb]; omega), bs ++ [decide (((ns.idxOf (i : Int) : Nat) : Int) < ((ns.idxOf (0 + (i : Int) + 1 + (j : Int)) : Nat) : Int))], Same.put sm5 nD2, ?_, by rw [List.length_append, hb]; rfl⟩
            rw [upd_same, List.map_append]; rfl
          · rintro H5 ⟨bs, sm5, eD2, hb⟩
            have eo5 := sm5 _ _ eo4
            have sm25 : Same H2 H5 := sm4.trans sm5
            have skip : ∃ (vs : List V) (sub : List (Int × Int)) (z3 z6 z7 z8 : Option V), ((([some (V.ref L), some (.int (n : Int)), some (.ref D), y3, some (.ref o), some (.int (i : Int)), y6, y7, y8]).set 6 (some (.int (0 + (i : Int) + 1 + (j : Int))))).set 7 (some (.ref D2))) = [some (.ref L), some (.int (n : Int)), some (.ref D), z3, some (.ref o), some (.int (i : Int)), z6, z7, z8] ∧ Same H2 H5 ∧ H5 o = some (.lst vs) ∧ Ties H5 vs sub ∧ sub.Sublist (pup n i ++ prow i (j + 1)) :=
              ⟨vs, sub, y3, _, _, y8, rfl, sm25, eo5, hT4.mono (Same.tst sm5), by
                rw [prow_succ, ← List.append_assoc]; exact hS4.trans (List.sublist_append_left _ _)⟩
            have l1 := pup_len' (n := n) (i := i) (by omega) (by omega)
            have l2 := hS4.length_le
            rw [List.length_append, prow_len] at l2
            have take : tDrop (tBM K "list" rAppend (tVar 4) (tCons (tTup (tCons (tVar 5) (tCons (tVar 6) tNil))) tNil)) { nx := fun σ H5 => ∃ (vs : List V) (sub : List (Int × Int)) (y3 y6 y7 y8 : Option V), σ = [some (.ref L), some (.int (n : Int)), some (.ref D), y3, some (.ref o), some (.int (i : Int)), y6, y7, y8] ∧ Same H2 H5 ∧ H5 o = some (.lst vs) ∧ Ties H5 vs sub ∧ sub.Sublist (pup n i ++ prow i (j + 1)), rt := Q } ((([some (V.ref L), some (.int (n : Int)), some (.ref D), y3, some (.ref o), some (.int (i : Int)), y6, y7, y8]).set 6 (some (.int (0 + (i : Int) + 1 + (j : Int))))).set 7 (some (.ref D2))) H5 := by
              refine ⟨_, rfl, .inl ⟨rfl, _, SqL.of eo5⟩, ?_⟩
              refine ⟨_, rfl, _, rfl, by show 2 ≤ sizeLine; decide, fun t nt => ?_⟩
              have eo6 : (upd H5 t (.tup [.int (i : Int), .int (0 + (i : Int) + 1 + (j : Int))])) o = some (.lst vs) := by
                rw [upd_ne (ne_of_none eo5 nt)]; exact eo5
              refine ⟨o, _, _, rfl, rfl, eo6, sz' (by rw [hT4.len]; omega), ?_⟩
              refine ⟨vs ++ [.ref t], sub ++ [((i : Int), (i : Int) + 1 + (j : Int))], y3, _, _, y8, rfl, Same.put (sm25.trans (same_new nt)) no, upd_same, ?_, ?_⟩
              · have a5 := Same.tst sm5
                refine Ties.mono (tst_put eo6) (((hT4.mono a5).mono (tst_new nt)).app (Ties.one ?_))
                rw [Int.zero_add]
                exact Tie.new
              · rw [prow_succ, ← List.append_assoc]; exact hS4.append (List.Sublist.refl _)
            refine ⟨_, rfl, D2, bs, rfl, SqL.of eD2, _, rfl, ite2 (fun e => ?_) (fun e => ?_)⟩
            · exact iteT take
            · refine ⟨_, rfl, D2, bs, rfl, SqL.of eD2, _, rfl, ite2 (fun e => ?_) (fun e => ?_)⟩
              · exact take
              · exact skip
        · rintro σ H4 ⟨vs, sub, y3, y6, y7, y8, rfl, sm4, eo4, hT4, hS4⟩
          have e : ((n : Int) - (0 + (i : Int) + 1)).toNat = n - (i + 1) := by omega
          rw [e, ← pup_succ] at hS4
          exact ⟨vs, sub, y3, _, y6, y7, y8, rfl, sm4, eo4, hT4, hS4⟩
      · rintro σ H3 ⟨vs, sub, y3, y5, y6, y7, y8, rfl, sm3, eo, hT, hS⟩
        rw [Int.toNat_natCast] at hS
        refine ⟨_, rfl, _, rfl, o, vs, rfl, .inl ⟨SqL.of eo, fun t nt => ?_⟩⟩
        refine ⟨by show 2 ≤ sizeLine; decide, fun u nu => ?_⟩
        refine q _ _ sub ?_ ?_ ⟨u, t, vs, rfl, upd_same, ?_, ?_⟩ (wok_sub hS)
        · exact (frA.trans (Fr.of sm3)).trans ((Fr.new nt).trans (Fr.new nu))
        · exact ((((lf2'.same sm3)).mono (by omega)).new nt).new nu
        · rw [upd_ne (ne_of_none upd_same nu)]; exact upd_same
        · exact (hT.mono (tst_new nt)).mono (tst_new nu)
end
end My

set_option Elab.async false
set_option linter.all false
set_option maxRecDepth 100000
namespace My
open PySem PySem.Spec PyProof.Rows L2
section
variable {P : Program} {w : World} {K : PySem.W.Frag} {mg : Str → Option Value} {base : Heap}

/-! ### _law_ring_web -/
abbrev s__law_ring_web : Stmt := topS 11
abbrev N__law_ring_web : List Str := ["_law_left_here", "_law_many", "_law_row_here", "_law_ties", "_law_k", "_law_tie"]
theorem sc__law_ring_web : FnScope N__law_ring_web ["_law_left_here", "_law_many"] (defScope s__law_ring_web) := ⟨rfl, rfl, rfl, by decide +kernel, rfl, by decide +kernel, by decide +kernel⟩
theorem ok_ring_web {f : Addr} {fd : FuncData} (B : Bts mg) (F : Fun K "_law_ring_web" "_law_ring_web" s__law_ring_web f fd) (c__law_pick : Cl P w K mg base 2 "_law_pick" sp_pick) (c__law_row : Cl P w K mg base 3 "_law_row" sp_row) (c__law_pairs : Cl P w K mg base 1 "_law_pairs" sp_pairs) :
    FnOk P w K mg base CX0 4 f fd ["_law_left_here", "_law_many"] sp_gen := by
  refine F.ok sc__law_ring_web (fun vs H Q E h => ?_) (fun cdv A outer s H vs Q E hr h => ?_)
  · obtain ⟨L, n, c, rfl, _⟩ := h; rfl
  · obtain ⟨L, n, c, rfl, hL, hn, hc, q⟩ := h
    refine ⟨_, (pss_cons (ps_set (i := 2) sc__law_ring_web.nd rfl (by first | exact Or.inl rfl | exact Or.inr rfl) (pe_c c__law_row hr (by decide) (by rfl) (pa_cons (pv 0) (pa_cons (pv 1) pa_nil))))
    (pss_cons (ps_set (i := 3) sc__law_ring_web.nd rfl (by first | exact Or.inl rfl | exact Or.inr rfl) (pe_callB cr_sortedPO (by rfl) B.sorted (by decide +kernel) (pa_cons (pe_lc (own := [("_law_k", 4)]) (g := (gName 4)) (tt := tYes) (te := (tCB (rTupK K) (tCons (tCB (rSortedI K) (tCons (tLst (tCons (tOp (rIxL K) _ _) (tCons (tOp (rIxL K) _ _) tNil))) tNil)) tNil))) rfl sc__law_ring_web.nd (pi_range1 (by rfl) B.range (pa_cons (pv 1) pa_nil)) (blkOk_by (own := [("_law_k", 4)]) (N := N__law_ring_web) (sc := defScope s__law_ring_web) (by decide +kernel)) (fun _ _ _ _ _ => (pg_name (i := 4) sc__law_ring_web.nd rfl (by first | exact Or.inl rfl | exact Or.inr rfl))) (fun _ _ _ _ _ => pts_nil) (fun _ _ _ _ _ => (pe_callTy call_tuple_of (by rfl) B.tuple (by decide +kernel) (pa_cons (pe_callB cr_sortedI (by rfl) B.sorted (by decide +kernel) (pa_cons (pe_lst (pa_cons (pe_ix ix_list (pv 2) (pe_op op_sub (pv 4) pe_int) (fun _ _ => rfl)) (pa_cons (pe_ix ix_list (pv 2) (pv 4) (fun _ _ => rfl)) pa_nil))) pa_nil)) pa_nil)))) pa_nil)))
    (pss_cons (ps_if (PW.pt (pw_or (pt_cmpR op_lt (pv 1) pe_int (nomark _)) (pw_or1 (pt_cmpR op_gt (pe_c c__law_pick hr (by decide) (by rfl) (pa_cons (pv 0) (pa_cons pe_int pa_nil))) pe_int (nomark _))))) (pss_one (ps_ret (pe_tup (pa_cons (pv 1) (pa_cons (pe_callTy call_tuple_of (by rfl) B.tuple (by decide +kernel) (pa_cons (pe_callB (cr_sortedT rfl) (by rfl) B.sorted (by decide +kernel) (pa_cons (pe_callTy (cr_setOfT rfl hr.units) (by rfl) B.set (by decide +kernel) (pa_cons (pe_lc (own := [("_law_tie", 5)]) (g := (gName 5)) (tt := (tTest (tOp _ (tOp (rIxT K) _ _) (tOp (rIxT K) _ _)))) rfl sc__law_ring_web.nd (pi_list (pv 3)) (blkOk_by (own := [("_law_tie", 5)]) (N := N__law_ring_web) (sc := defScope s__law_ring_web) (by decide +kernel)) (fun _ _ _ _ _ => (pg_name (i := 5) sc__law_ring_web.nd rfl (by first | exact Or.inl rfl | exact Or.inr rfl))) (fun _ _ _ _ _ => (pts_one (pt_cmpR op_lt (pe_ix ix_tup (pv 5) pe_int (fun _ _ => rfl)) (pe_ix ix_tup (pv 5) pe_int (fun _ _ => rfl)) (nomark _)))) (fun _ _ _ _ _ => (pv 5))) pa_nil)) pa_nil)) pa_nil)) pa_nil))))) pss_nil)
    (pss_one (ps_ret (pe_tup (pa_cons (pv 1) (pa_cons (pe_callTy call_tuple_of (by rfl) B.tuple (by decide +kernel) (pa_cons (pe_lc (own := [("_law_tie", 5)]) (g := (gName 5)) (tt := (tTest (tOp (rNotInD K) _ _))) rfl sc__law_ring_web.nd (pi_list (pe_c c__law_pairs hr (by decide) (by rfl) (pa_cons (pv 1) pa_nil))) (blkOk_by (own := [("_law_tie", 5)]) (N := N__law_ring_web) (sc := defScope s__law_ring_web) (by decide +kernel)) (fun _ _ _ _ _ => (pg_name (i := 5) sc__law_ring_web.nd rfl (by first | exact Or.inl rfl | exact Or.inr rfl))) (fun _ _ _ _ _ => (pts_one (pt_cmpR (op_notInD (u65 hr)) (pv 5) (pv 3) (by rfl)))) (fun _ _ _ _ _ => (pv 5))) pa_nil)) pa_nil)))))))), ?_⟩
    refine ⟨_, rfl, _, rfl, L, n, c, rfl, hL, by omega, by omega, fun rw ns H1 nrw fr1 lf1 erw hp => ?_⟩
    have hnl : ns.length = n := by rw [hp.length_eq, up_len]
    refine ⟨_, rfl, _, rfl, by omega, by omega, fun D nD => ?_⟩
    refine lc_range (fun i H2 => ∃ us ts, Same H1 H2 ∧ H2 D = some (.lst us) ∧ Ties H2 us ts ∧ ts.length = i ∧ ∀ t ∈ ts, 0 ≤ t.1 ∧ t.1 ≤ t.2 ∧ t.2 < (n : Int)) ⟨[], [], same_new nD, upd_same, trivial, rfl, fun _ h => by cases h⟩ ?_ ?_
    · rintro i H2 hi ⟨us, ts, sm2, eD, hT, hl, hb⟩
      have hi : i < n := by omega
      have er2 := sm2 _ _ erw
      obtain ⟨x, ex, mx⟩ := at_mem (ns := ns) (j := 0 + (i : Int) - 1) (by omega) (by omega)
      obtain ⟨y, ey, my⟩ := at_mem (ns := ns) (j := 0 + (i : Int)) (by omega) (by omega)
      have bx := mem_up.mp (hp.mem_iff.mp mx)
      have bY := mem_up.mp (hp.mem_iff.mp my)
      refine ⟨rfl, yes ?_⟩
      refine ⟨_, rfl, _, rfl, _, _, rfl, rfl, rw, _, _, _, rfl, rfl, SqL.of er2, ex, ?_⟩
      refine ⟨_, rfl, _, rfl, rw, _, _, _, rfl, rfl, SqL.of er2, ey, ?_⟩
      refine ⟨by show 2 ≤ sizeLine; decide, fun l nl => ?_⟩
      refine ⟨l, [x, y], rfl, SqL.of upd_same, fun ns' p2 pm srt np2 => ?_⟩
      have e2 := perm2 pm srt
      subst e2
      refine ⟨p2, _, rfl, .inl ⟨SqL.of upd_same, fun t nt => ?_⟩⟩
      have s1 : Same H2 (upd H2 l (.lst [.int x, .int y])) := same_new nl
      have s2 := s1.trans (same_new (o := .lst (([if x ≤ y then x else y, if x ≤ y then y else x]).map V.int)) np2)
      have s3 := s2.trans (same_new (o := .tup (([if x ≤ y then x else y, if x ≤ y then y else x]).map V.int)) nt)
      refine ⟨us, s3 _ _ eD, sz' (by rw [hT.len]; omega), us ++ [.ref t], ts ++ [(if x ≤ y then x else y, if x ≤ y then y else x)], ?_, upd_same, ?_, by rw [List.length_append, hl]; rfl, ?_⟩
      · exact Same.put (sm2.trans s3) nD
      · refine Ties.mono (tst_put (s3 _ _ eD)) ((hT.mono (Same.tst s3)).app (Ties.one ?_))
        exact Tie.new
      · intro t' ht'
        rcases List.mem_append.mp ht' with h | h
        · exact hb t' h
        · rw [List.mem_singleton.mp h]
          dsimp only
          split <;> omega
    · rintro H2 ⟨us, ts, sm2, eD, hT, hl, hb⟩
      rw [Int.toNat_natCast] at hl
      refine ⟨D, us, My.key H2, rfl, SqL.of eD, hT.all, fun ys p hs hst np => ?_⟩
      obtain ⟨ts', hT', pm', _⟩ := srt_ties hs hst.perm hT
      have s3 : Same H2 (upd H2 p (.lst ys)) := same_new np
      have hT3 := hT'.mono (Same.tst s3)
      have ep : (upd H2 p (.lst ys)) p = some (.lst ys) := upd_same
      have hb' : ∀ t ∈ ts', 0 ≤ t.1 ∧ t.1 ≤ t.2 ∧ t.2 < (n : Int) := fun t ht => hb t (pm'.mem_iff.mp ht)
      have hl' : ts'.length = n := by rw [pm'.length_eq, hl]
      have fr3 : Fr L H (upd H2 p (.lst ys)) := fr1.trans ((Fr.of sm2).trans (Fr.of s3))
      have lf3 : Lf (upd H2 p (.lst ys)) L (c + 100) := ((lf1.same sm2).same s3).mono (by omega)
      have npL : p ≠ L := (lf1.same sm2).ne np
      generalize upd H2 p (.lst ys) = H3 at *
      apply two (fun H4 => Fr L H3 H4 ∧ Lf H4 L (c + 200))
      · intro ret
        refine ⟨_, rfl, _, _, rfl, rfl, _, rfl, ite2 (fun e => iteT (ret H3 ⟨Fr.refl _ _, lf3.mono (by omega)⟩)) (fun e => ?_)⟩
        refine ⟨_, rfl, L, _, c + 100, rfl, lf3, by decide, by decide, by omega, fun r H4 r0 r1 fr4 lf4 => ?_⟩
        refine ⟨_, _, rfl, rfl, _, rfl, ite2 (fun e => ret H4 ⟨fr4, lf4.mono (by omega)⟩) (fun e => ?_)⟩
        -- all pairs but those
        have ep4 := fr4 _ _ npL ep
        have hT4 := hT3.mono (lf3.tst fr4)
        refine ⟨_, rfl, ?_⟩
        refine ⟨_, rfl, n, rfl, by omega, fun p5 vs H5 np5 sm5 ep5 hV => ?_⟩
        refine ⟨p5, rfl, ⟨_, SqL.of ep5⟩, fun D5 nD5 => ?_⟩
        refine lc_list (K := K) (a := p5) (xs := vs) (fun i H6 => ∃ us sub, Same H5 H6 ∧ H6 D5 = some (.lst us) ∧ Ties H6 us sub ∧ sub.Sublist ((pup n n).take i)) ⟨[], [], same_new nD5, upd_same, trivial, List.nil_sublist _⟩ ?_ ?_ ?_
        · rintro i H6 hi ⟨us, sub, sm6, _⟩
          exact SqL.of (sm6 _ _ ep5)
        · rintro i x H6 hx ⟨us, sub, sm6, eD6, hU, hsub⟩
          obtain ⟨t, ht, hxt⟩ := hV.at hx
          have l1 := pup_len' (n := n) (i := n) (by omega) (Nat.le_refl n)
          have tk : (pup n n).take (i + 1) = (pup n n).take i ++ [t] := by rw [List.take_add_one, ht]; rfl
          have x6 := hxt.mono (Same.tst sm6)
          have hT6 := hT4.mono (Same.tst (sm5.trans sm6))
          have ep6 := sm6 _ _ (sm5 _ _ ep4)
          refine ⟨rfl, ?_⟩
          refine ⟨_, rfl, _, rfl, dT t, ts'.map dT, x6.dp, .lst (SqL.of ep6) hT6.dp, shaped_dT t, shaped_ties ts', _, rfl, ite2 (fun e => ?_) (fun e => ?_)⟩
          · refine ⟨x, rfl, us, eD6, sz' (by rw [hU.len]; have := hsub.length_le; rw [List.length_take] at this; omega), us ++ [x], sub ++ [t], Same.put sm6 nD5, upd_same, ?_, ?_⟩
            · exact Ties.mono (tst_put eD6) (hU.app (Ties.one x6))
            · rw [tk]; exact hsub.append (List.Sublist.refl _)
          · refine ⟨us, sub, sm6, eD6, hU, ?_⟩
            rw [tk]; exact hsub.trans (List.sublist_append_left _ _)
        · rintro H6 ⟨us, sub, sm6, eD6, hU, hsub⟩
          refine ⟨D5, us, rfl, .inl ⟨SqL.of eD6, fun t nt => ?_⟩⟩
          refine ⟨by show 2 ≤ sizeLine; decide, fun u nu => ?_⟩
          refine q _ _ sub ?_ ?_ ⟨u, t, us, rfl, upd_same, ?_, ?_⟩ ?_
          · exact ((fr3.trans fr4).trans (Fr.of (sm5.trans sm6))).trans ((Fr.new nt).trans (Fr.new nu))
          · exact ((((lf4.same (sm5.trans sm6))).mono (by omega)).new nt).new nu
          · rw [upd_ne (ne_of_none upd_same nu)]; exact upd_same
          · exact (hU.mono (tst_new nt)).mono (tst_new nu)
          · exact wok_sub (hsub.trans (List.take_sublist _ _))
      · rintro H4 ⟨fr4, lf4⟩
        have ep4 := fr4 _ _ npL ep
        have hT4 := hT3.mono (lf3.tst fr4)
        refine ⟨_, rfl, ?_⟩
        refine ⟨_, rfl, p, rfl, ⟨_, SqL.of ep4⟩, fun D5 nD5 => ?_⟩
        refine lc_list (K := K) (a := p) (xs := ys) (fun i H6 => ∃ us sub, Same H4 H6 ∧ H6 D5 = some (.lst us) ∧ Ties H6 us sub ∧ sub.length ≤ i ∧ ∀ t ∈ sub, 0 ≤ t.1 ∧ t.1 < t.2 ∧ t.2 < (n : Int)) ⟨[], [], same_new nD5, upd_same, trivial, Nat.le_refl _, fun _ h => by cases h⟩ ?_ ?_ ?_
        · rintro i H6 hi ⟨us, sub, sm6, _⟩
          exact SqL.of (sm6 _ _ ep4)
        · rintro i x H6 hx ⟨us, sub, sm6, eD6, hU, hsl, hsub⟩
          obtain ⟨t, ht, hxt⟩ := hT4.at hx
          have bt := hb' t (List.mem_of_getElem? ht)
          have hi : i < ys.length := (List.getElem?_eq_some_iff.mp hx).1
          have hyl := hT4.len
          have x6 := hxt.mono (Same.tst sm6)
          obtain ⟨px, rfl, epx⟩ := x6
          refine ⟨rfl, ?_⟩
          refine ⟨_, rfl, px, _, _, _, rfl, rfl, SqT.of epx, rfl, ?_⟩
          refine ⟨_, rfl, px, _, _, _, rfl, rfl, SqT.of epx, rfl, ?_⟩
          refine ⟨_, _, rfl, rfl, _, rfl, ite2 (fun e => ?_) (fun e => ?_)⟩
          · have e := of_decide_eq_true e
            refine ⟨_, rfl, us, eD6, sz' (by rw [hU.len]; omega), us ++ [.ref px], sub ++ [t], Same.put sm6 nD5, upd_same, ?_, ?_, ?_⟩
            · exact Ties.mono (tst_put eD6) (hU.app (Ties.one ⟨px, rfl, epx⟩))
            · rw [List.length_append]; exact Nat.succ_le_succ hsl
            · intro t' h'
              rcases List.mem_append.mp h' with h' | h'
              · exact hsub t' h'
              · rw [List.mem_singleton.mp h']; omega
          · exact ⟨us, sub, sm6, eD6, hU, by omega, hsub⟩
        · rintro H6 ⟨us, sub, sm6, eD6, hU, hsl, hsub⟩
          have hyl := hT4.len
          obtain ⟨ks, e1, e2, e3⟩ := hU.addr
          subst e1
          have kl : ks.length < 64 := by
            have := congrArg List.length e3
            rw [List.length_map] at this
            omega
          refine ⟨D5, ks, rfl, SqL.of eD6, fun p hp => SqT.of (e2 p hp).1, kl, fun a S na hS1 hS2 => ?_⟩
          have s7 : Same H6 (upd H6 a (SetTO P w a S)) := same_new na
          refine ⟨a, S, 2, 64, rfl, upd_same, fun p hp => SqT.of (s7 _ _ (e2 p (hS1 p hp)).1), by decide, fun p hp => ?_, fun L' p8 pm nd lt64 cd np8 => ?_⟩
          · obtain ⟨_, t, ht, et⟩ := e2 p (hS1 p hp)
            have := hsub t ht
            rw [et]
            refine ⟨rfl, fun m hm => ?_⟩
            simp only [List.mem_cons, List.not_mem_nil, or_false] at hm
            omega
          · have s8 := s7.trans (same_new (o := .lst (L'.map fun (q : Addr × List Int) => V.ref q.1)) np8)
            have hk : ∀ p ∈ L', p ∈ ks := fun p hp => hS1 p (pm.mem_iff.mp hp)
            refine ⟨p8, _, rfl, .inl ⟨SqL.of upd_same, fun t nt => ?_⟩⟩
            refine ⟨by show 2 ≤ sizeLine; decide, fun u nu => ?_⟩
            have s9 := (s8.trans (same_new (o := .tup (L'.map fun (q : Addr × List Int) => V.ref q.1)) nt)).trans (same_new (o := .tup [.int (n : Int), .ref t]) nu)
            refine q _ _ (L'.map prT) ?_ ?_ ⟨u, t, L'.map fun (q : Addr × List Int) => V.ref q.1, rfl, upd_same, ?_, ?_⟩ ⟨?_, ?_⟩
            · exact (fr3.trans fr4).trans (Fr.of (sm6.trans s9))
            · exact (lf4.mono (by omega)).same (sm6.trans s9)
            · rw [upd_ne (ne_of_none upd_same nu)]; exact upd_same
            · refine ties_addr fun p hp => ?_
              obtain ⟨g1, t', _, g3⟩ := e2 p (hk p hp)
              exact ⟨s9 _ _ g1, t', g3⟩
            · rw [List.pairwise_map]
              rw [List.nodup_iff_pairwise_ne, List.pairwise_map] at nd
              refine (cd.and nd).imp_of_mem fun {x y} hx hy h => ?_
              obtain ⟨_, t1, m1, g1⟩ := e2 x (hk x hx)
              obtain ⟨_, t2, m2, g2⟩ := e2 y (hk y hy)
              have b1 := hsub t1 m1
              have b2 := hsub t2 m2
              unfold prT
              rw [g1, g2] at h ⊢
              show ltT (t1.1, t1.2) (t2.1, t2.2)
              exact pair_lt h.1 h.2 (by omega) (by omega) (by omega) (by omega)
            · intro t' h'
              obtain ⟨x, hx, rfl⟩ := List.mem_map.mp h'
              obtain ⟨_, t1, m1, g1⟩ := e2 x (hk x hx)
              have b1 := hsub t1 m1
              unfold prT
              rw [g1]
              exact b1
end
end My

set_option Elab.async false
set_option linter.all false
set_option maxRecDepth 100000
namespace My
open PySem PySem.Spec PyProof.Rows L2

/-! ### heaps: all stays but what stands at some places -/
def FrM (M : List Addr) (H H' : Hp) : Prop := ∀ b o, b ∉ M → H b = some o → H' b = some o
theorem FrM.refl (M : List Addr) (H : Hp) : FrM M H H := fun _ _ _ h => h
theorem FrM.trans {M : List Addr} {H H1 H2 : Hp} (a : FrM M H H1) (b : FrM M H1 H2) : FrM M H H2 := fun c o n h => b c o n (a c o n h)
theorem FrM.same {M : List Addr} {H H' : Hp} (a : Same H H') : FrM M H H' := fun b o _ h => a b o h
theorem FrM.wk {M N : List Addr} {H H' : Hp} (a : FrM M H H') (h : ∀ x ∈ M, x ∈ N) : FrM N H H' := fun b o n e => a b o (fun m => n (h b m)) e
theorem FrM.put {M : List Addr} {H H' : Hp} {p : Addr} {o : HO} (a : FrM M H H') (h : p ∈ M) : FrM M H (upd H' p o) := fun b x n e => by
  rw [upd_ne (fun z => n (by rw [z]; exact h))]; exact a b x n e
theorem FrM.putN {M : List Addr} {H H' : Hp} {p : Addr} {o : HO} (a : FrM M H H') (h : H p = none) : FrM M H (upd H' p o) := fun b x n e => by
  rw [upd_ne (ne_of_none e h)]; exact a b x n e
theorem FrM.tst {M : List Addr} {H H' : Hp} (a : FrM M H H') (h : ∀ x ∈ M, ∃ xs, H x = some (.lst xs)) : Tst H H' := fun b xs e => by
  refine a b _ (fun m => ?_) e
  obtain ⟨ys, z⟩ := h b m
  rw [z] at e; cases e
theorem Fr.m {L : Addr} {M : List Addr} {H H' : Hp} (a : Fr L H H') (h : L ∈ M) : FrM M H H' := fun b o n e => a b o (fun z => n (by rw [z]; exact h)) e

/-- a list of numbers that stands at none of some places -/
def Gp (M : List Addr) (H : Hp) (v : V) (g : List Int) : Prop := ∃ p, v = .ref p ∧ p ∉ M ∧ H p = some (.lst (g.map V.int))
theorem Gp.mono {M N : List Addr} {H H' : Hp} {v : V} {g : List Int} (h : Gp M H v g) (a : FrM M H H') (s : ∀ x ∈ N, x ∈ M) : Gp N H' v g := by
  obtain ⟨p, e, n, h⟩ := h
  exact ⟨p, e, fun m => n (s p m), a p _ n h⟩
theorem Gp.new {M : List Addr} {H : Hp} {v : V} {g : List Int} {D : Addr} {o : HO} (h : Gp M H v g) (nD : H D = none) : Gp (D :: M) (upd H D o) v g := by
  obtain ⟨p, e, n, h⟩ := h
  have ne := ne_of_none h nD
  refine ⟨p, e, fun m => ?_, by rw [upd_ne ne]; exact h⟩
  rcases List.mem_cons.mp m with m | m
  · exact ne m
  · exact n m
theorem ixN_in {n : Nat} {i : Int} (h0 : 0 ≤ i) (h1 : i < n) : ixN n i = some i.toNat := by unfold ixN; rw [if_pos h0, if_pos h1]

section
variable {P : Program} {w : World} {K : PySem.W.Frag} {mg : Str → Option Value} {base : Heap}

/-! ### _law_put_together -/
abbrev s__law_put_together : Stmt := topS 12
abbrev N__law_put_together : List Str := ["_law_left_here", "_law_many", "_law_groups", "_law_p", "_law_ties", "_law_some", "_law_k", "_law_way", "_law_one", "_law_j", "_law_a", "_law_b", "_law_whole"]
theorem sc__law_put_together : FnScope N__law_put_together ["_law_left_here", "_law_many"] (defScope s__law_put_together) := ⟨rfl, rfl, rfl, by decide +kernel, rfl, by decide +kernel, by decide +kernel⟩
def cdb (way : Int) (k j : Nat) : Bool := decide (way < 2) || (decide (way = 2) && decide ((k : Int) - j = 1))
theorem cd_read {σ : L2.St} {H : Hp} {Q : VK} {way : Int} {k j : Nat} (h7 : σ[7]? = some (some (.int way))) (h6 : σ[6]? = some (some (.int (k : Int)))) (h9 : σ[9]? = some (some (.int (0 + (j : Int)))))
    (q : Q (.bl (cdb way k j)) H) : tOrV (tOp (rI0 fun i j => .bl (decide (i < j))) (tVar 7) (tC (.int 2))) (tAndV (tOp rEq (tVar 7) (tC (.int 2))) (tOp rEq (tOp (rI0 fun i j => .int (i - j)) (tVar 6) (tVar 9)) (tC (.int 1)))) σ H Q := by
  unfold cdb at q
  refine ⟨_, h7, _, _, rfl, rfl, _, rfl, ite2 (fun e => ?_) (fun e => ?_)⟩
  · have e := of_decide_eq_true e
    rw [decide_eq_true e, Bool.true_or] at q
    exact q
  · have e' : ¬ way < 2 := fun z => e (decide_eq_true z)
    rw [decide_eq_false e', Bool.false_or] at q
    refine ⟨_, h7, rfl, _, rfl, ite2 (fun e => ?_) (fun e => ?_)⟩
    · have e := V.int.inj (of_decide_eq_true e)
      rw [decide_eq_true e, Bool.true_and] at q
      refine ⟨_, h6, _, h9, _, _, rfl, rfl, rfl, ?_⟩
      have z : decide (V.int ((k : Int) - (0 + (j : Int))) = V.int 1) = decide ((k : Int) - (j : Int) = 1) := by
        rw [Int.zero_add]
        exact decide_eq_decide.mpr ⟨fun h => V.int.inj h, fun h => congrArg V.int h⟩
      rw [z]
      exact q
    · have e' : ¬ way = 2 := fun z => e (decide_eq_true (congrArg V.int z))
      rw [decide_eq_false e', Bool.false_and] at q
      exact q
theorem rep_b (b : Bool) (g : List Int) : (List.replicate (if b = true then (1 : Int) else 0).toNat (g.map V.int)).flatten = (if b = true then g else []).map V.int := by
  cases b
  · rfl
  · show (List.replicate 1 (g.map V.int)).flatten = _
    simp

theorem ok_put_together {f : Addr} {fd : FuncData} (B : Bts mg) (F : Fun K "_law_put_together" "_law_put_together" s__law_put_together f fd) (c__law_pick : Cl P w K mg base 2 "_law_pick" sp_pick) (c__law_row : Cl P w K mg base 3 "_law_row" sp_row) :
    FnOk P w K mg base CX0 4 f fd ["_law_left_here", "_law_many"] sp_gen := by
  refine F.ok sc__law_put_together (fun vs H Q E h => ?_) (fun cdv A outer s H vs Q E hr h => ?_)
  · obtain ⟨L, n, c, rfl, _⟩ := h; rfl
  · obtain ⟨L, n, c, rfl, hL, hn, hc, q⟩ := h
    refine ⟨_, (pss_cons (ps_set (i := 2) sc__law_put_together.nd rfl (by first | exact Or.inl rfl | exact Or.inr rfl) (pe_lc (own := [("_law_p", 3)]) (g := (gName 3)) (tt := tYes) rfl sc__law_put_together.nd (pi_list (pe_c c__law_row hr (by decide) (by rfl) (pa_cons (pv 0) (pa_cons (pv 1) pa_nil)))) (blkOk_by (own := [("_law_p", 3)]) (N := N__law_put_together) (sc := defScope s__law_put_together) (by decide +kernel)) (fun _ _ _ _ _ => (pg_name (i := 3) sc__law_put_together.nd rfl (by first | exact Or.inl rfl | exact Or.inr rfl))) (fun _ _ _ _ _ => pts_nil) (fun _ _ _ _ _ => (pe_lst (pa_cons (pv 3) pa_nil)))))
    (pss_cons (ps_set (i := 4) sc__law_put_together.nd rfl (by first | exact Or.inl rfl | exact Or.inr rfl) (pe_lst pa_nil))
    (pss_cons (ps_while PassesOwn.never (pt_cmpR op_gt (pe_callB call_len_seq (by rfl) B.len (by decide +kernel) (pa_cons (pv 2) pa_nil)) pe_int (nomark _))
      (pss_cons (ps_setLc (i := 5) (own := [("_law_k", 6)]) (g := (gName 6)) (tt := tYes) (te := (tBM K "list" rPopAt _ (tCons (tCall _ _ _ (tCons _ (tCons (tCB (rLenK K) _) tNil))) tNil))) rfl sc__law_put_together.nd rfl rfl (sw_true rfl rfl rfl (by decide +kernel)) (pi_range1 (by rfl) B.range (pa_cons (pe_callB (call_min2 rfl) (by rfl) B.min (by decide +kernel) (pa_cons (pe_callB call_len_seq (by rfl) B.len (by decide +kernel) (pa_cons (pv 2) pa_nil)) (pa_cons (pe_op op_add pe_int (pe_c c__law_pick hr (by decide) (by rfl) (pa_cons (pv 0) (pa_cons pe_int pa_nil)))) pa_nil))) pa_nil)) (blkOk_by (own := [("_law_k", 6)]) (N := N__law_put_together) (sc := defScope s__law_put_together) (by decide +kernel)) (fun _ _ _ _ _ => (pg_name (i := 6) sc__law_put_together.nd rfl (by first | exact Or.inl rfl | exact Or.inr rfl))) (fun _ _ _ _ _ => pts_nil) (fun _ _ _ _ _ => (pe_bm PySem.F.plainAttrs_list PySem.F.slot_list_pop PySem.F.type_list_pop mt_popAt (pv 2) (pa_cons (pe_c c__law_pick hr (by decide) (by rfl) (pa_cons (pv 0) (pa_cons (pe_callB call_len_seq (by rfl) B.len (by decide +kernel) (pa_cons (pv 2) pa_nil)) pa_nil))) pa_nil))))
      (pss_cons (ps_set (i := 7) sc__law_put_together.nd rfl (by first | exact Or.inl rfl | exact Or.inr rfl) (pe_c c__law_pick hr (by decide) (by rfl) (pa_cons (pv 0) (pa_cons pe_int pa_nil))))
      (pss_cons (ps_for PassesOwn.never rfl (pi_enum (by rfl) B.enumerate (pa_cons (pv 5) pa_nil)) (pg_tup rfl (pgs_cons (pg_name (i := 6) sc__law_put_together.nd rfl (by first | exact Or.inl rfl | exact Or.inr rfl)) (pgs_cons (pg_name (i := 8) sc__law_put_together.nd rfl (by first | exact Or.inl rfl | exact Or.inr rfl)) pgs_nil)))
        (pss_one (ps_for PassesOwn.never rfl (pi_range1 (by rfl) B.range (pa_cons (pv 6) pa_nil)) (pg_name (i := 9) sc__law_put_together.nd rfl (by first | exact Or.inl rfl | exact Or.inr rfl))
          (pss_one (ps_for PassesOwn.never rfl (pi_list (pe_op op_rep (pv 8) (pe_callTy call_int1 (by rfl) B.int (by decide +kernel) (pa_cons (pe_or (pe_cmpR op_lt (pv 7) pe_int (nomark _)) (pe_one (pe_and (pe_cmpR op_eq (pv 7) pe_int (nomark _)) (pe_one (pe_cmpR op_eq (pe_op op_sub (pv 6) (pv 9)) pe_int (nomark _)))))) pa_nil)))) (pg_name (i := 10) sc__law_put_together.nd rfl (by first | exact Or.inl rfl | exact Or.inr rfl))
            (pss_one (ps_expr (pe_bm PySem.F.plainAttrs_list PySem.F.slot_list_extend PySem.F.type_list_extend mt_extend (pv 4) (pa_cons (pe_lc (own := [("_law_b", 11)]) (g := (gName 11)) (tt := tYes) (te := (tCB (rTupK K) (tCons (tCB (rSortedI K) _) tNil))) rfl sc__law_put_together.nd (pi_list (pe_ix ix_list (pv 5) (pv 9) (fun _ _ => rfl))) (blkOk_by (own := [("_law_b", 11)]) (N := N__law_put_together) (sc := defScope s__law_put_together) (by decide +kernel)) (fun _ _ _ _ _ => (pg_name (i := 11) sc__law_put_together.nd rfl (by first | exact Or.inl rfl | exact Or.inr rfl))) (fun _ _ _ _ _ => pts_nil) (fun _ _ _ _ _ => (pe_callTy call_tuple_of (by rfl) B.tuple (by decide +kernel) (pa_cons (pe_callB cr_sortedI (by rfl) B.sorted (by decide +kernel) (pa_cons (pe_lst (pa_cons (pv 10) (pa_cons (pv 11) pa_nil))) pa_nil)) pa_nil)))) pa_nil)))))))))
      (pss_cons (ps_set (i := 12) sc__law_put_together.nd rfl (by first | exact Or.inl rfl | exact Or.inr rfl) (pe_lst pa_nil))
      (pss_cons (ps_for PassesOwn.never rfl (pi_list (pv 5)) (pg_name (i := 8) sc__law_put_together.nd rfl (by first | exact Or.inl rfl | exact Or.inr rfl))
        (pss_one (ps_expr (pe_bm PySem.F.plainAttrs_list PySem.F.slot_list_extend PySem.F.type_list_extend mt_extend (pv 12) (pa_cons (pv 8) pa_nil)))))
      (pss_one (ps_expr (pe_bm PySem.F.plainAttrs_list PySem.F.slot_list_append PySem.F.type_list_append mt_append (pv 2) (pa_cons (pv 12) pa_nil))))))))))
    (pss_one (ps_ret (pe_tup (pa_cons (pv 1) (pa_cons (pe_callTy call_tuple_of (by rfl) B.tuple (by decide +kernel) (pa_cons (pe_callB cr_sortedPO (by rfl) B.sorted (by decide +kernel) (pa_cons (pv 4) pa_nil)) pa_nil)) pa_nil)))))))), ?_⟩
    -- groups = [[p] for p in row]
    refine ⟨_, rfl, _, rfl, L, n, c, rfl, hL, by omega, by omega, fun rw ns H1 nrw fr1 lf1 erw hp => ?_⟩
    have hnl : ns.length = n := by rw [hp.length_eq, up_len]
    have nrwL : rw ≠ L := hL.ne nrw
    refine ⟨rw, rfl, ⟨_, SqL.of erw⟩, fun G nG => ?_⟩
    have nGL : G ≠ L := lf1.ne nG
    refine lc_list (K := K) (a := rw) (xs := ns.map V.int) (fun i H2 => ∃ vs, Same H1 H2 ∧ H2 G = some (.lst vs) ∧ All2 (Gp [L, G] H2) vs ((ns.take i).map fun x => [x])) ⟨[], same_new nG, upd_same, by exact trivial⟩ ?_ ?_ ?_
    · rintro i H2 _ ⟨vs, sm, _⟩
      exact SqL.of (sm _ _ erw)
    · rintro i x H2 hx ⟨vs, sm, eG, hV⟩
      have hil : i < ns.length := by
        have := (List.getElem?_eq_some_iff.mp hx).1
        rw [List.length_map] at this; exact this
      have ex : x = .int ns[i] := by
        rw [List.getElem?_map, List.getElem?_eq_getElem hil] at hx
        cases hx; rfl
      subst ex
      refine ⟨rfl, yes ?_⟩
      refine ⟨_, rfl, by show 1 ≤ sizeLine; decide, fun t nt => ?_⟩
      have nGt : G ≠ t := ne_of_none eG nt
      have tL : t ≠ L := (lf1.same sm).ne nt
      have eG2 : (upd H2 t (.lst [.int ns[i]])) G = some (.lst vs) := by rw [upd_ne nGt]; exact eG
      refine ⟨vs, eG2, sz' (by rw [hV.len, List.length_map, List.length_take]; omega), vs ++ [.ref t], Same.put (sm.trans (same_new nt)) nG, upd_same, ?_⟩
      rw [List.take_add_one, List.getElem?_eq_getElem hil]
      show All2 _ _ (((ns.take i) ++ [ns[i]]).map fun x => [x])
      rw [List.map_append]
      refine All2.app (hV.imp fun v g h => (h.mono (FrM.same (same_new nt)) (fun x hx => hx)).mono (FrM.put (FrM.refl _ _) (by simp)) (fun x hx => hx)) ⟨⟨t, rfl, by simp [tL, nGt.symm], ?_⟩, trivial⟩
      rw [upd_ne nGt.symm, upd_same]; rfl
    · rintro H2 ⟨vs0, sm2, eG, hV0⟩
      rw [List.length_map, List.take_length] at hV0
      have lf2 := lf1.same sm2
      -- ties = []
      refine ⟨Nat.zero_le _, fun O nO => ?_⟩
      have nGO : G ≠ O := ne_of_none eG nO
      have nOL : O ≠ L := lf2.ne nO
      have frH2 : Fr L H H2 := fr1.trans (Fr.of sm2)
      have HG : H G = none := Lf.free fr1 lf1 nG
      have HO' : H O = none := Lf.free frH2 lf2 nO
      have memL : L ∈ [L, G, O] := by simp
      have memG : G ∈ [L, G, O] := by simp
      have memO : O ∈ [L, G, O] := by simp
      -- the while
      refine while_by (fun σ H3 => ∃ (vs : List V) (gs : List (List Int)) (us : List V) (ts : List (Int × Int)) (y3 y5 y6 y7 y8 y9 y10 y11 y12 : Option V), σ = [some (.ref L), some (.int (n : Int)), some (.ref G), y3, some (.ref O), y5, y6, y7, y8, y9, y10, y11, y12] ∧
          Fr L H H3 ∧ Lf H3 L (c + 200 - 6 * gs.length) ∧ H3 G = some (.lst vs) ∧ All2 (Gp [L, G, O] H3) vs gs ∧ H3 O = some (.lst us) ∧ Ties H3 us ts ∧ PInv n gs ts ∧ gs.length ≤ 12)
        (fun _ H3 => match H3 G with | some (.lst vs) => vs.length | _ => 0) ?_ ?_ ?_
      · refine ⟨vs0, ns.map fun x => [x], [], [], none, none, none, none, none, none, none, none, none, rfl, frH2.trans (Fr.new nO), ?_, ?_, ?_, upd_same, trivial, ⟨?_, List.nodup_nil, (fun _ h => by cases h), (fun _ h => by cases h)⟩, ?_⟩
        · rw [List.length_map, hnl]; exact (lf2.new nO).mono (by omega)
        · rw [upd_ne nGO]; exact eG
        · refine hV0.imp fun v g h => (h.new nO).mono (FrM.refl _ _) (fun x hx => ?_)
          simp only [List.mem_cons, List.not_mem_nil, or_false] at hx ⊢
          rcases hx with h | h | h
          · exact .inr (.inl h)
          · exact .inr (.inr h)
          · exact .inl h
        · rw [flat_one]; exact hp
        · rw [List.length_map, hnl]; exact hn
      · rintro σ H3 ⟨vs, gs, us, ts, y3, y5, y6, y7, y8, y9, y10, y11, y12, rfl, fr3, lf3, eG3, hV, eO3, hT, hI, hg12⟩
        have hvl := hV.len
        have lts := hI.len (by omega)
        refine ⟨_, rfl, G, vs, rfl, .inl (SqL.of eG3), _, _, rfl, rfl, _, rfl, ite2 (fun e => ?_) (fun e => ?_)⟩
        · have hlen : 1 < vs.length := by have := of_decide_eq_true e; omega
          -- how many
          refine ⟨_, rfl, G, vs, rfl, .inl (SqL.of eG3), ?_⟩
          refine ⟨_, rfl, L, _, _, rfl, lf3, by decide, by decide, by omega, fun r0 Ha ra rb fra lfa => ?_⟩
          refine ⟨_, _, rfl, rfl, _, _, rfl, ?_⟩
          have hm : ∃ m : Nat, (if 2 + r0 < (vs.length : Int) then 2 + r0 else (vs.length : Int)) = (m : Int) ∧ 2 ≤ m ∧ m ≤ 4 ∧ m ≤ vs.length := by
            by_cases z : 2 + r0 < (vs.length : Int)
            · rw [if_pos z]; exact ⟨(2 + r0).toNat, by omega, by omega, by omega, by omega⟩
            · rw [if_neg z]; exact ⟨vs.length, rfl, by omega, by omega, Nat.le_refl _⟩
          obtain ⟨m, em, m2, m4, mv⟩ := hm
          rw [em]
          refine ⟨_, rfl, by omega, by omega, fun D nD => ?_⟩
          have eGa := fra _ _ nGL eG3
          have eOa := fra _ _ nOL eO3
          have nGD : G ≠ D := ne_of_none eGa nD
          have nOD : O ≠ D := ne_of_none eOa nD
          have nDL : D ≠ L := lfa.ne nD
          have hVa : All2 (Gp [L, G, O] Ha) vs gs := hV.imp fun v g h => h.mono (fra.m memL) fun x hx => hx
          have hTa : Ties Ha us ts := hT.mono (lf3.tst fra)
          refine lc_range (fun i Hb => ∃ (vs' : List V) (gs' : List (List Int)) (ss : List V) (sg : List (List Int)), FrM [L, G, D] Ha Hb ∧ Lf Hb L (c + 200 - 6 * gs.length + 1 + i) ∧ Hb G = some (.lst vs') ∧ Hb D = some (.lst ss) ∧ All2 (Gp [D, L, G, O] Hb) vs' gs' ∧ All2 (Gp [D, L, G, O] Hb) ss sg ∧ gs.Perm (sg ++ gs') ∧ sg.length = i)
            ⟨vs, gs, [], [], (FrM.refl _ _).putN nD, (lfa.new nD).mono (by omega), by rw [upd_ne nGD]; exact eGa, upd_same, hVa.imp fun v g h => h.new nD, trivial, .refl _, rfl⟩ ?_ ?_
          · rintro i Hb hi ⟨vs', gs', ss, sg, frb, lfb, eGb, eDb, hVb, hSb, pm, hsl⟩
            have hi : i < m := by omega
            have l1 := hVb.len
            have l2 := hSb.len
            have l3 := pm.length_eq
            rw [List.length_append] at l3
            refine ⟨rfl, yes ?_⟩
            refine ⟨_, rfl, .inl ⟨rfl, _, SqL.of eGb⟩, ?_⟩
            refine ⟨_, rfl, _, rfl, G, vs', rfl, .inl (SqL.of eGb), ?_⟩
            refine ⟨L, _, _, rfl, lfb, by omega, by omega, by omega, fun r Hc rc0 rc1 frc lfc => ?_⟩
            have eGc := frc _ _ nGL eGb
            have eDc := frc _ _ nDL eDb
            have hk : r.toNat < vs'.length := by omega
            have hk2 : r.toNat < gs'.length := by omega
            obtain ⟨g, eg, hg⟩ := hVb.at (List.getElem?_eq_getElem hk)
            have eg' : gs'[r.toNat] = g := by rw [List.getElem?_eq_getElem hk2] at eg; cases eg; rfl
            refine ⟨G, vs', r, r.toNat, vs'[r.toNat], rfl, rfl, eGc, by omega, by omega, (ixN_seq (ixN_in rc0 rc1)).1, List.getElem?_eq_getElem hk, ?_⟩
            have eDd : (upd Hc G (.lst (vs'.eraseIdx r.toNat))) D = some (.lst ss) := by rw [upd_ne nGD.symm]; exact eDc
            have frd : FrM [D, L, G, O] Hb (upd (upd Hc G (.lst (vs'.eraseIdx r.toNat))) D (.lst (ss ++ [vs'[r.toNat]]))) := ((frc.m (by simp)).put (by simp)).put (by simp)
            refine ⟨ss, eDd, sz' (by omega), vs'.eraseIdx r.toNat, gs'.eraseIdx r.toNat, ss ++ [vs'[r.toNat]], sg ++ [g], ?_, ?_, ?_, upd_same, ?_, ?_, ?_, ?_⟩
            · exact ((frb.trans (frc.m (by simp))).put (by simp)).put (by simp)
            · exact ((lfc.mono (by omega)).put nGL).put nDL
            · rw [upd_ne nGD, upd_same]
            · exact (hVb.imp fun v g h => h.mono frd fun x hx => hx).erase _
            · exact (hSb.imp fun v g h => h.mono frd fun x hx => hx).app ⟨hg.mono frd fun x hx => hx, trivial⟩
            · refine pm.trans ?_
              rw [List.append_assoc]
              refine List.Perm.append_left _ ?_
              have := erase_perm hk2
              rw [eg'] at this
              exact this.symm
            · rw [List.length_append, hsl]; rfl
          · rintro Hb ⟨vs', gs', ss, sg, frb, lfb, eGb, eDb, hVb, hSb, pm, hsl⟩
            rw [Int.toNat_natCast] at hsl lfb
            have l1 := hVb.len
            have l2 := hSb.len
            have l3 := pm.length_eq
            rw [List.length_append] at l3
            have eOb : Hb O = some (.lst us) := frb _ _ (by simp [nOL, nGO.symm, nOD]) eOa
            obtain ⟨xa, ya, za, eLa, _⟩ := id lfa
            have tab : Tst Ha Hb := fun b xs e => by
              refine frb b _ (fun mm => ?_) e
              simp only [List.mem_cons, List.not_mem_nil, or_false] at mm
              rcases mm with z | z | z
              · rw [z, eLa] at e; cases e
              · rw [z, eGa] at e; cases e
              · rw [z, nD] at e; cases e
            have hTb : Ties Hb us ts := hTa.mono tab
            have frHb : Fr L H Hb := fun b o nb e => by
              have e3 := fra b o nb (fr3 b o nb e)
              refine frb b o (fun mm => ?_) e3
              simp only [List.mem_cons, List.not_mem_nil, or_false] at mm
              rcases mm with z | z | z
              · exact nb z
              · rw [z, HG] at e; cases e
              · rw [z, nD] at e3; cases e3
            have HD : H D = none := by
              cases z : H D with
              | none => rfl
              | some o => rw [fra D o nDL (fr3 D o nDL z)] at nD; cases nD
            -- way
            refine ⟨_, rfl, L, _, _, rfl, lfb, by decide, by decide, by omega, fun way Hc wa wb frc lfc => ?_⟩
            have eGc := frc _ _ nGL eGb
            have eDc := frc _ _ nDL eDb
            have eOc := frc _ _ nOL eOb
            have hVc : All2 (Gp [D, L, G, O] Hc) vs' gs' := hVb.imp fun v g h => h.mono (frc.m (by simp)) fun x hx => hx
            have hSc : All2 (Gp [D, L, G, O] Hc) ss sg := hSb.imp fun v g h => h.mono (frc.m (by simp)) fun x hx => hx
            have hTc : Ties Hc us ts := hTb.mono (lfb.tst frc)
            have frHc : Fr L H Hc := frHb.trans frc
            have pf : (sg ++ gs').flatten.Perm (up n) := pm.flatten.symm.trans hI.fl
            have gl : ∀ i, (sg.getD i []).length ≤ 12 := fun i => Nat.le_trans (grp_len pf i) hn
            -- for k, one in enumerate(some)
            refine ⟨_, rfl, D, ss, rfl, SqL.of eDc, ?_⟩
            refine for_it (walk_enum (K := K) (a := D) (xs := ss)) (fun k σ H4 => ∃ (us4 : List V) (y6 y8 y9 y10 y11 y12 : Option V), σ = [some (.ref L), some (.int (n : Int)), some (.ref G), y3, some (.ref O), some (.ref D), y6, some (.int way), y8, y9, y10, y11, y12] ∧ FrM [O] Hc H4 ∧ H4 O = some (.lst us4) ∧ Ties H4 us4 (ts ++ news sg (cdb way) k))
              ⟨us, y6, y8, y9, y10, y11, y12, rfl, FrM.refl _ _, eOc, by exact (List.append_nil ts).symm ▸ hTc⟩ ?_ ?_ ?_
            · rintro k σ H4 _ ⟨us4, _, _, _, _, _, _, _, fr4, _⟩
              exact SqL.of (fr4 _ _ (by simp [nOD.symm]) eDc)
            · rintro k x σ H4 H4' hk ⟨us4, y6, y8, y9, y10, y11, y12, rfl, fr4, eO4, hT4⟩ ⟨T, x1, x2, rfl, nT, rfl, ex1, ex2⟩
              cases ex1
              obtain ⟨gk, egk, hgk⟩ := hSc.at ex2
              have hk5 : k < 4 := by omega
              have gdk : sg.getD k [] = gk := by rw [List.getD_eq_getElem?_getD, egk]; rfl
              have ln1 := news_len (cd := cdb way) gl k (by omega)
              refine ⟨T, _, rfl, SqT.of upd_same, rfl, _, _, rfl, _, _, rfl, rfl, ?_⟩
              -- for j in range(k)
              refine ⟨_, rfl, _, rfl, by omega, by omega, ?_⟩
              refine for_range (fun j σ H5 => ∃ (us5 : List V) (y9 y10 y11 y12 : Option V), σ = [some (.ref L), some (.int (n : Int)), some (.ref G), y3, some (.ref O), some (.ref D), some (.int (k : Int)), some (.int way), some x2, y9, y10, y11, y12] ∧ FrM [O] Hc H5 ∧ H5 O = some (.lst us5) ∧ Ties H5 us5 (ts ++ news sg (cdb way) k ++ newK sg (cdb way) k j))
                ⟨us4, y9, y10, y11, y12, rfl, fr4.trans (FrM.same (same_new nT)), by rw [upd_ne (ne_of_none eO4 nT)]; exact eO4, by exact (List.append_nil (ts ++ news sg (cdb way) k)).symm ▸ (hT4.mono (tst_new nT))⟩ ?_ ?_
              · rintro j σ H5 hj ⟨us5, y9, y10, y11, y12, rfl, fr5, eO5, hT5⟩
                have hj : j < k := by omega
                have ln2 := newK_len (cd := cdb way) (k := k) gl j
                obtain ⟨pk, rfl, npk, epk⟩ := hgk
                have epk5 := fr5 _ _ (fun z => npk (by simp at z; simp [z])) epk
                have hjs : j < ss.length := by omega
                obtain ⟨gj, egj, hgj⟩ := hSc.at (List.getElem?_eq_getElem hjs)
                have gdj : sg.getD j [] = gj := by rw [List.getD_eq_getElem?_getD, egj]; rfl
                -- for a in one * int(..)
                refine ⟨_, rfl, cd_read rfl rfl rfl (.inr ⟨_, rfl, ?_⟩)⟩
                have gkl : gk.length ≤ 12 := by rw [← gdk]; exact gl k
                have gjl : gj.length ≤ 12 := by rw [← gdj]; exact gl j
                refine ⟨pk, _, _, rfl, rfl, epk5, by have := (bi (cdb way k j)).2.2; omega, by have := (bi (cdb way k j)).2.1; omega, ?_, fun pr npr => ?_⟩
                · rw [List.length_map]
                  have : (if cdb way k j = true then (1 : Int) else 0).toNat ≤ 1 := by cases cdb way k j <;> decide
                  exact sz (Nat.le_trans (Nat.mul_le_mul gkl this) (by decide))
                rw [rep_b]
                generalize hg' : (if cdb way k j = true then gk else []) = g'
                have g'l : g'.length ≤ 12 := by rw [← hg']; split; exact gkl; exact Nat.zero_le _
                have nprO : pr ≠ O := fun z => by rw [z, eO5] at npr; cases npr
                refine ⟨pr, rfl, ⟨_, SqL.of upd_same⟩, ?_⟩
                refine for_list (K := K) (a := pr) (xs := g'.map V.int) (fun i σ H6 => ∃ (us6 : List V) (y10 y11 y12 : Option V), σ = [some (.ref L), some (.int (n : Int)), some (.ref G), y3, some (.ref O), some (.ref D), some (.int (k : Int)), some (.int way), some (.ref pk), some (.int (0 + (j : Int))), y10, y11, y12] ∧ FrM [O] Hc H6 ∧ H6 pr = some (.lst (g'.map V.int)) ∧ H6 O = some (.lst us6) ∧ Ties H6 us6 (ts ++ news sg (cdb way) k ++ newK sg (cdb way) k j ++ newA (g'.take i) gj))
                  ⟨us5, y10, y11, y12, rfl, fr5.trans (FrM.same (same_new npr)), upd_same, by rw [upd_ne nprO.symm]; exact eO5, ?_⟩ ?_ ?_ ?_
                · have : newA (g'.take 0) gj = [] := rfl
                  rw [this, List.append_nil]
                  exact hT5.mono (tst_new npr)
                · rintro i σ H6 _ ⟨_, _, _, _, _, _, epr, _⟩
                  exact SqL.of epr
                · rintro i x σ H6 hx ⟨us6, y10, y11, y12, rfl, fr6, epr, eO6, hT6⟩
                  have hil : i < g'.length := by
                    have := (List.getElem?_eq_some_iff.mp hx).1
                    rw [List.length_map] at this; exact this
                  have ex : x = .int g'[i] := by
                    rw [List.getElem?_map, List.getElem?_eq_getElem hil] at hx
                    cases hx; rfl
                  subst ex
                  have eD6 := fr6 _ _ (by simp [nOD.symm]) eDc
                  obtain ⟨pj, ej, npj, epj⟩ := id hgj
                  have epj6 := fr6 _ _ (fun z => npj (by simp at z; simp [z])) epj
                  have ln3 := newA_len (g := g'.take i) (h := gj) (x := 12) (y := 12) (by rw [List.length_take]; omega) gjl
                  refine ⟨_, rfl, .inl ⟨rfl, _, SqL.of eO6⟩, ?_⟩
                  refine ⟨_, rfl, _, rfl, D, ss, _, ss[j], rfl, rfl, SqL.of eD6, by rw [Int.zero_add]; exact atI_nat (List.getElem?_eq_getElem hjs), ?_⟩
                  rw [ej]
                  refine ⟨pj, rfl, ⟨_, SqL.of epj6⟩, fun E2 nE2 => ?_⟩
                  refine lc_list (K := K) (a := pj) (xs := gj.map V.int) (fun b H7 => ∃ us7 : List V, Same H6 H7 ∧ H7 E2 = some (.lst us7) ∧ Ties H7 us7 ((gj.take b).map fun y => norm g'[i] y)) ⟨[], same_new nE2, upd_same, by exact trivial⟩ ?_ ?_ ?_
                  · rintro b H7 _ ⟨_, sm7, _⟩
                    exact SqL.of (sm7 _ _ epj6)
                  · rintro b y H7 hy ⟨us7, sm7, eE7, hT7⟩
                    have hbl : b < gj.length := by
                      have := (List.getElem?_eq_some_iff.mp hy).1
                      rw [List.length_map] at this; exact this
                    have ey : y = .int gj[b] := by
                      rw [List.getElem?_map, List.getElem?_eq_getElem hbl] at hy
                      cases hy; rfl
                    subst ey
                    refine ⟨rfl, yes ?_⟩
                    refine ⟨_, rfl, _, rfl, by show 2 ≤ sizeLine; decide, fun l nl => ?_⟩
                    refine ⟨l, [g'[i], gj[b]], rfl, SqL.of upd_same, fun ns' p2 pm2 srt np2 => ?_⟩
                    have e2 := perm2 pm2 srt
                    subst e2
                    refine ⟨p2, _, rfl, .inl ⟨SqL.of upd_same, fun t nt => ?_⟩⟩
                    have s1 : Same H7 (upd H7 l (.lst [.int g'[i], .int gj[b]])) := same_new nl
                    have s2 := s1.trans (same_new (o := .lst (([(norm g'[i] gj[b]).1, (norm g'[i] gj[b]).2]).map V.int)) np2)
                    have s3 := s2.trans (same_new (o := .tup (([(norm g'[i] gj[b]).1, (norm g'[i] gj[b]).2]).map V.int)) nt)
                    refine ⟨us7, s3 _ _ eE7, sz' (by rw [hT7.len, List.length_map, List.length_take]; omega), us7 ++ [.ref t], ?_, upd_same, ?_⟩
                    · exact Same.put (sm7.trans s3) nE2
                    · rw [List.take_add_one, List.getElem?_eq_getElem hbl]
                      show Ties _ _ (((gj.take b) ++ [gj[b]]).map fun y => norm g'[i] y)
                      rw [List.map_append]
                      refine Ties.mono (tst_put (s3 _ _ eE7)) ((hT7.mono (Same.tst s3)).app (Ties.one ?_))
                      exact Tie.new
                  · rintro H7 ⟨us7, sm7, eE7, hT7⟩
                    rw [List.length_map, List.take_length] at hT7
                    have eO7 := sm7 _ _ eO6
                    refine ⟨O, E2, us6, us7, rfl, rfl, eO7, eE7, ?_, ?_⟩
                    · refine sz ?_
                      rw [hT6.len, hT7.len, List.length_map]
                      simp only [List.length_append]
                      omega
                    · refine ⟨us6 ++ us7, _, y11, y12, rfl, (fr6.trans (FrM.same sm7)).put (by simp), by rw [upd_ne nprO]; exact sm7 _ _ epr, upd_same, ?_⟩
                      rw [List.take_add_one, List.getElem?_eq_getElem hil]
                      show Ties _ _ (_ ++ newA (g'.take i ++ [g'[i]]) gj)
                      rw [newA_app, newA_one, ← List.append_assoc]
                      exact Ties.mono (tst_put eO7) ((hT6.mono (Same.tst sm7)).app hT7)
                · rintro σ H6 ⟨us6, y10, y11, y12, rfl, fr6, epr, eO6, hT6⟩
                  refine ⟨us6, _, y10, y11, y12, rfl, fr6, eO6, ?_⟩
                  rw [List.length_map, List.take_length] at hT6
                  rw [newK_succ, gdk, gdj, hg', ← List.append_assoc]
                  exact hT6
              · rintro σ H5 ⟨us5, y9, y10, y11, y12, rfl, fr5, eO5, hT5⟩
                refine ⟨us5, _, _, y9, y10, y11, y12, rfl, fr5, eO5, ?_⟩
                rw [Int.toNat_natCast] at hT5
                rw [news_succ, ← List.append_assoc]
                exact hT5
            · rintro σ H4 ⟨us4, y6, y8, y9, y10, y11, y12, rfl, fr4, eO4, hT4⟩
              rw [l2] at hT4
              -- whole
              refine ⟨Nat.zero_le _, fun W nW => ?_⟩
              have eD4 := fr4 _ _ (by simp [nOD.symm]) eDc
              have eG4 := fr4 _ _ (by simp [nGO]) eGc
              have lf4 : Lf H4 L (c + 200 - 6 * gs.length + 1 + m + 1) := by
                obtain ⟨x, y, z, h1, h2⟩ := lfc
                exact ⟨x, y, z, fr4 _ _ (by simp [nOL.symm]) h1, h2⟩
              have nWL : W ≠ L := lf4.ne nW
              have nWG : W ≠ G := fun z => by rw [z, eG4] at nW; cases nW
              have nWO : W ≠ O := fun z => by rw [z, eO4] at nW; cases nW
              have nWD : W ≠ D := fun z => by rw [z, eD4] at nW; cases nW
              refine ⟨_, rfl, D, rfl, ⟨_, SqL.of (by rw [upd_ne nWD.symm]; exact eD4)⟩, ?_⟩
              refine for_list (K := K) (a := D) (xs := ss) (fun i σ H5 => ∃ (y8 : Option V), σ = [some (.ref L), some (.int (n : Int)), some (.ref G), y3, some (.ref O), some (.ref D), y6, some (.int way), y8, y9, y10, y11, some (.ref W)] ∧ Same H4 H5 ∧ H5 W = some (.lst ((sg.take i).flatten.map V.int)))
                ⟨y8, rfl, same_new nW, upd_same⟩ ?_ ?_ ?_
              · rintro i σ H5 _ ⟨_, _, sm5, _⟩
                exact SqL.of (sm5 _ _ eD4)
              · rintro i x σ H5 hx ⟨y8, rfl, sm5, eW⟩
                obtain ⟨gi, egi, hgi⟩ := hSc.at hx
                obtain ⟨pi, rfl, npi, epi⟩ := hgi
                have epi5 := sm5 _ _ (fr4 _ _ (fun z => npi (by simp at z; simp [z])) epi)
                have fl : ((sg.take i).flatten).length ≤ n := by
                  have e1 := pf.length_eq
                  rw [up_len, List.flatten_append, List.length_append] at e1
                  have e2 : (sg.flatten).length = ((sg.take i).flatten).length + ((sg.drop i).flatten).length := by
                    rw [← List.length_append, ← List.flatten_append, List.take_append_drop]
                  omega
                have gil : gi.length ≤ 12 := by
                  have := gl i
                  rw [List.getD_eq_getElem?_getD, egi] at this
                  exact this
                refine ⟨_, rfl, .inl ⟨rfl, _, SqL.of eW⟩, _, rfl, ?_⟩
                refine ⟨W, pi, _, _, rfl, rfl, eW, epi5, sz (by rw [List.length_map, List.length_map]; omega), ?_⟩
                refine ⟨_, rfl, Same.put sm5 nW, ?_⟩
                rw [upd_same, List.take_add_one, egi]
                show some (HO.lst _) = some (.lst ((sg.take i ++ [gi]).flatten.map V.int))
                rw [List.flatten_append, List.map_append]
                simp
              · rintro σ H5 ⟨y8, rfl, sm5, eW⟩
                rw [l2, List.take_length] at eW
                have eG5 := sm5 _ _ eG4
                refine ⟨_, rfl, .inl ⟨rfl, _, SqL.of eG5⟩, _, rfl, ?_⟩
                refine ⟨G, vs', _, rfl, rfl, eG5, sz' (by omega), ?_⟩
                have nI := hI.next pm (cdb way)
                have all : ∀ v g, Gp [D, L, G, O] Hc v g → Gp [L, G, O] (upd H5 G (.lst (vs' ++ [.ref W]))) v g := fun v g h => by
                  obtain ⟨p, e, np, hh⟩ := h
                  refine ⟨p, e, fun z => np (List.mem_cons_of_mem _ z), ?_⟩
                  have : p ≠ G := fun z => np (by simp [z])
                  rw [upd_ne this]
                  exact sm5 _ _ (fr4 _ _ (fun z => np (by simp at z; simp [z])) hh)
                refine ⟨⟨vs' ++ [.ref W], gs' ++ [sg.flatten], us4, ts ++ news sg (cdb way) sg.length, y3, _, y6, _, y8, y9, y10, y11, _, rfl, ?_, ?_, upd_same, ?_, ?_, ?_, nI, ?_⟩, ?_⟩
                · refine Fr.put (fun b o nb e => sm5 _ _ (fr4 b o (fun z => ?_) (frHc b o nb e))) HG
                  simp only [List.mem_cons, List.not_mem_nil, or_false] at z
                  rw [z, HO'] at e; cases e
                · refine Lf.put ((lf4.same sm5).mono ?_) nGL
                  rw [List.length_append]
                  show _ ≤ c + 200 - 6 * ((gs'.length + 1 : Nat) : Int)
                  omega
                · refine (hVc.imp all).app ⟨⟨W, rfl, by simp [nWL, nWG, nWO], ?_⟩, trivial⟩
                  rw [upd_ne nWG]; exact eW
                · rw [upd_ne nGO.symm]; exact sm5 _ _ eO4
                · exact (hT4.mono (Same.tst sm5)).mono (tst_put eG5)
                · rw [List.length_append]
                  show gs'.length + 1 ≤ 12
                  omega
                · rw [upd_same, eG3]
                  show (vs' ++ [V.ref W]).length < vs.length
                  rw [List.length_append]
                  show vs'.length + 1 < vs.length
                  omega
        · -- the end: sorted
          refine ⟨_, rfl, _, rfl, O, us, My.key H3, rfl, SqL.of eO3, hT.all, fun ys p hs hst np => ?_⟩
          obtain ⟨ts', hT', pm', pw⟩ := srt_ties hs hst.perm hT
          refine ⟨p, ys, rfl, .inl ⟨SqL.of upd_same, fun t nt => ?_⟩⟩
          refine ⟨by show 2 ≤ sizeLine; decide, fun u nu => ?_⟩
          have s9 := ((same_new (H := H3) (o := .lst ys) np).trans (same_new (o := .tup ys) nt)).trans (same_new (o := .tup [.int (n : Int), .ref t]) nu)
          refine q _ _ ts' ?_ ?_ ⟨u, t, ys, rfl, upd_same, ?_, ?_⟩ ⟨?_, ?_⟩
          · exact fr3.trans (Fr.of s9)
          · exact (lf3.mono (by omega)).same s9
          · rw [upd_ne (ne_of_none upd_same nu)]; exact upd_same
          · exact hT'.mono (Same.tst s9)
          · exact pw_lt pw (pm'.nodup_iff.mpr hI.nd)
          · exact fun t' h' => hI.bd t' (pm'.mem_iff.mp h')
      · rintro σ H3 Q1 Q2 hQ ⟨v, hv, p, ys, e, hs, i, j, e1, e2, b, e3, qq⟩
        exact ⟨v, hv, p, ys, e, hs, i, j, e1, e2, b, e3, hQ _ _ qq⟩
end
end My

set_option Elab.async false
set_option linter.all false
set_option maxRecDepth 100000
namespace My
open PySem PySem.Spec PyProof.Rows L2
section
variable {P : Program} {w : World} {K : PySem.W.Frag} {mg : Str → Option Value} {base : Heap}

/-! ### _law_web -/
abbrev s__law_web : Stmt := topS 13
abbrev N__law_web : List Str := ["_law_left_here", "_law_most", "_law_many", "_law_way"]
theorem sc__law_web : FnScope N__law_web ["_law_left_here", "_law_most"] (defScope s__law_web) := ⟨rfl, rfl, rfl, by decide +kernel, rfl, by decide +kernel, by decide +kernel⟩
def sp_web : Sp := fun vs H Q _ => ∃ (L : Addr) (most : Nat) (c : Int), vs = [.ref L, .int (most : Int)] ∧ Lf H L c ∧ most ≤ 12 ∧ c < 2 ^ 47 ∧
  ∀ (v : V) (H' : Hp) (n : Nat) (ts : List (Int × Int)), n ≤ most → Fr L H H' → Lf H' L (c + 200000) → Web H' v n ts → WOk n ts → Q v H'
theorem ok_web {f : Addr} {fd : FuncData} (B : Bts mg) (F : Fun K "_law_web" "_law_web" s__law_web f fd) (c__law_pick : Cl P w K mg base 2 "_law_pick" sp_pick) (c__law_any_web : Cl P w K mg base 3 "_law_any_web" sp_gen)
    (c__law_row_web : Cl P w K mg base 4 "_law_row_web" sp_gen) (c__law_put_together : Cl P w K mg base 4 "_law_put_together" sp_gen) (c__law_ring_web : Cl P w K mg base 4 "_law_ring_web" sp_gen) :
    FnOk P w K mg base CX0 5 f fd ["_law_left_here", "_law_most"] sp_web := by
  refine F.ok sc__law_web (fun vs H Q E h => ?_) (fun cdv A outer s H vs Q E hr h => ?_)
  · obtain ⟨L, n, c, rfl, _⟩ := h; rfl
  · obtain ⟨L, most, c, rfl, hL, hm, hc, q⟩ := h
    refine ⟨_, (pss_cons (ps_set (i := 2) sc__law_web.nd rfl (by first | exact Or.inl rfl | exact Or.inr rfl) (pe_callB (call_min2 rfl) (by rfl) B.min (by decide +kernel) (pa_cons (pv 1) (pa_cons (pe_ix ix_list (pe_lst (pa_cons pe_int (pa_cons pe_int (pa_cons pe_int (pa_cons pe_int (pa_cons pe_int (pa_cons pe_int (pa_cons pe_int (pa_cons pe_int (pa_cons pe_int (pa_cons pe_int (pa_cons pe_int (pa_cons (pe_op op_add pe_int (pe_c c__law_pick hr (by decide) (by rfl) (pa_cons (pv 0) (pa_cons pe_int pa_nil)))) pa_nil))))))))))))) (pe_c c__law_pick hr (by decide) (by rfl) (pa_cons (pv 0) (pa_cons pe_int pa_nil))) (fun _ _ => rfl)) pa_nil))))
    (pss_cons (ps_set (i := 3) sc__law_web.nd rfl (by first | exact Or.inl rfl | exact Or.inr rfl) (pe_c c__law_pick hr (by decide) (by rfl) (pa_cons (pv 0) (pa_cons pe_int pa_nil))))
    (pss_cons (ps_if (pt_cmpR op_lt (pv 3) pe_int (nomark _)) (pss_one (ps_ret (pe_c c__law_any_web hr (by decide) (by rfl) (pa_cons (pv 0) (pa_cons (pv 2) pa_nil))))) pss_nil)
    (pss_cons (ps_if (pt_cmpR op_lt (pv 3) pe_int (nomark _)) (pss_one (ps_ret (pe_c c__law_row_web hr (by decide) (by rfl) (pa_cons (pv 0) (pa_cons (pv 2) pa_nil))))) pss_nil)
    (pss_cons (ps_if (pt_cmpR op_lt (pv 3) pe_int (nomark _)) (pss_one (ps_ret (pe_c c__law_put_together hr (by decide) (by rfl) (pa_cons (pv 0) (pa_cons (pv 2) pa_nil))))) pss_nil)
    (pss_one (ps_ret (pe_c c__law_ring_web hr (by decide) (by rfl) (pa_cons (pv 0) (pa_cons (pv 2) pa_nil)))))))))), ?_⟩
    refine ⟨_, rfl, ?_⟩
    refine ⟨_, rfl, L, _, c, rfl, hL, by decide, by decide, by omega, fun r0 H1 r00 r01 fr1 lf1 => ?_⟩
    refine ⟨_, _, rfl, rfl, by show 12 ≤ sizeLine; decide, fun p np => ?_⟩
    refine ⟨_, rfl, L, _, c + 1, rfl, lf1.new np, by decide, by decide, by omega, fun r1 H2 r10 r11 fr2 lf2 => ?_⟩
    have ep : H2 p = some (.lst (([0, 1, 2, 3, 4, 5, 6, 4, 5, 6, 5, 7 + r0] : List Int).map V.int)) := fr2 _ _ (lf1.ne np) upd_same
    obtain ⟨x, ex, mx⟩ := at_mem (ns := [0, 1, 2, 3, 4, 5, 6, 4, 5, 6, 5, 7 + r0]) (j := r1) (by show -(12 : Int) ≤ r1; omega) (by show r1 < (12 : Int); omega)
    have bx : 0 ≤ x ∧ x ≤ 12 := by
      simp only [List.mem_cons, List.not_mem_nil, or_false] at mx
      omega
    refine ⟨p, _, r1, _, rfl, rfl, SqL.of ep, ex, _, _, rfl, ?_⟩
    have hn : ∃ n : Nat, (if x < (most : Int) then x else (most : Int)) = (n : Int) ∧ n ≤ most := by
      by_cases z : x < (most : Int)
      · rw [if_pos z]; exact ⟨x.toNat, by omega, by omega⟩
      · rw [if_neg z]; exact ⟨most, rfl, Nat.le_refl _⟩
    obtain ⟨n, en, hn⟩ := hn
    rw [en]
    refine ⟨_, rfl, L, _, c + 1 + 1, rfl, lf2, by decide, by decide, by omega, fun way H3 wa wb fr3 lf3 => ?_⟩
    have frA : Fr L H H3 := ((fr1.trans (Fr.new np)).trans fr2).trans fr3
    have fin : ∀ (v : V) (H' : Hp) (ts : List (Int × Int)), Fr L H3 H' → Lf H' L (c + 1 + 1 + 1 + 100000) → Web H' v n ts → WOk n ts → Q v H' :=
      fun v H' ts a b c d => q v H' n ts hn (frA.trans a) (b.mono (by omega)) c d
    refine ⟨_, rfl, _, _, rfl, rfl, _, rfl, ite2 (fun e => ?_) (fun e => ?_)⟩
    · exact ⟨_, rfl, _, rfl, L, n, _, rfl, lf3, by omega, by omega, fin⟩
    refine ⟨_, rfl, _, _, rfl, rfl, _, rfl, ite2 (fun e => ?_) (fun e => ?_)⟩
    · exact ⟨_, rfl, _, rfl, L, n, _, rfl, lf3, by omega, by omega, fin⟩
    refine ⟨_, rfl, _, _, rfl, rfl, _, rfl, ite2 (fun e => ?_) (fun e => ?_)⟩
    · exact ⟨_, rfl, _, rfl, L, n, _, rfl, lf3, by omega, by omega, fin⟩
    · exact ⟨_, rfl, _, rfl, L, n, _, rfl, lf3, by omega, by omega, fin⟩
end
end My

set_option Elab.async false
set_option linter.all false
set_option maxRecDepth 100000
namespace My
open PySem PySem.Spec PyProof.Rows L2 GxR

/-! ### things alike -/
def Atom (x : V) : Prop := x = .non ∨ (∃ b, x = .bl b) ∨ (∃ i, x = .int i) ∨ ∃ z, x = .str z
def Eqd : Nat → Hp → V → V → Prop
  | 0, _, x, y => x = y ∧ Atom x
  | m + 1, H, x, y => (x = y ∧ Atom x) ∨ ∃ a b xs ys, x = .ref a ∧ y = .ref b ∧ ((H a = some (.tup xs) ∧ H b = some (.tup ys)) ∨ (H a = some (.lst xs) ∧ H b = some (.lst ys))) ∧
      xs.length = ys.length ∧ xs.length ≤ 10000 ∧ ∀ (i : Nat) (v u : V), xs[i]? = some v → ys[i]? = some u → Eqd m H v u
theorem Eqd.mono : ∀ {m : Nat} {H H' : Hp} {x y : V}, Same H H' → Eqd m H x y → Eqd m H' x y
  | 0, _, _, _, _, _, h => h
  | m + 1, H, H', _, _, s, .inl h => .inl h
  | m + 1, H, H', _, _, s, .inr ⟨a, b, xs, ys, e1, e2, h, l, l2, k⟩ => .inr ⟨a, b, xs, ys, e1, e2, h.imp (fun z => ⟨s _ _ z.1, s _ _ z.2⟩) (fun z => ⟨s _ _ z.1, s _ _ z.2⟩), l, l2, fun i v u e f => Eqd.mono s (k i v u e f)⟩
theorem Eqd.int {m : Nat} {H : Hp} {i : Int} : Eqd m H (.int i) (.int i) := by
  cases m with
  | zero => exact ⟨rfl, .inr (.inr (.inl ⟨i, rfl⟩))⟩
  | succ m => exact .inl ⟨rfl, .inr (.inr (.inl ⟨i, rfl⟩))⟩
theorem Eqd.up : ∀ {m : Nat} {H : Hp} {x y : V}, Eqd m H x y → Eqd (m + 1) H x y
  | 0, _, _, _, h => .inl h
  | m + 1, _, _, _, .inl h => .inl h
  | m + 1, _, _, _, .inr ⟨a, b, xs, ys, e1, e2, h, l, l2, k⟩ => .inr ⟨a, b, xs, ys, e1, e2, h, l, l2, fun i v u e f => (k i v u e f).up⟩
theorem tie_eqd {H : Hp} {v u : V} {t : Int × Int} (h : Tie H v t) (k : Tie H u t) : Eqd 1 H v u := by
  obtain ⟨p, rfl, h⟩ := h
  obtain ⟨q, rfl, k⟩ := k
  refine .inr ⟨p, q, _, _, rfl, rfl, .inl ⟨h, k⟩, rfl, by show 2 ≤ 10000; decide, fun i v u e f => ?_⟩
  match i, e, f with
  | 0, e, f => cases e; cases f; exact Eqd.int
  | 1, e, f => cases e; cases f; exact Eqd.int
theorem tup_eqd {H : Hp} {p q : Addr} {vs us : List V} {ts : List (Int × Int)} (hp : H p = some (.tup vs)) (hq : H q = some (.tup us)) (h : Ties H vs ts) (k : Ties H us ts) (l : ts.length ≤ 10000) : Eqd 2 H (.ref p) (.ref q) := by
  refine .inr ⟨p, q, vs, us, rfl, rfl, .inl ⟨hp, hq⟩, by rw [h.len, k.len], by rw [h.len]; exact l, fun i v u e f => ?_⟩
  obtain ⟨t1, e1, h1⟩ := h.at e
  obtain ⟨t2, e2, h2⟩ := k.at f
  rw [e1] at e2; cases e2
  exact tie_eqd h1 h2
theorem web_eqd {H : Hp} {v u : V} {n : Nat} {ts : List (Int × Int)} (h : Web H v n ts) (k : Web H u n ts) (l : ts.length ≤ 10000) : Eqd 3 H v u := by
  obtain ⟨p, q, vs, rfl, h1, h2, h3⟩ := h
  obtain ⟨p', q', us, rfl, k1, k2, k3⟩ := k
  refine .inr ⟨p, p', _, _, rfl, rfl, .inl ⟨h1, k1⟩, rfl, by show 2 ≤ 10000; decide, fun i v u e f => ?_⟩
  match i, e, f with
  | 0, e, f => cases e; cases f; exact Eqd.int
  | 1, e, f => cases e; cases f; exact tup_eqd h2 k2 h3 k3 l

section
variable {P : Program} {w : World} {K : PySem.W.Frag} {mg : Str → Option Value} {base : Heap}
/-! ### _law_same -/
abbrev s__law_same : Stmt := topS 14
abbrev N__law_same : List Str := ["_law_found", "_law_due", "_law_one", "_law_other"]
theorem sc__law_same : FnScope N__law_same ["_law_found", "_law_due"] (defScope s__law_same) := ⟨rfl, rfl, rfl, by decide +kernel, rfl, by decide +kernel, by decide +kernel⟩
def sp_same : Nat → Sp
  | 0 => fun _ _ _ _ => False
  | m + 1 => fun vs H Q _ => ∃ x y, vs = [x, y] ∧ Eqd m H x y ∧ ∀ H', Same H H' → Q (.bl true) H'
theorem kany {t : Value} {a b : Bool} (h1 : PySem.W.kitOne K t (.type "list") = some a) (h2 : PySem.W.kitOne K t (.type "tuple") = some b) : PySem.W.kitAny K t [.type "list", .type "tuple"] = some (a || b) := by
  refine kitAny_cons h1 (fun z => ?_) (fun z => by rw [z]; rfl)
  subst z
  exact kitAny_cons h2 (fun z => by rw [z]; rfl) (fun z => by rw [z]; rfl)
theorem all_rep (n : Nat) : (List.replicate n true).all id = true := by
  rw [List.all_eq_true]
  intro x hx
  rw [(List.mem_replicate.mp hx).2]; rfl
theorem ok_same1 {f : Addr} {fd : FuncData} {m : Nat} (B : Bts mg) (F : Fun K "_law_same" "_law_same" s__law_same f fd) (c__law_same : Cl P w K mg base m "_law_same" (sp_same m)) :
    FnOk P w K mg base CX0 (m + 1) f fd ["_law_found", "_law_due"] (sp_same (m + 1)) := by
  refine F.ok sc__law_same (fun vs H Q E h => ?_) (fun cdv A outer s H vs Q E hr h => ?_)
  · obtain ⟨x, y, rfl, _⟩ := h; rfl
  · obtain ⟨x, y, rfl, hE, q⟩ := h
    refine ⟨_, (pss_cons (ps_if (pt_val (pe_callB call_isiT (by rfl) B.isinstance (by decide +kernel) (pa_cons (pv 1) (pa_cons (pe_tup (pa_cons (pe_bltn (v := .ty "list") (by rfl) B.list (by decide +kernel) rfl) (pa_cons (pe_bltn (v := .ty "tuple") (by rfl) B.tuple (by decide +kernel) rfl) pa_nil))) pa_nil)))) (pss_cons (ps_if (PW.pt (pw_or (pt_cmpR op_ne (pe_callB call_isi (by rfl) B.isinstance (by decide +kernel) (pa_cons (pv 0) (pa_cons (pe_bltn (v := .ty "list") (by rfl) B.list (by decide +kernel) rfl) pa_nil))) (pe_callB call_isi (by rfl) B.isinstance (by decide +kernel) (pa_cons (pv 1) (pa_cons (pe_bltn (v := .ty "list") (by rfl) B.list (by decide +kernel) rfl) pa_nil))) (nomark _)) (pw_or1 (pt_cmpR op_ne (pe_callB call_isi (by rfl) B.isinstance (by decide +kernel) (pa_cons (pv 0) (pa_cons (pe_bltn (v := .ty "tuple") (by rfl) B.tuple (by decide +kernel) rfl) pa_nil))) (pe_callB call_isi (by rfl) B.isinstance (by decide +kernel) (pa_cons (pv 1) (pa_cons (pe_bltn (v := .ty "tuple") (by rfl) B.tuple (by decide +kernel) rfl) pa_nil))) (nomark _))))) (pss_one (ps_ret pe_bl)) pss_nil)
      (pss_one (ps_ret (pe_and (pe_cmpR op_eq (pe_callB call_len_seq (by rfl) B.len (by decide +kernel) (pa_cons (pv 0) pa_nil)) (pe_callB call_len_seq (by rfl) B.len (by decide +kernel) (pa_cons (pv 1) pa_nil)) (nomark _)) (pe_one (pe_callB (cr_all rfl) (by rfl) B.all (by decide +kernel) (pa_cons (pe_lc (own := [("_law_one", 2), ("_law_other", 3)]) (g := (gTup K 2 (gCons (gName 2) (gCons (gName 3) gNil)))) (tt := tYes) rfl sc__law_same.nd (RZ.pi_zipA (by rfl) B.zip (pa_cons (pv 0) (pa_cons (pv 1) pa_nil))) (blkOk_by (own := [("_law_one", 2), ("_law_other", 3)]) (N := N__law_same) (sc := defScope s__law_same) (by decide +kernel)) (fun _ _ _ _ _ => (pg_tup rfl (pgs_cons (pg_name (i := 2) sc__law_same.nd rfl (by first | exact Or.inl rfl | exact Or.inr rfl)) (pgs_cons (pg_name (i := 3) sc__law_same.nd rfl (by first | exact Or.inl rfl | exact Or.inr rfl)) pgs_nil)))) (fun _ _ _ _ _ => pts_nil) (fun _ _ _ _ _ => (pe_c c__law_same hr (Nat.le_refl _) (by rfl) (pa_cons (pv 2) (pa_cons (pv 3) pa_nil))))) pa_nil))))))) pss_nil)
    (pss_cons (ps_if (PW.pt (pw_or (pt_cmpR op_isN (pv 1) pe_non (nomark _)) (pw_or1 (pt_val (pe_callB call_isi (by rfl) B.isinstance (by decide +kernel) (pa_cons (pv 1) (pa_cons (pe_bltn (v := .ty "str") (by rfl) B.str (by decide +kernel) rfl) pa_nil))))))) (pss_one (ps_ret (pe_and (pe_cmpR op_eq (pv 0) (pv 1) (nomark _)) (pe_one (pe_cmpR op_eq (pe_callB call_isi (by rfl) B.isinstance (by decide +kernel) (pa_cons (pv 0) (pa_cons (pe_bltn (v := .ty "str") (by rfl) B.str (by decide +kernel) rfl) pa_nil))) (pe_callB call_isi (by rfl) B.isinstance (by decide +kernel) (pa_cons (pv 1) (pa_cons (pe_bltn (v := .ty "str") (by rfl) B.str (by decide +kernel) rfl) pa_nil))) (nomark _)))))) pss_nil)
    (pss_cons (ps_if (pt_val (pe_callB call_isi (by rfl) B.isinstance (by decide +kernel) (pa_cons (pv 1) (pa_cons (pe_bltn (v := .ty "bool") (by rfl) B.bool (by decide +kernel) rfl) pa_nil)))) (pss_one (ps_ret (pe_and (pe_callB call_isi (by rfl) B.isinstance (by decide +kernel) (pa_cons (pv 0) (pa_cons (pe_bltn (v := .ty "bool") (by rfl) B.bool (by decide +kernel) rfl) pa_nil))) (pe_one (pe_cmpR op_eq (pv 0) (pv 1) (nomark _)))))) pss_nil)
    (pss_one (ps_ret (pe_and (pe_callB call_isi (by rfl) B.isinstance (by decide +kernel) (pa_cons (pv 0) (pa_cons (pe_bltn (v := .ty "int") (by rfl) B.int (by decide +kernel) rfl) pa_nil))) (pe_and (pe_not (pe_callB call_isi (by rfl) B.isinstance (by decide +kernel) (pa_cons (pv 0) (pa_cons (pe_bltn (v := .ty "bool") (by rfl) B.bool (by decide +kernel) rfl) pa_nil)))) (pe_one (pe_cmpR op_eq (pv 0) (pv 1) (nomark _)))))))))), ?_⟩
    have nw : ∀ {tp : Addr} {o : HO}, H tp = none → Same H (upd H tp o) := fun h => same_new h
    have hE' : (x = y ∧ Atom x) ∨ ∃ m', m = m' + 1 ∧ ∃ a b xs ys, x = .ref a ∧ y = .ref b ∧ ((H a = some (.tup xs) ∧ H b = some (.tup ys)) ∨ (H a = some (.lst xs) ∧ H b = some (.lst ys))) ∧
        xs.length = ys.length ∧ xs.length ≤ 10000 ∧ ∀ (i : Nat) (v u : V), xs[i]? = some v → ys[i]? = some u → Eqd m' H v u := by
      cases m with
      | zero => exact .inl hE
      | succ m =>
        rcases hE with h | h
        · exact .inl h
        · exact .inr ⟨m, rfl, h⟩
    rcases hE' with ⟨e, ha⟩ | ⟨m, rfl, a, b, xs, ys, rfl, rfl, hab, hl, hl2, hk⟩
    · subst e
      rcases ha with rfl | ⟨b, rfl⟩ | ⟨i, rfl⟩ | ⟨z, rfl⟩
      · refine ⟨_, rfl, by show 2 ≤ sizeLine; decide, fun tp ntp => ⟨_, tp, _, _, _, _, rfl, upd_same, .cons (.ty _) (.cons (.ty _) .nil), .base .non, kany (a := false) (b := false) (kit_ty (by decide +kernel)) (kit_ty (by decide +kernel)), false, rfl, iteF ?_⟩⟩
        refine ⟨_, rfl, rfl, _, rfl, iteT (iteT ?_)⟩
        refine ⟨_, rfl, _, rfl, rfl, true, rfl, iteT ?_⟩
        refine ⟨_, rfl, _, _, _, _, false, rfl, .ty _, .base .non, kit_ty (by decide +kernel), ?_⟩
        refine ⟨_, rfl, _, _, _, _, false, rfl, .ty _, .base .non, kit_ty (by decide +kernel), rfl, ?_⟩
        exact q _ (nw ntp)
      · refine ⟨_, rfl, by show 2 ≤ sizeLine; decide, fun tp ntp => ⟨_, tp, _, _, _, _, rfl, upd_same, .cons (.ty _) (.cons (.ty _) .nil), .base (.bl b), kany (a := false) (b := false) (kit_ty (by decide +kernel)) (kit_ty (by decide +kernel)), false, rfl, iteF ?_⟩⟩
        refine ⟨_, rfl, rfl, _, rfl, iteF ?_⟩
        refine ⟨_, rfl, _, _, _, _, false, rfl, .ty _, .base (.bl b), kit_ty (by decide +kernel), false, rfl, iteF ?_⟩
        refine ⟨_, rfl, _, _, _, _, true, rfl, .ty _, .base (.bl b), kit_ty (by decide +kernel), true, rfl, iteT ?_⟩
        refine ⟨_, rfl, _, _, _, _, true, rfl, .ty _, .base (.bl b), kit_ty (by decide +kernel), true, rfl, iteT ?_⟩
        refine ⟨_, rfl, _, rfl, rfl, ?_⟩
        rw [decide_eq_true rfl]
        exact q _ (nw ntp)
      · refine ⟨_, rfl, by show 2 ≤ sizeLine; decide, fun tp ntp => ⟨_, tp, _, _, _, _, rfl, upd_same, .cons (.ty _) (.cons (.ty _) .nil), .base (.int i), kany (a := false) (b := false) (kit_ty (by decide +kernel)) (kit_ty (by decide +kernel)), false, rfl, iteF ?_⟩⟩
        refine ⟨_, rfl, rfl, _, rfl, iteF ?_⟩
        refine ⟨_, rfl, _, _, _, _, false, rfl, .ty _, .base (.int i), kit_ty (by decide +kernel), false, rfl, iteF ?_⟩
        refine ⟨_, rfl, _, _, _, _, false, rfl, .ty _, .base (.int i), kit_ty (by decide +kernel), false, rfl, iteF ?_⟩
        refine ⟨_, rfl, _, _, _, _, true, rfl, .ty _, .base (.int i), kit_ty (by decide +kernel), true, rfl, iteT ?_⟩
        refine ⟨_, rfl, _, _, _, _, false, rfl, .ty _, .base (.int i), kit_ty (by decide +kernel), false, rfl, true, rfl, iteT ?_⟩
        refine ⟨_, rfl, _, rfl, rfl, ?_⟩
        rw [decide_eq_true rfl]
        exact q _ (nw ntp)
      · refine ⟨_, rfl, by show 2 ≤ sizeLine; decide, fun tp ntp => ⟨_, tp, _, _, _, _, rfl, upd_same, .cons (.ty _) (.cons (.ty _) .nil), .base (.str z), kany (a := false) (b := false) (kit_ty (by decide +kernel)) (kit_ty (by decide +kernel)), false, rfl, iteF ?_⟩⟩
        refine ⟨_, rfl, rfl, _, rfl, iteF ?_⟩
        refine ⟨_, rfl, _, _, _, _, true, rfl, .ty _, .base (.str z), kit_ty (by decide +kernel), true, rfl, iteT ?_⟩
        refine ⟨_, rfl, _, rfl, rfl, _, rfl, ?_⟩
        rw [decide_eq_true rfl]
        refine iteT ⟨_, rfl, _, _, _, _, true, rfl, .ty _, .base (.str z), kit_ty (by decide +kernel), ?_⟩
        refine ⟨_, rfl, _, _, _, _, true, rfl, .ty _, .base (.str z), kit_ty (by decide +kernel), rfl, ?_⟩
        exact q _ (nw ntp)
    · rcases hab with ⟨ea, eb⟩ | ⟨ea, eb⟩
      · refine ⟨_, rfl, by show 2 ≤ sizeLine; decide, fun tp ntp => ?_⟩
        have s1 := nw (o := .tup [.ty "list", .ty "tuple"]) ntp
        have ea1 := s1 _ _ ea
        have eb1 := s1 _ _ eb
        refine ⟨_, tp, _, _, _, _, rfl, upd_same, .cons (.ty _) (.cons (.ty _) .nil), .base (.tup eb1), kany (a := false) (b := true) (kit_ty (by decide +kernel)) (kit_ty (by decide +kernel)), true, rfl, iteT ?_⟩
        refine ⟨_, rfl, _, _, _, _, false, rfl, .ty _, .base (.tup ea1), kit_ty (by decide +kernel), ?_⟩
        refine ⟨_, rfl, _, _, _, _, false, rfl, .ty _, .base (.tup eb1), kit_ty (by decide +kernel), rfl, false, rfl, iteF ?_⟩
        refine ⟨_, rfl, _, _, _, _, true, rfl, .ty _, .base (.tup ea1), kit_ty (by decide +kernel), ?_⟩
        refine ⟨_, rfl, _, _, _, _, true, rfl, .ty _, .base (.tup eb1), kit_ty (by decide +kernel), rfl, false, rfl, iteF ?_⟩
        refine ⟨_, rfl, a, xs, rfl, .inr (SqT.of ea1), _, rfl, b, ys, rfl, .inr (SqT.of eb1), rfl, _, rfl, ?_⟩
        rw [decide_eq_true (by rw [hl])]
        refine iteT ⟨_, rfl, _, rfl, a, b, xs, ys, rfl, .inr ⟨SqT.of ea1, SqT.of eb1, fun D nD => ?_⟩⟩
        refine lc_it (walk_zipT (K := K) (a := a) (b := b) (xs := xs) (ys := ys) rfl) (fun i H2 => Same (upd H tp (.tup [.ty "list", .ty "tuple"])) H2 ∧ H2 D = some (.lst ((List.replicate i true).map V.bl))) ⟨same_new nD, upd_same⟩ ?_ ?_ ?_
        · rintro i H2 _ ⟨s2, _⟩
          exact ⟨SqT.of (s2 _ _ ea1), SqT.of (s2 _ _ eb1)⟩
        · rintro i v H2 H3 hi ⟨s2, eD⟩ ⟨T, x1, x2, rfl, nT, rfl, ex1, ex2⟩
          refine ⟨T, _, rfl, SqT.of upd_same, rfl, _, _, rfl, _, _, rfl, rfl, rfl, yes ?_⟩
          have s3 := s2.trans (same_new (o := .tup [x1, x2]) nT)
          refine ⟨_, rfl, _, rfl, x1, x2, rfl, (hk i x1 x2 ex1 ex2).mono (s1.trans s3), fun H4 s4 => ?_⟩
          have eD4 := s4 _ _ ((same_new (o := .tup [x1, x2]) nT) _ _ eD)
          refine ⟨_, eD4, sz' (by rw [List.length_map, List.length_replicate]; omega), Same.put (s3.trans s4) nD, ?_⟩
          rw [upd_same, List.replicate_succ', List.map_append]; rfl
        · rintro H2 ⟨s2, eD⟩
          refine ⟨D, _, rfl, SqL.of eD, ?_⟩
          rw [all_rep]
          exact q _ (s1.trans s2)
      · refine ⟨_, rfl, by show 2 ≤ sizeLine; decide, fun tp ntp => ?_⟩
        have s1 := nw (o := .tup [.ty "list", .ty "tuple"]) ntp
        have ea1 := s1 _ _ ea
        have eb1 := s1 _ _ eb
        refine ⟨_, tp, _, _, _, _, rfl, upd_same, .cons (.ty _) (.cons (.ty _) .nil), .base (.lst eb1), kany (a := true) (b := false) (kit_ty (by decide +kernel)) (kit_ty (by decide +kernel)), true, rfl, iteT ?_⟩
        refine ⟨_, rfl, _, _, _, _, true, rfl, .ty _, .base (.lst ea1), kit_ty (by decide +kernel), ?_⟩
        refine ⟨_, rfl, _, _, _, _, true, rfl, .ty _, .base (.lst eb1), kit_ty (by decide +kernel), rfl, false, rfl, iteF ?_⟩
        refine ⟨_, rfl, _, _, _, _, false, rfl, .ty _, .base (.lst ea1), kit_ty (by decide +kernel), ?_⟩
        refine ⟨_, rfl, _, _, _, _, false, rfl, .ty _, .base (.lst eb1), kit_ty (by decide +kernel), rfl, false, rfl, iteF ?_⟩
        refine ⟨_, rfl, a, xs, rfl, .inl (SqL.of ea1), _, rfl, b, ys, rfl, .inl (SqL.of eb1), rfl, _, rfl, ?_⟩
        rw [decide_eq_true (by rw [hl])]
        refine iteT ⟨_, rfl, _, rfl, a, b, xs, ys, rfl, .inl ⟨SqL.of ea1, SqL.of eb1, fun D nD => ?_⟩⟩
        refine lc_it (walk_zip (K := K) (a := a) (b := b) (xs := xs) (ys := ys) rfl) (fun i H2 => Same (upd H tp (.tup [.ty "list", .ty "tuple"])) H2 ∧ H2 D = some (.lst ((List.replicate i true).map V.bl))) ⟨same_new nD, upd_same⟩ ?_ ?_ ?_
        · rintro i H2 _ ⟨s2, _⟩
          exact ⟨SqL.of (s2 _ _ ea1), SqL.of (s2 _ _ eb1)⟩
        · rintro i v H2 H3 hi ⟨s2, eD⟩ ⟨T, x1, x2, rfl, nT, rfl, ex1, ex2⟩
          refine ⟨T, _, rfl, SqT.of upd_same, rfl, _, _, rfl, _, _, rfl, rfl, rfl, yes ?_⟩
          have s3 := s2.trans (same_new (o := .tup [x1, x2]) nT)
          refine ⟨_, rfl, _, rfl, x1, x2, rfl, (hk i x1 x2 ex1 ex2).mono (s1.trans s3), fun H4 s4 => ?_⟩
          have eD4 := s4 _ _ ((same_new (o := .tup [x1, x2]) nT) _ _ eD)
          refine ⟨_, eD4, sz' (by rw [List.length_map, List.length_replicate]; omega), Same.put (s3.trans s4) nD, ?_⟩
          rw [upd_same, List.replicate_succ', List.map_append]; rfl
        · rintro H2 ⟨s2, eD⟩
          refine ⟨D, _, rfl, SqL.of eD, ?_⟩
          rw [all_rep]
          exact q _ (s1.trans s2)
theorem ok_same {f : Addr} {fd : FuncData} (B : Bts mg) (F : Fun K "_law_same" "_law_same" s__law_same f fd) (hm : mg "_law_same" = some (.ref f)) (hb : Binds K fd ["_law_found", "_law_due"] []) :
    ∀ m, FnOk P w K mg base CX0 m f fd ["_law_found", "_law_due"] (sp_same m)
  | 0 => ⟨fun _ _ _ _ h => h.elim, fun _ _ _ _ _ _ _ _ _ _ _ _ _ h => h.elim⟩
  | m + 1 => ok_same1 B F (Cl.mk' F hm hb (ok_same B F hm hb m))
end
end My

set_option Elab.async false
set_option linter.all false
set_option maxRecDepth 100000
namespace My
open PySem PySem.Spec PyProof.Rows L2 GxR

/-! ### dict comprehensions over what is walked -/
theorem dc_it {J : It} {n : Nat} {G : Hp → Prop} {Y : Nat → Hp → V → Hp → Prop} (w : Walk J n G Y) {g : TG} {tt : TT} {tk tv : TE} {vs : List Nat} {σ : L2.St} {H1 : Hp} {D : Addr} {Qd : Hp → Prop} (Pv : Nat → Hp → Prop)
    (h0 : Pv 0 (upd H1 D (.dK []))) (hG : ∀ i H, i ≤ n → Pv i H → G H)
    (hs : ∀ i x H H', i < n → Pv i H → Y i H x H' → g x (wipe σ vs) H' fun σ2 H2 => wipe σ2 vs = wipe σ vs ∧ tt σ2 H2 fun b H3 =>
      if b = true then tk σ2 H3 fun y H4 => tv σ2 H4 fun z H5 => ∃ kvs k, y = kV k ∧ H5 D = some (.dK kvs) ∧ kvs.length < sizeLine ∧ Pv (i + 1) (upd H5 D (.dK (putK kvs k z))) else Pv (i + 1) H3)
    (hd : ∀ H, Pv n H → Qd H) :
    ∃ W : Nat → Nat → Hp → Prop, (∃ m, W 0 m (upd H1 D (.dK []))) ∧ ∀ i m H, W i m H → (J.stop i H ∧ Qd H) ∨
      (J.go i H ∧ ∃ Nx : Hp → Prop, (∀ H', Nx H' → ∃ m', m' < m ∧ W (i + 1) m' H') ∧ ∀ x H', J.yld i H x H' → g x (wipe σ vs) H' fun σ2 H2 => wipe σ2 vs = wipe σ vs ∧ tt σ2 H2 fun b H3 =>
        if b = true then tk σ2 H3 fun y H4 => tv σ2 H4 fun z H5 => ∃ kvs k, y = kV k ∧ H5 D = some (.dK kvs) ∧ kvs.length < sizeLine ∧ Nx (upd H5 D (.dK (putK kvs k z))) else Nx H3) := by
  refine ⟨fun i m H => m = n - i ∧ i ≤ n ∧ Pv i H, ⟨n, rfl, Nat.zero_le _, h0⟩, ?_⟩
  rintro i m H ⟨rfl, hi, p⟩
  have q := hG i H hi p
  by_cases hlt : i < n
  · exact .inr ⟨w.goes i H hlt q, Pv (i + 1), fun H' p' => ⟨n - (i + 1), by omega, rfl, hlt, p'⟩, fun x H' y => hs i x H H' hlt p (w.yields i H x H' hlt q y)⟩
  · have e : i = n := by omega
    subst e
    exact .inl ⟨w.stops H q, hd H p⟩

/-! ### what a dict tells behind a store -/
theorem valV_put {κ : Type} [DecidableEq κ] (kvs : List (κ × V)) (k : κ) (v : V) (j : κ) : valV (putK kvs k v) j = if j = k then some v else valV kvs j := by
  unfold putK
  by_cases h : (kvs.any fun kv => decide (kv.1 = k)) = true
  · rw [if_pos h]
    induction kvs with
    | nil => cases h
    | cons p r ih =>
      rw [List.map_cons]
      by_cases hp : p.1 = k
      · rw [if_pos hp]
        by_cases hj : j = k
        · rw [if_pos hj, valV_pos (by rw [hj]; exact hp)]
        · rw [if_neg hj, valV_neg (fun z => hj (by rw [← z]; exact hp)), valV_neg (fun z => hj (by rw [← z]; exact hp))]
          by_cases hr : (r.any fun kv => decide (kv.1 = k)) = true
          · have := ih hr
            rw [if_neg hj] at this
            exact this
          · have : (r.map fun kv => if kv.1 = k then (kv.1, v) else kv) = r := by
              clear ih h
              induction r with
              | nil => rfl
              | cons q s ih2 =>
                rw [List.any_cons, Bool.or_eq_true] at hr
                have h1 : ¬ q.1 = k := fun z => hr (.inl (decide_eq_true z))
                have h2 : ¬ (s.any fun kv => decide (kv.1 = k)) = true := fun z => hr (.inr z)
                rw [List.map_cons, if_neg h1, ih2 h2]
            rw [this]
      · rw [if_neg hp]
        rw [List.any_cons, decide_eq_false hp, Bool.false_or] at h
        have := ih h
        by_cases hj : p.1 = j
        · rw [valV_pos hj, valV_pos hj, if_neg (fun z => hp (by rw [hj]; exact z))]
        · rw [valV_neg hj, valV_neg hj]; exact this
  · rw [if_neg h]
    induction kvs with
    | nil =>
      rw [List.nil_append]
      by_cases hj : j = k
      · rw [if_pos hj, valV_pos hj.symm]
      · rw [if_neg hj, valV_neg (fun z => hj z.symm)]
    | cons p r ih =>
      rw [List.any_cons, Bool.or_eq_true] at h
      have h1 : ¬ p.1 = k := fun z => h (.inl (decide_eq_true z))
      have h2 : ¬ (r.any fun kv => decide (kv.1 = k)) = true := fun z => h (.inr z)
      rw [List.cons_append]
      by_cases hj : p.1 = j
      · rw [valV_pos hj, valV_pos hj, if_neg (fun z => h1 (by rw [hj]; exact z))]
      · rw [valV_neg hj, valV_neg hj]; exact ih h2
theorem len_put {κ : Type} [DecidableEq κ] (kvs : List (κ × V)) (k : κ) (v : V) : (putK kvs k v).length ≤ kvs.length + 1 := by
  unfold putK
  split
  · rw [List.length_map]; exact Nat.le_succ _
  · rw [List.length_append]; exact Nat.le_refl _

/-! ### rising lists of places, parts of webs -/
def Ris (n : Nat) (pl : List Int) : Prop := pl.Pairwise (· < ·) ∧ ∀ p ∈ pl, 0 ≤ p ∧ p < (n : Int)
theorem Ris.nodup {n : Nat} {pl : List Int} (h : Ris n pl) : pl.Nodup := List.nodup_iff_pairwise_ne.mpr (h.1.imp fun {a b} z e => by omega)
theorem Ris.len {n : Nat} {pl : List Int} (h : Ris n pl) : pl.length ≤ n := by
  have := nd_len (m := up n) h.nodup fun x hx => mem_up.mpr (h.2 x hx)
  rwa [up_len] at this
theorem idx_get {pl : List Int} {a : Int} (h : a ∈ pl) : pl[pl.idxOf a]? = some a := by
  have hl := List.idxOf_lt_length_of_mem h
  rw [List.getElem?_eq_getElem hl, List.getElem_idxOf hl]
theorem idx_of {pl : List Int} (nd : pl.Nodup) {i : Nat} {a : Int} (h : pl[i]? = some a) : pl.idxOf a = i := by
  obtain ⟨hi, e⟩ := List.getElem?_eq_some_iff.mp h
  have hm : a ∈ pl := List.mem_of_getElem? h
  have hl := List.idxOf_lt_length_of_mem hm
  have e2 := List.getElem_idxOf hl
  have pw := List.pairwise_iff_getElem.mp (List.nodup_iff_pairwise_ne.mp nd)
  rcases Nat.lt_trichotomy (pl.idxOf a) i with z | z | z
  · exact absurd (e2.trans e.symm) (pw _ _ hl hi z)
  · exact z
  · exact absurd (e.trans e2.symm) (pw _ _ hi hl z)
theorem ris_lt {n : Nat} {pl : List Int} (h : Ris n pl) {i j : Nat} {a b : Int} (hi : pl[i]? = some a) (hj : pl[j]? = some b) : i < j ↔ a < b := by
  obtain ⟨li, ei⟩ := List.getElem?_eq_some_iff.mp hi
  obtain ⟨lj, ej⟩ := List.getElem?_eq_some_iff.mp hj
  have pw := List.pairwise_iff_getElem.mp h.1
  constructor
  · intro z
    have := pw i j li lj z
    omega
  · intro z
    rcases Nat.lt_trichotomy i j with c | c | c
    · exact c
    · subst c; omega
    · have := pw j i lj li c
      omega
def partL (ts : List (Int × Int)) (pl : List Int) : List (Int × Int) :=
  (ts.filter fun t => decide (t.1 ∈ pl) && decide (t.2 ∈ pl)).map fun t => ((pl.idxOf t.1 : Int), (pl.idxOf t.2 : Int))
theorem mem_part {ts : List (Int × Int)} {pl : List Int} (nd : pl.Nodup) {t : Int × Int} : t ∈ partL ts pl ↔
    ∃ (i j : Nat) (a b : Int), t = ((i : Int), (j : Int)) ∧ pl[i]? = some a ∧ pl[j]? = some b ∧ (a, b) ∈ ts := by
  unfold partL
  rw [List.mem_map]
  constructor
  · rintro ⟨s, hs, rfl⟩
    obtain ⟨h1, h2⟩ := List.mem_filter.mp hs
    rw [Bool.and_eq_true, decide_eq_true_eq, decide_eq_true_eq] at h2
    exact ⟨_, _, s.1, s.2, rfl, idx_get h2.1, idx_get h2.2, h1⟩
  · rintro ⟨i, j, a, b, rfl, hi, hj, h⟩
    refine ⟨(a, b), List.mem_filter.mpr ⟨h, ?_⟩, ?_⟩
    · rw [Bool.and_eq_true, decide_eq_true_eq, decide_eq_true_eq]
      exact ⟨List.mem_of_getElem? hi, List.mem_of_getElem? hj⟩
    · dsimp only
      rw [idx_of nd hi, idx_of nd hj]
theorem part_pw {n : Nat} {ts : List (Int × Int)} {pl : List Int} (hp : Ris n pl) (hw : ts.Pairwise ltT) : (partL ts pl).Pairwise ltT := by
  unfold partL
  rw [List.pairwise_map]
  refine (hw.sublist List.filter_sublist).imp_of_mem fun {s t} hs ht h => ?_
  have h1 := (List.mem_filter.mp hs).2
  have h2 := (List.mem_filter.mp ht).2
  rw [Bool.and_eq_true, decide_eq_true_eq, decide_eq_true_eq] at h1 h2
  have l1 := ris_lt hp (idx_get h1.1) (idx_get h2.1)
  have l2 := ris_lt hp (idx_get h1.2) (idx_get h2.2)
  rcases h with h | ⟨h, k⟩
  · exact .inl (by have := l1.mpr h; dsimp only; omega)
  · refine .inr ⟨by dsimp only; rw [h], ?_⟩
    have := l2.mpr k
    dsimp only; omega
theorem part_wok {n : Nat} {ts : List (Int × Int)} {pl : List Int} (hp : Ris n pl) (hw : WOk n ts) : WOk pl.length (partL ts pl) := by
  refine ⟨part_pw hp hw.1, fun t ht => ?_⟩
  obtain ⟨i, j, a, b, rfl, hi, hj, h⟩ := (mem_part hp.nodup).mp ht
  have hb := hw.2 _ h
  have l := ris_lt hp hi hj
  have := l.mpr hb.2.1
  have := (List.getElem?_eq_some_iff.mp hj).1
  dsimp only
  omega
theorem part_len {ts : List (Int × Int)} {pl : List Int} : (partL ts pl).length ≤ ts.length := by
  unfold partL; rw [List.length_map]; exact List.length_filter_le _ _
theorem ris_up (n : Nat) : Ris n (up n) := by
  refine ⟨?_, fun p hp => mem_up.mp hp⟩
  unfold up
  rw [List.pairwise_map]
  exact List.pairwise_lt_range.imp fun h => by omega
theorem up_get {n i : Nat} (h : i < n) : (up n)[i]? = some (i : Int) := by
  unfold up
  rw [List.getElem?_map, List.getElem?_range h]; rfl
theorem part_up {n : Nat} {ts : List (Int × Int)} (hw : WOk n ts) : partL ts (up n) = ts := by
  refine pw_eq (part_pw (ris_up n) hw.1) hw.1 fun t => ?_
  rw [mem_part (ris_up n).nodup]
  constructor
  · rintro ⟨i, j, a, b, rfl, hi, hj, h⟩
    have li : i < n := by have := (List.getElem?_eq_some_iff.mp hi).1; rwa [up_len] at this
    have lj : j < n := by have := (List.getElem?_eq_some_iff.mp hj).1; rwa [up_len] at this
    rw [up_get li] at hi
    rw [up_get lj] at hj
    cases hi; cases hj
    exact h
  · intro h
    have b := hw.2 t h
    refine ⟨t.1.toNat, t.2.toNat, t.1, t.2, ?_, ?_, ?_, h⟩
    · cases t with | mk x y => dsimp only at b ⊢; congr 1 <;> omega
    · rw [up_get (by omega)]; congr 1; omega
    · rw [up_get (by omega)]; congr 1; omega
theorem part_nil (ts : List (Int × Int)) : partL ts [] = [] := by
  unfold partL
  have : (ts.filter fun t => decide (t.1 ∈ ([] : List Int)) && decide (t.2 ∈ ([] : List Int))) = [] := by
    rw [List.filter_eq_nil_iff]; intro a _; simp
  rw [this]; rfl
/-- some of the places -/
def pick (pl inn : List Int) : List Int := inn.map fun p => pl.getD p.toNat 0
theorem pick_get {pl inn : List Int} {n : Nat} (hi : Ris pl.length inn) {i : Nat} {p : Int} (h : inn[i]? = some p) : ∃ a, pl[p.toNat]? = some a ∧ (pick pl inn)[i]? = some a := by
  have b := hi.2 p (List.mem_of_getElem? h)
  have hl : p.toNat < pl.length := by omega
  refine ⟨pl[p.toNat], List.getElem?_eq_getElem hl, ?_⟩
  unfold pick
  rw [List.getElem?_map, h]
  show some (pl.getD p.toNat 0) = _
  rw [List.getD_eq_getElem?_getD, List.getElem?_eq_getElem hl]; rfl
theorem pick_ris {n : Nat} {pl inn : List Int} (hp : Ris n pl) (hi : Ris pl.length inn) : Ris n (pick pl inn) := by
  refine ⟨?_, fun x hx => ?_⟩
  · rw [List.pairwise_iff_getElem]
    intro i j li lj hij
    have li' : i < inn.length := by unfold pick at li; rwa [List.length_map] at li
    have lj' : j < inn.length := by unfold pick at lj; rwa [List.length_map] at lj
    obtain ⟨a, ha, ga⟩ := pick_get (n := n) hi (List.getElem?_eq_getElem li')
    obtain ⟨b, hb, gb⟩ := pick_get (n := n) hi (List.getElem?_eq_getElem lj')
    rw [List.getElem?_eq_getElem li] at ga
    rw [List.getElem?_eq_getElem lj] at gb
    have e1 := Option.some.inj ga
    have e2 := Option.some.inj gb
    rw [e1, e2]
    have := (List.pairwise_iff_getElem.mp hi.1) i j li' lj' hij
    have b1 := hi.2 _ (List.getElem_mem li')
    have b2 := hi.2 _ (List.getElem_mem lj')
    exact (ris_lt hp ha hb).mp (by omega)
  · unfold pick at hx
    obtain ⟨p, hp', rfl⟩ := List.mem_map.mp hx
    have b := hi.2 p hp'
    have hl : p.toNat < pl.length := by omega
    rw [List.getD_eq_getElem?_getD, List.getElem?_eq_getElem hl]
    exact hp.2 _ (List.getElem_mem hl)
theorem part_part {n : Nat} {ts : List (Int × Int)} {pl inn : List Int} (hw : ts.Pairwise ltT) (hp : Ris n pl) (hi : Ris pl.length inn) :
    partL (partL ts pl) inn = partL ts (pick pl inn) := by
  have hq := pick_ris hp hi
  refine pw_eq (part_pw hi (part_pw hp hw)) (part_pw hq hw) fun t => ?_
  rw [mem_part hi.nodup, mem_part hq.nodup]
  constructor
  · rintro ⟨i, j, a, b, rfl, h1, h2, h3⟩
    obtain ⟨i', j', a', b', e, k1, k2, k3⟩ := (mem_part hp.nodup).mp h3
    cases e
    obtain ⟨x, hx, gx⟩ := pick_get (n := n) hi h1
    obtain ⟨y, hy, gy⟩ := pick_get (n := n) hi h2
    rw [Int.toNat_natCast, k1] at hx
    rw [Int.toNat_natCast, k2] at hy
    cases hx; cases hy
    exact ⟨i, j, _, _, rfl, gx, gy, k3⟩
  · rintro ⟨i, j, a, b, rfl, h1, h2, h3⟩
    have li : i < inn.length := by have := (List.getElem?_eq_some_iff.mp h1).1; unfold pick at this; rwa [List.length_map] at this
    have lj : j < inn.length := by have := (List.getElem?_eq_some_iff.mp h2).1; unfold pick at this; rwa [List.length_map] at this
    obtain ⟨x, hx, gx⟩ := pick_get (n := n) hi (List.getElem?_eq_getElem li)
    obtain ⟨y, hy, gy⟩ := pick_get (n := n) hi (List.getElem?_eq_getElem lj)
    rw [h1] at gx
    rw [h2] at gy
    cases gx; cases gy
    have b1 := hi.2 _ (List.getElem_mem li)
    have b2 := hi.2 _ (List.getElem_mem lj)
    refine ⟨i, j, inn[i], inn[j], rfl, List.getElem?_eq_getElem li, List.getElem?_eq_getElem lj, (mem_part hp.nodup).mpr ⟨inn[i].toNat, inn[j].toNat, a, b, ?_, hx, hy, h3⟩⟩
    congr 1 <;> omega
end My

set_option Elab.async false
set_option linter.all false
set_option maxRecDepth 100000
namespace My
open PySem PySem.Spec PyProof.Rows L2 GxR

/-! ### dict comprehensions with keys of any kind (DPut) -/
section
variable {X : Cx}
theorem d_dictPut {pins : List (Addr × Obj)} {σ : L2.St} {H H' : Hp} {s : Shared} {E : Value → Shared → Prop} {D : Addr} {y v : V} {u r : Value} {Q : Unit → Shared → Prop} (hu : X.A.units + 1 < cLine) (I : Inv X pins σ H s) (g : DPut H D y v H')
    (ry : RelV y u) (rv : RelV v r) (h : ∀ s', Inv X pins σ H' s' → Q () s') : wpAny (model X.prog X.w) X.A (dictSet D u r) Q E s := by
  rcases g with ⟨kvs, k, e, rfl, l, rfl⟩ | ⟨kvs, k, b, e, rfl, eb, l, rfl⟩
  · exact d_dictSet I e l ry rv h
  · cases (show u = Value.ref b from ry)
    obtain ⟨z, hd, xs, rel, dd⟩ := dt_of I.hok e
    have hz : xs.length ≤ sizeLine := by
      rw [← Paired.length rel]; exact z
    have hp := length_putK kvs k v
    refine wpAny_dictSet_heap (hsz := hz) (show X.A.units < cLine from Nat.lt_of_succ_lt hu) (L2.key_of I.hok eb) dd fun h' dd' hs => h _ ?_
    obtain ⟨q, es, ep, hq, h2, h3, h4, _, h5⟩ := dd'
    refine d_write I (by rw [e]; exact True.intro) hs ⟨q, hq⟩ ⟨by omega, hd, _, (rel.put k eb rv).keeps fun c ys ec => ?_, q, es, ep, hq, h2, h3, h4, h5⟩
    rw [upd_ne (ne_of ec e (fun z => nomatch z))]; exact ec
/-- the turn behind what is yielded -/
def dcStep (g : TG) (tt : TT) (tk tv : TE) (vs : List Nat) (σ : L2.St) (D : Addr) (Nx : Hp → Prop) (x : V) (H' : Hp) : Prop :=
  g x (wipe σ vs) H' fun σ2 H2 => wipe σ2 vs = wipe σ vs ∧ tt σ2 H2 fun b H3 => if b = true then tk σ2 H3 fun y H4 => tv σ2 H4 fun z H5 => ∃ H6, DPut H5 D y z H6 ∧ Nx H6 else Nx H3
def tDcP (o0 : HO) (wi : TI) (g : TG) (tt : TT) (tk tv : TE) (vs : List Nat) : TE := fun σ H Q => wi σ H fun J H1 => ∀ D, H1 D = none → ∃ W : Nat → Nat → Hp → Prop, (∃ m, W 0 m (upd H1 D o0)) ∧ ∀ i m H, W i m H →
  (J.stop i H ∧ Q (.ref D) H) ∨ (J.go i H ∧ ∃ Nx : Hp → Prop, (∀ H', Nx H' → ∃ m', m' < m ∧ W (i + 1) m' H') ∧ ∀ x H', J.yld i H x H' → dcStep g tt tk tv vs σ D Nx x H')
/-- a new empty dict may be read so -/
def Empt (o0 : HO) : Prop := ∀ (P : Program) (w : World) (H : Hp) (h : Heap), sysModules < h.objs.size → ObjOk P w H (h.push { cls := .type "dict", data := .dict #[] }) h.objs.size o0
theorem empt_dK : Empt (.dK []) := fun _ _ _ h hb => dk_empty h hb
theorem empt_dT : Empt (.dT []) := fun _ _ _ h hb => dt_empty h hb
abbrev inCell (X : Cx) (s : Shared) (scope : Scope) : Env := compEnvC scope (cellsFrom (s.heap.objs.size + 1) scope.names (cloFrom X.env.cells scope.names [])) s.heap.objs.size X.env
theorem pe_dcP {o0 : HO} {kx vx tg iter : Expr} {ifs : List Expr} {scope : Scope} {own : List (Str × Nat)} {pos : Pos} {wi : TI} {g : TG} {tt : TT} {tk tv : TE} (em : Empt o0) (hu : X.A.units + 1 < cLine) (hc : X.calm = true) (hN : X.N.Nodup) (hi : PI X tg iter wi) (ok : BlkOk X.N X.env.scope scope own)
    (hg : ∀ (s : Shared) (H : Hp) (C : Addr) (cl : List (Str × Addr)) (fp : List Addr), PG (X.blk s H scope (compEnvC scope cl C X.env) fp) tg g)
    (ht : ∀ (s : Shared) (H : Hp) (C : Addr) (cl : List (Str × Addr)) (fp : List Addr), PTs (X.blk s H scope (compEnvC scope cl C X.env) fp) ifs tt)
    (hk : ∀ (s : Shared) (H : Hp) (C : Addr) (cl : List (Str × Addr)) (fp : List Addr), PE (X.blk s H scope (compEnvC scope cl C X.env) fp) kx tk)
    (he : ∀ (s : Shared) (H : Hp) (C : Addr) (cl : List (Str × Addr)) (fp : List Addr), PE (X.blk s H scope (compEnvC scope cl C X.env) fp) vx tv) (hs : ∀ x, foldedSetIterable iter X.env x = pure x := by intro _; rfl) :
    PE X (.DictComp kx vx [⟨tg, iter, ifs, 0⟩] scope pos) (tDcP o0 wi g tt tk tv (own.map (·.2))) := by
  refine ⟨fun pins s σ H Q I h => ?_⟩
  rw [arm_eval_DictComp]
  have fr : ∀ y ∈ scope.names, y.2 = .free → ∃ c, X.env.cells.lookup y.1 = some c := fun y hy e => (ok.free y hy e).elim (fun k => I.ok.has _ (.inl k)) fun k => I.ok.has _ (.inr k)
  refine wpAny_comprehension_free rfl hs (closure_ok fr) ok.kind (fun y hy e => by rw [ok.uniq y hy, e]) ?_
  refine thn (hi.run pins s σ H _ I h) fun _ _ hx => thn hx fun _ s2 h2 => ?_
  obtain ⟨it, fp, tn, J, H2, rfl, I2, T, st2, f2, q⟩ := h2
  refine wpAny_newObj_type (newEnv_comp ?_)
  generalize hD : s2.heap.objs.size = D
  obtain ⟨W, ⟨m0, w0⟩, turn⟩ := q D (I2.hok.fresh (Nat.le_of_eq hD))
  generalize hs3 : (⟨s2.heap.push { cls := .type "dict", data := .dict #[] }, s2.gens, s2.drawn, s2.toks, s2.os⟩ : Shared) = s3
  have I3 : Inv X pins σ (upd H2 D o0) s3 := by
    rw [← hs3]
    refine I2.laid (t' := s2.toks) (fun b o e => Heap.get?_push_of_some _ e) (Nat.le_of_eq hD) ?_
    rw [← hD]; exact em _ _ _ _ I2.big
  have h3 : s3.heap = s2.heap.push { cls := .type "dict", data := .dict #[] } := by rw [← hs3]
  have f3 : ∀ b ∈ fp, FpOk X pins (upd H2 D o0) b ∧ b < s3.heap.objs.size := fun b hb => by
    obtain ⟨o, e, _⟩ := T.obj _ _ st2 b hb
    have hlt := Heap.lt_size e
    refine ⟨⟨?_, (f2 b hb).2⟩, by rw [h3, Heap.size_push]; exact Nat.lt_succ_of_lt hlt⟩
    rw [upd_ne (by rw [← hD]; exact Nat.ne_of_lt hlt)]; exact (f2 b hb).1
  have st3 : tn 0 s3.heap := T.keep _ _ _ st2 fun b _ o e => by rw [h3]; exact Heap.get?_push_of_some _ e
  have I4 := block_start I3 ok hN f3
  have pg := hg s3 (upd H2 D o0) s3.heap.objs.size (cellsFrom (s3.heap.objs.size + 1) scope.names (cloFrom X.env.cells scope.names [])) fp
  have pt := ht s3 (upd H2 D o0) s3.heap.objs.size (cellsFrom (s3.heap.objs.size + 1) scope.names (cloFrom X.env.cells scope.names [])) fp
  have pk := hk s3 (upd H2 D o0) s3.heap.objs.size (cellsFrom (s3.heap.objs.size + 1) scope.names (cloFrom X.env.cells scope.names [])) fp
  have pe := he s3 (upd H2 D o0) s3.heap.objs.size (cellsFrom (s3.heap.objs.size + 1) scope.names (cloFrom X.env.cells scope.names [])) fp
  refine (?_ : codeAny _ _ (.compStart (.DictComp kx vx [⟨tg, iter, ifs, 0⟩] scope pos) 0 (.ref it) (.ref D) (inCell X s3 scope)) (compPost (model X.prog X.w) X.A X.xe none (fun v s' => ∃ x H', Inv X pins σ H' s' ∧ RelV x v ∧ Q x H') (.ref D) s3.heap.objs.size) { s3 with heap := pushCells (s3.heap.push { cls := .type "dict", data := .dict #[] }) scope.names })
  have nfp : ∀ b ∈ fp, (upd H2 D o0) b = none := fun b hb => (f3 b hb).1.1
  obtain ⟨ce, hce⟩ : ∃ ce, inCell X s3 scope = ce := ⟨_, rfl⟩
  have cL : ce.locals = s3.heap.objs.size := by rw [← hce]; rfl
  rw [show compEnvC scope (cellsFrom (s3.heap.objs.size + 1) scope.names (cloFrom X.env.cells scope.names [])) s3.heap.objs.size X.env = ce from hce] at I4 pg pt pk pe
  rw [hce]
  generalize upd H2 D o0 = H3 at I3 I4 pg pt pk pe w0 nfp f3
  obtain ⟨s4, hs4⟩ : ∃ s4 : Shared, { s3 with heap := pushCells (s3.heap.push { cls := .type "dict", data := .dict #[] }) scope.names } = s4 := ⟨_, rfl⟩
  rw [hs4] at I4 ⊢
  have st4 : tn 0 s4.heap := T.keep _ _ _ st3 fun b _ o e => by
    rw [← hs4]; exact pushCells_keeps _ _ _ _ (Heap.get?_push_of_some _ e)
  let Y := X.blk s3 H3 scope ce fp
  have stat : ∀ {σ' : L2.St} {H' : Hp} {s' : Shared}, Inv Y [] σ' H' s' → (∀ b ∈ fp, H' b = none) → ∀ b ∈ fp, FpOk Y [] H' b := fun {σ' H' s'} I' hn b hb =>
    ⟨hn b hb, (I'.ok.exf b hb).1, I'.ok.exfs b hb, .inl hb, fun x c e => (I'.ok.exf b hb).2 x c e, fun p hp => absurd (show p ∈ ([] : List (Addr × Obj)) ++ [] from hp) (by simp)⟩
  let Z : Nat → Shared → Prop := fun n s' => ∃ i H', Inv Y [] (wipe σ (own.map (·.2))) H' s' ∧ tn i s'.heap ∧ (∀ b ∈ fp, H' b = none) ∧ W i n H'
  have loop : codeAny (model X.prog X.w) X.A (.compLoop (.DictComp kx vx [⟨tg, iter, ifs, 0⟩] scope pos) 0 (.ref it) (.ref D) ce) (compPost (model X.prog X.w) X.A X.xe none (fun v s' => ∃ x H', Inv X pins σ H' s' ∧ RelV x v ∧ Q x H') (.ref D) s3.heap.objs.size) s4 := by
    refine compLoop_anyD Z ?_ m0 ⟨0, H3, I4, st4, nfp, w0⟩
    rintro n s5 ⟨i, H5, I5, st5, n5, w5⟩
    rcases turn i n H5 w5 with ⟨stop, qq⟩ | ⟨go, Nx, hNx, step⟩
    · refine thnF (T.done Y rfl rfl rfl hc i [] s5 _ H5 (fun _ _ => False) I5 (stat I5 n5) st5 stop) fun r s6 ⟨hr, I6⟩ => ?_
      subst hr
      have I7 : Inv X pins σ H5 s6 := I3.call' (ch := fp) I6.os I6.base I6.hok I6.bare fun b hb => (fun (z : FpOk X pins H3 b) => ⟨z.2.2.2.1, z.2.1, z.2.2.2.2.1, z.2.2.2.2.2⟩) (f3 b hb).1
      have nC : H5 s3.heap.objs.size = none := by
        rw [← cL]; exact I6.free
      obtain ⟨m, hn, _⟩ := I6.loc
      have hn' : s6.heap.Ns s3.heap.objs.size m := by
        rw [← cL]; exact hn
      obtain ⟨e0, e1, e2, e3, e4, e5⟩ : FpOk X pins H5 s3.heap.objs.size := I3.fpOk (Nat.le_refl _) nC
      exact ⟨m, hn', fun h'' sb => ⟨.ref D, H5, I7.turned (t' := s6.toks) (fun b o hb e => (sb.2 b hb).trans e) e0 e1 e3 e4 e5, rfl, qq⟩⟩
    · refine thnF (T.item Y rfl rfl rfl hc i [] s5 _ H5 (fun _ _ => False) I5 (stat I5 n5) st5 go) fun r s6 ⟨u, hr, h6⟩ => ?_
      subst hr
      refine thnF h6 fun _ s7 ⟨x, H7, I7, r7, y7, st7, n7⟩ => ?_
      refine thnF (pg.run _ s7 _ H7 x u _ (I7.pinned (stat I7 n7) (T.obj _ _ st7)) r7 (step x H7 y7)) fun _ s8 ⟨σ8, H8, I8, hw8, q8⟩ => ?_
      refine thnF (pt.run _ s8 σ8 H8 _ I8 q8) fun b s9 ⟨H9, I9, q9⟩ => ?_
      have fin : ∀ {s' : Shared} {H' : Hp}, Inv Y ([] ++ pinsAt fp s7.heap) σ8 H' s' → Nx H' → ∃ m, m < n ∧ Z m s' := fun {s' H'} I' nx => by
        obtain ⟨m', hm, w'⟩ := hNx H' nx
        have pin' : ∀ b ∈ fp, ∀ o, s7.heap.get? b = some o → s'.heap.get? b = some o ∧ H' b = none := fun b hb o e =>
          (fun z => ⟨z.1, z.2.1⟩) (I'.pin (b, o) (List.mem_append_right _ (List.mem_append_right _ (mem_pinsAt hb e))))
        have hl : (wipe σ (own.map (·.2))).length = σ8.length := by rw [← hw8, wipe_length]
        refine ⟨m', hm, i + 1, H', (I'.unpinned (pins := [])).weak hl (fun j v e => by rw [← hw8] at e; exact (wipe_some e).1), T.keep _ _ _ st7 fun b hb o e => (pin' b hb o e).1, fun b hb => ?_, w'⟩
        obtain ⟨o, e, _⟩ := T.obj _ _ st7 b hb
        exact (pin' b hb o e).2
      cases b with
      | false => exact fin I9 q9
      | true =>
        refine thnF (pk.run _ s9 σ8 H9 _ I9 q9) fun z s10 ⟨yk, H10, I10, r10, q10⟩ => ?_
        refine thnF (pe.run _ s10 σ8 H10 _ I10 q10) fun z2 s11 ⟨yv, H11, I11, r11, H12, pu, nx⟩ => ?_
        exact d_dictPut (X := Y) hu I11 pu r10 r11 fun s12 I12 => fin I12 nx
  exact codeAny_compStart_dict loop (T.self X.A 0 _ _ _ st4 loop)
end
theorem dcP_it {o0 : HO} {J : It} {n : Nat} {G : Hp → Prop} {Y : Nat → Hp → V → Hp → Prop} (w : Walk J n G Y) {g : TG} {tt : TT} {tk tv : TE} {vs : List Nat} {σ : L2.St} {H1 : Hp} {D : Addr} {Qd : Hp → Prop} (Pv : Nat → Hp → Prop)
    (h0 : Pv 0 (upd H1 D o0)) (hG : ∀ i H, i ≤ n → Pv i H → G H) (hs : ∀ i x H H', i < n → Pv i H → Y i H x H' → dcStep g tt tk tv vs σ D (Pv (i + 1)) x H') (hd : ∀ H, Pv n H → Qd H) :
    ∃ W : Nat → Nat → Hp → Prop, (∃ m, W 0 m (upd H1 D o0)) ∧ ∀ i m H, W i m H → (J.stop i H ∧ Qd H) ∨
      (J.go i H ∧ ∃ Nx : Hp → Prop, (∀ H', Nx H' → ∃ m', m' < m ∧ W (i + 1) m' H') ∧ ∀ x H', J.yld i H x H' → dcStep g tt tk tv vs σ D Nx x H') := by
  refine ⟨fun i m H => m = n - i ∧ i ≤ n ∧ Pv i H, ⟨n, rfl, Nat.zero_le _, h0⟩, ?_⟩
  rintro i m H ⟨rfl, hi, p⟩
  have q := hG i H hi p
  by_cases hlt : i < n
  · exact .inr ⟨w.goes i H hlt q, Pv (i + 1), fun H' p' => ⟨n - (i + 1), by omega, rfl, hlt, p'⟩, fun x H' y => hs i x H H' hlt p (w.yields i H x H' hlt q y)⟩
  · have e : i = n := by omega
    subst e
    exact .inl ⟨w.stops H q, hd H p⟩
/-! ### one walker for all -/
theorem wk {J : It} {n : Nat} {G : Hp → Prop} {Y : Nat → Hp → V → Hp → Prop} (w : Walk J n G Y) {S : (Hp → Prop) → V → Hp → Prop} {H1 : Hp} {Qd : Hp → Prop} (Pv : Nat → Hp → Prop)
    (h0 : Pv 0 H1) (hG : ∀ i H, i ≤ n → Pv i H → G H) (hs : ∀ i x H H', i < n → Pv i H → Y i H x H' → S (Pv (i + 1)) x H') (hd : ∀ H, Pv n H → Qd H) :
    ∃ W : Nat → Nat → Hp → Prop, (∃ m, W 0 m H1) ∧ ∀ i m H, W i m H → (J.stop i H ∧ Qd H) ∨
      (J.go i H ∧ ∃ Nx : Hp → Prop, (∀ H', Nx H' → ∃ m', m' < m ∧ W (i + 1) m' H') ∧ ∀ x H', J.yld i H x H' → S Nx x H') := by
  refine ⟨fun i m H => m = n - i ∧ i ≤ n ∧ Pv i H, ⟨n, rfl, Nat.zero_le _, h0⟩, ?_⟩
  rintro i m H ⟨rfl, hi, p⟩
  have q := hG i H hi p
  by_cases hlt : i < n
  · exact .inr ⟨w.goes i H hlt q, Pv (i + 1), fun H' p' => ⟨n - (i + 1), by omega, rfl, hlt, p'⟩, fun x H' y => hs i x H H' hlt p (w.yields i H x H' hlt q y)⟩
  · have e : i = n := by omega
    subst e
    exact .inl ⟨w.stops H q, hd H p⟩

end My

set_option Elab.async false
set_option linter.all false
set_option maxRecDepth 100000
namespace My
open PySem PySem.Spec PyProof.Rows L2 GxR

/-! ### dicts with tuple keys: update, dict(pairs) -/
def mergeT (kvs more : List (List Key × V)) : List (List Key × V) := more.foldl (fun acc kv => putK acc kv.1 kv.2) kvs
theorem kt_merge {H : Hp} : ∀ {more : List (List Key × V)} {ys : List (List Key × Addr × Value)} {kvs : List (List Key × V)} {xs : List (List Key × Addr × Value)}, KT H more ys → KT H kvs xs → KT H (mergeT kvs more) (storedAllH xs ys)
  | _, _, _, _, .nil, q => q
  | _, _, kvs, xs, .cons (a := p) (b := q) (l₁ := l) (l₂ := m) h t, r => by
    obtain ⟨h1, h2, h3⟩ := h
    have z := KT.put r p.1 (b := q.2.1) h2 h3
    rw [show storedH xs p.1 q.2.1 q.2.2 = storedH xs q.1 q.2.1 q.2.2 from by rw [h1]] at z
    have w : KT H (mergeT (putK kvs p.1 p.2) l) (storedAllH (storedH xs q.1 q.2.1 q.2.2) m) := kt_merge t z
    exact w
theorem len_mergeT : ∀ (more kvs : List (List Key × V)), (mergeT kvs more).length ≤ kvs.length + more.length
  | [], _ => Nat.le_refl _
  | p :: m, kvs => by
    have h1 := len_mergeT m (putK kvs p.1 p.2)
    have h2 := length_putK kvs p.1 p.2
    rw [List.length_cons]
    show (mergeT (putK kvs p.1 p.2) m).length ≤ _
    omega
theorem valV_mergeT (j : List Key) : ∀ (more kvs : List (List Key × V)), (valV (mergeT kvs more) j).isSome = ((valV kvs j).isSome || (valV more j).isSome)
  | [], kvs => by rw [show valV ([] : List (List Key × V)) j = none from rfl]; exact (Bool.or_false _).symm
  | p :: m, kvs => by
    show (valV (mergeT (putK kvs p.1 p.2) m) j).isSome = _
    rw [valV_mergeT j m, valV_put]
    by_cases h : j = p.1
    · rw [if_pos h, valV_pos h.symm]; simp
    · rw [if_neg h, valV_neg (fun z => h z.symm)]
/-- the keys' hashes differ -/
def Apart (w : World) (more : List (List Key × V)) : Prop := (more.map fun kv => reduceHash (Builtin.Tuple.tupleHashOf (kv.1.map (keyH w)))).Nodup
theorem kt_hash {P : Program} {w : World} {H : Hp} : ∀ {more : List (List Key × V)} {ys : List (List Key × Addr × Value)}, KT H more ys → (ys.map fun x => (tupleKind (mixKind P w)).hash x.1) = more.map fun kv => reduceHash (Builtin.Tuple.tupleHashOf (kv.1.map (keyH w)))
  | _, _, .nil => rfl
  | _, _, .cons (a := p) (b := q) h t => by
    rw [List.map_cons, List.map_cons, kt_hash t]
    have e : q.1 = p.1 := h.1.symm
    rw [e]; rfl
section
variable {X : Cx}
def rUpdT (w : World) : V → List V → Hp → VK → Prop := fun x xs H Q => ∃ a b kvs ms, x = .ref a ∧ xs = [.ref b] ∧ H a = some (.dT kvs) ∧ H b = some (.dT ms) ∧ a ≠ b ∧ kvs.length + ms.length ≤ sizeLine ∧ (kvs ≠ [] ∨ Apart w ms) ∧ Q .non (upd H a (.dT (mergeT kvs ms)))
theorem mt_updT (hu : X.A.units + 65 < cLine) : MtR X "dict.update" (rUpdT X.w) := by
  intro pins s σ H x xs v us Q I rx rs h
  obtain ⟨a, b, kvs, ms, rfl, rfl, ea, eb, hab, hz, hap, q⟩ := h
  cases rx
  obtain ⟨u, rfl, ru⟩ := vals1 rs
  cases ru
  obtain ⟨za, ha, xa, ra, da⟩ := dt_of I.hok ea
  obtain ⟨zb, hb, xb, rb, db⟩ := dt_of I.hok eb
  have la : xa.length = kvs.length := (Paired.length ra).symm
  have lb : xb.length = ms.length := (Paired.length rb).symm
  have hl : (mergeT kvs ms).length ≤ sizeLine := Nat.le_trans (len_mergeT ms kvs) hz
  refine call_update_dictH (tupleKind_room_in1 (by omega : X.A.units + 1 < cLine)) hab hb da db ?_ (by omega) fun h' dd' _ hs => ?_
  · rcases hap with hap | hap
    · refine .inl fun z => hap ?_
      rw [z] at la
      exact List.eq_nil_of_length_eq_zero la.symm
    · refine .inr ⟨fun y hy => ?_, by rw [kt_hash rb]; exact hap⟩
      obtain ⟨o, es, ep, _, _, _, _, his, _⟩ := db
      obtain ⟨o', items, n, e1, e2, _⟩ := his y hy
      exact ⟨o', e1, e2⟩
  · obtain ⟨q', es, ep, hq, h2, h3, h4, _, h5⟩ := dd'
    refine ⟨.non, upd H a (.dT (mergeT kvs ms)), d_write (t' := s.toks) I (by rw [ea]; exact True.intro) hs ⟨q', hq⟩ ⟨hl, ha, _, (kt_merge rb ra).keeps fun c ys ec => ?_, q', es, ep, hq, h2, h3, h4, h5⟩, rfl, q⟩
    rw [upd_ne (ne_of ec ea (fun z => nomatch z))]; exact ec

/-- dict(xs) of a list of pairs (tuple, value) -/
def rDictPT (K : PySem.W.Frag) : List V → Hp → VK → Prop := fun xs H Q => ∃ (a : Addr) (ps : List Addr) (kvs : List (List Key × V)), xs = [.ref a] ∧ SqL K H a (ps.map V.ref) ∧ Paired (fun p kv => ∃ b, H p = some (.tup [.ref b, kv.2]) ∧ H b = some (.tup (kv.1.map kV))) ps kvs ∧
  ∀ p, H p = none → Q (.ref p) (upd H p (.dT (mergeT [] kvs)))
theorem pairsT_of {pins : List (Addr × Obj)} {σ : L2.St} {H : Hp} {s : Shared} (I : Inv X pins σ H s) : ∀ {ps : List Addr} {kvs : List (List Key × V)}, Paired (fun p kv => ∃ b, H p = some (.tup [.ref b, kv.2]) ∧ H b = some (.tup (kv.1.map kV))) ps kvs →
    ∃ prs : List (List Key × Addr × Value), KT H kvs prs ∧ prs.length = ps.length ∧ ∀ (j : Nat) (q : List Key × Addr × Value), prs[j]? = some q → ∃ p, ps[j]? = some p ∧ IsTup s.heap p #[.ref q.2.1, q.2.2]
  | _, _, .nil => ⟨[], .nil, rfl, fun j q e => by simp at e⟩
  | _, _, .cons (a := p) (b := kv) h t => by
    obtain ⟨prs, r, hl, hp⟩ := pairsT_of I t
    obtain ⟨b, h1, h2⟩ := h
    obtain ⟨its, rv, ht, _⟩ := I.tuple (SqT.of (K := X.K) h1)
    obtain ⟨u, y, rfl, ru, ry⟩ := vals2 rv
    cases ru
    refine ⟨(kv.1, b, y) :: prs, .cons ⟨rfl, h2, ry⟩ r, by rw [List.length_cons, List.length_cons, hl], fun j q e => ?_⟩
    cases j with
    | zero =>
      have e' : (kv.1, b, y) = q := Option.some.inj e
      subst e'
      exact ⟨p, rfl, ht⟩
    | succ j =>
      obtain ⟨b', e1, e2⟩ := hp j q (by simpa using e)
      exact ⟨b', by simpa using e1, e2⟩
theorem call_dictPT (hcalm : X.calm = true) (hu : X.A.units + 65 < cLine) : CallR X (.type "dict") (rDictPT X.K) := by
  intro pins s σ H xs us Q I r q
  obtain ⟨a, ps, kvs, rfl, hq, hp, q⟩ := q
  obtain ⟨u, rfl, rx⟩ := vals1 r
  cases rx
  obtain ⟨its, rv, pl, hz⟩ := I.list hq
  have ei := refs_at rv
  subst ei
  rw [List.length_map] at hz
  obtain ⟨prs, rel, hl, hpr⟩ := pairsT_of I hp
  have keyed : ∀ x ∈ prs, (tupleKind (mixKind X.prog X.w)).is s.heap x.1 x.2.1 := by
    intro x hx
    have all : ∀ {l : List (List Key × V)} {m : List (List Key × Addr × Value)}, KT H l m → ∀ x ∈ m, H x.2.1 = some (.tup (x.1.map kV)) := by
      intro l m q
      induction q with
      | nil => intro x hx; exact nomatch hx
      | @cons p q ps qs hq t ih =>
        intro x hx
        rcases List.mem_cons.mp hx with e | hx
        · subst e
          rw [← hq.1]; exact hq.2.1
        · exact ih x hx
    exact L2.key_of I.hok (all rel x hx)
  refine call_dict_pairsH (knd := tupleKind (mixKind X.prog X.w)) (ps := prs) (PairArg.list a (ps.map Value.ref).toArray (fun j => ps.getD j 0) (prs.map fun x => (Value.ref x.2.1, x.2.2))) (I.ok.hd hcalm) (show X.A.units + 1 + 1 < cLine by omega) ⟨pl, ?_, fun j k v e => ?_⟩ ⟨by rw [List.length_map], fun i key v e => ?_⟩ (fun h' hk x hx => ?_) (by rw [List.length_map, hl]; exact hz) fun h' tk dd' hk => ?_
  · rw [List.size_toArray, List.length_map, List.length_map, hl]
  · rw [List.getElem?_map] at e
    obtain ⟨q0, e0, e1⟩ := Option.map_eq_some_iff.mp e
    cases e1
    obtain ⟨p, ep, ht⟩ := hpr j q0 e0
    have ed : ps.getD j 0 = p := by rw [List.getD_eq_getElem?_getD, ep]; rfl
    refine ⟨?_, .inl ?_⟩
    · show _ = some (Value.ref (ps.getD j 0))
      rw [ed, List.getElem?_toArray, List.getElem?_map, ep]; rfl
    · show s.heap.IsTuple (ps.getD j 0) _
      rw [ed]; obtain ⟨o, h1, h2, n, h3⟩ := ht; exact ⟨o, h1, h2, n, h3⟩
  · rw [show PairRel (prs.map fun x => (Value.ref x.2.1, x.2.2)) i key v = ((prs.map fun x => (Value.ref x.2.1, x.2.2))[i]? = some (key, v)) from rfl, List.getElem?_map] at e
    obtain ⟨q0, e0, e1⟩ := Option.map_eq_some_iff.mp e
    cases e1
    exact ⟨q0.1, q0.2.1, e0, rfl⟩
  · obtain ⟨o, items, n, e1, e2, e3, e4⟩ := keyed x hx
    exact ⟨o, items, n, hk _ _ (Nat.ne_of_lt (Heap.lt_size e1)) (fun z => nomatch z) e1, e2, e3, e4⟩
  · have hm : (s.heap.objs.size == sysModules) = false := beq_eq_false_iff_ne.mpr (Nat.ne_of_gt I.big)
    have hlen : (mergeT [] kvs).length ≤ sizeLine := by
      refine Nat.le_trans (len_mergeT kvs []) ?_
      rw [List.length_nil, Nat.zero_add, Paired.length rel, hl]
      exact hz
    obtain ⟨q', es, ep, hq', h2, h3, h4, _, h5⟩ := dd'
    refine ⟨.ref s.heap.objs.size, upd H s.heap.objs.size (.dT (mergeT [] kvs)), I.laid (t' := tk) (fun b o e => hk b o (fun z => nomatch z) e) (Nat.le_refl _) ⟨hlen, hm, _, (kt_merge rel .nil).keeps fun c ys ec => ?_, q', es, ep, hq', h2, h3, h4, h5⟩, rfl, q _ (I.hok.fresh (Nat.le_refl _))⟩
    rw [upd_ne (ne_of_none ec (I.hok.fresh (Nat.le_refl _)))]; exact ec

/-! ### a pair the other way about -/
theorem cut2 {s : Shared} {A : Around} {E : Value → Shared → Prop} {sl : Addr} {vs : Value} {Q : Int × Int × Nat → Shared → Prop} (hs : s.heap.IsSliceOf sl .none .none vs) (ps : IsPart vs (some (-1))) (h : Q (1, -1, 2) s) :
    wpAny (model X.prog X.w) A (Builtin.Slice.sliceApplied (.ref sl) (pure (2 : Int))) Q E s := by
  obtain ⟨os, hos, hcs, hds⟩ := id hs
  unfold Builtin.Slice.sliceApplied Builtin.Slice.sliceFields
  refine wpAny_bind (wpAny_bind (wpAny_field hos hds (x := .none) rfl (wpAny_bind (wpAny_field hos hds (x := .none) rfl (wpAny_bind (wpAny_field hos hds (x := vs) rfl (wpAny_pure ?_)))))))
  refine wpAny_bind (HT.slicePart_ ps ?_)
  show wpAny _ _ (if ((-1 : Int) == 0) = true then _ else _) _ _ s
  rw [if_neg (by decide)]
  refine wpAny_bind (HT.slicePart_ .none (wpAny_bind (HT.slicePart_ .none (wpAny_bind (wpAny_pure ?_)))))
  exact wpAny_pure h
theorem pick2 (x y : Value) : ((List.range 2).filterMap fun (m : Nat) => (#[x, y] : Array Value)[((1 : Int) + (m : Int) * -1).toNat]?).toArray = #[y, x] := rfl
theorem rev2 {s : Shared} {A : Around} {E : Value → Shared → Prop} {t sl : Addr} {x y vs : Value} {Q : Value → Shared → Prop} (ht : IsTup s.heap t #[x, y]) (hs : s.heap.IsSliceOf sl .none .none vs) (ps : IsPart vs (some (-1)))
    (h : Q (.ref s.heap.objs.size) { s with heap := s.heap.push { cls := .type "tuple", data := .seq #[y, x] } }) : wpAny (model X.prog X.w) A (getItem (.ref t) (.ref sl)) Q E s := by
  obtain ⟨os, hos, hcs, hds⟩ := id hs
  have hTs : s.TypeIs (.ref sl) "slice" := ⟨os, hos, hcs⟩
  have hz : sizeOk (.seq #[y, x]) := by show 2 ≤ sizeLine; decide
  unfold getItem
  try with_reducible refine wpAny_holding ?_
  first | refine wpAny_bind (wpAny_pure ?_) | skip
  refine wpAny_bind (wpAny_sequenceKey ht.typeIs (by decide) ?_)
  refine wpAny_bind (wpAny_callSpecial?_slot (name := Str.ofString "__getitem__") ht.typeIs PyProof.Rows.slot_tuple_getitem (wpAny_call_entry PyProof.Rows.slot_tuple_getitem ht.typeIs entry_tuple_getitem ?_ (args_tuple_getitem _ _)))
  show wpAny _ _ (Builtin.Tuple.tupleItemsOf (.ref t) >>= _) _ _ s
  refine wpAny_bind (tupleItemsOf_ ht (wpAny_bind (wpAny_typeOf hTs ?_)))
  rw [if_pos (by decide)]
  refine wpAny_bind (cut2 hs ps ?_)
  show wpAny _ _ (if ((1 : Int) == 0 && (-1 : Int) == 1 && (2 : Nat) == 2) = true then _ else _) _ _ s
  rw [if_neg (by decide), pick2]
  first
    | exact wpAny_bind (m := Builtin.Tuple.tupleExact _) (wpAny_newObj_type (wpAny_pure ⟨_, rfl, wpAny_pure h⟩) hz)
    | exact wpAny_bind (m := Builtin.Tuple.tupleExact _) (wpAny_newObj_type (wpAny_bind (wpAny_pure (wpAny_pure ⟨_, rfl, wpAny_pure h⟩))) hz)
    | exact wpAny_bind (wpAny_bind (m := Builtin.Tuple.tupleExact _) (wpAny_newObj_type (wpAny_pure (wpAny_pure ⟨_, rfl, wpAny_pure h⟩)) hz))
    | exact wpAny_bind (wpAny_bind (m := Builtin.Tuple.tupleExact _) (wpAny_newObj_type (wpAny_pure ⟨_, rfl, wpAny_pure h⟩) hz))
def tRev2 (te : TE) : TE := fun σ H Q => te σ H fun x H1 => ∃ a u v, x = .ref a ∧ H1 a = some (.tup [u, v]) ∧ ∀ p, H1 p = none → Q (.ref p) (upd H1 p (.tup [v, u]))
theorem pe_rev2 {e : Expr} {te : TE} {k : Nat} {p1 p2 p3 pos : Pos} (he : PE X e te) : PE X (.Subscript e (.Slice none none (some (.UnaryOp .USub (.Constant (.int 1) k p1) p2)) p3) pos) (tRev2 te) := by
  refine ⟨fun pins s σ H Q I h => Subscript_ (thn (he.run pins s σ H _ I h) fun v s1 ⟨x, H1, I1, r1, a, x0, x1, ex, hx, q⟩ => ?_)⟩
  subst ex; cases r1
  have hst : PO X (some (.UnaryOp .USub (.Constant (.int 1) k p1) p2)) (tPart (tUn (rU fun i => .int (-i)) (tC (.int 1)))) := po_some (pe_un un_neg pe_int)
  refine wpAny_Slice (thn (po_none.run pins s1 σ H1 (fun o H2 => o = none ∧ H2 = H1) I1 ⟨rfl, rfl⟩) fun vl s2 ⟨l, H2, I2, pl, el, e2⟩ => ?_); subst el e2
  refine thn (po_none.run pins s2 σ H2 (fun o H3 => o = none ∧ H3 = H2) I2 ⟨rfl, rfl⟩) fun vu s3 ⟨u, H3, I3, pu, eu, e3⟩ => ?_; subst eu e3
  refine thn (hst.run pins s3 σ H3 (fun o H4 => o = some (-1) ∧ H4 = H3) I3 ⟨1, rfl, -1, rfl, rfl, rfl⟩) fun vs s4 ⟨o, H4, I4, ps, eo, e4⟩ => ?_; subst eo e4
  cases pl; cases pu
  generalize hs5 : ({ s4 with heap := s4.heap.push { cls := .type "slice", data := .fields #[.none, .none, vs] } } : Shared) = s5
  have I5 : Inv X pins σ H4 s5 := by
    rw [← hs5]
    exact I4.kept (t' := s4.toks) fun b ob q => Heap.get?_push_of_some _ q
  obtain ⟨its, r, ht, hz⟩ := I5.tuple (SqT.of (K := X.K) hx)
  obtain ⟨u0, u1, rfl, r0, r1⟩ := vals2 r
  have hsl : s5.heap.IsSliceOf s4.heap.objs.size .none .none vs := by rw [← hs5]; exact Heap.IsSliceOf.new _ _ _ _
  refine (?_ : wpAny (model X.prog X.w) X.A (subscriptTail e (.Slice none none (some (.UnaryOp .USub (.Constant (.int 1) k p1) p2)) p3) (.ref a) (.ref s4.heap.objs.size)) (EP X pins σ Q) X.xe s5)
  refine tail_any (ops := [.ref a, .ref s4.heap.objs.size]) ht.typeIs (PyProof.Rows.slot_tuple_getitem.lookup) ?_ (by with_unfolding_all rfl)
  refine rev2 ht hsl ps ⟨.ref _, _, I5.laid (t' := s5.toks) (o := .tup [x1, x0]) (fun b ob q => Heap.get?_push_of_some _ q) (Nat.le_refl _) ?_, rfl, q _ (I5.hok.fresh (Nat.le_refl _))⟩
  exact ⟨by show 2 ≤ sizeLine; decide, [u1, u0], .cons r1 (.cons r0 .nil), IsTup.new _ _⟩

/-! ### {k: v} -/
def tDisp1 (o0 : HO) (tk tv : TE) : TE := fun σ H Q => ∀ p, H p = none → tk σ (upd H p o0) fun x H1 => tv σ H1 fun y H2 => ∃ H3, DPut H2 p x y H3 ∧ Q (.ref p) H3
theorem pe_disp1 {o0 : HO} {k v : Expr} {tk tv : TE} {pos : Pos} (em : Empt o0) (hu : X.A.units + 1 < cLine) (hk : PE X k tk) (hv : PE X v tv) : PE X (.Dict [some k] [v] pos) (tDisp1 o0 tk tv) := by
  refine ⟨fun pins s σ H Q I q => ?_⟩
  have hn := I.hok.fresh (Nat.le_refl s.heap.objs.size)
  have I1 := I.laid (a := s.heap.objs.size) (o := o0) (h' := s.heap.push { cls := .type "dict", data := .dict #[] }) (t' := s.toks) (fun _ _ q => Heap.get?_push_of_some _ q) (Nat.le_refl _) (em _ _ _ _ I.big)
  refine wpAny_Dict_any rfl rfl (by exact fun z => nomatch z) (by show 1 ≤ 15; decide) ?_
  refine pairTrees_cons_walk (thn (hk.run pins _ σ _ _ I1 (q _ hn)) fun u s1 ⟨x, H1, J1, rx, q1⟩ => thn (hv.run pins s1 σ H1 _ J1 q1) fun w2 s2 ⟨y, H2, J2, ry, H3, pu, q2⟩ => ?_)
  refine pairTrees_nil_walk ?_
  unfold storeAll
  rw [List.forIn_cons]
  refine wpAny_bind (wpAny_bind (d_dictPut hu J2 pu rx ry fun s3 J3 => wpAny_pure ?_))
  show wpAny _ _ (forIn [] PUnit.unit _) _ _ s3
  rw [List.forIn_nil]
  exact wpAny_pure ⟨.ref s.heap.objs.size, H3, J3, rfl, q2⟩
end
/-! ### hashes of pairs of places -/
def hv (a b : Nat) : Int := reduceHash (Builtin.Tuple.tupleHashOf [hashInt (a : Int), hashInt (b : Int)])
theorem hv_nd : ((List.range 144).map fun k => hv (k / 12) (k % 12)).Nodup := by decide +kernel
def pk (t : Int × Int) : List Key := [Sum.inl t.1, Sum.inl t.2]
theorem pk_inj {s t : Int × Int} (h : pk s = pk t) : s = t := by
  cases s; cases t; cases h; rfl
theorem hv_inj {a b c d : Nat} (ha : a < 12) (hb : b < 12) (hc : c < 12) (hd : d < 12) (h : hv a b = hv c d) : a = c ∧ b = d := by
  have pw := List.pairwise_iff_getElem.mp (List.nodup_iff_pairwise_ne.mp hv_nd)
  have l : ((List.range 144).map fun k => hv (k / 12) (k % 12)).length = 144 := by rw [List.length_map, List.length_range]
  have g : ∀ k (hk : k < ((List.range 144).map fun k => hv (k / 12) (k % 12)).length), ((List.range 144).map fun k => hv (k / 12) (k % 12))[k] = hv (k / 12) (k % 12) := fun k hk => by
    rw [List.getElem_map, List.getElem_range]
  have e1 : (12 * a + b) / 12 = a := by omega
  have e2 : (12 * a + b) % 12 = b := by omega
  have e3 : (12 * c + d) / 12 = c := by omega
  have e4 : (12 * c + d) % 12 = d := by omega
  have hi : 12 * a + b < ((List.range 144).map fun k => hv (k / 12) (k % 12)).length := by omega
  have hj : 12 * c + d < ((List.range 144).map fun k => hv (k / 12) (k % 12)).length := by omega
  rcases Nat.lt_trichotomy (12 * a + b) (12 * c + d) with z | z | z
  · have := pw _ _ hi hj z
    rw [g, g, e1, e2, e3, e4] at this
    exact absurd h this
  · omega
  · have := pw _ _ hj hi z
    rw [g, g, e1, e2, e3, e4] at this
    exact absurd h.symm this
/-- keys that are pairs of places below twelve -/
theorem apart_pk {w : World} {ms : List (List Key × V)} {cs : List (Int × Int)} (hk : ms.map (·.1) = cs.map pk) (nd : cs.Nodup) (hr : ∀ t ∈ cs, 0 ≤ t.1 ∧ t.1 < 12 ∧ 0 ≤ t.2 ∧ t.2 < 12) : Apart w ms := by
  unfold Apart
  have e : (ms.map fun kv => reduceHash (Builtin.Tuple.tupleHashOf (kv.1.map (keyH w)))) = cs.map fun t => reduceHash (Builtin.Tuple.tupleHashOf ((pk t).map (keyH w))) := by
    have := congrArg (List.map fun k => reduceHash (Builtin.Tuple.tupleHashOf (k.map (keyH w)))) hk
    rw [List.map_map, List.map_map] at this
    exact this
  rw [e, List.nodup_iff_pairwise_ne, List.pairwise_map]
  refine (List.nodup_iff_pairwise_ne.mp nd).imp_of_mem fun {s t} hs ht ne h => ne ?_
  have bs := hr s hs
  have bt := hr t ht
  have hh : ∀ t : Int × Int, 0 ≤ t.1 → 0 ≤ t.2 → reduceHash (Builtin.Tuple.tupleHashOf ((pk t).map (keyH w))) = hv t.1.toNat t.2.toNat := fun t h1 h2 => by
    unfold hv
    rw [Int.toNat_of_nonneg h1, Int.toNat_of_nonneg h2]; rfl
  rw [hh s bs.1 bs.2.2.1, hh t bt.1 bt.2.2.1] at h
  obtain ⟨h1, h2⟩ := hv_inj (by omega) (by omega) (by omega) (by omega) h
  exact Prod.ext (by omega) (by omega)
def JoinA (kvs : List (List Key × V)) (C : List (Int × Int)) : Prop := ∀ o : Int × Int, (valV kvs (pk o)).isSome = decide (o ∈ C)
theorem joinA_put {kvs : List (List Key × V)} {C : List (Int × Int)} (h : JoinA kvs C) (t : Int × Int) (v : V) : JoinA (putK kvs (pk t) v) (C ++ [t]) := fun o => by
  rw [valV_put]
  by_cases e : o = t
  · subst e
    rw [if_pos rfl]
    exact (decide_eq_true (List.mem_append_right _ (List.mem_singleton.mpr rfl))).symm
  · rw [if_neg (fun z => e (pk_inj z)), h o]
    refine decide_eq_decide.mpr ?_
    rw [List.mem_append, List.mem_singleton]
    exact ⟨.inl, fun z => z.elim id fun z => absurd z e⟩
end My

set_option Elab.async false
set_option linter.all false
set_option maxRecDepth 100000
namespace My
open PySem PySem.Spec PyProof.Rows L2 GxR

/-! ### in, of tuples -/
def rInDT (K : PySem.W.Frag) : R2 := fun x y H Q => ∃ d ds, Dp K H x d ∧ Dp K H y (.tuple ds) ∧ SeqAt.shaped d = true ∧ SeqAt.shaped (.tuple ds) = true ∧ Q (.bl (ds.any fun z => PyData.eqv z d)) H
theorem op_inDT {X : Cx} (hu : X.A.units + 65 < cLine) : OpR X (compareOp .In) (rInDT X.K) := fun pins s σ H x y v u Q I rx ry ⟨d, ds, hd, he, sd, se, q⟩ => by
  obtain ⟨as, r1⟩ := Dp.reads I d x v hd rx
  obtain ⟨bs, r2⟩ := Dp.reads I (.tuple ds) y u he ry
  exact SeqAt.in_tuple_reads r2 r1 (SeqAt.canLay_of_shaped se) (SeqAt.canLay_of_shaped sd) (room_in_shaped sd hu) ⟨.bl _, H, I, rfl, q⟩
theorem shaped_tup (ts : List (Int × Int)) : SeqAt.shaped (.tuple (ts.map dT)) = true := by
  unfold SeqAt.shaped
  rw [Bool.and_eq_true, decide_eq_true_eq]
  refine ⟨can_ties ts, ?_⟩
  show PyData.depthAll _ + 1 ≤ 64
  have := dep_ties ts
  omega
theorem any_dT (ts : List (Int × Int)) (t : Int × Int) : ((ts.map dT).any fun z => PyData.eqv z (dT t)) = decide (t ∈ ts) := by
  induction ts with
  | nil => rfl
  | cons a l ih =>
    rw [List.map_cons, List.any_cons, ih, eqv_dT]
    by_cases h : a = t
    · subst h; simp
    · have h' : ¬ t = a := fun e => h e.symm
      simp [h, h']

/-! ### ties of two places, gaps -/
def tieO (a b : Int) : Int × Int := if a < b then (a, b) else (b, a)
theorem tieO_tied {n : Nat} {ts : List (Int × Int)} (hw : WOk n ts) (a b : Int) : tieO a b ∈ ts ↔ ((a, b) ∈ ts ∨ (b, a) ∈ ts) := by
  unfold tieO
  split
  · rename_i h
    constructor
    · exact .inl
    · rintro (z | z)
      · exact z
      · have := hw.2 _ z; dsimp only at this; omega
  · rename_i h
    constructor
    · exact .inr
    · rintro (z | z)
      · have := hw.2 _ z; dsimp only at this; omega
      · exact z
def gapsF (ts : List (Int × Int)) (l : List (Int × Int)) : List (Int × Int) := l.filter fun t => !decide (t ∈ ts)
theorem gaps_app (ts l m : List (Int × Int)) : gapsF ts (l ++ m) = gapsF ts l ++ gapsF ts m := List.filter_append ..
theorem gaps_one (ts : List (Int × Int)) (t : Int × Int) : gapsF ts [t] = if t ∈ ts then [] else [t] := by
  unfold gapsF
  by_cases h : t ∈ ts <;> simp [h]
theorem gaps_sub (ts l : List (Int × Int)) : (gapsF ts l).Sublist l := List.filter_sublist
theorem gaps_len {n : Nat} {ts : List (Int × Int)} (hn : n ≤ 100) : (gapsF ts (pup n n)).length ≤ 10000 := Nat.le_trans (gaps_sub _ _).length_le (pup_len' hn (Nat.le_refl n))
theorem gaps_wok {n : Nat} (ts : List (Int × Int)) : WOk n (gapsF ts (pup n n)) := wok_sub (gaps_sub _ _)
theorem pw_ext {l m : List (Int × Int)} (hl : l.Pairwise ltT) (hm : m.Pairwise ltT) (h : ∀ t, t ∈ l ↔ t ∈ m) : l = m := by
  have nd : ∀ {k : List (Int × Int)}, k.Pairwise ltT → k.Nodup := fun hk => List.nodup_iff_pairwise_ne.mpr (hk.imp fun {s t} h e => by subst e; exact ltT_irr h)
  refine List.Perm.eq_of_pairwise (le := ltT) (fun a b _ _ h1 h2 => by rcases h1 with z | ⟨z, y⟩ <;> rcases h2 with u | ⟨u, v⟩ <;> omega) hl hm ((List.perm_ext_iff_of_nodup (nd hl) (nd hm)).mpr h)
theorem gaps_gaps {n : Nat} {ts : List (Int × Int)} (hw : WOk n ts) : gapsF (gapsF ts (pup n n)) (pup n n) = ts := by
  refine pw_ext (gaps_wok _).1 hw.1 fun t => ?_
  unfold gapsF
  rw [List.mem_filter, Bool.not_eq_true', decide_eq_false_iff_not, List.mem_filter, Bool.not_eq_true', decide_eq_false_iff_not]
  constructor
  · rintro ⟨h1, h2⟩
    exact Classical.byContradiction fun z => h2 ⟨h1, z⟩
  · intro h
    refine ⟨(mem_pup (Nat.le_refl n)).mpr ?_, fun z => z.2 h⟩
    have := hw.2 t h
    omega
def JoinD (kvs : List (List Key × V)) (ts : List (Int × Int)) : Prop := ∀ a b : Int, (valV kvs [Sum.inl a, Sum.inl b]).isSome = decide ((a, b) ∈ ts)
theorem join_put {kvs : List (List Key × V)} {ts : List (Int × Int)} (h : JoinD kvs ts) (t : Int × Int) (v : V) : JoinD (putK kvs [Sum.inl t.1, Sum.inl t.2] v) (ts ++ [t]) := fun a b => by
  rw [valV_put]
  cases t with | mk x y =>
  dsimp only
  by_cases h2 : a = x ∧ b = y
  · obtain ⟨rfl, rfl⟩ := h2
    rw [if_pos rfl]
    exact (decide_eq_true (List.mem_append_right _ (List.mem_singleton.mpr rfl))).symm
  · have n2 : ¬ ([Sum.inl a, Sum.inl b] : List Key) = [Sum.inl x, Sum.inl y] := fun e => by
      cases e; exact h2 ⟨rfl, rfl⟩
    rw [if_neg n2, h a b]
    refine decide_eq_decide.mpr ?_
    rw [List.mem_append, List.mem_singleton]
    constructor
    · exact .inl
    · rintro (z | z)
      · exact z
      · cases z; exact absurd ⟨rfl, rfl⟩ h2

end My

set_option Elab.async false
set_option linter.all false
set_option maxRecDepth 100000
namespace My
open PySem PySem.Spec PyProof.Rows L2 GxR

def NearD (kvs : List (List Key × V)) (ts : List (Int × Int)) : Prop := ∀ a b : Int, (valV kvs [Sum.inl a, Sum.inl b]).isSome = decide ((a, b) ∈ ts ∨ (b, a) ∈ ts)
theorem near_put {kvs : List (List Key × V)} {ts : List (Int × Int)} (h : NearD kvs ts) (t : Int × Int) (u v : V) :
    NearD (putK (putK kvs [Sum.inl t.1, Sum.inl t.2] v) [Sum.inl t.2, Sum.inl t.1] u) (ts ++ [t]) := fun a b => by
  rw [valV_put, valV_put]
  cases t with | mk x y =>
  dsimp only
  by_cases h1 : a = y ∧ b = x
  · obtain ⟨rfl, rfl⟩ := h1
    rw [if_pos rfl]
    exact (decide_eq_true (.inr (List.mem_append_right _ (List.mem_singleton.mpr rfl)))).symm
  · have n1 : ¬ ([Sum.inl a, Sum.inl b] : List Key) = [Sum.inl y, Sum.inl x] := fun e => by
      cases e; exact h1 ⟨rfl, rfl⟩
    rw [if_neg n1]
    by_cases h2 : a = x ∧ b = y
    · obtain ⟨rfl, rfl⟩ := h2
      rw [if_pos rfl]
      exact (decide_eq_true (.inl (List.mem_append_right _ (List.mem_singleton.mpr rfl)))).symm
    · have n2 : ¬ ([Sum.inl a, Sum.inl b] : List Key) = [Sum.inl x, Sum.inl y] := fun e => by
        cases e; exact h2 ⟨rfl, rfl⟩
      rw [if_neg n2, h a b]
      refine decide_eq_decide.mpr ?_
      rw [List.mem_append, List.mem_append, List.mem_singleton, List.mem_singleton]
      constructor
      · rintro (z | z)
        · exact .inl (.inl z)
        · exact .inr (.inl z)
      · rintro ((z | z) | (z | z))
        · exact .inl z
        · cases z; exact absurd ⟨rfl, rfl⟩ h2
        · exact .inr z
        · cases z; exact absurd ⟨rfl, rfl⟩ h1

section
variable {P : Program} {w : World} {K : PySem.W.Frag} {mg : Str → Option Value} {base : Heap}
end
end My

set_option Elab.async false
set_option linter.all false
set_option maxRecDepth 100000
namespace My
open PySem PySem.Spec PyProof.Rows L2 GxR

/-! ### forcings: what the law's own going on makes -/
abbrev Ar := Int × Int
def sw (t : Ar) : Ar := (t.2, t.1)
theorem sw_sw (t : Ar) : sw (sw t) = t := rfl
def InR (n : Nat) (t : Ar) : Prop := 0 ≤ t.1 ∧ t.1 < (n : Int) ∧ 0 ≤ t.2 ∧ t.2 < (n : Int)
def allP (n : Nat) : List Ar := (up n).flatMap fun a => (up n).map fun b => (a, b)
theorem mem_allP {n : Nat} {t : Ar} : t ∈ allP n ↔ InR n t := by
  unfold allP InR
  rw [List.mem_flatMap]
  constructor
  · rintro ⟨a, ha, h⟩
    obtain ⟨b, hb, rfl⟩ := List.mem_map.mp h
    have h1 := mem_up.mp ha
    have h2 := mem_up.mp hb
    exact ⟨h1.1, h1.2, h2.1, h2.2⟩
  · rintro ⟨h1, h2, h3, h4⟩
    exact ⟨t.1, mem_up.mpr ⟨h1, h2⟩, List.mem_map.mpr ⟨t.2, mem_up.mpr ⟨h3, h4⟩, rfl⟩⟩
theorem up_pw' (n : Nat) : (up n).Pairwise (· < ·) := by
  unfold up
  rw [List.pairwise_map]
  exact List.pairwise_lt_range.imp fun {x y} h => Int.ofNat_lt.mpr h
theorem allP_pw (n : Nat) : (allP n).Pairwise ltT := by
  unfold allP
  rw [List.pairwise_flatMap]
  refine ⟨fun a _ => ?_, (up_pw' n).imp fun {a b} h x hx y hy => ?_⟩
  · rw [List.pairwise_map]
    exact (up_pw' n).imp fun h => .inr ⟨rfl, h⟩
  · obtain ⟨_, _, rfl⟩ := List.mem_map.mp hx
    obtain ⟨_, _, rfl⟩ := List.mem_map.mp hy
    exact .inl h
theorem allP_len (n : Nat) : (allP n).length = n * n := by
  unfold allP
  have : ∀ l : List Int, (l.flatMap fun a => (up n).map fun b => (a, b)).length = l.length * n := by
    intro l
    induction l with
    | nil => exact (Nat.zero_mul _).symm
    | cons a l ih => rw [List.flatMap_cons, List.length_append, ih, List.length_map, up_len, List.length_cons, Nat.succ_mul, Nat.add_comm]
  rw [this, up_len]
theorem nd_pw {l : List Ar} (h : l.Pairwise ltT) : l.Nodup := List.nodup_iff_pairwise_ne.mpr (h.imp fun {s t} h e => by subst e; exact ltT_irr h)
def nrB (ts : List Ar) (a b : Int) : Bool := decide ((a, b) ∈ ts ∨ (b, a) ∈ ts)
def tA (ts : List Ar) (a b c : Int) : Bool := !decide (c = b) && (nrB ts a c && !nrB ts b c)
def tB' (ts : List Ar) (a b c : Int) : Bool := !decide (c = a) && (nrB ts c b && !nrB ts a c)
def frcA (ts : List Ar) (a b : Int) (l : List Int) : List Ar := (l.filter (tA ts a b)).map fun c => (a, c)
def frcB (ts : List Ar) (a b : Int) (l : List Int) : List Ar := (l.filter (tB' ts a b)).map fun c => (c, b)
def frcL (n : Nat) (ts : List Ar) (t : Ar) : List Ar := frcA ts t.1 t.2 (up n) ++ frcB ts t.1 t.2 (up n)
theorem frcA_step (ts : List Ar) (a b : Int) (l : List Int) (c : Int) : frcA ts a b (l ++ [c]) = frcA ts a b l ++ (if tA ts a b c = true then [(a, c)] else []) := by
  unfold frcA
  rw [List.filter_append, List.map_append]
  by_cases h : tA ts a b c = true
  · rw [if_pos h, List.filter_cons_of_pos h]; rfl
  · rw [if_neg h, List.filter_cons_of_neg h]; rfl
theorem frcB_step (ts : List Ar) (a b : Int) (l : List Int) (c : Int) : frcB ts a b (l ++ [c]) = frcB ts a b l ++ (if tB' ts a b c = true then [(c, b)] else []) := by
  unfold frcB
  rw [List.filter_append, List.map_append]
  by_cases h : tB' ts a b c = true
  · rw [if_pos h, List.filter_cons_of_pos h]; rfl
  · rw [if_neg h, List.filter_cons_of_neg h]; rfl
theorem frcA_len (ts : List Ar) (a b : Int) (l : List Int) : (frcA ts a b l).length ≤ l.length := by
  unfold frcA; rw [List.length_map]; exact List.length_filter_le _ _
theorem frcB_len (ts : List Ar) (a b : Int) (l : List Int) : (frcB ts a b l).length ≤ l.length := by
  unfold frcB; rw [List.length_map]; exact List.length_filter_le _ _
theorem mem_frc {n : Nat} {ts : List Ar} {t x : Ar} : x ∈ frcL n ts t ↔
    (x.1 = t.1 ∧ 0 ≤ x.2 ∧ x.2 < (n : Int) ∧ tA ts t.1 t.2 x.2 = true) ∨ (x.2 = t.2 ∧ 0 ≤ x.1 ∧ x.1 < (n : Int) ∧ tB' ts t.1 t.2 x.1 = true) := by
  unfold frcL frcA frcB
  rw [List.mem_append, List.mem_map, List.mem_map]
  constructor
  · rintro (⟨c, hc, rfl⟩ | ⟨c, hc, rfl⟩)
    · obtain ⟨h1, h2⟩ := List.mem_filter.mp hc
      have := mem_up.mp h1
      exact .inl ⟨rfl, this.1, this.2, h2⟩
    · obtain ⟨h1, h2⟩ := List.mem_filter.mp hc
      have := mem_up.mp h1
      exact .inr ⟨rfl, this.1, this.2, h2⟩
  · rintro (⟨h1, h2, h3, h4⟩ | ⟨h1, h2, h3, h4⟩)
    · exact .inl ⟨x.2, List.mem_filter.mpr ⟨mem_up.mpr ⟨h2, h3⟩, h4⟩, Prod.ext h1.symm rfl⟩
    · exact .inr ⟨x.1, List.mem_filter.mpr ⟨mem_up.mpr ⟨h2, h3⟩, h4⟩, Prod.ext rfl h1.symm⟩
theorem frc_nd (n : Nat) (ts : List Ar) (t : Ar) : (frcL n ts t).Nodup := by
  unfold frcL frcA frcB
  rw [List.nodup_append]
  refine ⟨?_, ?_, fun x hx y hy e => ?_⟩
  · rw [List.nodup_iff_pairwise_ne, List.pairwise_map]
    exact ((List.nodup_iff_pairwise_ne.mp (up_nodup n)).sublist List.filter_sublist).imp fun h e => h (Prod.ext_iff.mp e).2
  · rw [List.nodup_iff_pairwise_ne, List.pairwise_map]
    exact ((List.nodup_iff_pairwise_ne.mp (up_nodup n)).sublist List.filter_sublist).imp fun h e => h (Prod.ext_iff.mp e).1
  · subst e
    obtain ⟨c, hc, rfl⟩ := List.mem_map.mp hx
    obtain ⟨d, hd, e⟩ := List.mem_map.mp hy
    have h1 := (List.mem_filter.mp hc).2
    have e2 := (Prod.ext_iff.mp e).2
    unfold tA at h1
    rw [Bool.and_eq_true, Bool.not_eq_true', decide_eq_false_iff_not] at h1
    exact h1.1 e2.symm
theorem frc_rng {n : Nat} {ts : List Ar} {t x : Ar} (ht : InR n t) (h : x ∈ frcL n ts t) : InR n x := by
  obtain ⟨a1, a2, a3, a4⟩ := ht
  rcases mem_frc.mp h with ⟨h1, h2, h3, _⟩ | ⟨h1, h2, h3, _⟩
  · exact ⟨by omega, by omega, h2, h3⟩
  · exact ⟨h2, h3, by omega, by omega⟩
/-- the forced ones, rising -/
def frcS (n : Nat) (ts : List Ar) (t : Ar) : List Ar := (allP n).filter fun x => decide (x ∈ frcL n ts t)
theorem mem_frcS {n : Nat} {ts : List Ar} {t x : Ar} (ht : InR n t) : x ∈ frcS n ts t ↔ x ∈ frcL n ts t := by
  unfold frcS
  rw [List.mem_filter, decide_eq_true_eq, mem_allP]
  exact ⟨fun h => h.2, fun h => ⟨frc_rng ht h, h⟩⟩
theorem frcS_pw (n : Nat) (ts : List Ar) (t : Ar) : (frcS n ts t).Pairwise ltT := (allP_pw n).sublist List.filter_sublist
theorem frcS_eq {n : Nat} {ts fs : List Ar} {t : Ar} (ht : InR n t) (hp : fs.Perm (frcL n ts t)) (hs : fs.Pairwise (fun s t => ¬ ltT t s)) : fs = frcS n ts t :=
  pw_eq (pw_lt hs (hp.nodup_iff.mpr (frc_nd n ts t))) (frcS_pw n ts t) fun x => hp.mem_iff.trans (mem_frcS ht).symm
/-- what is found and what waits, behind the forced ones fs -/
def grow (fs : List Ar) (fw : List Ar × List Ar) : List Ar × List Ar := fs.foldl (fun fw o => if o ∈ fw.1 then fw else (fw.1 ++ [o], fw.2 ++ [o])) fw
theorem grow_step (fs : List Ar) (o : Ar) (fw : List Ar × List Ar) : grow (fs ++ [o]) fw = if o ∈ (grow fs fw).1 then grow fs fw else ((grow fs fw).1 ++ [o], (grow fs fw).2 ++ [o]) := by
  unfold grow; rw [List.foldl_append]; rfl
def comeR (n : Nat) (ts : List Ar) : Nat → List Ar × List Ar → List Ar
  | 0, fw => fw.1
  | k + 1, fw => match fw.2.getLast? with
    | none => fw.1
    | some x => comeR n ts k (grow (frcS n ts x) (fw.1, fw.2.dropLast))
def comeF (n : Nat) (ts : List Ar) (t : Ar) : List Ar := comeR n ts (2 * (n * n) + 1) ([t], [t])
theorem comeR_nil (n : Nat) (ts cs : List Ar) : ∀ k, comeR n ts k (cs, []) = cs
  | 0 => rfl
  | _ + 1 => rfl
structure GrowI (n : Nat) (fw : List Ar × List Ar) : Prop where
  nd : fw.1.Nodup
  rng : ∀ t ∈ fw.1, InR n t
  sub : ∀ t ∈ fw.2, InR n t
theorem grow_all {n : Nat} : ∀ {fs : List Ar} {fw : List Ar × List Ar}, GrowI n fw → (∀ t ∈ fs, InR n t) → GrowI n (grow fs fw) ∧ ∃ k, (grow fs fw).1.length = fw.1.length + k ∧ (grow fs fw).2.length = fw.2.length + k
  | [], fw, h, _ => ⟨h, 0, rfl, rfl⟩
  | o :: fs, fw, h, hr => by
    show GrowI n (grow fs (if o ∈ fw.1 then fw else (fw.1 ++ [o], fw.2 ++ [o]))) ∧ _
    have ho := hr o List.mem_cons_self
    by_cases hm : o ∈ fw.1
    · have e : grow (o :: fs) fw = grow fs fw := by
        show grow fs (if o ∈ fw.1 then fw else _) = _
        rw [if_pos hm]
      rw [if_pos hm, e]
      exact grow_all h fun t ht => hr t (List.mem_cons_of_mem _ ht)
    · have e : grow (o :: fs) fw = grow fs (fw.1 ++ [o], fw.2 ++ [o]) := by
        show grow fs (if o ∈ fw.1 then fw else _) = _
        rw [if_neg hm]
      have h' : GrowI n (fw.1 ++ [o], fw.2 ++ [o]) := by
        refine ⟨?_, fun t ht => ?_, fun t ht => ?_⟩
        · rw [List.nodup_append]
          refine ⟨h.nd, List.nodup_cons.mpr ⟨List.not_mem_nil, List.nodup_nil⟩, fun a ha b hb e => ?_⟩
          rw [List.mem_singleton.mp hb] at e
          subst e; exact hm ha
        · rcases List.mem_append.mp ht with z | z
          · exact h.rng t z
          · rw [List.mem_singleton.mp z]; exact ho
        · rcases List.mem_append.mp ht with z | z
          · exact h.sub t z
          · rw [List.mem_singleton.mp z]; exact ho
      rw [if_neg hm, e]
      obtain ⟨i1, k, l1, l2⟩ := grow_all h' fun t ht => hr t (List.mem_cons_of_mem _ ht)
      rw [List.length_append] at l1 l2
      exact ⟨i1, k + 1, by rw [l1]; show _ + 1 + k = _; omega, by rw [l2]; show _ + 1 + k = _; omega⟩
theorem cs_len {n : Nat} {cs : List Ar} (nd : cs.Nodup) (h : ∀ t ∈ cs, InR n t) : cs.length ≤ n * n := by
  rw [← allP_len n]
  exact nd_len nd fun t ht => mem_allP.mpr (h t ht)

/-! ### the first pointing, as the law's own way makes it -/
def firstG (n : Nat) (ts : List Ar) : List Ar → List Ar → Option (List Ar)
  | [], C => some C
  | t :: r, C => if t ∈ C ∨ sw t ∈ C then firstG n ts r C else if sw t ∈ comeF n ts t then none else firstG n ts r (C ++ comeF n ts t)
def firstF (n : Nat) (ts : List Ar) : Option (List Ar) := (firstG n ts ts []).map fun C => ts.map fun t => if t ∈ C then t else sw t
/-- arrows for the ties, in their order -/
def nrm (p : Ar) : Ar := if p.1 < p.2 then p else sw p
def Pts (ts ps : List Ar) : Prop := ps.map nrm = ts
theorem nrm_t {t : Ar} (h : t.1 < t.2) : nrm t = t := if_pos h
theorem nrm_sw {t : Ar} (h : t.1 < t.2) : nrm (sw t) = t := by
  unfold nrm sw
  dsimp only
  rw [if_neg (by omega)]
theorem first_pts {n : Nat} {ts ps : List Ar} (hw : WOk n ts) (h : firstF n ts = some ps) : Pts ts ps := by
  unfold firstF at h
  obtain ⟨C, _, rfl⟩ := Option.map_eq_some_iff.mp h
  unfold Pts
  rw [List.map_map]
  have : ∀ t ∈ ts, (nrm ∘ fun t => if t ∈ C then t else sw t) t = id t := fun t ht => by
    have b := hw.2 t ht
    show nrm (if t ∈ C then t else sw t) = t
    split
    · exact nrm_t b.2.1
    · exact nrm_sw b.2.1
  rw [List.map_congr_left this, List.map_id]
end My

set_option Elab.async false
set_option linter.all false
set_option maxRecDepth 100000
namespace My
open PySem PySem.Spec PyProof.Rows L2 GxR

theorem inV_int (ns : List Int) (x : Int) : inV (.int x) (ns.map V.int) = decide (x ∈ ns) := by
  unfold inV
  induction ns with
  | nil => rfl
  | cons a l ih =>
    rw [List.map_cons, List.any_cons, ih]
    by_cases h : a = x
    · subst h; simp [eqV]
    · have h' : ¬ x = a := fun e => h e.symm
      simp [eqV, h, h']
/-! ### the places that each place is tied to -/
def nearT (p : Int) (t : Ar) : Option Int := if t.1 = p then some t.2 else if t.2 = p then some t.1 else none
def nearL (ts : List Ar) (p : Int) : List Int := ts.filterMap (nearT p)
theorem nearL_step (ts : List Ar) (t : Ar) (p : Int) : nearL (ts ++ [t]) p = nearL ts p ++ (if t.1 = p then [t.2] else if t.2 = p then [t.1] else []) := by
  unfold nearL
  rw [List.filterMap_append]
  congr 1
  rw [List.filterMap_cons, List.filterMap_nil]
  unfold nearT
  by_cases h1 : t.1 = p
  · rw [if_pos h1, if_pos h1]
  · rw [if_neg h1, if_neg h1]
    by_cases h2 : t.2 = p
    · rw [if_pos h2, if_pos h2]
    · rw [if_neg h2, if_neg h2]
theorem nearL_len (ts : List Ar) (p : Int) : (nearL ts p).length ≤ ts.length := List.length_filterMap_le _ _
theorem mem_nearL {ts : List Ar} {p c : Int} : c ∈ nearL ts p ↔ ((p, c) ∈ ts ∨ (c, p) ∈ ts) := by
  unfold nearL
  rw [List.mem_filterMap]
  constructor
  · rintro ⟨⟨x, y⟩, ht, e⟩
    unfold nearT at e
    dsimp only at e
    by_cases h1 : x = p
    · rw [if_pos h1] at e; cases e; subst h1; exact .inl ht
    · rw [if_neg h1] at e
      by_cases h2 : y = p
      · rw [if_pos h2] at e; cases e; subst h2; exact .inr ht
      · rw [if_neg h2] at e; cases e
  · rintro (h | h)
    · exact ⟨_, h, if_pos rfl⟩
    · refine ⟨_, h, ?_⟩
      unfold nearT
      dsimp only
      by_cases h1 : c = p
      · rw [if_pos h1, h1]
      · rw [if_neg h1, if_pos rfl]
theorem nearL_nrB {ts : List Ar} {p c : Int} : decide (c ∈ nearL ts p) = nrB ts p c := by
  unfold nrB
  exact decide_eq_decide.mpr mem_nearL
theorem nrB_comm (ts : List Ar) (a b : Int) : nrB ts a b = nrB ts b a := decide_eq_decide.mpr Or.comm
theorem nearL_nd {n : Nat} {ts : List Ar} (hw : WOk n ts) (p : Int) : (nearL ts p).Nodup := by
  unfold nearL
  rw [List.nodup_iff_pairwise_ne, List.pairwise_filterMap]
  refine hw.1.imp_of_mem fun {s t} hs ht h c hc d hd e => ?_
  have bs := hw.2 s hs
  have bt := hw.2 t ht
  subst e
  cases s with | mk s1 s2 =>
  cases t with | mk t1 t2 =>
  unfold nearT at hc hd
  unfold ltT at h
  dsimp only at *
  split at hc
  · split at hd
    · cases hc; cases hd; omega
    · split at hd
      · cases hc; cases hd; omega
      · cases hd
  · split at hc
    · split at hd
      · cases hc; cases hd; omega
      · split at hd
        · cases hc; cases hd; omega
        · cases hd
    · cases hc
/-! ### what a forced_by makes -/
def tE (ts : List Ar) (a b : Int) (c : Int) : Bool := !decide (c = b) && !decide (c ∈ nearL ts b)
def endsL (ts : List Ar) (a b : Int) (l : List Int) : List Ar := (l.filter (tE ts a b)).map fun c => (a, c)
def begL (ts : List Ar) (a b : Int) (l : List Int) : List Ar := (l.filter (tE ts b a)).map fun c => (c, b)
theorem endsL_step (ts : List Ar) (a b : Int) (l : List Int) (c : Int) : endsL ts a b (l ++ [c]) = endsL ts a b l ++ (if tE ts a b c = true then [(a, c)] else []) := by
  unfold endsL
  rw [List.filter_append, List.map_append]
  by_cases h : tE ts a b c = true
  · rw [if_pos h, List.filter_cons_of_pos h]; rfl
  · rw [if_neg h, List.filter_cons_of_neg h]; rfl
theorem begL_step (ts : List Ar) (a b : Int) (l : List Int) (c : Int) : begL ts a b (l ++ [c]) = begL ts a b l ++ (if tE ts b a c = true then [(c, b)] else []) := by
  unfold begL
  rw [List.filter_append, List.map_append]
  by_cases h : tE ts b a c = true
  · rw [if_pos h, List.filter_cons_of_pos h]; rfl
  · rw [if_neg h, List.filter_cons_of_neg h]; rfl
theorem endsL_len (ts : List Ar) (a b : Int) (l : List Int) : (endsL ts a b l).length ≤ l.length := by
  unfold endsL; rw [List.length_map]; exact List.length_filter_le _ _
theorem begL_len (ts : List Ar) (a b : Int) (l : List Int) : (begL ts a b l).length ≤ l.length := by
  unfold begL; rw [List.length_map]; exact List.length_filter_le _ _
def fbL (ts : List Ar) (t : Ar) : List Ar := endsL ts t.1 t.2 (nearL ts t.1) ++ begL ts t.1 t.2 (nearL ts t.2)
theorem near_rng {n : Nat} {ts : List Ar} (hw : WOk n ts) {p c : Int} (h : nrB ts p c = true) : 0 ≤ c ∧ c < (n : Int) := by
  rcases of_decide_eq_true h with z | z
  · have := hw.2 _ z; dsimp only at this; omega
  · have := hw.2 _ z; dsimp only at this; omega
theorem mem_fb {n : Nat} {ts : List Ar} (hw : WOk n ts) {t x : Ar} : x ∈ fbL ts t ↔ x ∈ frcL n ts t := by
  have tE' : ∀ a b c, tE ts a b c = (!decide (c = b) && !nrB ts b c) := fun a b c => by unfold tE; rw [nearL_nrB]
  rw [mem_frc]
  unfold fbL endsL begL
  rw [List.mem_append, List.mem_map, List.mem_map]
  constructor
  · rintro (⟨c, hc, rfl⟩ | ⟨c, hc, rfl⟩)
    · obtain ⟨h1, h2⟩ := List.mem_filter.mp hc
      have h1' : nrB ts t.1 c = true := by rw [← nearL_nrB]; exact decide_eq_true h1
      have r := near_rng hw h1'
      refine .inl ⟨rfl, r.1, r.2, ?_⟩
      rw [tE', Bool.and_eq_true] at h2
      unfold tA
      rw [h2.1, h1', h2.2]; rfl
    · obtain ⟨h1, h2⟩ := List.mem_filter.mp hc
      have h1' : nrB ts t.2 c = true := by rw [← nearL_nrB]; exact decide_eq_true h1
      have r := near_rng hw h1'
      refine .inr ⟨rfl, r.1, r.2, ?_⟩
      rw [tE', Bool.and_eq_true] at h2
      unfold tB'
      rw [h2.1, nrB_comm, h1', h2.2]; rfl
  · rintro (⟨h1, h2, h3, h4⟩ | ⟨h1, h2, h3, h4⟩)
    · unfold tA at h4
      rw [Bool.and_eq_true, Bool.and_eq_true] at h4
      refine .inl ⟨x.2, List.mem_filter.mpr ⟨?_, ?_⟩, Prod.ext h1.symm rfl⟩
      · exact of_decide_eq_true (nearL_nrB.trans h4.2.1)
      · rw [tE', h4.1, h4.2.2]; rfl
    · unfold tB' at h4
      rw [Bool.and_eq_true, Bool.and_eq_true, nrB_comm] at h4
      refine .inr ⟨x.1, List.mem_filter.mpr ⟨?_, ?_⟩, Prod.ext rfl h1.symm⟩
      · exact of_decide_eq_true (nearL_nrB.trans h4.2.1)
      · rw [tE', h4.1, h4.2.2]; rfl
theorem fb_nd {n : Nat} {ts : List Ar} (hw : WOk n ts) (t : Ar) : (fbL ts t).Nodup := by
  unfold fbL endsL begL
  rw [List.nodup_append]
  refine ⟨?_, ?_, fun x hx y hy e => ?_⟩
  · rw [List.nodup_iff_pairwise_ne, List.pairwise_map]
    exact ((List.nodup_iff_pairwise_ne.mp (nearL_nd hw _)).sublist List.filter_sublist).imp fun h e => h (Prod.ext_iff.mp e).2
  · rw [List.nodup_iff_pairwise_ne, List.pairwise_map]
    exact ((List.nodup_iff_pairwise_ne.mp (nearL_nd hw _)).sublist List.filter_sublist).imp fun h e => h (Prod.ext_iff.mp e).1
  · subst e
    obtain ⟨c, hc, rfl⟩ := List.mem_map.mp hx
    obtain ⟨d, hd, e⟩ := List.mem_map.mp hy
    have h1 := (List.mem_filter.mp hc).2
    have e2 := (Prod.ext_iff.mp e).2
    unfold tE at h1
    rw [Bool.and_eq_true, Bool.not_eq_true', decide_eq_false_iff_not] at h1
    exact h1.1 e2.symm
theorem srt_eq {l m fs : List Ar} (hp : fs.Perm l) (nd : l.Nodup) (hs : fs.Pairwise (fun s t => ¬ ltT t s)) (hm : m.Pairwise ltT) (h : ∀ x, x ∈ l ↔ x ∈ m) : fs = m :=
  pw_eq (pw_lt hs (hp.nodup_iff.mpr nd)) hm fun x => hp.mem_iff.trans (h x)
theorem fb_eq {n : Nat} {ts fs : List Ar} {t : Ar} (hw : WOk n ts) (ht : InR n t) (hp : fs.Perm (fbL ts t)) (hs : fs.Pairwise (fun s t => ¬ ltT t s)) : fs = frcS n ts t :=
  srt_eq hp (fb_nd hw t) hs (frcS_pw n ts t) fun x => (mem_fb hw).trans (mem_frcS ht).symm
/-! ### all arrows, rising -/
def arS (n : Nat) (ts : List Ar) : List Ar := (allP n).filter fun x => nrB ts x.1 x.2
theorem arS_pw (n : Nat) (ts : List Ar) : (arS n ts).Pairwise ltT := (allP_pw n).sublist List.filter_sublist
theorem nrB_lt {n : Nat} {ts : List Ar} (hw : WOk n ts) {a b : Int} (h : nrB ts a b = true) : 0 ≤ a ∧ a < (n : Int) ∧ 0 ≤ b ∧ b < (n : Int) ∧ a ≠ b := by
  rcases of_decide_eq_true h with z | z
  · have := hw.2 _ z; dsimp only at this; omega
  · have := hw.2 _ z; dsimp only at this; omega
theorem mem_arS {n : Nat} {ts : List Ar} (hw : WOk n ts) {x : Ar} : x ∈ arS n ts ↔ (x ∈ ts ∨ sw x ∈ ts) := by
  unfold arS
  rw [List.mem_filter, mem_allP]
  constructor
  · rintro ⟨_, h⟩
    exact of_decide_eq_true h
  · intro h
    have h' : nrB ts x.1 x.2 = true := decide_eq_true h
    have b := nrB_lt hw h'
    exact ⟨⟨b.1, b.2.1, b.2.2.1, b.2.2.2.1⟩, h'⟩
theorem ar_nd {n : Nat} {ts : List Ar} (hw : WOk n ts) : (ts ++ ts.map sw).Nodup := by
  have nd := nd_pw hw.1
  rw [List.nodup_append]
  refine ⟨nd, ?_, fun x hx y hy e => ?_⟩
  · rw [List.nodup_iff_pairwise_ne, List.pairwise_map]
    refine (List.nodup_iff_pairwise_ne.mp nd).imp fun {s t} h e => h ?_
    rw [← sw_sw s, e, sw_sw]
  · subst e
    obtain ⟨z, hz, rfl⟩ := List.mem_map.mp hy
    have b1 := hw.2 _ hx
    have b2 := hw.2 _ hz
    unfold sw at b1
    dsimp only at b1
    omega
theorem ar_eq {n : Nat} {ts fs : List Ar} (hw : WOk n ts) (hp : fs.Perm (ts ++ ts.map sw)) (hs : fs.Pairwise (fun s t => ¬ ltT t s)) : fs = arS n ts := by
  refine srt_eq hp (ar_nd hw) hs (arS_pw n ts) fun x => ?_
  rw [mem_arS hw, List.mem_append, List.mem_map]
  constructor
  · rintro (z | ⟨y, hy, rfl⟩)
    · exact .inl z
    · exact .inr hy
  · rintro (z | z)
    · exact .inl z
    · exact .inr ⟨_, z, sw_sw x⟩
theorem arS_inR {n : Nat} {ts : List Ar} {x : Ar} (h : x ∈ arS n ts) : InR n x := mem_allP.mp (List.mem_filter.mp h).1
theorem arS_len {n : Nat} {ts : List Ar} : (arS n ts).length ≤ n * n := by
  rw [← allP_len n]; exact List.length_filter_le _ _
theorem frcS_len {n : Nat} {ts : List Ar} {t : Ar} : (frcS n ts t).length ≤ n * n := by
  rw [← allP_len n]; exact List.length_filter_le _ _
theorem frc_ar {n : Nat} {ts : List Ar} {t x : Ar} (h : x ∈ frcL n ts t) : nrB ts x.1 x.2 = true := by
  rcases mem_frc.mp h with ⟨h1, h2, h3, h4⟩ | ⟨h1, h2, h3, h4⟩
  · unfold tA at h4
    rw [Bool.and_eq_true, Bool.and_eq_true] at h4
    rw [h1]; exact h4.2.1
  · unfold tB' at h4
    rw [Bool.and_eq_true, Bool.and_eq_true] at h4
    rw [h1]; exact h4.2.1
theorem frcS_ar {n : Nat} {ts : List Ar} {t x : Ar} (ht : InR n t) (h : x ∈ frcS n ts t) : x ∈ arS n ts := by
  have h' := (mem_frcS ht).mp h
  exact List.mem_filter.mpr ⟨mem_allP.mpr (frc_rng ht h'), frc_ar h'⟩
theorem frc_sw {n : Nat} {ts : List Ar} {t x : Ar} : x ∈ frcL n ts (sw t) ↔ sw x ∈ frcL n ts t := by
  rw [mem_frc, mem_frc]
  unfold sw tA tB'
  dsimp only
  rw [nrB_comm ts t.2 x.2, nrB_comm ts x.1 t.1]
  constructor
  · rintro (h | h)
    · first | exact .inr h | exact .inl h
    · first | exact .inr h | exact .inl h
  · rintro (h | h)
    · first | exact .inr h | exact .inl h
    · first | exact .inr h | exact .inl h
theorem frc_symm {n : Nat} {ts : List Ar} {t x : Ar} (ht : InR n t) (ha : nrB ts t.1 t.2 = true) (h : x ∈ frcL n ts t) : t ∈ frcL n ts x := by
  obtain ⟨r1, r2, r3, r4⟩ := ht
  rw [mem_frc] at h ⊢
  rcases h with ⟨h1, h2, h3, h4⟩ | ⟨h1, h2, h3, h4⟩
  · unfold tA at h4 ⊢
    rw [Bool.and_eq_true, Bool.and_eq_true, Bool.not_eq_true', decide_eq_false_iff_not] at h4
    refine .inl ⟨h1.symm, r3, r4, ?_⟩
    rw [h1, ha, nrB_comm, h4.2.2, decide_eq_false (fun e => h4.1 e.symm)]; rfl
  · unfold tB' at h4 ⊢
    rw [Bool.and_eq_true, Bool.and_eq_true, Bool.not_eq_true', decide_eq_false_iff_not] at h4
    refine .inr ⟨h1.symm, r1, r2, ?_⟩
    rw [h1, ha, nrB_comm, h4.2.2, decide_eq_false (fun e => h4.1 e.symm)]; rfl
/-! ### forced, turned -/
theorem frcS_sw {n : Nat} {ts fs : List Ar} {t : Ar} (ht : InR n t) (hp : fs.Perm ((frcS n ts t).map sw)) (hs : fs.Pairwise (fun s t => ¬ ltT t s)) : fs = frcS n ts (sw t) := by
  have ht' : InR n (sw t) := ⟨ht.2.2.1, ht.2.2.2, ht.1, ht.2.1⟩
  refine srt_eq hp ?_ hs (frcS_pw n ts _) fun x => ?_
  · rw [List.nodup_iff_pairwise_ne, List.pairwise_map]
    refine (List.nodup_iff_pairwise_ne.mp (nd_pw (frcS_pw n ts t))).imp fun {s t} h e => h ?_
    rw [← sw_sw s, e, sw_sw]
  · rw [mem_frcS ht', frc_sw, List.mem_map]
    constructor
    · rintro ⟨y, hy, rfl⟩
      exact (mem_frcS ht).mp hy
    · intro h
      exact ⟨_, (mem_frcS ht).mpr h, sw_sw x⟩
end My

set_option Elab.async false
set_option linter.all false
set_option maxRecDepth 100000
namespace My
open PySem PySem.Spec PyProof.Rows L2

/-! ### str of data, where no text is being made of anything yet -/
def rStrD (K : PySem.W.Frag) : List V → Hp → VK → Prop := fun xs H Q => ∃ a d, xs = [.ref a] ∧ Dp K H (.ref a) d ∧ d.showable = true ∧ d.hasDict = false ∧ d.depth ≤ 50 ∧ d.shown.length ≤ sizeLine ∧ Q (.str d.shown) H
theorem call_strD {X : Cx} (hg : X.A.guards = some []) (hu : X.A.units + 65 < cLine) : CallR X (.type "str") (rStrD X.K) := by
  rintro pins s σ H xs us Q I r ⟨a, d, rfl, hd, h1, h2, h3, h4, q⟩
  obtain ⟨u, rfl, r1⟩ := vals1 r
  obtain rfl : u = Value.ref a := r1
  obtain ⟨as, rr⟩ := Dp.reads I d _ _ hd rfl
  exact str_of_reads rr h1 (fun z => by rw [h2] at z; cases z) hg (by omega) (fun _ _ e => e) (fun h' t tk k => ⟨.str _, H, I.kept k, ⟨_, rfl⟩, q⟩) h4

/-! ### cuts: what holds behind a piece is named, and the rest is shown from that alone -/
section
variable {X : Cx} {st : Stmt} {rest : List Stmt} {t u : TS} {e : Expr} {te : TE} {tt : TT}
def tCut (t u : TS) : TS := fun D σ H => ∃ M : L2.St → Hp → Prop, t { D with nx := M } σ H ∧ ∀ σ' H', M σ' H' → u D σ' H'
theorem pss_cut (h1 : PS X st t) (h2 : PSs X rest u) : PSs X (st :: rest) (tCut t u) := by
  constructor
  rintro pins s σ H D I ⟨M, h, hM⟩
  refine wpAny_execs_cons (wpAny_mono (h1.run pins s σ H { D with nx := M } I h) (fun f s1 z => ?_) fun _ _ z => z)
  match f, z with
  | .next, ⟨σ', H', I', m⟩ => exact h2.run pins s1 σ' H' D I' (hM _ _ m)
  | .ret _, z => exact z
  | .brk, z => exact z
  | .cont, z => exact z
def tCutE (t : TE) : TE := fun σ H Q => ∃ M : VK, t σ H M ∧ ∀ v H', M v H' → Q v H'
theorem pe_cut (h : PE X e te) : PE X e (tCutE te) := by
  constructor
  rintro pins s σ H Q I ⟨M, m, hM⟩
  refine wpAny_mono (h.run pins s σ H M I m) (fun v s1 z => ?_) fun _ _ z => z
  obtain ⟨x, H', I', r, z⟩ := z
  exact ⟨x, H', I', r, hM _ _ z⟩
def tCutT (t : TT) : TT := fun σ H Q => ∃ M : Bool → Hp → Prop, t σ H M ∧ ∀ v H', M v H' → Q v H'
theorem pt_cut (h : PT X e tt) : PT X e (tCutT tt) := by
  constructor
  rintro pins s σ H Q I ⟨M, m, hM⟩
  refine wpAny_mono (h.run pins s σ H M I m) (fun v s1 z => ?_) fun _ _ z => z
  obtain ⟨H', I', z⟩ := z
  exact ⟨H', I', hM _ _ z⟩
end
/-! ### a def run at the top -/
section
variable {P : Program} {w : World} {K : PySem.W.Frag} {mg : Str → Option Value} {base : Heap}
/-- a call of a def with one argument from the law's own caller -/
def TopRun (P : Program) (w : World) (K : PySem.W.Frag) (mg : Str → Option Value) (base : Heap) (f : Addr) (fd : FuncData) (y : Str) (sp : Sp) : Prop :=
  ∀ (s : Shared) (H : Hp) (u : Value) (v : V) (Q : VK) (E : XK), Env0 P w K mg base callerA [] s H → BindsTo s fd ⟨[u], []⟩ [(y, u)] → RelV v u → sp [v] H Q E →
    codeAny (model P w) callerA (.call (.ref f) ⟨[u], []⟩) (CR CX0 [] P w H s Q E) s
theorem top_run {x y : Str} {st : Stmt} {f : Addr} {fd : FuncData} {N : List Str} {k : Nat} {sp : Sp} (F : Fun K x x st f fd) (S : FnScope N [y] (defScope st)) (room : Room (k + 1) callerA)
    (body : ∀ (cdv : Value) (s : Shared) (H : Hp) (v : V) (Q : VK) (E : XK), Room k (callerA.deeper (envOfC x (defScope st) s.heap.objs.size f cdv)) → sp [v] H Q E →
      ∃ t, PSs (cxOf CX0 P w K mg base N x (defScope st) f cdv callerA [] s H E).nox (defBody st) t ∧ t { nx := fun _ H' => Q .non H', rt := Q } (start N [v]) H) :
    TopRun P w K mg base f fd y sp := by
  intro s H u v Q E e0 hb rv hsp
  obtain ⟨oc, od, kV, doc, pm, an, cdv, ct, osl, rfl, lk, hcd⟩ := F.ex
  have here : K.In s.heap := e0.mod.kin.keeps fun b o z => (e0.bs b o z).1
  have free := e0.mod.nolimit.keeps fun b o z => (e0.bs b o z).1
  refine codeAny_call_function room.depth (here _ _ lk) rfl S.co S.gen rfl (PySem.W.codeRec_of here hcd) (hb _ _ _ _ ?_)
  refine wpAny_newFunctionEnv_cells S.kind ?_ fun env he s1 inn => ?_
  · rintro ⟨n, z⟩ hz
    rcases S.par n (List.of_mem_zip (l₁ := [y]) (l₂ := [u]) hz).1 with loc | cel
    · exact Or.inl loc
    · exact Or.inr ⟨cel, PySem.W.cellsFrom_some _ _ _ (Or.inl cel)⟩
  subst he
  refine ⟨free.keeps inn.toInCall.keep, codeAny_func ?_⟩
  obtain ⟨t, ht, hq⟩ := body cdv s H v Q E (room.deeper _) hsp
  have I0 := inv_start (CX := CX0) (E := E) (vs := [v]) (us := [u]) S room.hd e0 rfl (.cons rv .nil) inn
  refine wpAny_mono (ht.nox.run [] s1 (start N [v]) H _ I0 hq) (fun fl s' out => ?_) fun _ _ z => z
  cases fl with
  | ret z =>
    obtain ⟨v', σ', H', J, r', q'⟩ := out
    exact ⟨v', H', J.os, J.bare, J.base, J.hok, r', q'⟩
  | next =>
    obtain ⟨σ', H', J, q'⟩ := out
    exact ⟨V.non, H', J.os, J.bare, J.base, J.hok, rfl, q'⟩
  | brk => obtain ⟨_, _, _, no⟩ := out; exact no.elim
  | cont => obtain ⟨_, _, _, no⟩ := out; exact no.elim
end
end My

set_option Elab.async false
set_option linter.all false
set_option maxRecDepth 100000
namespace My
open PySem PySem.Spec PyProof.Rows L2

/-! ### the law's call, from what its def does when it is called from the top -/
/-- what the heap tracks when the law is called: the tables, empty, and the script where it is none of the fixed part -/
structure Trk (K : PySem.W.Frag) (s : Shared) (cs : List (Addr × Addr)) (a : Addr) (xs : Array Value) (ys : List V) (H : Hp) : Prop where
  tab : ∀ p ∈ cs, H p.2 = some (.tbl #[])
  scr : SqL K H a ys
  any : ∀ b u, H b = some u → (∃ p ∈ cs, p.2 = b) ∨ (b = a ∧ K.lookup a = none ∧ u = .frz { cls := .type "list", data := .seq xs } (.lst ys))
section
variable {P : Program} {w : World} {K : PySem.W.Frag} {mg mb : Str → Option Value} {fa a : Addr} {cs : List (Addr × Addr)} {fd : FuncData} {y : Str} {sp : Sp} {s : Shared} {vs : List Value} {ns : List Int} {H : Hp}
theorem trk_out (hT : ∀ p ∈ cs, s.heap.get? p.2 = some ⟨.none, none, .fields #[], #[]⟩) (ha : s.heap.get? a = some { cls := .type "list", data := .seq vs.toArray }) {ys : List V} (t : Trk K s cs a vs.toArray ys H) {b : Addr} {o : Obj} (e : s.heap.get? b = some o) (h1 : ∀ us n, o.data = .seq us n → False) (h2 : o.data = .fields #[] → False) : H b = none := by
  cases z : H b with
  | none => rfl
  | some u =>
    exfalso
    rcases t.any b u z with ⟨p, hp, rfl⟩ | ⟨rfl, _, _⟩
    · rw [hT p hp] at e; cases e; exact h2 rfl
    · rw [ha] at e; cases e; exact h1 _ _ rfl
theorem trk_call (KX : K.In s.heap) (g1 : s.heap.Ns mainGlobals mg) (g2 : s.heap.Ns builtinsNs mb) (g3 : ∀ x : Str, x ≠ "__name__" → mb x = bootBuiltins x) (g4 : s.heap.NoLimit) (g5 : s.gens = #[])
    (hT : ∀ p ∈ cs, s.heap.get? p.2 = some ⟨.none, none, .fields #[], #[]⟩) (nT : ∀ p ∈ cs, K.lookup p.2 = none) (hC : ∀ p ∈ cs, PySem.W.CodeHd s.heap p.1 p.2)
    (g6 : ∃ (bm : Addr) (ob : Obj), mg "__builtins__" = some (.ref bm) ∧ bm ≠ builtinsNs ∧ s.heap.get? bm = some ob ∧ ob.cls = .type "module" ∧ ob.dict = some builtinsNs ∧ ob.data = .plain)
    (ha : s.heap.get? a = some { cls := .type "list", data := .seq vs.toArray })
    (R : ∀ base : Heap, K.In base → base.Ns mainGlobals mg → (∀ p ∈ cs, LamX.TabB base mg p.1 p.2) → TopRun P w K mg base fa fd y sp) (hbind : ∀ (s : Shared) (u : Value), BindsTo s fd ⟨[u], []⟩ [(y, u)])
    (t : Trk K s cs a vs.toArray (ns.map V.int) H) (ok : HOk P w H s.heap) (hsp : sp [.ref a] H (fun v _ => v = .bl true) fun _ _ _ => False) :
    codeAny (model P w) callerA (.call (.ref fa) ⟨[.ref a], []⟩) (fun r s' => r = .ok (.ret (.bool true)) ∧ OldK s.heap s'.heap ∧ s'.os = s.os ∧ AllBare s'.gens) s := by
  have up : ∀ {b : Addr} {o : Obj}, s.heap.get? b = some o → (∀ us n, o.data = .seq us n → False) → (o.data = .fields #[] → False) → (hidT s.heap H).get? b = some o := fun e h1 h2 => hidT_get e (trk_out hT ha t e h1 h2)
  have upN : ∀ {b : Addr} {m : Str → Option Value}, s.heap.Ns b m → (hidT s.heap H).Ns b m := by
    rintro b m ⟨o, es, ep, e, d, r⟩
    exact ⟨o, es, ep, up e (fun us n z => by rw [d] at z; cases z) (fun z => by rw [d] at z; cases z), d, r⟩
  have upK : K.In (hidT s.heap H) := by
    intro b o e
    refine hidT_get (KX b o e) ?_
    cases z : H b with
    | none => rfl
    | some u =>
      exfalso
      rcases t.any b u z with ⟨p, hp, rfl⟩ | ⟨rfl, nk, _⟩
      · rw [nT p hp] at e; cases e
      · rw [nk] at e; cases e
  have upM : L2.Mod K mg (hidT s.heap H) := by
    obtain ⟨mc, k1, k2⟩ := g4
    exact ⟨upK, upN g1, ⟨mb, upN g2, g3⟩, ⟨mc, upN k1, k2⟩⟩
  have upT : ∀ p ∈ cs, LamX.TabB (hidT s.heap H) mg p.1 p.2 := by
    intro p hp
    have hp2 := hT p hp
    constructor
    · obtain ⟨o, us, file, tf, flags, tg, inF, text, tt, e1, r1, r2, r3, more⟩ := hC p hp
      refine ⟨o, us, file, tf, flags, tg, inF, text, tt, up e1 (fun z n k => by rw [r2] at k; cases k) (fun k => ?_), r1, r2, r3, more⟩
      rw [r2] at k; cases k; simp at r3
    · obtain ⟨bm, ob, b1, b2, b3, b4, b5, b6⟩ := g6
      refine ⟨bm, ob, b1, b2, fun z => ?_, fun z => ?_, up b3 (fun us n k => by rw [b6] at k; cases k) (fun k => by rw [b6] at k; cases k), b4, b5, b6⟩
      · obtain ⟨o, es, ep, e, hd, _⟩ := g1
        rw [z, e] at b3; cases b3; rw [hd] at b6; cases b6
      · rw [z, hp2] at b3; cases b3; cases b6
    · intro z
      obtain ⟨o, es, ep, e, hd, _⟩ := g1
      rw [z, hp2] at e; cases e; cases hd
  have e0 : Env0 P w K mg (hidT s.heap H) callerA [] s H := by
    refine ⟨rfl, upM, fun b o e => of_hidT e, Nat.le_of_eq (hidT_size _ _), trivial, fun b hb => ?_, ok, .of_eq g5⟩
    exact absurd (show b ∈ ([] : List Addr) from hb) List.not_mem_nil
  refine codeAny_mono (R _ upK (upN g1) upT s H (.ref a) (.ref a) _ _ e0 (hbind s _) rfl hsp) fun r s' h => ?_
  match r, h with
  | .error e, h => exact h.elim
  | .ok .next, h => exact h.elim
  | .ok .brk, h => exact h.elim
  | .ok .cont, h => exact h.elim
  | .ok (.ret u), ⟨v, H', os, bare, un, ok', rv, hv⟩ =>
    obtain rfl : v = .bl true := hv
    obtain rfl : u = Value.bool true := rv
    have key : ∀ b o, s.heap.get? b = some o → (¬ ∃ p ∈ cs, p.2 = b) → s'.heap.get? b = some o := by
      intro b o e nb
      cases z : H b with
      | none => exact un.keep b o e z (fun k => absurd (show b ∈ ([] : List Addr) from k) List.not_mem_nil) List.not_mem_nil
      | some u =>
        rcases t.any b u z with k | ⟨rfl, _, rfl⟩
        · exact absurd k nb
        · have z2 := ok' _ _ (un.frzs _ _ _ z)
          rw [ha] at e; cases e
          exact z2.1
    have tabs : ∀ p ∈ cs, ∃ more : Array Value, s'.heap.get? p.2 = some ⟨.none, none, .fields more, #[]⟩ := by
      intro p hp
      obtain ⟨more, z⟩ := un.tbls p.2 #[] (t.tab p hp)
      exact ⟨_, ok' _ _ z⟩
    refine ⟨rfl, ⟨fun b o e => ?_, fun b o e => ?_⟩, os, bare⟩
    · by_cases hb : ∃ p ∈ cs, p.2 = b
      · obtain ⟨p, hp, rfl⟩ := hb
        obtain ⟨more, hm⟩ := tabs p hp
        rw [hT p hp] at e; cases e
        refine Or.inr (Or.inl ⟨((hC p hp).tab (hT p hp)).isCodeTable, rfl, #[], more, rfl, ?_⟩)
        rw [Array.empty_append]; exact hm
      · exact Or.inl (key b o e hb)
    · by_cases hb : ∃ p ∈ cs, p.2 = b
      · obtain ⟨p, hp, rfl⟩ := hb
        obtain ⟨more, hm⟩ := tabs p hp
        exact ⟨_, hm⟩
      · exact ⟨o, key b o e hb⟩
end
section
open Classical
variable {K : PySem.W.Frag} {a : Addr} {cs : List (Addr × Addr)} {s : Shared} {vs : List Value} {ns : List Int}
noncomputable def trkH (K : PySem.W.Frag) (cs : List (Addr × Addr)) (a : Addr) (xs : Array Value) (ys : List V) : Hp := fun b =>
  if ∃ p ∈ cs, p.2 = b then some (.tbl #[]) else if b = a ∧ K.lookup a = none then some (.frz { cls := .type "list", data := .seq xs } (.lst ys)) else none
theorem trkH_ok {P : Program} {w : World} (KX : K.In s.heap) (hT : ∀ p ∈ cs, s.heap.get? p.2 = some ⟨.none, none, .fields #[], #[]⟩) (ha : s.heap.get? a = some { cls := .type "list", data := .seq vs.toArray }) (hi : IntsAre vs ns) (hl : ns.length ≤ sizeLine) :
    Trk K s cs a vs.toArray (ns.map V.int) (trkH K cs a vs.toArray (ns.map V.int)) ∧ HOk P w (trkH K cs a vs.toArray (ns.map V.int)) s.heap := by
  have na : ¬ ∃ p ∈ cs, p.2 = a := by
    rintro ⟨p, hp, rfl⟩
    rw [hT p hp] at ha; cases ha
  have rv := vals_ints hi
  refine ⟨⟨fun p hp => if_pos ⟨p, hp, rfl⟩, ?_, fun b u e => ?_⟩, fun b u e => ?_⟩
  · cases hk : K.lookup a with
    | some o =>
      have e := KX a o hk
      rw [ha] at e; cases e
      exact Or.inr ⟨_, vs.toArray, _, hk, rfl, rfl, rfl, by rw [List.size_toArray, hi.length]; exact hl, by simpa using rv⟩
    | none => exact Or.inl (Or.inr ⟨_, (if_neg na).trans (if_pos ⟨rfl, hk⟩)⟩)
  · by_cases hb : ∃ p ∈ cs, p.2 = b
    · exact Or.inl hb
    · have e1 := (if_neg hb).symm.trans e
      by_cases hb2 : b = a ∧ K.lookup a = none
      · have e2 := (if_pos hb2).symm.trans e1
        cases e2
        exact Or.inr ⟨hb2.1, hb2.2, rfl⟩
      · have e2 := (if_neg hb2).symm.trans e1
        cases e2
  · by_cases hb : ∃ p ∈ cs, p.2 = b
    · have e1 := (if_pos hb).symm.trans e
      cases e1
      obtain ⟨p, hp, rfl⟩ := hb
      exact hT p hp
    · have e1 := (if_neg hb).symm.trans e
      by_cases hb2 : b = a ∧ K.lookup a = none
      · have e2 := (if_pos hb2).symm.trans e1
        cases e2
        obtain ⟨rfl, _⟩ := hb2
        exact ⟨ha, by rw [List.length_map]; exact hl, vs, _, rv, ha⟩
      · have e2 := (if_neg hb2).symm.trans e1
        cases e2
end
/-- what is known of a law's def at the head's heap -/
def TopAt (l : PySem.W.OpenLaw) (w : World) (K : PySem.W.Frag) (n : Nat) (y : Str) (mg : Str → Option Value) (fa : Addr) (h : Heap) : Prop :=
  ∃ (fd : FuncData) (cs : List (Addr × Addr)) (sp : Sp), (∀ p ∈ cs, h.get? p.2 = some ⟨.none, none, .fields #[], #[]⟩) ∧ (∀ p ∈ cs, K.lookup p.2 = none) ∧ (∀ p ∈ cs, PySem.W.CodeHd h p.1 p.2) ∧ (∀ (s : Shared) (u : Value), BindsTo s fd ⟨[u], []⟩ [(y, u)]) ∧
    (∀ (H : Hp) (a : Addr) (ns : List Int), ns.length ≤ n → (∀ z ∈ ns, Builtin.Int.intBits z ≤ 1048576) → (∀ p ∈ cs, H p.2 = some (.tbl #[])) → SqL K H a (ns.map V.int) → sp [.ref a] H (fun v _ => v = .bl true) fun _ _ _ => False) ∧
    ∀ base : Heap, K.In base → base.Ns mainGlobals mg → (∀ p ∈ cs, LamX.TabB base mg p.1 p.2) → TopRun l.prog w K mg base fa fd y sp
theorem walk_top {l : PySem.W.OpenLaw} {n : Nat} {q : Program} {loose : List Str} {XP : (Str → Option Value) → Heap → Prop} {YP : World → Heap → Prop} {d : DefRec} {y : Str} (hn : l.most = some n) (hn2 : n ≤ sizeLine) (hdf : d.params.defaults = [])
    (F : ∀ (w : World) (mg : Str → Option Value) (fa : Addr) (h : Heap), YP w h → h.Ns mainGlobals mg → mg d.name = some (.ref fa) → ∃ K : PySem.W.Frag, K.In h ∧ TopAt l w K n y mg fa h) :
    PySem.W.WalkO q loose XP YP l.row.toRowW d [] (fun f vs => PySem.call f vs) := by
  apply Att.attach_callB hn hdf
  intro w s0 s1 mg mb fa o pm cd doc a vs ns G Y _ _ _ hm hobj hints hlen hbits hgens
  obtain ⟨K, KX, fd, cs, sp, hT, nT, hC, hb, hsp, hF⟩ := F w mg fa _ Y G.T.g hm
  obtain ⟨tr, ok⟩ := trkH_ok (P := l.prog) (w := w) (cs := cs) KX hT hobj hints (Nat.le_trans hlen hn2)
  exact trk_call KX G.T.g G.T.b G.T.builtins G.T.nolimit hgens hT nT hC G.T.bmain hobj hF hb tr ok (hsp _ a ns hlen hbits tr.tab tr.scr)
end My

set_option Elab.async false
set_option linter.all false
set_option maxRecDepth 100000
namespace My
open PySem PySem.Spec PyProof.Rows L2 GxR

/-! ### what stays while a law goes on -/
theorem same_fr {L : Addr} {H0 H H' : Hp} (s : Same H0 H) (n0 : H0 L = none) (f : Fr L H H') : Same H0 H' := fun b o e =>
  f b o (fun z => by rw [z, n0] at e; cases e) (s b o e)
theorem sq_same {K : PySem.W.Frag} {H H' : Hp} {a : Addr} {xs : List V} (s : Same H H') (h : SqL K H a xs) : SqL K H' a xs := by
  rcases h with (h | ⟨o, h⟩) | h
  · exact .inl (.inl (s _ _ h))
  · exact .inl (.inr ⟨o, s _ _ h⟩)
  · exact .inr h
theorem same_refl (H : Hp) : Same H H := fun _ _ e => e
theorem wok_len {n : Nat} {ts : List Ar} (hW : WOk n ts) (hn : n ≤ 100) : ts.length ≤ 10000 :=
  Nat.le_trans (nd_len (m := pup n n) (nd_pw hW.1) fun t ht => (mem_pup (Nat.le_refl n)).mpr (by have := hW.2 t ht; omega)) (pup_len' hn (Nat.le_refl n))
theorem Eqd.bl {m : Nat} {H : Hp} {i : Bool} : Eqd m H (.bl i) (.bl i) := by
  cases m with
  | zero => exact ⟨rfl, .inr (.inl ⟨i, rfl⟩)⟩
  | succ m => exact .inl ⟨rfl, .inr (.inl ⟨i, rfl⟩)⟩
theorem Eqd.non {m : Nat} {H : Hp} : Eqd m H .non .non := by
  cases m with
  | zero => exact ⟨rfl, .inl rfl⟩
  | succ m => exact .inl ⟨rfl, .inl rfl⟩
theorem lst_eqd {H : Hp} {p q : Addr} {vs us : List V} {ts : List Ar} (hp : H p = some (.lst vs)) (hq : H q = some (.lst us)) (h : Ties H vs ts) (k : Ties H us ts) (l : ts.length ≤ 10000) : Eqd 2 H (.ref p) (.ref q) := by
  refine .inr ⟨p, q, vs, us, rfl, rfl, .inr ⟨hp, hq⟩, by rw [h.len, k.len], by rw [h.len]; exact l, fun i v u e f => ?_⟩
  obtain ⟨t1, e1, h1⟩ := h.at e
  obtain ⟨t2, e2, h2⟩ := k.at f
  rw [e1] at e2; cases e2
  exact tie_eqd h1 h2
theorem Eqd.up2 {m : Nat} {H : Hp} {x y : V} (h : Eqd m H x y) : Eqd (m + 2) H x y := h.up.up
theorem eqv_ties (ts : List Ar) : PyData.eqv (.list (ts.map dT)) (.list (ts.map dT)) = true := SeqAt.eqv_refl _ (can_ties ts)
theorem eqv_tiesT (ts : List Ar) : PyData.eqv (.tuple (ts.map dT)) (.tuple (ts.map dT)) = true := SeqAt.eqv_refl _ (can_ties ts)
theorem cutTo (xs : List V) (j : Nat) : cutV xs none (some (j : Int)) = xs.take j := by
  unfold cutV
  rw [HT.sIx_nat, HT.sIx_none, List.drop_zero, Nat.sub_zero]
  by_cases h : j ≤ xs.length
  · rw [Nat.min_eq_left h]
  · rw [Nat.min_eq_right (by omega), List.take_length, List.take_of_length_le (by omega)]
theorem Ties.take {H : Hp} : ∀ {vs : List V} {ts : List Ar} (j : Nat), Ties H vs ts → Ties H (vs.take j) (ts.take j)
  | _, _, 0, _ => by simp only [List.take_zero]; exact trivial
  | [], [], _ + 1, _ => trivial
  | _ :: _, _ :: _, j + 1, h => ⟨h.1, Ties.take j h.2⟩
  | [], _ :: _, _ + 1, h => h.elim
  | _ :: _, [], _ + 1, h => h.elim
theorem Ties.mem {H : Hp} {vs : List V} {ts : List Ar} {i : Nat} {v : V} (h : Ties H vs ts) (e : vs[i]? = some v) : ∃ t, t ∈ ts ∧ Tie H v t := by
  obtain ⟨t, e1, h1⟩ := h.at e
  exact ⟨t, List.mem_of_getElem? e1, h1⟩

theorem nd_get {qs : List Addr} (nd : qs.Nodup) {i j : Nat} {q : Addr} (h1 : qs[i]? = some q) (h2 : qs[j]? = some q) : i = j := by
  obtain ⟨li, ei⟩ := List.getElem?_eq_some_iff.mp h1
  obtain ⟨lj, ej⟩ := List.getElem?_eq_some_iff.mp h2
  have pw := List.pairwise_iff_getElem.mp (List.nodup_iff_pairwise_ne.mp nd)
  rcases Nat.lt_trichotomy i j with z | z | z
  · exact absurd (ei.trans ej.symm) (pw _ _ li lj z)
  · exact z
  · exact absurd (ej.trans ei.symm) (pw _ _ lj li z)
theorem same_free {H H' : Hp} {p : Addr} (s : Same H H') (h : H' p = none) : H p = none := by
  cases z : H p with
  | none => rfl
  | some o => rw [s _ _ z] at h; cases h
theorem neI (a b : Int) : (!decide (V.int a = V.int b)) = !decide (a = b) := congrArg (! ·) (decide_eq_decide.mpr ⟨fun e => V.int.inj e, fun e => congrArg V.int e⟩)
theorem natOf {a : Int} (h : 0 ≤ a) : ∃ k : Nat, a = (k : Int) := ⟨a.toNat, (Int.toNat_of_nonneg h).symm⟩
/-! ### a web as a text -/
def dW (n : Nat) (ts : List Ar) : PyData := .tuple [.int (n : Int), .tuple (ts.map dT)]
theorem Web.dp {K : PySem.W.Frag} {H : Hp} {v : V} {n : Nat} {ts : List Ar} (h : Web H v n ts) : Dp K H v (dW n ts) := by
  obtain ⟨p, q, vs, rfl, h1, h2, h3⟩ := h
  exact .tup (SqT.of h1) (.cons (.int _) (.cons (.tup (SqT.of h2) h3.dp) .nil))
theorem log_small {i : Int} (h0 : 0 ≤ i) (h : i < 100) : decide (i.natAbs.log2 < 1920) = true := by
  refine decide_eq_true ?_
  have : i.natAbs.log2 ≤ i.natAbs := Nat.log2_le_self _
  omega
theorem show_ties {n : Nat} {ts : List Ar} (hn : n ≤ 100) (hR : ∀ t ∈ ts, InR n t) : PyData.showableAll (ts.map dT) = true ∧ PyData.hasDictAll (ts.map dT) = false := by
  induction ts with
  | nil => exact ⟨rfl, rfl⟩
  | cons t l ih =>
    obtain ⟨i1, i2⟩ := ih fun x hx => hR x (List.mem_cons_of_mem _ hx)
    obtain ⟨a1, a2, a3, a4⟩ := hR t List.mem_cons_self
    rw [List.map_cons, PyData.showableAll, PyData.hasDictAll, i1, i2]
    constructor
    · show (PyData.showableAll [.int t.1, .int t.2] && true) = true
      rw [PyData.showableAll, PyData.showableAll, PyData.showableAll, PyData.showable, PyData.showable, log_small a1 (by omega), log_small a3 (by omega)]; rfl
    · rfl
theorem txt_small : ∀ k : Nat, k < 100 → ((toString ((k : Nat) : Int) : String) : Str).length ≤ 2 := by decide +kernel
theorem txt_len {i : Int} (h0 : 0 ≤ i) (h : i < 100) : ((toString i : String) : Str).length ≤ 2 := by
  obtain ⟨k, rfl⟩ : ∃ k : Nat, i = (k : Int) := ⟨i.toNat, (Int.toNat_of_nonneg h0).symm⟩
  exact txt_small k (by omega)
theorem tupleText_len (l : List Str) : (tupleText l).length ≤ piled l + 3 := by
  unfold tupleText
  rw [strLen_append, strLen_append]
  have e1 : ((("(" : String) : Str)).length = 1 := rfl
  have e3 : (((if l.length == 1 then ",)" else ")" : String) : Str)).length ≤ 2 := by split <;> decide
  rw [e1]
  by_cases h : l = []
  · subst h
    have : (Str.join ", " []).length = 0 := rfl
    omega
  · have := join_length_add l h
    omega
theorem shown_ties {n : Nat} {ts : List Ar} (hn : n ≤ 100) (hR : ∀ t ∈ ts, InR n t) : piled (PyData.shownAll (ts.map dT)) ≤ 13 * ts.length := by
  induction ts with
  | nil => exact Nat.le_refl _
  | cons t l ih =>
    have i1 := ih fun x hx => hR x (List.mem_cons_of_mem _ hx)
    obtain ⟨a1, a2, a3, a4⟩ := hR t List.mem_cons_self
    rw [List.map_cons, PyData.shownAll, piled_cons, List.length_cons]
    have h1 := tupleText_len (PyData.shownAll [.int t.1, .int t.2])
    rw [PyData.shownAll, PyData.shownAll, PyData.shownAll, piled_cons, piled_cons, piled_nil, PyData.shown, PyData.shown] at h1
    have h2 := txt_len a1 (by omega)
    have h3 := txt_len a3 (by omega)
    have h4 : (dT t).shown = tupleText [((toString t.1 : String) : Str), ((toString t.2 : String) : Str)] := by
      unfold dT
      rw [PyData.shown, PyData.shownAll, PyData.shownAll, PyData.shownAll, PyData.shown, PyData.shown]
    rw [h4]
    omega
theorem web_show {n : Nat} {ts : List Ar} (hW : WOk n ts) (hn : n ≤ 12) (hl : ts.length ≤ 10000) : (dW n ts).showable = true ∧ (dW n ts).hasDict = false ∧ (dW n ts).depth ≤ 50 ∧ (dW n ts).shown.length ≤ sizeLine := by
  have hR : ∀ t ∈ ts, InR n t := fun t ht => by
    have := hW.2 t ht
    exact ⟨this.1, by omega, by omega, this.2.2⟩
  obtain ⟨s1, s2⟩ := show_ties (n := n) (by omega) hR
  have s3 := shown_ties (n := n) (by omega) hR
  have s4 := dep_ties ts
  refine ⟨?_, ?_, ?_, ?_⟩
  · unfold dW
    rw [PyData.showable, PyData.showableAll, PyData.showableAll, PyData.showableAll, PyData.showable, PyData.showable, s1, log_small (by omega) (by omega)]; rfl
  · unfold dW
    rw [PyData.hasDict, PyData.hasDictAll, PyData.hasDictAll, PyData.hasDictAll, PyData.hasDict, PyData.hasDict, s2]; rfl
  · unfold dW
    rw [PyData.depth, PyData.depthAll, PyData.depthAll, PyData.depthAll, PyData.depth, PyData.depth]
    omega
  · unfold dW
    rw [PyData.shown, PyData.shownAll, PyData.shownAll, PyData.shownAll, PyData.shown, PyData.shown]
    have h1 := tupleText_len [((toString (n : Int) : String) : Str), tupleText (PyData.shownAll (ts.map dT))]
    rw [piled_cons, piled_cons, piled_nil] at h1
    have h2 := tupleText_len (PyData.shownAll (ts.map dT))
    have h3 := txt_len (i := (n : Int)) (by omega) (by omega)
    have h4 : 200000 ≤ sizeLine := by decide
    omega
/-- what str tells of a web -/
theorem web_str {K : PySem.W.Frag} {H : Hp} {v : V} {n : Nat} {ts : List Ar} {Q : VK} (h : Web H v n ts) (hW : WOk n ts) (hn : n ≤ 12) (hl : ts.length ≤ 10000) (q : Q (.str (dW n ts).shown) H) : rStrD K [v] H Q := by
  obtain ⟨s1, s2, s3, s4⟩ := web_show hW hn hl
  have hd := h.dp (K := K)
  obtain ⟨p, q', vs, rfl, _⟩ := h
  exact ⟨p, _, rfl, hd, s1, s2, s3, s4, q⟩
end My

set_option Elab.async false
set_option linter.all false
set_option maxRecDepth 100000
namespace My
open PySem PySem.Spec PyProof.Rows L2 GxR
/-! ### one table -/
theorem frm_tst {PT : Addr} {H H' : Hp} (s : FrM [PT] H H') (tg : TabG H PT) : Tst H H' := fun b xs e => by
  refine s b _ (fun z => ?_) e
  obtain ⟨ps, h1, _⟩ := tg
  rw [List.mem_singleton.mp z, h1] at e; cases e
theorem frm_lst {PT p : Addr} {H H' : Hp} {xs : List V} (s : FrM [PT] H H') (tg : TabG H PT) (e : H p = some (.lst xs)) : H' p = some (.lst xs) := by
  refine s p _ (fun z => ?_) e
  obtain ⟨ps, h1, _⟩ := tg
  rw [List.mem_singleton.mp z, h1] at e; cases e
theorem tab_same {H H' : Hp} {PT : Addr} (h : TabG H PT) (s : Same H H') : TabG H' PT := by
  obtain ⟨ps, h1, h2⟩ := h
  exact ⟨ps, s _ _ h1, h2⟩
structure St1 (PT : Addr) (H0 H : Hp) : Prop where
  fr : FrM [PT] H0 H
  tg : TabG H PT
theorem St1.same {PT : Addr} {H0 H H' : Hp} (h : St1 PT H0 H) (s : Same H H') : St1 PT H0 H' := ⟨h.fr.trans (FrM.same s), tab_same h.tg s⟩
theorem St1.tab {PT : Addr} {H0 H H' : Hp} (h : St1 PT H0 H) (s : FrM [PT] H H') (t : TabG H' PT) : St1 PT H0 H' := ⟨h.fr.trans s, t⟩
theorem St1.free {PT p : Addr} {H0 H : Hp} (h : St1 PT H0 H) (e : H p = none) : H0 p = none := by
  cases z : H0 p with
  | none => rfl
  | some o =>
    exfalso
    by_cases hp : p = PT
    · obtain ⟨ps, h1, _⟩ := h.tg
      rw [hp, h1] at e; cases e
    · rw [h.fr p o (fun w => hp (List.mem_singleton.mp w)) z] at e; cases e
theorem St1.frL {PT L : Addr} {H0 H H' : Hp} {c : Int} (h : St1 PT H0 H) (lf : Lf H L c) (n0 : H0 L = none) (f : Fr L H H') : St1 PT H0 H' := by
  obtain ⟨x, y, z, e, _⟩ := lf
  obtain ⟨ps, h1, h2⟩ := h.tg
  have nP : PT ≠ L := fun w => by rw [w, e] at h1; cases h1
  exact ⟨fun b o nb eb => f b o (fun w => by rw [w, n0] at eb; cases eb) (h.fr b o nb eb), ⟨ps, f _ _ nP h1, h2⟩⟩
theorem St1.sq {K : PySem.W.Frag} {PT a : Addr} {H0 H : Hp} {xs : List V} (h0 : TabG H0 PT) (h : St1 PT H0 H) (e : SqL K H0 a xs) : SqL K H a xs := by
  obtain ⟨ps, p1, _⟩ := h0
  have k : ∀ {o : HO}, H0 a = some o → (∀ ps, o ≠ .tbl ps) → H a = some o := fun {o} ea nb => by
    refine h.fr a o (fun z => ?_) ea
    rw [List.mem_singleton.mp z, p1] at ea; cases ea; exact nb _ rfl
  rcases e with (e | ⟨o, e⟩) | e
  · exact .inl (.inl (k e fun _ z => by cases z))
  · exact .inl (.inr ⟨o, k e fun _ z => by cases z⟩)
  · exact .inr e
theorem lf_tab {PT L : Addr} {H H' : Hp} {c : Int} (lf : Lf H L c) (s : FrM [PT] H H') (tg : TabG H PT) : Lf H' L c := by
  obtain ⟨x, y, z, e, h⟩ := lf
  obtain ⟨ps, h1, _⟩ := tg
  refine ⟨x, y, z, s _ _ (fun w => ?_) e, h⟩
  rw [List.mem_singleton.mp w, h1] at e; cases e
/-! one table, and what stands beside it -/
theorem St1.refl {PT : Addr} {H : Hp} (t : TabG H PT) : St1 PT H H := ⟨FrM.refl _ _, t⟩
theorem St1.trans {PT : Addr} {H0 H1 H2 : Hp} (a : St1 PT H0 H1) (b : St1 PT H1 H2) : St1 PT H0 H2 := ⟨a.fr.trans b.fr, b.tg⟩
theorem tab_ne {PT p : Addr} {H : Hp} {xs : List V} (t : TabG H PT) (e : H p = some (.lst xs)) : p ≠ PT := fun z => by
  obtain ⟨ps, h1, _⟩ := t
  rw [z, h1] at e; cases e
theorem St1.put {PT p : Addr} {H0 H : Hp} {o : HO} {xs : List V} (h : St1 PT H0 H) (e : H0 p = none) (e2 : H p = some (.lst xs)) : St1 PT H0 (upd H p o) := by
  obtain ⟨ps, h1, h2⟩ := h.tg
  exact ⟨h.fr.putN e, ps, by rw [upd_ne (Ne.symm (tab_ne h.tg e2))]; exact h1, h2⟩
theorem St1.new {PT p : Addr} {H0 H : Hp} {o : HO} (h : St1 PT H0 H) (e : H p = none) : St1 PT H0 (upd H p o) := h.same (same_new e)
theorem St1.lst {PT p : Addr} {H0 H : Hp} {xs : List V} (h : St1 PT H0 H) (t : TabG H0 PT) (e : H0 p = some (.lst xs)) : H p = some (.lst xs) := frm_lst h.fr t e
theorem St1.tst {PT : Addr} {H0 H : Hp} (h : St1 PT H0 H) (t : TabG H0 PT) : Tst H0 H := frm_tst h.fr t
end My

set_option Elab.async false
set_option linter.all false
set_option maxRecDepth 100000
namespace My
open PySem PySem.Spec PyProof.Rows L2 GxR

/-! ### sorted(d), d a dict whose keys are pairs -/
theorem kt_ties {H : Hp} {kvs : List (List Key × V)} {xs : List (List Key × Addr × Value)} (r : KT H kvs xs) : ∀ {cs : List (Int × Int)}, kvs.map (·.1) = cs.map pk → Ties H (xs.map fun x => V.ref x.2.1) cs := by
  induction r with
  | nil =>
    intro cs e
    cases cs with
    | nil => exact trivial
    | cons c cs => cases e
  | cons h t ih =>
    rename_i p q l m
    intro cs e
    cases cs with
    | nil => cases e
    | cons c cs =>
      rw [List.map_cons, List.map_cons] at e
      obtain ⟨e1, e2⟩ := List.cons.inj e
      refine ⟨⟨q.2.1, rfl, ?_⟩, ih e2⟩
      rw [h.2.1, e1]; rfl
section
variable {X : Cx}
/-- what sorted does behind the collecting -/
theorem sort_rest {pins : List (Addr × Obj)} {σ : L2.St} {H : Hp} {s : Shared} {L : List Value} {cs : List (Int × Int)} {R : PySem.Fin → Shared → Prop} {E : Value → Shared → Prop} (I1 : Inv X pins σ H s) (hT : Ties H (L.map backV) cs) (rf : ∀ v ∈ L, ∃ b, v = Value.ref b) (hLz : L.length ≤ sizeLine)
    (hR : ∀ (p : Addr) (s' : Shared) (ys : List V) (ts : List (Int × Int)), Ties H ys ts → ts.Perm cs → ts.Pairwise (fun s t => ¬ ltT t s) → H p = none → Inv X pins σ (upd H p (.lst ys)) s' → R (.done (.ret (.ref p))) s') :
    wpAny (model X.prog X.w) X.A.in1 (newList L >>= fun l => holding [l] (call (.builtin "list.sort") [l]) >>= fun _ => ret l) R E s := by
  refine wpAny_bind (wpAny_newList ?_ hLz)
  have at0 : (s.heap.push (seqObj "list" L.toArray 0)).get? s.heap.objs.size = some (seqObj "list" L.toArray 0) := Heap.get?_push_size _ rfl
  have pr : ∀ v ∈ L, Srt.IsPair s.heap v (My.key H (backV v)).1 (My.key H (backV v)).2 := fun v hv => by
    have hb := hT.all (backV v) (List.mem_map.mpr ⟨v, hv, rfl⟩)
    obtain ⟨b, rfl⟩ := rf v hv
    obtain ⟨b', e, hb⟩ := hb
    cases e
    obtain ⟨_, its, r2, o2, ho2, hc2, n2, hd2⟩ := I1.hok _ _ hb
    obtain ⟨u1, u2, rfl, ⟨t1, rfl⟩, ⟨t2, rfl⟩⟩ := vals2 r2
    exact ⟨b, o2, t1, t2, n2, rfl, ho2, hc2, hd2⟩
  show wpAny _ _ _ _ _ { s with heap := s.heap.push (seqObj "list" L.toArray 0) }
  refine wpAny_bind (wpAny_holding (wpAny_call_entry PyProof.Rows.slot_list_sort ⟨_, at0, rfl⟩ PyProof.Rows.entry_list_sort (SrtO.list_sort_ord (s := { s with heap := s.heap.push (seqObj "list" L.toArray 0) }) (SrtO.swo_lex fun v => My.key H (backV v)) at0 hLz (fun h2 => ?_) fun out hs hb => ⟨_, rfl, ?_⟩) (PyProof.Rows.args_list_sort _)))
  · refine SrtO.pairs_sortableO (s := { s with heap := s.heap.push (seqObj "list" L.toArray 0) }) (k := fun v => My.key H (backV v)) (by omega) (fun v hv => (pr v hv).keeps fun b o e _ => Heap.get?_push_of_some _ e) fun o e => ?_
    have e' := e.symm.trans at0
    cases e'
    intro c
    exact absurd (Value.type.inj c) (by decide)
  · obtain ⟨e', he'⟩ := PyProof.Rows.sortedHeap_at (vs := L) (out := out.toArray) at0
    have ro : ∀ v ∈ out, ∃ b, v = Value.ref b := fun v hv => rf v (hb.perm.mem_iff.mp hv)
    have hs' : SrtO.Srtd (ltP (My.key H)) (out.map backV) := SrtO.srtd_map hs
    obtain ⟨ts, h1, h2, h3⟩ := srt_ties hs' (hb.perm.map backV) hT
    refine wpAny_pure (hR s.heap.objs.size _ _ ts h1 h2 h3 (I1.hok.fresh (Nat.le_refl _)) (I1.laid (t' := s.toks) (fun b ob e => ?_) (Nat.le_refl _) ⟨?_, out, e', vals_back ro, he'⟩))
    · have hlt : b < s.heap.objs.size := Heap.lt_size e
      rw [PyProof.Rows.sortedHeap_old (Nat.ne_of_lt hlt) (by rw [Heap.size_push]; exact Nat.lt_succ_of_lt hlt)]
      exact Heap.get?_push_of_some _ e
    · rw [List.length_map, hb.perm.length_eq]; exact hLz
end
def rSortedDT : List V → Hp → VK → Prop := fun vs H Q => ∃ (a : Addr) (kvs : List (List Key × V)) (cs : List (Int × Int)), vs = [.ref a] ∧ H a = some (.dT kvs) ∧ kvs.map (·.1) = cs.map pk ∧
  ∀ ys p ts, Ties H ys ts → ts.Perm cs → ts.Pairwise (fun s t => ¬ ltT t s) → H p = none → Q (.ref p) (upd H p (.lst ys))
def rSortedTT (K : PySem.W.Frag) : List V → Hp → VK → Prop := fun vs H Q => ∃ (a : Addr) (us : List V) (cs : List (Int × Int)), vs = [.ref a] ∧ SqT K H a us ∧ Ties H us cs ∧
  ∀ ys p ts, Ties H ys ts → ts.Perm cs → ts.Pairwise (fun s t => ¬ ltT t s) → H p = none → Q (.ref p) (upd H p (.lst ys))
section
variable {X : Cx}
theorem call_sortedDT (hc : X.calm = true) : CallR X (.builtin "sorted") rSortedDT := by
  rintro pins s σ H vs us Q I r ⟨a, kvs, cs, rfl, ha, hk, q⟩
  obtain ⟨u, rfl, ru⟩ := vals1 r
  obtain rfl : u = Value.ref a := ru
  obtain ⟨z, lo, xs, rel, o, es, ep, ho, hex, hdat, hes, his, hnd⟩ := dt_of I.hok ha
  have hsz : es.size = xs.length := size_of_entries hes
  have hlen : kvs.length = xs.length := Paired.length rel
  obtain ⟨L, hL⟩ : ∃ L : List Value, L = xs.map fun x => Value.ref x.2.1 := ⟨_, rfl⟩
  have hLl : L.length = xs.length := by rw [hL, List.length_map]
  have hback : L.map backV = xs.map fun x => V.ref x.2.1 := by
    rw [hL, List.map_map]; rfl
  have hT : Ties H (L.map backV) cs := by rw [hback]; exact kt_ties rel hk
  refine Calls.call_function_entry PyProof.Rows.kind_sorted PyProof.Rows.plain_sorted PyProof.Rows.entry_sorted (PyProof.Rows.args_sorted1 _) (?_ : wpAny _ _ (Builtin.«sorted» ⟨[.ref a], []⟩) _ _ s)
  unfold Builtin.«sorted»
  refine wpAny_bind (m := checkCount "sorted" 1 1 _) (wpAny_pure (wpAny_bind (PySem.W.kdu_collect (A := X.A.in1) (PySem.KdlSrc.rawDict (es := es) (ep := ep) lo) (I.ok.hd hc) ⟨o, ho, hex, hdat⟩ (by rw [hsz, ← hlen]; exact z) fun h' tk acc kp hacc => ?_)))
  have hA : acc.toList = L := by
    refine List.ext_getElem? fun j => ?_
    rw [hL, List.getElem?_map]
    by_cases hj : j < xs.length
    · have hj2 : j < acc.size := by rw [hacc.1, hsz]; exact hj
      obtain ⟨hi, e⟩ := hacc.2 j acc[j] (Array.getElem?_eq_getElem hj2)
      have e1 := entry_at hes j
      rw [Array.getElem?_eq_getElem hi, List.getElem?_eq_getElem hj] at e1
      have e2 := Option.some.inj e1
      rw [Array.getElem?_toList, Array.getElem?_eq_getElem hj2, e, e2, List.getElem?_eq_getElem hj]; rfl
    · rw [List.getElem?_eq_none (l := acc.toList) (by rw [Array.length_toList, hacc.1, hsz]; omega), List.getElem?_eq_none (l := xs) (by omega)]; rfl
  rw [hA]
  refine sort_rest (I.kept kp) hT (fun v hv => ?_) (by rw [hLl, ← hlen]; exact z) fun p s' ys ts h1 h2 h3 np J => ⟨_, rfl, .ref p, _, J, rfl, q ys p ts h1 h2 h3 np⟩
  rw [hL] at hv
  obtain ⟨x, _, rfl⟩ := List.mem_map.mp hv
  exact ⟨_, rfl⟩
theorem collect_tup {prog : Program} {w : World} {A : Around} {E : Value → Shared → Prop} {s : Shared} {l : Addr} {vs : List Value} {Q : List Value → Shared → Prop} (hl : IsTup s.heap l vs.toArray) (hsz : vs.length ≤ sizeLine)
    (h : ∀ h', (∀ b o, s.heap.get? b = some o → h'.get? b = some o) → Q vs { s with heap := h' }) : wpAny (model prog w) A (collect (.ref l)) Q E s := by
  obtain ⟨o, ho, hc, n, hd⟩ := id hl
  have up : (s.heap.push (seqObj "list" #[] 0)).get? l = some o := Heap.get?_push_of_some _ ho
  have me : (s.heap.push (seqObj "list" #[] 0)).get? s.heap.objs.size = some (seqObj "list" #[] 0) := Heap.get?_push_size _ rfl
  unfold collect
  refine wpAny_bind (wpAny_runValue (codeAny_builtin entry_proto_collect' (?_ : wpAny _ _ (do again (.builtin "list.__iadd__" ⟨[← newList [], .ref l], []⟩)) _ _ s)))
  refine wpAny_bind (wpAny_newList (wpAny_pure ⟨Code.quiet_builtin _ (by decide +kernel), codeAny_builtin entry_list_iadd' (?_ : wpAny _ _ (Builtin.List.listExtendWith (.ref s.heap.objs.size) (.ref l) (.ref s.heap.objs.size)) _ _ { s with heap := s.heap.push (seqObj "list" #[] 0) })⟩))
  unfold Builtin.List.listExtendWith
  refine wpAny_bind (wpAny_typeOf (T := "tuple") ⟨o, up, hc⟩ ?_)
  have tt : (Value.type "tuple" == Value.type "tuple") = true := rfl
  rw [if_pos (by rw [tt]; simp)]
  refine wpAny_bind (listItems_at up hd (wpAny_bind (listItems_at me rfl ?_)))
  rw [if_neg (by simp)]
  refine wpAny_bind (listUpdate_at me rfl (wpAny_pure ?_) (Nat.zero_le _) (by show (#[] ++ vs.toArray).size ≤ sizeLine + 1; simp only [Array.size_append, List.size_toArray, List.length_nil]; omega))
  show wpAny (model prog w) A (load s.heap.objs.size >>= fun o => match o.data with | .seq xs _ => pure xs.toList | _ => unsupported "internal:collect") Q E { s with heap := (s.heap.push (seqObj "list" #[] 0)).update s.heap.objs.size (Obj.mapSeq (· ++ vs.toArray)) }
  refine wpAny_bind (wpAny_load (get?_update_seq me _) (?_ : wpAny _ _ (pure ((#[] : Array Value) ++ vs.toArray).toList) Q E _))
  rw [show ((#[] : Array Value) ++ vs.toArray).toList = vs by simp]
  refine wpAny_pure (h _ fun b ob e => ?_)
  rw [Heap.get?_update_ne _ _ _ _ (Nat.ne_of_lt (Heap.lt_size e))]
  exact Heap.get?_push_of_some _ e
theorem back_refs {H : Hp} : ∀ {us : List V} {its : List Value} {cs : List (Int × Int)}, Vals us its → Ties H us cs → its.map backV = us ∧ ∀ v ∈ its, ∃ b, v = Value.ref b
  | _, _, _, .nil, _ => ⟨rfl, fun v hv => absurd hv List.not_mem_nil⟩
  | _ :: _, _ :: _, [], .cons _ _, h => h.elim
  | _ :: _, _ :: _, _ :: _, .cons r t, h => by
    obtain ⟨i1, i2⟩ := back_refs t h.2
    obtain ⟨p, rfl, _⟩ := h.1
    cases r
    refine ⟨by rw [List.map_cons, i1]; rfl, fun v hv => ?_⟩
    rcases List.mem_cons.mp hv with rfl | hv
    · exact ⟨_, rfl⟩
    · exact i2 v hv
theorem call_sortedTT : CallR X (.builtin "sorted") (rSortedTT X.K) := by
  rintro pins s σ H vs us Q I r ⟨a, ws, cs, rfl, ha, hT, q⟩
  obtain ⟨u, rfl, ru⟩ := vals1 r
  obtain rfl : u = Value.ref a := ru
  obtain ⟨its, rv, ht, hz⟩ := I.tuple ha
  obtain ⟨b1, b2⟩ := back_refs rv hT
  refine Calls.call_function_entry PyProof.Rows.kind_sorted PyProof.Rows.plain_sorted PyProof.Rows.entry_sorted (PyProof.Rows.args_sorted1 _) (?_ : wpAny _ _ (Builtin.«sorted» ⟨[.ref a], []⟩) _ _ s)
  unfold Builtin.«sorted»
  have hz' : its.length ≤ sizeLine := by rw [← rv.length]; exact hz
  refine wpAny_bind (m := checkCount "sorted" 1 1 _) (wpAny_pure (wpAny_bind (collect_tup ht hz' fun h' kp => ?_)))
  exact sort_rest (I.kept (t' := s.toks) kp) (by rw [b1]; exact hT) b2 hz' fun p s' ys ts h1 h2 h3 np J => ⟨_, rfl, .ref p, _, J, rfl, q ys p ts h1 h2 h3 np⟩
end
end My

set_option Elab.async false
set_option linter.all false
set_option maxRecDepth 100000
namespace My
open PySem PySem.Spec PyProof.Rows L2 GxR
/-- the lists of places that each place is tied to -/
def NearsAt (H : Hp) (p : Addr) (n : Nat) (ts : List Ar) : Prop := ∃ qs : List Addr, H p = some (.lst (qs.map V.ref)) ∧ qs.length = n ∧ qs.Nodup ∧ p ∉ qs ∧ ∀ (i : Nat) (q : Addr), qs[i]? = some q → H q = some (.lst ((nearL ts (i : Int)).map V.int))
theorem NearsAt.mono {H H' : Hp} {p : Addr} {n : Nat} {ts : List Ar} (h : NearsAt H p n ts) (s : Same H H') : NearsAt H' p n ts := by
  obtain ⟨qs, h1, h2, h3, h4, h5⟩ := h
  exact ⟨qs, s _ _ h1, h2, h3, h4, fun i q e => s _ _ (h5 i q e)⟩
section
variable {P : Program} {w : World} {K : PySem.W.Frag} {mg : Str → Option Value} {base : Heap}
end
end My

set_option Elab.async false
set_option linter.all false
set_option maxRecDepth 100000
namespace My
open PySem PySem.Spec PyProof.Rows L2 GxR
section
variable {P : Program} {w : World} {K : PySem.W.Frag} {mg : Str → Option Value} {base : Heap}
end
end My

set_option Elab.async false
set_option linter.all false
set_option maxRecDepth 100000
namespace My
open PySem PySem.Spec PyProof.Rows L2 GxR
theorem valV_keys {o : Ar} : ∀ {ms : List (List Key × V)} {cs : List Ar}, ms.map (·.1) = cs.map pk → (valV ms (pk o)).isSome = decide (o ∈ cs)
  | [], [], _ => rfl
  | [], _ :: _, h => by cases h
  | _ :: _, [], h => by cases h
  | m :: ms, c :: cs, h => by
    rw [List.map_cons, List.map_cons] at h
    have h1 : m.1 = pk c := (List.cons.inj h).1
    have ih := valV_keys (o := o) (List.cons.inj h).2
    by_cases e : c = o
    · subst e
      rw [valV_pos h1]
      exact (decide_eq_true List.mem_cons_self).symm
    · rw [valV_neg (fun z => e (pk_inj (h1.symm.trans z))), ih]
      refine decide_eq_decide.mpr ?_
      rw [List.mem_cons]
      exact ⟨.inr, fun z => z.elim (fun z => absurd z.symm e) id⟩
theorem keys_put {ms : List (List Key × V)} {cs : List Ar} {o : Ar} {v : V} (h : ms.map (·.1) = cs.map pk) (hn : ¬ o ∈ cs) : (putK ms (pk o) v).map (·.1) = (cs ++ [o]).map pk := by
  have e : (ms.any fun kv => decide (kv.1 = pk o)) = false := by
    rw [valV_any, valV_keys h]; exact decide_eq_false hn
  unfold putK
  rw [e]
  show (ms ++ [(pk o, v)]).map (·.1) = _
  rw [List.map_append, List.map_append, h]; rfl
theorem Ties.dropLast {H : Hp} : ∀ {vs : List V} {ts : List Ar}, Ties H vs ts → Ties H vs.dropLast ts.dropLast
  | [], [], _ => trivial
  | [_], [_], _ => trivial
  | _ :: _ :: _, _ :: _ :: _, h => ⟨h.1, Ties.dropLast h.2⟩
  | [], _ :: _, h => h.elim
  | _ :: _, [], h => h.elim
  | [_], _ :: _ :: _, h => h.2.elim
  | _ :: _ :: _, [_], h => h.2.elim
theorem comeR_ok {n : Nat} {ts : List Ar} : ∀ (k : Nat) {fw : List Ar × List Ar}, GrowI n fw → (comeR n ts k fw).Nodup ∧ ∀ t ∈ comeR n ts k fw, InR n t
  | 0, fw, h => ⟨h.nd, h.rng⟩
  | k + 1, fw, h => by
    unfold comeR
    cases e : fw.2.getLast? with
    | none => exact ⟨h.nd, h.rng⟩
    | some x =>
      have hx : InR n x := h.sub x (List.mem_of_getLast? e)
      exact comeR_ok k (grow_all (fs := frcS n ts x) (fw := (fw.1, fw.2.dropLast)) ⟨h.nd, h.rng, fun t ht => h.sub t ((List.dropLast_sublist _).subset ht)⟩ fun t ht => frc_rng hx ((mem_frcS hx).mp ht)).1
theorem growI_one {n : Nat} {t : Ar} (h : InR n t) : GrowI n ([t], [t]) :=
  ⟨List.nodup_cons.mpr ⟨List.not_mem_nil, List.nodup_nil⟩, fun s hs => by rw [List.mem_singleton.mp hs]; exact h, fun s hs => by rw [List.mem_singleton.mp hs]; exact h⟩
theorem come_ok {n : Nat} {ts : List Ar} {t : Ar} (h : InR n t) : (comeF n ts t).Nodup ∧ ∀ x ∈ comeF n ts t, InR n x := comeR_ok _ (growI_one h)
theorem eqv_nil (wl : List Ar) : PyData.eqv (.list (wl.map dT)) (.list []) = decide (wl = []) := by
  cases wl with
  | nil => rfl
  | cons a l => rfl
section
variable {P : Program} {w : World} {K : PySem.W.Frag} {mg : Str → Option Value} {base : Heap}
end
end My

set_option Elab.async false
set_option linter.all false
set_option maxRecDepth 100000
namespace My
open PySem PySem.Spec PyProof.Rows L2 GxR
theorem joinA_merge {kvs ms : List (List Key × V)} {C D : List Ar} (h : JoinA kvs C) (k : ms.map (·.1) = D.map pk) : JoinA (mergeT kvs ms) (C ++ D) := fun o => by
  rw [valV_mergeT, h o, valV_keys k, Bool.or_comm]
  by_cases a : o ∈ C <;> by_cases b : o ∈ D <;> simp [a, b]
theorem inR_of {n : Nat} {ts : List Ar} (hw : WOk n ts) {t : Ar} (h : t ∈ ts) : InR n t := by
  have := hw.2 t h
  exact ⟨this.1, by omega, by omega, this.2.2⟩
section
variable {P : Program} {w : World} {K : PySem.W.Frag} {mg : Str → Option Value} {base : Heap}
end
end My

set_option Elab.async false
set_option linter.all false
set_option maxRecDepth 100000
namespace My
open PySem PySem.Spec PyProof.Rows L2 GxR

/-! ### where forcings lead -/
inductive Rch (n : Nat) (ts : List Ar) (t : Ar) : Ar → Prop
  | refl : Rch n ts t t
  | step {x y : Ar} : Rch n ts t x → y ∈ frcS n ts x → Rch n ts t y
theorem Rch.trans {n : Nat} {ts : List Ar} {a b c : Ar} (h : Rch n ts a b) (k : Rch n ts b c) : Rch n ts a c := by
  induction k with
  | refl => exact h
  | step _ m ih => exact .step ih m
theorem Rch.inR {n : Nat} {ts : List Ar} {a b : Ar} (ha : InR n a) (h : Rch n ts a b) : InR n b := by
  induction h with
  | refl => exact ha
  | step _ m ih => exact frc_rng ih ((mem_frcS ih).mp m)
theorem Rch.ar {n : Nat} {ts : List Ar} {a b : Ar} (ha : a ∈ arS n ts) (h : Rch n ts a b) : b ∈ arS n ts := by
  induction h with
  | refl => exact ha
  | step _ m ih => exact frcS_ar (arS_inR ih) m
theorem arS_nr {n : Nat} {ts : List Ar} {x : Ar} (h : x ∈ arS n ts) : nrB ts x.1 x.2 = true := (List.mem_filter.mp h).2
theorem frcS_symm {n : Nat} {ts : List Ar} {x y : Ar} (hx : x ∈ arS n ts) (h : y ∈ frcS n ts x) : x ∈ frcS n ts y := by
  have hR := arS_inR hx
  have hL := (mem_frcS hR).mp h
  exact (mem_frcS (frc_rng hR hL)).mpr (frc_symm hR (arS_nr hx) hL)
theorem Rch.symm {n : Nat} {ts : List Ar} {a b : Ar} (ha : a ∈ arS n ts) (h : Rch n ts a b) : Rch n ts b a := by
  induction h with
  | refl => exact .refl
  | step k m ih => exact Rch.trans (.step .refl (frcS_symm (k.ar ha) m)) ih
theorem inR_sw {n : Nat} {t : Ar} (h : InR n t) : InR n (sw t) := ⟨h.2.2.1, h.2.2.2, h.1, h.2.1⟩
theorem Rch.sw {n : Nat} {ts : List Ar} {a b : Ar} (ha : InR n a) (h : Rch n ts a b) : Rch n ts (sw a) (sw b) := by
  induction h with
  | refl => exact .refl
  | step k m ih =>
    have hx := k.inR ha
    refine .step ih ((mem_frcS (inR_sw hx)).mpr (frc_sw.mpr ?_))
    exact (mem_frcS hx).mp m
theorem Rch.closed {n : Nat} {ts : List Ar} {a b : Ar} {P : Ar → Prop} (h0 : P a) (hc : ∀ x, P x → ∀ y ∈ frcS n ts x, P y) (h : Rch n ts a b) : P b := by
  induction h with
  | refl => exact h0
  | step _ m ih => exact hc _ ih _ m
/-! ### what the law's own going on finds -/
theorem grow_mem {fs : List Ar} : ∀ {fw : List Ar × List Ar}, (∀ x ∈ fw.1, x ∈ (grow fs fw).1) ∧ (∀ x ∈ fs, x ∈ (grow fs fw).1) ∧ (∀ x ∈ fw.2, x ∈ (grow fs fw).2) ∧ (∀ x ∈ (grow fs fw).1, x ∈ fw.1 ∨ (x ∈ fs ∧ x ∈ (grow fs fw).2)) ∧ (∀ x ∈ (grow fs fw).2, x ∈ fw.2 ∨ x ∈ (grow fs fw).1) := by
  induction fs with
  | nil => exact fun {fw} => ⟨fun _ h => h, fun _ h => absurd h List.not_mem_nil, fun _ h => h, fun _ h => .inl h, fun _ h => .inl h⟩
  | cons o fs ih =>
    intro fw
    by_cases hm : o ∈ fw.1
    · have e : grow (o :: fs) fw = grow fs fw := by
        show grow fs (if o ∈ fw.1 then fw else _) = _
        rw [if_pos hm]
      obtain ⟨i1, i2, i3, i4, i5⟩ := ih (fw := fw)
      rw [e]
      refine ⟨i1, fun x hx => ?_, i3, fun x hx => (i4 x hx).imp id fun z => ⟨List.mem_cons_of_mem _ z.1, z.2⟩, i5⟩
      rcases List.mem_cons.mp hx with rfl | hx
      · exact i1 _ hm
      · exact i2 x hx
    · have e : grow (o :: fs) fw = grow fs (fw.1 ++ [o], fw.2 ++ [o]) := by
        show grow fs (if o ∈ fw.1 then fw else _) = _
        rw [if_neg hm]
      obtain ⟨i1, i2, i3, i4, i5⟩ := ih (fw := (fw.1 ++ [o], fw.2 ++ [o]))
      rw [e]
      refine ⟨fun x hx => i1 x (List.mem_append_left _ hx), fun x hx => ?_, fun x hx => i3 x (List.mem_append_left _ hx), fun x hx => ?_, fun x hx => ?_⟩
      · rcases List.mem_cons.mp hx with rfl | hx
        · exact i1 _ (List.mem_append_right _ (List.mem_singleton.mpr rfl))
        · exact i2 x hx
      · rcases i4 x hx with z | z
        · rcases List.mem_append.mp z with z | z
          · exact .inl z
          · rw [List.mem_singleton.mp z]
            exact .inr ⟨List.mem_cons_self, i3 _ (List.mem_append_right _ (List.mem_singleton.mpr rfl))⟩
        · exact .inr ⟨List.mem_cons_of_mem _ z.1, z.2⟩
      · rcases i5 x hx with z | z
        · rcases List.mem_append.mp z with z | z
          · exact .inl z
          · rw [List.mem_singleton.mp z]
            exact .inr (i1 _ (List.mem_append_right _ (List.mem_singleton.mpr rfl)))
        · exact .inr z
theorem come_run {n : Nat} {ts : List Ar} {t : Ar} : ∀ (m : Nat) (cs wl : List Ar), GrowI n (cs, wl) → (∀ x ∈ cs, Rch n ts t x) → (∀ x ∈ wl, x ∈ cs) → (∀ x ∈ cs, x ∉ wl → ∀ y ∈ frcS n ts x, y ∈ cs) → 2 * (n * n - cs.length) + wl.length ≤ m →
    (∀ x ∈ cs, x ∈ comeR n ts m (cs, wl)) ∧ (∀ x ∈ comeR n ts m (cs, wl), Rch n ts t x) ∧ ∀ x ∈ comeR n ts m (cs, wl), ∀ y ∈ frcS n ts x, y ∈ comeR n ts m (cs, wl)
  | 0, cs, wl, gi, hr, hs, hc, hm => by
    have e : wl = [] := List.length_eq_zero_iff.mp (by omega)
    subst e
    exact ⟨fun x h => h, hr, fun x h => hc x h List.not_mem_nil⟩
  | m + 1, cs, wl, gi, hr, hs, hc, hm => by
    unfold comeR
    dsimp only
    cases e : wl.getLast? with
    | none =>
      have e' := List.getLast?_eq_none_iff.mp e
      subst e'
      exact ⟨fun x h => h, hr, fun x h => hc x h List.not_mem_nil⟩
    | some o =>
      dsimp only
      have om := List.mem_of_getLast? e
      have oR : InR n o := gi.sub o om
      have fr : ∀ z ∈ frcS n ts o, InR n z := fun z hz => frc_rng oR ((mem_frcS oR).mp hz)
      have gi0 : GrowI n (cs, wl.dropLast) := ⟨gi.nd, gi.rng, fun t ht => gi.sub t ((List.dropLast_sublist _).subset ht)⟩
      obtain ⟨gi1, k, l1, l2⟩ := grow_all (fs := frcS n ts o) gi0 fr
      obtain ⟨m1, m2, m3, m4, m5⟩ := grow_mem (fs := frcS n ts o) (fw := (cs, wl.dropLast))
      have wpos : 0 < wl.length := List.length_pos_iff.mpr (fun z => by rw [z] at om; exact List.not_mem_nil om)
      have wd : wl.dropLast.length = wl.length - 1 := List.length_dropLast
      have cl := cs_len gi1.nd gi1.rng
      have ew : wl = wl.dropLast ++ [o] := by
        have ne : wl ≠ [] := fun z => by rw [z] at om; exact List.not_mem_nil om
        rw [List.getLast?_eq_some_getLast ne] at e
        have := List.dropLast_concat_getLast ne
        rw [Option.some.inj e] at this
        exact this.symm
      have r := come_run (n := n) (ts := ts) (t := t) m (grow (frcS n ts o) (cs, wl.dropLast)).1 (grow (frcS n ts o) (cs, wl.dropLast)).2 gi1 (fun x hx => ?_) (fun x hx => ?_) (fun x hx nx y hy => ?_) (by dsimp only at l1 l2; omega)
      · exact ⟨fun x h => r.1 x (m1 x h), r.2.1, r.2.2⟩
      · rcases m4 x hx with z | z
        · exact hr x z
        · exact .step (hr o (hs o om)) z.1
      · rcases m5 x hx with z | z
        · exact m1 x (hs x ((List.dropLast_sublist _).subset z))
        · exact z
      · by_cases hxo : x = o
        · subst hxo
          exact m2 y hy
        · rcases m4 x hx with z | z
          · refine m1 y (hc x z (fun w => ?_) y hy)
            rw [ew] at w
            rcases List.mem_append.mp w with w | w
            · exact nx (m3 x w)
            · exact hxo (List.mem_singleton.mp w)
          · exact absurd z.2 nx
theorem mem_come {n : Nat} {ts : List Ar} {t x : Ar} (ht : InR n t) : x ∈ comeF n ts t ↔ Rch n ts t x := by
  have r := come_run (n := n) (ts := ts) (t := t) (2 * (n * n) + 1) [t] [t] (growI_one ht) (fun y hy => by rw [List.mem_singleton.mp hy]; exact .refl) (fun y hy => hy) (fun y hy ny => absurd hy ny) (by show 2 * (n * n - 1) + 1 ≤ _; omega)
  exact ⟨r.2.1 x, fun h => h.closed (P := fun x => x ∈ comeF n ts t) (r.1 t (List.mem_singleton.mpr rfl)) r.2.2⟩
/-- a class, rising -/
def clsS (n : Nat) (ts : List Ar) (t : Ar) : List Ar := (allP n).filter fun x => decide (x ∈ comeF n ts t)
theorem clsS_pw (n : Nat) (ts : List Ar) (t : Ar) : (clsS n ts t).Pairwise ltT := (allP_pw n).sublist List.filter_sublist
theorem mem_cls {n : Nat} {ts : List Ar} {t x : Ar} (ht : InR n t) : x ∈ clsS n ts t ↔ Rch n ts t x := by
  unfold clsS
  rw [List.mem_filter, decide_eq_true_eq, mem_allP, mem_come ht]
  exact ⟨fun h => h.2, fun h => ⟨h.inR ht, h⟩⟩
theorem clsS_len {n : Nat} {ts : List Ar} {t : Ar} : (clsS n ts t).length ≤ n * n := by
  rw [← allP_len n]; exact List.length_filter_le _ _
theorem cls_eq {n : Nat} {ts l fs : List Ar} {t : Ar} (ht : InR n t) (hp : fs.Perm l) (nd : l.Nodup) (hs : fs.Pairwise (fun s t => ¬ ltT t s)) (hm : ∀ x, x ∈ l ↔ Rch n ts t x) : fs = clsS n ts t :=
  srt_eq hp nd hs (clsS_pw n ts t) fun x => (hm x).trans (mem_cls ht).symm
theorem cls_ext {n : Nat} {ts : List Ar} {s t : Ar} (hs : s ∈ arS n ts) (h : Rch n ts s t) : clsS n ts t = clsS n ts s := by
  refine pw_eq (clsS_pw n ts t) (clsS_pw n ts s) fun x => ?_
  rw [mem_cls (h.inR (arS_inR hs)), mem_cls (arS_inR hs)]
  exact ⟨fun k => h.trans k, fun k => (h.symm hs).trans k⟩
theorem cls_sw {n : Nat} {ts fs : List Ar} {t : Ar} (ht : InR n t) (hp : fs.Perm ((clsS n ts t).map sw)) (hs : fs.Pairwise (fun s t => ¬ ltT t s)) : fs = clsS n ts (sw t) := by
  refine cls_eq (inR_sw ht) hp ?_ hs fun x => ?_
  · rw [List.nodup_iff_pairwise_ne, List.pairwise_map]
    refine (List.nodup_iff_pairwise_ne.mp (nd_pw (clsS_pw n ts t))).imp fun {s t} h e => h ?_
    rw [← sw_sw s, e, sw_sw]
  · rw [List.mem_map]
    constructor
    · rintro ⟨y, hy, rfl⟩
      exact ((mem_cls ht).mp hy).sw ht
    · intro h
      exact ⟨sw x, (mem_cls ht).mpr (by have := h.sw (inR_sw ht); exact this), rfl⟩
/-! ### steps, level by level -/
abbrev SN := List (Ar × Nat)
def lay (c : Nat) (fs : List Ar) (SF : SN × List Ar) : SN × List Ar := fs.foldl (fun SF o => if o ∈ SF.1.map (·.1) then SF else (SF.1 ++ [(o, c + 1)], SF.2 ++ [o])) SF
theorem lay_step (c : Nat) (fs : List Ar) (o : Ar) (SF : SN × List Ar) : lay c (fs ++ [o]) SF = if o ∈ (lay c fs SF).1.map (·.1) then lay c fs SF else ((lay c fs SF).1 ++ [(o, c + 1)], (lay c fs SF).2 ++ [o]) := by
  unfold lay; rw [List.foldl_append]; rfl
def lvl (n : Nat) (ts : List Ar) (c : Nat) (news : List Ar) (SF : SN × List Ar) : SN × List Ar := news.foldl (fun SF one => lay c (frcS n ts one) SF) SF
theorem lvl_step (n : Nat) (ts : List Ar) (c : Nat) (news : List Ar) (one : Ar) (SF : SN × List Ar) : lvl n ts c (news ++ [one]) SF = lay c (frcS n ts one) (lvl n ts c news SF) := by
  unfold lvl; rw [List.foldl_append]; rfl
def bfsR (n : Nat) (ts : List Ar) : Nat → Nat → SN × List Ar → SN
  | 0, _, SW => SW.1
  | k + 1, c, SW => match SW.2 with
    | [] => SW.1
    | _ :: _ => bfsR n ts k (c + 1) (lvl n ts c SW.2 (SW.1, []))
def stepsF (n : Nat) (ts : List Ar) (t : Ar) : SN := bfsR n ts (2 * (n * n) + 1) 0 ([(t, 0)], [t])
theorem bfsR_nil (n : Nat) (ts : List Ar) (c : Nat) (S : SN) : ∀ k, bfsR n ts k c (S, []) = S
  | 0 => rfl
  | _ + 1 => rfl
/-- what a layer adds -/
structure Adds (c : Nat) (S : SN) (F : List Ar) (R : SN × List Ar) (Q : Ar → Prop) (xs : List Ar) : Prop where
  eq : R = (S ++ xs.map fun x => (x, c + 1), F ++ xs)
  new : ∀ x ∈ xs, Q x ∧ x ∉ S.map (·.1)
  nd : (S.map (·.1)).Nodup → (S.map (·.1) ++ xs).Nodup
theorem keysA (c : Nat) (S : SN) (xs : List Ar) : (S ++ xs.map fun x => (x, c + 1)).map (·.1) = S.map (·.1) ++ xs := by
  rw [List.map_append, List.map_map]
  congr 1
  exact (List.map_congr_left fun _ _ => rfl).trans (List.map_id xs)
theorem nd_add {l : List Ar} {o : Ar} (h : l.Nodup) (n : o ∉ l) : (l ++ [o]).Nodup := by
  rw [List.nodup_append]
  refine ⟨h, List.nodup_cons.mpr ⟨List.not_mem_nil, List.nodup_nil⟩, fun a ha b hb e => ?_⟩
  rw [List.mem_singleton.mp hb] at e
  subst e; exact n ha
theorem lay_adds (c : Nat) : ∀ (fs : List Ar) (S : SN) (F : List Ar), ∃ xs, Adds c S F (lay c fs (S, F)) (fun x => x ∈ fs) xs ∧ ∀ o ∈ fs, o ∈ S.map (·.1) ∨ o ∈ xs
  | [], S, F => ⟨[], ⟨by show (S, F) = _; rw [List.map_nil, List.append_nil, List.append_nil], fun _ h => absurd h List.not_mem_nil, fun h => by rw [List.append_nil]; exact h⟩, fun _ h => absurd h List.not_mem_nil⟩
  | o :: fs, S, F => by
    by_cases hm : o ∈ S.map (·.1)
    · obtain ⟨xs, ⟨e, nw, nd⟩, al⟩ := lay_adds c fs S F
      refine ⟨xs, ⟨?_, fun x hx => ⟨List.mem_cons_of_mem _ (nw x hx).1, (nw x hx).2⟩, nd⟩, fun z hz => ?_⟩
      · rw [← e]
        show lay c fs (if o ∈ S.map (·.1) then (S, F) else _) = _
        rw [if_pos hm]
      · rcases List.mem_cons.mp hz with rfl | hz
        · exact .inl hm
        · exact al z hz
    · obtain ⟨xs, ⟨e, nw, nd⟩, al⟩ := lay_adds c fs (S ++ [(o, c + 1)]) (F ++ [o])
      have ek : (S ++ [(o, c + 1)]).map (·.1) = S.map (·.1) ++ [o] := by rw [List.map_append]; rfl
      rw [ek] at nw nd al
      refine ⟨o :: xs, ⟨?_, fun x hx => ?_, fun h => ?_⟩, fun z hz => ?_⟩
      · have e2 : lay c (o :: fs) (S, F) = lay c fs (S ++ [(o, c + 1)], F ++ [o]) := by
          show lay c fs (if o ∈ S.map (·.1) then (S, F) else _) = _
          rw [if_neg hm]
        rw [e2, e, List.map_cons, List.append_assoc, List.append_assoc]; rfl
      · rcases List.mem_cons.mp hx with rfl | hx
        · exact ⟨List.mem_cons_self, hm⟩
        · exact ⟨List.mem_cons_of_mem _ (nw x hx).1, fun z => (nw x hx).2 (List.mem_append_left _ z)⟩
      · have := nd (nd_add h hm)
        rwa [List.append_assoc] at this
      · rcases List.mem_cons.mp hz with rfl | hz
        · exact .inr List.mem_cons_self
        · rcases al z hz with w | w
          · rcases List.mem_append.mp w with w | w
            · exact .inl w
            · rw [List.mem_singleton.mp w]; exact .inr List.mem_cons_self
          · exact .inr (List.mem_cons_of_mem _ w)
theorem lvl_adds (n : Nat) (ts : List Ar) (c : Nat) : ∀ (news : List Ar) (S : SN) (F : List Ar), ∃ xs, Adds c S F (lvl n ts c news (S, F)) (fun x => ∃ one ∈ news, x ∈ frcS n ts one) xs ∧ ∀ one ∈ news, ∀ o ∈ frcS n ts one, o ∈ S.map (·.1) ∨ o ∈ xs
  | [], S, F => ⟨[], ⟨by show (S, F) = _; rw [List.map_nil, List.append_nil, List.append_nil], fun _ h => absurd h List.not_mem_nil, fun h => by rw [List.append_nil]; exact h⟩, fun _ h => absurd h List.not_mem_nil⟩
  | one :: news, S, F => by
    obtain ⟨xs, ⟨e, nw, nd⟩, al⟩ := lay_adds c (frcS n ts one) S F
    obtain ⟨ys, ⟨e2, nw2, nd2⟩, al2⟩ := lvl_adds n ts c news (S ++ xs.map fun x => (x, c + 1)) (F ++ xs)
    rw [keysA] at nw2 nd2 al2
    refine ⟨xs ++ ys, ⟨?_, fun x hx => ?_, fun h => ?_⟩, fun a ha o ho => ?_⟩
    · show lvl n ts c news (lay c (frcS n ts one) (S, F)) = _
      rw [e, e2, List.map_append, List.append_assoc, List.append_assoc]
    · rcases List.mem_append.mp hx with hx | hx
      · exact ⟨⟨one, List.mem_cons_self, (nw x hx).1⟩, (nw x hx).2⟩
      · obtain ⟨⟨a, ha, h1⟩, h2⟩ := nw2 x hx
        exact ⟨⟨a, List.mem_cons_of_mem _ ha, h1⟩, fun z => h2 (List.mem_append_left _ z)⟩
    · have := nd2 (nd h)
      rwa [List.append_assoc] at this
    · rcases List.mem_cons.mp ha with rfl | ha
      · rcases al o ho with z | z
        · exact .inl z
        · exact .inr (List.mem_append_left _ z)
      · rcases al2 a ha o ho with z | z
        · rcases List.mem_append.mp z with z | z
          · exact .inl z
          · exact .inr (List.mem_append_left _ z)
        · exact .inr (List.mem_append_right _ z)
structure BInv (n : Nat) (ts : List Ar) (t : Ar) (c : Nat) (S : SN) (W : List Ar) : Prop where
  nd : (S.map (·.1)).Nodup
  rch : ∀ p ∈ S, Rch n ts t p.1
  low : ∀ p ∈ S, p.2 ≤ c
  cur : ∀ x ∈ W, (x, c) ∈ S
  top : ∀ p ∈ S, p.2 = c → p.1 ∈ W
  cls : ∀ p ∈ S, p.2 < c → ∀ y ∈ frcS n ts p.1, y ∈ S.map (·.1)
  ori : (t, 0) ∈ S
  zer : ∀ p ∈ S, p.2 = 0 → p.1 = t
  pre : ∀ p ∈ S, 0 < p.2 → ∃ q ∈ S, q.2 + 1 = p.2 ∧ p.1 ∈ frcS n ts q.1
theorem binv_one (n : Nat) (ts : List Ar) (t : Ar) : BInv n ts t 0 [(t, 0)] [t] := by
  refine ⟨List.nodup_cons.mpr ⟨List.not_mem_nil, List.nodup_nil⟩, fun p hp => ?_, fun p hp => ?_, fun x hx => ?_, fun p hp _ => ?_, fun p hp h => ?_, List.mem_singleton.mpr rfl, fun p hp _ => ?_, fun p hp h => ?_⟩
  · rw [List.mem_singleton.mp hp]; exact .refl
  · rw [List.mem_singleton.mp hp]; exact Nat.le_refl _
  · rw [List.mem_singleton.mp hx]; exact List.mem_singleton.mpr rfl
  · rw [List.mem_singleton.mp hp]; exact List.mem_singleton.mpr rfl
  · exact absurd h (Nat.not_lt_zero _)
  · rw [List.mem_singleton.mp hp]
  · rw [List.mem_singleton.mp hp] at h; exact absurd h (Nat.lt_irrefl _)
theorem binv_step {n : Nat} {ts : List Ar} {t : Ar} {c : Nat} {S : SN} {W : List Ar} (b : BInv n ts t c S W) : ∃ xs, lvl n ts c W (S, []) = (S ++ xs.map fun x => (x, c + 1), xs) ∧ BInv n ts t (c + 1) (S ++ xs.map fun x => (x, c + 1)) xs := by
  obtain ⟨xs, ⟨e, nw, nd⟩, al⟩ := lvl_adds n ts c W S []
  rw [List.nil_append] at e
  have inn : ∀ {p : Ar × Nat}, p ∈ S ++ xs.map (fun x => (x, c + 1)) → p ∈ S ∨ (p.1 ∈ xs ∧ p.2 = c + 1) := fun {p} hp => by
    rcases List.mem_append.mp hp with z | z
    · exact .inl z
    · obtain ⟨x, hx, rfl⟩ := List.mem_map.mp z
      exact .inr ⟨hx, rfl⟩
  have put : ∀ {x : Ar}, x ∈ xs → (x, c + 1) ∈ S ++ xs.map (fun x => (x, c + 1)) := fun hx => List.mem_append_right _ (List.mem_map.mpr ⟨_, hx, rfl⟩)
  refine ⟨xs, e, ?_, fun p hp => ?_, fun p hp => ?_, fun x hx => put hx, fun p hp h => ?_, fun p hp h y hy => ?_, List.mem_append_left _ b.ori, fun p hp h => ?_, fun p hp h => ?_⟩
  · rw [keysA]; exact nd b.nd
  · rcases inn hp with z | z
    · exact b.rch p z
    · obtain ⟨⟨one, ho, h1⟩, _⟩ := nw _ z.1
      exact .step (b.rch _ (b.cur one ho)) h1
  · rcases inn hp with z | z
    · exact Nat.le_succ_of_le (b.low p z)
    · exact Nat.le_of_eq z.2
  · rcases inn hp with z | z
    · have := b.low p z; omega
    · exact z.1
  · rw [keysA]
    rcases inn hp with z | z
    · by_cases hc : p.2 = c
      · rcases al p.1 (b.top p z hc) y hy with w | w
        · exact List.mem_append_left _ w
        · exact List.mem_append_right _ w
      · exact List.mem_append_left _ (b.cls p z (by have := b.low p z; omega) y hy)
    · omega
  · rcases inn hp with z | z
    · exact b.zer p z h
    · omega
  · rcases inn hp with z | z
    · obtain ⟨q, hq, h1, h2⟩ := b.pre p z h
      exact ⟨q, List.mem_append_left _ hq, h1, h2⟩
    · obtain ⟨⟨one, ho, h1⟩, _⟩ := nw _ z.1
      exact ⟨(one, c), List.mem_append_left _ (b.cur one ho), z.2.symm, h1⟩
theorem binv_len {n : Nat} {ts : List Ar} {t : Ar} {c : Nat} {S : SN} {W : List Ar} (ht : InR n t) (b : BInv n ts t c S W) : S.length ≤ n * n := by
  have := cs_len (n := n) b.nd fun x hx => by
    obtain ⟨p, hp, rfl⟩ := List.mem_map.mp hx
    exact (b.rch p hp).inR ht
  rwa [List.length_map] at this
theorem bfs_ok {n : Nat} {ts : List Ar} {t : Ar} (ht : InR n t) : ∀ (k c : Nat) (S : SN) (W : List Ar), BInv n ts t c S W → 2 * (n * n - S.length) + min W.length 1 ≤ k → ∃ c', BInv n ts t c' (bfsR n ts k c (S, W)) []
  | 0, c, S, W, b, h => by
    have e : W = [] := List.length_eq_zero_iff.mp (by omega)
    subst e; exact ⟨c, b⟩
  | k + 1, c, S, [], b, h => ⟨c, b⟩
  | k + 1, c, S, x :: W, b, h => by
    obtain ⟨xs, e, b2⟩ := binv_step b
    show ∃ c', BInv n ts t c' (bfsR n ts k (c + 1) (lvl n ts c (x :: W) (S, []))) []
    rw [e]
    refine bfs_ok ht k (c + 1) _ _ b2 ?_
    have l := binv_len ht b2
    rw [List.length_append, List.length_map] at l ⊢
    rw [List.length_cons] at h
    omega
theorem bfs_low {n : Nat} {ts : List Ar} {t : Ar} : ∀ (k c : Nat) (S : SN) (W : List Ar), BInv n ts t c S W → ∀ p ∈ bfsR n ts k c (S, W), p.2 ≤ c + k
  | 0, c, S, W, b, p, hp => b.low p hp
  | k + 1, c, S, [], b, p, hp => Nat.le_trans (b.low p hp) (Nat.le_add_right _ _)
  | k + 1, c, S, x :: W, b, p, hp => by
    obtain ⟨xs, e, b2⟩ := binv_step b
    have hp' : p ∈ bfsR n ts k (c + 1) (lvl n ts c (x :: W) (S, [])) := hp
    rw [e] at hp'
    have := bfs_low k (c + 1) _ _ b2 p hp'
    omega
theorem steps_ok {n : Nat} {ts : List Ar} {t : Ar} (ht : InR n t) : ∃ c, BInv n ts t c (stepsF n ts t) [] :=
  bfs_ok ht _ 0 _ _ (binv_one n ts t) (by show 2 * (n * n - 1) + 1 ≤ _; omega)
theorem mem_steps {n : Nat} {ts : List Ar} {t x : Ar} (ht : InR n t) : x ∈ (stepsF n ts t).map (·.1) ↔ Rch n ts t x := by
  obtain ⟨c, b⟩ := steps_ok (ts := ts) ht
  constructor
  · intro h
    obtain ⟨p, hp, rfl⟩ := List.mem_map.mp h
    exact b.rch p hp
  · intro h
    refine h.closed (P := fun x => x ∈ (stepsF n ts t).map (·.1)) (List.mem_map.mpr ⟨_, b.ori, rfl⟩) fun z hz y hy => ?_
    obtain ⟨p, hp, rfl⟩ := List.mem_map.mp hz
    refine b.cls p hp ?_ y hy
    rcases Nat.lt_or_ge p.2 c with z | z
    · exact z
    · exact absurd (b.top p hp (Nat.le_antisymm (b.low p hp) z)) List.not_mem_nil
theorem steps_nd {n : Nat} {ts : List Ar} {t : Ar} (ht : InR n t) : ((stepsF n ts t).map (·.1)).Nodup := (steps_ok (ts := ts) ht).elim fun _ b => b.nd
end My

set_option Elab.async false
set_option linter.all false
set_option maxRecDepth 100000
namespace My
open PySem PySem.Spec PyProof.Rows L2 GxR
/-- for each arrow the list of those that it forces -/
def ForcD (H : Hp) (D : Addr) (n : Nat) (ts : List Ar) : Prop := ∃ kvs : List (List Key × V), Rd H D (.dT kvs) ∧ kvs.map (·.1) = (arS n ts).map pk ∧ ∀ x ∈ arS n ts, ∃ q us, valV kvs (pk x) = some (.ref q) ∧ H q = some (.lst us) ∧ Ties H us (frcS n ts x)
theorem rd_same {H H' : Hp} {a : Addr} {o : HO} (h : Rd H a o) (s : Same H H') : Rd H' a o := h.imp (fun e => s _ _ e) fun ⟨ob, e⟩ => ⟨ob, s _ _ e⟩
theorem dget_rd {H : Hp} {a b : Addr} {kvs : List (List Key × V)} {k : List Key} (e : Rd H a (.dT kvs)) (eb : H b = some (.tup (k.map kV))) : DGet H a (.ref b) (valV kvs k) := .inr ⟨kvs, k, b, e, rfl, eb, rfl⟩
theorem ForcD.mono {H H' : Hp} {D : Addr} {n : Nat} {ts : List Ar} (h : ForcD H D n ts) (s : Same H H') : ForcD H' D n ts := by
  obtain ⟨kvs, h1, h2, h3⟩ := h
  refine ⟨kvs, rd_same h1 s, h2, fun x hx => ?_⟩
  obtain ⟨q, us, a, b, c⟩ := h3 x hx
  exact ⟨q, us, a, s _ _ b, c.mono (Same.tst s)⟩
def dS (S : SN) : List (List Key × V) := S.map fun p => (pk p.1, V.int (p.2 : Int))
theorem dS_keys (S : SN) : (dS S).map (·.1) = (S.map (·.1)).map pk := by
  unfold dS; rw [List.map_map, List.map_map]; rfl
theorem dS_put {S : SN} {o : Ar} {c : Nat} (h : o ∉ S.map (·.1)) : putK (dS S) (pk o) (.int (c : Int)) = dS (S ++ [(o, c)]) := by
  have e : ((dS S).any fun kv => decide (kv.1 = pk o)) = false := by
    rw [valV_any, valV_keys (dS_keys S)]; exact decide_eq_false h
  unfold putK
  rw [e]
  unfold dS
  rw [List.map_append]; rfl
theorem dS_get : ∀ {S : SN} {x : Ar} {c : Nat}, (S.map (·.1)).Nodup → (x, c) ∈ S → valV (dS S) (pk x) = some (.int (c : Int))
  | [], _, _, _, h => absurd h List.not_mem_nil
  | p :: S, x, c, nd, h => by
    rw [List.map_cons, List.nodup_cons] at nd
    rcases List.mem_cons.mp h with rfl | h
    · exact valV_pos rfl
    · have ne : ¬ p.1 = x := fun e => nd.1 (by rw [e]; exact List.mem_map.mpr ⟨_, h, rfl⟩)
      exact (valV_neg (fun z => ne (pk_inj z))).trans (dS_get nd.2 h)
theorem lvl_part {n : Nat} {ts : List Ar} {t : Ar} {c : Nat} {S : SN} {wl : List Ar} (ht : InR n t) (b : BInv n ts t c S wl) (i : Nat) (fs : List Ar) (hf : ∀ x ∈ fs, InR n x) :
    ∃ xs, lay c fs (lvl n ts c (wl.take i) (S, [])) = (S ++ xs.map fun x => (x, c + 1), xs) ∧ (S.map (·.1) ++ xs).Nodup ∧ S.length + xs.length ≤ n * n := by
  obtain ⟨xs, ⟨e, nw, nd⟩, _⟩ := lvl_adds n ts c (wl.take i) S []
  obtain ⟨ys, ⟨e2, nw2, nd2⟩, _⟩ := lay_adds c fs (S ++ xs.map fun x => (x, c + 1)) xs
  rw [keysA] at nd2
  have nn := nd2 (nd b.nd)
  rw [List.append_assoc] at nn
  refine ⟨xs ++ ys, ?_, nn, ?_⟩
  · rw [e, List.nil_append, e2, List.map_append, List.append_assoc]
  · have := cs_len (n := n) nn fun x hx => ?_
    · rw [List.length_append, List.length_map] at this
      exact this
    · rcases List.mem_append.mp hx with z | z
      · obtain ⟨p, hp, rfl⟩ := List.mem_map.mp z
        exact (b.rch p hp).inR ht
      · rcases List.mem_append.mp z with z | z
        · obtain ⟨⟨one, ho, h1⟩, _⟩ := nw x z
          have oR := (b.rch _ (b.cur one (List.mem_of_mem_take ho))).inR ht
          exact frc_rng oR ((mem_frcS oR).mp h1)
        · exact hf x (nw2 x z).1
section
variable {P : Program} {w : World} {K : PySem.W.Frag} {mg : Str → Option Value} {base : Heap}
end
end My

set_option Elab.async false
set_option linter.all false
set_option maxRecDepth 100000
namespace My
open PySem PySem.Spec PyProof.Rows L2 GxR
def okB (ps : List Ar) (s t : Ar) : Bool := !decide (s.2 = t.1) || decide ((s.1, t.2) ∈ ps)
def ledB (ps : List Ar) : Bool := ps.all fun s => ps.all fun t => okB ps s t
theorem all_take {α : Type} {f : α → Bool} {l : List α} {i : Nat} {x : α} (h : (l.take i).all f = true) (e : l[i]? = some x) (hx : f x = true) : (l.take (i + 1)).all f = true := by
  rw [List.take_add_one, e, List.all_append, h]
  show (true && (f x && true)) = true
  rw [hx]; rfl
theorem all_no {α : Type} {f : α → Bool} {l : List α} {i : Nat} {x : α} (e : l[i]? = some x) (hx : f x = false) : l.all f = false := by
  rw [List.all_eq_false]
  exact ⟨x, List.mem_of_getElem? e, by rw [hx]; exact Bool.false_ne_true⟩
theorem eqI' (a b : Int) : decide (V.int a = V.int b) = decide (a = b) := decide_eq_decide.mpr ⟨fun e => V.int.inj e, fun e => congrArg V.int e⟩
def kTrue (ps : List Ar) : List (List Key × V) := ps.map fun t => (pk t, V.bl true)
theorem kTrue_keys (ps : List Ar) : (kTrue ps).map (·.1) = ps.map pk := by unfold kTrue; rw [List.map_map]; rfl
theorem joinA_true (ps : List Ar) : JoinA (mergeT [] (kTrue ps)) ps := fun o => by
  rw [valV_mergeT, valV_keys (kTrue_keys ps)]; exact Bool.false_or _
theorem paired_app {α β : Type} {R : α → β → Prop} : ∀ {l : List α} {m : List β} {a : α} {b : β}, Paired R l m → R a b → Paired R (l ++ [a]) (m ++ [b])
  | _, _, _, _, .nil, h => .cons h .nil
  | _, _, _, _, .cons h t, k => .cons h (paired_app t k)
theorem paired_mono {α β : Type} {R S : α → β → Prop} (f : ∀ a b, R a b → S a b) : ∀ {l : List α} {m : List β}, Paired R l m → Paired S l m
  | _, _, .nil => .nil
  | _, _, .cons h t => .cons (f _ _ h) (paired_mono f t)
theorem pts_len {ts ps : List Ar} (h : Pts ts ps) : ps.length = ts.length := by rw [← h, List.length_map]
theorem pts_step {n : Nat} {ts ps : List Ar} (hw : WOk n ts) {i : Nat} {t : Ar} (h : Pts (ts.take i) ps) (e : ts[i]? = some t) (b : Bool) : Pts (ts.take (i + 1)) (ps ++ [if b = true then t else sw t]) := by
  unfold Pts at *
  have hb := hw.2 t (List.mem_of_getElem? e)
  rw [List.take_add_one, e, List.map_append, h]
  congr 1
  cases b with
  | true => exact congrArg (fun z => [z]) (nrm_t hb.2.1)
  | false => exact congrArg (fun z => [z]) (nrm_sw hb.2.1)
theorem nrm_sw' (p : Ar) (h : p.1 ≠ p.2) : nrm (sw p) = nrm p := by
  unfold nrm sw
  dsimp only
  by_cases h1 : p.1 < p.2
  · rw [if_neg (by omega), if_pos h1]
  · rw [if_pos (by omega), if_neg h1]
theorem pts_ne {n : Nat} {ts ps : List Ar} (hw : WOk n ts) (h : Pts ts ps) {p : Ar} (hp : p ∈ ps) : p.1 ≠ p.2 := fun e => by
  have : nrm p ∈ ts := by rw [← h]; exact List.mem_map.mpr ⟨p, hp, rfl⟩
  have hb := hw.2 _ this
  unfold nrm sw at hb
  split at hb <;> omega
theorem pts_set {n : Nat} {ts ps : List Ar} (hw : WOk n ts) (h : Pts ts ps) {j : Nat} {p : Ar} (e : ps[j]? = some p) : Pts ts (ps.set j (sw p)) := by
  have hne := pts_ne hw h (List.mem_of_getElem? e)
  unfold Pts at *
  rw [← h]
  refine List.ext_getElem? fun i => ?_
  rw [List.getElem?_map, List.getElem?_map]
  by_cases hij : j = i
  · subst hij
    rw [List.getElem?_set_self (List.getElem?_eq_some_iff.mp e).1, e]
    exact congrArg some (nrm_sw' p hne)
  · rw [List.getElem?_set_ne hij]
theorem Ties.set {H : Hp} : ∀ {vs : List V} {ts : List Ar} {j : Nat} {v : V} {t : Ar}, Ties H vs ts → Tie H v t → Ties H (vs.set j v) (ts.set j t)
  | [], [], _, _, _, _, _ => trivial
  | _ :: _, _ :: _, 0, _, _, h, k => ⟨k, h.2⟩
  | _ :: _, _ :: _, j + 1, _, _, h, k => ⟨h.1, Ties.set (j := j) h.2 k⟩
  | [], _ :: _, _, _, _, h, _ => h.elim
  | _ :: _, [], _, _, _, h, _ => h.elim
section
variable {P : Program} {w : World} {K : PySem.W.Frag} {mg : Str → Option Value} {base : Heap}
end
end My

set_option Elab.async false
set_option linter.all false
set_option maxRecDepth 100000
set_option pp.maxSteps 400
set_option maxHeartbeats 4000000
namespace My
open PySem PySem.Spec PyProof.Rows L2 GxR
theorem tb_frMC {H H' : Hp} {P : Addr} (h : Tabbed P H H') : FrM [P] H H' := fun b o n e => by
  rw [h.2 b (fun z => n (by rw [z]; exact List.mem_singleton.mpr rfl))]; exact e
theorem tb_tstC {H H' : Hp} {P : Addr} (h : Tabbed P H H') (hP : TabG H P) : Tst H H' := fun b xs e => by
  refine tb_frMC h b _ (fun z => ?_) e
  obtain ⟨ps, h1, _⟩ := hP
  rw [List.mem_singleton.mp z, h1] at e; cases e
theorem tabG_sameC {H H' : Hp} {P : Addr} (h : TabG H P) (s : Same H H') : TabG H' P := by
  obtain ⟨ps, h1, h2⟩ := h
  exact ⟨ps, s _ _ h1, h2⟩
theorem tab_lstC {H H' : Hp} {P d : Addr} {xs : List V} (tb : Tabbed P H H') (tg : TabG H P) (e : H d = some (.lst xs)) : H' d = some (.lst xs) := by
  obtain ⟨ps, h1, _⟩ := tg
  rw [tb.2 d (fun z => by rw [z, h1] at e; cases e)]; exact e
/-- a pointing that stands somewhere -/
def TpV (H : Hp) (v : V) (ps : List Ar) : Prop := ∃ q us, v = .ref q ∧ H q = some (.tup us) ∧ Ties H us ps
theorem TpV.mono {H H' : Hp} {v : V} {ps : List Ar} (h : TpV H v ps) (t : Tst H H') : TpV H' v ps := by
  obtain ⟨q, us, e, h1, h2⟩ := h
  exact ⟨q, us, e, t _ _ h1, h2.mono t⟩
def inAll (F : List (List Ar)) (t : Ar) : Bool := F.all fun c => decide (t ∈ c)
section
variable {P : Program} {w : World} {K : PySem.W.Frag} {mg : Str → Option Value} {base : Heap}
/-! ### common_to -/
abbrev s_common_to : Stmt := topS 1
abbrev N_common_to : List Str := ["web", "ways", "arrow", "way"]
theorem sc_common_to : FnScope N_common_to ["web", "ways"] (defScope s_common_to) := ⟨rfl, rfl, rfl, by decide +kernel, rfl, by decide +kernel, by decide +kernel⟩
def sp_common (PT : Addr) : Sp := fun vs H Q _ => ∃ (v : V) (S : Addr) (xs : List V) (F : List (List Ar)) (F0 : List Ar) (r : List (List Ar)), vs = [v, .ref S] ∧ H S = some (.lst xs) ∧ All2 (TpV H) xs F ∧ F = F0 :: r ∧ F0.Nodup ∧ (∀ c ∈ F, c.length ≤ 10000) ∧ TabG H PT ∧
  ∀ (T : Addr) (us : List V) (rs : List Ar) (H' : Hp), H T = none → FrM [PT] H H' → TabG H' PT → H' T = some (.lst us) → Ties H' us rs → rs.Pairwise ltT → rs.Perm (F0.filter (inAll F)) → Q (.ref T) H'
theorem ok_common {f c PT : Addr} {fd : FuncData} (B : Bts mg) (F : Fun K "common_to" "common_to" s_common_to f fd) (hc : fd.code = .ref c) (TB : TabB base mg c PT) : FnOk P w K mg base CX0 2 f fd ["web", "ways"] (sp_common PT) := by
  refine okC F hc sc_common_to (fun vs H Q E h => ?_) (fun A outer s H vs Q E hr h => ?_)
  · obtain ⟨v, S, xs, F, F0, r, rfl, _⟩ := h; rfl
  · obtain ⟨v, S, xs, F, F0, r, rfl, eS, hA, eF, nd, cl, tg, q⟩ := h
    refine ⟨_, (pss_one (ps_ret (pe_callB cr_sortedPO (by rfl) B.sorted (by decide +kernel) (pa_cons (pe_lc (own := [("arrow", 2)]) (g := (gName 2)) (tt := (tB (tAllG PT (iList K (tVar 1)) (gName 3) (tOp (rInDT K) (tVar 2) (tVar 3)) [3]))) rfl sc_common_to.nd (pi_tup (pe_ix ix_list (pv 1) pe_int (fun _ _ => rfl))) (blkOk_by (own := [("arrow", 2)]) (N := N_common_to) (sc := defScope s_common_to) (by decide +kernel)) (fun _ _ _ _ _ => (pg_name (i := 2) sc_common_to.nd rfl (by first | exact Or.inl rfl | exact Or.inr rfl))) (fun _ _ _ _ _ => (pts_one (pt_val (pe_allG (own := [("way", 3)]) (wi := iList K (tVar 1)) (g := (gName 3)) (te := (tOp (rInDT K) (tVar 2) (tVar 3))) rfl sc_common_to.nd hr (by rfl) B.all TB rfl ⟨rfl, by decide +kernel, rfl⟩ (blkOk_by (own := [("way", 3)]) (N := N_common_to) (by with_unfolding_all rfl)) (pi_list (pv 1)) (fun _ _ _ _ _ _ _ => (pg_name (i := 3) sc_common_to.nd rfl (by first | exact Or.inl rfl | exact Or.inr rfl))) (fun _ _ _ _ _ _ _ hr => (pe_cmpR (op_inDT (u65 hr)) (pv 2) (pv 3) (by rfl))))))) (fun _ _ _ _ _ => (pv 2))) pa_nil)))), ?_⟩
    subst eF
    obtain ⟨x0, xs', rfl, q0, u0, rfl, e0, h0⟩ : ∃ x0 xs', xs = x0 :: xs' ∧ TpV H x0 F0 := by
      match xs, hA with
      | x0 :: xs', hA => exact ⟨x0, xs', rfl, hA.1⟩
    have ul := h0.len
    have cl0 := cl F0 List.mem_cons_self
    have al := hA.len
    refine ⟨_, rfl, S, _, 0, .ref q0, rfl, rfl, SqL.of eS, atI_nat (j := 0) rfl, q0, rfl, ⟨_, SqT.of e0⟩, fun E1 nE1 => ?_⟩
    refine wk (walk_tup (K := K) (a := q0) (xs := u0)) (fun i H1 => ∃ ws, FrM [PT] H H1 ∧ TabG H1 PT ∧ Tst H H1 ∧ H1 S = some (.lst (.ref q0 :: xs')) ∧ H1 E1 = some (.lst ws) ∧ Ties H1 ws ((F0.take i).filter (inAll (F0 :: r)))) ⟨[], FrM.same (same_new nE1), tabG_sameC tg (same_new nE1), Same.tst (same_new nE1), same_new nE1 _ _ eS, upd_same, by exact trivial⟩ ?_ ?_ ?_
    · rintro i H1 _ ⟨_, _, _, t1, _⟩
      exact SqT.of (t1 _ _ e0)
    · rintro i x H1 H2 hi ⟨ws, fr1, tg1, t1, eS1, eE1, hV⟩ ⟨rfl, hx⟩
      obtain ⟨o, eo, ho⟩ := h0.at hx
      have vl := hV.len
      have fl := List.length_filter_le (inAll (F0 :: r)) (F0.take i)
      rw [List.length_take] at fl
      have stp : (F0.take (i + 1)).filter (inAll (F0 :: r)) = (F0.take i).filter (inAll (F0 :: r)) ++ (if inAll (F0 :: r) o = true then [o] else []) := by
        rw [List.take_add_one, eo, List.filter_append]
        congr 1
        show [o].filter _ = _
        split
        · rename_i h; exact List.filter_cons_of_pos h
        · rename_i h; exact List.filter_cons_of_neg h
      refine ⟨rfl, ?_⟩
      refine ⟨_, rfl, S, rfl, ⟨_, SqL.of eS1⟩, tg1, fun H3 tb => ?_⟩
      have tt := tb_tstC tb tg1
      have E1P : E1 ≠ PT := fun z => by
        obtain ⟨ps, h1, _⟩ := tg1
        rw [z, h1] at eE1; cases eE1
      have SE : S ≠ E1 := fun z => by rw [← z, eS] at nE1; cases nE1
      refine allG_it (walk_list (K := K) (a := S) (xs := .ref q0 :: xs')) (fun j H4 => FrM [PT] H H4 ∧ TabG H4 PT ∧ Tst H H4 ∧ H4 S = some (.lst (.ref q0 :: xs')) ∧ H4 E1 = some (.lst ws) ∧ Ties H4 ws ((F0.take i).filter (inAll (F0 :: r))) ∧ ∀ cc ∈ (F0 :: r).take j, o ∈ cc) ⟨fr1.trans (tb_frMC tb), tb.1, t1.trans tt, tab_lstC tb tg1 eS1, tab_lstC tb tg1 eE1, hV.mono tt, fun cc h => absurd h List.not_mem_nil⟩ ?_ ?_ ?_
      · rintro j H4 _ ⟨_, _, _, e4, _⟩
        exact SqL.of e4
      · rintro j y H4 H5 hj ⟨fr4, tg4, t4, eS4, eE4, hV4, al4⟩ ⟨rfl, hy⟩
        obtain ⟨ps, eps, hps⟩ := hA.at hy
        obtain ⟨qy, uy, rfl, e1, h1⟩ := hps.mono t4
        refine ⟨rfl, _, rfl, _, rfl, dT o, ps.map dT, (ho.mono t4).dp, .tup (SqT.of e1) h1.dp, shaped_dT _, shaped_ties _, ?_⟩
        rw [any_dT]
        refine ⟨_, rfl, ?_⟩
        by_cases hm : o ∈ ps
        · rw [decide_eq_true hm, if_pos rfl]
          refine ⟨fr4, tg4, t4, eS4, eE4, hV4, fun cc hcc => ?_⟩
          rw [List.take_add_one, eps] at hcc
          rcases List.mem_append.mp hcc with z | z
          · exact al4 cc z
          · rw [List.mem_singleton.mp (show cc ∈ [ps] from z)]; exact hm
        · rw [decide_eq_false hm, if_neg (by decide)]
          have no : ¬ inAll (F0 :: r) o = true := fun z => hm (of_decide_eq_true (List.all_eq_true.mp z ps (List.mem_of_getElem? eps)))
          refine ⟨false, rfl, iteF ⟨ws, fr4, tg4, t4, eS4, eE4, ?_⟩⟩
          rw [stp, if_neg no, List.append_nil]; exact hV4
      · rintro H4 ⟨fr4, tg4, t4, eS4, eE4, hV4, al4⟩
        have yes_ : inAll (F0 :: r) o = true := List.all_eq_true.mpr fun cc hcc => decide_eq_true (al4 cc (by rw [al, List.take_length]; exact hcc))
        have tp := tst_put (o := .lst (ws ++ [x])) eE4
        refine ⟨true, rfl, iteT ⟨_, rfl, ws, eE4, sz' (by omega), ws ++ [x], fr4.putN nE1, ?_, t4.trans tp, by rw [upd_ne SE]; exact eS4, upd_same, ?_⟩⟩
        · obtain ⟨ps, h1, h2⟩ := tg4
          exact ⟨ps, by rw [upd_ne (Ne.symm E1P)]; exact h1, h2⟩
        · rw [stp, if_pos yes_]
          exact (hV4.app (Ties.one (ho.mono t4))).mono tp
    · rintro H1 ⟨ws, fr1, tg1, t1, eS1, eE1, hV⟩
      rw [ul, List.take_length] at hV
      refine ⟨E1, ws, My.key H1, rfl, SqL.of eE1, hV.all, fun ys p hs hst np => ?_⟩
      obtain ⟨ts', hT', pm', pw⟩ := srt_ties hs hst.perm hV
      have sp := same_new (o := .lst ys) np
      have nH : H p = none := by
        cases e : H p with
        | none => rfl
        | some o =>
          exfalso
          by_cases z : p = PT
          · obtain ⟨ps, h1, _⟩ := tg1
            rw [z, h1] at np; cases np
          · rw [fr1 p o (fun w => z (List.mem_singleton.mp w)) e] at np; cases np
      exact q p ys ts' _ nH (fr1.trans (FrM.same sp)) (tabG_sameC tg1 sp) upd_same (hT'.mono (Same.tst sp)) (pw_lt pw (pm'.nodup_iff.mpr (nd.sublist List.filter_sublist))) pm'
end
end My

set_option Elab.async false
set_option linter.all false
set_option maxRecDepth 100000
set_option pp.maxSteps 400
set_option maxHeartbeats 4000000
namespace My
open PySem PySem.Spec PyProof.Rows L2 GxR
theorem cut_sub {xs : List V} {lo hi : Option Int} : ∀ x ∈ cutV xs lo hi, x ∈ xs := fun x hx => by
  unfold cutV at hx
  exact List.mem_of_mem_drop (List.mem_of_mem_take hx)
theorem cut_none {xs : List V} {m : Nat} {hi : Option Int} (h : xs.length ≤ m) : cutV xs (some (m : Int)) hi = [] := by
  unfold cutV
  rw [HT.sIx_nat, Nat.min_eq_right h, List.drop_length, List.take_nil]
section
variable {P : Program} {w : World} {K : PySem.W.Frag} {mg : Str → Option Value} {base : Heap}
/-! ### _law_folded -/
abbrev s__law_folded : Stmt := topS 6
abbrev N__law_folded : List Str := ["_law_script", "_law_many", "_law_cells", "_law_k", "_law_cell"]
theorem sc__law_folded : FnScope N__law_folded ["_law_script", "_law_many"] (defScope s__law_folded) := ⟨rfl, rfl, rfl, by decide +kernel, rfl, by decide +kernel, by decide +kernel⟩
def sp_folded (K : PySem.W.Frag) : Sp := fun vs H Q _ => ∃ (a : Addr) (ns : List Int) (m : Nat), vs = [.ref a, .int (m : Int)] ∧ SqL K H a (ns.map V.int) ∧ ns.length ≤ 63 ∧ 1 ≤ m ∧ m ≤ 63 ∧
  ∀ (C : Addr) (cs : List Int) (H' : Hp), H C = none → Same H H' → H' C = some (.lst (cs.map V.int)) → cs.length = min m ns.length → Q (.ref C) H'
theorem ok_folded {f : Addr} {fd : FuncData} (B : Bts mg) (F : Fun K "_law_folded" "_law_folded" s__law_folded f fd) : FnOk P w K mg base CX0 1 f fd ["_law_script", "_law_many"] (sp_folded K) := by
  refine F.ok sc__law_folded (fun vs H Q E h => ?_) (fun cdv A outer s H vs Q E hr h => ?_)
  · obtain ⟨a, ns, m, rfl, _⟩ := h; rfl
  · obtain ⟨a, ns, m, rfl, hS, nl, m1, m63, q⟩ := h
    refine ⟨_, (pss_cons (ps_set (i := 2) sc__law_folded.nd rfl (by first | exact Or.inl rfl | exact Or.inr rfl) (pe_callTy call_list_of (by rfl) B.list (by decide +kernel) (pa_cons (pe_slice sl_list (pv 0) po_none (po_some (pv 1))) pa_nil)))
    (pss_cons (ps_for PassesOwn.never rfl (pi_enum (by rfl) B.enumerate (pa_cons (pe_slice sl_list (pv 0) (po_some (pv 1)) (po_some pe_int)) pa_nil)) (pg_tup rfl (pgs_cons (pg_name (i := 3) sc__law_folded.nd rfl (by first | exact Or.inl rfl | exact Or.inr rfl)) (pgs_cons (pg_name (i := 4) sc__law_folded.nd rfl (by first | exact Or.inl rfl | exact Or.inr rfl)) pgs_nil)))
      (pss_one (ps_asg (pe_op op_add (pe_ix ix_list (pv 2) (pe_op op_mod (pv 3) (pv 1)) (fun _ _ => rfl)) (pe_op op_mul (pv 4) (pe_op op_add (pv 3) pe_int))) (pg_sub (pv 2) (pe_op op_mod (pv 3) (pv 1)) set_list))))
    (pss_one (ps_ret (pv 2))))), ?_⟩
    refine ⟨_, rfl, _, rfl, _, rfl, a, _, rfl, hS, fun A1 nA1 => ?_⟩
    rw [cutTo, ← List.map_take]
    have s1 := same_new (o := .lst ((ns.take m).map V.int)) nA1
    refine ⟨A1, _, rfl, .inl (SqL.of upd_same), fun C nC => ?_⟩
    have sC := same_new (o := .lst ((ns.take m).map V.int)) nC
    have s2 := s1.trans sC
    have nC0 : H C = none := same_free s1 nC
    have eC := upd_same (H := upd H A1 (.lst ((ns.take m).map V.int))) (a := C) (o := .lst ((ns.take m).map V.int))
    generalize upd (upd H A1 (.lst ((ns.take m).map V.int))) C (.lst ((ns.take m).map V.int)) = H2 at s2 eC ⊢
    refine ⟨_, rfl, _, rfl, _, rfl, _, rfl, a, _, rfl, sq_same s2 hS, fun A3 nA3 => ?_⟩
    have sub : ∀ x ∈ cutV (ns.map V.int) (some (m : Int)) (some 63), x ∈ ns.map V.int := cut_sub
    have non : ns.length ≤ m → cutV (ns.map V.int) (some (m : Int)) (some 63) = [] := fun h => cut_none (by rw [List.length_map]; exact h)
    have cl := cutV_length (ns.map V.int) (some (m : Int)) (some 63)
    rw [List.length_map] at cl
    generalize cutV (ns.map V.int) (some (m : Int)) (some 63) = xs at sub non cl ⊢
    have s3 := same_new (o := .lst xs) nA3
    have eA3 := upd_same (H := H2) (a := A3) (o := .lst xs)
    have s03 := s2.trans s3
    have eC3 := s3 _ _ eC
    have CA : A3 ≠ C := fun z => by rw [z, eC] at nA3; cases nA3
    generalize upd H2 A3 (.lst xs) = H3 at s3 eA3 s03 eC3 ⊢
    refine ⟨A3, _, rfl, SqL.of eA3, ?_⟩
    refine for_it (walk_enum (K := K) (a := A3) (xs := xs)) (fun i σ H4 => ∃ cs y3 y4, σ = [some (.ref a), some (.int (m : Int)), some (.ref C), y3, y4] ∧ Same H H4 ∧ H4 A3 = some (.lst xs) ∧ H4 C = some (.lst (cs.map V.int)) ∧ cs.length = min m ns.length) ⟨ns.take m, _, _, rfl, s03, eA3, eC3, List.length_take ..⟩ ?_ ?_ ?_
    · rintro i σ H4 _ ⟨_, _, _, _, _, e4, _⟩
      exact SqL.of e4
    · rintro i z σ H4 H5 hi ⟨cs, y3, y4, rfl, s4, eA4, eC4, cl4⟩ ⟨T, x1, x2, rfl, nT, rfl, ex1, ex2⟩
      cases ex1
      dsimp only at ex2
      obtain ⟨cell, _, rfl⟩ := List.mem_map.mp (sub _ (List.mem_of_getElem? ex2))
      have lm : m < ns.length := by
        rcases Nat.lt_or_ge m ns.length with w | w
        · exact w
        · rw [non w] at hi; exact absurd hi (Nat.not_lt_zero _)
      have sT := same_new (o := .tup [.int ((i : Nat) : Int), .int cell]) nT
      have eC5 := sT _ _ eC4
      refine ⟨T, _, rfl, SqT.of upd_same, rfl, _, _, rfl, _, _, rfl, rfl, ?_⟩
      have s5 := s4.trans sT
      have eA5 := sT _ _ eA4
      generalize upd H4 T (.tup [.int ((i : Nat) : Int), .int cell]) = H5 at eC5 s5 eA5 ⊢
      obtain ⟨r, er⟩ : ∃ r : Nat, ((i : Nat) : Int) % (m : Int) = (r : Int) := ⟨i % m, by omega⟩
      have rm : r < m := by
        have := Int.emod_lt_of_pos ((i : Nat) : Int) (show (0 : Int) < (m : Int) by omega)
        omega
      have hr' : r < cs.length := by omega
      have gr : (cs.map V.int)[r]? = some (.int cs[r]) := by rw [List.getElem?_map, List.getElem?_eq_getElem hr']; rfl
      have mp : (0 : Int) < (m : Int) := by omega
      refine ⟨_, rfl, _, rfl, _, rfl, _, _, rfl, rfl, mp, ?_⟩
      have ixr : ixN (cs.map V.int).length (((i : Nat) : Int) % (m : Int)) = some r := by
        rw [er, List.length_map]
        unfold ixN
        rw [if_pos (by omega), if_pos (by omega), Int.toNat_natCast]
      refine ⟨C, _, ((i : Nat) : Int) % (m : Int), _, rfl, rfl, SqL.of eC5, by rw [er]; exact atI_nat gr, ?_⟩
      refine ⟨_, rfl, _, rfl, _, _, rfl, rfl, _, _, rfl, rfl, .inr ⟨by omega, by omega⟩, _, _, rfl, rfl, ?_⟩
      refine ⟨_, rfl, _, rfl, _, rfl, _, _, rfl, rfl, mp, C, _, _, r, rfl, rfl, eC5, ixr, ?_⟩
      refine ⟨cs.set r (cs[r] + cell * (((i : Nat) : Int) + 2)), _, _, rfl, Same.put s5 nC0, by rw [upd_ne CA]; exact eA5, ?_, by rw [List.length_set]; exact cl4⟩
      rw [upd_same, List.map_set]
    · rintro σ H4 ⟨cs, y3, y4, rfl, s4, eA4, eC4, cl4⟩
      exact ⟨_, rfl, q C cs H4 nC0 s4 eC4 cl4⟩
end
end My

set_option Elab.async false
set_option linter.all false
set_option maxRecDepth 100000
set_option pp.maxSteps 400
set_option maxHeartbeats 4000000
namespace My
open PySem PySem.Spec PyProof.Rows L2 GxR
def PtW (H : Hp) (x : V) (ts : List Ar) : Prop := ∃ p us ps, x = .ref p ∧ H p = some (.tup us) ∧ Ties H us ps ∧ Pts ts ps
theorem PtW.mono {H H' : Hp} {x : V} {ts : List Ar} (h : PtW H x ts) (s : Tst H H') : PtW H' x ts := by
  obtain ⟨p, us, ps, e, a, b, c⟩ := h
  exact ⟨p, us, ps, e, s _ _ a, b.mono s, c⟩
theorem atI_lastP {us : List V} {z : V} (h : us[us.length - 1]? = some z) (hp : 0 < us.length) : atI us (-1) = some z := by
  unfold atI ixN
  rw [if_neg (by decide), if_pos (by omega)]
  show us[((-1 : Int) + (us.length : Int)).toNat]? = _
  rw [show ((-1 : Int) + (us.length : Int)).toNat = us.length - 1 from by omega]; exact h
def dQ (c : List Ar) : PyData := .tuple (c.map dT)
theorem shaped_dQs (cls : List (List Ar)) : SeqAt.shaped (.list (cls.map dQ)) = true := by
  unfold SeqAt.shaped
  rw [Bool.and_eq_true, decide_eq_true_eq]
  constructor
  · show PyData.canLayAll0 (cls.map dQ) = true
    induction cls with
    | nil => rfl
    | cons a l ih =>
      rw [List.map_cons, PyData.canLayAll0, ih]
      have : (dQ a).canLay0 = true := can_ties a
      rw [this]; rfl
  · show PyData.depthAll (cls.map dQ) + 1 ≤ 64
    have : PyData.depthAll (cls.map dQ) ≤ 2 := by
      induction cls with
      | nil => exact Nat.zero_le _
      | cons a l ih =>
        rw [List.map_cons, PyData.depthAll]
        have : (dQ a).depth ≤ 2 := by
          show PyData.depthAll (a.map dT) + 1 ≤ 2
          have := dep_ties a
          omega
        omega
    omega
theorem ptw_dp {K : PySem.W.Frag} {H : Hp} {ts : List Ar} : ∀ {xs : List V}, (∀ x ∈ xs, PtW H x ts) → ∃ F : List (List Ar), DpAll K H xs (F.map dQ) ∧ F.length = xs.length
  | [], _ => ⟨[], .nil, rfl⟩
  | x :: xs, h => by
    obtain ⟨p, us, ps, rfl, e1, e2, _⟩ := h x List.mem_cons_self
    obtain ⟨F, hF, l⟩ := ptw_dp (K := K) (xs := xs) fun y hy => h y (List.mem_cons_of_mem _ hy)
    exact ⟨ps :: F, .cons (.tup (SqT.of e1) e2.dp) hF, by rw [List.length_cons, List.length_cons, l]⟩
theorem eqv_nilQ (F : List (List Ar)) : PyData.eqv (.list (F.map dQ)) (.list []) = decide (F = []) := by
  cases F with
  | nil => rfl
  | cons a l => rfl
theorem pts_snoc {ts ps : List Ar} {i : Nat} {t x : Ar} (h : Pts (ts.take i) ps) (e : ts[i]? = some t) (ex : nrm x = t) : Pts (ts.take (i + 1)) (ps ++ [x]) := by
  unfold Pts at *
  rw [List.take_add_one, e, List.map_append, h, ← ex]; rfl
section
variable {P : Program} {w : World} {K : PySem.W.Frag} {mg : Str → Option Value} {base : Heap}
/-! ### _law_pointing of the law of what is common -/
abbrev s__law_pointing : Stmt := topS 15
abbrev N__law_pointing : List Str := ["_law_left_here", "_law_web_here", "_law_some", "_law_way", "_law_a", "_law_b", "_law_row_here"]
theorem sc__law_pointing : FnScope N__law_pointing ["_law_left_here", "_law_web_here", "_law_some"] (defScope s__law_pointing) := ⟨rfl, rfl, rfl, by decide +kernel, rfl, by decide +kernel, by decide +kernel⟩
def sp_pt28 : Sp := fun vs H Q _ => ∃ (L S : Addr) (v : V) (c : Int) (n : Nat) (ts : List Ar) (xs : List V), vs = [.ref L, v, .ref S] ∧ Lf H L c ∧ c < 2 ^ 46 ∧ Web H v n ts ∧ WOk n ts ∧ n ≤ 12 ∧ H S = some (.lst xs) ∧ S ≠ L ∧ xs.length ≤ 100 ∧ (∀ x ∈ xs, PtW H x ts) ∧
  ∀ (p : Addr) (us : List V) (ps : List Ar) (H' : Hp), Fr L H H' → Lf H' L (c + 1000) → H' p = some (.tup us) → Ties H' us ps → Pts ts ps → Q (.ref p) H'
theorem ok_pt28 {f : Addr} {fd : FuncData} (B : Bts mg) (F : Fun K "_law_pointing" "_law_pointing" s__law_pointing f fd) (c__law_pick : Cl P w K mg base 2 "_law_pick" sp_pick) (c__law_row : Cl P w K mg base 3 "_law_row" sp_row) : FnOk P w K mg base CX0 4 f fd ["_law_left_here", "_law_web_here", "_law_some"] sp_pt28 := by
  refine F.ok sc__law_pointing (fun vs H Q E h => ?_) (fun cdv A outer s H vs Q E hr h => ?_)
  · obtain ⟨L, S, v, c, n, ts, xs, rfl, _⟩ := h; rfl
  · obtain ⟨L, S, v, c, n, ts, xs, rfl, lf, hc, hWeb, hW, hn, eS, SL, xl, hxs, q⟩ := h
    refine ⟨_, (pss_cons (ps_set (i := 3) sc__law_pointing.nd rfl (by first | exact Or.inl rfl | exact Or.inr rfl) (pe_c c__law_pick hr (by decide) (by rfl) (pa_cons (pv 0) (pa_cons pe_int pa_nil))))
    (pss_cons (ps_if (pt_cmpR op_eq (pv 3) pe_int (nomark _)) (pss_one (ps_ret (pe_callTy call_tuple_of (by rfl) B.tuple (by decide +kernel) (pa_cons (pe_lc (own := [("_law_a", 4), ("_law_b", 5)]) (g := (gTup K 2 (gCons (gName 4) (gCons (gName 5) gNil)))) (tt := tYes) (te := (tOp (rIxL K) _ _)) rfl sc__law_pointing.nd (pi_tup (pe_ix ix_tup (pv 1) pe_int (fun _ _ => rfl))) (blkOk_by (own := [("_law_a", 4), ("_law_b", 5)]) (N := N__law_pointing) (sc := defScope s__law_pointing) (by decide +kernel)) (fun _ _ _ _ _ => (pg_tup rfl (pgs_cons (pg_name (i := 4) sc__law_pointing.nd rfl (by first | exact Or.inl rfl | exact Or.inr rfl)) (pgs_cons (pg_name (i := 5) sc__law_pointing.nd rfl (by first | exact Or.inl rfl | exact Or.inr rfl)) pgs_nil)))) (fun _ _ _ _ _ => pts_nil) (fun _ _ _ _ _ => (pe_ix ix_list (pe_lst (pa_cons (pe_tup (pa_cons (pv 4) (pa_cons (pv 5) pa_nil))) (pa_cons (pe_tup (pa_cons (pv 5) (pa_cons (pv 4) pa_nil))) pa_nil))) (pe_c c__law_pick hr (by decide) (by rfl) (pa_cons (pv 0) (pa_cons pe_int pa_nil))) (fun _ _ => rfl)))) pa_nil)))) pss_nil)
    (pss_cons (ps_if (pt_cut (PW.pt (pw_or (pt_cmpR op_eq (pv 3) pe_int (nomark _)) (pw_or1 (pt_cmpR (op_eqD hr.units) (pv 2) (pe_lst pa_nil) (nomark _)))))) (pss_cons (ps_set (i := 6) sc__law_pointing.nd rfl (by first | exact Or.inl rfl | exact Or.inr rfl) (pe_c c__law_row hr (by decide) (by rfl) (pa_cons (pv 0) (pa_cons (pe_ix ix_tup (pv 1) pe_int (fun _ _ => rfl)) pa_nil))))
      (pss_one (ps_ret (pe_callTy call_tuple_of (by rfl) B.tuple (by decide +kernel) (pa_cons (pe_lc (own := [("_law_a", 4), ("_law_b", 5)]) (g := (gTup K 2 (gCons (gName 4) (gCons (gName 5) gNil)))) (tt := tYes) (te := (tIf (tTest (tOp _ (tBM K "list" (rIndex K) _ _) (tBM K "list" (rIndex K) _ _))) _ _)) rfl sc__law_pointing.nd (pi_tup (pe_ix ix_tup (pv 1) pe_int (fun _ _ => rfl))) (blkOk_by (own := [("_law_a", 4), ("_law_b", 5)]) (N := N__law_pointing) (sc := defScope s__law_pointing) (by decide +kernel)) (fun _ _ _ _ _ => (pg_tup rfl (pgs_cons (pg_name (i := 4) sc__law_pointing.nd rfl (by first | exact Or.inl rfl | exact Or.inr rfl)) (pgs_cons (pg_name (i := 5) sc__law_pointing.nd rfl (by first | exact Or.inl rfl | exact Or.inr rfl)) pgs_nil)))) (fun _ _ _ _ _ => pts_nil) (fun _ _ _ _ _ => (pe_ifExp (pt_cmpR op_lt (pe_bm PySem.F.plainAttrs_list PySem.F.slot_list_index PySem.F.type_list_index mt_index (pv 6) (pa_cons (pv 4) pa_nil)) (pe_bm PySem.F.plainAttrs_list PySem.F.slot_list_index PySem.F.type_list_index mt_index (pv 6) (pa_cons (pv 5) pa_nil)) (nomark _)) (pe_tup (pa_cons (pv 4) (pa_cons (pv 5) pa_nil))) (pe_tup (pa_cons (pv 5) (pa_cons (pv 4) pa_nil)))))) pa_nil))))) pss_nil)
    (pss_cons (ps_if (pt_cmpR op_eq (pv 3) pe_int (nomark _)) (pss_one (ps_ret (pe_ix ix_list (pv 2) (pe_c c__law_pick hr (by decide) (by rfl) (pa_cons (pv 0) (pa_cons (pe_callB call_len_seq (by rfl) B.len (by decide +kernel) (pa_cons (pv 2) pa_nil)) pa_nil))) (fun _ _ => rfl)))) pss_nil)
    (pss_one (ps_ret (pe_callTy call_tuple_of (by rfl) B.tuple (by decide +kernel) (pa_cons (pe_lc (own := [("_law_a", 4), ("_law_b", 5)]) (g := (gTup K 2 (gCons (gName 4) (gCons (gName 5) gNil)))) (tt := tYes) rfl sc__law_pointing.nd (pi_tup (pe_ix ix_list (pv 2) (pe_un un_neg pe_int) (fun _ _ => rfl))) (blkOk_by (own := [("_law_a", 4), ("_law_b", 5)]) (N := N__law_pointing) (sc := defScope s__law_pointing) (by decide +kernel)) (fun _ _ _ _ _ => (pg_tup rfl (pgs_cons (pg_name (i := 4) sc__law_pointing.nd rfl (by first | exact Or.inl rfl | exact Or.inr rfl)) (pgs_cons (pg_name (i := 5) sc__law_pointing.nd rfl (by first | exact Or.inl rfl | exact Or.inr rfl)) pgs_nil)))) (fun _ _ _ _ _ => pts_nil) (fun _ _ _ _ _ => (pe_ifExp (pt_cmpR op_eq (pe_c c__law_pick hr (by decide) (by rfl) (pa_cons (pv 0) (pa_cons pe_int pa_nil))) pe_int (nomark _)) (pe_tup (pa_cons (pv 5) (pa_cons (pv 4) pa_nil))) (pe_tup (pa_cons (pv 4) (pa_cons (pv 5) pa_nil)))))) pa_nil)))))))), ?_⟩
    have nn : n * n ≤ 144 := Nat.mul_le_mul hn hn
    have tl : ts.length ≤ 144 := Nat.le_trans (cs_len (nd_pw hW.1) fun t ht => inR_of hW ht) nn
    obtain ⟨pw, qw, uw, rfl, ew, eqw, hT⟩ := id hWeb
    have ul := hT.len
    refine ⟨_, rfl, L, 4, c, rfl, lf, by omega, by omega, by omega, fun r H1 r0 r1 fr1 lf1 => ?_⟩
    have st1 := lf.tst fr1
    have ew1 := st1 _ _ ew
    have eqw1 := st1 _ _ eqw
    have hT1 := hT.mono st1
    refine ⟨_, rfl, rfl, _, rfl, ite2 (fun e => ?_) (fun e => ?_)⟩
    · -- drawn one by one
      refine ⟨_, rfl, pw, _, _, _, rfl, rfl, SqT.of ew1, rfl, qw, rfl, ⟨_, SqT.of eqw1⟩, fun G nG => ?_⟩
      refine wk (walk_tup (K := K) (a := qw) (xs := uw)) (fun i H3 => ∃ ws ps, Fr L H1 H3 ∧ Lf H3 L (c + 1 + (i : Int)) ∧ H3 G = some (.lst ws) ∧ Ties H3 ws ps ∧ Pts (ts.take i) ps) ⟨[], [], Fr.new nG, (lf1.new nG).mono (by omega), upd_same, by exact trivial, rfl⟩ ?_ ?_ ?_
      · rintro i H3 _ ⟨_, _, fr3, _⟩
        exact SqT.of (lf1.tst fr3 _ _ eqw1)
      · rintro i x H3 H4 hi ⟨ws, ps, fr3, lf3, eG, hV, hP⟩ ⟨rfl, hx⟩
        have GL := lf1.ne nG
        obtain ⟨t, et, ht⟩ := (hT1.mono (lf1.tst fr3)).at hx
        obtain ⟨pt, rfl, ept⟩ := id ht
        have hb := hW.2 t (List.mem_of_getElem? et)
        have wl := hV.len
        have pl := pts_len hP
        rw [List.length_take] at pl
        refine ⟨pt, _, rfl, SqT.of ept, rfl, _, _, rfl, _, _, rfl, rfl, rfl, yes ?_⟩
        refine ⟨_, rfl, _, rfl, by show 2 ≤ sizeLine; decide, fun k1 nk1 => ?_⟩
        have s1 := same_new (o := .tup [.int t.1, .int t.2]) nk1
        have e1 := upd_same (H := H4) (a := k1) (o := .tup [.int t.1, .int t.2])
        generalize upd H4 k1 (.tup [.int t.1, .int t.2]) = H5 at s1 e1 ⊢
        refine ⟨_, rfl, _, rfl, by show 2 ≤ sizeLine; decide, fun k2 nk2 => ?_⟩
        have s2 := same_new (o := .tup [.int t.2, .int t.1]) nk2
        have e2 := upd_same (H := H5) (a := k2) (o := .tup [.int t.2, .int t.1])
        generalize upd H5 k2 (.tup [.int t.2, .int t.1]) = H6 at s2 e2 ⊢
        refine ⟨by show 2 ≤ sizeLine; decide, fun k3 nk3 => ?_⟩
        have s3 := same_new (o := .lst [.ref k1, .ref k2]) nk3
        have e3 := upd_same (H := H6) (a := k3) (o := .lst [.ref k1, .ref k2])
        generalize upd H6 k3 (.lst [.ref k1, .ref k2]) = H7 at s3 e3 ⊢
        have s47 := (s1.trans s2).trans s3
        have lf7 := lf3.same s47
        have k3L : k3 ≠ L := (lf3.same (s1.trans s2)).ne nk3
        refine ⟨_, rfl, L, 2, _, rfl, lf7, by omega, by omega, by omega, fun r2 H8 r20 r21 fr8 lf8 => ?_⟩
        have t78 := lf7.tst fr8
        have e38 := fr8 _ _ k3L e3
        have fr38 := (fr3.trans (Fr.of s47)).trans fr8
        have eG8 := fr8 _ _ GL (s47 _ _ eG)
        have t38 := (Same.tst s47).trans t78
        obtain ⟨y, o, ey, hy, en⟩ : ∃ (y : V) (o : Ar), atI [V.ref k1, .ref k2] r2 = some y ∧ Tie H8 y o ∧ nrm o = t := by
          rcases (by omega : r2 = 0 ∨ r2 = 1) with rfl | rfl
          · exact ⟨_, t, atI_nat (j := 0) rfl, ⟨k1, rfl, t78 _ _ (s3 _ _ (s2 _ _ e1))⟩, nrm_t hb.2.1⟩
          · exact ⟨_, sw t, atI_nat (j := 1) rfl, ⟨k2, rfl, t78 _ _ (s3 _ _ e2)⟩, nrm_sw hb.2.1⟩
        refine ⟨k3, _, r2, y, rfl, rfl, SqL.of e38, ey, ?_⟩
        refine ⟨ws, eG8, sz' (by omega), ws ++ [y], ps ++ [o], Fr.put fr38 nG, ?_, upd_same, ?_, pts_snoc hP et en⟩
        · exact (lf8.put GL).mono (by omega)
        · exact ((hV.mono t38).app (Ties.one hy)).mono (tst_put eG8)
      · rintro H3 ⟨ws, ps, fr3, lf3, eG, hV, hP⟩
        rw [ul, List.take_length] at hP
        refine ⟨G, ws, rfl, .inl ⟨SqL.of eG, fun p np => ?_⟩⟩
        have sp := same_new (o := .tup ws) np
        exact q p ws ps _ ((fr1.trans fr3).trans (Fr.of sp)) ((lf3.mono (by omega)).same sp) upd_same (hV.mono (Same.tst sp)) hP
    -- by a row, some one, or one with some turned
    have eS1 := fr1 _ _ SL eS
    have hxs1 : ∀ x ∈ xs, PtW H1 x ts := fun x hx => (hxs x hx).mono st1
    refine ⟨fun b H2 => Same H1 H2 ∧ (b = false → xs ≠ []), ?_, ?_⟩
    · refine ⟨_, rfl, rfl, _, rfl, ?_⟩
      by_cases w1 : (V.int r = V.int 1)
      · rw [decide_eq_true w1]
        exact iteT ⟨same_refl _, fun z => by cases z⟩
      · rw [decide_eq_false w1]
        refine iteF ?_
        refine ⟨_, rfl, Nat.zero_le _, fun en nen => ?_⟩
        have se := same_new (o := .lst []) nen
        obtain ⟨F, hF, fl⟩ := ptw_dp (K := K) fun x hx => (hxs1 x hx).mono (Same.tst se)
        refine ⟨.list (F.map dQ), .list [], .lst (SqL.of (se _ _ eS1)) hF, .lst (SqL.of upd_same) .nil, shaped_dQs F, rfl, ?_⟩
        rw [eqv_nilQ]
        refine ⟨_, rfl, se, fun z => fun x0 => ?_⟩
        rw [x0] at fl
        rw [decide_eq_true (List.eq_nil_of_length_eq_zero fl)] at z
        cases z
    rintro b H2 ⟨s2, hb⟩
    have lf2 := lf1.same s2
    have ew2 := s2 _ _ ew1
    have eqw2 := s2 _ _ eqw1
    have hT2 := hT1.mono (Same.tst s2)
    have eS2 := s2 _ _ eS1
    have hxs2 : ∀ x ∈ xs, PtW H2 x ts := fun x hx => (hxs1 x hx).mono (Same.tst s2)
    have fr02 := fr1.trans (Fr.of s2)
    cases b with
    | true =>
      refine iteT ?_
      refine ⟨_, rfl, _, rfl, pw, _, 0, .int (n : Int), rfl, rfl, SqT.of ew2, atI_nat (j := 0) rfl, L, n, _, rfl, lf2, by omega, by omega, fun R rr H3 nR fr3 lf3 eR pm => ?_⟩
      have t23 := lf2.tst fr3
      have ew3 := t23 _ _ ew2
      have eqw3 := t23 _ _ eqw2
      have hT3 := hT2.mono t23
      refine ⟨_, rfl, pw, _, 1, .ref qw, rfl, rfl, SqT.of ew3, atI_nat (j := 1) rfl, qw, rfl, ⟨_, SqT.of eqw3⟩, fun G nG => ?_⟩
      refine wk (walk_tup (K := K) (a := qw) (xs := uw)) (fun i H4 => ∃ ws ps, Same H3 H4 ∧ H4 G = some (.lst ws) ∧ Ties H4 ws ps ∧ Pts (ts.take i) ps) ⟨[], [], same_new nG, upd_same, by exact trivial, rfl⟩ ?_ ?_ ?_
      · rintro i H4 _ ⟨_, _, s4, _⟩
        exact SqT.of (s4 _ _ eqw3)
      · rintro i x H4 H5 hi ⟨ws, ps, s4, eG, hV, hP⟩ ⟨rfl, hx⟩
        obtain ⟨t, et, ht⟩ := hT3.at hx
        have ht4 := ht.mono (Same.tst s4)
        obtain ⟨pt, rfl, ept⟩ := id ht4
        have hb := hW.2 t (List.mem_of_getElem? et)
        have wl := hV.len
        have pl := pts_len hP
        rw [List.length_take] at pl
        have m1 : t.1 ∈ rr := pm.mem_iff.mpr (mem_up.mpr ⟨by omega, by omega⟩)
        have m2 : t.2 ∈ rr := pm.mem_iff.mpr (mem_up.mpr ⟨by omega, by omega⟩)
        have eR4 := s4 _ _ eR
        refine ⟨pt, _, rfl, SqT.of ept, rfl, _, _, rfl, _, _, rfl, rfl, rfl, yes ?_⟩
        refine ⟨_, rfl, .inl ⟨rfl, _, SqL.of eR4⟩, _, rfl, R, _, _, _, _, rfl, rfl, SqL.of eR4, rfl, all_flat rr, idx_at m1, by simp [eqV], idx_first, ?_⟩
        refine ⟨_, rfl, .inl ⟨rfl, _, SqL.of eR4⟩, _, rfl, R, _, _, _, _, rfl, rfl, SqL.of eR4, rfl, all_flat rr, idx_at m2, by simp [eqV], idx_first, _, _, rfl, rfl, _, rfl, ite2 (fun e => ?_) (fun e => ?_)⟩
        · refine ⟨_, rfl, _, rfl, by show 2 ≤ sizeLine; decide, fun k nk => ?_⟩
          have sk := same_new (o := .tup [.int t.1, .int t.2]) nk
          have e3 := sk _ _ eG
          exact ⟨ws, e3, sz' (by omega), ws ++ [.ref k], ps ++ [t], Same.put (s4.trans sk) nG, upd_same, Ties.mono (tst_put e3) ((hV.mono (Same.tst sk)).app (Ties.one ⟨k, rfl, upd_same⟩)), pts_snoc hP et (nrm_t hb.2.1)⟩
        · refine ⟨_, rfl, _, rfl, by show 2 ≤ sizeLine; decide, fun k nk => ?_⟩
          have sk := same_new (o := .tup [.int t.2, .int t.1]) nk
          have e3 := sk _ _ eG
          exact ⟨ws, e3, sz' (by omega), ws ++ [.ref k], ps ++ [sw t], Same.put (s4.trans sk) nG, upd_same, Ties.mono (tst_put e3) ((hV.mono (Same.tst sk)).app (Ties.one ⟨k, rfl, upd_same⟩)), pts_snoc hP et (nrm_sw hb.2.1)⟩
      · rintro H4 ⟨ws, ps, s4, eG, hV, hP⟩
        rw [ul, List.take_length] at hP
        refine ⟨G, ws, rfl, .inl ⟨SqL.of eG, fun p np => ?_⟩⟩
        have sp := same_new (o := .tup ws) np
        exact q p ws ps _ ((fr02.trans fr3).trans (Fr.of (s4.trans sp))) ((lf3.mono (by omega)).same (s4.trans sp)) upd_same (hV.mono (Same.tst sp)) hP
    | false =>
      have xne := hb rfl
      have xp := List.length_pos_iff.mpr xne
      refine iteF ?_
      refine ⟨_, rfl, rfl, _, rfl, ite2 (fun _ => ?_) (fun _ => ?_)⟩
      · refine ⟨_, rfl, _, rfl, _, rfl, S, _, rfl, .inl (SqL.of eS2), L, _, _, rfl, lf2, by omega, by omega, by omega, fun r3 H3 r30 r31 fr3 lf3 => ?_⟩
        obtain ⟨m, em⟩ := natOf r30
        have hm : m < xs.length := by omega
        have gp : xs[m]? = some xs[m] := List.getElem?_eq_getElem hm
        obtain ⟨p, us, ps, ep, e1, e2, e3⟩ := (hxs2 _ (List.getElem_mem hm)).mono (lf2.tst fr3)
        refine ⟨S, _, r3, xs[m], rfl, rfl, SqL.of (fr3 _ _ SL eS2), by rw [em]; exact atI_nat gp, ?_⟩
        rw [ep]
        exact q p us ps H3 (fr02.trans fr3) (lf3.mono (by omega)) e1 e2 e3
      · have gz : xs[xs.length - 1]? = some xs[xs.length - 1] := List.getElem?_eq_getElem (by omega)
        obtain ⟨qz, uz, pz, ez, e1, e2, e3⟩ := hxs2 _ (List.getElem_mem (show xs.length - 1 < xs.length by omega))
        rw [ez] at gz
        have zl := pts_len e3
        have uzl := e2.len
        refine ⟨_, rfl, _, rfl, S, _, -1, .ref qz, rfl, rfl, SqL.of eS2, atI_lastP gz xp, qz, rfl, ⟨_, SqT.of e1⟩, fun G nG => ?_⟩
        have GL := lf2.ne nG
        refine wk (walk_tup (K := K) (a := qz) (xs := uz)) (fun i H3 => ∃ ws ps, Fr L H2 H3 ∧ Lf H3 L (c + 1 + (i : Int)) ∧ H3 G = some (.lst ws) ∧ Ties H3 ws ps ∧ Pts (ts.take i) ps) ⟨[], [], Fr.new nG, (lf2.new nG).mono (by omega), upd_same, by exact trivial, rfl⟩ ?_ ?_ ?_
        · rintro i H3 _ ⟨_, _, fr3, _⟩
          exact SqT.of (lf2.tst fr3 _ _ e1)
        · rintro i x H3 H4 hi ⟨ws, ps, fr3, lf3, eG, hV, hP⟩ ⟨rfl, hx⟩
          obtain ⟨o, eo, ho⟩ := (e2.mono (lf2.tst fr3)).at hx
          obtain ⟨po, rfl, epo⟩ := id ho
          have om := List.mem_of_getElem? eo
          have one := pts_ne hW e3 om
          have et : ts[i]? = some (nrm o) := by
            have : (pz.map nrm)[i]? = some (nrm o) := by rw [List.getElem?_map, eo]; rfl
            rw [show pz.map nrm = ts from e3] at this
            exact this
          have wl := hV.len
          have pl := pts_len hP
          rw [List.length_take] at pl
          refine ⟨po, _, rfl, SqT.of epo, rfl, _, _, rfl, _, _, rfl, rfl, rfl, yes ?_⟩
          refine ⟨_, rfl, L, 4, _, rfl, lf3, by omega, by omega, by omega, fun r5 H5 r50 r51 fr5 lf5 => ?_⟩
          have t45 := lf3.tst fr5
          have eG5 := fr5 _ _ GL eG
          refine ⟨rfl, _, rfl, ite2 (fun e => ?_) (fun e => ?_)⟩
          · refine ⟨_, rfl, _, rfl, by show 2 ≤ sizeLine; decide, fun k nk => ?_⟩
            have sk := same_new (o := .tup [.int o.2, .int o.1]) nk
            have e9 := sk _ _ eG5
            exact ⟨ws, e9, sz' (by omega), ws ++ [.ref k], ps ++ [sw o], Fr.put (fr3.trans (fr5.trans (Fr.of sk))) nG, ((lf5.same sk).put GL).mono (by omega), upd_same, (((hV.mono t45).mono (Same.tst sk)).app (Ties.one ⟨k, rfl, upd_same⟩)).mono (tst_put e9), pts_snoc hP et (nrm_sw' o one)⟩
          · refine ⟨_, rfl, _, rfl, by show 2 ≤ sizeLine; decide, fun k nk => ?_⟩
            have sk := same_new (o := .tup [.int o.1, .int o.2]) nk
            have e9 := sk _ _ eG5
            exact ⟨ws, e9, sz' (by omega), ws ++ [.ref k], ps ++ [o], Fr.put (fr3.trans (fr5.trans (Fr.of sk))) nG, ((lf5.same sk).put GL).mono (by omega), upd_same, (((hV.mono t45).mono (Same.tst sk)).app (Ties.one ⟨k, rfl, upd_same⟩)).mono (tst_put e9), pts_snoc hP et rfl⟩
        · rintro H3 ⟨ws, ps, fr3, lf3, eG, hV, hP⟩
          rw [uzl, zl, List.take_length] at hP
          refine ⟨G, ws, rfl, .inl ⟨SqL.of eG, fun p np => ?_⟩⟩
          have sp := same_new (o := .tup ws) np
          exact q p ws ps _ ((fr02.trans fr3).trans (Fr.of sp)) ((lf3.mono (by omega)).same sp) upd_same (hV.mono (Same.tst sp)) hP
end
end My

set_option Elab.async false
set_option linter.all false
set_option maxRecDepth 100000
set_option pp.maxSteps 400
set_option maxHeartbeats 4000000
namespace My
open PySem PySem.Spec PyProof.Rows L2 GxR
theorem pts_ndC {n : Nat} {ts ps : List Ar} (hW : WOk n ts) (h : Pts ts ps) : ps.Nodup := by
  have : (ps.map nrm).Nodup := by rw [h]; exact nd_pw hW.1
  rw [List.nodup_iff_pairwise_ne] at this ⊢
  rw [List.pairwise_map] at this
  exact this.imp fun h e => h (congrArg nrm e)
theorem pts_inRC {n : Nat} {ts ps : List Ar} (hW : WOk n ts) (h : Pts ts ps) {p : Ar} (hp : p ∈ ps) : InR n p := by
  have : nrm p ∈ ts := by rw [← h]; exact List.mem_map.mpr ⟨p, hp, rfl⟩
  have hb := hW.2 _ this
  unfold nrm sw at hb
  split at hb
  · exact ⟨hb.1, by omega, by omega, hb.2.2⟩
  · dsimp only at hb; exact ⟨by omega, by omega, by omega, by omega⟩
theorem lText_len (l : List Str) : (listText l).length ≤ piled l + 2 := by
  rw [listText_eq_join, strLen_append, strLen_append]
  have e1 : ((("[" : String) : Str)).length = 1 := rfl
  have e3 : ((("]" : String) : Str)).length = 1 := rfl
  rw [e1, e3]
  by_cases h : l = []
  · subst h
    have : (Str.join ", " []).length = 0 := rfl
    omega
  · have := join_length_add l h
    omega
def dWS (n : Nat) (ts : List Ar) (F : List (List Ar)) : PyData := .list [dW n ts, .list (F.map dQ)]
theorem fs_show {n : Nat} {F : List (List Ar)} (hn : n ≤ 100) (hR : ∀ c ∈ F, c.length ≤ 144 ∧ ∀ x ∈ c, InR n x) : PyData.showableAll (F.map dQ) = true ∧ PyData.hasDictAll (F.map dQ) = false ∧ PyData.depthAll (F.map dQ) ≤ 2 ∧ piled (PyData.shownAll (F.map dQ)) ≤ 2000 * F.length := by
  induction F with
  | nil => exact ⟨rfl, rfl, Nat.zero_le _, Nat.le_refl _⟩
  | cons c F ih =>
    obtain ⟨i1, i2, i3, i4⟩ := ih fun x hx => hR x (List.mem_cons_of_mem _ hx)
    obtain ⟨cl, cR⟩ := hR c List.mem_cons_self
    obtain ⟨a1, a2⟩ := show_ties hn cR
    have a3 := shown_ties hn cR
    have a4 := dep_ties c
    have a5 := tupleText_len (PyData.shownAll (c.map dT))
    rw [List.map_cons, PyData.showableAll, PyData.hasDictAll, PyData.depthAll, PyData.shownAll, piled_cons, i1, i2, List.length_cons]
    rw [show dQ c = .tuple (c.map dT) from rfl, PyData.showable, PyData.hasDict, PyData.depth, PyData.shown, a1, a2]
    refine ⟨rfl, rfl, ?_, ?_⟩ <;> omega
theorem ws_show {n : Nat} {ts : List Ar} {F : List (List Ar)} (hW : WOk n ts) (hn : n ≤ 12) (tl : ts.length ≤ 144) (hR : ∀ c ∈ F, c.length ≤ 144 ∧ ∀ x ∈ c, InR n x) (fl : F.length ≤ 6) : (dWS n ts F).showable = true ∧ (dWS n ts F).hasDict = false ∧ (dWS n ts F).depth ≤ 50 ∧ (dWS n ts F).shown.length ≤ sizeLine := by
  have tR : ∀ t ∈ ts, InR n t := fun t ht => by
    have := hW.2 t ht
    exact ⟨this.1, by omega, by omega, this.2.2⟩
  obtain ⟨a1, a2⟩ := show_ties (n := n) (by omega) tR
  have a3 := shown_ties (n := n) (by omega) tR
  have a4 := dep_ties ts
  obtain ⟨b1, b2, b3, b4⟩ := fs_show (n := n) (by omega) hR
  refine ⟨?_, ?_, ?_, ?_⟩
  · unfold dWS dW
    simp only [PyData.showable, PyData.showableAll, a1, b1, log_small (i := (n : Int)) (by omega) (by omega)]; rfl
  · unfold dWS dW
    simp only [PyData.hasDict, PyData.hasDictAll, a2, b2]; rfl
  · unfold dWS dW
    simp only [PyData.depth, PyData.depthAll]
    omega
  · unfold dWS dW
    simp only [PyData.shown, PyData.shownAll]
    have h0 := lText_len [tupleText [((toString (n : Int) : String) : Str), tupleText (PyData.shownAll (ts.map dT))], listText (PyData.shownAll (F.map dQ))]
    rw [piled_cons, piled_cons, piled_nil] at h0
    have h1 := tupleText_len [((toString (n : Int) : String) : Str), tupleText (PyData.shownAll (ts.map dT))]
    rw [piled_cons, piled_cons, piled_nil] at h1
    have h2 := tupleText_len (PyData.shownAll (ts.map dT))
    have h2' := lText_len (PyData.shownAll (F.map dQ))
    have h3 := txt_len (i := (n : Int)) (by omega) (by omega)
    have h4 : 90000 ≤ sizeLine := by decide
    omega
theorem tps_dp {K : PySem.W.Frag} {H : Hp} : ∀ {xs : List V} {F : List (List Ar)}, All2 (TpV H) xs F → DpAll K H xs (F.map dQ)
  | [], [], _ => .nil
  | _ :: _, _ :: _, h => by
    obtain ⟨q, us, rfl, h1, h2⟩ := h.1
    exact .cons (.tup (SqT.of h1) h2.dp) (tps_dp h.2)
  | [], _ :: _, h => h.elim
  | _ :: _, [], h => h.elim
theorem all2_rev {R : V → List Ar → Prop} : ∀ {xs : List V} {F : List (List Ar)}, All2 R xs F → All2 R xs.reverse F.reverse
  | [], [], _ => trivial
  | _ :: _, _ :: _, h => by
    rw [List.reverse_cons, List.reverse_cons]
    exact (all2_rev h.2).app ⟨h.1, trivial⟩
  | [], _ :: _, h => h.elim
  | _ :: _, [], h => h.elim
/-- due so far: all pairs ahead of (a, b) that are in all -/
structure DueA (F : List (List Ar)) (n a b : Nat) (ds : List Ar) : Prop where
  pw : ds.Pairwise ltT
  mm : ∀ x : Ar, x ∈ ds ↔ InR n x ∧ (x.1 < a ∨ (x.1 = a ∧ x.2 < b)) ∧ inAll F x = true
theorem DueA.nil {F : List (List Ar)} {n : Nat} : DueA F n 0 0 [] := ⟨.nil, fun x => ⟨fun h => absurd h List.not_mem_nil, fun ⟨h1, h2, _⟩ => by
  have := h1.1
  have := h1.2.1
  have := h1.2.2.1
  omega⟩⟩
theorem DueA.row {F : List (List Ar)} {n a : Nat} {ds : List Ar} (h : DueA F n a n ds) : DueA F n (a + 1) 0 ds := ⟨h.pw, fun x => by
  rw [h.mm x]
  constructor
  · rintro ⟨h1, h2, h3⟩
    exact ⟨h1, by omega, h3⟩
  · rintro ⟨h1, h2, h3⟩
    have := h1.2.2.1
    have := h1.2.2.2
    exact ⟨h1, by omega, h3⟩⟩
theorem DueA.no {F : List (List Ar)} {n a b : Nat} {ds : List Ar} (h : DueA F n a b ds) (e : inAll F ((a : Int), (b : Int)) = false) : DueA F n a (b + 1) ds := ⟨h.pw, fun x => by
  rw [h.mm x]
  constructor
  · rintro ⟨h1, h2, h3⟩
    exact ⟨h1, by omega, h3⟩
  · rintro ⟨h1, h2, h3⟩
    refine ⟨h1, ?_, h3⟩
    rcases h2 with h2 | ⟨h2, h4⟩
    · exact .inl h2
    · refine .inr ⟨h2, ?_⟩
      have : x.2 ≠ (b : Int) := fun z => by
        have ex : x = ((a : Int), (b : Int)) := Prod.ext h2 z
        rw [ex, e] at h3; cases h3
      omega⟩
theorem DueA.yes {F : List (List Ar)} {n a b : Nat} {ds : List Ar} (h : DueA F n a b ds) (hr : InR n ((a : Int), (b : Int))) (e : inAll F ((a : Int), (b : Int)) = true) : DueA F n a (b + 1) (ds ++ [((a : Int), (b : Int))]) := by
  refine ⟨?_, fun x => ?_⟩
  · rw [List.pairwise_append]
    refine ⟨h.pw, List.pairwise_singleton _ _, fun s hs t ht => ?_⟩
    rw [List.mem_singleton.mp ht]
    have := (h.mm s).mp hs
    rcases this.2.1 with k | ⟨k1, k2⟩
    · exact .inl k
    · exact .inr ⟨k1, k2⟩
  · rw [List.mem_append, h.mm x, List.mem_singleton]
    constructor
    · rintro (⟨h1, h2, h3⟩ | rfl)
      · exact ⟨h1, by omega, h3⟩
      · exact ⟨hr, .inr ⟨rfl, by show (b : Int) < ((b + 1 : Nat) : Int); omega⟩, e⟩
    · rintro ⟨h1, h2, h3⟩
      by_cases z : x = ((a : Int), (b : Int))
      · exact .inr z
      · refine .inl ⟨h1, ?_, h3⟩
        rcases h2 with h2 | ⟨h2, h4⟩
        · exact .inl h2
        · refine .inr ⟨h2, ?_⟩
          have : x.2 ≠ (b : Int) := fun w => z (Prod.ext h2 w)
          omega
theorem DueA.len {F : List (List Ar)} {n a b : Nat} {ds : List Ar} (h : DueA F n a b ds) (hn : n ≤ 12) : ds.length ≤ 144 := by
  have nn : n * n ≤ 144 := Nat.mul_le_mul hn hn
  have := cs_len (nd_pw h.pw) fun t ht => ((h.mm t).mp ht).1
  omega
theorem inAll_perm {F G : List (List Ar)} (h : ∀ c, c ∈ F ↔ c ∈ G) (x : Ar) : inAll F x = inAll G x := by
  unfold inAll
  rw [Bool.eq_iff_iff, List.all_eq_true, List.all_eq_true]
  exact ⟨fun k c hc => k c ((h c).mpr hc), fun k c hc => k c ((h c).mp hc)⟩
/-- what is told is due -/
theorem due_eq {n : Nat} {ts : List Ar} {F G r : List (List Ar)} {F0 ds rs : List Ar} (hW : WOk n ts) (hP : ∀ c ∈ G, Pts ts c) (h : DueA F n n 0 ds) (e : G = F0 :: r) (hm : ∀ c, c ∈ F ↔ c ∈ G) (pw : rs.Pairwise ltT) (pm : rs.Perm (F0.filter (inAll G))) : rs = ds := by
  refine pw_eq pw h.pw fun t => ?_
  rw [pm.mem_iff, List.mem_filter, h.mm t, inAll_perm hm t]
  have m0 : F0 ∈ G := by rw [e]; exact List.mem_cons_self
  constructor
  · rintro ⟨h1, h2⟩
    have := pts_inRC hW (hP F0 m0) h1
    exact ⟨this, .inl this.2.1, h2⟩
  · rintro ⟨_, _, h3⟩
    exact ⟨of_decide_eq_true (List.all_eq_true.mp h3 F0 m0), h3⟩
theorem lf_set1 {H : Hp} {L : Addr} {c : Int} (h : Lf H L c) : ∃ x y z : Int, H L = some (.lst [.int x, .int y, .int z]) ∧ ∀ u : Int, Lf (upd H L (.lst [.int x, .int u, .int z])) L c := by
  obtain ⟨x, y, z, h1, h2, h3, h4⟩ := h
  exact ⟨x, y, z, h1, fun u => ⟨x, u, z, upd_same, h2, h3, h4⟩⟩
section
variable {P : Program} {w : World} {K : PySem.W.Frag} {mg : Str → Option Value} {base : Heap}
/-! ### law -/
abbrev s_law : Stmt := topS 16
abbrev N_law : List Str := ["_law_script", "_law_cells", "_law_k", "_law_left_here", "_law_web_here", "_law_some", "_law_turn", "_law_kept", "_law_due", "_law_a", "_law_b", "_law_pointing_here", "_law_handed", "_law_found"]
theorem sc_law : FnScope N_law ["_law_script"] (defScope s_law) := ⟨rfl, rfl, rfl, by decide +kernel, rfl, by decide +kernel, by decide +kernel⟩
def sp_law (K : PySem.W.Frag) (PT : Addr) : Sp := fun vs H Q _ => ∃ (a : Addr) (ns : List Int), vs = [.ref a] ∧ SqL K H a (ns.map V.int) ∧ ns.length ≤ 63 ∧ TabG H PT ∧ ∀ H', Q (.bl true) H'
theorem ok_law {f PT : Addr} {fd : FuncData} (B : Bts mg) (F : Fun K "law" "law" s_law f fd) (c__law_left : Cl P w K mg base 1 "_law_left" (sp_left K)) (c__law_pick : Cl P w K mg base 2 "_law_pick" sp_pick) (c__law_web : Cl P w K mg base 5 "_law_web" sp_web) (c__law_folded : Cl P w K mg base 1 "_law_folded" (sp_folded K))
    (c__law_pointing : Cl P w K mg base 4 "_law_pointing" sp_pt28) (c_common_to : Cl P w K mg base 2 "common_to" (sp_common PT)) (c__law_same : Cl P w K mg base 5 "_law_same" (sp_same 5)) : TopRun P w K mg base f fd "_law_script" (sp_law K PT) := by
  refine top_run (k := 29) F sc_law ⟨rfl, by decide, by decide⟩ fun cdv s H v Q E hr h => ?_
  obtain ⟨a, ns, e, hS, hl, tg, q⟩ := h
  cases e
  refine ⟨_, (pss_cons (ps_set (i := 1) sc_law.nd rfl (by first | exact Or.inl rfl | exact Or.inr rfl) (pe_c c__law_folded hr (by decide) (by rfl) (pa_cons (pv 0) (pa_cons pe_int pa_nil))))
    (pss_cons (ps_for PassesOwn.never rfl (pi_range1 (by rfl) B.range (pa_cons (pe_callB (call_max2 rfl) (by rfl) B.max (by decide +kernel) (pa_cons pe_int (pa_cons (pe_callB call_len_seq (by rfl) B.len (by decide +kernel) (pa_cons (pv 1) pa_nil)) pa_nil))) pa_nil)) (pg_name (i := 2) sc_law.nd rfl (by first | exact Or.inl rfl | exact Or.inr rfl))
      (pss_cons (ps_set (i := 3) sc_law.nd rfl (by first | exact Or.inl rfl | exact Or.inr rfl) (pe_c c__law_left hr (by decide) (by rfl) (pa_cons (pv 1) (pa_cons (pv 2) pa_nil))))
      (pss_cons (ps_asg (pe_op op_add (pe_ix ix_list (pv 3) pe_int (fun _ _ => rfl)) pe_int) (pg_sub (pv 3) pe_int set_list))
      (pss_cons (ps_set (i := 4) sc_law.nd rfl (by first | exact Or.inl rfl | exact Or.inr rfl) (pe_c c__law_web hr (by decide) (by rfl) (pa_cons (pv 3) (pa_cons pe_int pa_nil))))
      (pss_cons (ps_set (i := 5) sc_law.nd rfl (by first | exact Or.inl rfl | exact Or.inr rfl) (pe_lst pa_nil))
      (pss_cons (ps_for PassesOwn.never rfl (pi_range1 (by rfl) B.range (pa_cons (pe_op op_add pe_int (pe_c c__law_pick hr (by decide) (by rfl) (pa_cons (pv 3) (pa_cons pe_int pa_nil)))) pa_nil)) (pg_name (i := 6) sc_law.nd rfl (by first | exact Or.inl rfl | exact Or.inr rfl))
        (pss_one (ps_expr (pe_bm PySem.F.plainAttrs_list PySem.F.slot_list_append PySem.F.type_list_append mt_append (pv 5) (pa_cons (pe_c c__law_pointing hr (by decide) (by rfl) (pa_cons (pv 3) (pa_cons (pv 4) (pa_cons (pv 5) pa_nil)))) pa_nil)))))
      (pss_cons (ps_set (i := 7) sc_law.nd rfl (by first | exact Or.inl rfl | exact Or.inr rfl) (pe_callTy (call_strD rfl (u65 hr)) (by rfl) B.str (by decide +kernel) (pa_cons (pe_lst (pa_cons (pv 4) (pa_cons (pv 5) pa_nil))) pa_nil)))
      (pss_cons (ps_set (i := 8) sc_law.nd rfl (by first | exact Or.inl rfl | exact Or.inr rfl) (pe_lst pa_nil))
      (pss_cons (ps_for PassesOwn.never rfl (pi_range1 (by rfl) B.range (pa_cons (pe_ix ix_tup (pv 4) pe_int (fun _ _ => rfl)) pa_nil)) (pg_name (i := 9) sc_law.nd rfl (by first | exact Or.inl rfl | exact Or.inr rfl))
        (pss_one (ps_for PassesOwn.never rfl (pi_range1 (by rfl) B.range (pa_cons (pe_ix ix_tup (pv 4) pe_int (fun _ _ => rfl)) pa_nil)) (pg_name (i := 10) sc_law.nd rfl (by first | exact Or.inl rfl | exact Or.inr rfl))
          (pss_one (ps_if (pt_val (pe_callB (cr_all rfl) (by rfl) B.all (by decide +kernel) (pa_cons (pe_lc (own := [("_law_pointing_here", 11)]) (g := (gName 11)) (tt := tYes) (te := (tOp (rInDT K) _ _)) rfl sc_law.nd (pi_list (pv 5)) (blkOk_by (own := [("_law_pointing_here", 11)]) (N := N_law) (sc := defScope s_law) (by decide +kernel)) (fun _ _ _ _ _ => (pg_name (i := 11) sc_law.nd rfl (by first | exact Or.inl rfl | exact Or.inr rfl))) (fun _ _ _ _ _ => pts_nil) (fun _ _ _ _ _ => (pe_cmpR (op_inDT (u65 hr)) (pe_tup (pa_cons (pv 9) (pa_cons (pv 10) pa_nil))) (pv 11) (by rfl)))) pa_nil))) (pss_one (ps_expr (pe_bm PySem.F.plainAttrs_list PySem.F.slot_list_append PySem.F.type_list_append mt_append (pv 8) (pa_cons (pe_tup (pa_cons (pv 9) (pa_cons (pv 10) pa_nil))) pa_nil)))) pss_nil)))))
      (pss_cons (ps_for PassesOwn.never rfl (pi_tup (pe_tup (pa_cons (pv 5) (pa_cons (pe_lstRev rfl (by rfl) B.list (by rfl) B.reversed (pv 5)) (pa_cons (pv 5) pa_nil))))) (pg_name (i := 12) sc_law.nd rfl (by first | exact Or.inl rfl | exact Or.inr rfl))
        (pss_cons (ps_set (i := 13) sc_law.nd rfl (by first | exact Or.inl rfl | exact Or.inr rfl) (pe_c c_common_to hr (by decide) (by rfl) (pa_cons (pv 4) (pa_cons (pv 12) pa_nil))))
        (pss_cons (ps_if (pt_not (pt_val (pe_c c__law_same hr (by decide) (by rfl) (pa_cons (pv 13) (pa_cons (pv 8) pa_nil))))) (pss_one (ps_ret pe_bl)) pss_nil)
        (pss_one (ps_expr (pe_bm PySem.F.plainAttrs_list PySem.F.slot_list_append PySem.F.type_list_append mt_append (pv 13) (pa_cons (pe_tup (pa_cons pe_int (pa_cons pe_int pa_nil))) pa_nil)))))))
      (pss_one (ps_if (PW.pt (pw_or (pt_not (pt_val (pe_c c__law_same hr (by decide) (by rfl) (pa_cons (pe_c c_common_to hr (by decide) (by rfl) (pa_cons (pv 4) (pa_cons (pe_slice sl_list (pv 5) po_none (po_some pe_int)) pa_nil))) (pa_cons (pe_callB call_sortedTT (by rfl) B.sorted (by decide +kernel) (pa_cons (pe_ix ix_list (pv 5) pe_int (fun _ _ => rfl)) pa_nil)) pa_nil))))) (pw_or1 (pt_cmpR op_ne (pe_callTy (call_strD rfl (u65 hr)) (by rfl) B.str (by decide +kernel) (pa_cons (pe_lst (pa_cons (pv 4) (pa_cons (pv 5) pa_nil))) pa_nil)) (pv 7) (nomark _))))) (pss_one (ps_ret pe_bl)) pss_nil))))))))))))
    (pss_one (ps_ret pe_bl)))), ?_⟩
  refine ⟨_, rfl, a, ns, 6, rfl, hS, hl, by decide, by decide, fun C cs H0 nC sC eC clen => ?_⟩
  have tg0 := tab_same tg sC
  refine ⟨_, rfl, C, _, rfl, .inl (SqL.of eC), _, _, rfl, _, rfl, ?_, ?_, ?_⟩
  · rw [List.length_map]; split <;> omega
  · rw [List.length_map]; split <;> omega
  refine for_range (fun k σ H1 => ∃ y2 y3 y4 y5 y6 y7 y8 y9 y10 y11 y12 y13, σ = [some (.ref a), some (.ref C), y2, y3, y4, y5, y6, y7, y8, y9, y10, y11, y12, y13] ∧ St1 PT H0 H1) ⟨none, none, none, none, none, none, none, none, none, none, none, none, rfl, St1.refl tg0⟩ ?_ ?_
  · rintro k σ H1 hk ⟨y2, y3, y4, y5, y6, y7, y8, y9, y10, y11, y12, y13, rfl, S1⟩
    have hk' : k < 100 := by
      refine Nat.lt_of_lt_of_le hk ?_
      rw [List.length_map]; split <;> omega
    -- the draws
    refine ⟨_, rfl, _, rfl, C, cs, _, rfl, SqL.of (S1.lst tg0 eC), by omega, by omega, fun L H2 nL s2 lf2 => ?_⟩
    have n0L : H0 L = none := S1.free nL
    have S2 := S1.same s2
    obtain ⟨x, y, z, eL, setL⟩ := lf_set1 lf2
    refine ⟨_, rfl, L, _, _, _, rfl, rfl, SqL.of eL, rfl, _, _, rfl, rfl, ?_⟩
    refine ⟨_, rfl, L, _, _, _, rfl, rfl, eL, rfl, ?_⟩
    have S3 : St1 PT H0 (upd H2 L (.lst [.int x, .int (y + 200), .int z])) := S2.put n0L eL
    -- web
    refine ⟨_, rfl, L, 12, 0, rfl, setL (y + 200), by decide, by decide, fun v H4 n ts hn fr4 lf4 hWeb hW => ?_⟩
    have S4 : St1 PT H0 H4 := S3.frL (setL (y + 200)) n0L fr4
    have nn : n * n ≤ 144 := Nat.mul_le_mul hn hn
    have tl : ts.length ≤ 144 := Nat.le_trans (cs_len (nd_pw hW.1) fun t ht => inR_of hW ht) nn
    -- some
    refine ⟨Nat.zero_le _, fun S nS => ?_⟩
    have SL : S ≠ L := lf4.ne nS
    have n0S := S4.free nS
    have S5 : St1 PT H0 (upd H4 S (.lst [])) := S4.new nS
    have lf5 := lf4.new (o := .lst []) nS
    have hWeb5 := hWeb.mono (tst_new (o := .lst []) nS)
    have eS5 := upd_same (H := H4) (a := S) (o := .lst [])
    generalize upd H4 S (.lst []) = H5 at S5 lf5 hWeb5 eS5 ⊢
    refine ⟨_, rfl, L, 6, _, rfl, lf5, by decide, by decide, by decide, fun m H6 m0 m6 fr6 lf6 => ⟨_, _, rfl, rfl, _, rfl, by omega, by omega, ?_⟩⟩
    have S6 := S5.frL lf5 n0L fr6
    have hWeb6 := hWeb5.mono (lf5.tst fr6)
    have eS6 := fr6 _ _ SL eS5
    refine for_range (fun i σ H7 => ∃ y6 xs F, σ = [some (.ref a), some (.ref C), some (.int (0 + (k : Int))), some (.ref L), some v, some (.ref S), y6, y7, y8, y9, y10, y11, y12, y13] ∧ St1 PT H0 H7 ∧ Tst H6 H7 ∧ Lf H7 L (200001 + 1000 * (i : Int)) ∧ H7 S = some (.lst xs) ∧ All2 (TpV H7) xs F ∧ (∀ c ∈ F, Pts ts c) ∧ F.length = i) ⟨_, [], [], rfl, S6, Tst.refl _, lf6.mono (by omega), eS6, by exact trivial, fun c h => absurd h List.not_mem_nil, rfl⟩ ?_ ?_
    · rintro i σ H7 hi ⟨y6, xs, F, rfl, S7, t7, lf7, eS7, hA, hP, Fl⟩
      have xl := hA.len
      have hxs : ∀ x ∈ xs, PtW H7 x ts := fun x hx => by
        obtain ⟨j, hj⟩ := List.mem_iff_getElem?.mp hx
        obtain ⟨c, hc, q0, us, e1, e2, e3⟩ := hA.at hj
        exact ⟨q0, us, c, e1, e2, e3, hP c (List.mem_of_getElem? hc)⟩
      refine ⟨_, rfl, .inl ⟨rfl, _, SqL.of eS7⟩, _, rfl, _, rfl, _, rfl, L, S, v, _, n, ts, xs, rfl, lf7, by omega, hWeb6.mono t7, hW, hn, eS7, SL, by omega, hxs, fun p us ps H8 fr8 lf8 ep hT hPs => ⟨S, xs, .ref p, rfl, rfl, fr8 _ _ SL eS7, sz' (by omega), ?_⟩⟩
      have S8 := S7.frL lf7 n0L fr8
      have t8 := lf7.tst fr8
      have eS8 := fr8 _ _ SL eS7
      have tp := tst_put (o := .lst (xs ++ [.ref p])) eS8
      refine ⟨_, xs ++ [.ref p], F ++ [ps], rfl, S8.put n0S eS8, (t7.trans t8).trans tp, (lf8.put SL).mono (by omega), upd_same, ?_, fun c hc => ?_, by rw [List.length_append, Fl]; rfl⟩
      · exact (hA.imp fun _ _ h => (h.mono t8).mono tp).app ⟨⟨p, us, rfl, tp _ _ ep, hT.mono tp⟩, trivial⟩
      · rcases List.mem_append.mp hc with z | z
        · exact hP c z
        · rw [List.mem_singleton.mp z]; exact hPs
    rintro σ H7 ⟨y6, xs, F, rfl, S7, t7, lf7, eS7, hA, hP, Fl⟩
    have hWeb7 := hWeb6.mono t7
    have xl := hA.len
    have F6 : F.length ≤ 6 := by omega
    have Fp : 0 < F.length := by omega
    have cR : ∀ c ∈ F, c.length ≤ 144 ∧ ∀ x ∈ c, InR n x := fun c hc => ⟨by rw [pts_len (hP c hc)]; exact tl, fun x hx => pts_inRC hW (hP c hc) hx⟩
    obtain ⟨h1, h2, h3, h4⟩ := ws_show hW hn tl cR F6
    obtain ⟨pw, qw, uw, rfl, ew, eqw, hTw⟩ := id hWeb7
    have dpOf : ∀ {HA : Hp} {l : Addr}, Tst H7 HA → HA S = some (.lst xs) → HA l = none → Dp K (upd HA l (.lst [.ref pw, .ref S])) (.ref l) (dWS n ts F) := fun {HA l} tA eA nl => by
      have sl := same_new (o := .lst [.ref pw, .ref S]) nl
      have t' := tA.trans (Same.tst sl)
      exact .lst (SqL.of upd_same) (.cons (hWeb7.mono t').dp (.cons (.lst (SqL.of (sl _ _ eA)) (tps_dp (hA.imp fun _ _ h => h.mono t'))) .nil))
    refine ⟨_, rfl, _, rfl, by show 2 ≤ sizeLine; decide, fun l0 nl0 => ⟨l0, _, rfl, dpOf (Tst.refl _) eS7 nl0, h1, h2, h3, h4, ?_⟩⟩
    have s78 := same_new (o := .lst [.ref pw, .ref S]) nl0
    have S8 := S7.same s78
    generalize upd H7 l0 (.lst [.ref pw, .ref S]) = H8 at s78 S8 ⊢
    -- due
    refine ⟨Nat.zero_le _, fun Dd nD => ?_⟩
    have s89 := same_new (o := .lst []) nD
    have eD9 := upd_same (H := H8) (a := Dd) (o := .lst [])
    have s79 := s78.trans s89
    have S9 := S8.same s89
    have n7D : H7 Dd = none := same_free s78 nD
    generalize upd H8 Dd (.lst []) = H9 at s89 eD9 s79 S9 ⊢
    refine ⟨_, rfl, pw, _, 0, .int (n : Int), rfl, rfl, SqT.of (s79 _ _ ew), atI_nat (j := 0) rfl, _, rfl, by omega, by omega, ?_⟩
    refine for_range (fun i σ HX => ∃ y9 y10 y11 us ds, σ = [some (.ref a), some (.ref C), some (.int (0 + (k : Int))), some (.ref L), some (.ref pw), some (.ref S), y6, some (.str (dWS n ts F).shown), some (.ref Dd), y9, y10, y11, y12, y13] ∧ Same H7 HX ∧ HX Dd = some (.lst us) ∧ Ties HX us ds ∧ DueA F n i 0 ds) ⟨_, _, _, [], [], rfl, s79, eD9, by exact trivial, .nil⟩ ?_ ?_
    · rintro i σ HX hi ⟨y9, y10, y11, us, ds, rfl, sX, eD, hU, hD⟩
      have hi' : i < n := by omega
      refine ⟨_, rfl, pw, _, 0, .int (n : Int), rfl, rfl, SqT.of (sX _ _ ew), atI_nat (j := 0) rfl, _, rfl, by omega, by omega, ?_⟩
      refine for_range (fun j σ HY => ∃ y10 y11 us ds, σ = [some (.ref a), some (.ref C), some (.int (0 + (k : Int))), some (.ref L), some (.ref pw), some (.ref S), y6, some (.str (dWS n ts F).shown), some (.ref Dd), some (.int (0 + (i : Int))), y10, y11, y12, y13] ∧ Same H7 HY ∧ HY Dd = some (.lst us) ∧ Ties HY us ds ∧ DueA F n i j ds) ⟨_, _, us, ds, rfl, sX, eD, hU, hD⟩ ?_ ?_
      · rintro j σ HY hj ⟨y10, y11, us, ds, rfl, sY, eD, hU, hD⟩
        have hj' : j < n := by omega
        refine ⟨_, rfl, S, rfl, ⟨_, SqL.of (sY _ _ eS7)⟩, fun M nM => ?_⟩
        refine wk (walk_list (K := K) (a := S) (xs := xs)) (fun e HZ => Same HY HZ ∧ HZ M = some (.lst (((F.take e).map fun c => decide (((i : Int), (j : Int)) ∈ c)).map V.bl))) ⟨same_new nM, upd_same⟩ ?_ ?_ ?_
        · rintro e HZ _ ⟨sZ, _⟩
          exact SqL.of ((sY.trans sZ) _ _ eS7)
        · rintro e xx HZ HW he ⟨sZ, eM⟩ ⟨rfl, hx⟩
          obtain ⟨c, hc, q0, u0, rfl, e0, hT0⟩ := hA.at hx
          have s7Z := sY.trans sZ
          refine ⟨rfl, yes ?_⟩
          refine ⟨_, rfl, _, rfl, by show 2 ≤ sizeLine; decide, fun kk nk => ?_⟩
          have sk := same_new (o := .tup [.int (0 + (i : Int)), .int (0 + (j : Int))]) nk
          have s7k := s7Z.trans sk
          have tk : Tie (upd HW kk (.tup [.int (0 + (i : Int)), .int (0 + (j : Int))])) (.ref kk) ((i : Int), (j : Int)) := ⟨kk, rfl, by rw [upd_same, Int.zero_add, Int.zero_add]⟩
          refine ⟨_, rfl, dT ((i : Int), (j : Int)), c.map dT, tk.dp, .tup (SqT.of (s7k _ _ e0)) (hT0.mono (Same.tst s7k)).dp, shaped_dT _, shaped_tup _, ?_⟩
          rw [any_dT]
          have tlen := List.length_take_le' e F
          refine ⟨_, sk _ _ eM, sz' (by rw [List.length_map, List.length_map]; omega), Same.put (sZ.trans sk) nM, ?_⟩
          rw [upd_same, List.take_add_one, hc, List.map_append, List.map_append]; rfl
        rintro HZ ⟨sZ, eM⟩
        rw [xl, List.take_length] at eM
        refine ⟨M, _, rfl, SqL.of eM, ?_⟩
        have eall : ((F.map fun c => decide (((i : Int), (j : Int)) ∈ c)).all id) = inAll F ((i : Int), (j : Int)) := by rw [List.all_map]; rfl
        rw [eall]
        have s7Z := sY.trans sZ
        have eDZ := sZ _ _ eD
        have hUZ := hU.mono (Same.tst sZ)
        have ul := hU.len
        have dl := hD.len hn
        refine ⟨_, rfl, ite2 (fun e => ?_) (fun e => ?_)⟩
        · refine ⟨_, rfl, .inl ⟨rfl, _, SqL.of eDZ⟩, _, rfl, _, rfl, by show 2 ≤ sizeLine; decide, fun kk nk => ?_⟩
          have sk := same_new (o := .tup [.int (0 + (i : Int)), .int (0 + (j : Int))]) nk
          have eDk := sk _ _ eDZ
          have tk : Tie (upd HZ kk (.tup [.int (0 + (i : Int)), .int (0 + (j : Int))])) (.ref kk) ((i : Int), (j : Int)) := ⟨kk, rfl, by rw [upd_same, Int.zero_add, Int.zero_add]⟩
          refine ⟨Dd, us, .ref kk, rfl, rfl, eDk, sz' (by omega), _, _, us ++ [.ref kk], ds ++ [((i : Int), (j : Int))], rfl, Same.put (s7Z.trans sk) n7D, upd_same, ?_, hD.yes ?_ e⟩
          · exact ((hUZ.mono (Same.tst sk)).app (Ties.one tk)).mono (tst_put eDk)
          · exact ⟨by omega, by show ((i : Nat) : Int) < n; omega, by show (0 : Int) ≤ ((j : Nat) : Int); omega, by show ((j : Nat) : Int) < n; omega⟩
        · exact ⟨_, _, us, ds, rfl, s7Z, eDZ, hUZ, hD.no (Bool.eq_false_iff.mpr e)⟩
      · rintro σ HY ⟨y10, y11, us, ds, rfl, sY, eD, hU, hD⟩
        rw [Int.toNat_natCast] at hD
        exact ⟨_, _, _, us, ds, rfl, sY, eD, hU, hD.row⟩
    rintro σ HX ⟨y9, y10, y11, us, ds, rfl, sX, eD, hU, hD⟩
    rw [Int.toNat_natCast] at hD
    have dl := hD.len hn
    have eSX := sX _ _ eS7
    have SX := S7.same sX
    have nr : ∀ c ∈ F, c.Nodup := fun c hc => pts_ndC hW (hP c hc)
    -- the three that are handed
    refine ⟨_, rfl, _, rfl, S, xs, rfl, SqL.of eSX, fun R nR => ⟨_, rfl, by show 3 ≤ sizeLine; decide, fun T nT => ⟨T, rfl, ⟨_, SqT.of upd_same⟩, ?_⟩⟩⟩
    have sR := same_new (o := .lst xs.reverse) nR
    have eR := upd_same (H := HX) (a := R) (o := .lst xs.reverse)
    have sT := same_new (o := .tup [.ref S, .ref R, .ref S]) nT
    have eT := upd_same (H := upd HX R (.lst xs.reverse)) (a := T) (o := .tup [.ref S, .ref R, .ref S])
    replace eR := sT _ _ eR
    have sXT := sR.trans sT
    have s7T := sX.trans sXT
    generalize upd (upd HX R (.lst xs.reverse)) T (.tup [.ref S, .ref R, .ref S]) = HT at eR eT sXT s7T ⊢
    have ST := S7.same s7T
    have eDT := sXT _ _ eD
    have hUT := hU.mono (Same.tst sXT)
    have eST := s7T _ _ eS7
    have hAT : All2 (TpV HT) xs F := hA.imp fun _ _ h => h.mono (Same.tst s7T)
    refine for_tup (K := K) (a := T) (xs := [.ref S, .ref R, .ref S]) (fun i σ HY => ∃ y12 y13, σ = [some (.ref a), some (.ref C), some (.int (0 + (k : Int))), some (.ref L), some (.ref pw), some (.ref S), y6, some (.str (dWS n ts F).shown), some (.ref Dd), y9, y10, y11, y12, y13] ∧ St1 PT HT HY) ⟨_, _, rfl, St1.refl ST.tg⟩ ?_ ?_ ?_
    · rintro i σ HY _ ⟨_, _, _, SY⟩
      exact SqT.of (SY.tst ST.tg _ _ eT)
    · rintro i xx σ HY hx ⟨y12, y13, rfl, SY⟩
      have tY := SY.tst ST.tg
      obtain ⟨Sx, ys, G, rfl, eSx, hG, hm, Gl⟩ : ∃ (Sx : Addr) (ys : List V) (G : List (List Ar)), xx = .ref Sx ∧ HY Sx = some (.lst ys) ∧ All2 (TpV HY) ys G ∧ (∀ c, c ∈ F ↔ c ∈ G) ∧ G.length = F.length := by
        have mx := List.mem_of_getElem? hx
        have hF : All2 (TpV HY) xs F := hAT.imp fun _ _ h => h.mono tY
        simp only [List.mem_cons, List.not_mem_nil, or_false] at mx
        rcases mx with rfl | rfl | rfl
        · exact ⟨S, xs, F, rfl, SY.lst ST.tg eST, hF, fun c => Iff.rfl, rfl⟩
        · exact ⟨R, xs.reverse, F.reverse, rfl, SY.lst ST.tg eR, all2_rev hF, fun c => List.mem_reverse.symm, List.length_reverse⟩
        · exact ⟨S, xs, F, rfl, SY.lst ST.tg eST, hF, fun c => Iff.rfl, rfl⟩
      obtain ⟨G0, r, eG⟩ : ∃ G0 r, G = G0 :: r := by
        cases G with
        | nil => rw [← Gl] at Fp; exact absurd Fp (Nat.lt_irrefl _)
        | cons g r => exact ⟨g, r, rfl⟩
      have g0 : G0 ∈ G := by rw [eG]; exact List.mem_cons_self
      refine ⟨_, rfl, _, rfl, .ref pw, Sx, ys, G, G0, r, rfl, eSx, hG, eG, nr _ ((hm _).mpr g0), fun c hc => by have := (cR c ((hm c).mpr hc)).1; omega, SY.tg, fun Tf zs rs H' nTf fr' tg' eTf hTf pw' pm' => ?_⟩
      have ers := due_eq hW (fun c hc => hP c ((hm c).mpr hc)) hD eG hm pw' pm'
      subst ers
      have SF := SY.tab fr' tg'
      have tF := SF.tst ST.tg
      refine ⟨_, rfl, _, rfl, .ref Tf, .ref Dd, rfl, (lst_eqd eTf (SF.lst ST.tg eDT) hTf (hUT.mono tF) (by omega)).up2, fun HZ sZ => ⟨true, rfl, iteF ?_⟩⟩
      have SZ := SF.same sZ
      have eTZ := sZ _ _ eTf
      have zl := hTf.len
      refine ⟨_, rfl, .inl ⟨rfl, _, SqL.of eTZ⟩, by show 2 ≤ sizeLine; decide, fun kk nk => ⟨Tf, zs, .ref kk, rfl, rfl, (same_new nk) _ _ eTZ, sz' (by omega), ?_⟩⟩
      exact ⟨_, _, rfl, (SZ.new nk).put (SY.free nTf) ((same_new nk) _ _ eTZ)⟩
    · rintro σ HY ⟨y12, y13, rfl, SY⟩
      have tY := SY.tst ST.tg
      have eSY := SY.lst ST.tg eST
      have hF : All2 (TpV HY) xs F := hAT.imp fun _ _ h => h.mono tY
      obtain ⟨F0, r, rfl⟩ : ∃ G0 r, F = G0 :: r := by
        cases F with
        | nil => exact absurd Fp (Nat.lt_irrefl _)
        | cons g r => exact ⟨g, r, rfl⟩
      obtain ⟨x0, xs', rfl, q0, u0, rfl, e0, hT0⟩ : ∃ x0 xs', xs = x0 :: xs' ∧ TpV HY x0 F0 := by
        match xs, hF with
        | x0 :: xs', hF => exact ⟨x0, xs', rfl, hF.1⟩
      have m0 : F0 ∈ F0 :: r := List.mem_cons_self
      refine ⟨_, rfl, _, rfl, _, rfl, S, _, rfl, SqL.of eSY, fun Z nZ => ?_⟩
      rw [show cutV (.ref q0 :: xs') none (some 1) = [.ref q0] from cutTo (.ref q0 :: xs') 1]
      have sZ := same_new (o := .lst [.ref q0]) nZ
      have eZ := upd_same (H := HY) (a := Z) (o := .lst [.ref q0])
      generalize upd HY Z (.lst [.ref q0]) = H10 at sZ eZ ⊢
      have S10 := SY.same sZ
      have e010 := sZ _ _ e0
      have hT10 := hT0.mono (Same.tst sZ)
      refine ⟨.ref pw, Z, _, [F0], F0, [], rfl, eZ, ⟨⟨q0, u0, rfl, e010, hT10⟩, trivial⟩, rfl, nr _ m0, fun c hc => by have := (cR c (by rw [List.mem_singleton.mp hc]; exact m0)).1; omega, S10.tg, fun Tf zs rs H11 nTf fr' tg' eTf hTf pw' pm' => ?_⟩
      have t11 := frm_tst fr' S10.tg
      have S11 := S10.tab fr' tg'
      have eS11 := frm_lst fr' S10.tg (sZ _ _ eSY)
      refine ⟨_, rfl, S, _, 0, .ref q0, rfl, rfl, SqL.of eS11, atI_nat (j := 0) rfl, q0, u0, F0, rfl, SqT.of (t11 _ _ e010), hT10.mono t11, fun ys pp ts' hy pm pws np => ?_⟩
      have spp := same_new (o := .lst ys) np
      have e1 : rs = ts' := by
        refine pw_eq pw' (pw_lt pws (pm.nodup_iff.mpr (nr _ m0))) fun t => ?_
        rw [pm'.mem_iff, pm.mem_iff, List.mem_filter]
        refine ⟨fun h => h.1, fun h => ⟨h, ?_⟩⟩
        unfold inAll
        rw [List.all_cons, List.all_nil, decide_eq_true h]; rfl
      subst e1
      have rl := pm.length_eq
      have c0 := (cR F0 m0).1
      refine ⟨.ref Tf, .ref pp, rfl, (lst_eqd (spp _ _ eTf) upd_same (hTf.mono (Same.tst spp)) (hy.mono (Same.tst spp)) (by omega)).up2, fun H12 s12 => ⟨true, rfl, iteF ?_⟩⟩
      have S12 := S11.same (spp.trans s12)
      have S712 : St1 PT H7 H12 := ⟨(FrM.same s7T).trans S12.fr, S12.tg⟩
      refine ⟨_, rfl, _, rfl, by show 2 ≤ sizeLine; decide, fun l1 nl1 => ⟨l1, _, rfl, dpOf (S712.tst S7.tg) (S712.lst S7.tg eS7) nl1, h1, h2, h3, h4, _, rfl, rfl, _, rfl, ?_⟩⟩
      rw [decide_eq_true rfl]
      exact iteF ⟨_, _, _, _, _, _, _, _, _, _, _, _, rfl, ST.trans (S12.new nl1)⟩
  · rintro σ H1 ⟨y2, y3, y4, y5, y6, y7, y8, y9, y10, y11, y12, y13, rfl, S1⟩
    exact q _
end
end My

set_option Elab.async false
set_option linter.all false
set_option maxRecDepth 100000
set_option maxHeartbeats 8000000
namespace My
open PySem PySem.Spec PyProof.Rows L2 GxR
/-! ### the head -/
def d_common_to : He.DefD := ⟨("common_to", none), "common_to", "common_to", defArgs s_common_to, defBody s_common_to, defScope s_common_to, [], []⟩
def d__law_mix : He.DefD := ⟨("_law_mix", none), "_law_mix", "_law_mix", defArgs s__law_mix, defBody s__law_mix, defScope s__law_mix, [], []⟩
def d__law_left : He.DefD := ⟨("_law_left", none), "_law_left", "_law_left", defArgs s__law_left, defBody s__law_left, defScope s__law_left, [], []⟩
def d__law_pick : He.DefD := ⟨("_law_pick", none), "_law_pick", "_law_pick", defArgs s__law_pick, defBody s__law_pick, defScope s__law_pick, [], []⟩
def d__law_folded : He.DefD := ⟨("_law_folded", none), "_law_folded", "_law_folded", defArgs s__law_folded, defBody s__law_folded, defScope s__law_folded, [], []⟩
def d__law_pairs : He.DefD := ⟨("_law_pairs", none), "_law_pairs", "_law_pairs", defArgs s__law_pairs, defBody s__law_pairs, defScope s__law_pairs, [], []⟩
def d__law_any_web : He.DefD := ⟨("_law_any_web", none), "_law_any_web", "_law_any_web", defArgs s__law_any_web, defBody s__law_any_web, defScope s__law_any_web, [], []⟩
def d__law_row : He.DefD := ⟨("_law_row", none), "_law_row", "_law_row", defArgs s__law_row, defBody s__law_row, defScope s__law_row, [], []⟩
def d__law_row_web : He.DefD := ⟨("_law_row_web", none), "_law_row_web", "_law_row_web", defArgs s__law_row_web, defBody s__law_row_web, defScope s__law_row_web, [], []⟩
def d__law_ring_web : He.DefD := ⟨("_law_ring_web", none), "_law_ring_web", "_law_ring_web", defArgs s__law_ring_web, defBody s__law_ring_web, defScope s__law_ring_web, [], []⟩
def d__law_put_together : He.DefD := ⟨("_law_put_together", none), "_law_put_together", "_law_put_together", defArgs s__law_put_together, defBody s__law_put_together, defScope s__law_put_together, [], []⟩
def d__law_web : He.DefD := ⟨("_law_web", none), "_law_web", "_law_web", defArgs s__law_web, defBody s__law_web, defScope s__law_web, [], []⟩
def d__law_same : He.DefD := ⟨("_law_same", none), "_law_same", "_law_same", defArgs s__law_same, defBody s__law_same, defScope s__law_same, [], []⟩
def d__law_pointing : He.DefD := ⟨("_law_pointing", none), "_law_pointing", "_law_pointing", defArgs s__law_pointing, defBody s__law_pointing, defScope s__law_pointing, [], []⟩
def d_law : He.DefD := ⟨("law", none), "law", "law", defArgs s_law, defBody s_law, defScope s_law, [], []⟩
def fns : List He.DefD := [d_common_to, d__law_mix, d__law_left, d__law_pick, d__law_folded, d__law_pairs, d__law_any_web, d__law_row, d__law_row_web, d__law_ring_web, d__law_put_together, d__law_web, d__law_same, d__law_pointing, d_law]
def fas : List He.Fa := [.glo "common_to", .glo "_law_mix", .glo "_law_left", .glo "_law_pick", .glo "_law_folded", .glo "_law_pairs", .glo "_law_any_web", .glo "_law_row", .glo "_law_row_web", .glo "_law_ring_web", .glo "_law_put_together", .glo "_law_web", .glo "_law_same", .glo "_law_pointing", .glo "law", .free "len", .free "range", .free "tuple", .free "list", .free "int", .free "abs", .free "min", .free "sorted", .free "set", .free "all", .free "any", .free "enumerate", .free "zip", .free "isinstance", .free "bool", .free "str", .free "dict", .free "max", .free "reversed", .free "sum"]
def tfs : List He.Defn := [("common_to", none)]
abbrev Rw : PySem.W.OpenRow := PySem.W.OpenLaw.row PySem.Challenge.rw_pointedties_k28_common_to
def exf (K : PySem.W.Frag) : Bool := true
abbrev hk : PySem.W.Hook := He.hookX 4 fas fns [] tfs exf
def ob (s : PySem.W.SharedT) : He.AlX := He.obsX 4 fas fns [] tfs exf (HandSHeadRun.getT s)
theorem ob_eq (s : PySem.W.SharedT) : ob s = hk.obs s.abs := He.obsX_eq (HandSHeadRun.getT_eq s)
abbrev others : List Str := [("common_to" : Str), ("_law_mix" : Str), ("_law_left" : Str), ("_law_pick" : Str), ("_law_folded" : Str), ("_law_pairs" : Str), ("_law_any_web" : Str), ("_law_row" : Str), ("_law_row_web" : Str), ("_law_ring_web" : Str), ("_law_put_together" : Str), ("_law_web" : Str), ("_law_same" : Str), ("_law_pointing" : Str)]
theorem run (w : World) : HandSHeadRun.RunEq Rw (PySem.W.view Rw.prog [16]) hk ob 4000 others w := by
  intro os; kernel_rfl

theorem code_of {K : PySem.W.Frag} {x q : Str} {st : Stmt} {p : He.Defn} {fd : FuncData} (F : Fun K x q st (He.fAd K p) fd) : fd.code = .ref (He.codeOf K p) := by
  obtain ⟨oc, od, kV, doc, pm, an, cdv, ct, osl, rfl, lk, hcd⟩ := F.ex
  cases cdv with
  | ref c => rw [He.codeOf_eq lk rfl]
  | _ => cases hcd
theorem law_ok {P : Program} {w : World} {K : PySem.W.Frag} {h : Heap} {mg : Str → Option Value} {f : Addr} (X : K.In h) (G : h.Ns mainGlobals mg) (hfa : mg ("law" : Str) = some (.ref f)) (c : He.SaysX fas fns [] tfs exf w h K) :
    ∃ fd : FuncData, (∀ (s : Shared) (v : Value), BindsTo s fd ⟨[v], []⟩ [("_law_script", v)]) ∧ ∀ base : Heap, K.In base → base.Ns mainGlobals mg → (∀ p ∈ tfs.map (He.cT K), LamX.TabB base mg p.1 p.2) →
      TopRun P w K mg base f fd "_law_script" (sp_law K (He.cT K ("common_to", none)).2) := by
    have cd := c.t.d
    obtain ⟨fd_common_to, F_common_to⟩ := cd.def_ 0 (d := d_common_to) rfl
    have b_common_to : Binds K fd_common_to ["web", "ways"] [] := F_common_to.bindsN fun _ _ _ _ _ _ us hl => match us, hl with | [_, _], _ => rfl
    have g_common_to : mg "common_to" = some (.ref (He.ga K "common_to")) := He.glo_ok X G (cd.fact 0 (f := .glo "common_to") rfl)
    have U_common_to : Fun K "common_to" "common_to" s_common_to (He.ga K "common_to") fd_common_to := fun_of F_common_to
    obtain ⟨fd__law_mix, F__law_mix⟩ := cd.def_ 1 (d := d__law_mix) rfl
    have b__law_mix : Binds K fd__law_mix ["_law_cell", "_law_k"] [] := F__law_mix.bindsN fun _ _ _ _ _ _ us hl => match us, hl with | [_, _], _ => rfl
    have g__law_mix : mg "_law_mix" = some (.ref (He.ga K "_law_mix")) := He.glo_ok X G (cd.fact 1 (f := .glo "_law_mix") rfl)
    have U__law_mix : Fun K "_law_mix" "_law_mix" s__law_mix (He.ga K "_law_mix") fd__law_mix := fun_of F__law_mix
    obtain ⟨fd__law_left, F__law_left⟩ := cd.def_ 2 (d := d__law_left) rfl
    have b__law_left : Binds K fd__law_left ["_law_script", "_law_k"] [] := F__law_left.bindsN fun _ _ _ _ _ _ us hl => match us, hl with | [_, _], _ => rfl
    have g__law_left : mg "_law_left" = some (.ref (He.ga K "_law_left")) := He.glo_ok X G (cd.fact 2 (f := .glo "_law_left") rfl)
    have U__law_left : Fun K "_law_left" "_law_left" s__law_left (He.ga K "_law_left") fd__law_left := fun_of F__law_left
    obtain ⟨fd__law_pick, F__law_pick⟩ := cd.def_ 3 (d := d__law_pick) rfl
    have b__law_pick : Binds K fd__law_pick ["_law_left_here", "_law_many"] [] := F__law_pick.bindsN fun _ _ _ _ _ _ us hl => match us, hl with | [_, _], _ => rfl
    have g__law_pick : mg "_law_pick" = some (.ref (He.ga K "_law_pick")) := He.glo_ok X G (cd.fact 3 (f := .glo "_law_pick") rfl)
    have U__law_pick : Fun K "_law_pick" "_law_pick" s__law_pick (He.ga K "_law_pick") fd__law_pick := fun_of F__law_pick
    obtain ⟨fd__law_folded, F__law_folded⟩ := cd.def_ 4 (d := d__law_folded) rfl
    have b__law_folded : Binds K fd__law_folded ["_law_script", "_law_many"] [] := F__law_folded.bindsN fun _ _ _ _ _ _ us hl => match us, hl with | [_, _], _ => rfl
    have g__law_folded : mg "_law_folded" = some (.ref (He.ga K "_law_folded")) := He.glo_ok X G (cd.fact 4 (f := .glo "_law_folded") rfl)
    have U__law_folded : Fun K "_law_folded" "_law_folded" s__law_folded (He.ga K "_law_folded") fd__law_folded := fun_of F__law_folded
    obtain ⟨fd__law_pairs, F__law_pairs⟩ := cd.def_ 5 (d := d__law_pairs) rfl
    have b__law_pairs : Binds K fd__law_pairs ["_law_many"] [] := F__law_pairs.bindsN fun _ _ _ _ _ _ us hl => match us, hl with | [_], _ => rfl
    have g__law_pairs : mg "_law_pairs" = some (.ref (He.ga K "_law_pairs")) := He.glo_ok X G (cd.fact 5 (f := .glo "_law_pairs") rfl)
    have U__law_pairs : Fun K "_law_pairs" "_law_pairs" s__law_pairs (He.ga K "_law_pairs") fd__law_pairs := fun_of F__law_pairs
    obtain ⟨fd__law_any_web, F__law_any_web⟩ := cd.def_ 6 (d := d__law_any_web) rfl
    have b__law_any_web : Binds K fd__law_any_web ["_law_left_here", "_law_many"] [] := F__law_any_web.bindsN fun _ _ _ _ _ _ us hl => match us, hl with | [_, _], _ => rfl
    have g__law_any_web : mg "_law_any_web" = some (.ref (He.ga K "_law_any_web")) := He.glo_ok X G (cd.fact 6 (f := .glo "_law_any_web") rfl)
    have U__law_any_web : Fun K "_law_any_web" "_law_any_web" s__law_any_web (He.ga K "_law_any_web") fd__law_any_web := fun_of F__law_any_web
    obtain ⟨fd__law_row, F__law_row⟩ := cd.def_ 7 (d := d__law_row) rfl
    have b__law_row : Binds K fd__law_row ["_law_left_here", "_law_many"] [] := F__law_row.bindsN fun _ _ _ _ _ _ us hl => match us, hl with | [_, _], _ => rfl
    have g__law_row : mg "_law_row" = some (.ref (He.ga K "_law_row")) := He.glo_ok X G (cd.fact 7 (f := .glo "_law_row") rfl)
    have U__law_row : Fun K "_law_row" "_law_row" s__law_row (He.ga K "_law_row") fd__law_row := fun_of F__law_row
    obtain ⟨fd__law_row_web, F__law_row_web⟩ := cd.def_ 8 (d := d__law_row_web) rfl
    have b__law_row_web : Binds K fd__law_row_web ["_law_left_here", "_law_many"] [] := F__law_row_web.bindsN fun _ _ _ _ _ _ us hl => match us, hl with | [_, _], _ => rfl
    have g__law_row_web : mg "_law_row_web" = some (.ref (He.ga K "_law_row_web")) := He.glo_ok X G (cd.fact 8 (f := .glo "_law_row_web") rfl)
    have U__law_row_web : Fun K "_law_row_web" "_law_row_web" s__law_row_web (He.ga K "_law_row_web") fd__law_row_web := fun_of F__law_row_web
    obtain ⟨fd__law_ring_web, F__law_ring_web⟩ := cd.def_ 9 (d := d__law_ring_web) rfl
    have b__law_ring_web : Binds K fd__law_ring_web ["_law_left_here", "_law_many"] [] := F__law_ring_web.bindsN fun _ _ _ _ _ _ us hl => match us, hl with | [_, _], _ => rfl
    have g__law_ring_web : mg "_law_ring_web" = some (.ref (He.ga K "_law_ring_web")) := He.glo_ok X G (cd.fact 9 (f := .glo "_law_ring_web") rfl)
    have U__law_ring_web : Fun K "_law_ring_web" "_law_ring_web" s__law_ring_web (He.ga K "_law_ring_web") fd__law_ring_web := fun_of F__law_ring_web
    obtain ⟨fd__law_put_together, F__law_put_together⟩ := cd.def_ 10 (d := d__law_put_together) rfl
    have b__law_put_together : Binds K fd__law_put_together ["_law_left_here", "_law_many"] [] := F__law_put_together.bindsN fun _ _ _ _ _ _ us hl => match us, hl with | [_, _], _ => rfl
    have g__law_put_together : mg "_law_put_together" = some (.ref (He.ga K "_law_put_together")) := He.glo_ok X G (cd.fact 10 (f := .glo "_law_put_together") rfl)
    have U__law_put_together : Fun K "_law_put_together" "_law_put_together" s__law_put_together (He.ga K "_law_put_together") fd__law_put_together := fun_of F__law_put_together
    obtain ⟨fd__law_web, F__law_web⟩ := cd.def_ 11 (d := d__law_web) rfl
    have b__law_web : Binds K fd__law_web ["_law_left_here", "_law_most"] [] := F__law_web.bindsN fun _ _ _ _ _ _ us hl => match us, hl with | [_, _], _ => rfl
    have g__law_web : mg "_law_web" = some (.ref (He.ga K "_law_web")) := He.glo_ok X G (cd.fact 11 (f := .glo "_law_web") rfl)
    have U__law_web : Fun K "_law_web" "_law_web" s__law_web (He.ga K "_law_web") fd__law_web := fun_of F__law_web
    obtain ⟨fd__law_same, F__law_same⟩ := cd.def_ 12 (d := d__law_same) rfl
    have b__law_same : Binds K fd__law_same ["_law_found", "_law_due"] [] := F__law_same.bindsN fun _ _ _ _ _ _ us hl => match us, hl with | [_, _], _ => rfl
    have g__law_same : mg "_law_same" = some (.ref (He.ga K "_law_same")) := He.glo_ok X G (cd.fact 12 (f := .glo "_law_same") rfl)
    have U__law_same : Fun K "_law_same" "_law_same" s__law_same (He.ga K "_law_same") fd__law_same := fun_of F__law_same
    obtain ⟨fd__law_pointing, F__law_pointing⟩ := cd.def_ 13 (d := d__law_pointing) rfl
    have b__law_pointing : Binds K fd__law_pointing ["_law_left_here", "_law_web_here", "_law_some"] [] := F__law_pointing.bindsN fun _ _ _ _ _ _ us hl => match us, hl with | [_, _, _], _ => rfl
    have g__law_pointing : mg "_law_pointing" = some (.ref (He.ga K "_law_pointing")) := He.glo_ok X G (cd.fact 13 (f := .glo "_law_pointing") rfl)
    have U__law_pointing : Fun K "_law_pointing" "_law_pointing" s__law_pointing (He.ga K "_law_pointing") fd__law_pointing := fun_of F__law_pointing
    obtain ⟨fd_law, F_law⟩ := cd.def_ 14 (d := d_law) rfl
    have b_law : Binds K fd_law ["_law_script"] [] := F_law.bindsN fun _ _ _ _ _ _ us hl => match us, hl with | [_], _ => rfl
    have g_law : mg "law" = some (.ref (He.ga K "law")) := He.glo_ok X G (cd.fact 14 (f := .glo "law") rfl)
    have bA_law := FunD.bindsA (ps := ["_law_script"]) F_law fun _ _ _ _ _ _ us hl => match us, hl with | [_], _ => rfl
    have U_law : Fun K "law" "law" s_law (He.ga K "law") fd_law := fun_of F_law
    have B : Bts mg := ⟨He.free_ok X G (cd.fact 15 (f := .free "len") rfl), He.free_ok X G (cd.fact 16 (f := .free "range") rfl), He.free_ok X G (cd.fact 17 (f := .free "tuple") rfl), He.free_ok X G (cd.fact 18 (f := .free "list") rfl), He.free_ok X G (cd.fact 19 (f := .free "int") rfl), He.free_ok X G (cd.fact 20 (f := .free "abs") rfl), He.free_ok X G (cd.fact 21 (f := .free "min") rfl), He.free_ok X G (cd.fact 22 (f := .free "sorted") rfl), He.free_ok X G (cd.fact 23 (f := .free "set") rfl), He.free_ok X G (cd.fact 24 (f := .free "all") rfl), He.free_ok X G (cd.fact 25 (f := .free "any") rfl), He.free_ok X G (cd.fact 26 (f := .free "enumerate") rfl), He.free_ok X G (cd.fact 27 (f := .free "zip") rfl), He.free_ok X G (cd.fact 28 (f := .free "isinstance") rfl), He.free_ok X G (cd.fact 29 (f := .free "bool") rfl), He.free_ok X G (cd.fact 30 (f := .free "str") rfl), He.free_ok X G (cd.fact 31 (f := .free "dict") rfl), He.free_ok X G (cd.fact 32 (f := .free "max") rfl), He.free_ok X G (cd.fact 33 (f := .free "reversed") rfl), He.free_ok X G (cd.fact 34 (f := .free "sum") rfl)⟩

    have e := hfa.symm.trans g_law
    cases e
    refine ⟨fd_law, fun s v => bA_law s [v] rfl, fun base _ _ hT => ?_⟩
    have T_common_to : GxR.TabB base mg (He.cT K ("common_to", none)).1 (He.cT K ("common_to", none)).2 := (fun t => ⟨t.code, t.bm, t.gP⟩) (hT _ (List.mem_map.mpr ⟨("common_to", none), by simp [tfs], rfl⟩))
    have h_common_to : fd_common_to.code = .ref (He.cT K ("common_to", none)).1 := code_of U_common_to
    have k_same : Cl P w K mg base 5 "_law_same" (sp_same 5) := Cl.mk' U__law_same g__law_same b__law_same (ok_same B U__law_same g__law_same b__law_same 5)
    have k_mix : Cl P w K mg base 1 "_law_mix" sp_mix := Cl.mk' U__law_mix g__law_mix b__law_mix (ok_mix U__law_mix)
    have k_left : Cl P w K mg base 1 "_law_left" (sp_left K) := Cl.mk' U__law_left g__law_left b__law_left (ok_left B U__law_left)
    have k_pick : Cl P w K mg base 2 "_law_pick" sp_pick := Cl.mk' U__law_pick g__law_pick b__law_pick (ok_pick U__law_pick k_mix)
    have k_pairs : Cl P w K mg base 1 "_law_pairs" sp_pairs := Cl.mk' U__law_pairs g__law_pairs b__law_pairs (ok_pairs B U__law_pairs)
    have k_row : Cl P w K mg base 3 "_law_row" sp_row := Cl.mk' U__law_row g__law_row b__law_row (ok_row B U__law_row k_pick)
    have k_any : Cl P w K mg base 3 "_law_any_web" sp_gen := Cl.mk' U__law_any_web g__law_any_web b__law_any_web (ok_any_web B U__law_any_web k_pick k_pairs)
    have k_rw : Cl P w K mg base 4 "_law_row_web" sp_gen := Cl.mk' U__law_row_web g__law_row_web b__law_row_web (ok_row_web B U__law_row_web k_pick k_row)
    have k_ring : Cl P w K mg base 4 "_law_ring_web" sp_gen := Cl.mk' U__law_ring_web g__law_ring_web b__law_ring_web (ok_ring_web B U__law_ring_web k_pick k_row k_pairs)
    have k_put : Cl P w K mg base 4 "_law_put_together" sp_gen := Cl.mk' U__law_put_together g__law_put_together b__law_put_together (ok_put_together B U__law_put_together k_pick k_row)
    have k_web : Cl P w K mg base 5 "_law_web" sp_web := Cl.mk' U__law_web g__law_web b__law_web (ok_web B U__law_web k_pick k_any k_rw k_put k_ring)
    have k_folded : Cl P w K mg base 1 "_law_folded" (sp_folded K) := Cl.mk' U__law_folded g__law_folded b__law_folded (ok_folded B U__law_folded)
    have k_common : Cl P w K mg base 2 "common_to" (sp_common (He.cT K ("common_to", none)).2) := Cl.mk' U_common_to g_common_to b_common_to (ok_common B U_common_to h_common_to T_common_to)
    have k_pt28 : Cl P w K mg base 4 "_law_pointing" sp_pt28 := Cl.mk' U__law_pointing g__law_pointing b__law_pointing (ok_pt28 B U__law_pointing k_pick k_row)
    exact ok_law B U_law k_left k_pick k_web k_folded k_pt28 k_common k_same

end My
open PySem PySem.W PySem.Calls PyProof.Rows
set_option maxHeartbeats 0 in
theorem PySem.Challenge.cw_pointedties_k28_common_to_holds : PySem.Challenge.rw_pointedties_k28_common_to.Holds := by
  w_on; o_law
  refine HandSHeadRun.head_any (r := My.Rw) (q := view My.Rw.prog [16]) (H := My.hk) (ob := My.ob) (M := 4000) (loose := My.others) (d := HandSHeadRun.topDef My.Rw.prog 16) (kwd := []) My.ob_eq
    (by kernel_rfl) (fun s => by kernel_rfl) My.run (by kernel_rfl) (by kernel_rfl) (by kernel_rfl) (by rfl) (by first | assumption | decide +kernel) (by decide +kernel) ⟨rfl, rfl, rfl, rfl, rfl, by decide +kernel⟩ ?hw ?hc
  case hw => w_witness2
  case hc =>
    refine My.walk_top (l := PySem.Challenge.rw_pointedties_k28_common_to) (n := 63) (y := "_law_script") rfl (by decide) (by kernel_rfl) ?F
    intro w mg fa h Y G hmg0
    obtain ⟨K, KX, c⟩ := Y
    have hmg : mg ("law" : PySem.Str) = some (.ref fa) := by
      have e : (HandSHeadRun.topDef My.Rw.prog 16).name = ("law" : PySem.Str) := by kernel_rfl
      rw [← e]; exact hmg0
    obtain ⟨fd, hb, hF⟩ := My.law_ok (P := (PySem.Challenge.rw_pointedties_k28_common_to).prog) (w := w) KX G hmg c
    have inT : ∀ p ∈ My.tfs.map (He.cT K), ∃ q ∈ My.tfs, p = He.cT K q := fun p hp => by
      obtain ⟨q, hq, e⟩ := List.mem_map.mp hp
      exact ⟨q, hq, e.symm⟩
    refine ⟨K, KX, fd, My.tfs.map (He.cT K), _, fun p hp => ?_, fun p hp => ?_, fun p hp => ?_, hb, fun H a ns hl _ hT hS => ?_, hF⟩
    · obtain ⟨q, hq, rfl⟩ := inT p hp; exact c.empty q hq
    · obtain ⟨q, hq, rfl⟩ := inT p hp; exact c.out q hq
    · obtain ⟨q, hq, rfl⟩ := inT p hp; exact PySem.W.codeHd_of_K KX (c.hd q hq)
    · exact ⟨a, ns, rfl, hS, hl, ⟨_, hT _ (List.mem_map.mpr ⟨_, by simp [My.tfs], rfl⟩), True.intro⟩, fun _ => rfl⟩
