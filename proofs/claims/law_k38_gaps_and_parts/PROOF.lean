import PyProof.Rows.All
import Wide.All
import OpenK.AllK
import Wide.FinOn
import HandS.ForMost
import HandS.More
import HandS.SortRule
import HandS.SortInts
import HandS.TupSets
import HandS.Deep
import HandS.IsInst
import HandS.DictComp
import HandS.Style
import HandS.Flow
import HandS.TupAny
import HandS.Walk
import HandS.AnyAll
import HandS.GenOver
import PyProof.GenQ
import PyProof.GenComp
import PyProof.ConsumeS
import HandS.Zip
import HandS.Defaults
import PySem.Challenge.RW_pointedties_k38_gaps_and_parts
import KE.KDictCopyH
import KE.KDictPairs
import HandS.HeadWalk
import PyProof.ReprRoads
import HandS.SetFor
import HandS.Strs
import HandS.Conv
import HandS.Small
import KE.SortData
import KE.KSortTup
import KE.KStateDown
import HandS.Head0
import HandS.Head1
import HandS.Head2
import HandS.HeadEnd
import HandS.HeadHook1
import HandS.HeadHook2
import HandS.HeadHook3
import HandS.HeadHook4
set_option Elab.async false
set_option linter.all false
set_option maxRecDepth 100000
namespace My
open PySem PySem.Spec PyProof.Rows L2

/-! ### a def that may be called by its name -/
structure Cl (P : Program) (w : World) (K : PySem.W.Frag) (mg : Str → Option Value) (base : Heap)
    (k : Nat) (x : Str) (sp : Sp) : Prop where
  ex : ∃ (f : Addr) (fd : FuncData) (ps : List Str), FnOk P w K mg base CX0 k f fd ps sp ∧
    mg x = some (.ref f) ∧ PySem.W.keepIn K (.ref f) = true ∧ Binds K fd ps []
theorem Cl.mk' {P : Program} {w : World} {K : PySem.W.Frag} {mg : Str → Option Value} {base : Heap} {k : Nat} {x : Str} {sp : Sp}
    {st : Stmt} {f : Addr} {fd : FuncData} {ps : List Str} (F : Fun K x x st f fd) (hm : mg x = some (.ref f))
    (hb : Binds K fd ps []) (ok : FnOk P w K mg base CX0 k f fd ps sp) : Cl P w K mg base k x sp := ⟨f, fd, ps, ok, hm, F.kp, hb⟩
theorem pe_c {X : Cx} {k j : Nat} {x : Str} {sp : Sp} {p pos : Pos} {e : Expr} {es : List Expr} {t : TA}
    (c : Cl X.prog X.w X.K X.mg X.base k x sp) (hr : Room j X.A) (hk : k ≤ j) (hg : Gl X x) (ha : PA X (e :: es) t)
    (h1 : (x == ("__debug__" : Str)) = false := by decide)
    (h2 : starEach (e :: es) X.env = (false, eval e X.env) :: starEach es X.env := by rfl)
    (h3 : (backTo pos (starEach es X.env)).any (·.1) = false := by rfl) :
    PE X (.Call (.Name x p) (e :: es) [] pos) (tCall sp [] E0 t) := by
  obtain ⟨f, fd, ps, F, hm, kp, b⟩ := c.ex
  exact pe_call F (hr.mono hk) hg hm kp b .nil pass0 ha h1 h2 h3

/-! ### heaps: all stays but the list of draws at L -/
def Fr (L : Addr) (H H' : Hp) : Prop := ∀ b o, b ≠ L → H b = some o → H' b = some o
theorem Fr.refl (L : Addr) (H : Hp) : Fr L H H := fun _ _ _ h => h
theorem Fr.trans {L : Addr} {H H1 H2 : Hp} (a : Fr L H H1) (b : Fr L H1 H2) : Fr L H H2 :=
  fun c o n h => b c o n (a c o n h)
theorem Fr.of {L : Addr} {H H' : Hp} (a : Same H H') : Fr L H H' := fun b o _ h => a b o h
theorem same_new {H : Hp} {p : Addr} {o : HO} (h : H p = none) : Same H (upd H p o) := fun b x e => by
  rw [upd_ne (ne_of_none e h)]; exact e
theorem Fr.new {L : Addr} {H : Hp} {p : Addr} {o : HO} (h : H p = none) : Fr L H (upd H p o) := Fr.of (same_new h)
/-- what is new to the first heap may change -/
theorem Fr.put {L : Addr} {H H' : Hp} {p : Addr} {o : HO} (a : Fr L H H') (h : H p = none) : Fr L H (upd H' p o) :=
  fun b x n e => by rw [upd_ne (ne_of_none e h)]; exact a b x n e
theorem Same.put {H H' : Hp} {p : Addr} {o : HO} (a : Same H H') (h : H p = none) : Same H (upd H' p o) :=
  fun b x e => by rw [upd_ne (ne_of_none e h)]; exact a b x e
theorem Fr.putL {L : Addr} {H H' : Hp} {o : HO} (a : Fr L H H') : Fr L H (upd H' L o) :=
  fun b x n e => by rw [upd_ne n]; exact a b x n e

/-! ### the list of draws -/
def Lf (H : Hp) (L : Addr) (c : Int) : Prop :=
  ∃ x y z : Int, H L = some (.lst [.int x, .int y, .int z]) ∧ 0 ≤ x ∧ 0 ≤ z ∧ z ≤ c
theorem Lf.mono {H : Hp} {L : Addr} {c d : Int} (h : Lf H L c) (e : c ≤ d) : Lf H L d := by
  obtain ⟨x, y, z, h1, h2, h3, h4⟩ := h
  exact ⟨x, y, z, h1, h2, h3, Int.le_trans h4 e⟩
theorem Lf.same {H H' : Hp} {L : Addr} {c : Int} (h : Lf H L c) (e : Same H H') : Lf H' L c := by
  obtain ⟨x, y, z, h1, h2⟩ := h
  exact ⟨x, y, z, e _ _ h1, h2⟩
theorem Lf.new {H : Hp} {L p : Addr} {c : Int} {o : HO} (h : Lf H L c) (e : H p = none) : Lf (upd H p o) L c := h.same (same_new e)
theorem Lf.ne {H : Hp} {L p : Addr} {c : Int} (h : Lf H L c) (e : H p = none) : p ≠ L := by
  obtain ⟨x, y, z, h1, h2⟩ := h
  rintro rfl; rw [h1] at e; cases e
theorem Lf.put {H : Hp} {L p : Addr} {c : Int} {o : HO} (h : Lf H L c) (e : p ≠ L) : Lf (upd H p o) L c := by
  obtain ⟨x, y, z, h1, h2⟩ := h
  exact ⟨x, y, z, by rw [upd_ne (Ne.symm e)]; exact h1, h2⟩
theorem Lf.free {H H' : Hp} {L p : Addr} {c' : Int} (a : Fr L H H') (h' : Lf H' L c') (e : H' p = none) : H p = none := by
  have n := h'.ne e
  cases q : H p with
  | none => rfl
  | some o => rw [a p o n q] at e; cases e
theorem Lf.tup {H H' : Hp} {L p : Addr} {c : Int} {xs : List V} (a : Fr L H H') (h : Lf H L c) (e : H p = some (.tup xs)) : H' p = some (.tup xs) := by
  refine a p _ ?_ e
  obtain ⟨x, y, z, h1, h2⟩ := h
  rintro rfl; rw [h1] at e; cases e

/-! ### ties, rows of ties, webs -/
def Tie (H : Hp) (v : V) (t : Int × Int) : Prop := ∃ p, v = .ref p ∧ H p = some (.tup [.int t.1, .int t.2])
def Ties (H : Hp) : List V → List (Int × Int) → Prop
  | [], [] => True
  | v :: vs, t :: ts => Tie H v t ∧ Ties H vs ts
  | _, _ => False
/-- tuples stay -/
def Tst (H H' : Hp) : Prop := ∀ b xs, H b = some (.tup xs) → H' b = some (.tup xs)
theorem Tst.refl (H : Hp) : Tst H H := fun _ _ h => h
theorem Tst.trans {H H1 H2 : Hp} (a : Tst H H1) (b : Tst H1 H2) : Tst H H2 := fun c o h => b c o (a c o h)
theorem Same.tst {H H' : Hp} (a : Same H H') : Tst H H' := fun b xs h => a b _ h
theorem Lf.tst {H H' : Hp} {L : Addr} {c : Int} (h : Lf H L c) (a : Fr L H H') : Tst H H' := fun b xs e => Lf.tup a h e
theorem tst_new {H : Hp} {p : Addr} {o : HO} (h : H p = none) : Tst H (upd H p o) := Same.tst (same_new h)
theorem tst_put {H : Hp} {p : Addr} {o : HO} {xs : List V} (h : H p = some (.lst xs)) : Tst H (upd H p o) := fun b ys e => by
  rw [upd_ne]
  · exact e
  · rintro rfl; rw [h] at e; cases e
theorem Tie.mono {H H' : Hp} {v : V} {t : Int × Int} (a : Tst H H') (h : Tie H v t) : Tie H' v t := by
  obtain ⟨p, e, h⟩ := h
  exact ⟨p, e, a _ _ h⟩
theorem Ties.mono {H H' : Hp} (a : Tst H H') : ∀ {vs : List V} {ts : List (Int × Int)}, Ties H vs ts → Ties H' vs ts
  | [], [], _ => trivial
  | _ :: _, _ :: _, h => ⟨h.1.mono a, Ties.mono a h.2⟩
  | [], _ :: _, h => h.elim
  | _ :: _, [], h => h.elim
theorem Ties.app {H : Hp} : ∀ {vs : List V} {ts : List (Int × Int)} {us : List V} {rs : List (Int × Int)}, Ties H vs ts → Ties H us rs → Ties H (vs ++ us) (ts ++ rs)
  | [], [], _, _, _, k => k
  | _ :: _, _ :: _, _, _, h, k => ⟨h.1, Ties.app h.2 k⟩
  | [], _ :: _, _, _, h, _ => h.elim
  | _ :: _, [], _, _, h, _ => h.elim
theorem Ties.len {H : Hp} : ∀ {vs : List V} {ts : List (Int × Int)}, Ties H vs ts → vs.length = ts.length
  | [], [], _ => rfl
  | _ :: _, _ :: _, h => congrArg (· + 1) (Ties.len h.2)
  | [], _ :: _, h => h.elim
  | _ :: _, [], h => h.elim
theorem Ties.at {H : Hp} : ∀ {vs : List V} {ts : List (Int × Int)} {i : Nat} {v : V}, Ties H vs ts → vs[i]? = some v → ∃ t, ts[i]? = some t ∧ Tie H v t
  | [], [], _, _, _, e => by cases e
  | _ :: _, t :: _, 0, _, h, e => by cases e; exact ⟨t, rfl, h.1⟩
  | _ :: _, _ :: _, i + 1, _, h, e => Ties.at (i := i) h.2 e
  | [], _ :: _, _, _, h, _ => h.elim
  | _ :: _, [], _, _, h, _ => h.elim
theorem Ties.one {H : Hp} {v : V} {t : Int × Int} (h : Tie H v t) : Ties H [v] [t] := ⟨h, trivial⟩
theorem Tie.new {H : Hp} {p : Addr} {a b : Int} : Tie (upd H p (.tup [.int a, .int b])) (.ref p) (a, b) := ⟨p, rfl, upd_same⟩

/-! ### what a web is -/
def ltT (s t : Int × Int) : Prop := s.1 < t.1 ∨ (s.1 = t.1 ∧ s.2 < t.2)
def WOk (n : Nat) (ts : List (Int × Int)) : Prop := ts.Pairwise ltT ∧ ∀ t ∈ ts, 0 ≤ t.1 ∧ t.1 < t.2 ∧ t.2 < (n : Int)
def Web (H : Hp) (v : V) (n : Nat) (ts : List (Int × Int)) : Prop :=
  ∃ p q vs, v = .ref p ∧ H p = some (.tup [.int (n : Int), .ref q]) ∧ H q = some (.tup vs) ∧ Ties H vs ts
theorem Web.mono {H H' : Hp} {v : V} {n : Nat} {ts : List (Int × Int)} (a : Tst H H') (h : Web H v n ts) : Web H' v n ts := by
  obtain ⟨p, q, vs, e, h1, h2, h3⟩ := h
  exact ⟨p, q, vs, e, a _ _ h1, a _ _ h2, h3.mono a⟩

theorem sz {n : Nat} (h : n ≤ 100000) : n ≤ sizeLine := Nat.le_trans h (by decide)
theorem sz' {n : Nat} (h : n < 100000) : n < sizeLine := Nat.lt_of_lt_of_le h (by decide)

theorem bi (b : Bool) : -(2 ^ 64) < (if b = true then (1 : Int) else 0) ∧ (if b = true then (1 : Int) else 0) < 2 ^ 64 ∧ 0 ≤ (if b = true then (1 : Int) else 0) := by
  cases b <;> decide

theorem yes {σ : L2.St} {H : Hp} {R N : Hp → Prop} (h : R H) : tYes σ H (fun b H3 => if b = true then R H3 else N H3) := by
  show (if true = true then R H else N H)
  exact iteT h

/-! ### all pairs, rising -/
def prow (a : Nat) (j : Nat) : List (Int × Int) := (List.range j).map fun (i : Nat) => ((a : Int), (a : Int) + 1 + (i : Int))
def pup (n i : Nat) : List (Int × Int) := (List.range i).flatMap fun a => prow a (n - (a + 1))
theorem prow_succ (a j : Nat) : prow a (j + 1) = prow a j ++ [((a : Int), (a : Int) + 1 + (j : Int))] := by
  unfold prow; rw [List.range_succ, List.map_append]; rfl
theorem pup_succ (n i : Nat) : pup n (i + 1) = pup n i ++ prow i (n - (i + 1)) := by
  unfold pup; rw [List.range_succ, List.flatMap_append, List.flatMap_singleton]
theorem prow_len (a j : Nat) : (prow a j).length = j := by unfold prow; rw [List.length_map, List.length_range]
theorem mem_prow {a j : Nat} {t : Int × Int} : t ∈ prow a j ↔ t.1 = a ∧ (a : Int) < t.2 ∧ t.2 < (a : Int) + 1 + j := by
  unfold prow
  rw [List.mem_map]
  constructor
  · rintro ⟨i, hi, rfl⟩
    have := List.mem_range.mp hi
    refine ⟨rfl, ?_, ?_⟩ <;> dsimp only <;> omega
  · rintro ⟨h1, h2, h3⟩
    refine ⟨(t.2 - a - 1).toNat, List.mem_range.mpr (by omega), ?_⟩
    cases t with
    | mk x y =>
      dsimp only at h1 h2 h3
      rw [h1]
      congr 1
      omega
theorem mem_pup {n i : Nat} {t : Int × Int} (hi : i ≤ n) : t ∈ pup n i ↔ 0 ≤ t.1 ∧ t.1 < i ∧ t.1 < t.2 ∧ t.2 < n := by
  unfold pup
  rw [List.mem_flatMap]
  constructor
  · rintro ⟨a, ha, h⟩
    have := List.mem_range.mp ha
    have := mem_prow.mp h
    omega
  · rintro ⟨h1, h2, h3, h4⟩
    refine ⟨t.1.toNat, List.mem_range.mpr (by omega), mem_prow.mpr ?_⟩
    omega
theorem prow_pw (a : Nat) : ∀ j, (prow a j).Pairwise ltT
  | 0 => by exact List.Pairwise.nil
  | j + 1 => by
    rw [prow_succ, List.pairwise_append]
    refine ⟨prow_pw a j, List.pairwise_singleton _ _, fun s hs t ht => ?_⟩
    have h := mem_prow.mp hs
    have e := List.mem_singleton.mp ht
    subst e
    refine .inr ⟨h.1, ?_⟩
    show s.2 < (a : Int) + 1 + j
    omega
theorem pup_pw (n : Nat) : ∀ i, i ≤ n → (pup n i).Pairwise ltT
  | 0, _ => by exact List.Pairwise.nil
  | i + 1, h => by
    rw [pup_succ, List.pairwise_append]
    refine ⟨pup_pw n i (by omega), prow_pw i _, fun s hs t ht => ?_⟩
    have h1 := (mem_pup (by omega)).mp hs
    have h2 := mem_prow.mp ht
    refine .inl ?_
    omega
theorem pup_len (n : Nat) : ∀ i, (pup n i).length ≤ i * n
  | 0 => Nat.zero_le _
  | i + 1 => by
    rw [pup_succ, List.length_append, prow_len, Nat.succ_mul]
    have := pup_len n i
    omega
theorem pup_len' {n i : Nat} (hn : n ≤ 100) (hi : i ≤ n) : (pup n i).length ≤ 10000 :=
  Nat.le_trans (pup_len n i) (Nat.le_trans (Nat.mul_le_mul (Nat.le_trans hi hn) hn) (by decide))
theorem wok_sub {n : Nat} {ts : List (Int × Int)} (h : ts.Sublist (pup n n)) : WOk n ts :=
  ⟨(pup_pw n n (Nat.le_refl n)).sublist h, fun t ht => by
    have := (mem_pup (Nat.le_refl n)).mp (h.subset ht)
    omega⟩

/-! ### the numbers below n -/
def up (n : Nat) : List Int := (List.range n).map fun (i : Nat) => (i : Int)
theorem up_succ (n : Nat) : up (n + 1) = up n ++ [(n : Int)] := by unfold up; rw [List.range_succ, List.map_append]; rfl
theorem up_len (n : Nat) : (up n).length = n := by unfold up; rw [List.length_map, List.length_range]
theorem mem_up {n : Nat} {x : Int} : x ∈ up n ↔ 0 ≤ x ∧ x < n := by
  unfold up
  rw [List.mem_map]
  constructor
  · rintro ⟨i, hi, rfl⟩
    have := List.mem_range.mp hi
    omega
  · intro h
    exact ⟨x.toNat, List.mem_range.mpr (by omega), by omega⟩
theorem up_nodup (n : Nat) : (up n).Nodup := by
  unfold up
  rw [List.nodup_iff_pairwise_ne, List.pairwise_map]
  exact (List.nodup_iff_pairwise_ne.mp List.nodup_range).imp fun h e => h (by omega)
theorem ins_perm {α : Type} (l : List α) (x : α) (k : Nat) : (l.take k ++ [x] ++ l.drop k).Perm (l ++ [x]) := by
  have h : (l.take k ++ [x] ++ l.drop k).Perm (l.take k ++ (l.drop k ++ [x])) := by
    rw [List.append_assoc]
    exact List.Perm.append_left _ List.perm_append_comm
  refine h.trans ?_
  rw [← List.append_assoc, List.take_append_drop]

/-! ### where a number stands in a list -/
theorem all_flat (ns : List Int) : (ns.map V.int).all flatV = true := by
  rw [List.all_map, List.all_eq_true]; intro x _; rfl
theorem idx_at {ns : List Int} {x : Int} (h : x ∈ ns) : (ns.map V.int)[ns.idxOf x]? = some (.int x) := by
  have hl := List.idxOf_lt_length_of_mem h
  rw [List.getElem?_map, List.getElem?_eq_getElem hl, List.getElem_idxOf hl]; rfl
theorem idx_first {ns : List Int} {x : Int} : ∀ (m : Nat) (z : V), m < ns.idxOf x → (ns.map V.int)[m]? = some z → eqV z (.int x) = false := by
  intro m z hm hz
  rw [List.getElem?_map] at hz
  have hml : m < ns.length := Nat.lt_of_lt_of_le hm List.idxOf_le_length
  rw [List.getElem?_eq_getElem hml] at hz
  cases hz
  have : ns[m] ≠ x := fun e => by
    have := List.not_of_lt_findIdx (xs := ns) (p := fun y => y == x) hm
    rw [e] at this
    simp at this
  exact beq_eq_false_iff_ne.mpr this

/-! ### readings by name -/
abbrev rLenK (K : PySem.W.Frag) : List V → Hp → VK → Prop :=
  fun xs H Q => ∃ p ys, xs = [.ref p] ∧ (SqL K H p ys ∨ SqT K H p ys) ∧ Q (.int ys.length) H
abbrev rTupK (K : PySem.W.Frag) : List V → Hp → VK → Prop :=
  fun xs H Q => ∃ p ys, xs = [.ref p] ∧ ((SqL K H p ys ∧ ∀ l, H l = none → Q (.ref l) (upd H l (.tup ys))) ∨ (SqT K H p ys ∧ Q (.ref p) H))
abbrev rLstK (K : PySem.W.Frag) : List V → Hp → VK → Prop :=
  fun xs H Q => ∃ p ys, xs = [.ref p] ∧ (SqL K H p ys ∨ SqT K H p ys) ∧ ∀ l, H l = none → Q (.ref l) (upd H l (.lst ys))

/-! ### the built-in names -/
structure Bts (mg : Str → Option Value) : Prop where
  len : mg "len" = none
  range : mg "range" = none
  tuple : mg "tuple" = none
  list : mg "list" = none
  int : mg "int" = none
  abs : mg "abs" = none
  min : mg "min" = none
  sorted : mg "sorted" = none
  set : mg "set" = none
  all : mg "all" = none
  any : mg "any" = none
  enumerate : mg "enumerate" = none
  zip : mg "zip" = none
  isinstance : mg "isinstance" = none
  bool : mg "bool" = none
  str : mg "str" = none
  dict : mg "dict" = none
  max : mg "max" = none
  reversed : mg "reversed" = none
  sum : mg "sum" = none
end My

set_option Elab.async false
set_option linter.all false
set_option maxRecDepth 100000
namespace My
open PySem PySem.Spec PyProof.Rows L2

/-! ### the pair that a value tells -/
theorem Tie.inj {H : Hp} {v : V} {s t : Int × Int} (h : Tie H v s) (k : Tie H v t) : s = t := by
  obtain ⟨p, rfl, h⟩ := h
  obtain ⟨q, e, k⟩ := k
  cases e
  rw [h] at k
  cases s; cases t
  cases k
  rfl
open Classical in
noncomputable def key (H : Hp) (v : V) : Int × Int := if h : ∃ t, Tie H v t then h.choose else (0, 0)
theorem key_of {H : Hp} {v : V} {t : Int × Int} (h : Tie H v t) : key H v = t := by
  unfold key
  rw [dif_pos ⟨t, h⟩]
  exact (Exists.choose_spec (⟨t, h⟩ : ∃ t, Tie H v t)).inj h
theorem Ties.key {H : Hp} : ∀ {vs : List V} {ts : List (Int × Int)}, Ties H vs ts → ts = vs.map (My.key H)
  | [], [], _ => rfl
  | _ :: _, _ :: _, h => by rw [List.map_cons, key_of h.1, ← Ties.key h.2]
  | [], _ :: _, h => h.elim
  | _ :: _, [], h => h.elim
theorem Ties.all {H : Hp} : ∀ {vs : List V} {ts : List (Int × Int)}, Ties H vs ts → ∀ v ∈ vs, Tie H v (My.key H v)
  | [], [], _, _, hv => by cases hv
  | _ :: _, _ :: _, h, v, hv => by
    rcases List.mem_cons.mp hv with rfl | hv
    · rw [key_of h.1]; exact h.1
    · exact Ties.all h.2 v hv
  | [], _ :: _, h, _, _ => h.elim
  | _ :: _, [], h, _, _ => h.elim
theorem ties_mk {H : Hp} : ∀ {vs : List V}, (∀ v ∈ vs, Tie H v (My.key H v)) → Ties H vs (vs.map (My.key H))
  | [], _ => trivial
  | v :: vs, h => ⟨h v List.mem_cons_self, ties_mk fun u hu => h u (List.mem_cons_of_mem _ hu)⟩

/-! ### a list of ties, sorted -/
theorem srt_ties {H : Hp} {xs ys : List V} {ts : List (Int × Int)} (hs : SrtO.Srtd (ltP (My.key H)) ys) (hb : ys.Perm xs) (hT : Ties H xs ts) :
    ∃ ts', Ties H ys ts' ∧ ts'.Perm ts ∧ ts'.Pairwise (fun s t => ¬ ltT t s) := by
  refine ⟨ys.map (My.key H), ties_mk fun v hv => hT.all v (hb.mem_iff.mp hv), ?_, ?_⟩
  · rw [hT.key]; exact hb.map _
  · rw [List.pairwise_map]
    refine hs.imp fun {a b} h l => ?_
    have : ltP (My.key H) b a = true := SrtO.lexB_iff.mpr l
    rw [this] at h
    cases h
theorem ltT_tri (s t : Int × Int) : ltT s t ∨ s = t ∨ ltT t s := by
  cases s with | mk a b =>
  cases t with | mk c d =>
  unfold ltT
  by_cases h1 : a < c
  · exact .inl (.inl h1)
  · by_cases h2 : c < a
    · exact .inr (.inr (.inl h2))
    · have e : a = c := by omega
      subst e
      by_cases h3 : b < d
      · exact .inl (.inr ⟨rfl, h3⟩)
      · by_cases h4 : d < b
        · exact .inr (.inr (.inr ⟨rfl, h4⟩))
        · have e : b = d := by omega
          subst e
          exact .inr (.inl rfl)
theorem ltT_irr {s : Int × Int} : ¬ ltT s s := by unfold ltT; omega
theorem ltT_tr {s t u : Int × Int} (h : ltT s t) (k : ltT t u) : ltT s u := by unfold ltT at *; omega
theorem pw_lt {ts : List (Int × Int)} (h : ts.Pairwise (fun s t => ¬ ltT t s)) (nd : ts.Nodup) : ts.Pairwise ltT := by
  refine (h.and (List.nodup_iff_pairwise_ne.mp nd)).imp ?_
  rintro s t ⟨h1, h2⟩
  rcases ltT_tri s t with h | h | h
  · exact h
  · exact absurd h h2
  · exact absurd h h1
/-- two rising lists with the same items are one -/
theorem pw_eq : ∀ {as bs : List (Int × Int)}, as.Pairwise ltT → bs.Pairwise ltT → (∀ t, t ∈ as ↔ t ∈ bs) → as = bs
  | [], [], _, _, _ => rfl
  | [], b :: bs, _, _, h => by have := (h b).mpr List.mem_cons_self; cases this
  | a :: as, [], _, _, h => by have := (h a).mp List.mem_cons_self; cases this
  | a :: as, b :: bs, ha, hb, h => by
    have ha' := List.pairwise_cons.mp ha
    have hb' := List.pairwise_cons.mp hb
    have e : a = b := by
      rcases List.mem_cons.mp ((h a).mp List.mem_cons_self) with e | m1
      · exact e
      · rcases List.mem_cons.mp ((h b).mpr List.mem_cons_self) with e | m2
        · exact e.symm
        · exact absurd (ltT_tr (ha'.1 b m2) (hb'.1 a m1)) ltT_irr
    subst e
    rw [pw_eq ha'.2 hb'.2 fun t => ⟨fun m => ?_, fun m => ?_⟩]
    · rcases List.mem_cons.mp ((h t).mp (List.mem_cons_of_mem _ m)) with e | m'
      · subst e; exact absurd (ha'.1 t m) ltT_irr
      · exact m'
    · rcases List.mem_cons.mp ((h t).mpr (List.mem_cons_of_mem _ m)) with e | m'
      · subst e; exact absurd (hb'.1 t m) ltT_irr
      · exact m'

/-! ### ties as data -/
def dT (t : Int × Int) : PyData := .tuple [.int t.1, .int t.2]
theorem Tie.dp {K : PySem.W.Frag} {H : Hp} {v : V} {t : Int × Int} (h : Tie H v t) : Dp K H v (dT t) := by
  obtain ⟨p, rfl, h⟩ := h
  exact .tup (Or.inl (Or.inl h)) (.cons (.int _) (.cons (.int _) .nil))
theorem Ties.dp {K : PySem.W.Frag} {H : Hp} : ∀ {vs : List V} {ts : List (Int × Int)}, Ties H vs ts → DpAll K H vs (ts.map dT)
  | [], [], _ => .nil
  | _ :: _, _ :: _, h => .cons h.1.dp (Ties.dp h.2)
  | [], _ :: _, h => h.elim
  | _ :: _, [], h => h.elim
theorem shaped_dT (t : Int × Int) : SeqAt.shaped (dT t) = true := rfl
theorem can_ties (ts : List (Int × Int)) : PyData.canLayAll0 (ts.map dT) = true := by
  induction ts with
  | nil => rfl
  | cons t ts ih => rw [List.map_cons, PyData.canLayAll0, ih]; rfl
theorem dep_ties (ts : List (Int × Int)) : PyData.depthAll (ts.map dT) ≤ 1 := by
  induction ts with
  | nil => exact Nat.zero_le _
  | cons t ts ih =>
    rw [List.map_cons, PyData.depthAll]
    exact Nat.max_le.mpr ⟨Nat.le_refl _, ih⟩
theorem shaped_ties (ts : List (Int × Int)) : SeqAt.shaped (.list (ts.map dT)) = true := by
  unfold SeqAt.shaped
  rw [Bool.and_eq_true, decide_eq_true_eq]
  refine ⟨can_ties ts, ?_⟩
  show PyData.depthAll (ts.map dT) + 1 ≤ 64
  have := dep_ties ts
  omega
theorem eqv_dT (s t : Int × Int) : PyData.eqv (dT s) (dT t) = decide (s = t) := by
  cases s with | mk a b =>
  cases t with | mk c d =>
  show ((a == c) && ((b == d) && true)) = _
  by_cases h : a = c <;> by_cases k : b = d <;> simp [h, k]
theorem two {A : Hp → Prop} {C : Prop} (R : Hp → Prop) (k : (∀ H, R H → A H) → C) (h : ∀ H, R H → A H) : C := k h
theorem at_mem {ns : List Int} {j : Int} (h1 : -(ns.length : Int) ≤ j) (h2 : j < ns.length) : ∃ x, atI (ns.map V.int) j = some (.int x) ∧ x ∈ ns := by
  unfold atI ixN
  rw [List.length_map]
  by_cases h0 : 0 ≤ j
  · have hl : j.toNat < ns.length := by omega
    rw [if_pos h0, if_pos h2]
    refine ⟨ns[j.toNat], ?_, List.getElem_mem hl⟩
    show (ns.map V.int)[j.toNat]? = _
    rw [List.getElem?_map, List.getElem?_eq_getElem hl]; rfl
  · have hl : (j + ns.length).toNat < ns.length := by omega
    rw [if_neg h0, if_pos h1]
    refine ⟨ns[(j + ns.length).toNat], ?_, List.getElem_mem hl⟩
    show (ns.map V.int)[(j + ns.length).toNat]? = _
    rw [List.getElem?_map, List.getElem?_eq_getElem hl]; rfl
theorem perm2 {ns : List Int} {x y : Int} (h : ns.Perm [x, y]) (s : ns.Pairwise (· ≤ ·)) : ns = [if x ≤ y then x else y, if x ≤ y then y else x] := by
  match ns, h.length_eq with
  | [a, b], _ =>
    have ab : a ≤ b := (List.pairwise_cons.mp s).1 b (List.mem_singleton.mpr rfl)
    have ha := h.mem_iff (a := a) |>.mp List.mem_cons_self
    have hb := h.mem_iff (a := b) |>.mp (List.mem_cons_of_mem _ List.mem_cons_self)
    have hx := h.mem_iff (a := x) |>.mpr List.mem_cons_self
    have hy := h.mem_iff (a := y) |>.mpr (List.mem_cons_of_mem _ List.mem_cons_self)
    simp only [List.mem_cons, List.not_mem_nil, or_false] at ha hb hx hy
    by_cases c : x ≤ y
    · rw [if_pos c, if_pos c]
      have : a = x ∧ b = y := by omega
      rw [this.1, this.2]
    · rw [if_neg c, if_neg c]
      have : a = y ∧ b = x := by omega
      rw [this.1, this.2]
/-! ### ties by their places, for sets -/
def prT (p : Addr × List Int) : Int × Int := (p.2.getD 0 0, p.2.getD 1 0)
theorem Ties.addr {H : Hp} : ∀ {vs : List V} {ts : List (Int × Int)}, Ties H vs ts → ∃ ks : List (Addr × List Int), vs = (ks.map fun p => V.ref p.1) ∧
    (∀ p ∈ ks, H p.1 = some (.tup (p.2.map V.int)) ∧ ∃ t ∈ ts, p.2 = [t.1, t.2]) ∧ ks.map prT = ts
  | [], [], _ => ⟨[], rfl, (fun _ h => by cases h), rfl⟩
  | v :: vs, t :: ts, h => by
    obtain ⟨ks, e1, e2, e3⟩ := Ties.addr h.2
    obtain ⟨p, rfl, hp⟩ := h.1
    refine ⟨(p, [t.1, t.2]) :: ks, by rw [e1]; rfl, fun q hq => ?_, by rw [List.map_cons, e3]; rfl⟩
    rcases List.mem_cons.mp hq with rfl | hq
    · exact ⟨hp, t, List.mem_cons_self, rfl⟩
    · obtain ⟨g1, t', g2, g3⟩ := e2 q hq
      exact ⟨g1, t', List.mem_cons_of_mem _ g2, g3⟩
  | [], _ :: _, h => h.elim
  | _ :: _, [], h => h.elim
theorem ties_addr {H : Hp} : ∀ {ks : List (Addr × List Int)}, (∀ p ∈ ks, H p.1 = some (.tup (p.2.map V.int)) ∧ ∃ t : Int × Int, p.2 = [t.1, t.2]) → Ties H (ks.map fun p => V.ref p.1) (ks.map prT)
  | [], _ => trivial
  | p :: ks, h => by
    refine ⟨?_, ties_addr fun q hq => h q (List.mem_cons_of_mem _ hq)⟩
    obtain ⟨g1, t, g2⟩ := h p List.mem_cons_self
    refine ⟨p.1, rfl, ?_⟩
    unfold prT
    rw [g1, g2]; rfl
theorem u65 {k : Nat} {A : Around} (r : Room k A) : A.units + 65 < cLine := by have := r.un; omega
end My

set_option Elab.async false
set_option linter.all false
set_option maxRecDepth 100000
namespace My
open PySem PySem.Spec PyProof.Rows L2

/-! ### lists side by side -/
def All2 {α : Type} (R : V → α → Prop) : List V → List α → Prop
  | [], [] => True
  | v :: vs, t :: ts => R v t ∧ All2 R vs ts
  | _, _ => False
section
variable {α : Type} {R S : V → α → Prop}
theorem All2.imp (a : ∀ v t, R v t → S v t) : ∀ {vs : List V} {ts : List α}, All2 R vs ts → All2 S vs ts
  | [], [], _ => trivial
  | _ :: _, _ :: _, h => ⟨a _ _ h.1, All2.imp a h.2⟩
  | [], _ :: _, h => h.elim
  | _ :: _, [], h => h.elim
theorem All2.app : ∀ {vs us : List V} {ts rs : List α}, All2 R vs ts → All2 R us rs → All2 R (vs ++ us) (ts ++ rs)
  | [], _, [], _, _, k => k
  | _ :: _, _, _ :: _, _, h, k => ⟨h.1, All2.app h.2 k⟩
  | [], _, _ :: _, _, h, _ => h.elim
  | _ :: _, _, [], _, h, _ => h.elim
theorem All2.len : ∀ {vs : List V} {ts : List α}, All2 R vs ts → vs.length = ts.length
  | [], [], _ => rfl
  | _ :: _, _ :: _, h => congrArg (· + 1) (All2.len h.2)
  | [], _ :: _, h => h.elim
  | _ :: _, [], h => h.elim
theorem All2.at : ∀ {vs : List V} {ts : List α} {i : Nat} {v : V}, All2 R vs ts → vs[i]? = some v → ∃ t, ts[i]? = some t ∧ R v t
  | [], [], _, _, _, e => by cases e
  | _ :: _, t :: _, 0, _, h, e => by cases e; exact ⟨t, rfl, h.1⟩
  | _ :: _, _ :: _, i + 1, _, h, e => All2.at (i := i) h.2 e
  | [], _ :: _, _, _, h, _ => h.elim
  | _ :: _, [], _, _, h, _ => h.elim
theorem All2.at' : ∀ {vs : List V} {ts : List α} {i : Nat} {t : α}, All2 R vs ts → ts[i]? = some t → ∃ v, vs[i]? = some v ∧ R v t
  | [], [], _, _, _, e => by cases e
  | v :: _, _ :: _, 0, _, h, e => by cases e; exact ⟨v, rfl, h.1⟩
  | _ :: _, _ :: _, i + 1, _, h, e => All2.at' (i := i) h.2 e
  | [], _ :: _, _, _, h, _ => h.elim
  | _ :: _, [], _, _, h, _ => h.elim
theorem All2.erase : ∀ {vs : List V} {ts : List α} (k : Nat), All2 R vs ts → All2 R (vs.eraseIdx k) (ts.eraseIdx k)
  | [], [], _, _ => trivial
  | _ :: _, _ :: _, 0, h => h.2
  | _ :: _, _ :: _, k + 1, h => ⟨h.1, All2.erase k h.2⟩
  | [], _ :: _, _, h => h.elim
  | _ :: _, [], _, h => h.elim
end

/-! ### pairs of places of unlike groups -/
def norm (a b : Int) : Int × Int := (if a ≤ b then a else b, if a ≤ b then b else a)
theorem norm_inj {a b c d : Int} (h : norm a b = norm c d) : (a = c ∧ b = d) ∨ (a = d ∧ b = c) := by
  unfold norm at h
  have h1 := congrArg Prod.fst h
  have h2 := congrArg Prod.snd h
  dsimp only at h1 h2
  by_cases x : a ≤ b <;> by_cases y : c ≤ d
  · rw [if_pos x, if_pos y] at h1 h2; omega
  · rw [if_pos x, if_neg y] at h1 h2; omega
  · rw [if_neg x, if_pos y] at h1 h2; omega
  · rw [if_neg x, if_neg y] at h1 h2; omega
def newA (g h : List Int) : List (Int × Int) := g.flatMap fun a => h.map fun b => norm a b
def newK (s : List (List Int)) (cd : Nat → Nat → Bool) (k j : Nat) : List (Int × Int) :=
  (List.range j).flatMap fun j => newA (if cd k j = true then s.getD k [] else []) (s.getD j [])
def news (s : List (List Int)) (cd : Nat → Nat → Bool) (m : Nat) : List (Int × Int) := (List.range m).flatMap fun k => newK s cd k k
theorem newA_app (g g' h : List Int) : newA (g ++ g') h = newA g h ++ newA g' h := by unfold newA; rw [List.flatMap_append]
theorem newA_one (a : Int) (h : List Int) : newA [a] h = h.map fun b => norm a b := by unfold newA; rw [List.flatMap_singleton]
theorem newK_succ (s : List (List Int)) (cd : Nat → Nat → Bool) (k j : Nat) : newK s cd k (j + 1) = newK s cd k j ++ newA (if cd k j = true then s.getD k [] else []) (s.getD j []) := by
  unfold newK; rw [List.range_succ, List.flatMap_append, List.flatMap_singleton]
theorem news_succ (s : List (List Int)) (cd : Nat → Nat → Bool) (m : Nat) : news s cd (m + 1) = news s cd m ++ newK s cd m m := by
  unfold news; rw [List.range_succ, List.flatMap_append, List.flatMap_singleton]
theorem mem_newA {g h : List Int} {t : Int × Int} : t ∈ newA g h ↔ ∃ a ∈ g, ∃ b ∈ h, t = norm a b := by
  unfold newA
  simp only [List.mem_flatMap, List.mem_map]
  constructor
  · rintro ⟨a, ha, b, hb, rfl⟩; exact ⟨a, ha, b, hb, rfl⟩
  · rintro ⟨a, ha, b, hb, rfl⟩; exact ⟨a, ha, b, hb, rfl⟩
theorem mem_newK {s : List (List Int)} {cd : Nat → Nat → Bool} {k j : Nat} {t : Int × Int} (h : t ∈ newK s cd k j) :
    ∃ j' < j, ∃ a ∈ s.getD k [], ∃ b ∈ s.getD j' [], t = norm a b := by
  unfold newK at h
  obtain ⟨j', hj, h⟩ := List.mem_flatMap.mp h
  obtain ⟨a, ha, b, hb, e⟩ := mem_newA.mp h
  refine ⟨j', List.mem_range.mp hj, a, ?_, b, hb, e⟩
  split at ha
  · exact ha
  · cases ha
theorem mem_news {s : List (List Int)} {cd : Nat → Nat → Bool} {m : Nat} {t : Int × Int} (h : t ∈ news s cd m) :
    ∃ k < m, ∃ j < k, ∃ a ∈ s.getD k [], ∃ b ∈ s.getD j [], t = norm a b := by
  unfold news at h
  obtain ⟨k, hk, h⟩ := List.mem_flatMap.mp h
  obtain ⟨j, hj, r⟩ := mem_newK h
  exact ⟨k, List.mem_range.mp hk, j, hj, r⟩
/-- a place is in one group alone -/
theorem grp_one {s : List (List Int)} (nd : s.flatten.Nodup) {a : Int} {i j : Nat} (hi : a ∈ s.getD i []) (hj : a ∈ s.getD j []) : i = j := by
  have li : i < s.length := by
    rcases Nat.lt_or_ge i s.length with h | h
    · exact h
    · rw [List.getD_eq_getElem?_getD, List.getElem?_eq_none h] at hi; cases hi
  have lj : j < s.length := by
    rcases Nat.lt_or_ge j s.length with h | h
    · exact h
    · rw [List.getD_eq_getElem?_getD, List.getElem?_eq_none h] at hj; cases hj
  rw [List.getD_eq_getElem?_getD, List.getElem?_eq_getElem li] at hi
  rw [List.getD_eq_getElem?_getD, List.getElem?_eq_getElem lj] at hj
  dsimp only [Option.getD_some] at hi hj
  have pw := (List.pairwise_flatten.mp (List.nodup_iff_pairwise_ne.mp nd)).2
  rw [List.pairwise_iff_getElem] at pw
  rcases Nat.lt_trichotomy i j with h | h | h
  · exact absurd rfl (pw i j li lj h a hi a hj)
  · exact h
  · exact absurd rfl (pw j i lj li h a hj a hi)
theorem grp_nd {s : List (List Int)} (nd : s.flatten.Nodup) (i : Nat) : (s.getD i []).Nodup := by
  rcases Nat.lt_or_ge i s.length with h | h
  · rw [List.getD_eq_getElem?_getD, List.getElem?_eq_getElem h]
    exact List.nodup_iff_pairwise_ne.mpr ((List.pairwise_flatten.mp (List.nodup_iff_pairwise_ne.mp nd)).1 _ (List.getElem_mem h))
  · rw [List.getD_eq_getElem?_getD, List.getElem?_eq_none h]; exact List.nodup_nil
theorem four_inj {s : List (List Int)} (nd : s.flatten.Nodup) {k j k' j' : Nat} {a b a' b' : Int} (hj : j < k) (hj' : j' < k') (ha : a ∈ s.getD k []) (hb : b ∈ s.getD j [])
    (ha' : a' ∈ s.getD k' []) (hb' : b' ∈ s.getD j' []) (e : norm a b = norm a' b') : k = k' ∧ j = j' ∧ a = a' ∧ b = b' := by
  rcases norm_inj e with ⟨rfl, rfl⟩ | ⟨rfl, rfl⟩
  · exact ⟨grp_one nd ha ha', grp_one nd hb hb', rfl, rfl⟩
  · have e1 := grp_one nd ha hb'
    have e2 := grp_one nd hb ha'
    omega
theorem news_nd {s : List (List Int)} (nd : s.flatten.Nodup) (cd : Nat → Nat → Bool) (m : Nat) : (news s cd m).Nodup := by
  unfold news
  rw [List.nodup_iff_pairwise_ne, List.pairwise_flatMap]
  refine ⟨fun k hk => ?_, ?_⟩
  · unfold newK
    rw [List.pairwise_flatMap]
    refine ⟨fun j hj => ?_, ?_⟩
    · have hj := List.mem_range.mp hj
      unfold newA
      rw [List.pairwise_flatMap]
      refine ⟨fun a ha => ?_, ?_⟩
      · rw [List.pairwise_map]
        refine (List.nodup_iff_pairwise_ne.mp (grp_nd nd j)).imp_of_mem fun {b b'} hb hb' ne e => ?_
        have ha : a ∈ s.getD k [] := by split at ha; exact ha; cases ha
        exact ne (four_inj nd hj hj ha hb ha hb' e).2.2.2
      · have nda : (if cd k j = true then s.getD k [] else []).Nodup := by split; exact grp_nd nd k; exact List.nodup_nil
        refine (List.nodup_iff_pairwise_ne.mp nda).imp_of_mem fun {a a'} ha ha' ne x hx y hy e => ?_
        have ha : a ∈ s.getD k [] := by split at ha; exact ha; cases ha
        have ha' : a' ∈ s.getD k [] := by split at ha'; exact ha'; cases ha'
        obtain ⟨b, hb, rfl⟩ := List.mem_map.mp hx
        obtain ⟨b', hb', rfl⟩ := List.mem_map.mp hy
        exact ne (four_inj nd hj hj ha hb ha' hb' e).2.2.1
    · refine (List.nodup_iff_pairwise_ne.mp List.nodup_range).imp_of_mem fun {j j'} hj hj' ne x hx y hy e => ?_
      have hj := List.mem_range.mp hj
      have hj' := List.mem_range.mp hj'
      obtain ⟨a, ha, b, hb, rfl⟩ := mem_newA.mp hx
      obtain ⟨a', ha', b', hb', rfl⟩ := mem_newA.mp hy
      have ha : a ∈ s.getD k [] := by split at ha; exact ha; cases ha
      have ha' : a' ∈ s.getD k [] := by split at ha'; exact ha'; cases ha'
      exact ne (four_inj nd hj hj' ha hb ha' hb' e).2.1
  · refine (List.nodup_iff_pairwise_ne.mp List.nodup_range).imp_of_mem fun {k k'} hk hk' ne x hx y hy e => ?_
    obtain ⟨j, hj, a, ha, b, hb, rfl⟩ := mem_newK hx
    obtain ⟨j', hj', a', ha', b', hb', rfl⟩ := mem_newK hy
    exact ne (four_inj nd hj hj' ha hb ha' hb' e).1

/-- what holds of groups and ties between two turns -/
structure PInv (n : Nat) (gs : List (List Int)) (ts : List (Int × Int)) : Prop where
  fl : gs.flatten.Perm (up n)
  nd : ts.Nodup
  bd : ∀ t ∈ ts, 0 ≤ t.1 ∧ t.1 < t.2 ∧ t.2 < (n : Int)
  one : ∀ t ∈ ts, ∃ g ∈ gs, t.1 ∈ g ∧ t.2 ∈ g
theorem nd_len {α : Type} [DecidableEq α] : ∀ {l m : List α}, l.Nodup → (∀ x ∈ l, x ∈ m) → l.length ≤ m.length
  | [], _, _, _ => Nat.zero_le _
  | a :: l, m, nd, h => by
    have nd' := List.nodup_cons.mp nd
    have ha := h a List.mem_cons_self
    have := nd_len (l := l) (m := m.erase a) nd'.2 fun x hx => (List.mem_erase_of_ne (fun (e : x = a) => nd'.1 (by rw [← e]; exact hx))).mpr (h x (List.mem_cons_of_mem _ hx))
    rw [List.length_erase_of_mem ha] at this
    have := List.length_pos_of_mem ha
    rw [List.length_cons]
    omega
theorem PInv.len {n : Nat} {gs : List (List Int)} {ts : List (Int × Int)} (h : PInv n gs ts) (hn : n ≤ 100) : ts.length ≤ 10000 := by
  refine Nat.le_trans (nd_len (m := pup n n) h.nd fun t ht => ?_) (pup_len' hn (Nat.le_refl n))
  have := h.bd t ht
  exact (mem_pup (Nat.le_refl n)).mpr (by omega)
theorem norm_ends {a b : Int} {g : List Int} (h1 : (norm a b).1 ∈ g) (h2 : (norm a b).2 ∈ g) : a ∈ g ∧ b ∈ g := by
  unfold norm at h1 h2
  dsimp only at h1 h2
  by_cases x : a ≤ b
  · rw [if_pos x] at h1 h2; exact ⟨h1, h2⟩
  · rw [if_neg x] at h1 h2; exact ⟨h2, h1⟩
theorem PInv.next {n : Nat} {gs s r : List (List Int)} {ts : List (Int × Int)} (h : PInv n gs ts) (pm : gs.Perm (s ++ r)) (cd : Nat → Nat → Bool) :
    PInv n (r ++ [s.flatten]) (ts ++ news s cd s.length) := by
  have pf : (s ++ r).flatten.Perm (up n) := pm.flatten.symm.trans h.fl
  have ndf : (s ++ r).flatten.Nodup := pf.nodup_iff.mpr (up_nodup n)
  have nds : s.flatten.Nodup := by
    rw [List.flatten_append] at ndf
    exact (List.nodup_append.mp ndf).1
  have gd : ∀ i, i < s.length → (s ++ r).getD i [] = s.getD i [] := fun i hi => by
    rw [List.getD_eq_getElem?_getD, List.getD_eq_getElem?_getD, List.getElem?_append_left hi]
  have inS : ∀ {a : Int} {k : Nat}, a ∈ s.getD k [] → a ∈ s.flatten ∧ k < s.length := fun {a k} ha => by
    rcases Nat.lt_or_ge k s.length with hk | hk
    · rw [List.getD_eq_getElem?_getD, List.getElem?_eq_getElem hk] at ha
      exact ⟨List.mem_flatten.mpr ⟨_, List.getElem_mem hk, ha⟩, hk⟩
    · rw [List.getD_eq_getElem?_getD, List.getElem?_eq_none hk] at ha; cases ha
  have bd : ∀ {a : Int}, a ∈ s.flatten → 0 ≤ a ∧ a < (n : Int) := fun {a} ha =>
    mem_up.mp (pf.mem_iff.mp (by rw [List.flatten_append]; exact List.mem_append_left _ ha))
  refine ⟨?_, ?_, ?_, ?_⟩
  · refine List.Perm.trans ?_ pf
    rw [List.flatten_append, List.flatten_append]
    have : [s.flatten].flatten = s.flatten := by simp
    rw [this]
    exact List.perm_append_comm
  · rw [List.nodup_append]
    refine ⟨h.nd, news_nd nds cd _, fun t ht t' ht' e => ?_⟩
    subst e
    obtain ⟨k, hk, j, hj, a, ha, b, hb, rfl⟩ := mem_news ht'
    obtain ⟨g, hg, g1, g2⟩ := h.one _ ht
    obtain ⟨ga, gb⟩ := norm_ends g1 g2
    obtain ⟨i, hi, e⟩ := List.getElem_of_mem (pm.mem_iff.mp hg)
    have gi : (s ++ r).getD i [] = g := by rw [List.getD_eq_getElem?_getD, List.getElem?_eq_getElem hi, e]; rfl
    have e1 := grp_one ndf (i := i) (j := k) (by rw [gi]; exact ga) (by rw [gd k hk]; exact ha)
    have e2 := grp_one ndf (i := i) (j := j) (by rw [gi]; exact gb) (by rw [gd j (by omega)]; exact hb)
    omega
  · intro t ht
    rcases List.mem_append.mp ht with ht | ht
    · exact h.bd t ht
    · obtain ⟨k, hk, j, hj, a, ha, b, hb, rfl⟩ := mem_news ht
      have b1 := bd (inS ha).1
      have b2 := bd (inS hb).1
      have ne : a ≠ b := fun e => by subst e; have := grp_one nds ha hb; omega
      unfold norm
      dsimp only
      split <;> omega
  · intro t ht
    rcases List.mem_append.mp ht with ht | ht
    · obtain ⟨g, hg, g1, g2⟩ := h.one t ht
      rcases List.mem_append.mp (pm.mem_iff.mp hg) with m | m
      · exact ⟨s.flatten, List.mem_append_right _ (List.mem_singleton.mpr rfl), List.mem_flatten.mpr ⟨g, m, g1⟩, List.mem_flatten.mpr ⟨g, m, g2⟩⟩
      · exact ⟨g, List.mem_append_left _ m, g1, g2⟩
    · obtain ⟨k, hk, j, hj, a, ha, b, hb, rfl⟩ := mem_news ht
      refine ⟨s.flatten, List.mem_append_right _ (List.mem_singleton.mpr rfl), ?_, ?_⟩
      · unfold norm; dsimp only; split
        · exact (inS ha).1
        · exact (inS hb).1
      · unfold norm; dsimp only; split
        · exact (inS hb).1
        · exact (inS ha).1
theorem flat_one : ∀ ns : List Int, (ns.map fun x => [x]).flatten = ns
  | [] => rfl
  | a :: l => by rw [List.map_cons, List.flatten_cons, flat_one l]; rfl
theorem erase_perm {α : Type} : ∀ {l : List α} {i : Nat} (h : i < l.length), (l[i] :: l.eraseIdx i).Perm l
  | _ :: _, 0, _ => .refl _
  | a :: l, i + 1, h => by
    show (l[i]'(Nat.lt_of_succ_lt_succ h) :: a :: l.eraseIdx i).Perm (a :: l)
    exact (List.Perm.swap _ _ _).trans ((erase_perm (Nat.lt_of_succ_lt_succ h)).cons a)
/-! ### lengths -/
theorem newA_len {g h : List Int} {x y : Nat} (hg : g.length ≤ x) (hh : h.length ≤ y) : (newA g h).length ≤ x * y := by
  have : ∀ g : List Int, (newA g h).length = g.length * h.length := by
    intro g
    induction g with
    | nil => simp [newA]
    | cons a g ih =>
      have e : newA (a :: g) h = newA [a] h ++ newA g h := newA_app [a] g h
      rw [e, List.length_append, ih, newA_one, List.length_map, List.length_cons, Nat.succ_mul, Nat.add_comm]
  rw [this]
  exact Nat.mul_le_mul hg hh
theorem newK_len {s : List (List Int)} {cd : Nat → Nat → Bool} {k : Nat} (hs : ∀ i, (s.getD i []).length ≤ 12) : ∀ j, (newK s cd k j).length ≤ j * 144
  | 0 => Nat.zero_le _
  | j + 1 => by
    rw [newK_succ, List.length_append]
    have h1 := newK_len (s := s) (cd := cd) (k := k) hs j
    have h2 : (newA (if cd k j = true then s.getD k [] else []) (s.getD j [])).length ≤ 12 * 12 := newA_len (by split; exact hs k; exact Nat.zero_le _) (hs j)
    omega
theorem news_len {s : List (List Int)} {cd : Nat → Nat → Bool} (hs : ∀ i, (s.getD i []).length ≤ 12) : ∀ m, m ≤ 10 → (news s cd m).length ≤ m * 1440
  | 0, _ => Nat.zero_le _
  | m + 1, h => by
    rw [news_succ, List.length_append]
    have h1 := news_len (s := s) (cd := cd) hs m (by omega)
    have h2 := newK_len (s := s) (cd := cd) (k := m) hs m
    omega
theorem grp_len {n : Nat} {s : List (List Int)} {r : List (List Int)} (h : (s ++ r).flatten.Perm (up n)) (i : Nat) : (s.getD i []).length ≤ n := by
  rcases Nat.lt_or_ge i s.length with hi | hi
  · rw [List.getD_eq_getElem?_getD, List.getElem?_eq_getElem hi]
    have e := h.length_eq
    rw [up_len, List.flatten_append, List.length_append] at e
    have : ∀ (l : List (List Int)) (g : List Int), g ∈ l → g.length ≤ l.flatten.length := by
      intro l g hg
      induction l with
      | nil => cases hg
      | cons x l ih =>
        rw [List.flatten_cons, List.length_append]
        rcases List.mem_cons.mp hg with rfl | hg
        · omega
        · have := ih hg; omega
    have := this s _ (List.getElem_mem hi)
    show s[i].length ≤ n
    omega
  · rw [List.getD_eq_getElem?_getD, List.getElem?_eq_none hi]; exact Nat.zero_le _
end My

set_option Elab.async false
set_option linter.all false
set_option maxRecDepth 100000
set_option maxHeartbeats 2000000
namespace My
open PySem PySem.Spec PyProof.Rows L2 GxR

/-! ### the frame of a generator expression -/
abbrev gcx (X : Cx) (A' : Around) (s : Shared) (H : Hp) (cenv : Env) (fp : List Addr) (pn : List (Addr × Obj)) : Cx :=
  { X with A := A', s_0 := s, H_0 := H, env := cenv, outer := X.stack, stack := cenv :: X.stack, ex := fp, fn := fun _ => false, calm := true, pn := pn, xe := fun _ _ => False }
structure GsOk (scope : Scope) : Prop where
  co : scope.isCoroutine = false
  cell : ∀ y ∈ scope.names, y.2 ≠ .cell
  dot : scope.names.lookup (".0" : Str) = some NameKind.local

section
variable {X : Cx} {pins : List (Addr × Obj)} {σ : L2.St} {H : Hp} {s : Shared}
abbrev gEnv (X : Cx) (scope : Scope) (C : Addr) (code : Value) : Env :=
  genEnv scope (cloFrom X.env.cells scope.names []) C code builtinsNs X.env
theorem gen_inv {scope : Scope} {own : List (Str × Nat)} {fp : List Addr} {A' : Around} {C : Addr} {code : Value} {s5 : Shared}
    {m : Str → Option Value} {pn : List (Addr × Obj)} (I : Inv X pins σ H s) (ok : BlkOk X.N X.env.scope scope own) (hN : X.N.Nodup)
    (S : GsOk scope) (hfp : ∀ b ∈ fp, FpOk X pins H b ∧ b < s.heap.objs.size) (hC : C = s.heap.objs.size) (hA : A'.handled = none)
    (hF : A'.frames = some (gEnv X scope C code :: X.stack)) (kp : ∀ b o, s.heap.get? b = some o → s5.heap.get? b = some o)
    (hns : s5.heap.Ns C m) (hos : s5.os = s.os) (hb : AllBare s5.gens)
    (hpn : ∀ p ∈ pn, s5.heap.get? p.1 = some p.2 ∧ s.heap.objs.size < p.1 ∧ ∀ v, p.2.data ≠ .cell v) :
    Inv (gcx X A' s H (gEnv X scope C code) fp pn) [] (wipe σ (own.map (·.2))) H s5 := by
  have cm : ∀ {y : Str} {c : Addr}, (cloFrom X.env.cells scope.names []).lookup y = some c → X.env.cells.lookup y = some c ∧ c < s.heap.objs.size := fun {y c} e => by
    rcases cloFrom_mem (PySem.mem_of_lookup e) with z | ⟨h1, rfl⟩
    · cases z
    · have : ∃ c, X.env.cells.lookup y = some c := by
        rcases ok.free _ h1 rfl with k | k
        · exact I.ok.has _ (.inl k)
        · exact I.ok.has _ (.inr k)
      obtain ⟨c, hc⟩ := this
      rw [hc]
      obtain ⟨w, z⟩ := I.cell _ _ hc
      exact ⟨rfl, z.lt⟩
  have look : ∀ {y : Str}, scope.names.lookup y = some .free → ∃ c, (cloFrom X.env.cells scope.names []).lookup y = some c ∧ X.env.cells.lookup y = some c := fun {y} hl => by
    obtain ⟨c, e⟩ := mem_lookup (cloFrom_has (cells := X.env.cells) (acc := []) (PySem.mem_of_lookup hl))
    exact ⟨c, e, (cm e).1⟩
  have hCs : s.heap.objs.size ≤ C := Nat.le_of_eq hC.symm
  have okB : (gcx X A' s H (gEnv X scope C code) fp pn).Ok := by
    refine ⟨I.ok.mod, ok.kind, I.ok.glob, rfl, hCs, fun y z c e1 e2 => I.ok.inj y z c (cm e1).1 (cm e2).1, fun y hy => ?_, (fun y c z e => by cases z), fun _ => hA, hF, .inr ⟨rfl, rfl⟩,
      fun b hb => ⟨?_, fun y c e => (hfp b hb).1.2.2.2.2.1 y c (cm e).1⟩, I.bs, Nat.le_trans I.ok.bsz I.sz, fun b o e hb => ?_, fun b hb z => ?_, I.stack, I.stkFree⟩
    · rcases hy with hy | hy
      · exact absurd rfl (S.cell _ (PySem.mem_of_lookup (show scope.names.lookup y = some .cell from hy)))
      · obtain ⟨c, e, _⟩ := look (show scope.names.lookup y = some .free from hy)
        exact ⟨c, e⟩
    · show b ≠ C
      rw [hC]; exact Nat.ne_of_lt (hfp b hb).2
    · rcases (hfp b hb).1.2.2.2.1 with z | z
      · exact I.ok.noex b o e z
      · exact absurd (Nat.lt_of_lt_of_le (Heap.lt_size e) (Nat.le_trans I.ok.bsz z)) (Nat.lt_irrefl _)
    · rcases List.mem_cons.mp (I.stkSub b z) with z | z
      · exact (hfp b hb).1.2.1 z
      · exact (hfp b hb).1.2.2.1 z
  refine ⟨okB, hos, hb, Un.kept kp, ⟨m, hns, fun i y v e1 e2 e3 => ?_⟩, fun y c e => ?_, ?_, fun y c e => I.freeC y c (cm e).1, fun p hp => ?_, I.hok.kept kp, by rw [wipe_length]; exact I.len⟩
  · obtain ⟨e2, hne⟩ := wipe_some e2
    have no : ∀ k, scope.names.lookup y = some k → ¬ (k = .local ∨ k = .cell) := fun k e hh => by
      rcases ok.own _ (PySem.mem_of_lookup e) hh with z | z
      · obtain ⟨p, hp, hpy⟩ := List.mem_map.mp z
        have e4 := ok.ix p hp
        have hpy : p.1 = y := hpy
        rw [hpy] at e4
        exact hne (List.mem_map.mpr ⟨p, hp, nodup_ix hN e4 e1⟩)
      · exact z (List.mem_of_getElem? e1)
    have e3 : Vis scope y := e3
    have fr : scope.names.lookup y = some .free := by
      rcases e3 with e3 | e3 | e3
      · exact absurd (.inl rfl) (no _ e3)
      · exact absurd (.inr rfl) (no _ e3)
      · exact e3
    obtain ⟨m', hn, hl⟩ := I.loc
    have k := ok.free _ (PySem.mem_of_lookup fr) rfl
    have hv : Vis X.env.scope y := by
      rcases k with k | k
      · exact .inr (.inl k)
      · exact .inr (.inr k)
    obtain ⟨w, r, q⟩ := hl i y v e1 e2 hv
    refine ⟨w, r, .inr ⟨.inr fr, ?_⟩⟩
    obtain ⟨c, h1, h2⟩ := look fr
    rcases q with ⟨z, _⟩ | ⟨_, c', e', z⟩
    · have z : X.env.scope.names.lookup y = some .local := z
      rcases k with k | k <;> (have k : X.env.scope.names.lookup y = _ := k; rw [k] at z; cases z)
    · rw [h2] at e'; cases e'
      exact ⟨c, h1, z.keeps kp⟩
  · obtain ⟨w, z⟩ := I.cell y c (cm e).1
    exact ⟨w, z.keeps kp⟩
  · exact I.hok.fresh hCs
  · rw [List.append_nil] at hp
    obtain ⟨h1, h2, h3⟩ := hpn p hp
    refine ⟨h1, I.hok.fresh (Nat.le_of_lt h2), ?_, fun z => ?_, h3⟩
    · show p.1 ≠ C
      rw [hC]; exact Nat.ne_of_gt h2
    · rcases List.mem_cons.mp (I.stkSub p.1 z) with z | z
      · have := I.lt
        rw [← z] at this
        exact absurd (Nat.lt_trans h2 this) (Nat.lt_irrefl _)
      · exact I.nofs (Nat.le_of_lt h2) z
theorem inv_gens {gs : Array GenState} (I : Inv X pins σ H s) (hb : AllBare gs) : Inv X pins σ H { s with gens := gs } :=
  ⟨I.ok, I.os, hb, I.base, I.loc, I.cell, I.free, I.freeC, I.pin, I.hok, I.len⟩
theorem inv_setGen {g : Nat} {x : GenState} (I : Inv X pins σ H s) (hx : x.bare = true) : Inv X pins σ H (s.setGen g x) := by
  refine inv_gens I fun y hy => ?_
  rcases Array.mem_or_eq_of_mem_setIfInBounds hy with h | h
  · exact I.bare y h
  · rw [h]; exact hx
end

/-! ### the loop of a generator expression -/
section
variable {prog : Program} {w : World} {A : Around}
/-- n: how many more may come; Yl m v s: v is handed out, fewer than m turns are left; St m s: ready for the next turn -/
def protoG (St : Nat → Shared → Prop) (Yl : Nat → Value → Shared → Prop) : Protocol := fun n _ v s kap =>
  (∃ m, m ≤ n ∧ Yl m v s) ∧ ∀ s'' m', m' < n → St m' s'' → kap (.send .none) s''
theorem seg_loopG {elt tg iter : Expr} {scope : Scope} {pos : Pos} {it : Addr} {cenv : Env} (hco : cenv.scope.isCoroutine = false)
    (St : Nat → Shared → Prop) (En : Shared → Prop) (Yl : Nat → Value → Shared → Prop)
    (turn : ∀ m s, St m s → wpAny (model prog w) (A.over (.compLoop (.GeneratorExp elt [⟨tg, iter, [], 0⟩] scope pos) 0 (.ref it) .none cenv) []) (pyNext (.ref it)) (fun r s1 => match r with
      | none => En s1
      | some u => wpAny (model prog w) (A.over (.compLoop (.GeneratorExp elt [⟨tg, iter, [], 0⟩] scope pos) 0 (.ref it) .none cenv) []) (letOwnedTupleGo tg (.ref it) u) (fun _ s2 =>
          wpAny (model prog w) (A.over (.compLoop (.GeneratorExp elt [⟨tg, iter, [], 0⟩] scope pos) 0 (.ref it) .none cenv) []) (assign tg cenv u) (fun _ s3 =>
            wpAny (model prog w) (A.over (.compLoop (.GeneratorExp elt [⟨tg, iter, [], 0⟩] scope pos) 0 (.ref it) .none cenv) []) (eval elt cenv) (fun v s4 => Yl m v s4) (fun _ _ => False) s3) (fun _ _ => False) s2) (fun _ _ => False) s1) (fun _ _ => False) s) :
    ∀ (n m : Nat) (s₀ s : Shared), m < n → St m s →
      Seg (model prog w) A (fun _ _ r s₁ => r = .ok .next ∧ En s₁) (protoG St Yl) n s₀
        (.compLoop (.GeneratorExp elt [⟨tg, iter, [], 0⟩] scope pos) 0 (.ref it) .none cenv)
        ((model prog w).den (.compLoop (.GeneratorExp elt [⟨tg, iter, [], 0⟩] scope pos) 0 (.ref it) .none cenv)) [] s := by
  intro n
  induction n with
  | zero => intro m _ _ h; exact absurd h (Nat.not_lt_zero _)
  | succ n ih =>
    intro m s₀ s hm hst
    show Seg _ A _ _ _ s₀ _ ((compTurn (.GeneratorExp elt [⟨tg, iter, [], 0⟩] scope pos) 0 (.ref it) .none cenv).onRaise (leaving cenv)) [] s
    rw [compTurn_gen, Sem.onRaise_eq_wrap]
    refine seg_bind_wrap (wpAny_standAt ?_)
    refine seg_bind_wrap (wpAny_mono (turn m s hst) (fun r s1 h1 => ?_) fun _ _ e => e.elim)
    cases r with
    | none => exact seg_end (.ok .next) ⟨rfl, h1⟩
    | some u =>
      refine seg_bind_wrap (wpAny_mono h1 (fun _ s2 h2 => ?_) fun _ _ e => e.elim)
      refine seg_bind_wrap (wpAny_mono h2 (fun _ s3 h3 => ?_) fun _ _ e => e.elim)
      refine seg_bind_wrap ?_
      simp only [List.forIn_nil]
      refine wpAny_pure ?_
      simp only [if_true]
      have hy : ∀ v, yieldOut cenv v = yieldValue v := fun v => by simp only [yieldOut, hco, Bool.false_eq_true, if_false]
      simp only [hy]
      rw [Sem.bind_eq_wrap', Sem.bind_eq_wrap', Sem.wrap_wrap, Sem.wrap_wrap]
      refine seg_wrap (wpAny_mono h3 (fun v s4 h4 => ?_) fun _ _ e => e.elim)
      refine seg_at (seg_yield rfl rfl rfl ⟨⟨m, Nat.le_of_lt_succ hm, h4⟩, fun s'' m' hm' hst' => ?_⟩)
      exact seg_again rfl (ih m' s'' s'' hm' hst')
end
end My

set_option Elab.async false
set_option linter.all false
set_option maxRecDepth 100000
set_option maxHeartbeats 2000000
namespace My
open PySem PySem.Spec PyProof.Rows L2 GxR GenW

abbrev genObj (g : Nat) (x y : Value) : Obj := { cls := .type "generator", data := .fields #[.int g 0, x, y] }
/-- a generator expression is made: what stands then -/
structure Made (X : Cx) (pins : List (Addr × Obj)) (σ : L2.St) (elt tg iter : Expr) (scope : Scope) (gpos : Pos) (P : Addr) (J : It) (H1 H2 : Hp)
    (it : Addr) (fp : List Addr) (tn : Nat → Heap → Prop) (s4 s5 : Shared) (C a : Addr) (code : Value) (g : Nat) (x y : Value) : Prop where
  tab : Tabbed P H1 H2
  inv : Inv X pins σ H2 s4
  tu : Turn X.prog X.w X.K tg J fp it tn
  st : tn 0 s4.heap
  fp : ∀ b ∈ fp, FpOk X pins H2 b ∧ b < s4.heap.objs.size
  c : C = s4.heap.objs.size
  kp : ∀ b o, s4.heap.get? b = some o → s5.heap.get? b = some o
  ns : s5.heap.Ns C (fun y => if y = (".0" : Str) then some (.ref it) else none)
  os : s5.os = s4.os
  bare : AllBare s5.gens
  obj : s5.heap.get? a = some (genObj g x y)
  lt : s4.heap.objs.size < a
  gs : s5.gens[g]? = some (.fresh (.compStart (.GeneratorExp elt [⟨tg, iter, [], 0⟩] scope gpos) 0 (.ref it) .none (gEnv X scope C code)))

section
variable {X : Cx} {pins : List (Addr × Obj)} {σ : L2.St} {H : Hp} {s : Shared}
theorem gen_mk {c P : Addr} {elt tg iter : Expr} {gpos : Pos} {scope : Scope} {own : List (Str × Nat)} {wi : TI} {k : Nat} {Q' : Value → Shared → Prop} {R : It → Hp → Prop}
    (hr : Room k X.A) (TB : TabB X.base X.mg c P) (hcode : X.env.code = .ref c) (S : GsOk scope) (ok : BlkOk X.N X.env.scope scope own) (hi : PI X tg iter wi)
    (hs : ∀ v, genFold iter X.env v = pure v) (I : Inv X pins σ H s) (h : wi σ H fun J H1 => TabG H1 P ∧ R J H1)
    (hQ : ∀ J H1 H2 it fp tn s4 s5 C a code g x y, R J H1 → Made X pins σ elt tg iter scope gpos P J H1 H2 it fp tn s4 s5 C a code g x y → Q' (.ref a) s5) :
    wpAny (model X.prog X.w) X.A (eval (.GeneratorExp elt [⟨tg, iter, [], 0⟩] scope gpos) X.env) Q' X.xe s := by
  have hfree : ∀ y ∈ scope.names, y.2 = .free → ∃ c, X.env.cells.lookup y.1 = some c := fun y hy e => (ok.free y hy e).elim (fun k => I.ok.has _ (.inl k)) fun k => I.ok.has _ (.inr k)
  refine wpAny_GeneratorExp_make S.co (closure_ok hfree) S.cell S.dot ok.kind (by have := hr.dp; omega) ?_ hs
  refine thn (hi.run pins s σ H _ I h) fun xv s1 hx => thn hx fun itv s2 h2 => ?_
  obtain ⟨it, fp, tn, J, H1, rfl, I2, T, st2, f2, ⟨ps, hP, ht⟩, q⟩ := h2
  have hPs : s2.heap.get? P = some { cls := .none, data := .fields ps } := I2.hok P _ hP
  have cd : PySem.W.CodeHd s2.heap c P := TB.code.keeps fun b u e => I2.bk b u e
  have cont : ∀ (code : Value) (h3 : Heap) (tk : Nat) (more : Array Value), Heap.ExtBut P s2.heap h3 → s2.heap.objs.size ≤ h3.objs.size → h3.get? P = some { cls := .none, data := .fields (ps ++ more) } → TriplesOk (ps ++ more).toList →
      wpAny (model X.prog X.w) X.A (builtinsFor X.env.globals X.env.builtins) (fun bi s₄ =>
        ∀ h', h'.Ns s₄.heap.objs.size (fun y => if y = ".0" then some (Value.ref it) else none) → Heap.SameBut s₄.heap.objs.size (s₄.heap.push { cls := .type "frame", data := .dict #[] }) h' →
          Q' (.ref h'.objs.size) { s₄ with
            gens := s₄.gens.push (.fresh (.compStart (.GeneratorExp elt [⟨tg, iter, [], 0⟩] scope gpos) 0 (.ref it) .none (genEnv scope (cloFrom X.env.cells scope.names []) s₄.heap.objs.size code bi X.env))),
            toks := s₄.toks + 1 + 1 + 1,
            heap := h'.push { cls := .type "generator", data := .fields #[.int s₄.gens.size 0, .str "<genexpr>" (s₄.toks + 1), .str (X.env.qual ++ "<genexpr>") (s₄.toks + 1 + 1)] } }) X.xe { s2 with heap := h3, toks := tk } := by
    intro code h3 tk more hx hsz hP3 ht3
    obtain ⟨bm, ob, e1, e2, e3, e4, e5, e6, e7, e8⟩ := TB.bm
    have keep3 : ∀ b u, b ≠ P → s2.heap.get? b = some u → h3.get? b = some u := fun b u hb e => hx b u hb e
    refine wpAny_builtinsFor (m := X.mg) (by rw [I2.ok.glob]; exact (I2.mod.glob.keeps I2.bk).extBut hx TB.gP) e1 e2 (keep3 _ _ e4 (I2.bk _ _ e5)) e6 e7 e8 ?_
    intro h' hns hsb
    have I4 := inv_tab (more := more) (h' := h3) (g' := s2.gens) (d' := s2.drawn) (t' := tk) I2 hP keep3 hP3 I2.bare
    have old : ∀ b u, h3.get? b = some u → h'.get? b = some u := fun b u e => hsb.extBut b u (Nat.ne_of_lt (Heap.lt_size e)) (Heap.get?_push_of_some _ e)
    have hsz' : h'.objs.size = h3.objs.size + 1 := by rw [hsb.1, Heap.size_push]
    refine hQ J H1 (upd H1 P (.tbl (ps ++ more))) it fp tn { s2 with heap := h3, toks := tk } _ h3.objs.size _ code s2.gens.size _ _ q
      ⟨⟨⟨_, upd_same, ht3⟩, fun b hb => upd_ne hb⟩, I4, T, ?_, fun b hb => ⟨?_, ?_⟩, rfl, fun b o e => Heap.get?_push_of_some _ (old b o e), hns.keeps fun b o e => Heap.get?_push_of_some _ e, rfl, I2.bare.push rfl, Heap.get?_push_size _ rfl, ?_, ?_⟩
    · refine T.keep _ _ _ st2 fun b hb o e => keep3 b o (fun z => ?_) e
      have z2 := (f2 b hb).1
      rw [z, hP] at z2; cases z2
    · refine ⟨?_, (f2 b hb).2⟩
      have nb : b ≠ P := fun z => by
        have z2 := (f2 b hb).1
        rw [z, hP] at z2; cases z2
      rw [upd_ne nb]; exact (f2 b hb).1
    · obtain ⟨o, e, _⟩ := T.obj _ _ st2 b hb
      exact Nat.lt_of_lt_of_le (Heap.lt_size e) hsz
    · show h3.objs.size < h'.objs.size
      omega
    · show (s2.gens.push _)[s2.gens.size]? = _
      rw [Array.getElem?_push_size]
  refine ⟨I2.nolimit, ?_⟩
  cases hf : codeAmong gpos ps.toList with
  | none =>
    refine wpAny_genexprCodeX hcode (cd.code hPs ht) (cd.tab hPs) hf fun c' h' tk hx hge hlt hco' _ htab' _ => ?_
    obtain ⟨o1, vs, f1, tf, fl, tg', inF, tx, tt, op, _, _, _, _, _, _, _, _, _, htr, _⟩ := hco'
    exact cont _ h' tk _ hx (Nat.le_trans hge (Nat.le_of_lt hlt)) htab'.2 htr
  | some cv =>
    refine wpAny_genexprCode_hit hcode (cd.code hPs ht) hf ?_
    have z : ps ++ #[] = ps := by simp
    exact cont cv s2.heap s2.toks #[] (Heap.ExtBut.refl _ _) (Nat.le_refl _) (by rw [z]; exact hPs) (by rw [z]; exact ht)
end

/-! ### all, any: one item after another -/
section
variable {prog : Program} {w : World} {A : Around} {R : Result → Shared → Prop} {a : Addr} {g : Nat} {St : Nat → Shared → Prop} {En : Shared → Prop} {Yl : Nat → Value → Shared → Prop}
theorem allG_loop (hh : A.handled = none) (hd : A.in1.depth < recursionLimit)
    (hen : ∀ s₁ h', En s₁ → (∀ b o, s₁.heap.get? b = some o → h'.get? b = some o) → R (.ok (.ret (.bool true))) { s₁.setGen g .finished with heap := h' })
    (hyl : ∀ m v s₁ gs', gs'.bare = true → Yl m v s₁ → (v = .bool false ∧ R (.ok (.ret (.bool false))) (s₁.setGen g gs')) ∨
      (v = .bool true ∧ (s₁.setGen g gs').heap.NoLimit ∧ (s₁.setGen g gs').heap.IsGen a g ∧ ∃ m', m' < m ∧ St m' ((s₁.setGen g gs').setGen g .running))) :
    ∀ (n : Nat) (s : Shared), s.heap.NoLimit → s.heap.IsGen a g →
      (∃ gs, s.gens[g]? = some gs ∧ gs.Goes (model prog w) A.in1.in1 (fun _ _ r s₁ => r = .ok .next ∧ En s₁) (protoG St Yl) n (.send .none) (s.setGen g .running)) →
      codeAny (model prog w) A (.builtin "all.loop" ⟨[.ref a], []⟩) R s := by
  intro n
  induction n with
  | zero =>
    rintro s hl hg ⟨gs, hgs, hgo⟩
    refine codeAny_builtin F.entry_all_loop ?_
    rw [Around.under_plainId F.plain_all_loop _]
    show wpAny _ A.in1 (pyNext (.ref a) >>= _) _ _ s
    refine wpAny_bind (wpAny_pyNext_genexpQ (P := fun _ _ s₁ => En s₁) hh hl hd hg hgs hgo (fun v s₁ gs' hb hY => ?_) (fun s₁ hP h' hk => ?_))
    · obtain ⟨⟨m, hm, hy⟩, _⟩ := hY
      rcases hyl m v s₁ gs' hb hy with ⟨rfl, hR⟩ | ⟨_, _, _, m', hm', _⟩
      · refine wpAny_bind (wpAny_holding (wpAny_truthy_bool ?_))
        refine wpAny_bind (wpAny_letGo ?_)
        simp only [Bool.false_eq_true, if_false]
        exact wpAny_bind (wpAny_rule (wpAny_pure hR))
      · omega
    · exact wpAny_bind (wpAny_rule (wpAny_pure (hen s₁ h' hP hk)))
  | succ n ih =>
    rintro s hl hg ⟨gs, hgs, hgo⟩
    refine codeAny_builtin F.entry_all_loop ?_
    rw [Around.under_plainId F.plain_all_loop _]
    show wpAny _ A.in1 (pyNext (.ref a) >>= _) _ _ s
    have hsz : g + 1 ≤ s.gens.size := by
      rcases Nat.lt_or_ge g s.gens.size with z | z
      · exact z
      · rw [Array.getElem?_eq_none z] at hgs; cases hgs
    refine wpAny_bind (wpAny_gsz hsz (wpAny_pyNext_genexpQ (P := fun _ _ s₁ => En s₁) hh hl hd hg hgs hgo (fun v s₁ gs' hb hY hn => ?_) (fun s₁ hP h' hk _ => ?_)))
    · obtain ⟨⟨m, hm, hy⟩, hres⟩ := hY
      rcases hyl m v s₁ gs' hb hy with ⟨rfl, hR⟩ | ⟨rfl, hl', hg', m', hm', hst⟩
      · refine wpAny_bind (wpAny_holding (wpAny_truthy_bool ?_))
        refine wpAny_bind (wpAny_letGo ?_)
        simp only [Bool.false_eq_true, if_false]
        exact wpAny_bind (wpAny_rule (wpAny_pure hR))
      · refine wpAny_bind (wpAny_holding (wpAny_truthy_bool ?_))
        refine wpAny_bind (wpAny_letGo ?_)
        simp only [if_true]
        have hm : m ≤ n := hm
        refine wpAny_pure ⟨plainId_quiet F.plain_all_loop _, ih _ hl' hg' ⟨gs', ?_, hres _ m' (by omega) hst⟩⟩
        have hn' : g < s₁.gens.size := by
          rw [setGen_size] at hn; exact hn
        show (s₁.gens.setIfInBounds g gs')[g]? = some gs'
        rw [Array.getElem?_setIfInBounds_self, if_pos hn']
    · exact wpAny_bind (wpAny_rule (wpAny_pure (hen s₁ h' hP hk)))
end
end My

set_option Elab.async false
set_option linter.all false
set_option maxRecDepth 100000
set_option maxHeartbeats 2000000
namespace My
open PySem PySem.Spec PyProof.Rows L2 GxR GenW

/-- the around of the generator's frame, asked for by all or any -/
abbrev gA (X : Cx) (elt tg iter : Expr) (scope : Scope) (gpos : Pos) (it : Addr) (C : Addr) (code : Value) : Around :=
  X.A.in1.in1.over (.compLoop (.GeneratorExp elt [⟨tg, iter, [], 0⟩] scope gpos) 0 (.ref it) .none (gEnv X scope C code)) []
theorem gA_room {X : Cx} {elt tg iter : Expr} {scope : Scope} {gpos : Pos} {it C : Addr} {code : Value} {k : Nat} (hr : Room (k + 1) X.A) : Room k (gA X elt tg iter scope gpos it C code) := by
  have h1 : (gA X elt tg iter scope gpos it C code).depth = X.A.depth + 1 := rfl
  have h2 : (gA X elt tg iter scope gpos it C code).units ≤ X.A.units + 16 := by
    show X.A.in1.in1.units + _ + _ ≤ _
    have : X.A.in1.in1.units ≤ X.A.units + 8 := by
      first
        | exact Nat.le_add_right _ _
        | (show X.A.units + _ + _ ≤ _; omega)
    show X.A.in1.in1.units + 0 + 3 ≤ _
    omega
  exact ⟨hr.hd, by have := hr.dp; omega, by have := hr.un; omega⟩
theorem gA_frames {X : Cx} {elt tg iter : Expr} {scope : Scope} {gpos : Pos} {it C : Addr} {code : Value} (h : X.A.frames = some X.stack) :
    (gA X elt tg iter scope gpos it C code).frames = some (gEnv X scope C code :: X.stack) := by
  have e : (gA X elt tg iter scope gpos it C code).frames = pushEnvs [gEnv X scope C code] (pushEnvs [] X.A.frames) := rfl
  rw [e, h]; rfl

/-- all(e for tg in iter) -/
def tAllG (P : Addr) (wi : TI) (g : TG) (te : TE) (vs : List Nat) : TE := fun σ H Q => wi σ H fun J H1 => TabG H1 P ∧ ∀ H2, Tabbed P H1 H2 →
  ∃ W : Nat → Nat → Hp → Prop, (∃ m, W 0 m H2) ∧ ∀ i m H, W i m H → (J.stop i H ∧ Q (.bl true) H) ∨
    (J.go i H ∧ ∃ Nx : Hp → Prop, (∀ H', Nx H' → ∃ m', m' < m ∧ W (i + 1) m' H') ∧ ∀ x H', J.yld i H x H' → g x (wipe σ vs) H' fun σ2 H2 => wipe σ2 vs = wipe σ vs ∧
      te σ2 H2 fun y H3 => ∃ b, y = .bl b ∧ if b = true then Nx H3 else Q (.bl false) H3)

section
variable {X : Cx}
theorem pe_allG {c P : Addr} {elt tg iter : Expr} {p pos gpos : Pos} {scope : Scope} {own : List (Str × Nat)} {wi : TI} {g : TG} {te : TE} {k : Nat}
    (hc : X.calm = true) (hN : X.N.Nodup) (hr : Room (k + 1) X.A) (hgl : Gl X "all") (hm : X.mg "all" = none) (TB : TabB X.base X.mg c P) (hcode : X.env.code = .ref c)
    (S : GsOk scope) (ok : BlkOk X.N X.env.scope scope own) (hi : PI X tg iter wi)
    (hg : ∀ A' s H C code fp pn, PG (gcx X A' s H (gEnv X scope C code) fp pn) tg g)
    (he : ∀ A' s H C code fp pn, Room k A' → PE (gcx X A' s H (gEnv X scope C code) fp pn) elt te)
    (hs : ∀ v, genFold iter X.env v = pure v := by intro _; rfl)
    (h1 : starEach [.GeneratorExp elt [⟨tg, iter, [], 0⟩] scope gpos] X.env = (false, eval (.GeneratorExp elt [⟨tg, iter, [], 0⟩] scope gpos) X.env) :: starEach [] X.env := by rfl) :
    PE X (.Call (.Name "all" p) [.GeneratorExp elt [⟨tg, iter, [], 0⟩] scope gpos] [] pos) (tAllG P wi g te (own.map (·.2))) := by
  refine ⟨fun pins s σ H Q I h => ?_⟩
  refine wpAny_Call_Name_kw (ld_blt I hgl hm boot_all ?_)
  refine PyProof.Rows.callWith_builtin1 ?_ h1 (by rfl)
  rw [h1]
  show wpAny _ _ (spliced ((false, eval (.GeneratorExp elt [⟨tg, iter, [], 0⟩] scope gpos) X.env) :: backTo pos (starEach [] X.env))) _ _ s
  refine Calls.spliced_cons (gen_mk hr TB hcode S ok hi hs I h fun J H1 H2 it fp tn s4 s5 C a code gi x y q M => ?_)
  refine Calls.spliced_nil ?_
  obtain ⟨W, ⟨m0, w0⟩, turn⟩ := q H2 M.tab
  have hX : X.A.handled = none := M.inv.ok.hd hc
  have I5 : Inv (gcx X (gA X elt tg iter scope gpos it C code) s4 H2 (gEnv X scope C code) fp [(a, genObj gi x y)]) [] (wipe σ (own.map (·.2))) H2 s5 :=
    gen_inv M.inv ok hN S M.fp M.c hX (gA_frames M.inv.ok.frames) M.kp M.ns M.os M.bare fun p hp => by
      rw [List.mem_singleton.mp hp]
      exact ⟨M.obj, M.lt, fun v e => by cases e⟩
  have pg := hg (gA X elt tg iter scope gpos it C code) s4 H2 C code fp [(a, genObj gi x y)]
  have pe := he (gA X elt tg iter scope gpos it C code) s4 H2 C code fp [(a, genObj gi x y)] (gA_room hr)
  have T := M.tu
  generalize hY : gcx X (gA X elt tg iter scope gpos it C code) s4 H2 (gEnv X scope C code) fp [(a, genObj gi x y)] = Y at I5 pg pe
  have stat : ∀ {σ' : L2.St} {H' : Hp} {s' : Shared}, Inv Y [] σ' H' s' → (∀ b ∈ fp, H' b = none) → ∀ b ∈ fp, FpOk Y [] H' b := fun {σ' H' s'} I' hn b hb => by
    subst hY
    refine ⟨hn b hb, (I'.ok.exf b hb).1, I'.ok.exfs b hb, .inl hb, fun x c e => (I'.ok.exf b hb).2 x c e, fun p hp => ?_⟩
    have hp : p ∈ [(a, genObj gi x y)] ++ ([] : List (Addr × Obj)) := hp
    rw [List.append_nil] at hp
    rw [List.mem_singleton.mp hp]
    have h2 := (M.fp b hb).2
    have h3 := M.lt
    exact Nat.ne_of_gt (Nat.lt_trans h2 h3)
  have obj : ∀ {σ' : L2.St} {H' : Hp} {s' : Shared}, Inv Y [] σ' H' s' → s'.heap.IsGen a gi := fun {σ' H' s'} I' => by
    subst hY
    exact ⟨_, x, y, (I'.pin (a, genObj gi x y) (List.mem_append_left _ (List.mem_singleton.mpr rfl))).1, rfl, rfl, rfl⟩
  have back : ∀ {σ' : L2.St} {H' : Hp} {s' : Shared}, Inv Y [] σ' H' s' → Inv X pins σ H' s' := fun {σ' H' s'} I' => by
    subst hY
    exact M.inv.call' (ch := fp) I'.os I'.base I'.hok I'.bare fun b hb => ⟨(M.fp b hb).1.2.2.2.1, (M.fp b hb).1.2.1, (M.fp b hb).1.2.2.2.2.1, (M.fp b hb).1.2.2.2.2.2⟩
  have seg := seg_loopG (prog := X.prog) (w := X.w) (A := X.A.in1.in1) (elt := elt) (tg := tg) (iter := iter) (scope := scope) (pos := gpos) (it := it) (cenv := gEnv X scope C code) S.co
    (fun m s => ∃ i H', Inv Y [] (wipe σ (own.map (·.2))) H' s ∧ tn i s.heap ∧ (∀ b ∈ fp, H' b = none) ∧ W i m H')
    (fun s => ∃ H', Inv Y [] (wipe σ (own.map (·.2))) H' s ∧ Q (.bl true) H')
    (fun m v s => ∃ i H' b, v = .bool b ∧ Inv Y [] (wipe σ (own.map (·.2))) H' s ∧ tn i s.heap ∧ (∀ b ∈ fp, H' b = none) ∧ if b = true then ∃ m', m' < m ∧ W i m' H' else Q (.bl false) H') ?_
  · have hl5 : s5.heap.NoLimit := I5.nolimit
    refine call_function_tree F.kind_all F.plain_all F.entry_all (F.args_all1 _) ?_
    unfold Builtin.«all»
    refine wpAny_bind (m := oneArg "all" _) (wpAny_pure ?_)
    refine wpAny_bind (wpAny_pyIter_gen (obj I5) ?_)
    refine wpAny_pure ⟨plainId_quiet F.plain_all_loop _, ?_⟩
    refine allG_loop (g := gi) (n := m0 + 1) (St := fun m s => ∃ i H', Inv Y [] (wipe σ (own.map (·.2))) H' s ∧ tn i s.heap ∧ (∀ b ∈ fp, H' b = none) ∧ W i m H')
      (En := fun s => ∃ H', Inv Y [] (wipe σ (own.map (·.2))) H' s ∧ Q (.bl true) H')
      (Yl := fun m v s => ∃ i H' b, v = .bool b ∧ Inv Y [] (wipe σ (own.map (·.2))) H' s ∧ tn i s.heap ∧ (∀ b ∈ fp, H' b = none) ∧ if b = true then ∃ m', m' < m ∧ W i m' H' else Q (.bl false) H')
      hX (by have := hr.dp; show X.A.depth < _; omega) ?_ ?_ s5 hl5 (obj I5) ⟨_, M.gs, rfl, ?_⟩
    · rintro s₁ h' ⟨H', I', qq⟩ hk
      have I6 := inv_setGen (g := gi) (x := .finished) I' rfl
      have I7 := (back I6).kept (t' := s₁.toks) hk
      exact ⟨.bl true, H', I7, rfl, qq⟩
    · rintro m v s₁ gs' hb ⟨i, H', b, rfl, I', st', n', q'⟩
      have I6 := inv_setGen (g := gi) I' hb
      cases b with
      | false => exact .inl ⟨rfl, .bl false, H', back I6, rfl, q'⟩
      | true =>
        obtain ⟨m', hm', w'⟩ : ∃ m', m' < m ∧ W i m' H' := q'
        exact .inr ⟨rfl, I6.nolimit, obj I6, m', hm', i, H', inv_setGen I6 rfl, st', n', w'⟩
    · -- the start
      have I6 : Inv Y [] (wipe σ (own.map (·.2))) H2 (s5.setGen gi .running) := inv_setGen I5 rfl
      have st5 : tn 0 (s5.setGen gi .running).heap := T.keep _ _ _ M.st fun b _ o e => M.kp b o e
      have loop := seg (m0 + 1) m0 (s5.setGen gi .running) (s5.setGen gi .running) (Nat.lt_succ_self _) ⟨0, H2, I6, st5, fun b hb => (M.fp b hb).1.1, w0⟩
      show Seg _ X.A.in1.in1 _ _ _ _ _ ((compStart (.GeneratorExp elt [⟨tg, iter, [], 0⟩] scope gpos) 0 (.ref it) .none (gEnv X scope C code)).onRaise (leaving (gEnv X scope C code))) [] _
      unfold compStart
      rw [Sem.onRaise_eq_wrap]
      show Seg _ X.A.in1.in1 _ _ _ _ _ ((ask >>= _).wrap _ _ _ _) [] _
      refine seg_bind_wrap (wpAny_askSetting ?_)
      split
      · exact seg_again rfl loop
      · refine seg_bind_wrap (wpAny_rule ?_)
        show Seg _ X.A.in1.in1 _ _ _ _ _ ((standAt iter.pos >>= _).wrap _ _ _ _) [] _
        exact seg_bind_wrap (wpAny_standAt (seg_bind_wrap (T.self _ 0 _ _ _ st5 (seg_again rfl loop))))
  · rintro m s6 ⟨i, H', I', st', n', w'⟩
    rcases turn i m H' w' with ⟨stop, qq⟩ | ⟨go, Nx, hNx, step⟩
    · have td := T.done Y (by subst hY; rfl) (by subst hY; rfl) (by subst hY; rfl) (by subst hY; rfl) i [] s6 _ H' (fun _ _ => False) I' (stat I' n') st' stop
      subst hY
      refine wpAny_mono td (fun r s7 ⟨hr7, I7⟩ => ?_) fun _ _ e => e
      subst hr7
      exact ⟨H', I7, qq⟩
    · have ti := T.item Y (by subst hY; rfl) (by subst hY; rfl) (by subst hY; rfl) (by subst hY; rfl) i [] s6 _ H' (fun _ _ => False) I' (stat I' n') st' go
      subst hY
      refine wpAny_mono ti (fun r s7 ⟨u, hr7, h7⟩ => ?_) fun _ _ e => e
      subst hr7
      refine wpAny_mono h7 (fun _ s8 ⟨xv, H8, I8, r8, y8, st8, n8⟩ => ?_) fun _ _ e => e
      have I8' := I8.pinned (stat I8 n8) (T.obj _ _ st8)
      refine wpAny_mono (pg.run _ s8 _ H8 xv u _ I8' r8 (step xv H8 y8)) (fun _ s9 ⟨σ9, H9, I9, hw9, q9⟩ => ?_) fun _ _ e => e
      refine wpAny_mono (pe.run _ s9 σ9 H9 _ I9 q9) (fun v s10 ⟨yv, H10, I10, r10, b, eb, q10⟩ => ?_) fun _ _ e => e
      subst eb
      cases r10
      have pin' : ∀ b ∈ fp, ∀ o, s8.heap.get? b = some o → s10.heap.get? b = some o ∧ H10 b = none := fun b hb o e =>
        let z := I10.pin (b, o) (List.mem_append_right _ (List.mem_append_right _ (mem_pinsAt hb e)))
        ⟨z.1, z.2.1⟩
      have hl : (wipe σ (own.map (·.2))).length = σ9.length := by rw [← hw9, wipe_length]
      refine ⟨i + 1, H10, b, rfl, (I10.unpinned (pins := [])).weak hl (fun j v e => ?_), T.keep _ _ _ st8 fun b hb o e => (pin' b hb o e).1, fun b hb => ?_, ?_⟩
      · rw [← hw9] at e
        exact (wipe_some e).1
      · obtain ⟨o, e, _⟩ := T.obj _ _ st8 b hb
        exact (pin' b hb o e).2
      · cases b with
        | true => exact hNx H10 q10
        | false => exact q10
end
end My

set_option Elab.async false
set_option linter.all false
set_option maxRecDepth 100000
namespace My
open PySem PySem.Spec PyProof.Rows L2 GxR

/-! ### a def whose code object is known -/
section
variable {P : Program} {w : World} {K : PySem.W.Frag} {mg : Str → Option Value} {base : Heap}
theorem okC {x qual : Str} {st : Stmt} {f c : Addr} {fd : FuncData} {N ps : List Str} {k : Nat} {sp : Sp} (F : Fun K x qual st f fd) (hc : fd.code = .ref c) (S : FnScope N ps (defScope st))
    (len : ∀ vs H Q E, sp vs H Q E → vs.length = ps.length)
    (hbody : ∀ (A : Around) (outer : List Env) (s : Shared) (H : Hp) (vs : List V) (Q : VK) (E : XK), Room k (A.deeper (envOfC qual (defScope st) s.heap.objs.size f (.ref c))) → sp vs H Q E →
      ∃ t, PSs (cxOf CX0 P w K mg base N qual (defScope st) f (.ref c) A outer s H E).nox (defBody st) t ∧ t { nx := fun _ H' => Q .non H', rt := Q } (start N vs) H) : FnOk P w K mg base CX0 (k + 1) f fd ps sp := by
  obtain ⟨oc, od, kV, doc, pm, an, cdv, ct, osl, rfl, lk, hcd⟩ := F.ex
  have e : cdv = .ref c := hc
  subst e
  refine fn_of lk hcd S len fun A outer s H vs Q E hr hsp => ?_
  obtain ⟨t, h, q⟩ := hbody A outer s H vs Q E hr hsp
  exact ⟨t, h.nox, q⟩
theorem fun_of {x qual : Str} {st : Stmt} {f : Addr} {fd : FuncData} {kws : List (Str × V)} (F : FunD K x qual (defArgs st) (defBody st) (defScope st) [] kws f fd) : Fun K x qual st f fd := by
  obtain ⟨oc, od, dV, kV, doc, pm, an, cdv, ct, osl, rfl, lk, hcd, hD, _⟩ := F.ex
  rcases hD with ⟨_, rfl⟩ | ⟨e, _⟩
  · exact ⟨⟨oc, od, kV, doc, pm, an, cdv, ct, osl, rfl, lk, hcd⟩, F.kp⟩
  · exact absurd rfl e
end

/-! ### a < b < c < d -/
section
variable {X : Cx} {a b c d : Expr} {ta tb tc td : TE} {pos : Pos}
def tChain3 (r1 r2 r3 : R2) (ta tb tc td : TE) : TE := fun σ H Q => ta σ H fun x H1 => tb σ H1 fun y H2 => r1 x y H2 fun z H3 => ∃ k, z = .bl k ∧
  (if k = true then tc σ H3 fun v H4 => r2 y v H4 fun z H5 => ∃ k, z = .bl k ∧ (if k = true then td σ H5 fun u H6 => r3 v u H6 Q else Q (.bl false) H5) else Q (.bl false) H3)
theorem pe_chain3 {o1 o2 o3 : CmpOp} {r1 r2 r3 : R2} (h1 : OpR X (compareOp o1) r1) (h2 : OpR X (compareOp o2) r2) (h3 : OpR X (compareOp o3) r3) (ha : PE X a ta) (hb : PE X b tb) (hc : PE X c tc) (hd : PE X d td)
    (hm : lastMarks [o1, o2, o3] [b, c, d] = false := by with_unfolding_all rfl) : PE X (.Compare a [o1, o2, o3] [b, c, d] pos) (tChain3 r1 r2 r3 ta tb tc td) := by
  refine ⟨fun pins s σ H Q I h => ?_⟩
  refine Compare_chain (thn (ha.run pins s σ H _ I h) fun v s1 ⟨x, H1, I1, q1, p1⟩ => chain_link (thn (hb.run pins s1 σ H1 _ I1 p1) fun u s2 ⟨y, H2, I2, q2, p2⟩ =>
    thn (h1 pins s2 σ H2 x y v u _ I2 q1 q2 p2) fun e s3 ⟨z, H3, I3, q3, k, ek, p3⟩ => ?_)) hm
  subst ek
  cases q3
  refine wpAny_truthy_bool ?_
  cases k with
  | false => exact ite_ff ⟨.bl false, H3, I3, rfl, p3⟩
  | true =>
    refine ite_tt (chain_link (thn (hc.run pins s3 σ H3 _ I3 p3) fun u4 s4 ⟨y4, H4, I4, q4, p4⟩ => thn (h2 pins s4 σ H4 y y4 u u4 _ I4 q2 q4 p4) fun e5 s5 ⟨z5, H5, I5, q5, k5, ek5, p5⟩ => ?_))
    subst ek5
    cases q5
    refine wpAny_truthy_bool ?_
    cases k5 with
    | false => exact ite_ff ⟨.bl false, H5, I5, rfl, p5⟩
    | true => exact ite_tt (chain_last (thn (hd.run pins s5 σ H5 _ I5 p5) fun u6 s6 ⟨y6, H6, I6, q6, p6⟩ => h3 pins s6 σ H6 y4 y6 u4 u6 Q I6 q4 q6 p6))
end

/-! ### all over what is walked -/
theorem allG_it {J : It} {n : Nat} {G : Hp → Prop} {Y : Nat → Hp → V → Hp → Prop} (w : Walk J n G Y) {g : TG} {te : TE} {vs : List Nat} {σ : L2.St} {H0 : Hp} {QT QF : Hp → Prop} (Pv : Nat → Hp → Prop) (h0 : Pv 0 H0) (hG : ∀ i H, i ≤ n → Pv i H → G H)
    (hs : ∀ i x H H', i < n → Pv i H → Y i H x H' → g x (wipe σ vs) H' fun σ2 H2 => wipe σ2 vs = wipe σ vs ∧ te σ2 H2 fun y H3 => ∃ b, y = .bl b ∧ if b = true then Pv (i + 1) H3 else QF H3)
    (hd : ∀ H, Pv n H → QT H) :
    ∃ W : Nat → Nat → Hp → Prop, (∃ m, W 0 m H0) ∧ ∀ i m H, W i m H → (J.stop i H ∧ QT H) ∨
      (J.go i H ∧ ∃ Nx : Hp → Prop, (∀ H', Nx H' → ∃ m', m' < m ∧ W (i + 1) m' H') ∧ ∀ x H', J.yld i H x H' → g x (wipe σ vs) H' fun σ2 H2 => wipe σ2 vs = wipe σ vs ∧
        te σ2 H2 fun y H3 => ∃ b, y = .bl b ∧ if b = true then Nx H3 else QF H3) := by
  refine ⟨fun i m H => m = n - i ∧ i ≤ n ∧ Pv i H, ⟨n, rfl, Nat.zero_le _, h0⟩, ?_⟩
  rintro i m H ⟨rfl, hi, p⟩
  have q := hG i H hi p
  by_cases hlt : i < n
  · exact .inr ⟨w.goes i H hlt q, Pv (i + 1), fun H' p' => ⟨n - (i + 1), by omega, rfl, hlt, p'⟩, fun x H' y => hs i x H H' hlt p (w.yields i H x H' hlt q y)⟩
  · have e : i = n := by omega
    subst e
    exact .inl ⟨w.stops H q, hd H p⟩
theorem walk_zipT {K : PySem.W.Frag} {a b : Addr} {xs ys : List V} {n : Nat} (hn : n = min xs.length ys.length) :
    Walk (RZ.ItzT K a b) n (fun H => SqT K H a xs ∧ SqT K H b ys) (YPair (fun i => xs[i]?) (fun i => ys[i]?)) := by
  subst hn
  refine ⟨fun i _ hi q => ?_, fun _ q => ⟨xs, ys, q.1, q.2, by omega⟩, fun i H v H' _ q y => ?_⟩
  · have h1 : i < xs.length := by omega
    have h2 : i < ys.length := by omega
    exact ⟨xs, ys, xs[i], ys[i], q.1, q.2, List.getElem?_eq_getElem h1, List.getElem?_eq_getElem h2⟩
  · obtain ⟨T, x, z, h1, h2, h3, h4, h5⟩ := y
    exact ⟨T, x, z, h1, h2, h3, h4 xs q.1, h5 ys q.2⟩
theorem cut1 (xs : List V) : cutV xs (some 1) none = xs.drop 1 := by
  unfold cutV
  rw [show HT.sIx xs.length 0 (some 1) = min 1 xs.length from HT.sIx_nat xs.length 0 1, HT.sIx_none]
  cases xs with
  | nil => rfl
  | cons x r =>
    rw [show min 1 (x :: r).length = 1 by rw [List.length_cons]; omega]
    show (List.take ((x :: r).length - 1) r) = r
    rw [List.length_cons, Nat.add_sub_cancel]
    exact List.take_length
theorem lex_of {s t : Int × Int} (h : ltT s t) : HT.lexLt [s.1, s.2] [t.1, t.2] = true := by
  rw [HT.lexLt_cons]
  rcases h with h | ⟨h, k⟩
  · rw [if_neg (by omega)]; exact decide_eq_true h
  · rw [if_pos h, HT.lexLt_cons, if_neg (by omega)]; exact decide_eq_true k
end My

set_option Elab.async false
set_option linter.all false
set_option maxRecDepth 100000
namespace My
open PySem PySem.Spec PyProof.Rows L2
def topS (i : Nat) : Stmt := PySem.Challenge.pw_pointedties_k38_gaps_and_parts.main.body.getD i (.Pass ⟨0, 0, 0, 0⟩)
section
variable {P : Program} {w : World} {K : PySem.W.Frag} {mg : Str → Option Value} {base : Heap}

/-! ### _law_mix -/
abbrev s__law_mix : Stmt := topS 20
abbrev N__law_mix : List Str := ["_law_cell", "_law_k", "_law_m"]
theorem sc__law_mix : FnScope N__law_mix ["_law_cell", "_law_k"] (defScope s__law_mix) := ⟨rfl, rfl, rfl, by decide +kernel, rfl, by decide +kernel, by decide +kernel⟩
def sp_mix : Sp := fun vs H Q _ => ∃ c k : Int, vs = [.int c, .int k] ∧ -(2 ^ 60) < k ∧ k < 2 ^ 60 ∧
  ∀ r : Int, 0 ≤ r → Q (.int r) H
theorem ok_mix {f : Addr} {fd : FuncData} (F : Fun K "_law_mix" "_law_mix" s__law_mix f fd) :
    FnOk P w K mg base CX0 1 f fd ["_law_cell", "_law_k"] sp_mix := by
  refine F.ok sc__law_mix (fun vs H Q E h => ?_) (fun cdv A outer s H vs Q E hr h => ?_)
  · obtain ⟨c, k, rfl, _⟩ := h; rfl
  · obtain ⟨c, k, rfl, h1, h2, q⟩ := h
    refine ⟨_, (pss_cons (ps_set (i := 2) sc__law_mix.nd rfl (by first | exact Or.inl rfl | exact Or.inr rfl) (pe_op op_mod (pe_op op_mul (pe_op op_add (pe_op op_add (pe_op op_mod (pv 0) pe_int) (pe_op op_mul (pe_op op_mul (pv 1) (pv 1)) pe_int)) pe_int) pe_int) pe_int))
    (pss_one (ps_ret (pe_op op_mod (pe_op op_mul (pv 2) (pv 2)) pe_int)))), ?_⟩
    refine ⟨_, rfl, _, _, rfl, rfl, (by decide : (0 : Int) < 2147483629), ?_⟩
    refine ⟨_, rfl, _, rfl, _, _, rfl, rfl, .inl ⟨by omega, by omega⟩, ?_⟩
    refine ⟨_, _, rfl, rfl, .inr ⟨by decide, by decide⟩, ?_⟩
    refine ⟨_, _, rfl, rfl, ?_⟩
    refine ⟨_, _, rfl, rfl, ?_⟩
    refine ⟨_, _, rfl, rfl, .inr ⟨by decide, by decide⟩, ?_⟩
    refine ⟨_, _, rfl, rfl, (by decide : (0 : Int) < 2147483647), ?_⟩
    have b1 : ∀ x : Int, 0 ≤ x % 2147483647 := fun x => Int.emod_nonneg _ (by decide)
    have b2 : ∀ x : Int, x % 2147483647 < 2147483647 := fun x => Int.emod_lt_of_pos _ (by decide)
    refine ⟨_, rfl, _, rfl, _, _, rfl, rfl, .inl ⟨by have := b1 (((c % 2147483629 + k * k * 7919) + 11) * 48271); omega, by have := b2 (((c % 2147483629 + k * k * 7919) + 11) * 48271); omega⟩, ?_⟩
    refine ⟨_, _, rfl, rfl, (by decide : (0 : Int) < 1999999973), ?_⟩
    exact q _ (Int.emod_nonneg _ (by decide))

/-! ### _law_left -/
abbrev s__law_left : Stmt := topS 21
abbrev N__law_left : List Str := ["_law_script", "_law_k", "_law_cell"]
theorem sc__law_left : FnScope N__law_left ["_law_script", "_law_k"] (defScope s__law_left) := ⟨rfl, rfl, rfl, by decide +kernel, rfl, by decide +kernel, by decide +kernel⟩
def sp_left (K : PySem.W.Frag) : Sp := fun vs H Q _ => ∃ (a : Addr) (ns : List Int) (k : Int), vs = [.ref a, .int k] ∧ SqL K H a (ns.map V.int) ∧ 0 ≤ k ∧ k < 2 ^ 60 ∧
  ∀ L H', H L = none → Same H H' → Lf H' L 0 → Q (.ref L) H'
theorem ok_left {f : Addr} {fd : FuncData} (B : Bts mg) (F : Fun K "_law_left" "_law_left" s__law_left f fd) :
    FnOk P w K mg base CX0 1 f fd ["_law_script", "_law_k"] (sp_left K) := by
  refine F.ok sc__law_left (fun vs H Q E h => ?_) (fun cdv A outer s H vs Q E hr h => ?_)
  · obtain ⟨c, k, _, rfl, _⟩ := h; rfl
  · obtain ⟨a, ns, k, rfl, hS, h1, h2, q⟩ := h
    refine ⟨_, (pss_cons (ps_set (i := 2) sc__law_left.nd rfl (by first | exact Or.inl rfl | exact Or.inr rfl) (pe_ifExp (pt_cmpR op_lt (pv 1) (pe_callB call_len_seq (by rfl) B.len (by decide +kernel) (pa_cons (pv 0) pa_nil)) (nomark _)) (pe_ix ix_list (pv 0) (pv 1) (fun _ _ => rfl)) pe_int))
    (pss_one (ps_ret (pe_lst (pa_cons (pe_op op_mul (pe_callB call_abs (by rfl) B.abs (by decide +kernel) (pa_cons (pv 2) pa_nil)) (pe_callTy call_int1 (by rfl) B.int (by decide +kernel) (pa_cons (pe_cmpR op_ge (pe_callB call_abs (by rfl) B.abs (by decide +kernel) (pa_cons (pv 2) pa_nil)) (pe_op op_pow pe_int pe_int) (nomark _)) pa_nil))) (pa_cons (pe_op op_add (pv 2) (pe_op op_mul pe_int (pv 1))) (pa_cons pe_int pa_nil))))))), ?_⟩
    have rest : ∀ x : Int, (tRet (tLst (tCons (tOp (rI CMul fun i j => .int (i * j)) (tCB (fun xs H Q => ∃ i, xs = [.int i] ∧ Q (.int (if i < 0 then -i else i)) H) (tCons (tVar 2) tNil)) (tCB (fun xs H Q => (∃ i, xs = [.int i] ∧ Q (.int i) H) ∨ ∃ k, xs = [.bl k] ∧ Q (.int (if k then 1 else 0)) H) (tCons (tOp (rI0 fun i j => .bl (decide (j ≤ i))) (tCB (fun xs H Q => ∃ i, xs = [.int i] ∧ Q (.int (if i < 0 then -i else i)) H) (tCons (tVar 2) tNil)) (tOp (rI CPow fun i j => .int (i ^ j.toNat)) (tC (.int 10)) (tC (.int 18)))) tNil))) (tCons (tOp (rI0 fun i j => .int (i + j)) (tVar 2) (tOp (rI CMul fun i j => .int (i * j)) (tC (.int 1000003)) (tVar 1))) (tCons (tC (.int 0)) tNil))))) { nx := fun _ H' => Q .non H', rt := Q } ((start N__law_left [.ref a, .int k]).set 2 (some (.int x))) H := by
      intro x
      refine ⟨_, rfl, _, rfl, ?_⟩
      refine ⟨_, rfl, _, rfl, ?_⟩
      refine ⟨_, _, rfl, rfl, ⟨by decide, by decide, by decide⟩, ?_⟩
      refine ⟨_, _, rfl, rfl, .inr ⟨_, rfl, ?_⟩⟩
      refine ⟨_, _, rfl, rfl, .inr ⟨?_, ?_⟩, ?_⟩
      · exact (bi _).1
      · exact (bi _).2.1
      refine ⟨_, rfl, _, rfl, _, _, rfl, rfl, .inl ⟨by decide, by decide⟩, ?_⟩
      refine ⟨_, _, rfl, rfl, ?_⟩
      refine ⟨by show 3 ≤ sizeLine; decide, fun p np => ?_⟩
      refine q p _ np (same_new np) ⟨_, _, _, upd_same, ?_, Int.le_refl _, Int.le_refl _⟩
      refine Int.mul_nonneg ?_ ?_
      · split <;> omega
      · exact (bi _).2.2
    refine ⟨_, rfl, _, rfl, a, _, rfl, .inl hS, _, _, rfl, rfl, _, rfl, ite2 (fun e => ?_) (fun e => ?_)⟩
    · have e := of_decide_eq_true e
      rw [List.length_map] at e
      have hk : k.toNat < ns.length := by omega
      have g : (ns.map V.int)[k.toNat]? = some (.int ns[k.toNat]) := by
        rw [List.getElem?_map, List.getElem?_eq_getElem hk]; rfl
      have g2 := atI_nat g
      rw [Int.toNat_of_nonneg h1] at g2
      refine ⟨_, rfl, _, rfl, a, _, k, _, rfl, rfl, hS, g2, ?_⟩
      exact rest _
    · exact rest 0

/-! ### _law_pick -/
abbrev s__law_pick : Stmt := topS 22
abbrev N__law_pick : List Str := ["_law_left_here", "_law_many", "_law_digit"]
theorem sc__law_pick : FnScope N__law_pick ["_law_left_here", "_law_many"] (defScope s__law_pick) := ⟨rfl, rfl, rfl, by decide +kernel, rfl, by decide +kernel, by decide +kernel⟩
def sp_pick : Sp := fun vs H Q _ => ∃ (L : Addr) (m c : Int), vs = [.ref L, .int m] ∧ Lf H L c ∧ 0 < m ∧ m < 1000000 ∧ c < 2 ^ 50 ∧
  ∀ (r : Int) (H' : Hp), 0 ≤ r → r < m → Fr L H H' → Lf H' L (c + 1) → Q (.int r) H'
theorem ok_pick {f : Addr} {fd : FuncData} (F : Fun K "_law_pick" "_law_pick" s__law_pick f fd) (c__law_mix : Cl P w K mg base 1 "_law_mix" sp_mix) :
    FnOk P w K mg base CX0 2 f fd ["_law_left_here", "_law_many"] sp_pick := by
  refine F.ok sc__law_pick (fun vs H Q E h => ?_) (fun cdv A outer s H vs Q E hr h => ?_)
  · obtain ⟨c, k, _, rfl, _⟩ := h; rfl
  · obtain ⟨L, m, c, rfl, ⟨x, y, z, hL, hx, hz, hzc⟩, h1, h2, h3, q⟩ := h
    refine ⟨_, (pss_cons (ps_asg (pe_op op_add (pe_ix ix_list (pv 0) pe_int (fun _ _ => rfl)) pe_int) (pg_sub (pv 0) pe_int set_list))
    (pss_cons (ps_if (pt_cmpR op_gt (pe_ix ix_list (pv 0) pe_int (fun _ _ => rfl)) pe_int (nomark _)) (pss_cons (ps_set (i := 2) sc__law_pick.nd rfl (by first | exact Or.inl rfl | exact Or.inr rfl) (pe_op op_mod (pe_ix ix_list (pv 0) pe_int (fun _ _ => rfl)) (pv 1)))
      (pss_cons (ps_asg (pe_op op_fdiv (pe_ix ix_list (pv 0) pe_int (fun _ _ => rfl)) (pv 1)) (pg_sub (pv 0) pe_int set_list))
      (pss_one (ps_ret (pv 2))))) pss_nil)
    (pss_one (ps_ret (pe_op op_mod (pe_op op_fdiv (pe_c c__law_mix hr (by decide) (by rfl) (pa_cons (pe_c c__law_mix hr (by decide) (by rfl) (pa_cons (pe_ix ix_list (pv 0) pe_int (fun _ _ => rfl)) (pa_cons (pe_ix ix_list (pv 0) pe_int (fun _ _ => rfl)) pa_nil))) (pa_cons (pe_op op_add (pe_ix ix_list (pv 0) pe_int (fun _ _ => rfl)) pe_int) pa_nil))) pe_int) (pv 1)))))), ?_⟩
    refine ⟨_, rfl, L, _, _, _, rfl, rfl, SqL.of hL, rfl, _, _, rfl, rfl, ?_⟩
    refine ⟨_, rfl, L, _, _, _, rfl, rfl, hL, rfl, ?_⟩
    refine ⟨_, rfl, L, _, _, _, rfl, rfl, SqL.of upd_same, rfl, _, _, rfl, rfl, _, rfl, ite2 (fun e => ?_) (fun e => ?_)⟩
    · refine ⟨_, rfl, L, _, _, _, rfl, rfl, SqL.of upd_same, rfl, _, rfl, _, _, rfl, rfl, h1, ?_⟩
      refine ⟨_, rfl, L, _, _, _, rfl, rfl, SqL.of upd_same, rfl, _, rfl, _, _, rfl, rfl, ⟨h1, by omega⟩, ?_⟩
      refine ⟨_, rfl, L, _, _, _, rfl, rfl, upd_same, rfl, ?_⟩
      refine ⟨_, rfl, ?_⟩
      refine q _ _ (Int.emod_nonneg _ (by omega)) (Int.emod_lt_of_pos _ h1) ((Fr.refl L H).putL.putL) ⟨_, _, _, upd_same, ?_, ?_, ?_⟩
      · exact Int.ediv_nonneg hx (Int.le_of_lt h1)
      · omega
      · omega
    · refine ⟨_, rfl, L, _, _, _, rfl, rfl, SqL.of upd_same, rfl, ?_⟩
      refine ⟨_, rfl, L, _, _, _, rfl, rfl, SqL.of upd_same, rfl, ?_⟩
      refine ⟨_, _, rfl, by omega, by omega, fun r hr0 => ?_⟩
      refine ⟨_, rfl, L, _, _, _, rfl, rfl, SqL.of upd_same, rfl, _, _, rfl, rfl, ?_⟩
      refine ⟨_, _, rfl, by omega, by omega, fun r2 hr2 => ?_⟩
      refine ⟨_, _, rfl, rfl, ⟨by decide, by decide⟩, ?_⟩
      refine ⟨_, rfl, _, _, rfl, rfl, h1, ?_⟩
      exact q _ _ (Int.emod_nonneg _ (by omega)) (Int.emod_lt_of_pos _ h1) (Fr.refl L H).putL ⟨_, _, _, upd_same, hx, by omega, by omega⟩
end
end My

set_option Elab.async false
set_option linter.all false
set_option maxRecDepth 100000
namespace My
open PySem PySem.Spec PyProof.Rows L2
section
variable {P : Program} {w : World} {K : PySem.W.Frag} {mg : Str → Option Value} {base : Heap}

/-! ### _law_row -/
abbrev s__law_row : Stmt := topS 24
abbrev N__law_row : List Str := ["_law_left_here", "_law_many", "_law_row_here", "_law_k"]
theorem sc__law_row : FnScope N__law_row ["_law_left_here", "_law_many"] (defScope s__law_row) := ⟨rfl, rfl, rfl, by decide +kernel, rfl, by decide +kernel, by decide +kernel⟩
def sp_row : Sp := fun vs H Q _ => ∃ (L : Addr) (n : Nat) (c : Int), vs = [.ref L, .int (n : Int)] ∧ Lf H L c ∧ n ≤ 100 ∧ c < 2 ^ 49 ∧
  ∀ (p : Addr) (ns : List Int) (H' : Hp), H p = none → Fr L H H' → Lf H' L (c + n) → H' p = some (.lst (ns.map V.int)) → ns.Perm (up n) → Q (.ref p) H'
theorem ok_row {f : Addr} {fd : FuncData} (B : Bts mg) (F : Fun K "_law_row" "_law_row" s__law_row f fd) (c__law_pick : Cl P w K mg base 2 "_law_pick" sp_pick) :
    FnOk P w K mg base CX0 3 f fd ["_law_left_here", "_law_many"] sp_row := by
  refine F.ok sc__law_row (fun vs H Q E h => ?_) (fun cdv A outer s H vs Q E hr h => ?_)
  · obtain ⟨L, n, c, rfl, _⟩ := h; rfl
  · obtain ⟨L, n, c, rfl, hL, hn, hc, q⟩ := h
    refine ⟨_, (pss_cons (ps_set (i := 2) sc__law_row.nd rfl (by first | exact Or.inl rfl | exact Or.inr rfl) (pe_lst pa_nil))
    (pss_cons (ps_for PassesOwn.never rfl (pi_range1 (by rfl) B.range (pa_cons (pv 1) pa_nil)) (pg_name (i := 3) sc__law_row.nd rfl (by first | exact Or.inl rfl | exact Or.inr rfl))
      (pss_one (ps_expr (pe_bm PySem.F.plainAttrs_list PySem.F.slot_list_insert PySem.F.type_list_insert mt_insert (pv 2) (pa_cons (pe_c c__law_pick hr (by decide) (by rfl) (pa_cons (pv 0) (pa_cons (pe_op op_add (pv 3) pe_int) pa_nil))) (pa_cons (pv 3) pa_nil))))))
    (pss_one (ps_ret (pv 2))))), ?_⟩
    refine ⟨Nat.zero_le _, fun o no => ?_⟩
    refine ⟨_, rfl, _, rfl, by omega, by omega, ?_⟩
    refine for_range (fun i σ H1 => ∃ (ns : List Int) (y3 : Option V), σ = [some (.ref L), some (.int (n : Int)), some (.ref o), y3] ∧ Fr L H H1 ∧ Lf H1 L (c + i) ∧ H1 o = some (.lst (ns.map V.int)) ∧ ns.Perm (up i)) ⟨[], none, rfl, Fr.new no, (hL.new no).mono (by omega), upd_same, .refl _⟩ ?_ ?_
    · rintro i σ H1 hi ⟨ns, y3, rfl, fr, lf, eo, hp⟩
      have hi : i < n := by omega
      have no' : o ≠ L := hL.ne no
      refine ⟨_, rfl, .inl ⟨rfl, _, SqL.of eo⟩, ?_⟩
      refine ⟨_, rfl, _, rfl, _, _, rfl, rfl, ?_⟩
      refine ⟨L, _, c + i, rfl, lf, by omega, by omega, by omega, fun r H2 r0 r1 fr2 lf2 => ?_⟩
      refine ⟨_, rfl, ?_⟩
      have eo2 := fr2 _ _ no' eo
      refine ⟨o, _, _, _, rfl, rfl, eo2, sz' ?_, r0, by omega, ?_⟩
      · rw [List.length_map, hp.length_eq, up_len]; omega
      · refine ⟨ns.take r.toNat ++ [(i : Int)] ++ ns.drop r.toNat, _, rfl, ?_, ?_, ?_, ?_⟩
        · exact (fr.trans fr2).put no
        · exact (lf2.mono (by omega)).put no'
        · rw [upd_same, List.map_append, List.map_append, List.map_take, List.map_drop, Int.zero_add]; rfl
        · rw [up_succ]
          exact (ins_perm _ _ _).trans (hp.append_right _)
    · rintro σ H1 ⟨ns, y3, rfl, fr, lf, eo, hp⟩
      rw [Int.toNat_natCast] at lf hp
      exact ⟨_, rfl, q o ns H1 no fr lf eo hp⟩
end
end My

set_option Elab.async false
set_option linter.all false
set_option maxRecDepth 100000
namespace My
open PySem PySem.Spec PyProof.Rows L2
section
variable {P : Program} {w : World} {K : PySem.W.Frag} {mg : Str → Option Value} {base : Heap}

def sp_gen : Sp := fun vs H Q _ => ∃ (L : Addr) (n : Nat) (c : Int), vs = [.ref L, .int (n : Int)] ∧ Lf H L c ∧ n ≤ 12 ∧ c < 2 ^ 48 ∧
  ∀ (v : V) (H' : Hp) (ts : List (Int × Int)), Fr L H H' → Lf H' L (c + 100000) → Web H' v n ts → WOk n ts → Q v H'

end
end My

set_option Elab.async false
set_option linter.all false
set_option maxRecDepth 100000
namespace My
open PySem PySem.Spec PyProof.Rows L2
section
variable {P : Program} {w : World} {K : PySem.W.Frag} {mg : Str → Option Value} {base : Heap}

/-- rows of all places, each a list of its own, none of them at one of two places -/
def Rws (H : Hp) (n : Nat) (L D : Addr) (vs : List V) : Prop :=
  ∀ v ∈ vs, ∃ (p : Addr) (ns : List Int), v = .ref p ∧ p ≠ L ∧ p ≠ D ∧ H p = some (.lst (ns.map V.int)) ∧ ns.Perm (up n)

end
end My

set_option Elab.async false
set_option linter.all false
set_option maxRecDepth 100000
namespace My
open PySem PySem.Spec PyProof.Rows L2
section
variable {P : Program} {w : World} {K : PySem.W.Frag} {mg : Str → Option Value} {base : Heap}

end
end My

set_option Elab.async false
set_option linter.all false
set_option maxRecDepth 100000
namespace My
open PySem PySem.Spec PyProof.Rows L2

/-! ### heaps: all stays but what stands at some places -/
def FrM (M : List Addr) (H H' : Hp) : Prop := ∀ b o, b ∉ M → H b = some o → H' b = some o
theorem FrM.refl (M : List Addr) (H : Hp) : FrM M H H := fun _ _ _ h => h
theorem FrM.trans {M : List Addr} {H H1 H2 : Hp} (a : FrM M H H1) (b : FrM M H1 H2) : FrM M H H2 := fun c o n h => b c o n (a c o n h)
theorem FrM.same {M : List Addr} {H H' : Hp} (a : Same H H') : FrM M H H' := fun b o _ h => a b o h
theorem FrM.wk {M N : List Addr} {H H' : Hp} (a : FrM M H H') (h : ∀ x ∈ M, x ∈ N) : FrM N H H' := fun b o n e => a b o (fun m => n (h b m)) e
theorem FrM.put {M : List Addr} {H H' : Hp} {p : Addr} {o : HO} (a : FrM M H H') (h : p ∈ M) : FrM M H (upd H' p o) := fun b x n e => by
  rw [upd_ne (fun z => n (by rw [z]; exact h))]; exact a b x n e
theorem FrM.putN {M : List Addr} {H H' : Hp} {p : Addr} {o : HO} (a : FrM M H H') (h : H p = none) : FrM M H (upd H' p o) := fun b x n e => by
  rw [upd_ne (ne_of_none e h)]; exact a b x n e
theorem FrM.tst {M : List Addr} {H H' : Hp} (a : FrM M H H') (h : ∀ x ∈ M, ∃ xs, H x = some (.lst xs)) : Tst H H' := fun b xs e => by
  refine a b _ (fun m => ?_) e
  obtain ⟨ys, z⟩ := h b m
  rw [z] at e; cases e
theorem Fr.m {L : Addr} {M : List Addr} {H H' : Hp} (a : Fr L H H') (h : L ∈ M) : FrM M H H' := fun b o n e => a b o (fun z => n (by rw [z]; exact h)) e

/-- a list of numbers that stands at none of some places -/
def Gp (M : List Addr) (H : Hp) (v : V) (g : List Int) : Prop := ∃ p, v = .ref p ∧ p ∉ M ∧ H p = some (.lst (g.map V.int))
theorem Gp.mono {M N : List Addr} {H H' : Hp} {v : V} {g : List Int} (h : Gp M H v g) (a : FrM M H H') (s : ∀ x ∈ N, x ∈ M) : Gp N H' v g := by
  obtain ⟨p, e, n, h⟩ := h
  exact ⟨p, e, fun m => n (s p m), a p _ n h⟩
theorem Gp.new {M : List Addr} {H : Hp} {v : V} {g : List Int} {D : Addr} {o : HO} (h : Gp M H v g) (nD : H D = none) : Gp (D :: M) (upd H D o) v g := by
  obtain ⟨p, e, n, h⟩ := h
  have ne := ne_of_none h nD
  refine ⟨p, e, fun m => ?_, by rw [upd_ne ne]; exact h⟩
  rcases List.mem_cons.mp m with m | m
  · exact ne m
  · exact n m
theorem ixN_in {n : Nat} {i : Int} (h0 : 0 ≤ i) (h1 : i < n) : ixN n i = some i.toNat := by unfold ixN; rw [if_pos h0, if_pos h1]

section
variable {P : Program} {w : World} {K : PySem.W.Frag} {mg : Str → Option Value} {base : Heap}

end
end My

set_option Elab.async false
set_option linter.all false
set_option maxRecDepth 100000
namespace My
open PySem PySem.Spec PyProof.Rows L2
section
variable {P : Program} {w : World} {K : PySem.W.Frag} {mg : Str → Option Value} {base : Heap}

end
end My

set_option Elab.async false
set_option linter.all false
set_option maxRecDepth 100000
namespace My
open PySem PySem.Spec PyProof.Rows L2 GxR
/-! ### tables -/
theorem tabG_new {H : Hp} {P p : Addr} {o : HO} (h : TabG H P) (e : H p = none) : TabG (upd H p o) P := by
  obtain ⟨ps, h1, h2⟩ := h
  exact ⟨ps, by rw [upd_ne (ne_of_none h1 e)]; exact h1, h2⟩
theorem tb_frM {H H' : Hp} {P : Addr} (h : Tabbed P H H') : FrM [P] H H' := fun b o n e => by
  rw [h.2 b (fun z => n (by rw [z]; exact List.mem_singleton.mpr rfl))]; exact e
theorem tb_tst {H H' : Hp} {P : Addr} (h : Tabbed P H H') (hP : TabG H P) : Tst H H' := fun b xs e => by
  refine tb_frM h b _ (fun z => ?_) e
  obtain ⟨ps, h1, _⟩ := hP
  rw [List.mem_singleton.mp z, h1] at e; cases e
section
variable {P : Program} {w : World} {K : PySem.W.Frag} {mg : Str → Option Value} {base : Heap}

/-! ### is_number -/
abbrev s_is_number : Stmt := topS 1
abbrev N_is_number : List Str := ["thing"]
theorem sc_is_number : FnScope N_is_number ["thing"] (defScope s_is_number) := ⟨rfl, rfl, rfl, by decide +kernel, rfl, by decide +kernel, by decide +kernel⟩
def sp_num : Sp := fun vs H Q _ => ∃ i : Int, vs = [.int i] ∧ Q (.bl true) H
theorem ok_number {f : Addr} {fd : FuncData} (B : Bts mg) (F : Fun K "is_number" "is_number" s_is_number f fd) : FnOk P w K mg base CX0 1 f fd ["thing"] sp_num := by
  refine F.ok sc_is_number (fun vs H Q E h => ?_) (fun cdv A outer s H vs Q E hr h => ?_)
  · obtain ⟨i, rfl, _⟩ := h; rfl
  · obtain ⟨i, rfl, q⟩ := h
    refine ⟨_, (pss_one (ps_ret (pe_and (pe_callB call_isi (by rfl) B.isinstance (by decide +kernel) (pa_cons (pv 0) (pa_cons (pe_bltn (v := .ty "int") (by rfl) B.int (by decide +kernel) rfl) pa_nil))) (pe_one (pe_not (pe_callB call_isi (by rfl) B.isinstance (by decide +kernel) (pa_cons (pv 0) (pa_cons (pe_bltn (v := .ty "bool") (by rfl) B.bool (by decide +kernel) rfl) pa_nil)))))))), ?_⟩
    refine ⟨_, rfl, _, _, _, _, true, rfl, .ty _, .base (.int i), kit_ty (by decide +kernel), true, rfl, iteT ?_⟩
    exact ⟨_, rfl, _, _, _, _, false, rfl, .ty _, .base (.int i), kit_ty (by decide +kernel), false, rfl, q⟩
end
end My

set_option Elab.async false
set_option linter.all false
set_option maxRecDepth 100000
namespace My
open PySem PySem.Spec PyProof.Rows L2 GxR

/-! ### things alike -/
def Atom (x : V) : Prop := x = .non ∨ (∃ b, x = .bl b) ∨ (∃ i, x = .int i) ∨ ∃ z, x = .str z
def Eqd : Nat → Hp → V → V → Prop
  | 0, _, x, y => x = y ∧ Atom x
  | m + 1, H, x, y => (x = y ∧ Atom x) ∨ ∃ a b xs ys, x = .ref a ∧ y = .ref b ∧ ((H a = some (.tup xs) ∧ H b = some (.tup ys)) ∨ (H a = some (.lst xs) ∧ H b = some (.lst ys))) ∧
      xs.length = ys.length ∧ xs.length ≤ 10000 ∧ ∀ (i : Nat) (v u : V), xs[i]? = some v → ys[i]? = some u → Eqd m H v u
theorem Eqd.mono : ∀ {m : Nat} {H H' : Hp} {x y : V}, Same H H' → Eqd m H x y → Eqd m H' x y
  | 0, _, _, _, _, _, h => h
  | m + 1, H, H', _, _, s, .inl h => .inl h
  | m + 1, H, H', _, _, s, .inr ⟨a, b, xs, ys, e1, e2, h, l, l2, k⟩ => .inr ⟨a, b, xs, ys, e1, e2, h.imp (fun z => ⟨s _ _ z.1, s _ _ z.2⟩) (fun z => ⟨s _ _ z.1, s _ _ z.2⟩), l, l2, fun i v u e f => Eqd.mono s (k i v u e f)⟩
theorem Eqd.int {m : Nat} {H : Hp} {i : Int} : Eqd m H (.int i) (.int i) := by
  cases m with
  | zero => exact ⟨rfl, .inr (.inr (.inl ⟨i, rfl⟩))⟩
  | succ m => exact .inl ⟨rfl, .inr (.inr (.inl ⟨i, rfl⟩))⟩
theorem Eqd.up : ∀ {m : Nat} {H : Hp} {x y : V}, Eqd m H x y → Eqd (m + 1) H x y
  | 0, _, _, _, h => .inl h
  | m + 1, _, _, _, .inl h => .inl h
  | m + 1, _, _, _, .inr ⟨a, b, xs, ys, e1, e2, h, l, l2, k⟩ => .inr ⟨a, b, xs, ys, e1, e2, h, l, l2, fun i v u e f => (k i v u e f).up⟩
theorem tie_eqd {H : Hp} {v u : V} {t : Int × Int} (h : Tie H v t) (k : Tie H u t) : Eqd 1 H v u := by
  obtain ⟨p, rfl, h⟩ := h
  obtain ⟨q, rfl, k⟩ := k
  refine .inr ⟨p, q, _, _, rfl, rfl, .inl ⟨h, k⟩, rfl, by show 2 ≤ 10000; decide, fun i v u e f => ?_⟩
  match i, e, f with
  | 0, e, f => cases e; cases f; exact Eqd.int
  | 1, e, f => cases e; cases f; exact Eqd.int
theorem tup_eqd {H : Hp} {p q : Addr} {vs us : List V} {ts : List (Int × Int)} (hp : H p = some (.tup vs)) (hq : H q = some (.tup us)) (h : Ties H vs ts) (k : Ties H us ts) (l : ts.length ≤ 10000) : Eqd 2 H (.ref p) (.ref q) := by
  refine .inr ⟨p, q, vs, us, rfl, rfl, .inl ⟨hp, hq⟩, by rw [h.len, k.len], by rw [h.len]; exact l, fun i v u e f => ?_⟩
  obtain ⟨t1, e1, h1⟩ := h.at e
  obtain ⟨t2, e2, h2⟩ := k.at f
  rw [e1] at e2; cases e2
  exact tie_eqd h1 h2
theorem web_eqd {H : Hp} {v u : V} {n : Nat} {ts : List (Int × Int)} (h : Web H v n ts) (k : Web H u n ts) (l : ts.length ≤ 10000) : Eqd 3 H v u := by
  obtain ⟨p, q, vs, rfl, h1, h2, h3⟩ := h
  obtain ⟨p', q', us, rfl, k1, k2, k3⟩ := k
  refine .inr ⟨p, p', _, _, rfl, rfl, .inl ⟨h1, k1⟩, rfl, by show 2 ≤ 10000; decide, fun i v u e f => ?_⟩
  match i, e, f with
  | 0, e, f => cases e; cases f; exact Eqd.int
  | 1, e, f => cases e; cases f; exact tup_eqd h2 k2 h3 k3 l

section
variable {P : Program} {w : World} {K : PySem.W.Frag} {mg : Str → Option Value} {base : Heap}
/-! ### _law_same -/
abbrev s__law_same : Stmt := topS 25
abbrev N__law_same : List Str := ["_law_found", "_law_due", "_law_one", "_law_other"]
theorem sc__law_same : FnScope N__law_same ["_law_found", "_law_due"] (defScope s__law_same) := ⟨rfl, rfl, rfl, by decide +kernel, rfl, by decide +kernel, by decide +kernel⟩
def sp_same : Nat → Sp
  | 0 => fun _ _ _ _ => False
  | m + 1 => fun vs H Q _ => ∃ x y, vs = [x, y] ∧ Eqd m H x y ∧ ∀ H', Same H H' → Q (.bl true) H'
theorem kany {t : Value} {a b : Bool} (h1 : PySem.W.kitOne K t (.type "list") = some a) (h2 : PySem.W.kitOne K t (.type "tuple") = some b) : PySem.W.kitAny K t [.type "list", .type "tuple"] = some (a || b) := by
  refine kitAny_cons h1 (fun z => ?_) (fun z => by rw [z]; rfl)
  subst z
  exact kitAny_cons h2 (fun z => by rw [z]; rfl) (fun z => by rw [z]; rfl)
theorem all_rep (n : Nat) : (List.replicate n true).all id = true := by
  rw [List.all_eq_true]
  intro x hx
  rw [(List.mem_replicate.mp hx).2]; rfl
theorem ok_same1 {f : Addr} {fd : FuncData} {m : Nat} (B : Bts mg) (F : Fun K "_law_same" "_law_same" s__law_same f fd) (c__law_same : Cl P w K mg base m "_law_same" (sp_same m)) :
    FnOk P w K mg base CX0 (m + 1) f fd ["_law_found", "_law_due"] (sp_same (m + 1)) := by
  refine F.ok sc__law_same (fun vs H Q E h => ?_) (fun cdv A outer s H vs Q E hr h => ?_)
  · obtain ⟨x, y, rfl, _⟩ := h; rfl
  · obtain ⟨x, y, rfl, hE, q⟩ := h
    refine ⟨_, (pss_cons (ps_if (pt_val (pe_callB call_isiT (by rfl) B.isinstance (by decide +kernel) (pa_cons (pv 1) (pa_cons (pe_tup (pa_cons (pe_bltn (v := .ty "list") (by rfl) B.list (by decide +kernel) rfl) (pa_cons (pe_bltn (v := .ty "tuple") (by rfl) B.tuple (by decide +kernel) rfl) pa_nil))) pa_nil)))) (pss_cons (ps_if (PW.pt (pw_or (pt_cmpR op_ne (pe_callB call_isi (by rfl) B.isinstance (by decide +kernel) (pa_cons (pv 0) (pa_cons (pe_bltn (v := .ty "list") (by rfl) B.list (by decide +kernel) rfl) pa_nil))) (pe_callB call_isi (by rfl) B.isinstance (by decide +kernel) (pa_cons (pv 1) (pa_cons (pe_bltn (v := .ty "list") (by rfl) B.list (by decide +kernel) rfl) pa_nil))) (nomark _)) (pw_or1 (pt_cmpR op_ne (pe_callB call_isi (by rfl) B.isinstance (by decide +kernel) (pa_cons (pv 0) (pa_cons (pe_bltn (v := .ty "tuple") (by rfl) B.tuple (by decide +kernel) rfl) pa_nil))) (pe_callB call_isi (by rfl) B.isinstance (by decide +kernel) (pa_cons (pv 1) (pa_cons (pe_bltn (v := .ty "tuple") (by rfl) B.tuple (by decide +kernel) rfl) pa_nil))) (nomark _))))) (pss_one (ps_ret pe_bl)) pss_nil)
      (pss_one (ps_ret (pe_and (pe_cmpR op_eq (pe_callB call_len_seq (by rfl) B.len (by decide +kernel) (pa_cons (pv 0) pa_nil)) (pe_callB call_len_seq (by rfl) B.len (by decide +kernel) (pa_cons (pv 1) pa_nil)) (nomark _)) (pe_one (pe_callB (cr_all rfl) (by rfl) B.all (by decide +kernel) (pa_cons (pe_lc (own := [("_law_one", 2), ("_law_other", 3)]) (g := (gTup K 2 (gCons (gName 2) (gCons (gName 3) gNil)))) (tt := tYes) rfl sc__law_same.nd (RZ.pi_zipA (by rfl) B.zip (pa_cons (pv 0) (pa_cons (pv 1) pa_nil))) (blkOk_by (own := [("_law_one", 2), ("_law_other", 3)]) (N := N__law_same) (sc := defScope s__law_same) (by decide +kernel)) (fun _ _ _ _ _ => (pg_tup rfl (pgs_cons (pg_name (i := 2) sc__law_same.nd rfl (by first | exact Or.inl rfl | exact Or.inr rfl)) (pgs_cons (pg_name (i := 3) sc__law_same.nd rfl (by first | exact Or.inl rfl | exact Or.inr rfl)) pgs_nil)))) (fun _ _ _ _ _ => pts_nil) (fun _ _ _ _ _ => (pe_c c__law_same hr (Nat.le_refl _) (by rfl) (pa_cons (pv 2) (pa_cons (pv 3) pa_nil))))) pa_nil))))))) pss_nil)
    (pss_cons (ps_if (PW.pt (pw_or (pt_cmpR op_isN (pv 1) pe_non (nomark _)) (pw_or1 (pt_val (pe_callB call_isi (by rfl) B.isinstance (by decide +kernel) (pa_cons (pv 1) (pa_cons (pe_bltn (v := .ty "str") (by rfl) B.str (by decide +kernel) rfl) pa_nil))))))) (pss_one (ps_ret (pe_and (pe_cmpR op_eq (pv 0) (pv 1) (nomark _)) (pe_one (pe_cmpR op_eq (pe_callB call_isi (by rfl) B.isinstance (by decide +kernel) (pa_cons (pv 0) (pa_cons (pe_bltn (v := .ty "str") (by rfl) B.str (by decide +kernel) rfl) pa_nil))) (pe_callB call_isi (by rfl) B.isinstance (by decide +kernel) (pa_cons (pv 1) (pa_cons (pe_bltn (v := .ty "str") (by rfl) B.str (by decide +kernel) rfl) pa_nil))) (nomark _)))))) pss_nil)
    (pss_cons (ps_if (pt_val (pe_callB call_isi (by rfl) B.isinstance (by decide +kernel) (pa_cons (pv 1) (pa_cons (pe_bltn (v := .ty "bool") (by rfl) B.bool (by decide +kernel) rfl) pa_nil)))) (pss_one (ps_ret (pe_and (pe_callB call_isi (by rfl) B.isinstance (by decide +kernel) (pa_cons (pv 0) (pa_cons (pe_bltn (v := .ty "bool") (by rfl) B.bool (by decide +kernel) rfl) pa_nil))) (pe_one (pe_cmpR op_eq (pv 0) (pv 1) (nomark _)))))) pss_nil)
    (pss_one (ps_ret (pe_and (pe_callB call_isi (by rfl) B.isinstance (by decide +kernel) (pa_cons (pv 0) (pa_cons (pe_bltn (v := .ty "int") (by rfl) B.int (by decide +kernel) rfl) pa_nil))) (pe_and (pe_not (pe_callB call_isi (by rfl) B.isinstance (by decide +kernel) (pa_cons (pv 0) (pa_cons (pe_bltn (v := .ty "bool") (by rfl) B.bool (by decide +kernel) rfl) pa_nil)))) (pe_one (pe_cmpR op_eq (pv 0) (pv 1) (nomark _)))))))))), ?_⟩
    have nw : ∀ {tp : Addr} {o : HO}, H tp = none → Same H (upd H tp o) := fun h => same_new h
    have hE' : (x = y ∧ Atom x) ∨ ∃ m', m = m' + 1 ∧ ∃ a b xs ys, x = .ref a ∧ y = .ref b ∧ ((H a = some (.tup xs) ∧ H b = some (.tup ys)) ∨ (H a = some (.lst xs) ∧ H b = some (.lst ys))) ∧
        xs.length = ys.length ∧ xs.length ≤ 10000 ∧ ∀ (i : Nat) (v u : V), xs[i]? = some v → ys[i]? = some u → Eqd m' H v u := by
      cases m with
      | zero => exact .inl hE
      | succ m =>
        rcases hE with h | h
        · exact .inl h
        · exact .inr ⟨m, rfl, h⟩
    rcases hE' with ⟨e, ha⟩ | ⟨m, rfl, a, b, xs, ys, rfl, rfl, hab, hl, hl2, hk⟩
    · subst e
      rcases ha with rfl | ⟨b, rfl⟩ | ⟨i, rfl⟩ | ⟨z, rfl⟩
      · refine ⟨_, rfl, by show 2 ≤ sizeLine; decide, fun tp ntp => ⟨_, tp, _, _, _, _, rfl, upd_same, .cons (.ty _) (.cons (.ty _) .nil), .base .non, kany (a := false) (b := false) (kit_ty (by decide +kernel)) (kit_ty (by decide +kernel)), false, rfl, iteF ?_⟩⟩
        refine ⟨_, rfl, rfl, _, rfl, iteT (iteT ?_)⟩
        refine ⟨_, rfl, _, rfl, rfl, true, rfl, iteT ?_⟩
        refine ⟨_, rfl, _, _, _, _, false, rfl, .ty _, .base .non, kit_ty (by decide +kernel), ?_⟩
        refine ⟨_, rfl, _, _, _, _, false, rfl, .ty _, .base .non, kit_ty (by decide +kernel), rfl, ?_⟩
        exact q _ (nw ntp)
      · refine ⟨_, rfl, by show 2 ≤ sizeLine; decide, fun tp ntp => ⟨_, tp, _, _, _, _, rfl, upd_same, .cons (.ty _) (.cons (.ty _) .nil), .base (.bl b), kany (a := false) (b := false) (kit_ty (by decide +kernel)) (kit_ty (by decide +kernel)), false, rfl, iteF ?_⟩⟩
        refine ⟨_, rfl, rfl, _, rfl, iteF ?_⟩
        refine ⟨_, rfl, _, _, _, _, false, rfl, .ty _, .base (.bl b), kit_ty (by decide +kernel), false, rfl, iteF ?_⟩
        refine ⟨_, rfl, _, _, _, _, true, rfl, .ty _, .base (.bl b), kit_ty (by decide +kernel), true, rfl, iteT ?_⟩
        refine ⟨_, rfl, _, _, _, _, true, rfl, .ty _, .base (.bl b), kit_ty (by decide +kernel), true, rfl, iteT ?_⟩
        refine ⟨_, rfl, _, rfl, rfl, ?_⟩
        rw [decide_eq_true rfl]
        exact q _ (nw ntp)
      · refine ⟨_, rfl, by show 2 ≤ sizeLine; decide, fun tp ntp => ⟨_, tp, _, _, _, _, rfl, upd_same, .cons (.ty _) (.cons (.ty _) .nil), .base (.int i), kany (a := false) (b := false) (kit_ty (by decide +kernel)) (kit_ty (by decide +kernel)), false, rfl, iteF ?_⟩⟩
        refine ⟨_, rfl, rfl, _, rfl, iteF ?_⟩
        refine ⟨_, rfl, _, _, _, _, false, rfl, .ty _, .base (.int i), kit_ty (by decide +kernel), false, rfl, iteF ?_⟩
        refine ⟨_, rfl, _, _, _, _, false, rfl, .ty _, .base (.int i), kit_ty (by decide +kernel), false, rfl, iteF ?_⟩
        refine ⟨_, rfl, _, _, _, _, true, rfl, .ty _, .base (.int i), kit_ty (by decide +kernel), true, rfl, iteT ?_⟩
        refine ⟨_, rfl, _, _, _, _, false, rfl, .ty _, .base (.int i), kit_ty (by decide +kernel), false, rfl, true, rfl, iteT ?_⟩
        refine ⟨_, rfl, _, rfl, rfl, ?_⟩
        rw [decide_eq_true rfl]
        exact q _ (nw ntp)
      · refine ⟨_, rfl, by show 2 ≤ sizeLine; decide, fun tp ntp => ⟨_, tp, _, _, _, _, rfl, upd_same, .cons (.ty _) (.cons (.ty _) .nil), .base (.str z), kany (a := false) (b := false) (kit_ty (by decide +kernel)) (kit_ty (by decide +kernel)), false, rfl, iteF ?_⟩⟩
        refine ⟨_, rfl, rfl, _, rfl, iteF ?_⟩
        refine ⟨_, rfl, _, _, _, _, true, rfl, .ty _, .base (.str z), kit_ty (by decide +kernel), true, rfl, iteT ?_⟩
        refine ⟨_, rfl, _, rfl, rfl, _, rfl, ?_⟩
        rw [decide_eq_true rfl]
        refine iteT ⟨_, rfl, _, _, _, _, true, rfl, .ty _, .base (.str z), kit_ty (by decide +kernel), ?_⟩
        refine ⟨_, rfl, _, _, _, _, true, rfl, .ty _, .base (.str z), kit_ty (by decide +kernel), rfl, ?_⟩
        exact q _ (nw ntp)
    · rcases hab with ⟨ea, eb⟩ | ⟨ea, eb⟩
      · refine ⟨_, rfl, by show 2 ≤ sizeLine; decide, fun tp ntp => ?_⟩
        have s1 := nw (o := .tup [.ty "list", .ty "tuple"]) ntp
        have ea1 := s1 _ _ ea
        have eb1 := s1 _ _ eb
        refine ⟨_, tp, _, _, _, _, rfl, upd_same, .cons (.ty _) (.cons (.ty _) .nil), .base (.tup eb1), kany (a := false) (b := true) (kit_ty (by decide +kernel)) (kit_ty (by decide +kernel)), true, rfl, iteT ?_⟩
        refine ⟨_, rfl, _, _, _, _, false, rfl, .ty _, .base (.tup ea1), kit_ty (by decide +kernel), ?_⟩
        refine ⟨_, rfl, _, _, _, _, false, rfl, .ty _, .base (.tup eb1), kit_ty (by decide +kernel), rfl, false, rfl, iteF ?_⟩
        refine ⟨_, rfl, _, _, _, _, true, rfl, .ty _, .base (.tup ea1), kit_ty (by decide +kernel), ?_⟩
        refine ⟨_, rfl, _, _, _, _, true, rfl, .ty _, .base (.tup eb1), kit_ty (by decide +kernel), rfl, false, rfl, iteF ?_⟩
        refine ⟨_, rfl, a, xs, rfl, .inr (SqT.of ea1), _, rfl, b, ys, rfl, .inr (SqT.of eb1), rfl, _, rfl, ?_⟩
        rw [decide_eq_true (by rw [hl])]
        refine iteT ⟨_, rfl, _, rfl, a, b, xs, ys, rfl, .inr ⟨SqT.of ea1, SqT.of eb1, fun D nD => ?_⟩⟩
        refine lc_it (walk_zipT (K := K) (a := a) (b := b) (xs := xs) (ys := ys) rfl) (fun i H2 => Same (upd H tp (.tup [.ty "list", .ty "tuple"])) H2 ∧ H2 D = some (.lst ((List.replicate i true).map V.bl))) ⟨same_new nD, upd_same⟩ ?_ ?_ ?_
        · rintro i H2 _ ⟨s2, _⟩
          exact ⟨SqT.of (s2 _ _ ea1), SqT.of (s2 _ _ eb1)⟩
        · rintro i v H2 H3 hi ⟨s2, eD⟩ ⟨T, x1, x2, rfl, nT, rfl, ex1, ex2⟩
          refine ⟨T, _, rfl, SqT.of upd_same, rfl, _, _, rfl, _, _, rfl, rfl, rfl, yes ?_⟩
          have s3 := s2.trans (same_new (o := .tup [x1, x2]) nT)
          refine ⟨_, rfl, _, rfl, x1, x2, rfl, (hk i x1 x2 ex1 ex2).mono (s1.trans s3), fun H4 s4 => ?_⟩
          have eD4 := s4 _ _ ((same_new (o := .tup [x1, x2]) nT) _ _ eD)
          refine ⟨_, eD4, sz' (by rw [List.length_map, List.length_replicate]; omega), Same.put (s3.trans s4) nD, ?_⟩
          rw [upd_same, List.replicate_succ', List.map_append]; rfl
        · rintro H2 ⟨s2, eD⟩
          refine ⟨D, _, rfl, SqL.of eD, ?_⟩
          rw [all_rep]
          exact q _ (s1.trans s2)
      · refine ⟨_, rfl, by show 2 ≤ sizeLine; decide, fun tp ntp => ?_⟩
        have s1 := nw (o := .tup [.ty "list", .ty "tuple"]) ntp
        have ea1 := s1 _ _ ea
        have eb1 := s1 _ _ eb
        refine ⟨_, tp, _, _, _, _, rfl, upd_same, .cons (.ty _) (.cons (.ty _) .nil), .base (.lst eb1), kany (a := true) (b := false) (kit_ty (by decide +kernel)) (kit_ty (by decide +kernel)), true, rfl, iteT ?_⟩
        refine ⟨_, rfl, _, _, _, _, true, rfl, .ty _, .base (.lst ea1), kit_ty (by decide +kernel), ?_⟩
        refine ⟨_, rfl, _, _, _, _, true, rfl, .ty _, .base (.lst eb1), kit_ty (by decide +kernel), rfl, false, rfl, iteF ?_⟩
        refine ⟨_, rfl, _, _, _, _, false, rfl, .ty _, .base (.lst ea1), kit_ty (by decide +kernel), ?_⟩
        refine ⟨_, rfl, _, _, _, _, false, rfl, .ty _, .base (.lst eb1), kit_ty (by decide +kernel), rfl, false, rfl, iteF ?_⟩
        refine ⟨_, rfl, a, xs, rfl, .inl (SqL.of ea1), _, rfl, b, ys, rfl, .inl (SqL.of eb1), rfl, _, rfl, ?_⟩
        rw [decide_eq_true (by rw [hl])]
        refine iteT ⟨_, rfl, _, rfl, a, b, xs, ys, rfl, .inl ⟨SqL.of ea1, SqL.of eb1, fun D nD => ?_⟩⟩
        refine lc_it (walk_zip (K := K) (a := a) (b := b) (xs := xs) (ys := ys) rfl) (fun i H2 => Same (upd H tp (.tup [.ty "list", .ty "tuple"])) H2 ∧ H2 D = some (.lst ((List.replicate i true).map V.bl))) ⟨same_new nD, upd_same⟩ ?_ ?_ ?_
        · rintro i H2 _ ⟨s2, _⟩
          exact ⟨SqL.of (s2 _ _ ea1), SqL.of (s2 _ _ eb1)⟩
        · rintro i v H2 H3 hi ⟨s2, eD⟩ ⟨T, x1, x2, rfl, nT, rfl, ex1, ex2⟩
          refine ⟨T, _, rfl, SqT.of upd_same, rfl, _, _, rfl, _, _, rfl, rfl, rfl, yes ?_⟩
          have s3 := s2.trans (same_new (o := .tup [x1, x2]) nT)
          refine ⟨_, rfl, _, rfl, x1, x2, rfl, (hk i x1 x2 ex1 ex2).mono (s1.trans s3), fun H4 s4 => ?_⟩
          have eD4 := s4 _ _ ((same_new (o := .tup [x1, x2]) nT) _ _ eD)
          refine ⟨_, eD4, sz' (by rw [List.length_map, List.length_replicate]; omega), Same.put (s3.trans s4) nD, ?_⟩
          rw [upd_same, List.replicate_succ', List.map_append]; rfl
        · rintro H2 ⟨s2, eD⟩
          refine ⟨D, _, rfl, SqL.of eD, ?_⟩
          rw [all_rep]
          exact q _ (s1.trans s2)
theorem ok_same {f : Addr} {fd : FuncData} (B : Bts mg) (F : Fun K "_law_same" "_law_same" s__law_same f fd) (hm : mg "_law_same" = some (.ref f)) (hb : Binds K fd ["_law_found", "_law_due"] []) :
    ∀ m, FnOk P w K mg base CX0 m f fd ["_law_found", "_law_due"] (sp_same m)
  | 0 => ⟨fun _ _ _ _ h => h.elim, fun _ _ _ _ _ _ _ _ _ _ _ _ _ h => h.elim⟩
  | m + 1 => ok_same1 B F (Cl.mk' F hm hb (ok_same B F hm hb m))
end
end My

set_option Elab.async false
set_option linter.all false
set_option maxRecDepth 100000
namespace My
open PySem PySem.Spec PyProof.Rows L2 GxR

/-! ### dict comprehensions over what is walked -/
theorem dc_it {J : It} {n : Nat} {G : Hp → Prop} {Y : Nat → Hp → V → Hp → Prop} (w : Walk J n G Y) {g : TG} {tt : TT} {tk tv : TE} {vs : List Nat} {σ : L2.St} {H1 : Hp} {D : Addr} {Qd : Hp → Prop} (Pv : Nat → Hp → Prop)
    (h0 : Pv 0 (upd H1 D (.dK []))) (hG : ∀ i H, i ≤ n → Pv i H → G H)
    (hs : ∀ i x H H', i < n → Pv i H → Y i H x H' → g x (wipe σ vs) H' fun σ2 H2 => wipe σ2 vs = wipe σ vs ∧ tt σ2 H2 fun b H3 =>
      if b = true then tk σ2 H3 fun y H4 => tv σ2 H4 fun z H5 => ∃ kvs k, y = kV k ∧ H5 D = some (.dK kvs) ∧ kvs.length < sizeLine ∧ Pv (i + 1) (upd H5 D (.dK (putK kvs k z))) else Pv (i + 1) H3)
    (hd : ∀ H, Pv n H → Qd H) :
    ∃ W : Nat → Nat → Hp → Prop, (∃ m, W 0 m (upd H1 D (.dK []))) ∧ ∀ i m H, W i m H → (J.stop i H ∧ Qd H) ∨
      (J.go i H ∧ ∃ Nx : Hp → Prop, (∀ H', Nx H' → ∃ m', m' < m ∧ W (i + 1) m' H') ∧ ∀ x H', J.yld i H x H' → g x (wipe σ vs) H' fun σ2 H2 => wipe σ2 vs = wipe σ vs ∧ tt σ2 H2 fun b H3 =>
        if b = true then tk σ2 H3 fun y H4 => tv σ2 H4 fun z H5 => ∃ kvs k, y = kV k ∧ H5 D = some (.dK kvs) ∧ kvs.length < sizeLine ∧ Nx (upd H5 D (.dK (putK kvs k z))) else Nx H3) := by
  refine ⟨fun i m H => m = n - i ∧ i ≤ n ∧ Pv i H, ⟨n, rfl, Nat.zero_le _, h0⟩, ?_⟩
  rintro i m H ⟨rfl, hi, p⟩
  have q := hG i H hi p
  by_cases hlt : i < n
  · exact .inr ⟨w.goes i H hlt q, Pv (i + 1), fun H' p' => ⟨n - (i + 1), by omega, rfl, hlt, p'⟩, fun x H' y => hs i x H H' hlt p (w.yields i H x H' hlt q y)⟩
  · have e : i = n := by omega
    subst e
    exact .inl ⟨w.stops H q, hd H p⟩

/-! ### what a dict tells behind a store -/
theorem valV_put {κ : Type} [DecidableEq κ] (kvs : List (κ × V)) (k : κ) (v : V) (j : κ) : valV (putK kvs k v) j = if j = k then some v else valV kvs j := by
  unfold putK
  by_cases h : (kvs.any fun kv => decide (kv.1 = k)) = true
  · rw [if_pos h]
    induction kvs with
    | nil => cases h
    | cons p r ih =>
      rw [List.map_cons]
      by_cases hp : p.1 = k
      · rw [if_pos hp]
        by_cases hj : j = k
        · rw [if_pos hj, valV_pos (by rw [hj]; exact hp)]
        · rw [if_neg hj, valV_neg (fun z => hj (by rw [← z]; exact hp)), valV_neg (fun z => hj (by rw [← z]; exact hp))]
          by_cases hr : (r.any fun kv => decide (kv.1 = k)) = true
          · have := ih hr
            rw [if_neg hj] at this
            exact this
          · have : (r.map fun kv => if kv.1 = k then (kv.1, v) else kv) = r := by
              clear ih h
              induction r with
              | nil => rfl
              | cons q s ih2 =>
                rw [List.any_cons, Bool.or_eq_true] at hr
                have h1 : ¬ q.1 = k := fun z => hr (.inl (decide_eq_true z))
                have h2 : ¬ (s.any fun kv => decide (kv.1 = k)) = true := fun z => hr (.inr z)
                rw [List.map_cons, if_neg h1, ih2 h2]
            rw [this]
      · rw [if_neg hp]
        rw [List.any_cons, decide_eq_false hp, Bool.false_or] at h
        have := ih h
        by_cases hj : p.1 = j
        · rw [valV_pos hj, valV_pos hj, if_neg (fun z => hp (by rw [hj]; exact z))]
        · rw [valV_neg hj, valV_neg hj]; exact this
  · rw [if_neg h]
    induction kvs with
    | nil =>
      rw [List.nil_append]
      by_cases hj : j = k
      · rw [if_pos hj, valV_pos hj.symm]
      · rw [if_neg hj, valV_neg (fun z => hj z.symm)]
    | cons p r ih =>
      rw [List.any_cons, Bool.or_eq_true] at h
      have h1 : ¬ p.1 = k := fun z => h (.inl (decide_eq_true z))
      have h2 : ¬ (r.any fun kv => decide (kv.1 = k)) = true := fun z => h (.inr z)
      rw [List.cons_append]
      by_cases hj : p.1 = j
      · rw [valV_pos hj, valV_pos hj, if_neg (fun z => h1 (by rw [hj]; exact z))]
      · rw [valV_neg hj, valV_neg hj]; exact ih h2
theorem len_put {κ : Type} [DecidableEq κ] (kvs : List (κ × V)) (k : κ) (v : V) : (putK kvs k v).length ≤ kvs.length + 1 := by
  unfold putK
  split
  · rw [List.length_map]; exact Nat.le_succ _
  · rw [List.length_append]; exact Nat.le_refl _

/-! ### rising lists of places, parts of webs -/
def Ris (n : Nat) (pl : List Int) : Prop := pl.Pairwise (· < ·) ∧ ∀ p ∈ pl, 0 ≤ p ∧ p < (n : Int)
theorem Ris.nodup {n : Nat} {pl : List Int} (h : Ris n pl) : pl.Nodup := List.nodup_iff_pairwise_ne.mpr (h.1.imp fun {a b} z e => by omega)
theorem Ris.len {n : Nat} {pl : List Int} (h : Ris n pl) : pl.length ≤ n := by
  have := nd_len (m := up n) h.nodup fun x hx => mem_up.mpr (h.2 x hx)
  rwa [up_len] at this
theorem idx_get {pl : List Int} {a : Int} (h : a ∈ pl) : pl[pl.idxOf a]? = some a := by
  have hl := List.idxOf_lt_length_of_mem h
  rw [List.getElem?_eq_getElem hl, List.getElem_idxOf hl]
theorem idx_of {pl : List Int} (nd : pl.Nodup) {i : Nat} {a : Int} (h : pl[i]? = some a) : pl.idxOf a = i := by
  obtain ⟨hi, e⟩ := List.getElem?_eq_some_iff.mp h
  have hm : a ∈ pl := List.mem_of_getElem? h
  have hl := List.idxOf_lt_length_of_mem hm
  have e2 := List.getElem_idxOf hl
  have pw := List.pairwise_iff_getElem.mp (List.nodup_iff_pairwise_ne.mp nd)
  rcases Nat.lt_trichotomy (pl.idxOf a) i with z | z | z
  · exact absurd (e2.trans e.symm) (pw _ _ hl hi z)
  · exact z
  · exact absurd (e.trans e2.symm) (pw _ _ hi hl z)
theorem ris_lt {n : Nat} {pl : List Int} (h : Ris n pl) {i j : Nat} {a b : Int} (hi : pl[i]? = some a) (hj : pl[j]? = some b) : i < j ↔ a < b := by
  obtain ⟨li, ei⟩ := List.getElem?_eq_some_iff.mp hi
  obtain ⟨lj, ej⟩ := List.getElem?_eq_some_iff.mp hj
  have pw := List.pairwise_iff_getElem.mp h.1
  constructor
  · intro z
    have := pw i j li lj z
    omega
  · intro z
    rcases Nat.lt_trichotomy i j with c | c | c
    · exact c
    · subst c; omega
    · have := pw j i lj li c
      omega
def partL (ts : List (Int × Int)) (pl : List Int) : List (Int × Int) :=
  (ts.filter fun t => decide (t.1 ∈ pl) && decide (t.2 ∈ pl)).map fun t => ((pl.idxOf t.1 : Int), (pl.idxOf t.2 : Int))
theorem mem_part {ts : List (Int × Int)} {pl : List Int} (nd : pl.Nodup) {t : Int × Int} : t ∈ partL ts pl ↔
    ∃ (i j : Nat) (a b : Int), t = ((i : Int), (j : Int)) ∧ pl[i]? = some a ∧ pl[j]? = some b ∧ (a, b) ∈ ts := by
  unfold partL
  rw [List.mem_map]
  constructor
  · rintro ⟨s, hs, rfl⟩
    obtain ⟨h1, h2⟩ := List.mem_filter.mp hs
    rw [Bool.and_eq_true, decide_eq_true_eq, decide_eq_true_eq] at h2
    exact ⟨_, _, s.1, s.2, rfl, idx_get h2.1, idx_get h2.2, h1⟩
  · rintro ⟨i, j, a, b, rfl, hi, hj, h⟩
    refine ⟨(a, b), List.mem_filter.mpr ⟨h, ?_⟩, ?_⟩
    · rw [Bool.and_eq_true, decide_eq_true_eq, decide_eq_true_eq]
      exact ⟨List.mem_of_getElem? hi, List.mem_of_getElem? hj⟩
    · dsimp only
      rw [idx_of nd hi, idx_of nd hj]
theorem part_pw {n : Nat} {ts : List (Int × Int)} {pl : List Int} (hp : Ris n pl) (hw : ts.Pairwise ltT) : (partL ts pl).Pairwise ltT := by
  unfold partL
  rw [List.pairwise_map]
  refine (hw.sublist List.filter_sublist).imp_of_mem fun {s t} hs ht h => ?_
  have h1 := (List.mem_filter.mp hs).2
  have h2 := (List.mem_filter.mp ht).2
  rw [Bool.and_eq_true, decide_eq_true_eq, decide_eq_true_eq] at h1 h2
  have l1 := ris_lt hp (idx_get h1.1) (idx_get h2.1)
  have l2 := ris_lt hp (idx_get h1.2) (idx_get h2.2)
  rcases h with h | ⟨h, k⟩
  · exact .inl (by have := l1.mpr h; dsimp only; omega)
  · refine .inr ⟨by dsimp only; rw [h], ?_⟩
    have := l2.mpr k
    dsimp only; omega
theorem part_wok {n : Nat} {ts : List (Int × Int)} {pl : List Int} (hp : Ris n pl) (hw : WOk n ts) : WOk pl.length (partL ts pl) := by
  refine ⟨part_pw hp hw.1, fun t ht => ?_⟩
  obtain ⟨i, j, a, b, rfl, hi, hj, h⟩ := (mem_part hp.nodup).mp ht
  have hb := hw.2 _ h
  have l := ris_lt hp hi hj
  have := l.mpr hb.2.1
  have := (List.getElem?_eq_some_iff.mp hj).1
  dsimp only
  omega
theorem part_len {ts : List (Int × Int)} {pl : List Int} : (partL ts pl).length ≤ ts.length := by
  unfold partL; rw [List.length_map]; exact List.length_filter_le _ _
theorem ris_up (n : Nat) : Ris n (up n) := by
  refine ⟨?_, fun p hp => mem_up.mp hp⟩
  unfold up
  rw [List.pairwise_map]
  exact List.pairwise_lt_range.imp fun h => by omega
theorem up_get {n i : Nat} (h : i < n) : (up n)[i]? = some (i : Int) := by
  unfold up
  rw [List.getElem?_map, List.getElem?_range h]; rfl
theorem part_up {n : Nat} {ts : List (Int × Int)} (hw : WOk n ts) : partL ts (up n) = ts := by
  refine pw_eq (part_pw (ris_up n) hw.1) hw.1 fun t => ?_
  rw [mem_part (ris_up n).nodup]
  constructor
  · rintro ⟨i, j, a, b, rfl, hi, hj, h⟩
    have li : i < n := by have := (List.getElem?_eq_some_iff.mp hi).1; rwa [up_len] at this
    have lj : j < n := by have := (List.getElem?_eq_some_iff.mp hj).1; rwa [up_len] at this
    rw [up_get li] at hi
    rw [up_get lj] at hj
    cases hi; cases hj
    exact h
  · intro h
    have b := hw.2 t h
    refine ⟨t.1.toNat, t.2.toNat, t.1, t.2, ?_, ?_, ?_, h⟩
    · cases t with | mk x y => dsimp only at b ⊢; congr 1 <;> omega
    · rw [up_get (by omega)]; congr 1; omega
    · rw [up_get (by omega)]; congr 1; omega
theorem part_nil (ts : List (Int × Int)) : partL ts [] = [] := by
  unfold partL
  have : (ts.filter fun t => decide (t.1 ∈ ([] : List Int)) && decide (t.2 ∈ ([] : List Int))) = [] := by
    rw [List.filter_eq_nil_iff]; intro a _; simp
  rw [this]; rfl
/-- some of the places -/
def pick (pl inn : List Int) : List Int := inn.map fun p => pl.getD p.toNat 0
theorem pick_get {pl inn : List Int} {n : Nat} (hi : Ris pl.length inn) {i : Nat} {p : Int} (h : inn[i]? = some p) : ∃ a, pl[p.toNat]? = some a ∧ (pick pl inn)[i]? = some a := by
  have b := hi.2 p (List.mem_of_getElem? h)
  have hl : p.toNat < pl.length := by omega
  refine ⟨pl[p.toNat], List.getElem?_eq_getElem hl, ?_⟩
  unfold pick
  rw [List.getElem?_map, h]
  show some (pl.getD p.toNat 0) = _
  rw [List.getD_eq_getElem?_getD, List.getElem?_eq_getElem hl]; rfl
theorem pick_ris {n : Nat} {pl inn : List Int} (hp : Ris n pl) (hi : Ris pl.length inn) : Ris n (pick pl inn) := by
  refine ⟨?_, fun x hx => ?_⟩
  · rw [List.pairwise_iff_getElem]
    intro i j li lj hij
    have li' : i < inn.length := by unfold pick at li; rwa [List.length_map] at li
    have lj' : j < inn.length := by unfold pick at lj; rwa [List.length_map] at lj
    obtain ⟨a, ha, ga⟩ := pick_get (n := n) hi (List.getElem?_eq_getElem li')
    obtain ⟨b, hb, gb⟩ := pick_get (n := n) hi (List.getElem?_eq_getElem lj')
    rw [List.getElem?_eq_getElem li] at ga
    rw [List.getElem?_eq_getElem lj] at gb
    have e1 := Option.some.inj ga
    have e2 := Option.some.inj gb
    rw [e1, e2]
    have := (List.pairwise_iff_getElem.mp hi.1) i j li' lj' hij
    have b1 := hi.2 _ (List.getElem_mem li')
    have b2 := hi.2 _ (List.getElem_mem lj')
    exact (ris_lt hp ha hb).mp (by omega)
  · unfold pick at hx
    obtain ⟨p, hp', rfl⟩ := List.mem_map.mp hx
    have b := hi.2 p hp'
    have hl : p.toNat < pl.length := by omega
    rw [List.getD_eq_getElem?_getD, List.getElem?_eq_getElem hl]
    exact hp.2 _ (List.getElem_mem hl)
theorem part_part {n : Nat} {ts : List (Int × Int)} {pl inn : List Int} (hw : ts.Pairwise ltT) (hp : Ris n pl) (hi : Ris pl.length inn) :
    partL (partL ts pl) inn = partL ts (pick pl inn) := by
  have hq := pick_ris hp hi
  refine pw_eq (part_pw hi (part_pw hp hw)) (part_pw hq hw) fun t => ?_
  rw [mem_part hi.nodup, mem_part hq.nodup]
  constructor
  · rintro ⟨i, j, a, b, rfl, h1, h2, h3⟩
    obtain ⟨i', j', a', b', e, k1, k2, k3⟩ := (mem_part hp.nodup).mp h3
    cases e
    obtain ⟨x, hx, gx⟩ := pick_get (n := n) hi h1
    obtain ⟨y, hy, gy⟩ := pick_get (n := n) hi h2
    rw [Int.toNat_natCast, k1] at hx
    rw [Int.toNat_natCast, k2] at hy
    cases hx; cases hy
    exact ⟨i, j, _, _, rfl, gx, gy, k3⟩
  · rintro ⟨i, j, a, b, rfl, h1, h2, h3⟩
    have li : i < inn.length := by have := (List.getElem?_eq_some_iff.mp h1).1; unfold pick at this; rwa [List.length_map] at this
    have lj : j < inn.length := by have := (List.getElem?_eq_some_iff.mp h2).1; unfold pick at this; rwa [List.length_map] at this
    obtain ⟨x, hx, gx⟩ := pick_get (n := n) hi (List.getElem?_eq_getElem li)
    obtain ⟨y, hy, gy⟩ := pick_get (n := n) hi (List.getElem?_eq_getElem lj)
    rw [h1] at gx
    rw [h2] at gy
    cases gx; cases gy
    have b1 := hi.2 _ (List.getElem_mem li)
    have b2 := hi.2 _ (List.getElem_mem lj)
    refine ⟨i, j, inn[i], inn[j], rfl, List.getElem?_eq_getElem li, List.getElem?_eq_getElem lj, (mem_part hp.nodup).mpr ⟨inn[i].toNat, inn[j].toNat, a, b, ?_, hx, hy, h3⟩⟩
    congr 1 <;> omega
end My

set_option Elab.async false
set_option linter.all false
set_option maxRecDepth 100000
namespace My
open PySem PySem.Spec PyProof.Rows L2 GxR

/-! ### dict comprehensions with keys of any kind (DPut) -/
section
variable {X : Cx}
theorem d_dictPut {pins : List (Addr × Obj)} {σ : L2.St} {H H' : Hp} {s : Shared} {E : Value → Shared → Prop} {D : Addr} {y v : V} {u r : Value} {Q : Unit → Shared → Prop} (hu : X.A.units + 1 < cLine) (I : Inv X pins σ H s) (g : DPut H D y v H')
    (ry : RelV y u) (rv : RelV v r) (h : ∀ s', Inv X pins σ H' s' → Q () s') : wpAny (model X.prog X.w) X.A (dictSet D u r) Q E s := by
  rcases g with ⟨kvs, k, e, rfl, l, rfl⟩ | ⟨kvs, k, b, e, rfl, eb, l, rfl⟩
  · exact d_dictSet I e l ry rv h
  · cases (show u = Value.ref b from ry)
    obtain ⟨z, hd, xs, rel, dd⟩ := dt_of I.hok e
    have hz : xs.length ≤ sizeLine := by
      rw [← Paired.length rel]; exact z
    have hp := length_putK kvs k v
    refine wpAny_dictSet_heap (hsz := hz) (show X.A.units < cLine from Nat.lt_of_succ_lt hu) (L2.key_of I.hok eb) dd fun h' dd' hs => h _ ?_
    obtain ⟨q, es, ep, hq, h2, h3, h4, _, h5⟩ := dd'
    refine d_write I (by rw [e]; exact True.intro) hs ⟨q, hq⟩ ⟨by omega, hd, _, (rel.put k eb rv).keeps fun c ys ec => ?_, q, es, ep, hq, h2, h3, h4, h5⟩
    rw [upd_ne (ne_of ec e (fun z => nomatch z))]; exact ec
/-- the turn behind what is yielded -/
def dcStep (g : TG) (tt : TT) (tk tv : TE) (vs : List Nat) (σ : L2.St) (D : Addr) (Nx : Hp → Prop) (x : V) (H' : Hp) : Prop :=
  g x (wipe σ vs) H' fun σ2 H2 => wipe σ2 vs = wipe σ vs ∧ tt σ2 H2 fun b H3 => if b = true then tk σ2 H3 fun y H4 => tv σ2 H4 fun z H5 => ∃ H6, DPut H5 D y z H6 ∧ Nx H6 else Nx H3
def tDcP (o0 : HO) (wi : TI) (g : TG) (tt : TT) (tk tv : TE) (vs : List Nat) : TE := fun σ H Q => wi σ H fun J H1 => ∀ D, H1 D = none → ∃ W : Nat → Nat → Hp → Prop, (∃ m, W 0 m (upd H1 D o0)) ∧ ∀ i m H, W i m H →
  (J.stop i H ∧ Q (.ref D) H) ∨ (J.go i H ∧ ∃ Nx : Hp → Prop, (∀ H', Nx H' → ∃ m', m' < m ∧ W (i + 1) m' H') ∧ ∀ x H', J.yld i H x H' → dcStep g tt tk tv vs σ D Nx x H')
/-- a new empty dict may be read so -/
def Empt (o0 : HO) : Prop := ∀ (P : Program) (w : World) (H : Hp) (h : Heap), sysModules < h.objs.size → ObjOk P w H (h.push { cls := .type "dict", data := .dict #[] }) h.objs.size o0
theorem empt_dK : Empt (.dK []) := fun _ _ _ h hb => dk_empty h hb
theorem empt_dT : Empt (.dT []) := fun _ _ _ h hb => dt_empty h hb
abbrev inCell (X : Cx) (s : Shared) (scope : Scope) : Env := compEnvC scope (cellsFrom (s.heap.objs.size + 1) scope.names (cloFrom X.env.cells scope.names [])) s.heap.objs.size X.env
theorem pe_dcP {o0 : HO} {kx vx tg iter : Expr} {ifs : List Expr} {scope : Scope} {own : List (Str × Nat)} {pos : Pos} {wi : TI} {g : TG} {tt : TT} {tk tv : TE} (em : Empt o0) (hu : X.A.units + 1 < cLine) (hc : X.calm = true) (hN : X.N.Nodup) (hi : PI X tg iter wi) (ok : BlkOk X.N X.env.scope scope own)
    (hg : ∀ (s : Shared) (H : Hp) (C : Addr) (cl : List (Str × Addr)) (fp : List Addr), PG (X.blk s H scope (compEnvC scope cl C X.env) fp) tg g)
    (ht : ∀ (s : Shared) (H : Hp) (C : Addr) (cl : List (Str × Addr)) (fp : List Addr), PTs (X.blk s H scope (compEnvC scope cl C X.env) fp) ifs tt)
    (hk : ∀ (s : Shared) (H : Hp) (C : Addr) (cl : List (Str × Addr)) (fp : List Addr), PE (X.blk s H scope (compEnvC scope cl C X.env) fp) kx tk)
    (he : ∀ (s : Shared) (H : Hp) (C : Addr) (cl : List (Str × Addr)) (fp : List Addr), PE (X.blk s H scope (compEnvC scope cl C X.env) fp) vx tv) (hs : ∀ x, foldedSetIterable iter X.env x = pure x := by intro _; rfl) :
    PE X (.DictComp kx vx [⟨tg, iter, ifs, 0⟩] scope pos) (tDcP o0 wi g tt tk tv (own.map (·.2))) := by
  refine ⟨fun pins s σ H Q I h => ?_⟩
  rw [arm_eval_DictComp]
  have fr : ∀ y ∈ scope.names, y.2 = .free → ∃ c, X.env.cells.lookup y.1 = some c := fun y hy e => (ok.free y hy e).elim (fun k => I.ok.has _ (.inl k)) fun k => I.ok.has _ (.inr k)
  refine wpAny_comprehension_free rfl hs (closure_ok fr) ok.kind (fun y hy e => by rw [ok.uniq y hy, e]) ?_
  refine thn (hi.run pins s σ H _ I h) fun _ _ hx => thn hx fun _ s2 h2 => ?_
  obtain ⟨it, fp, tn, J, H2, rfl, I2, T, st2, f2, q⟩ := h2
  refine wpAny_newObj_type (newEnv_comp ?_)
  generalize hD : s2.heap.objs.size = D
  obtain ⟨W, ⟨m0, w0⟩, turn⟩ := q D (I2.hok.fresh (Nat.le_of_eq hD))
  generalize hs3 : (⟨s2.heap.push { cls := .type "dict", data := .dict #[] }, s2.gens, s2.drawn, s2.toks, s2.os⟩ : Shared) = s3
  have I3 : Inv X pins σ (upd H2 D o0) s3 := by
    rw [← hs3]
    refine I2.laid (t' := s2.toks) (fun b o e => Heap.get?_push_of_some _ e) (Nat.le_of_eq hD) ?_
    rw [← hD]; exact em _ _ _ _ I2.big
  have h3 : s3.heap = s2.heap.push { cls := .type "dict", data := .dict #[] } := by rw [← hs3]
  have f3 : ∀ b ∈ fp, FpOk X pins (upd H2 D o0) b ∧ b < s3.heap.objs.size := fun b hb => by
    obtain ⟨o, e, _⟩ := T.obj _ _ st2 b hb
    have hlt := Heap.lt_size e
    refine ⟨⟨?_, (f2 b hb).2⟩, by rw [h3, Heap.size_push]; exact Nat.lt_succ_of_lt hlt⟩
    rw [upd_ne (by rw [← hD]; exact Nat.ne_of_lt hlt)]; exact (f2 b hb).1
  have st3 : tn 0 s3.heap := T.keep _ _ _ st2 fun b _ o e => by rw [h3]; exact Heap.get?_push_of_some _ e
  have I4 := block_start I3 ok hN f3
  have pg := hg s3 (upd H2 D o0) s3.heap.objs.size (cellsFrom (s3.heap.objs.size + 1) scope.names (cloFrom X.env.cells scope.names [])) fp
  have pt := ht s3 (upd H2 D o0) s3.heap.objs.size (cellsFrom (s3.heap.objs.size + 1) scope.names (cloFrom X.env.cells scope.names [])) fp
  have pk := hk s3 (upd H2 D o0) s3.heap.objs.size (cellsFrom (s3.heap.objs.size + 1) scope.names (cloFrom X.env.cells scope.names [])) fp
  have pe := he s3 (upd H2 D o0) s3.heap.objs.size (cellsFrom (s3.heap.objs.size + 1) scope.names (cloFrom X.env.cells scope.names [])) fp
  refine (?_ : codeAny _ _ (.compStart (.DictComp kx vx [⟨tg, iter, ifs, 0⟩] scope pos) 0 (.ref it) (.ref D) (inCell X s3 scope)) (compPost (model X.prog X.w) X.A X.xe none (fun v s' => ∃ x H', Inv X pins σ H' s' ∧ RelV x v ∧ Q x H') (.ref D) s3.heap.objs.size) { s3 with heap := pushCells (s3.heap.push { cls := .type "dict", data := .dict #[] }) scope.names })
  have nfp : ∀ b ∈ fp, (upd H2 D o0) b = none := fun b hb => (f3 b hb).1.1
  obtain ⟨ce, hce⟩ : ∃ ce, inCell X s3 scope = ce := ⟨_, rfl⟩
  have cL : ce.locals = s3.heap.objs.size := by rw [← hce]; rfl
  rw [show compEnvC scope (cellsFrom (s3.heap.objs.size + 1) scope.names (cloFrom X.env.cells scope.names [])) s3.heap.objs.size X.env = ce from hce] at I4 pg pt pk pe
  rw [hce]
  generalize upd H2 D o0 = H3 at I3 I4 pg pt pk pe w0 nfp f3
  obtain ⟨s4, hs4⟩ : ∃ s4 : Shared, { s3 with heap := pushCells (s3.heap.push { cls := .type "dict", data := .dict #[] }) scope.names } = s4 := ⟨_, rfl⟩
  rw [hs4] at I4 ⊢
  have st4 : tn 0 s4.heap := T.keep _ _ _ st3 fun b _ o e => by
    rw [← hs4]; exact pushCells_keeps _ _ _ _ (Heap.get?_push_of_some _ e)
  let Y := X.blk s3 H3 scope ce fp
  have stat : ∀ {σ' : L2.St} {H' : Hp} {s' : Shared}, Inv Y [] σ' H' s' → (∀ b ∈ fp, H' b = none) → ∀ b ∈ fp, FpOk Y [] H' b := fun {σ' H' s'} I' hn b hb =>
    ⟨hn b hb, (I'.ok.exf b hb).1, I'.ok.exfs b hb, .inl hb, fun x c e => (I'.ok.exf b hb).2 x c e, fun p hp => absurd (show p ∈ ([] : List (Addr × Obj)) ++ [] from hp) (by simp)⟩
  let Z : Nat → Shared → Prop := fun n s' => ∃ i H', Inv Y [] (wipe σ (own.map (·.2))) H' s' ∧ tn i s'.heap ∧ (∀ b ∈ fp, H' b = none) ∧ W i n H'
  have loop : codeAny (model X.prog X.w) X.A (.compLoop (.DictComp kx vx [⟨tg, iter, ifs, 0⟩] scope pos) 0 (.ref it) (.ref D) ce) (compPost (model X.prog X.w) X.A X.xe none (fun v s' => ∃ x H', Inv X pins σ H' s' ∧ RelV x v ∧ Q x H') (.ref D) s3.heap.objs.size) s4 := by
    refine compLoop_anyD Z ?_ m0 ⟨0, H3, I4, st4, nfp, w0⟩
    rintro n s5 ⟨i, H5, I5, st5, n5, w5⟩
    rcases turn i n H5 w5 with ⟨stop, qq⟩ | ⟨go, Nx, hNx, step⟩
    · refine thnF (T.done Y rfl rfl rfl hc i [] s5 _ H5 (fun _ _ => False) I5 (stat I5 n5) st5 stop) fun r s6 ⟨hr, I6⟩ => ?_
      subst hr
      have I7 : Inv X pins σ H5 s6 := I3.call' (ch := fp) I6.os I6.base I6.hok I6.bare fun b hb => (fun (z : FpOk X pins H3 b) => ⟨z.2.2.2.1, z.2.1, z.2.2.2.2.1, z.2.2.2.2.2⟩) (f3 b hb).1
      have nC : H5 s3.heap.objs.size = none := by
        rw [← cL]; exact I6.free
      obtain ⟨m, hn, _⟩ := I6.loc
      have hn' : s6.heap.Ns s3.heap.objs.size m := by
        rw [← cL]; exact hn
      obtain ⟨e0, e1, e2, e3, e4, e5⟩ : FpOk X pins H5 s3.heap.objs.size := I3.fpOk (Nat.le_refl _) nC
      exact ⟨m, hn', fun h'' sb => ⟨.ref D, H5, I7.turned (t' := s6.toks) (fun b o hb e => (sb.2 b hb).trans e) e0 e1 e3 e4 e5, rfl, qq⟩⟩
    · refine thnF (T.item Y rfl rfl rfl hc i [] s5 _ H5 (fun _ _ => False) I5 (stat I5 n5) st5 go) fun r s6 ⟨u, hr, h6⟩ => ?_
      subst hr
      refine thnF h6 fun _ s7 ⟨x, H7, I7, r7, y7, st7, n7⟩ => ?_
      refine thnF (pg.run _ s7 _ H7 x u _ (I7.pinned (stat I7 n7) (T.obj _ _ st7)) r7 (step x H7 y7)) fun _ s8 ⟨σ8, H8, I8, hw8, q8⟩ => ?_
      refine thnF (pt.run _ s8 σ8 H8 _ I8 q8) fun b s9 ⟨H9, I9, q9⟩ => ?_
      have fin : ∀ {s' : Shared} {H' : Hp}, Inv Y ([] ++ pinsAt fp s7.heap) σ8 H' s' → Nx H' → ∃ m, m < n ∧ Z m s' := fun {s' H'} I' nx => by
        obtain ⟨m', hm, w'⟩ := hNx H' nx
        have pin' : ∀ b ∈ fp, ∀ o, s7.heap.get? b = some o → s'.heap.get? b = some o ∧ H' b = none := fun b hb o e =>
          (fun z => ⟨z.1, z.2.1⟩) (I'.pin (b, o) (List.mem_append_right _ (List.mem_append_right _ (mem_pinsAt hb e))))
        have hl : (wipe σ (own.map (·.2))).length = σ8.length := by rw [← hw8, wipe_length]
        refine ⟨m', hm, i + 1, H', (I'.unpinned (pins := [])).weak hl (fun j v e => by rw [← hw8] at e; exact (wipe_some e).1), T.keep _ _ _ st7 fun b hb o e => (pin' b hb o e).1, fun b hb => ?_, w'⟩
        obtain ⟨o, e, _⟩ := T.obj _ _ st7 b hb
        exact (pin' b hb o e).2
      cases b with
      | false => exact fin I9 q9
      | true =>
        refine thnF (pk.run _ s9 σ8 H9 _ I9 q9) fun z s10 ⟨yk, H10, I10, r10, q10⟩ => ?_
        refine thnF (pe.run _ s10 σ8 H10 _ I10 q10) fun z2 s11 ⟨yv, H11, I11, r11, H12, pu, nx⟩ => ?_
        exact d_dictPut (X := Y) hu I11 pu r10 r11 fun s12 I12 => fin I12 nx
  exact codeAny_compStart_dict loop (T.self X.A 0 _ _ _ st4 loop)
end
theorem dcP_it {o0 : HO} {J : It} {n : Nat} {G : Hp → Prop} {Y : Nat → Hp → V → Hp → Prop} (w : Walk J n G Y) {g : TG} {tt : TT} {tk tv : TE} {vs : List Nat} {σ : L2.St} {H1 : Hp} {D : Addr} {Qd : Hp → Prop} (Pv : Nat → Hp → Prop)
    (h0 : Pv 0 (upd H1 D o0)) (hG : ∀ i H, i ≤ n → Pv i H → G H) (hs : ∀ i x H H', i < n → Pv i H → Y i H x H' → dcStep g tt tk tv vs σ D (Pv (i + 1)) x H') (hd : ∀ H, Pv n H → Qd H) :
    ∃ W : Nat → Nat → Hp → Prop, (∃ m, W 0 m (upd H1 D o0)) ∧ ∀ i m H, W i m H → (J.stop i H ∧ Qd H) ∨
      (J.go i H ∧ ∃ Nx : Hp → Prop, (∀ H', Nx H' → ∃ m', m' < m ∧ W (i + 1) m' H') ∧ ∀ x H', J.yld i H x H' → dcStep g tt tk tv vs σ D Nx x H') := by
  refine ⟨fun i m H => m = n - i ∧ i ≤ n ∧ Pv i H, ⟨n, rfl, Nat.zero_le _, h0⟩, ?_⟩
  rintro i m H ⟨rfl, hi, p⟩
  have q := hG i H hi p
  by_cases hlt : i < n
  · exact .inr ⟨w.goes i H hlt q, Pv (i + 1), fun H' p' => ⟨n - (i + 1), by omega, rfl, hlt, p'⟩, fun x H' y => hs i x H H' hlt p (w.yields i H x H' hlt q y)⟩
  · have e : i = n := by omega
    subst e
    exact .inl ⟨w.stops H q, hd H p⟩
/-! ### one walker for all -/
theorem wk {J : It} {n : Nat} {G : Hp → Prop} {Y : Nat → Hp → V → Hp → Prop} (w : Walk J n G Y) {S : (Hp → Prop) → V → Hp → Prop} {H1 : Hp} {Qd : Hp → Prop} (Pv : Nat → Hp → Prop)
    (h0 : Pv 0 H1) (hG : ∀ i H, i ≤ n → Pv i H → G H) (hs : ∀ i x H H', i < n → Pv i H → Y i H x H' → S (Pv (i + 1)) x H') (hd : ∀ H, Pv n H → Qd H) :
    ∃ W : Nat → Nat → Hp → Prop, (∃ m, W 0 m H1) ∧ ∀ i m H, W i m H → (J.stop i H ∧ Qd H) ∨
      (J.go i H ∧ ∃ Nx : Hp → Prop, (∀ H', Nx H' → ∃ m', m' < m ∧ W (i + 1) m' H') ∧ ∀ x H', J.yld i H x H' → S Nx x H') := by
  refine ⟨fun i m H => m = n - i ∧ i ≤ n ∧ Pv i H, ⟨n, rfl, Nat.zero_le _, h0⟩, ?_⟩
  rintro i m H ⟨rfl, hi, p⟩
  have q := hG i H hi p
  by_cases hlt : i < n
  · exact .inr ⟨w.goes i H hlt q, Pv (i + 1), fun H' p' => ⟨n - (i + 1), by omega, rfl, hlt, p'⟩, fun x H' y => hs i x H H' hlt p (w.yields i H x H' hlt q y)⟩
  · have e : i = n := by omega
    subst e
    exact .inl ⟨w.stops H q, hd H p⟩

end My

set_option Elab.async false
set_option linter.all false
set_option maxRecDepth 100000
namespace My
open PySem PySem.Spec PyProof.Rows L2 GxR

/-! ### name = {k: v for ..}, the name a plain local -/
section
variable {X : Cx}
theorem dc_coreP {o0 : HO} {pins : List (Addr × Obj)} {s : Shared} {σ : L2.St} {H : Hp} {Q : VK} {kx vx tg iter : Expr} {ifs : List Expr} {scope : Scope} {own : List (Str × Nat)} {pos pos' : Pos} {wi : TI} {g : TG} {tt : TT} {tk tv : TE} {use : Option (Value → Sem Unit)} {Qf : Value → Shared → Prop} (em : Empt o0) (hu : X.A.units + 1 < cLine) (hc : X.calm = true) (hN : X.N.Nodup) (I : Inv X pins σ H s) (hi : PI X tg iter wi) (ok : BlkOk X.N X.env.scope scope own)
    (hg : ∀ (s : Shared) (H : Hp) (C : Addr) (cl : List (Str × Addr)) (fp : List Addr), PG (X.blk s H scope (compEnvC scope cl C X.env) fp) tg g)
    (ht : ∀ (s : Shared) (H : Hp) (C : Addr) (cl : List (Str × Addr)) (fp : List Addr), PTs (X.blk s H scope (compEnvC scope cl C X.env) fp) ifs tt)
    (hk : ∀ (s : Shared) (H : Hp) (C : Addr) (cl : List (Str × Addr)) (fp : List Addr), PE (X.blk s H scope (compEnvC scope cl C X.env) fp) kx tk)
    (he : ∀ (s : Shared) (H : Hp) (C : Addr) (cl : List (Str × Addr)) (fp : List Addr), PE (X.blk s H scope (compEnvC scope cl C X.env) fp) vx tv) (hs : ∀ x, foldedSetIterable iter X.env x = pure x)
    (h : tDcP o0 wi g tt tk tv (own.map (·.2)) σ H Q)
    (hRR : ∀ D C s' m H', Inv X pins σ H' s' → Q (.ref D) H' → s'.heap.Ns C m → FpOk X pins H' C → compPost (model X.prog X.w) X.A X.xe use Qf (.ref D) C (.ok .next) s') :
    wpAny (model X.prog X.w) X.A (comprehension (.DictComp kx vx [⟨tg, iter, ifs, 0⟩] scope pos) scope X.env pos' (newObj (.type "dict") (.dict #[])) false (eval iter X.env) use) Qf X.xe s := by
  have fr : ∀ y ∈ scope.names, y.2 = .free → ∃ c, X.env.cells.lookup y.1 = some c := fun y hy e => (ok.free y hy e).elim (fun k => I.ok.has _ (.inl k)) fun k => I.ok.has _ (.inr k)
  refine wpAny_comprehension_free (use := use) rfl hs (closure_ok fr) ok.kind (fun y hy e => by rw [ok.uniq y hy, e]) ?_
  refine thn (hi.run pins s σ H _ I h) fun _ _ hx => thn hx fun _ s2 h2 => ?_
  obtain ⟨it, fp, tn, J, H2, rfl, I2, T, st2, f2, q⟩ := h2
  refine wpAny_newObj_type (newEnv_comp ?_)
  generalize hD : s2.heap.objs.size = D
  obtain ⟨W, ⟨m0, w0⟩, turn⟩ := q D (I2.hok.fresh (Nat.le_of_eq hD))
  generalize hs3 : (⟨s2.heap.push { cls := .type "dict", data := .dict #[] }, s2.gens, s2.drawn, s2.toks, s2.os⟩ : Shared) = s3
  have I3 : Inv X pins σ (upd H2 D o0) s3 := by
    rw [← hs3]
    refine I2.laid (t' := s2.toks) (fun b o e => Heap.get?_push_of_some _ e) (Nat.le_of_eq hD) ?_
    rw [← hD]; exact em _ _ _ _ I2.big
  have h3 : s3.heap = s2.heap.push { cls := .type "dict", data := .dict #[] } := by rw [← hs3]
  have f3 : ∀ b ∈ fp, FpOk X pins (upd H2 D o0) b ∧ b < s3.heap.objs.size := fun b hb => by
    obtain ⟨o, e, _⟩ := T.obj _ _ st2 b hb
    have hlt := Heap.lt_size e
    refine ⟨⟨?_, (f2 b hb).2⟩, by rw [h3, Heap.size_push]; exact Nat.lt_succ_of_lt hlt⟩
    rw [upd_ne (by rw [← hD]; exact Nat.ne_of_lt hlt)]; exact (f2 b hb).1
  have st3 : tn 0 s3.heap := T.keep _ _ _ st2 fun b _ o e => by rw [h3]; exact Heap.get?_push_of_some _ e
  have I4 := block_start I3 ok hN f3
  have pg := hg s3 (upd H2 D o0) s3.heap.objs.size (cellsFrom (s3.heap.objs.size + 1) scope.names (cloFrom X.env.cells scope.names [])) fp
  have pt := ht s3 (upd H2 D o0) s3.heap.objs.size (cellsFrom (s3.heap.objs.size + 1) scope.names (cloFrom X.env.cells scope.names [])) fp
  have pk := hk s3 (upd H2 D o0) s3.heap.objs.size (cellsFrom (s3.heap.objs.size + 1) scope.names (cloFrom X.env.cells scope.names [])) fp
  have pe := he s3 (upd H2 D o0) s3.heap.objs.size (cellsFrom (s3.heap.objs.size + 1) scope.names (cloFrom X.env.cells scope.names [])) fp
  refine (?_ : codeAny _ _ (.compStart (.DictComp kx vx [⟨tg, iter, ifs, 0⟩] scope pos) 0 (.ref it) (.ref D) (inCell X s3 scope)) (compPost (model X.prog X.w) X.A X.xe use Qf (.ref D) s3.heap.objs.size) { s3 with heap := pushCells (s3.heap.push { cls := .type "dict", data := .dict #[] }) scope.names })
  have nfp : ∀ b ∈ fp, (upd H2 D o0) b = none := fun b hb => (f3 b hb).1.1
  obtain ⟨ce, hce⟩ : ∃ ce, inCell X s3 scope = ce := ⟨_, rfl⟩
  have cL : ce.locals = s3.heap.objs.size := by rw [← hce]; rfl
  rw [show compEnvC scope (cellsFrom (s3.heap.objs.size + 1) scope.names (cloFrom X.env.cells scope.names [])) s3.heap.objs.size X.env = ce from hce] at I4 pg pt pk pe
  rw [hce]
  generalize upd H2 D o0 = H3 at I3 I4 pg pt pk pe w0 nfp f3
  obtain ⟨s4, hs4⟩ : ∃ s4 : Shared, { s3 with heap := pushCells (s3.heap.push { cls := .type "dict", data := .dict #[] }) scope.names } = s4 := ⟨_, rfl⟩
  rw [hs4] at I4 ⊢
  have st4 : tn 0 s4.heap := T.keep _ _ _ st3 fun b _ o e => by
    rw [← hs4]; exact pushCells_keeps _ _ _ _ (Heap.get?_push_of_some _ e)
  let Y := X.blk s3 H3 scope ce fp
  have stat : ∀ {σ' : L2.St} {H' : Hp} {s' : Shared}, Inv Y [] σ' H' s' → (∀ b ∈ fp, H' b = none) → ∀ b ∈ fp, FpOk Y [] H' b := fun {σ' H' s'} I' hn b hb =>
    ⟨hn b hb, (I'.ok.exf b hb).1, I'.ok.exfs b hb, .inl hb, fun x c e => (I'.ok.exf b hb).2 x c e, fun p hp => absurd (show p ∈ ([] : List (Addr × Obj)) ++ [] from hp) (by simp)⟩
  let Z : Nat → Shared → Prop := fun n s' => ∃ i H', Inv Y [] (wipe σ (own.map (·.2))) H' s' ∧ tn i s'.heap ∧ (∀ b ∈ fp, H' b = none) ∧ W i n H'
  have loop : codeAny (model X.prog X.w) X.A (.compLoop (.DictComp kx vx [⟨tg, iter, ifs, 0⟩] scope pos) 0 (.ref it) (.ref D) ce) (compPost (model X.prog X.w) X.A X.xe use Qf (.ref D) s3.heap.objs.size) s4 := by
    refine compLoop_anyD Z ?_ m0 ⟨0, H3, I4, st4, nfp, w0⟩
    rintro n s5 ⟨i, H5, I5, st5, n5, w5⟩
    rcases turn i n H5 w5 with ⟨stop, qq⟩ | ⟨go, Nx, hNx, step⟩
    · refine thnF (T.done Y rfl rfl rfl hc i [] s5 _ H5 (fun _ _ => False) I5 (stat I5 n5) st5 stop) fun r s6 ⟨hr, I6⟩ => ?_
      subst hr
      have I7 : Inv X pins σ H5 s6 := I3.call' (ch := fp) I6.os I6.base I6.hok I6.bare fun b hb => (fun (z : FpOk X pins H3 b) => ⟨z.2.2.2.1, z.2.1, z.2.2.2.2.1, z.2.2.2.2.2⟩) (f3 b hb).1
      have nC : H5 s3.heap.objs.size = none := by
        rw [← cL]; exact I6.free
      obtain ⟨m, hn, _⟩ := I6.loc
      have hn' : s6.heap.Ns s3.heap.objs.size m := by
        rw [← cL]; exact hn
      have fpo : FpOk X pins H5 s3.heap.objs.size := I3.fpOk (Nat.le_refl _) nC
      exact hRR D _ s6 m H5 I7 qq hn' fpo
    · refine thnF (T.item Y rfl rfl rfl hc i [] s5 _ H5 (fun _ _ => False) I5 (stat I5 n5) st5 go) fun r s6 ⟨u, hr, h6⟩ => ?_
      subst hr
      refine thnF h6 fun _ s7 ⟨x, H7, I7, r7, y7, st7, n7⟩ => ?_
      refine thnF (pg.run _ s7 _ H7 x u _ (I7.pinned (stat I7 n7) (T.obj _ _ st7)) r7 (step x H7 y7)) fun _ s8 ⟨σ8, H8, I8, hw8, q8⟩ => ?_
      refine thnF (pt.run _ s8 σ8 H8 _ I8 q8) fun b s9 ⟨H9, I9, q9⟩ => ?_
      have fin : ∀ {s' : Shared} {H' : Hp}, Inv Y ([] ++ pinsAt fp s7.heap) σ8 H' s' → Nx H' → ∃ m, m < n ∧ Z m s' := fun {s' H'} I' nx => by
        obtain ⟨m', hm, w'⟩ := hNx H' nx
        have pin' : ∀ b ∈ fp, ∀ o, s7.heap.get? b = some o → s'.heap.get? b = some o ∧ H' b = none := fun b hb o e =>
          (fun z => ⟨z.1, z.2.1⟩) (I'.pin (b, o) (List.mem_append_right _ (List.mem_append_right _ (mem_pinsAt hb e))))
        have hl : (wipe σ (own.map (·.2))).length = σ8.length := by rw [← hw8, wipe_length]
        refine ⟨m', hm, i + 1, H', (I'.unpinned (pins := [])).weak hl (fun j v e => by rw [← hw8] at e; exact (wipe_some e).1), T.keep _ _ _ st7 fun b hb o e => (pin' b hb o e).1, fun b hb => ?_, w'⟩
        obtain ⟨o, e, _⟩ := T.obj _ _ st7 b hb
        exact (pin' b hb o e).2
      cases b with
      | false => exact fin I9 q9
      | true =>
        refine thnF (pk.run _ s9 σ8 H9 _ I9 q9) fun z s10 ⟨yk, H10, I10, r10, q10⟩ => ?_
        refine thnF (pe.run _ s10 σ8 H10 _ I10 q10) fun z2 s11 ⟨yv, H11, I11, r11, H12, pu, nx⟩ => ?_
        exact d_dictPut (X := Y) hu I11 pu r10 r11 fun s12 I12 => fin I12 nx
  exact codeAny_compStart_dict loop (T.self X.A 0 _ _ _ st4 loop)
theorem ps_setDcP {o0 : HO} {i : Nat} {y : Str} {py : Pos} {kx vx tg iter : Expr} {ifs : List Expr} {scope : Scope} {own : List (Str × Nat)} {pos spos : Pos} {wi : TI} {g : TG} {tt : TT} {tk tv : TE} (em : Empt o0) (hu : X.A.units + 1 < cLine) (hc : X.calm = true) (hN : X.N.Nodup) (hy : X.N[i]? = some y) (hyl : X.env.scope.names.lookup y = some .local)
    (hsw : swapsWith (.DictComp kx vx [⟨tg, iter, ifs, 0⟩] scope pos) (some (.Name y py)) spos.line X.env = pure true) (hi : PI X tg iter wi) (ok : BlkOk X.N X.env.scope scope own)
    (hg : ∀ (s : Shared) (H : Hp) (C : Addr) (cl : List (Str × Addr)) (fp : List Addr), PG (X.blk s H scope (compEnvC scope cl C X.env) fp) tg g)
    (ht : ∀ (s : Shared) (H : Hp) (C : Addr) (cl : List (Str × Addr)) (fp : List Addr), PTs (X.blk s H scope (compEnvC scope cl C X.env) fp) ifs tt)
    (hk : ∀ (s : Shared) (H : Hp) (C : Addr) (cl : List (Str × Addr)) (fp : List Addr), PE (X.blk s H scope (compEnvC scope cl C X.env) fp) kx tk)
    (he : ∀ (s : Shared) (H : Hp) (C : Addr) (cl : List (Str × Addr)) (fp : List Addr), PE (X.blk s H scope (compEnvC scope cl C X.env) fp) vx tv) (hs : ∀ x, foldedSetIterable iter X.env x = pure x := by intro _; rfl) :
    PS X (.Assign [.Name y py] (.DictComp kx vx [⟨tg, iter, ifs, 0⟩] scope pos) spos) (tAsg (tDcP o0 wi g tt tk tv (own.map (·.2))) (gName i)) := by
  refine ⟨fun pins s σ H D I h => ?_⟩
  rw [exec_Assign_Name_used _ _ _ _ hsw]
  have h' : tDcP o0 wi g tt tk tv (own.map (·.2)) σ H (fun x H1 => gName i x σ H1 D.nx) := h
  refine wpAny_bind (wpAny_standAt (wpAny_bind (?_ : wpAny _ X.A (do let _ ← comprehension (.DictComp kx vx [⟨tg, iter, ifs, 0⟩] scope pos) scope X.env (firstIterPos [⟨tg, iter, ifs, 0⟩] pos) (newObj (.type "dict") (.dict #[])) false (eval iter X.env) (some (assign (.Name y py) X.env))) _ _ s)))
  refine wpAny_bind (wpAny_mono (dc_coreP (Qf := fun _ s' => SP X pins D .next s') em hu hc hN I hi ok hg ht hk he hs h' fun L C s' m H' I' q hn f => ?_) (fun _ s' hq => wpAny_pure (wpAny_pure hq)) fun _ _ z => z)
  refine (?_ : wpAny _ _ (assign (.Name y py) X.env (.ref L)) _ _ _)
  refine wpAny_assign_Name (store_ok2 (v := V.ref L) I' hN hy (.inl hyl) rfl (fun s2 I2 ⟨a, sb, ha⟩ => ?_) (.inr hyl))
  obtain ⟨f0, f1, f2, f3, f4, f5⟩ := f
  have haC : C ≠ a := by
    rcases ha with z | z
    · rw [z]; exact f1
    · exact fun e => f4 y a z e.symm
  exact ⟨m, hn.sameBut sb haC, fun h3 sb3 => ⟨_, H', I2.turned (t' := s2.toks) (fun b o hb e => (sb3.2 b hb).trans e) f0 f1 f3 f4 f5, q⟩⟩
theorem sw_trueD {kx vx : Expr} {gs : List Comprehension} {scope : Scope} {pos py : Pos} {y : Str} {l : Nat} {env : Env} (hk : env.scope.kind = .function) (hy : env.scope.names.lookup y = some .local) (hl : (py.line == pos.line) = true)
    (ha : (scope.names.any fun (n, k) => n == y && (k == .local || k == .cell)) = false) : swapsWith (.DictComp kx vx gs scope pos) (some (.Name y py)) l env = pure true := by
  have ky : env.kindOf y = some .local := hy
  have hb : env.blockKind = .function := by unfold Env.blockKind; rw [hk]; rfl
  unfold swapsWith
  simp only [hb, ky, ha, Expr.pos, hl]; rfl
end
end My

set_option Elab.async false
set_option linter.all false
set_option maxRecDepth 100000
namespace My
open PySem PySem.Spec PyProof.Rows L2 GxR

/-! ### dicts with tuple keys: update, dict(pairs) -/
def mergeT (kvs more : List (List Key × V)) : List (List Key × V) := more.foldl (fun acc kv => putK acc kv.1 kv.2) kvs
theorem kt_merge {H : Hp} : ∀ {more : List (List Key × V)} {ys : List (List Key × Addr × Value)} {kvs : List (List Key × V)} {xs : List (List Key × Addr × Value)}, KT H more ys → KT H kvs xs → KT H (mergeT kvs more) (storedAllH xs ys)
  | _, _, _, _, .nil, q => q
  | _, _, kvs, xs, .cons (a := p) (b := q) (l₁ := l) (l₂ := m) h t, r => by
    obtain ⟨h1, h2, h3⟩ := h
    have z := KT.put r p.1 (b := q.2.1) h2 h3
    rw [show storedH xs p.1 q.2.1 q.2.2 = storedH xs q.1 q.2.1 q.2.2 from by rw [h1]] at z
    have w : KT H (mergeT (putK kvs p.1 p.2) l) (storedAllH (storedH xs q.1 q.2.1 q.2.2) m) := kt_merge t z
    exact w
theorem len_mergeT : ∀ (more kvs : List (List Key × V)), (mergeT kvs more).length ≤ kvs.length + more.length
  | [], _ => Nat.le_refl _
  | p :: m, kvs => by
    have h1 := len_mergeT m (putK kvs p.1 p.2)
    have h2 := length_putK kvs p.1 p.2
    rw [List.length_cons]
    show (mergeT (putK kvs p.1 p.2) m).length ≤ _
    omega
theorem valV_mergeT (j : List Key) : ∀ (more kvs : List (List Key × V)), (valV (mergeT kvs more) j).isSome = ((valV kvs j).isSome || (valV more j).isSome)
  | [], kvs => by rw [show valV ([] : List (List Key × V)) j = none from rfl]; exact (Bool.or_false _).symm
  | p :: m, kvs => by
    show (valV (mergeT (putK kvs p.1 p.2) m) j).isSome = _
    rw [valV_mergeT j m, valV_put]
    by_cases h : j = p.1
    · rw [if_pos h, valV_pos h.symm]; simp
    · rw [if_neg h, valV_neg (fun z => h z.symm)]
/-- the keys' hashes differ -/
def Apart (w : World) (more : List (List Key × V)) : Prop := (more.map fun kv => reduceHash (Builtin.Tuple.tupleHashOf (kv.1.map (keyH w)))).Nodup
theorem kt_hash {P : Program} {w : World} {H : Hp} : ∀ {more : List (List Key × V)} {ys : List (List Key × Addr × Value)}, KT H more ys → (ys.map fun x => (tupleKind (mixKind P w)).hash x.1) = more.map fun kv => reduceHash (Builtin.Tuple.tupleHashOf (kv.1.map (keyH w)))
  | _, _, .nil => rfl
  | _, _, .cons (a := p) (b := q) h t => by
    rw [List.map_cons, List.map_cons, kt_hash t]
    have e : q.1 = p.1 := h.1.symm
    rw [e]; rfl
section
variable {X : Cx}
def rUpdT (w : World) : V → List V → Hp → VK → Prop := fun x xs H Q => ∃ a b kvs ms, x = .ref a ∧ xs = [.ref b] ∧ H a = some (.dT kvs) ∧ H b = some (.dT ms) ∧ a ≠ b ∧ kvs.length + ms.length ≤ sizeLine ∧ (kvs ≠ [] ∨ Apart w ms) ∧ Q .non (upd H a (.dT (mergeT kvs ms)))
theorem mt_updT (hu : X.A.units + 65 < cLine) : MtR X "dict.update" (rUpdT X.w) := by
  intro pins s σ H x xs v us Q I rx rs h
  obtain ⟨a, b, kvs, ms, rfl, rfl, ea, eb, hab, hz, hap, q⟩ := h
  cases rx
  obtain ⟨u, rfl, ru⟩ := vals1 rs
  cases ru
  obtain ⟨za, ha, xa, ra, da⟩ := dt_of I.hok ea
  obtain ⟨zb, hb, xb, rb, db⟩ := dt_of I.hok eb
  have la : xa.length = kvs.length := (Paired.length ra).symm
  have lb : xb.length = ms.length := (Paired.length rb).symm
  have hl : (mergeT kvs ms).length ≤ sizeLine := Nat.le_trans (len_mergeT ms kvs) hz
  refine call_update_dictH (tupleKind_room_in1 (by omega : X.A.units + 1 < cLine)) hab hb da db ?_ (by omega) fun h' dd' _ hs => ?_
  · rcases hap with hap | hap
    · refine .inl fun z => hap ?_
      rw [z] at la
      exact List.eq_nil_of_length_eq_zero la.symm
    · refine .inr ⟨fun y hy => ?_, by rw [kt_hash rb]; exact hap⟩
      obtain ⟨o, es, ep, _, _, _, _, his, _⟩ := db
      obtain ⟨o', items, n, e1, e2, _⟩ := his y hy
      exact ⟨o', e1, e2⟩
  · obtain ⟨q', es, ep, hq, h2, h3, h4, _, h5⟩ := dd'
    refine ⟨.non, upd H a (.dT (mergeT kvs ms)), d_write (t' := s.toks) I (by rw [ea]; exact True.intro) hs ⟨q', hq⟩ ⟨hl, ha, _, (kt_merge rb ra).keeps fun c ys ec => ?_, q', es, ep, hq, h2, h3, h4, h5⟩, rfl, q⟩
    rw [upd_ne (ne_of ec ea (fun z => nomatch z))]; exact ec

/-- dict(xs) of a list of pairs (tuple, value) -/
def rDictPT (K : PySem.W.Frag) : List V → Hp → VK → Prop := fun xs H Q => ∃ (a : Addr) (ps : List Addr) (kvs : List (List Key × V)), xs = [.ref a] ∧ SqL K H a (ps.map V.ref) ∧ Paired (fun p kv => ∃ b, H p = some (.tup [.ref b, kv.2]) ∧ H b = some (.tup (kv.1.map kV))) ps kvs ∧
  ∀ p, H p = none → Q (.ref p) (upd H p (.dT (mergeT [] kvs)))
theorem pairsT_of {pins : List (Addr × Obj)} {σ : L2.St} {H : Hp} {s : Shared} (I : Inv X pins σ H s) : ∀ {ps : List Addr} {kvs : List (List Key × V)}, Paired (fun p kv => ∃ b, H p = some (.tup [.ref b, kv.2]) ∧ H b = some (.tup (kv.1.map kV))) ps kvs →
    ∃ prs : List (List Key × Addr × Value), KT H kvs prs ∧ prs.length = ps.length ∧ ∀ (j : Nat) (q : List Key × Addr × Value), prs[j]? = some q → ∃ p, ps[j]? = some p ∧ IsTup s.heap p #[.ref q.2.1, q.2.2]
  | _, _, .nil => ⟨[], .nil, rfl, fun j q e => by simp at e⟩
  | _, _, .cons (a := p) (b := kv) h t => by
    obtain ⟨prs, r, hl, hp⟩ := pairsT_of I t
    obtain ⟨b, h1, h2⟩ := h
    obtain ⟨its, rv, ht, _⟩ := I.tuple (SqT.of (K := X.K) h1)
    obtain ⟨u, y, rfl, ru, ry⟩ := vals2 rv
    cases ru
    refine ⟨(kv.1, b, y) :: prs, .cons ⟨rfl, h2, ry⟩ r, by rw [List.length_cons, List.length_cons, hl], fun j q e => ?_⟩
    cases j with
    | zero =>
      have e' : (kv.1, b, y) = q := Option.some.inj e
      subst e'
      exact ⟨p, rfl, ht⟩
    | succ j =>
      obtain ⟨b', e1, e2⟩ := hp j q (by simpa using e)
      exact ⟨b', by simpa using e1, e2⟩
theorem call_dictPT (hcalm : X.calm = true) (hu : X.A.units + 65 < cLine) : CallR X (.type "dict") (rDictPT X.K) := by
  intro pins s σ H xs us Q I r q
  obtain ⟨a, ps, kvs, rfl, hq, hp, q⟩ := q
  obtain ⟨u, rfl, rx⟩ := vals1 r
  cases rx
  obtain ⟨its, rv, pl, hz⟩ := I.list hq
  have ei := refs_at rv
  subst ei
  rw [List.length_map] at hz
  obtain ⟨prs, rel, hl, hpr⟩ := pairsT_of I hp
  have keyed : ∀ x ∈ prs, (tupleKind (mixKind X.prog X.w)).is s.heap x.1 x.2.1 := by
    intro x hx
    have all : ∀ {l : List (List Key × V)} {m : List (List Key × Addr × Value)}, KT H l m → ∀ x ∈ m, H x.2.1 = some (.tup (x.1.map kV)) := by
      intro l m q
      induction q with
      | nil => intro x hx; exact nomatch hx
      | @cons p q ps qs hq t ih =>
        intro x hx
        rcases List.mem_cons.mp hx with e | hx
        · subst e
          rw [← hq.1]; exact hq.2.1
        · exact ih x hx
    exact L2.key_of I.hok (all rel x hx)
  refine call_dict_pairsH (knd := tupleKind (mixKind X.prog X.w)) (ps := prs) (PairArg.list a (ps.map Value.ref).toArray (fun j => ps.getD j 0) (prs.map fun x => (Value.ref x.2.1, x.2.2))) (I.ok.hd hcalm) (show X.A.units + 1 + 1 < cLine by omega) ⟨pl, ?_, fun j k v e => ?_⟩ ⟨by rw [List.length_map], fun i key v e => ?_⟩ (fun h' hk x hx => ?_) (by rw [List.length_map, hl]; exact hz) fun h' tk dd' hk => ?_
  · rw [List.size_toArray, List.length_map, List.length_map, hl]
  · rw [List.getElem?_map] at e
    obtain ⟨q0, e0, e1⟩ := Option.map_eq_some_iff.mp e
    cases e1
    obtain ⟨p, ep, ht⟩ := hpr j q0 e0
    have ed : ps.getD j 0 = p := by rw [List.getD_eq_getElem?_getD, ep]; rfl
    refine ⟨?_, .inl ?_⟩
    · show _ = some (Value.ref (ps.getD j 0))
      rw [ed, List.getElem?_toArray, List.getElem?_map, ep]; rfl
    · show s.heap.IsTuple (ps.getD j 0) _
      rw [ed]; obtain ⟨o, h1, h2, n, h3⟩ := ht; exact ⟨o, h1, h2, n, h3⟩
  · rw [show PairRel (prs.map fun x => (Value.ref x.2.1, x.2.2)) i key v = ((prs.map fun x => (Value.ref x.2.1, x.2.2))[i]? = some (key, v)) from rfl, List.getElem?_map] at e
    obtain ⟨q0, e0, e1⟩ := Option.map_eq_some_iff.mp e
    cases e1
    exact ⟨q0.1, q0.2.1, e0, rfl⟩
  · obtain ⟨o, items, n, e1, e2, e3, e4⟩ := keyed x hx
    exact ⟨o, items, n, hk _ _ (Nat.ne_of_lt (Heap.lt_size e1)) (fun z => nomatch z) e1, e2, e3, e4⟩
  · have hm : (s.heap.objs.size == sysModules) = false := beq_eq_false_iff_ne.mpr (Nat.ne_of_gt I.big)
    have hlen : (mergeT [] kvs).length ≤ sizeLine := by
      refine Nat.le_trans (len_mergeT kvs []) ?_
      rw [List.length_nil, Nat.zero_add, Paired.length rel, hl]
      exact hz
    obtain ⟨q', es, ep, hq', h2, h3, h4, _, h5⟩ := dd'
    refine ⟨.ref s.heap.objs.size, upd H s.heap.objs.size (.dT (mergeT [] kvs)), I.laid (t' := tk) (fun b o e => hk b o (fun z => nomatch z) e) (Nat.le_refl _) ⟨hlen, hm, _, (kt_merge rel .nil).keeps fun c ys ec => ?_, q', es, ep, hq', h2, h3, h4, h5⟩, rfl, q _ (I.hok.fresh (Nat.le_refl _))⟩
    rw [upd_ne (ne_of_none ec (I.hok.fresh (Nat.le_refl _)))]; exact ec

/-! ### a pair the other way about -/
theorem cut2 {s : Shared} {A : Around} {E : Value → Shared → Prop} {sl : Addr} {vs : Value} {Q : Int × Int × Nat → Shared → Prop} (hs : s.heap.IsSliceOf sl .none .none vs) (ps : IsPart vs (some (-1))) (h : Q (1, -1, 2) s) :
    wpAny (model X.prog X.w) A (Builtin.Slice.sliceApplied (.ref sl) (pure (2 : Int))) Q E s := by
  obtain ⟨os, hos, hcs, hds⟩ := id hs
  unfold Builtin.Slice.sliceApplied Builtin.Slice.sliceFields
  refine wpAny_bind (wpAny_bind (wpAny_field hos hds (x := .none) rfl (wpAny_bind (wpAny_field hos hds (x := .none) rfl (wpAny_bind (wpAny_field hos hds (x := vs) rfl (wpAny_pure ?_)))))))
  refine wpAny_bind (HT.slicePart_ ps ?_)
  show wpAny _ _ (if ((-1 : Int) == 0) = true then _ else _) _ _ s
  rw [if_neg (by decide)]
  refine wpAny_bind (HT.slicePart_ .none (wpAny_bind (HT.slicePart_ .none (wpAny_bind (wpAny_pure ?_)))))
  exact wpAny_pure h
theorem pick2 (x y : Value) : ((List.range 2).filterMap fun (m : Nat) => (#[x, y] : Array Value)[((1 : Int) + (m : Int) * -1).toNat]?).toArray = #[y, x] := rfl
theorem rev2 {s : Shared} {A : Around} {E : Value → Shared → Prop} {t sl : Addr} {x y vs : Value} {Q : Value → Shared → Prop} (ht : IsTup s.heap t #[x, y]) (hs : s.heap.IsSliceOf sl .none .none vs) (ps : IsPart vs (some (-1)))
    (h : Q (.ref s.heap.objs.size) { s with heap := s.heap.push { cls := .type "tuple", data := .seq #[y, x] } }) : wpAny (model X.prog X.w) A (getItem (.ref t) (.ref sl)) Q E s := by
  obtain ⟨os, hos, hcs, hds⟩ := id hs
  have hTs : s.TypeIs (.ref sl) "slice" := ⟨os, hos, hcs⟩
  have hz : sizeOk (.seq #[y, x]) := by show 2 ≤ sizeLine; decide
  unfold getItem
  try with_reducible refine wpAny_holding ?_
  first | refine wpAny_bind (wpAny_pure ?_) | skip
  refine wpAny_bind (wpAny_sequenceKey ht.typeIs (by decide) ?_)
  refine wpAny_bind (wpAny_callSpecial?_slot (name := Str.ofString "__getitem__") ht.typeIs PyProof.Rows.slot_tuple_getitem (wpAny_call_entry PyProof.Rows.slot_tuple_getitem ht.typeIs entry_tuple_getitem ?_ (args_tuple_getitem _ _)))
  show wpAny _ _ (Builtin.Tuple.tupleItemsOf (.ref t) >>= _) _ _ s
  refine wpAny_bind (tupleItemsOf_ ht (wpAny_bind (wpAny_typeOf hTs ?_)))
  rw [if_pos (by decide)]
  refine wpAny_bind (cut2 hs ps ?_)
  show wpAny _ _ (if ((1 : Int) == 0 && (-1 : Int) == 1 && (2 : Nat) == 2) = true then _ else _) _ _ s
  rw [if_neg (by decide), pick2]
  first
    | exact wpAny_bind (m := Builtin.Tuple.tupleExact _) (wpAny_newObj_type (wpAny_pure ⟨_, rfl, wpAny_pure h⟩) hz)
    | exact wpAny_bind (m := Builtin.Tuple.tupleExact _) (wpAny_newObj_type (wpAny_bind (wpAny_pure (wpAny_pure ⟨_, rfl, wpAny_pure h⟩))) hz)
    | exact wpAny_bind (wpAny_bind (m := Builtin.Tuple.tupleExact _) (wpAny_newObj_type (wpAny_pure (wpAny_pure ⟨_, rfl, wpAny_pure h⟩)) hz))
    | exact wpAny_bind (wpAny_bind (m := Builtin.Tuple.tupleExact _) (wpAny_newObj_type (wpAny_pure ⟨_, rfl, wpAny_pure h⟩) hz))
def tRev2 (te : TE) : TE := fun σ H Q => te σ H fun x H1 => ∃ a u v, x = .ref a ∧ H1 a = some (.tup [u, v]) ∧ ∀ p, H1 p = none → Q (.ref p) (upd H1 p (.tup [v, u]))
theorem pe_rev2 {e : Expr} {te : TE} {k : Nat} {p1 p2 p3 pos : Pos} (he : PE X e te) : PE X (.Subscript e (.Slice none none (some (.UnaryOp .USub (.Constant (.int 1) k p1) p2)) p3) pos) (tRev2 te) := by
  refine ⟨fun pins s σ H Q I h => Subscript_ (thn (he.run pins s σ H _ I h) fun v s1 ⟨x, H1, I1, r1, a, x0, x1, ex, hx, q⟩ => ?_)⟩
  subst ex; cases r1
  have hst : PO X (some (.UnaryOp .USub (.Constant (.int 1) k p1) p2)) (tPart (tUn (rU fun i => .int (-i)) (tC (.int 1)))) := po_some (pe_un un_neg pe_int)
  refine wpAny_Slice (thn (po_none.run pins s1 σ H1 (fun o H2 => o = none ∧ H2 = H1) I1 ⟨rfl, rfl⟩) fun vl s2 ⟨l, H2, I2, pl, el, e2⟩ => ?_); subst el e2
  refine thn (po_none.run pins s2 σ H2 (fun o H3 => o = none ∧ H3 = H2) I2 ⟨rfl, rfl⟩) fun vu s3 ⟨u, H3, I3, pu, eu, e3⟩ => ?_; subst eu e3
  refine thn (hst.run pins s3 σ H3 (fun o H4 => o = some (-1) ∧ H4 = H3) I3 ⟨1, rfl, -1, rfl, rfl, rfl⟩) fun vs s4 ⟨o, H4, I4, ps, eo, e4⟩ => ?_; subst eo e4
  cases pl; cases pu
  generalize hs5 : ({ s4 with heap := s4.heap.push { cls := .type "slice", data := .fields #[.none, .none, vs] } } : Shared) = s5
  have I5 : Inv X pins σ H4 s5 := by
    rw [← hs5]
    exact I4.kept (t' := s4.toks) fun b ob q => Heap.get?_push_of_some _ q
  obtain ⟨its, r, ht, hz⟩ := I5.tuple (SqT.of (K := X.K) hx)
  obtain ⟨u0, u1, rfl, r0, r1⟩ := vals2 r
  have hsl : s5.heap.IsSliceOf s4.heap.objs.size .none .none vs := by rw [← hs5]; exact Heap.IsSliceOf.new _ _ _ _
  refine (?_ : wpAny (model X.prog X.w) X.A (subscriptTail e (.Slice none none (some (.UnaryOp .USub (.Constant (.int 1) k p1) p2)) p3) (.ref a) (.ref s4.heap.objs.size)) (EP X pins σ Q) X.xe s5)
  refine tail_any (ops := [.ref a, .ref s4.heap.objs.size]) ht.typeIs (PyProof.Rows.slot_tuple_getitem.lookup) ?_ (by with_unfolding_all rfl)
  refine rev2 ht hsl ps ⟨.ref _, _, I5.laid (t' := s5.toks) (o := .tup [x1, x0]) (fun b ob q => Heap.get?_push_of_some _ q) (Nat.le_refl _) ?_, rfl, q _ (I5.hok.fresh (Nat.le_refl _))⟩
  exact ⟨by show 2 ≤ sizeLine; decide, [u1, u0], .cons r1 (.cons r0 .nil), IsTup.new _ _⟩

/-! ### {k: v} -/
def tDisp1 (o0 : HO) (tk tv : TE) : TE := fun σ H Q => ∀ p, H p = none → tk σ (upd H p o0) fun x H1 => tv σ H1 fun y H2 => ∃ H3, DPut H2 p x y H3 ∧ Q (.ref p) H3
theorem pe_disp1 {o0 : HO} {k v : Expr} {tk tv : TE} {pos : Pos} (em : Empt o0) (hu : X.A.units + 1 < cLine) (hk : PE X k tk) (hv : PE X v tv) : PE X (.Dict [some k] [v] pos) (tDisp1 o0 tk tv) := by
  refine ⟨fun pins s σ H Q I q => ?_⟩
  have hn := I.hok.fresh (Nat.le_refl s.heap.objs.size)
  have I1 := I.laid (a := s.heap.objs.size) (o := o0) (h' := s.heap.push { cls := .type "dict", data := .dict #[] }) (t' := s.toks) (fun _ _ q => Heap.get?_push_of_some _ q) (Nat.le_refl _) (em _ _ _ _ I.big)
  refine wpAny_Dict_any rfl rfl (by exact fun z => nomatch z) (by show 1 ≤ 15; decide) ?_
  refine pairTrees_cons_walk (thn (hk.run pins _ σ _ _ I1 (q _ hn)) fun u s1 ⟨x, H1, J1, rx, q1⟩ => thn (hv.run pins s1 σ H1 _ J1 q1) fun w2 s2 ⟨y, H2, J2, ry, H3, pu, q2⟩ => ?_)
  refine pairTrees_nil_walk ?_
  unfold storeAll
  rw [List.forIn_cons]
  refine wpAny_bind (wpAny_bind (d_dictPut hu J2 pu rx ry fun s3 J3 => wpAny_pure ?_))
  show wpAny _ _ (forIn [] PUnit.unit _) _ _ s3
  rw [List.forIn_nil]
  exact wpAny_pure ⟨.ref s.heap.objs.size, H3, J3, rfl, q2⟩
end
/-! ### hashes of pairs of places -/
def hv (a b : Nat) : Int := reduceHash (Builtin.Tuple.tupleHashOf [hashInt (a : Int), hashInt (b : Int)])
theorem hv_nd : ((List.range 144).map fun k => hv (k / 12) (k % 12)).Nodup := by decide +kernel
def pk (t : Int × Int) : List Key := [Sum.inl t.1, Sum.inl t.2]
theorem pk_inj {s t : Int × Int} (h : pk s = pk t) : s = t := by
  cases s; cases t; cases h; rfl
theorem hv_inj {a b c d : Nat} (ha : a < 12) (hb : b < 12) (hc : c < 12) (hd : d < 12) (h : hv a b = hv c d) : a = c ∧ b = d := by
  have pw := List.pairwise_iff_getElem.mp (List.nodup_iff_pairwise_ne.mp hv_nd)
  have l : ((List.range 144).map fun k => hv (k / 12) (k % 12)).length = 144 := by rw [List.length_map, List.length_range]
  have g : ∀ k (hk : k < ((List.range 144).map fun k => hv (k / 12) (k % 12)).length), ((List.range 144).map fun k => hv (k / 12) (k % 12))[k] = hv (k / 12) (k % 12) := fun k hk => by
    rw [List.getElem_map, List.getElem_range]
  have e1 : (12 * a + b) / 12 = a := by omega
  have e2 : (12 * a + b) % 12 = b := by omega
  have e3 : (12 * c + d) / 12 = c := by omega
  have e4 : (12 * c + d) % 12 = d := by omega
  have hi : 12 * a + b < ((List.range 144).map fun k => hv (k / 12) (k % 12)).length := by omega
  have hj : 12 * c + d < ((List.range 144).map fun k => hv (k / 12) (k % 12)).length := by omega
  rcases Nat.lt_trichotomy (12 * a + b) (12 * c + d) with z | z | z
  · have := pw _ _ hi hj z
    rw [g, g, e1, e2, e3, e4] at this
    exact absurd h this
  · omega
  · have := pw _ _ hj hi z
    rw [g, g, e1, e2, e3, e4] at this
    exact absurd h.symm this
/-- keys that are pairs of places below twelve -/
theorem apart_pk {w : World} {ms : List (List Key × V)} {cs : List (Int × Int)} (hk : ms.map (·.1) = cs.map pk) (nd : cs.Nodup) (hr : ∀ t ∈ cs, 0 ≤ t.1 ∧ t.1 < 12 ∧ 0 ≤ t.2 ∧ t.2 < 12) : Apart w ms := by
  unfold Apart
  have e : (ms.map fun kv => reduceHash (Builtin.Tuple.tupleHashOf (kv.1.map (keyH w)))) = cs.map fun t => reduceHash (Builtin.Tuple.tupleHashOf ((pk t).map (keyH w))) := by
    have := congrArg (List.map fun k => reduceHash (Builtin.Tuple.tupleHashOf (k.map (keyH w)))) hk
    rw [List.map_map, List.map_map] at this
    exact this
  rw [e, List.nodup_iff_pairwise_ne, List.pairwise_map]
  refine (List.nodup_iff_pairwise_ne.mp nd).imp_of_mem fun {s t} hs ht ne h => ne ?_
  have bs := hr s hs
  have bt := hr t ht
  have hh : ∀ t : Int × Int, 0 ≤ t.1 → 0 ≤ t.2 → reduceHash (Builtin.Tuple.tupleHashOf ((pk t).map (keyH w))) = hv t.1.toNat t.2.toNat := fun t h1 h2 => by
    unfold hv
    rw [Int.toNat_of_nonneg h1, Int.toNat_of_nonneg h2]; rfl
  rw [hh s bs.1 bs.2.2.1, hh t bt.1 bt.2.2.1] at h
  obtain ⟨h1, h2⟩ := hv_inj (by omega) (by omega) (by omega) (by omega) h
  exact Prod.ext (by omega) (by omega)
def JoinA (kvs : List (List Key × V)) (C : List (Int × Int)) : Prop := ∀ o : Int × Int, (valV kvs (pk o)).isSome = decide (o ∈ C)
theorem joinA_put {kvs : List (List Key × V)} {C : List (Int × Int)} (h : JoinA kvs C) (t : Int × Int) (v : V) : JoinA (putK kvs (pk t) v) (C ++ [t]) := fun o => by
  rw [valV_put]
  by_cases e : o = t
  · subst e
    rw [if_pos rfl]
    exact (decide_eq_true (List.mem_append_right _ (List.mem_singleton.mpr rfl))).symm
  · rw [if_neg (fun z => e (pk_inj z)), h o]
    refine decide_eq_decide.mpr ?_
    rw [List.mem_append, List.mem_singleton]
    exact ⟨.inl, fun z => z.elim id fun z => absurd z e⟩
end My

set_option Elab.async false
set_option linter.all false
set_option maxRecDepth 100000
namespace My
open PySem PySem.Spec PyProof.Rows L2 GxR

/-! ### in, of tuples -/
def rInDT (K : PySem.W.Frag) : R2 := fun x y H Q => ∃ d ds, Dp K H x d ∧ Dp K H y (.tuple ds) ∧ SeqAt.shaped d = true ∧ SeqAt.shaped (.tuple ds) = true ∧ Q (.bl (ds.any fun z => PyData.eqv z d)) H
theorem op_inDT {X : Cx} (hu : X.A.units + 65 < cLine) : OpR X (compareOp .In) (rInDT X.K) := fun pins s σ H x y v u Q I rx ry ⟨d, ds, hd, he, sd, se, q⟩ => by
  obtain ⟨as, r1⟩ := Dp.reads I d x v hd rx
  obtain ⟨bs, r2⟩ := Dp.reads I (.tuple ds) y u he ry
  exact SeqAt.in_tuple_reads r2 r1 (SeqAt.canLay_of_shaped se) (SeqAt.canLay_of_shaped sd) (room_in_shaped sd hu) ⟨.bl _, H, I, rfl, q⟩
theorem shaped_tup (ts : List (Int × Int)) : SeqAt.shaped (.tuple (ts.map dT)) = true := by
  unfold SeqAt.shaped
  rw [Bool.and_eq_true, decide_eq_true_eq]
  refine ⟨can_ties ts, ?_⟩
  show PyData.depthAll _ + 1 ≤ 64
  have := dep_ties ts
  omega
theorem any_dT (ts : List (Int × Int)) (t : Int × Int) : ((ts.map dT).any fun z => PyData.eqv z (dT t)) = decide (t ∈ ts) := by
  induction ts with
  | nil => rfl
  | cons a l ih =>
    rw [List.map_cons, List.any_cons, ih, eqv_dT]
    by_cases h : a = t
    · subst h; simp
    · have h' : ¬ t = a := fun e => h e.symm
      simp [h, h']

/-! ### ties of two places, gaps -/
def tieO (a b : Int) : Int × Int := if a < b then (a, b) else (b, a)
theorem tieO_tied {n : Nat} {ts : List (Int × Int)} (hw : WOk n ts) (a b : Int) : tieO a b ∈ ts ↔ ((a, b) ∈ ts ∨ (b, a) ∈ ts) := by
  unfold tieO
  split
  · rename_i h
    constructor
    · exact .inl
    · rintro (z | z)
      · exact z
      · have := hw.2 _ z; dsimp only at this; omega
  · rename_i h
    constructor
    · exact .inr
    · rintro (z | z)
      · have := hw.2 _ z; dsimp only at this; omega
      · exact z
def gapsF (ts : List (Int × Int)) (l : List (Int × Int)) : List (Int × Int) := l.filter fun t => !decide (t ∈ ts)
theorem gaps_app (ts l m : List (Int × Int)) : gapsF ts (l ++ m) = gapsF ts l ++ gapsF ts m := List.filter_append ..
theorem gaps_one (ts : List (Int × Int)) (t : Int × Int) : gapsF ts [t] = if t ∈ ts then [] else [t] := by
  unfold gapsF
  by_cases h : t ∈ ts <;> simp [h]
theorem gaps_sub (ts l : List (Int × Int)) : (gapsF ts l).Sublist l := List.filter_sublist
theorem gaps_len {n : Nat} {ts : List (Int × Int)} (hn : n ≤ 100) : (gapsF ts (pup n n)).length ≤ 10000 := Nat.le_trans (gaps_sub _ _).length_le (pup_len' hn (Nat.le_refl n))
theorem gaps_wok {n : Nat} (ts : List (Int × Int)) : WOk n (gapsF ts (pup n n)) := wok_sub (gaps_sub _ _)
theorem pw_ext {l m : List (Int × Int)} (hl : l.Pairwise ltT) (hm : m.Pairwise ltT) (h : ∀ t, t ∈ l ↔ t ∈ m) : l = m := by
  have nd : ∀ {k : List (Int × Int)}, k.Pairwise ltT → k.Nodup := fun hk => List.nodup_iff_pairwise_ne.mpr (hk.imp fun {s t} h e => by subst e; exact ltT_irr h)
  refine List.Perm.eq_of_pairwise (le := ltT) (fun a b _ _ h1 h2 => by rcases h1 with z | ⟨z, y⟩ <;> rcases h2 with u | ⟨u, v⟩ <;> omega) hl hm ((List.perm_ext_iff_of_nodup (nd hl) (nd hm)).mpr h)
theorem gaps_gaps {n : Nat} {ts : List (Int × Int)} (hw : WOk n ts) : gapsF (gapsF ts (pup n n)) (pup n n) = ts := by
  refine pw_ext (gaps_wok _).1 hw.1 fun t => ?_
  unfold gapsF
  rw [List.mem_filter, Bool.not_eq_true', decide_eq_false_iff_not, List.mem_filter, Bool.not_eq_true', decide_eq_false_iff_not]
  constructor
  · rintro ⟨h1, h2⟩
    exact Classical.byContradiction fun z => h2 ⟨h1, z⟩
  · intro h
    refine ⟨(mem_pup (Nat.le_refl n)).mpr ?_, fun z => z.2 h⟩
    have := hw.2 t h
    omega
def JoinD (kvs : List (List Key × V)) (ts : List (Int × Int)) : Prop := ∀ a b : Int, (valV kvs [Sum.inl a, Sum.inl b]).isSome = decide ((a, b) ∈ ts)
theorem join_put {kvs : List (List Key × V)} {ts : List (Int × Int)} (h : JoinD kvs ts) (t : Int × Int) (v : V) : JoinD (putK kvs [Sum.inl t.1, Sum.inl t.2] v) (ts ++ [t]) := fun a b => by
  rw [valV_put]
  cases t with | mk x y =>
  dsimp only
  by_cases h2 : a = x ∧ b = y
  · obtain ⟨rfl, rfl⟩ := h2
    rw [if_pos rfl]
    exact (decide_eq_true (List.mem_append_right _ (List.mem_singleton.mpr rfl))).symm
  · have n2 : ¬ ([Sum.inl a, Sum.inl b] : List Key) = [Sum.inl x, Sum.inl y] := fun e => by
      cases e; exact h2 ⟨rfl, rfl⟩
    rw [if_neg n2, h a b]
    refine decide_eq_decide.mpr ?_
    rw [List.mem_append, List.mem_singleton]
    constructor
    · exact .inl
    · rintro (z | z)
      · exact z
      · cases z; exact absurd ⟨rfl, rfl⟩ h2

end My

set_option Elab.async false
set_option linter.all false
set_option maxRecDepth 100000
namespace My
open PySem PySem.Spec PyProof.Rows L2 GxR

section
variable {P : Program} {w : World} {K : PySem.W.Frag} {mg : Str → Option Value} {base : Heap}
/-! ### tie_of -/
abbrev s_tie_of : Stmt := topS 5
abbrev N_tie_of : List Str := ["a", "b"]
theorem sc_tie_of : FnScope N_tie_of ["a", "b"] (defScope s_tie_of) := ⟨rfl, rfl, rfl, by decide +kernel, rfl, by decide +kernel, by decide +kernel⟩
def sp_tie_of : Sp := fun vs H Q _ => ∃ a b : Int, vs = [.int a, .int b] ∧ ∀ p, H p = none → Q (.ref p) (upd H p (.tup [.int (tieO a b).1, .int (tieO a b).2]))
theorem ok_tie_of {f : Addr} {fd : FuncData} (B : Bts mg) (F : Fun K "tie_of" "tie_of" s_tie_of f fd) : FnOk P w K mg base CX0 1 f fd ["a", "b"] sp_tie_of := by
  refine F.ok sc_tie_of (fun vs H Q E h => ?_) (fun cdv A outer s H vs Q E hr h => ?_)
  · obtain ⟨a, b, rfl, _⟩ := h; rfl
  · obtain ⟨a, b, rfl, q⟩ := h
    refine ⟨_, (pss_one (ps_ret (pe_ifExp (pt_cmpR op_lt (pv 0) (pv 1) (nomark _)) (pe_tup (pa_cons (pv 0) (pa_cons (pv 1) pa_nil))) (pe_tup (pa_cons (pv 1) (pa_cons (pv 0) pa_nil)))))), ?_⟩
    unfold tieO at q
    refine ⟨_, rfl, _, rfl, _, _, rfl, rfl, _, rfl, ite2 (fun e => ?_) (fun e => ?_)⟩
    · rw [if_pos (of_decide_eq_true e)] at q
      exact ⟨_, rfl, _, rfl, by show 2 ≤ sizeLine; decide, q⟩
    · rw [if_neg (fun z => e (decide_eq_true z))] at q
      exact ⟨_, rfl, _, rfl, by show 2 ≤ sizeLine; decide, q⟩
/-! ### tied -/
abbrev s_tied : Stmt := topS 4
abbrev N_tied : List Str := ["web", "a", "b"]
theorem sc_tied : FnScope N_tied ["web", "a", "b"] (defScope s_tied) := ⟨rfl, rfl, rfl, by decide +kernel, rfl, by decide +kernel, by decide +kernel⟩
def sp_tied : Sp := fun vs H Q _ => ∃ (v : V) (n : Nat) (ts : List (Int × Int)) (a b : Int), vs = [v, .int a, .int b] ∧ Web H v n ts ∧ ∀ H', Same H H' → Q (.bl (decide (tieO a b ∈ ts))) H'
theorem ok_tied {f : Addr} {fd : FuncData} (B : Bts mg) (F : Fun K "tied" "tied" s_tied f fd) (c_tie_of : Cl P w K mg base 1 "tie_of" sp_tie_of) : FnOk P w K mg base CX0 2 f fd ["web", "a", "b"] sp_tied := by
  refine F.ok sc_tied (fun vs H Q E h => ?_) (fun cdv A outer s H vs Q E hr h => ?_)
  · obtain ⟨v, n, ts, a, b, rfl, _⟩ := h; rfl
  · obtain ⟨v, n, ts, a, b, rfl, ⟨p, q', us, rfl, ep, eq, hT⟩, q⟩ := h
    refine ⟨_, (pss_one (ps_ret (pe_cmpR (op_inDT (u65 hr)) (pe_c c_tie_of hr (by decide) (by rfl) (pa_cons (pv 1) (pa_cons (pv 2) pa_nil))) (pe_ix ix_tup (pv 0) pe_int (fun _ _ => rfl)) (by rfl)))), ?_⟩
    refine ⟨_, rfl, _, rfl, a, b, rfl, fun t nt => ?_⟩
    have s1 := same_new (o := .tup [.int (tieO a b).1, .int (tieO a b).2]) nt
    refine ⟨_, rfl, p, _, _, _, rfl, rfl, SqT.of (s1 _ _ ep), rfl, ?_⟩
    refine ⟨dT (tieO a b), ts.map dT, (show Tie _ (.ref t) (tieO a b) from ⟨t, rfl, upd_same⟩).dp, .tup (SqT.of (s1 _ _ eq)) (hT.mono (Same.tst s1)).dp, shaped_dT _, shaped_tup ts, ?_⟩
    rw [any_dT]
    exact q _ s1

/-! ### gaps_of -/
abbrev s_gaps_of : Stmt := topS 6
abbrev N_gaps_of : List Str := ["web", "many", "ties", "joined", "tie", "gaps", "a", "b"]
theorem sc_gaps_of : FnScope N_gaps_of ["web"] (defScope s_gaps_of) := ⟨rfl, rfl, rfl, by decide +kernel, rfl, by decide +kernel, by decide +kernel⟩
def sp_gaps : Sp := fun vs H Q _ => ∃ (v : V) (n : Nat) (ts : List (Int × Int)), vs = [v] ∧ Web H v n ts ∧ ts.length ≤ 10000 ∧ n ≤ 100 ∧
  ∀ u H', Same H H' → Web H' u n (gapsF ts (pup n n)) → Q u H'
theorem ok_gaps {f : Addr} {fd : FuncData} (B : Bts mg) (F : Fun K "gaps_of" "gaps_of" s_gaps_of f fd) : FnOk P w K mg base CX0 1 f fd ["web"] sp_gaps := by
  refine F.ok sc_gaps_of (fun vs H Q E h => ?_) (fun cdv A outer s H vs Q E hr h => ?_)
  · obtain ⟨v, n, ts, rfl, _⟩ := h; rfl
  · obtain ⟨v, n, ts, rfl, ⟨p, q', us, rfl, ep, eq, hT⟩, hl, hn, q⟩ := h
    refine ⟨_, (pss_cons (ps_asg (pv 0) (pg_tup rfl (pgs_cons (pg_name (i := 1) sc_gaps_of.nd rfl (by first | exact Or.inl rfl | exact Or.inr rfl)) (pgs_cons (pg_name (i := 2) sc_gaps_of.nd rfl (by first | exact Or.inl rfl | exact Or.inr rfl)) pgs_nil))))
    (pss_cons (ps_set (i := 3) sc_gaps_of.nd rfl (by first | exact Or.inl rfl | exact Or.inr rfl) (pe_dcP empt_dT (hu_of hr) (own := [("tie", 4)]) (g := (gName 4)) (tt := tYes) rfl sc_gaps_of.nd (pi_tup (pv 2)) (blkOk_by (own := [("tie", 4)]) (N := N_gaps_of) (sc := defScope s_gaps_of) (by decide +kernel)) (fun _ _ _ _ _ => (pg_name (i := 4) sc_gaps_of.nd rfl (by first | exact Or.inl rfl | exact Or.inr rfl))) (fun _ _ _ _ _ => pts_nil) (fun _ _ _ _ _ => (pv 4)) (fun _ _ _ _ _ => pe_bl)))
    (pss_cons (ps_setLc2 (i := 5) (own := [("a", 6), ("b", 7)]) (vs1 := [7]) (g := (gName 6)) (g1 := (gName 7)) (tt := tYes) rfl sc_gaps_of.nd rfl rfl (sw_true rfl rfl rfl (by decide +kernel)) (pi_range1 (by rfl) B.range (pa_cons (pv 1) pa_nil)) (blkOk_by (own := [("a", 6), ("b", 7)]) (N := N_gaps_of) (sc := defScope s_gaps_of) (by decide +kernel)) (by decide) (fun _ _ _ _ _ => (pg_name (i := 6) sc_gaps_of.nd rfl (by first | exact Or.inl rfl | exact Or.inr rfl))) (fun _ _ _ _ _ => pts_nil) (fun _ _ _ _ _ => (pi_range2 (by rfl) B.range (pa_cons (pe_op op_add (pv 6) pe_int) (pa_cons (pv 1) pa_nil)))) (fun _ _ _ _ _ => (pg_name (i := 7) sc_gaps_of.nd rfl (by first | exact Or.inl rfl | exact Or.inr rfl))) (fun _ _ _ _ _ => (pts_one (pt_cmp (pc_dnotin (hu_of hr) (pe_tup (pa_cons (pv 6) (pa_cons (pv 7) pa_nil))) (pv 3))))) (fun _ _ _ _ _ => (pe_tup (pa_cons (pv 6) (pa_cons (pv 7) pa_nil)))))
    (pss_one (ps_ret (pe_tup (pa_cons (pv 1) (pa_cons (pe_callTy call_tuple_of (by rfl) B.tuple (by decide +kernel) (pa_cons (pv 5) pa_nil)) pa_nil)))))))), ?_⟩
    refine ⟨_, rfl, p, _, rfl, SqT.of ep, rfl, _, _, rfl, _, _, rfl, rfl, ?_⟩
    refine ⟨_, rfl, q', rfl, ⟨_, SqT.of eq⟩, fun D nD => ?_⟩
    refine wk (walk_tup (K := K) (a := q') (xs := us)) (fun i H1 => ∃ kvs, Same H H1 ∧ H1 D = some (.dT kvs) ∧ kvs.length ≤ i ∧ JoinD kvs (ts.take i)) ⟨[], same_new nD, upd_same, Nat.le_refl _, fun a b => rfl⟩ ?_ ?_ ?_
    · rintro i H1 _ ⟨_, sm, _⟩
      exact SqT.of (sm _ _ eq)
    · rintro i x H1 H2 hi ⟨kvs, sm, eD, kl, hJ⟩ ⟨rfl, hx⟩
      obtain ⟨t, et, ht⟩ := hT.at hx
      have hu := hT.len
      obtain ⟨pt, rfl, ept⟩ := ht.mono (Same.tst sm)
      refine ⟨rfl, yes ?_⟩
      refine ⟨_, rfl, _, DPut.t (k := [Sum.inl t.1, Sum.inl t.2]) eD ept (sz' (by omega)), ?_⟩
      have := len_put kvs [Sum.inl t.1, Sum.inl t.2] (.bl true)
      refine ⟨_, Same.put sm nD, upd_same, by omega, ?_⟩
      rw [List.take_add_one, et]
      exact join_put hJ t _
    · rintro H1 ⟨kvs, sm, eD, kl, hJ⟩
      rw [hT.len, List.take_length] at hJ
      refine ⟨_, rfl, _, rfl, by omega, by omega, fun D2 nD2 => ?_⟩
      have tn : ((n : Int)).toNat = n := Int.toNat_natCast n
      refine wk (walk_range (lo := 0)) (fun i H2 => ∃ ws, Same H1 H2 ∧ H2 D2 = some (.lst ws) ∧ Ties H2 ws (gapsF ts (pup n i))) ⟨[], same_new nD2, upd_same, by exact trivial⟩ (fun _ _ _ _ => trivial) ?_ ?_
      · rintro i x H2 H3 hi ⟨ws, s2, eD2, hW⟩ ⟨rfl, hx⟩
        obtain rfl : x = .int (i : Int) := hx.trans (congrArg V.int (Int.zero_add _))
        rw [tn] at hi
        refine ⟨rfl, yes ?_⟩
        refine ⟨_, rfl, _, _, rfl, rfl, _, rfl, _, _, rfl, ⟨by omega, by omega, by omega, by omega⟩, ?_⟩
        have en : ((n : Int) - ((i : Int) + 1)).toNat = n - (i + 1) := by omega
        refine wk (walk_range (lo := (i : Int) + 1)) (fun j H3 => ∃ ws, Same H1 H3 ∧ H3 D2 = some (.lst ws) ∧ Ties H3 ws (gapsF ts (pup n i ++ prow i j))) ⟨ws, s2, eD2, by exact (List.append_nil (pup n i)).symm ▸ hW⟩ (fun _ _ _ _ => trivial) ?_ ?_
        · rintro j x H3 H4 hj ⟨ws, s3, eD3, hW3⟩ ⟨rfl, hx⟩
          obtain rfl : x = .int ((i : Int) + 1 + (j : Int)) := hx
          rw [en] at hj
          have wl := hW3.len
          have wl2 := (gaps_sub ts (pup n i ++ prow i j)).length_le
          have l1 := pup_len' hn (Nat.le_of_lt hi)
          rw [List.length_append, prow_len] at wl2
          refine ⟨rfl, ?_⟩
          refine ⟨_, rfl, _, rfl, by show 2 ≤ sizeLine; decide, fun k nk => ?_⟩
          have sk := same_new (o := .tup [.int ((i : Int)), .int ((i : Int) + 1 + (j : Int))]) nk
          have g1 := DGet.t (k := [Sum.inl ((i : Int)), Sum.inl ((i : Int) + 1 + (j : Int))]) (sk _ _ (s3 _ _ eD)) upd_same
          refine ⟨_, rfl, D, _, rfl, g1, _, rfl, ?_⟩
          rw [hJ]
          have st : gapsF ts (pup n i ++ prow i (j + 1)) = gapsF ts (pup n i ++ prow i j) ++ (if ((i : Int), (i : Int) + 1 + (j : Int)) ∈ ts then [] else [((i : Int), (i : Int) + 1 + (j : Int))]) := by
            rw [prow_succ, ← List.append_assoc, gaps_app, gaps_one]
          by_cases hm : ((i : Int), (i : Int) + 1 + (j : Int)) ∈ ts
          · rw [decide_eq_true hm]
            refine iteF ⟨ws, s3.trans sk, sk _ _ eD3, ?_⟩
            rw [st, if_pos hm, List.append_nil]
            exact hW3.mono (Same.tst sk)
          · rw [decide_eq_false hm]
            refine iteT ⟨_, rfl, _, rfl, by show 2 ≤ sizeLine; decide, fun k2 nk2 => ?_⟩
            have sk2 := same_new (o := .tup [.int (i : Int), .int ((i : Int) + 1 + (j : Int))]) nk2
            have e3 := sk2 _ _ (sk _ _ eD3)
            refine ⟨ws, e3, sz' (by omega), ws ++ [.ref k2], Same.put ((s3.trans sk).trans sk2) nD2, upd_same, ?_⟩
            rw [st, if_neg hm]
            exact Ties.mono (tst_put e3) ((hW3.mono (Same.tst (sk.trans sk2))).app (Ties.one Tie.new))
        · rintro H3 ⟨ws, s3, eD3, hW3⟩
          rw [en, ← pup_succ] at hW3
          exact ⟨ws, s3, eD3, hW3⟩
      · rintro H2 ⟨ws, s2, eD2, hW⟩
        rw [tn] at hW
        refine ⟨_, rfl, _, rfl, D2, ws, rfl, .inl ⟨SqL.of eD2, fun t nt => ?_⟩⟩
        refine ⟨by show 2 ≤ sizeLine; decide, fun u nu => ?_⟩
        have s3 := (same_new (o := .tup ws) nt).trans (same_new (o := .tup [.int (n : Int), .ref t]) nu)
        refine q _ _ ((sm.trans s2).trans s3) ⟨u, t, ws, rfl, upd_same, ?_, hW.mono (Same.tst s3)⟩
        rw [upd_ne (ne_of_none upd_same nu)]; exact upd_same
end
end My

set_option Elab.async false
set_option linter.all false
set_option maxRecDepth 100000
namespace My
open PySem PySem.Spec PyProof.Rows L2 GxR

def NearD (kvs : List (List Key × V)) (ts : List (Int × Int)) : Prop := ∀ a b : Int, (valV kvs [Sum.inl a, Sum.inl b]).isSome = decide ((a, b) ∈ ts ∨ (b, a) ∈ ts)
theorem near_put {kvs : List (List Key × V)} {ts : List (Int × Int)} (h : NearD kvs ts) (t : Int × Int) (u v : V) :
    NearD (putK (putK kvs [Sum.inl t.1, Sum.inl t.2] v) [Sum.inl t.2, Sum.inl t.1] u) (ts ++ [t]) := fun a b => by
  rw [valV_put, valV_put]
  cases t with | mk x y =>
  dsimp only
  by_cases h1 : a = y ∧ b = x
  · obtain ⟨rfl, rfl⟩ := h1
    rw [if_pos rfl]
    exact (decide_eq_true (.inr (List.mem_append_right _ (List.mem_singleton.mpr rfl)))).symm
  · have n1 : ¬ ([Sum.inl a, Sum.inl b] : List Key) = [Sum.inl y, Sum.inl x] := fun e => by
      cases e; exact h1 ⟨rfl, rfl⟩
    rw [if_neg n1]
    by_cases h2 : a = x ∧ b = y
    · obtain ⟨rfl, rfl⟩ := h2
      rw [if_pos rfl]
      exact (decide_eq_true (.inl (List.mem_append_right _ (List.mem_singleton.mpr rfl)))).symm
    · have n2 : ¬ ([Sum.inl a, Sum.inl b] : List Key) = [Sum.inl x, Sum.inl y] := fun e => by
        cases e; exact h2 ⟨rfl, rfl⟩
      rw [if_neg n2, h a b]
      refine decide_eq_decide.mpr ?_
      rw [List.mem_append, List.mem_append, List.mem_singleton, List.mem_singleton]
      constructor
      · rintro (z | z)
        · exact .inl (.inl z)
        · exact .inr (.inl z)
      · rintro ((z | z) | (z | z))
        · exact .inl z
        · cases z; exact absurd ⟨rfl, rfl⟩ h2
        · exact .inr z
        · cases z; exact absurd ⟨rfl, rfl⟩ h1

section
variable {P : Program} {w : World} {K : PySem.W.Frag} {mg : Str → Option Value} {base : Heap}
end
end My

set_option Elab.async false
set_option linter.all false
set_option maxRecDepth 100000
namespace My
open PySem PySem.Spec PyProof.Rows L2 GxR

/-! ### forcings: what the law's own going on makes -/
abbrev Ar := Int × Int
def sw (t : Ar) : Ar := (t.2, t.1)
theorem sw_sw (t : Ar) : sw (sw t) = t := rfl
def InR (n : Nat) (t : Ar) : Prop := 0 ≤ t.1 ∧ t.1 < (n : Int) ∧ 0 ≤ t.2 ∧ t.2 < (n : Int)
def allP (n : Nat) : List Ar := (up n).flatMap fun a => (up n).map fun b => (a, b)
theorem mem_allP {n : Nat} {t : Ar} : t ∈ allP n ↔ InR n t := by
  unfold allP InR
  rw [List.mem_flatMap]
  constructor
  · rintro ⟨a, ha, h⟩
    obtain ⟨b, hb, rfl⟩ := List.mem_map.mp h
    have h1 := mem_up.mp ha
    have h2 := mem_up.mp hb
    exact ⟨h1.1, h1.2, h2.1, h2.2⟩
  · rintro ⟨h1, h2, h3, h4⟩
    exact ⟨t.1, mem_up.mpr ⟨h1, h2⟩, List.mem_map.mpr ⟨t.2, mem_up.mpr ⟨h3, h4⟩, rfl⟩⟩
theorem up_pw' (n : Nat) : (up n).Pairwise (· < ·) := by
  unfold up
  rw [List.pairwise_map]
  exact List.pairwise_lt_range.imp fun {x y} h => Int.ofNat_lt.mpr h
theorem allP_pw (n : Nat) : (allP n).Pairwise ltT := by
  unfold allP
  rw [List.pairwise_flatMap]
  refine ⟨fun a _ => ?_, (up_pw' n).imp fun {a b} h x hx y hy => ?_⟩
  · rw [List.pairwise_map]
    exact (up_pw' n).imp fun h => .inr ⟨rfl, h⟩
  · obtain ⟨_, _, rfl⟩ := List.mem_map.mp hx
    obtain ⟨_, _, rfl⟩ := List.mem_map.mp hy
    exact .inl h
theorem allP_len (n : Nat) : (allP n).length = n * n := by
  unfold allP
  have : ∀ l : List Int, (l.flatMap fun a => (up n).map fun b => (a, b)).length = l.length * n := by
    intro l
    induction l with
    | nil => exact (Nat.zero_mul _).symm
    | cons a l ih => rw [List.flatMap_cons, List.length_append, ih, List.length_map, up_len, List.length_cons, Nat.succ_mul, Nat.add_comm]
  rw [this, up_len]
theorem nd_pw {l : List Ar} (h : l.Pairwise ltT) : l.Nodup := List.nodup_iff_pairwise_ne.mpr (h.imp fun {s t} h e => by subst e; exact ltT_irr h)
def nrB (ts : List Ar) (a b : Int) : Bool := decide ((a, b) ∈ ts ∨ (b, a) ∈ ts)
def tA (ts : List Ar) (a b c : Int) : Bool := !decide (c = b) && (nrB ts a c && !nrB ts b c)
def tB' (ts : List Ar) (a b c : Int) : Bool := !decide (c = a) && (nrB ts c b && !nrB ts a c)
def frcA (ts : List Ar) (a b : Int) (l : List Int) : List Ar := (l.filter (tA ts a b)).map fun c => (a, c)
def frcB (ts : List Ar) (a b : Int) (l : List Int) : List Ar := (l.filter (tB' ts a b)).map fun c => (c, b)
def frcL (n : Nat) (ts : List Ar) (t : Ar) : List Ar := frcA ts t.1 t.2 (up n) ++ frcB ts t.1 t.2 (up n)
theorem frcA_step (ts : List Ar) (a b : Int) (l : List Int) (c : Int) : frcA ts a b (l ++ [c]) = frcA ts a b l ++ (if tA ts a b c = true then [(a, c)] else []) := by
  unfold frcA
  rw [List.filter_append, List.map_append]
  by_cases h : tA ts a b c = true
  · rw [if_pos h, List.filter_cons_of_pos h]; rfl
  · rw [if_neg h, List.filter_cons_of_neg h]; rfl
theorem frcB_step (ts : List Ar) (a b : Int) (l : List Int) (c : Int) : frcB ts a b (l ++ [c]) = frcB ts a b l ++ (if tB' ts a b c = true then [(c, b)] else []) := by
  unfold frcB
  rw [List.filter_append, List.map_append]
  by_cases h : tB' ts a b c = true
  · rw [if_pos h, List.filter_cons_of_pos h]; rfl
  · rw [if_neg h, List.filter_cons_of_neg h]; rfl
theorem frcA_len (ts : List Ar) (a b : Int) (l : List Int) : (frcA ts a b l).length ≤ l.length := by
  unfold frcA; rw [List.length_map]; exact List.length_filter_le _ _
theorem frcB_len (ts : List Ar) (a b : Int) (l : List Int) : (frcB ts a b l).length ≤ l.length := by
  unfold frcB; rw [List.length_map]; exact List.length_filter_le _ _
theorem mem_frc {n : Nat} {ts : List Ar} {t x : Ar} : x ∈ frcL n ts t ↔
    (x.1 = t.1 ∧ 0 ≤ x.2 ∧ x.2 < (n : Int) ∧ tA ts t.1 t.2 x.2 = true) ∨ (x.2 = t.2 ∧ 0 ≤ x.1 ∧ x.1 < (n : Int) ∧ tB' ts t.1 t.2 x.1 = true) := by
  unfold frcL frcA frcB
  rw [List.mem_append, List.mem_map, List.mem_map]
  constructor
  · rintro (⟨c, hc, rfl⟩ | ⟨c, hc, rfl⟩)
    · obtain ⟨h1, h2⟩ := List.mem_filter.mp hc
      have := mem_up.mp h1
      exact .inl ⟨rfl, this.1, this.2, h2⟩
    · obtain ⟨h1, h2⟩ := List.mem_filter.mp hc
      have := mem_up.mp h1
      exact .inr ⟨rfl, this.1, this.2, h2⟩
  · rintro (⟨h1, h2, h3, h4⟩ | ⟨h1, h2, h3, h4⟩)
    · exact .inl ⟨x.2, List.mem_filter.mpr ⟨mem_up.mpr ⟨h2, h3⟩, h4⟩, Prod.ext h1.symm rfl⟩
    · exact .inr ⟨x.1, List.mem_filter.mpr ⟨mem_up.mpr ⟨h2, h3⟩, h4⟩, Prod.ext rfl h1.symm⟩
theorem frc_nd (n : Nat) (ts : List Ar) (t : Ar) : (frcL n ts t).Nodup := by
  unfold frcL frcA frcB
  rw [List.nodup_append]
  refine ⟨?_, ?_, fun x hx y hy e => ?_⟩
  · rw [List.nodup_iff_pairwise_ne, List.pairwise_map]
    exact ((List.nodup_iff_pairwise_ne.mp (up_nodup n)).sublist List.filter_sublist).imp fun h e => h (Prod.ext_iff.mp e).2
  · rw [List.nodup_iff_pairwise_ne, List.pairwise_map]
    exact ((List.nodup_iff_pairwise_ne.mp (up_nodup n)).sublist List.filter_sublist).imp fun h e => h (Prod.ext_iff.mp e).1
  · subst e
    obtain ⟨c, hc, rfl⟩ := List.mem_map.mp hx
    obtain ⟨d, hd, e⟩ := List.mem_map.mp hy
    have h1 := (List.mem_filter.mp hc).2
    have e2 := (Prod.ext_iff.mp e).2
    unfold tA at h1
    rw [Bool.and_eq_true, Bool.not_eq_true', decide_eq_false_iff_not] at h1
    exact h1.1 e2.symm
theorem frc_rng {n : Nat} {ts : List Ar} {t x : Ar} (ht : InR n t) (h : x ∈ frcL n ts t) : InR n x := by
  obtain ⟨a1, a2, a3, a4⟩ := ht
  rcases mem_frc.mp h with ⟨h1, h2, h3, _⟩ | ⟨h1, h2, h3, _⟩
  · exact ⟨by omega, by omega, h2, h3⟩
  · exact ⟨h2, h3, by omega, by omega⟩
/-- the forced ones, rising -/
def frcS (n : Nat) (ts : List Ar) (t : Ar) : List Ar := (allP n).filter fun x => decide (x ∈ frcL n ts t)
theorem mem_frcS {n : Nat} {ts : List Ar} {t x : Ar} (ht : InR n t) : x ∈ frcS n ts t ↔ x ∈ frcL n ts t := by
  unfold frcS
  rw [List.mem_filter, decide_eq_true_eq, mem_allP]
  exact ⟨fun h => h.2, fun h => ⟨frc_rng ht h, h⟩⟩
theorem frcS_pw (n : Nat) (ts : List Ar) (t : Ar) : (frcS n ts t).Pairwise ltT := (allP_pw n).sublist List.filter_sublist
theorem frcS_eq {n : Nat} {ts fs : List Ar} {t : Ar} (ht : InR n t) (hp : fs.Perm (frcL n ts t)) (hs : fs.Pairwise (fun s t => ¬ ltT t s)) : fs = frcS n ts t :=
  pw_eq (pw_lt hs (hp.nodup_iff.mpr (frc_nd n ts t))) (frcS_pw n ts t) fun x => hp.mem_iff.trans (mem_frcS ht).symm
/-- what is found and what waits, behind the forced ones fs -/
def grow (fs : List Ar) (fw : List Ar × List Ar) : List Ar × List Ar := fs.foldl (fun fw o => if o ∈ fw.1 then fw else (fw.1 ++ [o], fw.2 ++ [o])) fw
theorem grow_step (fs : List Ar) (o : Ar) (fw : List Ar × List Ar) : grow (fs ++ [o]) fw = if o ∈ (grow fs fw).1 then grow fs fw else ((grow fs fw).1 ++ [o], (grow fs fw).2 ++ [o]) := by
  unfold grow; rw [List.foldl_append]; rfl
def comeR (n : Nat) (ts : List Ar) : Nat → List Ar × List Ar → List Ar
  | 0, fw => fw.1
  | k + 1, fw => match fw.2.getLast? with
    | none => fw.1
    | some x => comeR n ts k (grow (frcS n ts x) (fw.1, fw.2.dropLast))
def comeF (n : Nat) (ts : List Ar) (t : Ar) : List Ar := comeR n ts (2 * (n * n) + 1) ([t], [t])
theorem comeR_nil (n : Nat) (ts cs : List Ar) : ∀ k, comeR n ts k (cs, []) = cs
  | 0 => rfl
  | _ + 1 => rfl
structure GrowI (n : Nat) (fw : List Ar × List Ar) : Prop where
  nd : fw.1.Nodup
  rng : ∀ t ∈ fw.1, InR n t
  sub : ∀ t ∈ fw.2, InR n t
theorem grow_all {n : Nat} : ∀ {fs : List Ar} {fw : List Ar × List Ar}, GrowI n fw → (∀ t ∈ fs, InR n t) → GrowI n (grow fs fw) ∧ ∃ k, (grow fs fw).1.length = fw.1.length + k ∧ (grow fs fw).2.length = fw.2.length + k
  | [], fw, h, _ => ⟨h, 0, rfl, rfl⟩
  | o :: fs, fw, h, hr => by
    show GrowI n (grow fs (if o ∈ fw.1 then fw else (fw.1 ++ [o], fw.2 ++ [o]))) ∧ _
    have ho := hr o List.mem_cons_self
    by_cases hm : o ∈ fw.1
    · have e : grow (o :: fs) fw = grow fs fw := by
        show grow fs (if o ∈ fw.1 then fw else _) = _
        rw [if_pos hm]
      rw [if_pos hm, e]
      exact grow_all h fun t ht => hr t (List.mem_cons_of_mem _ ht)
    · have e : grow (o :: fs) fw = grow fs (fw.1 ++ [o], fw.2 ++ [o]) := by
        show grow fs (if o ∈ fw.1 then fw else _) = _
        rw [if_neg hm]
      have h' : GrowI n (fw.1 ++ [o], fw.2 ++ [o]) := by
        refine ⟨?_, fun t ht => ?_, fun t ht => ?_⟩
        · rw [List.nodup_append]
          refine ⟨h.nd, List.nodup_cons.mpr ⟨List.not_mem_nil, List.nodup_nil⟩, fun a ha b hb e => ?_⟩
          rw [List.mem_singleton.mp hb] at e
          subst e; exact hm ha
        · rcases List.mem_append.mp ht with z | z
          · exact h.rng t z
          · rw [List.mem_singleton.mp z]; exact ho
        · rcases List.mem_append.mp ht with z | z
          · exact h.sub t z
          · rw [List.mem_singleton.mp z]; exact ho
      rw [if_neg hm, e]
      obtain ⟨i1, k, l1, l2⟩ := grow_all h' fun t ht => hr t (List.mem_cons_of_mem _ ht)
      rw [List.length_append] at l1 l2
      exact ⟨i1, k + 1, by rw [l1]; show _ + 1 + k = _; omega, by rw [l2]; show _ + 1 + k = _; omega⟩
theorem cs_len {n : Nat} {cs : List Ar} (nd : cs.Nodup) (h : ∀ t ∈ cs, InR n t) : cs.length ≤ n * n := by
  rw [← allP_len n]
  exact nd_len nd fun t ht => mem_allP.mpr (h t ht)

/-! ### the first pointing, as the law's own way makes it -/
def firstG (n : Nat) (ts : List Ar) : List Ar → List Ar → Option (List Ar)
  | [], C => some C
  | t :: r, C => if t ∈ C ∨ sw t ∈ C then firstG n ts r C else if sw t ∈ comeF n ts t then none else firstG n ts r (C ++ comeF n ts t)
def firstF (n : Nat) (ts : List Ar) : Option (List Ar) := (firstG n ts ts []).map fun C => ts.map fun t => if t ∈ C then t else sw t
/-- arrows for the ties, in their order -/
def nrm (p : Ar) : Ar := if p.1 < p.2 then p else sw p
def Pts (ts ps : List Ar) : Prop := ps.map nrm = ts
theorem nrm_t {t : Ar} (h : t.1 < t.2) : nrm t = t := if_pos h
theorem nrm_sw {t : Ar} (h : t.1 < t.2) : nrm (sw t) = t := by
  unfold nrm sw
  dsimp only
  rw [if_neg (by omega)]
theorem first_pts {n : Nat} {ts ps : List Ar} (hw : WOk n ts) (h : firstF n ts = some ps) : Pts ts ps := by
  unfold firstF at h
  obtain ⟨C, _, rfl⟩ := Option.map_eq_some_iff.mp h
  unfold Pts
  rw [List.map_map]
  have : ∀ t ∈ ts, (nrm ∘ fun t => if t ∈ C then t else sw t) t = id t := fun t ht => by
    have b := hw.2 t ht
    show nrm (if t ∈ C then t else sw t) = t
    split
    · exact nrm_t b.2.1
    · exact nrm_sw b.2.1
  rw [List.map_congr_left this, List.map_id]
end My

set_option Elab.async false
set_option linter.all false
set_option maxRecDepth 100000
namespace My
open PySem PySem.Spec PyProof.Rows L2 GxR

theorem inV_int (ns : List Int) (x : Int) : inV (.int x) (ns.map V.int) = decide (x ∈ ns) := by
  unfold inV
  induction ns with
  | nil => rfl
  | cons a l ih =>
    rw [List.map_cons, List.any_cons, ih]
    by_cases h : a = x
    · subst h; simp [eqV]
    · have h' : ¬ x = a := fun e => h e.symm
      simp [eqV, h, h']
/-! ### the places that each place is tied to -/
def nearT (p : Int) (t : Ar) : Option Int := if t.1 = p then some t.2 else if t.2 = p then some t.1 else none
def nearL (ts : List Ar) (p : Int) : List Int := ts.filterMap (nearT p)
theorem nearL_step (ts : List Ar) (t : Ar) (p : Int) : nearL (ts ++ [t]) p = nearL ts p ++ (if t.1 = p then [t.2] else if t.2 = p then [t.1] else []) := by
  unfold nearL
  rw [List.filterMap_append]
  congr 1
  rw [List.filterMap_cons, List.filterMap_nil]
  unfold nearT
  by_cases h1 : t.1 = p
  · rw [if_pos h1, if_pos h1]
  · rw [if_neg h1, if_neg h1]
    by_cases h2 : t.2 = p
    · rw [if_pos h2, if_pos h2]
    · rw [if_neg h2, if_neg h2]
theorem nearL_len (ts : List Ar) (p : Int) : (nearL ts p).length ≤ ts.length := List.length_filterMap_le _ _
theorem mem_nearL {ts : List Ar} {p c : Int} : c ∈ nearL ts p ↔ ((p, c) ∈ ts ∨ (c, p) ∈ ts) := by
  unfold nearL
  rw [List.mem_filterMap]
  constructor
  · rintro ⟨⟨x, y⟩, ht, e⟩
    unfold nearT at e
    dsimp only at e
    by_cases h1 : x = p
    · rw [if_pos h1] at e; cases e; subst h1; exact .inl ht
    · rw [if_neg h1] at e
      by_cases h2 : y = p
      · rw [if_pos h2] at e; cases e; subst h2; exact .inr ht
      · rw [if_neg h2] at e; cases e
  · rintro (h | h)
    · exact ⟨_, h, if_pos rfl⟩
    · refine ⟨_, h, ?_⟩
      unfold nearT
      dsimp only
      by_cases h1 : c = p
      · rw [if_pos h1, h1]
      · rw [if_neg h1, if_pos rfl]
theorem nearL_nrB {ts : List Ar} {p c : Int} : decide (c ∈ nearL ts p) = nrB ts p c := by
  unfold nrB
  exact decide_eq_decide.mpr mem_nearL
theorem nrB_comm (ts : List Ar) (a b : Int) : nrB ts a b = nrB ts b a := decide_eq_decide.mpr Or.comm
theorem nearL_nd {n : Nat} {ts : List Ar} (hw : WOk n ts) (p : Int) : (nearL ts p).Nodup := by
  unfold nearL
  rw [List.nodup_iff_pairwise_ne, List.pairwise_filterMap]
  refine hw.1.imp_of_mem fun {s t} hs ht h c hc d hd e => ?_
  have bs := hw.2 s hs
  have bt := hw.2 t ht
  subst e
  cases s with | mk s1 s2 =>
  cases t with | mk t1 t2 =>
  unfold nearT at hc hd
  unfold ltT at h
  dsimp only at *
  split at hc
  · split at hd
    · cases hc; cases hd; omega
    · split at hd
      · cases hc; cases hd; omega
      · cases hd
  · split at hc
    · split at hd
      · cases hc; cases hd; omega
      · split at hd
        · cases hc; cases hd; omega
        · cases hd
    · cases hc
/-! ### what a forced_by makes -/
def tE (ts : List Ar) (a b : Int) (c : Int) : Bool := !decide (c = b) && !decide (c ∈ nearL ts b)
def endsL (ts : List Ar) (a b : Int) (l : List Int) : List Ar := (l.filter (tE ts a b)).map fun c => (a, c)
def begL (ts : List Ar) (a b : Int) (l : List Int) : List Ar := (l.filter (tE ts b a)).map fun c => (c, b)
theorem endsL_step (ts : List Ar) (a b : Int) (l : List Int) (c : Int) : endsL ts a b (l ++ [c]) = endsL ts a b l ++ (if tE ts a b c = true then [(a, c)] else []) := by
  unfold endsL
  rw [List.filter_append, List.map_append]
  by_cases h : tE ts a b c = true
  · rw [if_pos h, List.filter_cons_of_pos h]; rfl
  · rw [if_neg h, List.filter_cons_of_neg h]; rfl
theorem begL_step (ts : List Ar) (a b : Int) (l : List Int) (c : Int) : begL ts a b (l ++ [c]) = begL ts a b l ++ (if tE ts b a c = true then [(c, b)] else []) := by
  unfold begL
  rw [List.filter_append, List.map_append]
  by_cases h : tE ts b a c = true
  · rw [if_pos h, List.filter_cons_of_pos h]; rfl
  · rw [if_neg h, List.filter_cons_of_neg h]; rfl
theorem endsL_len (ts : List Ar) (a b : Int) (l : List Int) : (endsL ts a b l).length ≤ l.length := by
  unfold endsL; rw [List.length_map]; exact List.length_filter_le _ _
theorem begL_len (ts : List Ar) (a b : Int) (l : List Int) : (begL ts a b l).length ≤ l.length := by
  unfold begL; rw [List.length_map]; exact List.length_filter_le _ _
def fbL (ts : List Ar) (t : Ar) : List Ar := endsL ts t.1 t.2 (nearL ts t.1) ++ begL ts t.1 t.2 (nearL ts t.2)
theorem near_rng {n : Nat} {ts : List Ar} (hw : WOk n ts) {p c : Int} (h : nrB ts p c = true) : 0 ≤ c ∧ c < (n : Int) := by
  rcases of_decide_eq_true h with z | z
  · have := hw.2 _ z; dsimp only at this; omega
  · have := hw.2 _ z; dsimp only at this; omega
theorem mem_fb {n : Nat} {ts : List Ar} (hw : WOk n ts) {t x : Ar} : x ∈ fbL ts t ↔ x ∈ frcL n ts t := by
  have tE' : ∀ a b c, tE ts a b c = (!decide (c = b) && !nrB ts b c) := fun a b c => by unfold tE; rw [nearL_nrB]
  rw [mem_frc]
  unfold fbL endsL begL
  rw [List.mem_append, List.mem_map, List.mem_map]
  constructor
  · rintro (⟨c, hc, rfl⟩ | ⟨c, hc, rfl⟩)
    · obtain ⟨h1, h2⟩ := List.mem_filter.mp hc
      have h1' : nrB ts t.1 c = true := by rw [← nearL_nrB]; exact decide_eq_true h1
      have r := near_rng hw h1'
      refine .inl ⟨rfl, r.1, r.2, ?_⟩
      rw [tE', Bool.and_eq_true] at h2
      unfold tA
      rw [h2.1, h1', h2.2]; rfl
    · obtain ⟨h1, h2⟩ := List.mem_filter.mp hc
      have h1' : nrB ts t.2 c = true := by rw [← nearL_nrB]; exact decide_eq_true h1
      have r := near_rng hw h1'
      refine .inr ⟨rfl, r.1, r.2, ?_⟩
      rw [tE', Bool.and_eq_true] at h2
      unfold tB'
      rw [h2.1, nrB_comm, h1', h2.2]; rfl
  · rintro (⟨h1, h2, h3, h4⟩ | ⟨h1, h2, h3, h4⟩)
    · unfold tA at h4
      rw [Bool.and_eq_true, Bool.and_eq_true] at h4
      refine .inl ⟨x.2, List.mem_filter.mpr ⟨?_, ?_⟩, Prod.ext h1.symm rfl⟩
      · exact of_decide_eq_true (nearL_nrB.trans h4.2.1)
      · rw [tE', h4.1, h4.2.2]; rfl
    · unfold tB' at h4
      rw [Bool.and_eq_true, Bool.and_eq_true, nrB_comm] at h4
      refine .inr ⟨x.1, List.mem_filter.mpr ⟨?_, ?_⟩, Prod.ext rfl h1.symm⟩
      · exact of_decide_eq_true (nearL_nrB.trans h4.2.1)
      · rw [tE', h4.1, h4.2.2]; rfl
theorem fb_nd {n : Nat} {ts : List Ar} (hw : WOk n ts) (t : Ar) : (fbL ts t).Nodup := by
  unfold fbL endsL begL
  rw [List.nodup_append]
  refine ⟨?_, ?_, fun x hx y hy e => ?_⟩
  · rw [List.nodup_iff_pairwise_ne, List.pairwise_map]
    exact ((List.nodup_iff_pairwise_ne.mp (nearL_nd hw _)).sublist List.filter_sublist).imp fun h e => h (Prod.ext_iff.mp e).2
  · rw [List.nodup_iff_pairwise_ne, List.pairwise_map]
    exact ((List.nodup_iff_pairwise_ne.mp (nearL_nd hw _)).sublist List.filter_sublist).imp fun h e => h (Prod.ext_iff.mp e).1
  · subst e
    obtain ⟨c, hc, rfl⟩ := List.mem_map.mp hx
    obtain ⟨d, hd, e⟩ := List.mem_map.mp hy
    have h1 := (List.mem_filter.mp hc).2
    have e2 := (Prod.ext_iff.mp e).2
    unfold tE at h1
    rw [Bool.and_eq_true, Bool.not_eq_true', decide_eq_false_iff_not] at h1
    exact h1.1 e2.symm
theorem srt_eq {l m fs : List Ar} (hp : fs.Perm l) (nd : l.Nodup) (hs : fs.Pairwise (fun s t => ¬ ltT t s)) (hm : m.Pairwise ltT) (h : ∀ x, x ∈ l ↔ x ∈ m) : fs = m :=
  pw_eq (pw_lt hs (hp.nodup_iff.mpr nd)) hm fun x => hp.mem_iff.trans (h x)
theorem fb_eq {n : Nat} {ts fs : List Ar} {t : Ar} (hw : WOk n ts) (ht : InR n t) (hp : fs.Perm (fbL ts t)) (hs : fs.Pairwise (fun s t => ¬ ltT t s)) : fs = frcS n ts t :=
  srt_eq hp (fb_nd hw t) hs (frcS_pw n ts t) fun x => (mem_fb hw).trans (mem_frcS ht).symm
/-! ### all arrows, rising -/
def arS (n : Nat) (ts : List Ar) : List Ar := (allP n).filter fun x => nrB ts x.1 x.2
theorem arS_pw (n : Nat) (ts : List Ar) : (arS n ts).Pairwise ltT := (allP_pw n).sublist List.filter_sublist
theorem nrB_lt {n : Nat} {ts : List Ar} (hw : WOk n ts) {a b : Int} (h : nrB ts a b = true) : 0 ≤ a ∧ a < (n : Int) ∧ 0 ≤ b ∧ b < (n : Int) ∧ a ≠ b := by
  rcases of_decide_eq_true h with z | z
  · have := hw.2 _ z; dsimp only at this; omega
  · have := hw.2 _ z; dsimp only at this; omega
theorem mem_arS {n : Nat} {ts : List Ar} (hw : WOk n ts) {x : Ar} : x ∈ arS n ts ↔ (x ∈ ts ∨ sw x ∈ ts) := by
  unfold arS
  rw [List.mem_filter, mem_allP]
  constructor
  · rintro ⟨_, h⟩
    exact of_decide_eq_true h
  · intro h
    have h' : nrB ts x.1 x.2 = true := decide_eq_true h
    have b := nrB_lt hw h'
    exact ⟨⟨b.1, b.2.1, b.2.2.1, b.2.2.2.1⟩, h'⟩
theorem ar_nd {n : Nat} {ts : List Ar} (hw : WOk n ts) : (ts ++ ts.map sw).Nodup := by
  have nd := nd_pw hw.1
  rw [List.nodup_append]
  refine ⟨nd, ?_, fun x hx y hy e => ?_⟩
  · rw [List.nodup_iff_pairwise_ne, List.pairwise_map]
    refine (List.nodup_iff_pairwise_ne.mp nd).imp fun {s t} h e => h ?_
    rw [← sw_sw s, e, sw_sw]
  · subst e
    obtain ⟨z, hz, rfl⟩ := List.mem_map.mp hy
    have b1 := hw.2 _ hx
    have b2 := hw.2 _ hz
    unfold sw at b1
    dsimp only at b1
    omega
theorem ar_eq {n : Nat} {ts fs : List Ar} (hw : WOk n ts) (hp : fs.Perm (ts ++ ts.map sw)) (hs : fs.Pairwise (fun s t => ¬ ltT t s)) : fs = arS n ts := by
  refine srt_eq hp (ar_nd hw) hs (arS_pw n ts) fun x => ?_
  rw [mem_arS hw, List.mem_append, List.mem_map]
  constructor
  · rintro (z | ⟨y, hy, rfl⟩)
    · exact .inl z
    · exact .inr hy
  · rintro (z | z)
    · exact .inl z
    · exact .inr ⟨_, z, sw_sw x⟩
theorem arS_inR {n : Nat} {ts : List Ar} {x : Ar} (h : x ∈ arS n ts) : InR n x := mem_allP.mp (List.mem_filter.mp h).1
theorem arS_len {n : Nat} {ts : List Ar} : (arS n ts).length ≤ n * n := by
  rw [← allP_len n]; exact List.length_filter_le _ _
theorem frcS_len {n : Nat} {ts : List Ar} {t : Ar} : (frcS n ts t).length ≤ n * n := by
  rw [← allP_len n]; exact List.length_filter_le _ _
theorem frc_ar {n : Nat} {ts : List Ar} {t x : Ar} (h : x ∈ frcL n ts t) : nrB ts x.1 x.2 = true := by
  rcases mem_frc.mp h with ⟨h1, h2, h3, h4⟩ | ⟨h1, h2, h3, h4⟩
  · unfold tA at h4
    rw [Bool.and_eq_true, Bool.and_eq_true] at h4
    rw [h1]; exact h4.2.1
  · unfold tB' at h4
    rw [Bool.and_eq_true, Bool.and_eq_true] at h4
    rw [h1]; exact h4.2.1
theorem frcS_ar {n : Nat} {ts : List Ar} {t x : Ar} (ht : InR n t) (h : x ∈ frcS n ts t) : x ∈ arS n ts := by
  have h' := (mem_frcS ht).mp h
  exact List.mem_filter.mpr ⟨mem_allP.mpr (frc_rng ht h'), frc_ar h'⟩
theorem frc_sw {n : Nat} {ts : List Ar} {t x : Ar} : x ∈ frcL n ts (sw t) ↔ sw x ∈ frcL n ts t := by
  rw [mem_frc, mem_frc]
  unfold sw tA tB'
  dsimp only
  rw [nrB_comm ts t.2 x.2, nrB_comm ts x.1 t.1]
  constructor
  · rintro (h | h)
    · first | exact .inr h | exact .inl h
    · first | exact .inr h | exact .inl h
  · rintro (h | h)
    · first | exact .inr h | exact .inl h
    · first | exact .inr h | exact .inl h
theorem frc_symm {n : Nat} {ts : List Ar} {t x : Ar} (ht : InR n t) (ha : nrB ts t.1 t.2 = true) (h : x ∈ frcL n ts t) : t ∈ frcL n ts x := by
  obtain ⟨r1, r2, r3, r4⟩ := ht
  rw [mem_frc] at h ⊢
  rcases h with ⟨h1, h2, h3, h4⟩ | ⟨h1, h2, h3, h4⟩
  · unfold tA at h4 ⊢
    rw [Bool.and_eq_true, Bool.and_eq_true, Bool.not_eq_true', decide_eq_false_iff_not] at h4
    refine .inl ⟨h1.symm, r3, r4, ?_⟩
    rw [h1, ha, nrB_comm, h4.2.2, decide_eq_false (fun e => h4.1 e.symm)]; rfl
  · unfold tB' at h4 ⊢
    rw [Bool.and_eq_true, Bool.and_eq_true, Bool.not_eq_true', decide_eq_false_iff_not] at h4
    refine .inr ⟨h1.symm, r1, r2, ?_⟩
    rw [h1, ha, nrB_comm, h4.2.2, decide_eq_false (fun e => h4.1 e.symm)]; rfl
/-! ### forced, turned -/
theorem frcS_sw {n : Nat} {ts fs : List Ar} {t : Ar} (ht : InR n t) (hp : fs.Perm ((frcS n ts t).map sw)) (hs : fs.Pairwise (fun s t => ¬ ltT t s)) : fs = frcS n ts (sw t) := by
  have ht' : InR n (sw t) := ⟨ht.2.2.1, ht.2.2.2, ht.1, ht.2.1⟩
  refine srt_eq hp ?_ hs (frcS_pw n ts _) fun x => ?_
  · rw [List.nodup_iff_pairwise_ne, List.pairwise_map]
    refine (List.nodup_iff_pairwise_ne.mp (nd_pw (frcS_pw n ts t))).imp fun {s t} h e => h ?_
    rw [← sw_sw s, e, sw_sw]
  · rw [mem_frcS ht', frc_sw, List.mem_map]
    constructor
    · rintro ⟨y, hy, rfl⟩
      exact (mem_frcS ht).mp hy
    · intro h
      exact ⟨_, (mem_frcS ht).mpr h, sw_sw x⟩
end My

set_option Elab.async false
set_option linter.all false
set_option maxRecDepth 100000
namespace My
open PySem PySem.Spec PyProof.Rows L2

/-! ### str of data, where no text is being made of anything yet -/
def rStrD (K : PySem.W.Frag) : List V → Hp → VK → Prop := fun xs H Q => ∃ a d, xs = [.ref a] ∧ Dp K H (.ref a) d ∧ d.showable = true ∧ d.hasDict = false ∧ d.depth ≤ 50 ∧ d.shown.length ≤ sizeLine ∧ Q (.str d.shown) H
theorem call_strD {X : Cx} (hg : X.A.guards = some []) (hu : X.A.units + 65 < cLine) : CallR X (.type "str") (rStrD X.K) := by
  rintro pins s σ H xs us Q I r ⟨a, d, rfl, hd, h1, h2, h3, h4, q⟩
  obtain ⟨u, rfl, r1⟩ := vals1 r
  obtain rfl : u = Value.ref a := r1
  obtain ⟨as, rr⟩ := Dp.reads I d _ _ hd rfl
  exact str_of_reads rr h1 (fun z => by rw [h2] at z; cases z) hg (by omega) (fun _ _ e => e) (fun h' t tk k => ⟨.str _, H, I.kept k, ⟨_, rfl⟩, q⟩) h4

/-! ### cuts: what holds behind a piece is named, and the rest is shown from that alone -/
section
variable {X : Cx} {st : Stmt} {rest : List Stmt} {t u : TS} {e : Expr} {te : TE} {tt : TT}
def tCut (t u : TS) : TS := fun D σ H => ∃ M : L2.St → Hp → Prop, t { D with nx := M } σ H ∧ ∀ σ' H', M σ' H' → u D σ' H'
theorem pss_cut (h1 : PS X st t) (h2 : PSs X rest u) : PSs X (st :: rest) (tCut t u) := by
  constructor
  rintro pins s σ H D I ⟨M, h, hM⟩
  refine wpAny_execs_cons (wpAny_mono (h1.run pins s σ H { D with nx := M } I h) (fun f s1 z => ?_) fun _ _ z => z)
  match f, z with
  | .next, ⟨σ', H', I', m⟩ => exact h2.run pins s1 σ' H' D I' (hM _ _ m)
  | .ret _, z => exact z
  | .brk, z => exact z
  | .cont, z => exact z
def tCutE (t : TE) : TE := fun σ H Q => ∃ M : VK, t σ H M ∧ ∀ v H', M v H' → Q v H'
theorem pe_cut (h : PE X e te) : PE X e (tCutE te) := by
  constructor
  rintro pins s σ H Q I ⟨M, m, hM⟩
  refine wpAny_mono (h.run pins s σ H M I m) (fun v s1 z => ?_) fun _ _ z => z
  obtain ⟨x, H', I', r, z⟩ := z
  exact ⟨x, H', I', r, hM _ _ z⟩
def tCutT (t : TT) : TT := fun σ H Q => ∃ M : Bool → Hp → Prop, t σ H M ∧ ∀ v H', M v H' → Q v H'
theorem pt_cut (h : PT X e tt) : PT X e (tCutT tt) := by
  constructor
  rintro pins s σ H Q I ⟨M, m, hM⟩
  refine wpAny_mono (h.run pins s σ H M I m) (fun v s1 z => ?_) fun _ _ z => z
  obtain ⟨H', I', z⟩ := z
  exact ⟨H', I', hM _ _ z⟩
end
/-! ### a def run at the top -/
section
variable {P : Program} {w : World} {K : PySem.W.Frag} {mg : Str → Option Value} {base : Heap}
/-- a call of a def with one argument from the law's own caller -/
def TopRun (P : Program) (w : World) (K : PySem.W.Frag) (mg : Str → Option Value) (base : Heap) (f : Addr) (fd : FuncData) (y : Str) (sp : Sp) : Prop :=
  ∀ (s : Shared) (H : Hp) (u : Value) (v : V) (Q : VK) (E : XK), Env0 P w K mg base callerA [] s H → BindsTo s fd ⟨[u], []⟩ [(y, u)] → RelV v u → sp [v] H Q E →
    codeAny (model P w) callerA (.call (.ref f) ⟨[u], []⟩) (CR CX0 [] P w H s Q E) s
theorem top_run {x y : Str} {st : Stmt} {f : Addr} {fd : FuncData} {N : List Str} {k : Nat} {sp : Sp} (F : Fun K x x st f fd) (S : FnScope N [y] (defScope st)) (room : Room (k + 1) callerA)
    (body : ∀ (cdv : Value) (s : Shared) (H : Hp) (v : V) (Q : VK) (E : XK), Room k (callerA.deeper (envOfC x (defScope st) s.heap.objs.size f cdv)) → sp [v] H Q E →
      ∃ t, PSs (cxOf CX0 P w K mg base N x (defScope st) f cdv callerA [] s H E).nox (defBody st) t ∧ t { nx := fun _ H' => Q .non H', rt := Q } (start N [v]) H) :
    TopRun P w K mg base f fd y sp := by
  intro s H u v Q E e0 hb rv hsp
  obtain ⟨oc, od, kV, doc, pm, an, cdv, ct, osl, rfl, lk, hcd⟩ := F.ex
  have here : K.In s.heap := e0.mod.kin.keeps fun b o z => (e0.bs b o z).1
  have free := e0.mod.nolimit.keeps fun b o z => (e0.bs b o z).1
  refine codeAny_call_function room.depth (here _ _ lk) rfl S.co S.gen rfl (PySem.W.codeRec_of here hcd) (hb _ _ _ _ ?_)
  refine wpAny_newFunctionEnv_cells S.kind ?_ fun env he s1 inn => ?_
  · rintro ⟨n, z⟩ hz
    rcases S.par n (List.of_mem_zip (l₁ := [y]) (l₂ := [u]) hz).1 with loc | cel
    · exact Or.inl loc
    · exact Or.inr ⟨cel, PySem.W.cellsFrom_some _ _ _ (Or.inl cel)⟩
  subst he
  refine ⟨free.keeps inn.toInCall.keep, codeAny_func ?_⟩
  obtain ⟨t, ht, hq⟩ := body cdv s H v Q E (room.deeper _) hsp
  have I0 := inv_start (CX := CX0) (E := E) (vs := [v]) (us := [u]) S room.hd e0 rfl (.cons rv .nil) inn
  refine wpAny_mono (ht.nox.run [] s1 (start N [v]) H _ I0 hq) (fun fl s' out => ?_) fun _ _ z => z
  cases fl with
  | ret z =>
    obtain ⟨v', σ', H', J, r', q'⟩ := out
    exact ⟨v', H', J.os, J.bare, J.base, J.hok, r', q'⟩
  | next =>
    obtain ⟨σ', H', J, q'⟩ := out
    exact ⟨V.non, H', J.os, J.bare, J.base, J.hok, rfl, q'⟩
  | brk => obtain ⟨_, _, _, no⟩ := out; exact no.elim
  | cont => obtain ⟨_, _, _, no⟩ := out; exact no.elim
end
end My

set_option Elab.async false
set_option linter.all false
set_option maxRecDepth 100000
namespace My
open PySem PySem.Spec PyProof.Rows L2

/-! ### the law's call, from what its def does when it is called from the top -/
/-- what the heap tracks when the law is called: the tables, empty, and the script where it is none of the fixed part -/
structure Trk (K : PySem.W.Frag) (s : Shared) (cs : List (Addr × Addr)) (a : Addr) (xs : Array Value) (ys : List V) (H : Hp) : Prop where
  tab : ∀ p ∈ cs, H p.2 = some (.tbl #[])
  scr : SqL K H a ys
  any : ∀ b u, H b = some u → (∃ p ∈ cs, p.2 = b) ∨ (b = a ∧ K.lookup a = none ∧ u = .frz { cls := .type "list", data := .seq xs } (.lst ys))
section
variable {P : Program} {w : World} {K : PySem.W.Frag} {mg mb : Str → Option Value} {fa a : Addr} {cs : List (Addr × Addr)} {fd : FuncData} {y : Str} {sp : Sp} {s : Shared} {vs : List Value} {ns : List Int} {H : Hp}
theorem trk_out (hT : ∀ p ∈ cs, s.heap.get? p.2 = some ⟨.none, none, .fields #[], #[]⟩) (ha : s.heap.get? a = some { cls := .type "list", data := .seq vs.toArray }) {ys : List V} (t : Trk K s cs a vs.toArray ys H) {b : Addr} {o : Obj} (e : s.heap.get? b = some o) (h1 : ∀ us n, o.data = .seq us n → False) (h2 : o.data = .fields #[] → False) : H b = none := by
  cases z : H b with
  | none => rfl
  | some u =>
    exfalso
    rcases t.any b u z with ⟨p, hp, rfl⟩ | ⟨rfl, _, _⟩
    · rw [hT p hp] at e; cases e; exact h2 rfl
    · rw [ha] at e; cases e; exact h1 _ _ rfl
theorem trk_call (KX : K.In s.heap) (g1 : s.heap.Ns mainGlobals mg) (g2 : s.heap.Ns builtinsNs mb) (g3 : ∀ x : Str, x ≠ "__name__" → mb x = bootBuiltins x) (g4 : s.heap.NoLimit) (g5 : s.gens = #[])
    (hT : ∀ p ∈ cs, s.heap.get? p.2 = some ⟨.none, none, .fields #[], #[]⟩) (nT : ∀ p ∈ cs, K.lookup p.2 = none) (hC : ∀ p ∈ cs, PySem.W.CodeHd s.heap p.1 p.2)
    (g6 : ∃ (bm : Addr) (ob : Obj), mg "__builtins__" = some (.ref bm) ∧ bm ≠ builtinsNs ∧ s.heap.get? bm = some ob ∧ ob.cls = .type "module" ∧ ob.dict = some builtinsNs ∧ ob.data = .plain)
    (ha : s.heap.get? a = some { cls := .type "list", data := .seq vs.toArray })
    (R : ∀ base : Heap, K.In base → base.Ns mainGlobals mg → (∀ p ∈ cs, LamX.TabB base mg p.1 p.2) → TopRun P w K mg base fa fd y sp) (hbind : ∀ (s : Shared) (u : Value), BindsTo s fd ⟨[u], []⟩ [(y, u)])
    (t : Trk K s cs a vs.toArray (ns.map V.int) H) (ok : HOk P w H s.heap) (hsp : sp [.ref a] H (fun v _ => v = .bl true) fun _ _ _ => False) :
    codeAny (model P w) callerA (.call (.ref fa) ⟨[.ref a], []⟩) (fun r s' => r = .ok (.ret (.bool true)) ∧ OldK s.heap s'.heap ∧ s'.os = s.os ∧ AllBare s'.gens) s := by
  have up : ∀ {b : Addr} {o : Obj}, s.heap.get? b = some o → (∀ us n, o.data = .seq us n → False) → (o.data = .fields #[] → False) → (hidT s.heap H).get? b = some o := fun e h1 h2 => hidT_get e (trk_out hT ha t e h1 h2)
  have upN : ∀ {b : Addr} {m : Str → Option Value}, s.heap.Ns b m → (hidT s.heap H).Ns b m := by
    rintro b m ⟨o, es, ep, e, d, r⟩
    exact ⟨o, es, ep, up e (fun us n z => by rw [d] at z; cases z) (fun z => by rw [d] at z; cases z), d, r⟩
  have upK : K.In (hidT s.heap H) := by
    intro b o e
    refine hidT_get (KX b o e) ?_
    cases z : H b with
    | none => rfl
    | some u =>
      exfalso
      rcases t.any b u z with ⟨p, hp, rfl⟩ | ⟨rfl, nk, _⟩
      · rw [nT p hp] at e; cases e
      · rw [nk] at e; cases e
  have upM : L2.Mod K mg (hidT s.heap H) := by
    obtain ⟨mc, k1, k2⟩ := g4
    exact ⟨upK, upN g1, ⟨mb, upN g2, g3⟩, ⟨mc, upN k1, k2⟩⟩
  have upT : ∀ p ∈ cs, LamX.TabB (hidT s.heap H) mg p.1 p.2 := by
    intro p hp
    have hp2 := hT p hp
    constructor
    · obtain ⟨o, us, file, tf, flags, tg, inF, text, tt, e1, r1, r2, r3, more⟩ := hC p hp
      refine ⟨o, us, file, tf, flags, tg, inF, text, tt, up e1 (fun z n k => by rw [r2] at k; cases k) (fun k => ?_), r1, r2, r3, more⟩
      rw [r2] at k; cases k; simp at r3
    · obtain ⟨bm, ob, b1, b2, b3, b4, b5, b6⟩ := g6
      refine ⟨bm, ob, b1, b2, fun z => ?_, fun z => ?_, up b3 (fun us n k => by rw [b6] at k; cases k) (fun k => by rw [b6] at k; cases k), b4, b5, b6⟩
      · obtain ⟨o, es, ep, e, hd, _⟩ := g1
        rw [z, e] at b3; cases b3; rw [hd] at b6; cases b6
      · rw [z, hp2] at b3; cases b3; cases b6
    · intro z
      obtain ⟨o, es, ep, e, hd, _⟩ := g1
      rw [z, hp2] at e; cases e; cases hd
  have e0 : Env0 P w K mg (hidT s.heap H) callerA [] s H := by
    refine ⟨rfl, upM, fun b o e => of_hidT e, Nat.le_of_eq (hidT_size _ _), trivial, fun b hb => ?_, ok, .of_eq g5⟩
    exact absurd (show b ∈ ([] : List Addr) from hb) List.not_mem_nil
  refine codeAny_mono (R _ upK (upN g1) upT s H (.ref a) (.ref a) _ _ e0 (hbind s _) rfl hsp) fun r s' h => ?_
  match r, h with
  | .error e, h => exact h.elim
  | .ok .next, h => exact h.elim
  | .ok .brk, h => exact h.elim
  | .ok .cont, h => exact h.elim
  | .ok (.ret u), ⟨v, H', os, bare, un, ok', rv, hv⟩ =>
    obtain rfl : v = .bl true := hv
    obtain rfl : u = Value.bool true := rv
    have key : ∀ b o, s.heap.get? b = some o → (¬ ∃ p ∈ cs, p.2 = b) → s'.heap.get? b = some o := by
      intro b o e nb
      cases z : H b with
      | none => exact un.keep b o e z (fun k => absurd (show b ∈ ([] : List Addr) from k) List.not_mem_nil) List.not_mem_nil
      | some u =>
        rcases t.any b u z with k | ⟨rfl, _, rfl⟩
        · exact absurd k nb
        · have z2 := ok' _ _ (un.frzs _ _ _ z)
          rw [ha] at e; cases e
          exact z2.1
    have tabs : ∀ p ∈ cs, ∃ more : Array Value, s'.heap.get? p.2 = some ⟨.none, none, .fields more, #[]⟩ := by
      intro p hp
      obtain ⟨more, z⟩ := un.tbls p.2 #[] (t.tab p hp)
      exact ⟨_, ok' _ _ z⟩
    refine ⟨rfl, ⟨fun b o e => ?_, fun b o e => ?_⟩, os, bare⟩
    · by_cases hb : ∃ p ∈ cs, p.2 = b
      · obtain ⟨p, hp, rfl⟩ := hb
        obtain ⟨more, hm⟩ := tabs p hp
        rw [hT p hp] at e; cases e
        refine Or.inr (Or.inl ⟨((hC p hp).tab (hT p hp)).isCodeTable, rfl, #[], more, rfl, ?_⟩)
        rw [Array.empty_append]; exact hm
      · exact Or.inl (key b o e hb)
    · by_cases hb : ∃ p ∈ cs, p.2 = b
      · obtain ⟨p, hp, rfl⟩ := hb
        obtain ⟨more, hm⟩ := tabs p hp
        exact ⟨_, hm⟩
      · exact ⟨o, key b o e hb⟩
end
section
open Classical
variable {K : PySem.W.Frag} {a : Addr} {cs : List (Addr × Addr)} {s : Shared} {vs : List Value} {ns : List Int}
noncomputable def trkH (K : PySem.W.Frag) (cs : List (Addr × Addr)) (a : Addr) (xs : Array Value) (ys : List V) : Hp := fun b =>
  if ∃ p ∈ cs, p.2 = b then some (.tbl #[]) else if b = a ∧ K.lookup a = none then some (.frz { cls := .type "list", data := .seq xs } (.lst ys)) else none
theorem trkH_ok {P : Program} {w : World} (KX : K.In s.heap) (hT : ∀ p ∈ cs, s.heap.get? p.2 = some ⟨.none, none, .fields #[], #[]⟩) (ha : s.heap.get? a = some { cls := .type "list", data := .seq vs.toArray }) (hi : IntsAre vs ns) (hl : ns.length ≤ sizeLine) :
    Trk K s cs a vs.toArray (ns.map V.int) (trkH K cs a vs.toArray (ns.map V.int)) ∧ HOk P w (trkH K cs a vs.toArray (ns.map V.int)) s.heap := by
  have na : ¬ ∃ p ∈ cs, p.2 = a := by
    rintro ⟨p, hp, rfl⟩
    rw [hT p hp] at ha; cases ha
  have rv := vals_ints hi
  refine ⟨⟨fun p hp => if_pos ⟨p, hp, rfl⟩, ?_, fun b u e => ?_⟩, fun b u e => ?_⟩
  · cases hk : K.lookup a with
    | some o =>
      have e := KX a o hk
      rw [ha] at e; cases e
      exact Or.inr ⟨_, vs.toArray, _, hk, rfl, rfl, rfl, by rw [List.size_toArray, hi.length]; exact hl, by simpa using rv⟩
    | none => exact Or.inl (Or.inr ⟨_, (if_neg na).trans (if_pos ⟨rfl, hk⟩)⟩)
  · by_cases hb : ∃ p ∈ cs, p.2 = b
    · exact Or.inl hb
    · have e1 := (if_neg hb).symm.trans e
      by_cases hb2 : b = a ∧ K.lookup a = none
      · have e2 := (if_pos hb2).symm.trans e1
        cases e2
        exact Or.inr ⟨hb2.1, hb2.2, rfl⟩
      · have e2 := (if_neg hb2).symm.trans e1
        cases e2
  · by_cases hb : ∃ p ∈ cs, p.2 = b
    · have e1 := (if_pos hb).symm.trans e
      cases e1
      obtain ⟨p, hp, rfl⟩ := hb
      exact hT p hp
    · have e1 := (if_neg hb).symm.trans e
      by_cases hb2 : b = a ∧ K.lookup a = none
      · have e2 := (if_pos hb2).symm.trans e1
        cases e2
        obtain ⟨rfl, _⟩ := hb2
        exact ⟨ha, by rw [List.length_map]; exact hl, vs, _, rv, ha⟩
      · have e2 := (if_neg hb2).symm.trans e1
        cases e2
end
/-- what is known of a law's def at the head's heap -/
def TopAt (l : PySem.W.OpenLaw) (w : World) (K : PySem.W.Frag) (n : Nat) (y : Str) (mg : Str → Option Value) (fa : Addr) (h : Heap) : Prop :=
  ∃ (fd : FuncData) (cs : List (Addr × Addr)) (sp : Sp), (∀ p ∈ cs, h.get? p.2 = some ⟨.none, none, .fields #[], #[]⟩) ∧ (∀ p ∈ cs, K.lookup p.2 = none) ∧ (∀ p ∈ cs, PySem.W.CodeHd h p.1 p.2) ∧ (∀ (s : Shared) (u : Value), BindsTo s fd ⟨[u], []⟩ [(y, u)]) ∧
    (∀ (H : Hp) (a : Addr) (ns : List Int), ns.length ≤ n → (∀ z ∈ ns, Builtin.Int.intBits z ≤ 1048576) → (∀ p ∈ cs, H p.2 = some (.tbl #[])) → SqL K H a (ns.map V.int) → sp [.ref a] H (fun v _ => v = .bl true) fun _ _ _ => False) ∧
    ∀ base : Heap, K.In base → base.Ns mainGlobals mg → (∀ p ∈ cs, LamX.TabB base mg p.1 p.2) → TopRun l.prog w K mg base fa fd y sp
theorem walk_top {l : PySem.W.OpenLaw} {n : Nat} {q : Program} {loose : List Str} {XP : (Str → Option Value) → Heap → Prop} {YP : World → Heap → Prop} {d : DefRec} {y : Str} (hn : l.most = some n) (hn2 : n ≤ sizeLine) (hdf : d.params.defaults = [])
    (F : ∀ (w : World) (mg : Str → Option Value) (fa : Addr) (h : Heap), YP w h → h.Ns mainGlobals mg → mg d.name = some (.ref fa) → ∃ K : PySem.W.Frag, K.In h ∧ TopAt l w K n y mg fa h) :
    PySem.W.WalkO q loose XP YP l.row.toRowW d [] (fun f vs => PySem.call f vs) := by
  apply Att.attach_callB hn hdf
  intro w s0 s1 mg mb fa o pm cd doc a vs ns G Y _ _ _ hm hobj hints hlen hbits hgens
  obtain ⟨K, KX, fd, cs, sp, hT, nT, hC, hb, hsp, hF⟩ := F w mg fa _ Y G.T.g hm
  obtain ⟨tr, ok⟩ := trkH_ok (P := l.prog) (w := w) (cs := cs) KX hT hobj hints (Nat.le_trans hlen hn2)
  exact trk_call KX G.T.g G.T.b G.T.builtins G.T.nolimit hgens hT nT hC G.T.bmain hobj hF hb tr ok (hsp _ a ns hlen hbits tr.tab tr.scr)
end My

set_option Elab.async false
set_option linter.all false
set_option maxRecDepth 100000
namespace My
open PySem PySem.Spec PyProof.Rows L2 GxR

/-! ### what stays while a law goes on -/
theorem same_fr {L : Addr} {H0 H H' : Hp} (s : Same H0 H) (n0 : H0 L = none) (f : Fr L H H') : Same H0 H' := fun b o e =>
  f b o (fun z => by rw [z, n0] at e; cases e) (s b o e)
theorem sq_same {K : PySem.W.Frag} {H H' : Hp} {a : Addr} {xs : List V} (s : Same H H') (h : SqL K H a xs) : SqL K H' a xs := by
  rcases h with (h | ⟨o, h⟩) | h
  · exact .inl (.inl (s _ _ h))
  · exact .inl (.inr ⟨o, s _ _ h⟩)
  · exact .inr h
theorem same_refl (H : Hp) : Same H H := fun _ _ e => e
theorem wok_len {n : Nat} {ts : List Ar} (hW : WOk n ts) (hn : n ≤ 100) : ts.length ≤ 10000 :=
  Nat.le_trans (nd_len (m := pup n n) (nd_pw hW.1) fun t ht => (mem_pup (Nat.le_refl n)).mpr (by have := hW.2 t ht; omega)) (pup_len' hn (Nat.le_refl n))
theorem Eqd.bl {m : Nat} {H : Hp} {i : Bool} : Eqd m H (.bl i) (.bl i) := by
  cases m with
  | zero => exact ⟨rfl, .inr (.inl ⟨i, rfl⟩)⟩
  | succ m => exact .inl ⟨rfl, .inr (.inl ⟨i, rfl⟩)⟩
theorem Eqd.non {m : Nat} {H : Hp} : Eqd m H .non .non := by
  cases m with
  | zero => exact ⟨rfl, .inl rfl⟩
  | succ m => exact .inl ⟨rfl, .inl rfl⟩
theorem lst_eqd {H : Hp} {p q : Addr} {vs us : List V} {ts : List Ar} (hp : H p = some (.lst vs)) (hq : H q = some (.lst us)) (h : Ties H vs ts) (k : Ties H us ts) (l : ts.length ≤ 10000) : Eqd 2 H (.ref p) (.ref q) := by
  refine .inr ⟨p, q, vs, us, rfl, rfl, .inr ⟨hp, hq⟩, by rw [h.len, k.len], by rw [h.len]; exact l, fun i v u e f => ?_⟩
  obtain ⟨t1, e1, h1⟩ := h.at e
  obtain ⟨t2, e2, h2⟩ := k.at f
  rw [e1] at e2; cases e2
  exact tie_eqd h1 h2
theorem Eqd.up2 {m : Nat} {H : Hp} {x y : V} (h : Eqd m H x y) : Eqd (m + 2) H x y := h.up.up
theorem eqv_ties (ts : List Ar) : PyData.eqv (.list (ts.map dT)) (.list (ts.map dT)) = true := SeqAt.eqv_refl _ (can_ties ts)
theorem eqv_tiesT (ts : List Ar) : PyData.eqv (.tuple (ts.map dT)) (.tuple (ts.map dT)) = true := SeqAt.eqv_refl _ (can_ties ts)
theorem cutTo (xs : List V) (j : Nat) : cutV xs none (some (j : Int)) = xs.take j := by
  unfold cutV
  rw [HT.sIx_nat, HT.sIx_none, List.drop_zero, Nat.sub_zero]
  by_cases h : j ≤ xs.length
  · rw [Nat.min_eq_left h]
  · rw [Nat.min_eq_right (by omega), List.take_length, List.take_of_length_le (by omega)]
theorem Ties.take {H : Hp} : ∀ {vs : List V} {ts : List Ar} (j : Nat), Ties H vs ts → Ties H (vs.take j) (ts.take j)
  | _, _, 0, _ => by simp only [List.take_zero]; exact trivial
  | [], [], _ + 1, _ => trivial
  | _ :: _, _ :: _, j + 1, h => ⟨h.1, Ties.take j h.2⟩
  | [], _ :: _, _ + 1, h => h.elim
  | _ :: _, [], _ + 1, h => h.elim
theorem Ties.mem {H : Hp} {vs : List V} {ts : List Ar} {i : Nat} {v : V} (h : Ties H vs ts) (e : vs[i]? = some v) : ∃ t, t ∈ ts ∧ Tie H v t := by
  obtain ⟨t, e1, h1⟩ := h.at e
  exact ⟨t, List.mem_of_getElem? e1, h1⟩

theorem nd_get {qs : List Addr} (nd : qs.Nodup) {i j : Nat} {q : Addr} (h1 : qs[i]? = some q) (h2 : qs[j]? = some q) : i = j := by
  obtain ⟨li, ei⟩ := List.getElem?_eq_some_iff.mp h1
  obtain ⟨lj, ej⟩ := List.getElem?_eq_some_iff.mp h2
  have pw := List.pairwise_iff_getElem.mp (List.nodup_iff_pairwise_ne.mp nd)
  rcases Nat.lt_trichotomy i j with z | z | z
  · exact absurd (ei.trans ej.symm) (pw _ _ li lj z)
  · exact z
  · exact absurd (ej.trans ei.symm) (pw _ _ lj li z)
theorem same_free {H H' : Hp} {p : Addr} (s : Same H H') (h : H' p = none) : H p = none := by
  cases z : H p with
  | none => rfl
  | some o => rw [s _ _ z] at h; cases h
theorem neI (a b : Int) : (!decide (V.int a = V.int b)) = !decide (a = b) := congrArg (! ·) (decide_eq_decide.mpr ⟨fun e => V.int.inj e, fun e => congrArg V.int e⟩)
theorem natOf {a : Int} (h : 0 ≤ a) : ∃ k : Nat, a = (k : Int) := ⟨a.toNat, (Int.toNat_of_nonneg h).symm⟩
/-! ### a web as a text -/
def dW (n : Nat) (ts : List Ar) : PyData := .tuple [.int (n : Int), .tuple (ts.map dT)]
theorem Web.dp {K : PySem.W.Frag} {H : Hp} {v : V} {n : Nat} {ts : List Ar} (h : Web H v n ts) : Dp K H v (dW n ts) := by
  obtain ⟨p, q, vs, rfl, h1, h2, h3⟩ := h
  exact .tup (SqT.of h1) (.cons (.int _) (.cons (.tup (SqT.of h2) h3.dp) .nil))
theorem log_small {i : Int} (h0 : 0 ≤ i) (h : i < 100) : decide (i.natAbs.log2 < 1920) = true := by
  refine decide_eq_true ?_
  have : i.natAbs.log2 ≤ i.natAbs := Nat.log2_le_self _
  omega
theorem show_ties {n : Nat} {ts : List Ar} (hn : n ≤ 100) (hR : ∀ t ∈ ts, InR n t) : PyData.showableAll (ts.map dT) = true ∧ PyData.hasDictAll (ts.map dT) = false := by
  induction ts with
  | nil => exact ⟨rfl, rfl⟩
  | cons t l ih =>
    obtain ⟨i1, i2⟩ := ih fun x hx => hR x (List.mem_cons_of_mem _ hx)
    obtain ⟨a1, a2, a3, a4⟩ := hR t List.mem_cons_self
    rw [List.map_cons, PyData.showableAll, PyData.hasDictAll, i1, i2]
    constructor
    · show (PyData.showableAll [.int t.1, .int t.2] && true) = true
      rw [PyData.showableAll, PyData.showableAll, PyData.showableAll, PyData.showable, PyData.showable, log_small a1 (by omega), log_small a3 (by omega)]; rfl
    · rfl
theorem txt_small : ∀ k : Nat, k < 100 → ((toString ((k : Nat) : Int) : String) : Str).length ≤ 2 := by decide +kernel
theorem txt_len {i : Int} (h0 : 0 ≤ i) (h : i < 100) : ((toString i : String) : Str).length ≤ 2 := by
  obtain ⟨k, rfl⟩ : ∃ k : Nat, i = (k : Int) := ⟨i.toNat, (Int.toNat_of_nonneg h0).symm⟩
  exact txt_small k (by omega)
theorem tupleText_len (l : List Str) : (tupleText l).length ≤ piled l + 3 := by
  unfold tupleText
  rw [strLen_append, strLen_append]
  have e1 : ((("(" : String) : Str)).length = 1 := rfl
  have e3 : (((if l.length == 1 then ",)" else ")" : String) : Str)).length ≤ 2 := by split <;> decide
  rw [e1]
  by_cases h : l = []
  · subst h
    have : (Str.join ", " []).length = 0 := rfl
    omega
  · have := join_length_add l h
    omega
theorem shown_ties {n : Nat} {ts : List Ar} (hn : n ≤ 100) (hR : ∀ t ∈ ts, InR n t) : piled (PyData.shownAll (ts.map dT)) ≤ 13 * ts.length := by
  induction ts with
  | nil => exact Nat.le_refl _
  | cons t l ih =>
    have i1 := ih fun x hx => hR x (List.mem_cons_of_mem _ hx)
    obtain ⟨a1, a2, a3, a4⟩ := hR t List.mem_cons_self
    rw [List.map_cons, PyData.shownAll, piled_cons, List.length_cons]
    have h1 := tupleText_len (PyData.shownAll [.int t.1, .int t.2])
    rw [PyData.shownAll, PyData.shownAll, PyData.shownAll, piled_cons, piled_cons, piled_nil, PyData.shown, PyData.shown] at h1
    have h2 := txt_len a1 (by omega)
    have h3 := txt_len a3 (by omega)
    have h4 : (dT t).shown = tupleText [((toString t.1 : String) : Str), ((toString t.2 : String) : Str)] := by
      unfold dT
      rw [PyData.shown, PyData.shownAll, PyData.shownAll, PyData.shownAll, PyData.shown, PyData.shown]
    rw [h4]
    omega
theorem web_show {n : Nat} {ts : List Ar} (hW : WOk n ts) (hn : n ≤ 12) (hl : ts.length ≤ 10000) : (dW n ts).showable = true ∧ (dW n ts).hasDict = false ∧ (dW n ts).depth ≤ 50 ∧ (dW n ts).shown.length ≤ sizeLine := by
  have hR : ∀ t ∈ ts, InR n t := fun t ht => by
    have := hW.2 t ht
    exact ⟨this.1, by omega, by omega, this.2.2⟩
  obtain ⟨s1, s2⟩ := show_ties (n := n) (by omega) hR
  have s3 := shown_ties (n := n) (by omega) hR
  have s4 := dep_ties ts
  refine ⟨?_, ?_, ?_, ?_⟩
  · unfold dW
    rw [PyData.showable, PyData.showableAll, PyData.showableAll, PyData.showableAll, PyData.showable, PyData.showable, s1, log_small (by omega) (by omega)]; rfl
  · unfold dW
    rw [PyData.hasDict, PyData.hasDictAll, PyData.hasDictAll, PyData.hasDictAll, PyData.hasDict, PyData.hasDict, s2]; rfl
  · unfold dW
    rw [PyData.depth, PyData.depthAll, PyData.depthAll, PyData.depthAll, PyData.depth, PyData.depth]
    omega
  · unfold dW
    rw [PyData.shown, PyData.shownAll, PyData.shownAll, PyData.shownAll, PyData.shown, PyData.shown]
    have h1 := tupleText_len [((toString (n : Int) : String) : Str), tupleText (PyData.shownAll (ts.map dT))]
    rw [piled_cons, piled_cons, piled_nil] at h1
    have h2 := tupleText_len (PyData.shownAll (ts.map dT))
    have h3 := txt_len (i := (n : Int)) (by omega) (by omega)
    have h4 : 200000 ≤ sizeLine := by decide
    omega
/-- what str tells of a web -/
theorem web_str {K : PySem.W.Frag} {H : Hp} {v : V} {n : Nat} {ts : List Ar} {Q : VK} (h : Web H v n ts) (hW : WOk n ts) (hn : n ≤ 12) (hl : ts.length ≤ 10000) (q : Q (.str (dW n ts).shown) H) : rStrD K [v] H Q := by
  obtain ⟨s1, s2, s3, s4⟩ := web_show hW hn hl
  have hd := h.dp (K := K)
  obtain ⟨p, q', vs, rfl, _⟩ := h
  exact ⟨p, _, rfl, hd, s1, s2, s3, s4, q⟩
end My

set_option Elab.async false
set_option linter.all false
set_option maxRecDepth 100000
namespace My
open PySem PySem.Spec PyProof.Rows L2 GxR
/-! ### one table -/
theorem frm_tst {PT : Addr} {H H' : Hp} (s : FrM [PT] H H') (tg : TabG H PT) : Tst H H' := fun b xs e => by
  refine s b _ (fun z => ?_) e
  obtain ⟨ps, h1, _⟩ := tg
  rw [List.mem_singleton.mp z, h1] at e; cases e
theorem frm_lst {PT p : Addr} {H H' : Hp} {xs : List V} (s : FrM [PT] H H') (tg : TabG H PT) (e : H p = some (.lst xs)) : H' p = some (.lst xs) := by
  refine s p _ (fun z => ?_) e
  obtain ⟨ps, h1, _⟩ := tg
  rw [List.mem_singleton.mp z, h1] at e; cases e
theorem tab_same {H H' : Hp} {PT : Addr} (h : TabG H PT) (s : Same H H') : TabG H' PT := by
  obtain ⟨ps, h1, h2⟩ := h
  exact ⟨ps, s _ _ h1, h2⟩
structure St1 (PT : Addr) (H0 H : Hp) : Prop where
  fr : FrM [PT] H0 H
  tg : TabG H PT
theorem St1.same {PT : Addr} {H0 H H' : Hp} (h : St1 PT H0 H) (s : Same H H') : St1 PT H0 H' := ⟨h.fr.trans (FrM.same s), tab_same h.tg s⟩
theorem St1.tab {PT : Addr} {H0 H H' : Hp} (h : St1 PT H0 H) (s : FrM [PT] H H') (t : TabG H' PT) : St1 PT H0 H' := ⟨h.fr.trans s, t⟩
theorem St1.free {PT p : Addr} {H0 H : Hp} (h : St1 PT H0 H) (e : H p = none) : H0 p = none := by
  cases z : H0 p with
  | none => rfl
  | some o =>
    exfalso
    by_cases hp : p = PT
    · obtain ⟨ps, h1, _⟩ := h.tg
      rw [hp, h1] at e; cases e
    · rw [h.fr p o (fun w => hp (List.mem_singleton.mp w)) z] at e; cases e
theorem St1.frL {PT L : Addr} {H0 H H' : Hp} {c : Int} (h : St1 PT H0 H) (lf : Lf H L c) (n0 : H0 L = none) (f : Fr L H H') : St1 PT H0 H' := by
  obtain ⟨x, y, z, e, _⟩ := lf
  obtain ⟨ps, h1, h2⟩ := h.tg
  have nP : PT ≠ L := fun w => by rw [w, e] at h1; cases h1
  exact ⟨fun b o nb eb => f b o (fun w => by rw [w, n0] at eb; cases eb) (h.fr b o nb eb), ⟨ps, f _ _ nP h1, h2⟩⟩
theorem St1.sq {K : PySem.W.Frag} {PT a : Addr} {H0 H : Hp} {xs : List V} (h0 : TabG H0 PT) (h : St1 PT H0 H) (e : SqL K H0 a xs) : SqL K H a xs := by
  obtain ⟨ps, p1, _⟩ := h0
  have k : ∀ {o : HO}, H0 a = some o → (∀ ps, o ≠ .tbl ps) → H a = some o := fun {o} ea nb => by
    refine h.fr a o (fun z => ?_) ea
    rw [List.mem_singleton.mp z, p1] at ea; cases ea; exact nb _ rfl
  rcases e with (e | ⟨o, e⟩) | e
  · exact .inl (.inl (k e fun _ z => by cases z))
  · exact .inl (.inr ⟨o, k e fun _ z => by cases z⟩)
  · exact .inr e
theorem lf_tab {PT L : Addr} {H H' : Hp} {c : Int} (lf : Lf H L c) (s : FrM [PT] H H') (tg : TabG H PT) : Lf H' L c := by
  obtain ⟨x, y, z, e, h⟩ := lf
  obtain ⟨ps, h1, _⟩ := tg
  refine ⟨x, y, z, s _ _ (fun w => ?_) e, h⟩
  rw [List.mem_singleton.mp w, h1] at e; cases e
/-! one table, and what stands beside it -/
theorem St1.refl {PT : Addr} {H : Hp} (t : TabG H PT) : St1 PT H H := ⟨FrM.refl _ _, t⟩
theorem St1.trans {PT : Addr} {H0 H1 H2 : Hp} (a : St1 PT H0 H1) (b : St1 PT H1 H2) : St1 PT H0 H2 := ⟨a.fr.trans b.fr, b.tg⟩
theorem tab_ne {PT p : Addr} {H : Hp} {xs : List V} (t : TabG H PT) (e : H p = some (.lst xs)) : p ≠ PT := fun z => by
  obtain ⟨ps, h1, _⟩ := t
  rw [z, h1] at e; cases e
theorem St1.put {PT p : Addr} {H0 H : Hp} {o : HO} {xs : List V} (h : St1 PT H0 H) (e : H0 p = none) (e2 : H p = some (.lst xs)) : St1 PT H0 (upd H p o) := by
  obtain ⟨ps, h1, h2⟩ := h.tg
  exact ⟨h.fr.putN e, ps, by rw [upd_ne (Ne.symm (tab_ne h.tg e2))]; exact h1, h2⟩
theorem St1.new {PT p : Addr} {H0 H : Hp} {o : HO} (h : St1 PT H0 H) (e : H p = none) : St1 PT H0 (upd H p o) := h.same (same_new e)
theorem St1.lst {PT p : Addr} {H0 H : Hp} {xs : List V} (h : St1 PT H0 H) (t : TabG H0 PT) (e : H0 p = some (.lst xs)) : H p = some (.lst xs) := frm_lst h.fr t e
theorem St1.tst {PT : Addr} {H0 H : Hp} (h : St1 PT H0 H) (t : TabG H0 PT) : Tst H0 H := frm_tst h.fr t
end My

set_option Elab.async false
set_option linter.all false
set_option maxRecDepth 100000
namespace My
open PySem PySem.Spec PyProof.Rows L2 GxR

/-! ### sorted(d), d a dict whose keys are pairs -/
theorem kt_ties {H : Hp} {kvs : List (List Key × V)} {xs : List (List Key × Addr × Value)} (r : KT H kvs xs) : ∀ {cs : List (Int × Int)}, kvs.map (·.1) = cs.map pk → Ties H (xs.map fun x => V.ref x.2.1) cs := by
  induction r with
  | nil =>
    intro cs e
    cases cs with
    | nil => exact trivial
    | cons c cs => cases e
  | cons h t ih =>
    rename_i p q l m
    intro cs e
    cases cs with
    | nil => cases e
    | cons c cs =>
      rw [List.map_cons, List.map_cons] at e
      obtain ⟨e1, e2⟩ := List.cons.inj e
      refine ⟨⟨q.2.1, rfl, ?_⟩, ih e2⟩
      rw [h.2.1, e1]; rfl
section
variable {X : Cx}
/-- what sorted does behind the collecting -/
theorem sort_rest {pins : List (Addr × Obj)} {σ : L2.St} {H : Hp} {s : Shared} {L : List Value} {cs : List (Int × Int)} {R : PySem.Fin → Shared → Prop} {E : Value → Shared → Prop} (I1 : Inv X pins σ H s) (hT : Ties H (L.map backV) cs) (rf : ∀ v ∈ L, ∃ b, v = Value.ref b) (hLz : L.length ≤ sizeLine)
    (hR : ∀ (p : Addr) (s' : Shared) (ys : List V) (ts : List (Int × Int)), Ties H ys ts → ts.Perm cs → ts.Pairwise (fun s t => ¬ ltT t s) → H p = none → Inv X pins σ (upd H p (.lst ys)) s' → R (.done (.ret (.ref p))) s') :
    wpAny (model X.prog X.w) X.A.in1 (newList L >>= fun l => holding [l] (call (.builtin "list.sort") [l]) >>= fun _ => ret l) R E s := by
  refine wpAny_bind (wpAny_newList ?_ hLz)
  have at0 : (s.heap.push (seqObj "list" L.toArray 0)).get? s.heap.objs.size = some (seqObj "list" L.toArray 0) := Heap.get?_push_size _ rfl
  have pr : ∀ v ∈ L, Srt.IsPair s.heap v (My.key H (backV v)).1 (My.key H (backV v)).2 := fun v hv => by
    have hb := hT.all (backV v) (List.mem_map.mpr ⟨v, hv, rfl⟩)
    obtain ⟨b, rfl⟩ := rf v hv
    obtain ⟨b', e, hb⟩ := hb
    cases e
    obtain ⟨_, its, r2, o2, ho2, hc2, n2, hd2⟩ := I1.hok _ _ hb
    obtain ⟨u1, u2, rfl, ⟨t1, rfl⟩, ⟨t2, rfl⟩⟩ := vals2 r2
    exact ⟨b, o2, t1, t2, n2, rfl, ho2, hc2, hd2⟩
  show wpAny _ _ _ _ _ { s with heap := s.heap.push (seqObj "list" L.toArray 0) }
  refine wpAny_bind (wpAny_holding (wpAny_call_entry PyProof.Rows.slot_list_sort ⟨_, at0, rfl⟩ PyProof.Rows.entry_list_sort (SrtO.list_sort_ord (s := { s with heap := s.heap.push (seqObj "list" L.toArray 0) }) (SrtO.swo_lex fun v => My.key H (backV v)) at0 hLz (fun h2 => ?_) fun out hs hb => ⟨_, rfl, ?_⟩) (PyProof.Rows.args_list_sort _)))
  · refine SrtO.pairs_sortableO (s := { s with heap := s.heap.push (seqObj "list" L.toArray 0) }) (k := fun v => My.key H (backV v)) (by omega) (fun v hv => (pr v hv).keeps fun b o e _ => Heap.get?_push_of_some _ e) fun o e => ?_
    have e' := e.symm.trans at0
    cases e'
    intro c
    exact absurd (Value.type.inj c) (by decide)
  · obtain ⟨e', he'⟩ := PyProof.Rows.sortedHeap_at (vs := L) (out := out.toArray) at0
    have ro : ∀ v ∈ out, ∃ b, v = Value.ref b := fun v hv => rf v (hb.perm.mem_iff.mp hv)
    have hs' : SrtO.Srtd (ltP (My.key H)) (out.map backV) := SrtO.srtd_map hs
    obtain ⟨ts, h1, h2, h3⟩ := srt_ties hs' (hb.perm.map backV) hT
    refine wpAny_pure (hR s.heap.objs.size _ _ ts h1 h2 h3 (I1.hok.fresh (Nat.le_refl _)) (I1.laid (t' := s.toks) (fun b ob e => ?_) (Nat.le_refl _) ⟨?_, out, e', vals_back ro, he'⟩))
    · have hlt : b < s.heap.objs.size := Heap.lt_size e
      rw [PyProof.Rows.sortedHeap_old (Nat.ne_of_lt hlt) (by rw [Heap.size_push]; exact Nat.lt_succ_of_lt hlt)]
      exact Heap.get?_push_of_some _ e
    · rw [List.length_map, hb.perm.length_eq]; exact hLz
end
def rSortedDT : List V → Hp → VK → Prop := fun vs H Q => ∃ (a : Addr) (kvs : List (List Key × V)) (cs : List (Int × Int)), vs = [.ref a] ∧ H a = some (.dT kvs) ∧ kvs.map (·.1) = cs.map pk ∧
  ∀ ys p ts, Ties H ys ts → ts.Perm cs → ts.Pairwise (fun s t => ¬ ltT t s) → H p = none → Q (.ref p) (upd H p (.lst ys))
def rSortedTT (K : PySem.W.Frag) : List V → Hp → VK → Prop := fun vs H Q => ∃ (a : Addr) (us : List V) (cs : List (Int × Int)), vs = [.ref a] ∧ SqT K H a us ∧ Ties H us cs ∧
  ∀ ys p ts, Ties H ys ts → ts.Perm cs → ts.Pairwise (fun s t => ¬ ltT t s) → H p = none → Q (.ref p) (upd H p (.lst ys))
section
variable {X : Cx}
theorem call_sortedDT (hc : X.calm = true) : CallR X (.builtin "sorted") rSortedDT := by
  rintro pins s σ H vs us Q I r ⟨a, kvs, cs, rfl, ha, hk, q⟩
  obtain ⟨u, rfl, ru⟩ := vals1 r
  obtain rfl : u = Value.ref a := ru
  obtain ⟨z, lo, xs, rel, o, es, ep, ho, hex, hdat, hes, his, hnd⟩ := dt_of I.hok ha
  have hsz : es.size = xs.length := size_of_entries hes
  have hlen : kvs.length = xs.length := Paired.length rel
  obtain ⟨L, hL⟩ : ∃ L : List Value, L = xs.map fun x => Value.ref x.2.1 := ⟨_, rfl⟩
  have hLl : L.length = xs.length := by rw [hL, List.length_map]
  have hback : L.map backV = xs.map fun x => V.ref x.2.1 := by
    rw [hL, List.map_map]; rfl
  have hT : Ties H (L.map backV) cs := by rw [hback]; exact kt_ties rel hk
  refine Calls.call_function_entry PyProof.Rows.kind_sorted PyProof.Rows.plain_sorted PyProof.Rows.entry_sorted (PyProof.Rows.args_sorted1 _) (?_ : wpAny _ _ (Builtin.«sorted» ⟨[.ref a], []⟩) _ _ s)
  unfold Builtin.«sorted»
  refine wpAny_bind (m := checkCount "sorted" 1 1 _) (wpAny_pure (wpAny_bind (PySem.W.kdu_collect (A := X.A.in1) (PySem.KdlSrc.rawDict (es := es) (ep := ep) lo) (I.ok.hd hc) ⟨o, ho, hex, hdat⟩ (by rw [hsz, ← hlen]; exact z) fun h' tk acc kp hacc => ?_)))
  have hA : acc.toList = L := by
    refine List.ext_getElem? fun j => ?_
    rw [hL, List.getElem?_map]
    by_cases hj : j < xs.length
    · have hj2 : j < acc.size := by rw [hacc.1, hsz]; exact hj
      obtain ⟨hi, e⟩ := hacc.2 j acc[j] (Array.getElem?_eq_getElem hj2)
      have e1 := entry_at hes j
      rw [Array.getElem?_eq_getElem hi, List.getElem?_eq_getElem hj] at e1
      have e2 := Option.some.inj e1
      rw [Array.getElem?_toList, Array.getElem?_eq_getElem hj2, e, e2, List.getElem?_eq_getElem hj]; rfl
    · rw [List.getElem?_eq_none (l := acc.toList) (by rw [Array.length_toList, hacc.1, hsz]; omega), List.getElem?_eq_none (l := xs) (by omega)]; rfl
  rw [hA]
  refine sort_rest (I.kept kp) hT (fun v hv => ?_) (by rw [hLl, ← hlen]; exact z) fun p s' ys ts h1 h2 h3 np J => ⟨_, rfl, .ref p, _, J, rfl, q ys p ts h1 h2 h3 np⟩
  rw [hL] at hv
  obtain ⟨x, _, rfl⟩ := List.mem_map.mp hv
  exact ⟨_, rfl⟩
theorem collect_tup {prog : Program} {w : World} {A : Around} {E : Value → Shared → Prop} {s : Shared} {l : Addr} {vs : List Value} {Q : List Value → Shared → Prop} (hl : IsTup s.heap l vs.toArray) (hsz : vs.length ≤ sizeLine)
    (h : ∀ h', (∀ b o, s.heap.get? b = some o → h'.get? b = some o) → Q vs { s with heap := h' }) : wpAny (model prog w) A (collect (.ref l)) Q E s := by
  obtain ⟨o, ho, hc, n, hd⟩ := id hl
  have up : (s.heap.push (seqObj "list" #[] 0)).get? l = some o := Heap.get?_push_of_some _ ho
  have me : (s.heap.push (seqObj "list" #[] 0)).get? s.heap.objs.size = some (seqObj "list" #[] 0) := Heap.get?_push_size _ rfl
  unfold collect
  refine wpAny_bind (wpAny_runValue (codeAny_builtin entry_proto_collect' (?_ : wpAny _ _ (do again (.builtin "list.__iadd__" ⟨[← newList [], .ref l], []⟩)) _ _ s)))
  refine wpAny_bind (wpAny_newList (wpAny_pure ⟨Code.quiet_builtin _ (by decide +kernel), codeAny_builtin entry_list_iadd' (?_ : wpAny _ _ (Builtin.List.listExtendWith (.ref s.heap.objs.size) (.ref l) (.ref s.heap.objs.size)) _ _ { s with heap := s.heap.push (seqObj "list" #[] 0) })⟩))
  unfold Builtin.List.listExtendWith
  refine wpAny_bind (wpAny_typeOf (T := "tuple") ⟨o, up, hc⟩ ?_)
  have tt : (Value.type "tuple" == Value.type "tuple") = true := rfl
  rw [if_pos (by rw [tt]; simp)]
  refine wpAny_bind (listItems_at up hd (wpAny_bind (listItems_at me rfl ?_)))
  rw [if_neg (by simp)]
  refine wpAny_bind (listUpdate_at me rfl (wpAny_pure ?_) (Nat.zero_le _) (by show (#[] ++ vs.toArray).size ≤ sizeLine + 1; simp only [Array.size_append, List.size_toArray, List.length_nil]; omega))
  show wpAny (model prog w) A (load s.heap.objs.size >>= fun o => match o.data with | .seq xs _ => pure xs.toList | _ => unsupported "internal:collect") Q E { s with heap := (s.heap.push (seqObj "list" #[] 0)).update s.heap.objs.size (Obj.mapSeq (· ++ vs.toArray)) }
  refine wpAny_bind (wpAny_load (get?_update_seq me _) (?_ : wpAny _ _ (pure ((#[] : Array Value) ++ vs.toArray).toList) Q E _))
  rw [show ((#[] : Array Value) ++ vs.toArray).toList = vs by simp]
  refine wpAny_pure (h _ fun b ob e => ?_)
  rw [Heap.get?_update_ne _ _ _ _ (Nat.ne_of_lt (Heap.lt_size e))]
  exact Heap.get?_push_of_some _ e
theorem back_refs {H : Hp} : ∀ {us : List V} {its : List Value} {cs : List (Int × Int)}, Vals us its → Ties H us cs → its.map backV = us ∧ ∀ v ∈ its, ∃ b, v = Value.ref b
  | _, _, _, .nil, _ => ⟨rfl, fun v hv => absurd hv List.not_mem_nil⟩
  | _ :: _, _ :: _, [], .cons _ _, h => h.elim
  | _ :: _, _ :: _, _ :: _, .cons r t, h => by
    obtain ⟨i1, i2⟩ := back_refs t h.2
    obtain ⟨p, rfl, _⟩ := h.1
    cases r
    refine ⟨by rw [List.map_cons, i1]; rfl, fun v hv => ?_⟩
    rcases List.mem_cons.mp hv with rfl | hv
    · exact ⟨_, rfl⟩
    · exact i2 v hv
theorem call_sortedTT : CallR X (.builtin "sorted") (rSortedTT X.K) := by
  rintro pins s σ H vs us Q I r ⟨a, ws, cs, rfl, ha, hT, q⟩
  obtain ⟨u, rfl, ru⟩ := vals1 r
  obtain rfl : u = Value.ref a := ru
  obtain ⟨its, rv, ht, hz⟩ := I.tuple ha
  obtain ⟨b1, b2⟩ := back_refs rv hT
  refine Calls.call_function_entry PyProof.Rows.kind_sorted PyProof.Rows.plain_sorted PyProof.Rows.entry_sorted (PyProof.Rows.args_sorted1 _) (?_ : wpAny _ _ (Builtin.«sorted» ⟨[.ref a], []⟩) _ _ s)
  unfold Builtin.«sorted»
  have hz' : its.length ≤ sizeLine := by rw [← rv.length]; exact hz
  refine wpAny_bind (m := checkCount "sorted" 1 1 _) (wpAny_pure (wpAny_bind (collect_tup ht hz' fun h' kp => ?_)))
  exact sort_rest (I.kept (t' := s.toks) kp) (by rw [b1]; exact hT) b2 hz' fun p s' ys ts h1 h2 h3 np J => ⟨_, rfl, .ref p, _, J, rfl, q ys p ts h1 h2 h3 np⟩
end
end My

set_option Elab.async false
set_option linter.all false
set_option maxRecDepth 100000
namespace My
open PySem PySem.Spec PyProof.Rows L2 GxR
/-! ### lists of numbers as data -/
def dI (ns : List Int) : PyData := .list (ns.map PyData.int)
theorem dpI {K : PySem.W.Frag} {H : Hp} : ∀ ns : List Int, DpAll K H (ns.map V.int) (ns.map PyData.int)
  | [] => .nil
  | _ :: ns => .cons (.int _) (dpI ns)
theorem shaped_dI (ns : List Int) : SeqAt.shaped (dI ns) = true := by
  unfold SeqAt.shaped dI
  rw [Bool.and_eq_true, decide_eq_true_eq]
  constructor
  · show PyData.canLayAll0 _ = true
    induction ns with
    | nil => rfl
    | cons a l ih => rw [List.map_cons, PyData.canLayAll0, ih]; rfl
  · show PyData.depthAll _ + 1 ≤ 64
    have : PyData.depthAll (ns.map PyData.int) = 0 := by
      induction ns with
      | nil => rfl
      | cons a l ih => rw [List.map_cons, PyData.depthAll, ih]; rfl
    omega
theorem eqv_dI (ns : List Int) : PyData.eqv (dI ns) (dI ns) = true := by
  show PyData.eqvAll (ns.map PyData.int) (ns.map PyData.int) = true
  induction ns with
  | nil => rfl
  | cons a l ih =>
    rw [List.map_cons]
    show ((a == a) && PyData.eqvAll (l.map PyData.int) (l.map PyData.int)) = true
    rw [ih, beq_self_eq_true]; rfl
theorem cutFrom (xs : List V) (j : Nat) : cutV xs (some (j : Int)) none = xs.drop j := by
  unfold cutV
  rw [HT.sIx_nat, HT.sIx_none]
  by_cases h : j ≤ xs.length
  · rw [Nat.min_eq_left h, ← List.length_drop, List.take_length]
  · rw [Nat.min_eq_right (by omega), Nat.sub_self, List.take_zero, List.drop_eq_nil_of_le (by omega)]
/-! ### lists of lists of arrows as data -/
def dL (c : List Ar) : PyData := .list (c.map dT)
theorem can_lists (cls : List (List Ar)) : PyData.canLayAll0 (cls.map dL) = true := by
  induction cls with
  | nil => rfl
  | cons a l ih =>
    rw [List.map_cons, PyData.canLayAll0, ih]
    have : (dL a).canLay0 = true := can_ties a
    rw [this]; rfl
theorem dep_lists (cls : List (List Ar)) : PyData.depthAll (cls.map dL) ≤ 2 := by
  induction cls with
  | nil => exact Nat.zero_le _
  | cons a l ih =>
    rw [List.map_cons, PyData.depthAll]
    have : (dL a).depth ≤ 2 := by
      show PyData.depthAll (a.map dT) + 1 ≤ 2
      have := dep_ties a
      omega
    omega
theorem shaped_lists (cls : List (List Ar)) : SeqAt.shaped (.list (cls.map dL)) = true := by
  unfold SeqAt.shaped
  rw [Bool.and_eq_true, decide_eq_true_eq]
  refine ⟨can_lists cls, ?_⟩
  show PyData.depthAll _ + 1 ≤ 64
  have := dep_lists cls
  omega
theorem any_dL {cls : List (List Ar)} {c : List Ar} (h : c ∈ cls) : ((cls.map dL).any fun z => PyData.eqv z (dL c)) = true :=
  List.any_eq_true.mpr ⟨dL c, List.mem_map.mpr ⟨c, h, rfl⟩, eqv_ties c⟩
end My

set_option Elab.async false
set_option linter.all false
set_option maxRecDepth 100000
namespace My
open PySem PySem.Spec PyProof.Rows L2 GxR
/-! the least module of some places: closed under what parts it -/
def adjB (ts : List (Int × Int)) (a b : Int) : Bool := decide (tieO a b ∈ ts)
def partsB (ts : List (Int × Int)) (S : List Int) (p : Int) : Bool := (S.map (adjB ts p)).any id && !((S.map (adjB ts p)).all id)
theorem parts_iff {ts : List (Int × Int)} {S : List Int} {p : Int} : partsB ts S p = true ↔ (∃ a ∈ S, adjB ts p a = true) ∧ ∃ b ∈ S, adjB ts p b = false := by
  unfold partsB
  rw [Bool.and_eq_true, List.any_eq_true, Bool.not_eq_true', List.all_eq_false]
  constructor
  · rintro ⟨⟨x, hx, e⟩, y, hy, f⟩
    obtain ⟨a, ha, rfl⟩ := List.mem_map.mp hx
    obtain ⟨b, hb, rfl⟩ := List.mem_map.mp hy
    exact ⟨⟨a, ha, e⟩, b, hb, Bool.eq_false_iff.mpr f⟩
  · rintro ⟨⟨a, ha, e⟩, b, hb, f⟩
    exact ⟨⟨_, List.mem_map_of_mem ha, e⟩, _, List.mem_map_of_mem hb, Bool.eq_false_iff.mp f⟩
theorem parts_mono {ts : List (Int × Int)} {S M : List Int} {p : Int} (h : ∀ x ∈ S, x ∈ M) (e : partsB ts S p = true) : partsB ts M p = true := by
  obtain ⟨⟨a, ha, e1⟩, b, hb, e2⟩ := parts_iff.mp e
  exact parts_iff.mpr ⟨⟨a, h a ha, e1⟩, b, h b hb, e2⟩
/-- no place of the web parts M -/
def Clo (n : Nat) (ts : List (Int × Int)) (M : List Int) : Prop := ∀ p : Int, 0 ≤ p → p < n → p ∉ M → partsB ts M p = false
/-- reached from the places S0 by what parts -/
structure Lm (n : Nat) (ts : List (Int × Int)) (S0 ks : List Int) : Prop where
  sub : ∀ x ∈ S0, x ∈ ks
  rng : ∀ x ∈ ks, 0 ≤ x ∧ x < (n : Int)
  nd : ks.Nodup
  low : ∀ M, Clo n ts M → (∀ x ∈ S0, x ∈ M) → ∀ x ∈ ks, x ∈ M
/-- the least module of S0, rising -/
structure Least (n : Nat) (ts : List (Int × Int)) (S0 L : List Int) : Prop where
  lm : Lm n ts S0 L
  clo : Clo n ts L
  rise : L.Pairwise (· < ·)
def newP (n : Nat) (ts : List (Int × Int)) (ks : List Int) (i : Nat) : List Int := (up i).filter fun p => decide (p ∉ ks) && partsB ts ks p
theorem newP_step (n : Nat) (ts : List (Int × Int)) (ks : List Int) (i : Nat) : newP n ts ks (i + 1) = newP n ts ks i ++ (if (decide ((i : Int) ∉ ks) && partsB ts ks (i : Int)) = true then [(i : Int)] else []) := by
  unfold newP
  rw [up_succ, List.filter_append, List.filter_cons]
  rfl
theorem lm_more {n : Nat} {ts : List (Int × Int)} {S0 ks : List Int} (h : Lm n ts S0 ks) : Lm n ts S0 (ks ++ newP n ts ks n) := by
  have mm : ∀ x, x ∈ newP n ts ks n → (0 ≤ x ∧ x < (n : Int)) ∧ x ∉ ks ∧ partsB ts ks x = true := fun x hx => by
    obtain ⟨a, b⟩ := List.mem_filter.mp hx
    rw [Bool.and_eq_true] at b
    exact ⟨mem_up.mp a, of_decide_eq_true b.1, b.2⟩
  refine ⟨fun x hx => List.mem_append_left _ (h.sub x hx), fun x hx => ?_, ?_, fun M hM hS x hx => ?_⟩
  · rcases List.mem_append.mp hx with z | z
    · exact h.rng x z
    · exact (mm x z).1
  · rw [List.nodup_append]
    exact ⟨h.nd, (up_nodup n).filter _, fun a ha b hb e => (mm b hb).2.1 (e ▸ ha)⟩
  · rcases List.mem_append.mp hx with z | z
    · exact h.low M hM hS x z
    · obtain ⟨⟨a, b⟩, c, d⟩ := mm x z
      by_cases hx : x ∈ M
      · exact hx
      · have := hM x a b hx
        rw [parts_mono (h.low M hM hS) d] at this
        cases this
theorem lm_clo {n : Nat} {ts : List (Int × Int)} {ks : List Int} (e : newP n ts ks n = []) : Clo n ts ks := fun p a b c => by
  cases hh : partsB ts ks p with
  | false => rfl
  | true =>
    have : p ∈ newP n ts ks n := List.mem_filter.mpr ⟨mem_up.mpr ⟨a, b⟩, by rw [hh, decide_eq_true c]; rfl⟩
    rw [e] at this; cases this
theorem parts_congr {ts : List (Int × Int)} {S M : List Int} {p : Int} (h : ∀ x, x ∈ S ↔ x ∈ M) : partsB ts S p = partsB ts M p := by
  cases e : partsB ts M p with
  | true => exact parts_mono (fun x hx => (h x).mpr hx) e
  | false =>
    cases e' : partsB ts S p with
    | false => rfl
    | true => rw [parts_mono (fun x hx => (h x).mp hx) e'] at e; cases e
theorem least_of {n : Nat} {ts : List (Int × Int)} {S0 ks ys : List Int} (h : Lm n ts S0 ks) (c : Clo n ts ks) (p : ys.Perm ks) (r : ys.Pairwise (· ≤ ·)) : Least n ts S0 ys := by
  have hm : ∀ x, x ∈ ys ↔ x ∈ ks := fun x => p.mem_iff
  have nd : ys.Nodup := p.nodup_iff.mpr h.nd
  refine ⟨⟨fun x hx => (hm x).mpr (h.sub x hx), fun x hx => h.rng x ((hm x).mp hx), nd, fun M hM hS x hx => h.low M hM hS x ((hm x).mp hx)⟩, fun q a b hq => ?_, ?_⟩
  · rw [parts_congr hm]
    exact c q a b fun z => hq ((hm q).mpr z)
  · exact (List.pairwise_and_iff.mpr ⟨r, nd⟩).imp fun {a b} h => by have h1 := h.1; have h2 := h.2; omega
theorem rise_ext : ∀ {A B : List Int}, A.Pairwise (· < ·) → B.Pairwise (· < ·) → (∀ x, x ∈ A ↔ x ∈ B) → A = B := fun {A B} ha hb h => by
  refine List.Perm.eq_of_pairwise (le := (· < ·)) (fun a b _ _ x y => by omega) ha hb ?_
  exact (List.perm_ext_iff_of_nodup (ha.imp fun h => Int.ne_of_lt h) (hb.imp fun h => Int.ne_of_lt h)).mpr h
theorem Least.uniq {n : Nat} {ts : List (Int × Int)} {S0 A B : List Int} (a : Least n ts S0 A) (b : Least n ts S0 B) : A = B :=
  rise_ext a.rise b.rise fun x => ⟨a.lm.low B b.clo b.lm.sub x, b.lm.low A a.clo a.lm.sub x⟩
/-- of a closed rising list itself -/
theorem Least.self {n : Nat} {ts : List (Int × Int)} {S0 L : List Int} (h : Least n ts S0 L) : Least n ts L L :=
  ⟨⟨fun _ z => z, h.lm.rng, h.lm.nd, fun M _ hS => hS⟩, h.clo, h.rise⟩
end My

set_option Elab.async false
set_option linter.all false
set_option maxRecDepth 100000
namespace My
open PySem PySem.Spec PyProof.Rows L2 GxR
/-! modules that overlap: both together, what is common, what one has beside the other -/
theorem adj_comm (ts : List (Int × Int)) (a b : Int) : adjB ts a b = adjB ts b a := by
  unfold adjB tieO
  by_cases h : a < b
  · rw [if_pos h, if_neg (by omega)]
  · by_cases k : b < a
    · rw [if_neg h, if_pos k]
    · have : a = b := by omega
      subst this; rfl
theorem clo_iff {n : Nat} {ts : List (Int × Int)} {M : List Int} : Clo n ts M ↔ ∀ p : Int, 0 ≤ p → p < n → p ∉ M → ∀ a ∈ M, ∀ b ∈ M, adjB ts p a = adjB ts p b := by
  constructor
  · intro h p h0 h1 hp a ha b hb
    have e := h p h0 h1 hp
    cases ea : adjB ts p a with
    | true =>
      cases eb : adjB ts p b with
      | true => rfl
      | false => rw [parts_iff.mpr ⟨⟨a, ha, ea⟩, b, hb, eb⟩] at e; cases e
    | false =>
      cases eb : adjB ts p b with
      | false => rfl
      | true => rw [parts_iff.mpr ⟨⟨b, hb, eb⟩, a, ha, ea⟩] at e; cases e
  · intro h p h0 h1 hp
    cases e : partsB ts M p with
    | false => rfl
    | true =>
      obtain ⟨⟨a, ha, ea⟩, b, hb, eb⟩ := parts_iff.mp e
      have := h p h0 h1 hp a ha b hb
      rw [ea, eb] at this; cases this
theorem clo_both {n : Nat} {ts : List (Int × Int)} {A B C : List Int} (ha : Clo n ts A) (hb : Clo n ts B) {c : Int} (c1 : c ∈ A) (c2 : c ∈ B) (hC : ∀ x, x ∈ C ↔ x ∈ A ∨ x ∈ B) : Clo n ts C := by
  rw [clo_iff] at ha hb ⊢
  intro p h0 h1 hp
  have pa : p ∉ A := fun z => hp ((hC p).mpr (.inl z))
  have pb : p ∉ B := fun z => hp ((hC p).mpr (.inr z))
  have k : ∀ x ∈ C, adjB ts p x = adjB ts p c := fun x hx => by
    rcases (hC x).mp hx with z | z
    · exact ha p h0 h1 pa x z c c1
    · exact hb p h0 h1 pb x z c c2
  exact fun a a1 b b1 => (k a a1).trans (k b b1).symm
theorem clo_common {n : Nat} {ts : List (Int × Int)} {A B C : List Int} (ha : Clo n ts A) (hb : Clo n ts B) (hC : ∀ x, x ∈ C ↔ x ∈ A ∧ x ∈ B) : Clo n ts C := by
  rw [clo_iff] at ha hb ⊢
  intro p h0 h1 hp a a1 b b1
  have a2 := (hC a).mp a1
  have b2 := (hC b).mp b1
  by_cases pa : p ∈ A
  · exact hb p h0 h1 (fun z => hp ((hC p).mpr ⟨pa, z⟩)) a a2.2 b b2.2
  · exact ha p h0 h1 pa a a2.1 b b2.1
theorem clo_beside {n : Nat} {ts : List (Int × Int)} {A B C : List Int} (ha : Clo n ts A) (hb : Clo n ts B) (rA : ∀ x ∈ A, 0 ≤ x ∧ x < (n : Int)) (rB : ∀ x ∈ B, 0 ≤ x ∧ x < (n : Int)) {y : Int} (y1 : y ∈ B) (y2 : y ∉ A) (hC : ∀ x, x ∈ C ↔ x ∈ A ∧ x ∉ B) : Clo n ts C := by
  rw [clo_iff] at ha hb ⊢
  intro p h0 h1 hp a a1 b b1
  have a2 := (hC a).mp a1
  have b2 := (hC b).mp b1
  by_cases pa : p ∈ A
  · have pb : p ∈ B := by
      by_cases z : p ∈ B
      · exact z
      · exact absurd ((hC p).mpr ⟨pa, z⟩) hp
    have k : ∀ x, x ∈ A → x ∉ B → adjB ts p x = adjB ts y x := fun x hx nx => by
      rw [adj_comm ts p x, adj_comm ts y x]
      exact hb x (rA x hx).1 (rA x hx).2 nx p pb y y1
    rw [k a a2.1 a2.2, k b b2.1 b2.2]
    exact ha y (rB y y1).1 (rB y y1).2 y2 a a2.1 b b2.1
  · exact ha p h0 h1 pa a a2.1 b b2.1
/-- a closed rising list of places is its own least module -/
theorem least_self {n : Nat} {ts : List (Int × Int)} {L : List Int} (c : Clo n ts L) (r : L.Pairwise (· < ·)) (h : ∀ x ∈ L, 0 ≤ x ∧ x < (n : Int)) : Least n ts L L :=
  ⟨⟨fun _ z => z, h, r.imp fun h => Int.ne_of_lt h, fun M _ hS => hS⟩, c, r⟩
/-- of more places a module that has at least as much -/
theorem least_more {n : Nat} {ts : List (Int × Int)} {S T A B : List Int} (a : Least n ts S A) (b : Least n ts T B) (h : ∀ x ∈ S, x ∈ T) : ∀ x ∈ A, x ∈ B :=
  a.lm.low B b.clo fun x hx => b.lm.sub x (h x hx)
end My

set_option Elab.async false
set_option linter.all false
set_option maxRecDepth 100000
set_option maxHeartbeats 4000000
namespace My
open PySem PySem.Spec PyProof.Rows L2 GxR
/-! ### set(xs) of a list of numbers -/
abbrev oSet (w : World) : Obj := { cls := .type "set", dict := none, data := .set #[] 0 (.fresh 0 0 (!w.params.followText "set-order")) }
section
variable {P : Program} {w : World} {A : Around} {E : Value → Shared → Prop} {s : Shared}
/-- the loop that fills a new set from a list of numbers -/
theorem fill_ints {l : Addr} {items : Array Value} {ns : List Int} {B : Around} {R : Result → Shared → Prop} (hh : B.in1.handled = none) (hl : s.heap.IsList l items) (hit : IntsAre items.toList ns) (hb : ns.length + 1 < scanBound)
    (h : ∀ h' tk c, SetR w h' s.heap.objs.size (fun j => decide (j ∈ ns)) c → c ≤ ns.length → (∀ b o, s.heap.get? b = some o → h'.get? b = some o) → R (.ok (.ret .none)) { s with heap := h', toks := tk }) :
    codeAny (model P w) B (.builtin "set.update.loop" ⟨[.ref s.heap.objs.size, .ref (s.heap.push (oSet w)).objs.size], []⟩) R
      { s with heap := (s.heap.push (oSet w)).push { cls := .type "list_iterator", data := .fields #[.ref l, .int 0 0] } } := by
  have hn : items.size = ns.length := by rw [← Array.length_toList]; exact IntsAre.length hit
  have hlt : l < s.heap.objs.size := by obtain ⟨o, ho, _⟩ := hl; exact Heap.lt_size ho
  have sz : (s.heap.push (oSet w)).objs.size = s.heap.objs.size + 1 := Heap.size_push ..
  have hl1 : (s.heap.push (oSet w)).IsList l items := hl.push _
  have hv : ∀ (i : Nat) (v : Value), items[i]? = some v → ∃ k t, ns[i]? = some k ∧ v = .int k t := fun i v e => by
    have hi : i < ns.length := by rw [← hn]; exact (Array.getElem?_eq_some_iff.mp e).1
    obtain ⟨t, z⟩ := IntsAre.int_at hit i v (by rw [Array.getElem?_toList]; exact e)
    rw [List.getD_eq_getElem?_getD, List.getElem?_eq_getElem hi] at z
    exact ⟨ns[i], t, List.getElem?_eq_getElem hi, z⟩
  refine set_update_ints ((Walks.list hh (s.heap.push (oSet w)).objs.size l (by rw [sz]; exact Nat.ne_of_lt (Nat.lt_succ_of_lt hlt)) items).toS) s.heap.objs.size (by rw [sz]; simp only [List.mem_cons, List.not_mem_nil, or_false, not_or]; exact ⟨Nat.ne_of_lt (Nat.lt_succ_self _), Nat.ne_of_gt hlt⟩) ns hn hb hv items.size 0 _ (by omega) (Nat.zero_le _)
    ⟨⟨_, Heap.get?_push_size _ rfl, rfl, rfl⟩, hl1.push _⟩ ⟨0, Nat.le_refl 0, setR_new_at (Heap.get?_push_of_some _ (Heap.get?_push_size _ rfl))⟩ fun s' c hm hc hS => ?_
  obtain ⟨h', g, d, tk, os⟩ := s'
  obtain rfl : g = s.gens := hm.gens
  obtain rfl : d = s.drawn := hm.drawn
  obtain rfl : os = s.os := hm.os
  refine h h' tk c hS (by omega) fun b o e => ?_
  have hb0 := Heap.lt_size e
  exact hm.heap b o (by rw [sz]; simp only [List.mem_cons, List.not_mem_nil, or_false, not_or]; exact ⟨Nat.ne_of_lt hb0, Nat.ne_of_lt (Nat.lt_succ_of_lt hb0)⟩) (Heap.get?_push_of_some _ (Heap.get?_push_of_some _ e))
set_option maxRecDepth 100000 in
theorem call_setL {l : Addr} {items : Array Value} (ns : List Int) {Q : Value → Shared → Prop} (hh : A.handled = none) (hl : s.heap.IsList l items) (hit : IntsAre items.toList ns) (hb : ns.length + 1 < scanBound)
    (h : ∀ h' tk c, SetR w h' s.heap.objs.size (fun j => decide (j ∈ ns)) c → c ≤ ns.length → (∀ b o, s.heap.get? b = some o → h'.get? b = some o) → Q (.ref s.heap.objs.size) { s with heap := h', toks := tk }) :
    wpAny (model P w) A (call (.type "set") [.ref l]) Q E s := by
  obtain ⟨c, tl, hmro⟩ := F.called_set.mro
  have hmade := F.called_set.made
  have hsub := F.called_set.sub
  refine wpAny_call (codeAny_of_tree ?_)
  show wpAny _ _ (callAny (.type "set") _) _ _ _
  refine wpAny_pure ⟨Code.quiet_builtin _ (by decide +kernel), codeAny_builtin F.entry_type_call ?_⟩
  rw [Around.under_plain (weight_type_call_type "set" [.ref l] []) rfl]
  have h1 := F.called_set.notType
  have h2 := F.called_set.canCreate
  have hct := F.typeCall_set_1 (.ref l)
  repeat (any_goals (first | assumption | wp_step))
  refine codeAny_mono (code_set_led1 (.ref l) (E := E) (Q₁ := fun x s1 => x = .ref s.heap.objs.size ∧ s1 = { s with heap := s.heap.push (oSet w) }) ⟨rfl, rfl⟩) fun r s1 hr => ?_
  cases r with
  | error e => exact hr
  | ok fl =>
    cases fl with
    | ret obj =>
      obtain ⟨rfl, rfl⟩ := hr
      have hS : (s.heap.push (oSet w)).get? s.heap.objs.size = some (oSet w) := Heap.get?_push_size _ rfl
      have hT : Shared.TypeIs { s with heap := s.heap.push (oSet w) } (.ref s.heap.objs.size) "set" := ⟨_, hS, rfl⟩
      have hli := F.called_set.init.lookup
      have hbi := F.called_set.init.bind (.ref s.heap.objs.size)
      repeat (any_goals (first | assumption | wp_step))
      refine codeAny_mono (codeAny_call_builtin (R := wants (fun r s2 => r = .none ∧ Q (.ref s.heap.objs.size) s2) E) F.called_set.init.plain F.entry_set_init (check_set_init_1 hT ?_)) fun r2 s2 hr2 => ?_
      · have hl1 := hl.push (oSet w)
        obtain ⟨ol, hol, hcl, nl, hdl⟩ := id hl1
        obtain ⟨ocls, odict, odata, oslots⟩ := ol
        simp only at hcl hdl
        subst hcl; subst hdl
        have hsls := F.sub_list_set
        have hslf := F.sub_list_frozenset
        have hne : (Value.type "list" == Value.type "dict") = false := by decide
        unfold Builtin.«set.__init__» noKeywords Builtin.Frozenset.updateFrom
        generalize hPI : pyIter = PI
        wp_walk
        subst hPI
        refine wpAny_pyIter_list hl1 (wpAny_bind (wpAny_runValue ?_))
        refine fill_ints (by simp [hh]) hl hit hb fun h' tk c a1 a2 a3 => ?_
        exact wpAny_pure (wpAny_pure ⟨rfl, h h' tk c a1 a2 a3⟩)
      · cases r2 with
        | error e => exact hr2
        | ok fl2 =>
          cases fl2 with
          | ret r =>
            obtain ⟨rfl, q⟩ := hr2
            repeat (any_goals (first | assumption | wp_step))
          | _ => exact hr2.elim
    | _ => exact hr.elim
end
section
variable {X : Cx}
def rSetI (K : PySem.W.Frag) (w : World) : List V → Hp → VK → Prop := fun xs H Q => ∃ (l : Addr) (ns : List Int), xs = [V.ref l] ∧ SqL K H l (ns.map V.int) ∧ ns.length + 1 < scanBound ∧
  ∀ a c, H a = none → c ≤ ns.length → Q (.ref a) (upd H a (SetO w a (fun j => decide (j ∈ ns)) c))
theorem cr_setI (hc : X.calm = true) : CallR X (.type "set") (rSetI X.K X.w) := by
  intro pins s σ H xs us Q I r h
  obtain ⟨l, ns, rfl, hl, hb, q⟩ := h
  rw [Vals.ref1 r]
  obtain ⟨its, rv, pl, hz⟩ := I.list hl
  have hn : H s.heap.objs.size = none := I.hok.fresh (Nat.le_refl _)
  refine call_setL (P := X.prog) (w := X.w) ns (I.ok.hd hc) pl.isList (by simpa using rv.ints) hb fun h' tk c R hc' k => ?_
  exact ⟨.ref s.heap.objs.size, _, I.laid (t' := tk) k (Nat.le_refl _) (setO_new R), rfl, q _ c hn hc'⟩
end
end My

set_option Elab.async false
set_option linter.all false
set_option maxRecDepth 100000
namespace My
open PySem PySem.Spec PyProof.Rows L2 GxR
/-- the keys of a dict are these places -/
def KeysI (kvs : List (Key × V)) (ks : List Int) : Prop := kvs.map (·.1) = ks.map Sum.inl
theorem KeysI.len {kvs : List (Key × V)} {ks : List Int} (h : KeysI kvs ks) : kvs.length = ks.length := by
  have := congrArg List.length h
  rwa [List.length_map, List.length_map] at this
theorem KeysI.mem {kvs : List (Key × V)} {ks : List Int} (h : KeysI kvs ks) (i : Int) : (∃ kv ∈ kvs, kv.1 = Sum.inl i) ↔ i ∈ ks := by
  constructor
  · rintro ⟨kv, hm, e⟩
    have : (Sum.inl i : Key) ∈ ks.map Sum.inl := by rw [← h, ← e]; exact List.mem_map_of_mem hm
    obtain ⟨j, hj, ej⟩ := List.mem_map.mp this
    cases ej; exact hj
  · intro hi
    have : (Sum.inl i : Key) ∈ kvs.map (·.1) := by rw [h]; exact List.mem_map_of_mem hi
    obtain ⟨kv, hm, e⟩ := List.mem_map.mp this
    exact ⟨kv, hm, e⟩
theorem KeysI.get {kvs : List (Key × V)} {ks : List Int} (h : KeysI kvs ks) (i : Int) : (valV kvs (Sum.inl i)).isSome = decide (i ∈ ks) := by
  unfold valV
  rw [Option.isSome_map]
  refine Bool.eq_iff_iff.mpr ?_
  rw [List.find?_isSome, decide_eq_true_iff, ← h.mem i]
  exact ⟨fun ⟨kv, a, b⟩ => ⟨kv, a, of_decide_eq_true b⟩, fun ⟨kv, a, b⟩ => ⟨kv, a, decide_eq_true b⟩⟩
theorem KeysI.put {kvs : List (Key × V)} {ks : List Int} (h : KeysI kvs ks) (i : Int) (v : V) : KeysI (putK kvs (Sum.inl i) v) (if i ∈ ks then ks else ks ++ [i]) := by
  unfold putK KeysI
  by_cases hi : i ∈ ks
  · obtain ⟨kv, hm, e⟩ := (h.mem i).mpr hi
    rw [if_pos hi, if_pos (List.any_eq_true.mpr ⟨kv, hm, decide_eq_true e⟩), List.map_map, ← h]
    refine List.map_congr_left fun x _ => ?_
    show (if x.1 = Sum.inl i then (x.1, v) else x).1 = x.1
    by_cases ex : x.1 = Sum.inl i
    · rw [if_pos ex]
    · rw [if_neg ex]
  · have : ¬ (kvs.any fun kv => decide (kv.1 = Sum.inl i)) = true := fun z => by
      obtain ⟨kv, hm, e⟩ := List.any_eq_true.mp z
      exact hi ((h.mem i).mp ⟨kv, hm, of_decide_eq_true e⟩)
    rw [if_neg hi, if_neg this, List.map_append, h, List.map_append]; rfl
theorem KeysI.at {kvs : List (Key × V)} {ks : List Int} (h : KeysI kvs ks) {i : Nat} {k : Key} {v : V} (e : kvs[i]? = some (k, v)) : ∃ j : Int, ks[i]? = some j ∧ k = Sum.inl j := by
  have : (kvs.map (·.1))[i]? = some k := by rw [List.getElem?_map, e]; rfl
  rw [h, List.getElem?_map] at this
  obtain ⟨j, ej, e2⟩ := Option.map_eq_some_iff.mp this
  exact ⟨j, ej, e2.symm⟩
theorem tst_frzK {H : Hp} {d : Addr} {kvs : List (Key × V)} {o : HO} (e : H d = some (.dK kvs)) : Tst H (upd H d o) := fun b xs z => by
  rw [upd_ne (fun w => by rw [w, e] at z; cases z)]; exact z
theorem same_unlockK {H H' : Hp} {d : Addr} {u : HO} {od : Obj} (e : H d = some u) (s : Same (upd H d (.frz od u)) H') : Same H (upd H' d u) := fun b o h => by
  by_cases hb : b = d
  · subst hb; rw [upd_same]; rw [e] at h; exact h
  · rw [upd_ne hb]; exact s b o (by rw [upd_ne hb]; exact h)
section
variable {P : Program} {w : World} {K : PySem.W.Frag} {mg : Str → Option Value} {base : Heap}
/-! ### is_parting -/
abbrev s_is_parting : Stmt := topS 15
abbrev N_is_parting : List Str := ["web", "place", "places", "ties", "other"]
theorem sc_is_parting : FnScope N_is_parting ["web", "place", "places"] (defScope s_is_parting) := ⟨rfl, rfl, rfl, by decide +kernel, rfl, by decide +kernel, by decide +kernel⟩
def sp_parting : Sp := fun vs H Q _ => ∃ (v : V) (n : Nat) (ts : List (Int × Int)) (p : Int) (d : Addr) (kvs : List (Key × V)) (ks : List Int), vs = [v, .int p, .ref d] ∧ Web H v n ts ∧ H d = some (.dK kvs) ∧ KeysI kvs ks ∧ ks.length ≤ 100 ∧ ∀ H', Same H H' → Q (.bl (partsB ts ks p)) H'
theorem ok_parting {f : Addr} {fd : FuncData} (B : Bts mg) (F : Fun K "is_parting" "is_parting" s_is_parting f fd) (c_tied : Cl P w K mg base 2 "tied" sp_tied) : FnOk P w K mg base CX0 3 f fd ["web", "place", "places"] sp_parting := by
  refine F.ok sc_is_parting (fun vs H Q E h => ?_) (fun cdv A outer s H vs Q E hr h => ?_)
  · obtain ⟨v, n, ts, p, d, kvs, ks, rfl, _⟩ := h; rfl
  · obtain ⟨v, n, ts, p, d, kvs, ks, rfl, hW, ed, hk, hl, q⟩ := h
    refine ⟨_, (pss_cons (ps_lock (ps_setLc (i := 3) (own := [("other", 4)]) (g := (gName 4)) (tt := tYes) rfl sc_is_parting.nd rfl rfl (sw_true rfl rfl rfl (by decide +kernel)) (pi_keys (pv 2)) (blkOk_by (own := [("other", 4)]) (N := N_is_parting) (sc := defScope s_is_parting) (by decide +kernel)) (fun _ _ _ _ _ => (pg_name (i := 4) sc_is_parting.nd rfl (by first | exact Or.inl rfl | exact Or.inr rfl))) (fun _ _ _ _ _ => pts_nil) (fun _ _ _ _ _ => (pe_c c_tied hr (by decide) (by rfl) (pa_cons (pv 0) (pa_cons (pv 1) (pa_cons (pv 4) pa_nil)))))))
    (pss_one (ps_ret (pe_and (pe_callB (cr_any rfl) (by rfl) B.any (by decide +kernel) (pa_cons (pv 3) pa_nil)) (pe_one (pe_not (pe_callB (cr_all rfl) (by rfl) B.all (by decide +kernel) (pa_cons (pv 3) pa_nil)))))))), ?_⟩
    have kl := hk.len
    refine ⟨d, .dK kvs, ed, trivial, fun od => ?_⟩
    have hWl := hW.mono (tst_frzK (o := .frz od (.dK kvs)) ed)
    refine ⟨_, rfl, d, od, rfl, .inl ⟨kvs, upd_same, fun D nD => ?_⟩⟩
    refine wk (walk_keys (d := d) (o := od) (kvs := kvs)) (fun i H1 => Same (upd H d (.frz od (.dK kvs))) H1 ∧ H1 D = some (.lst (((ks.take i).map (adjB ts p)).map V.bl))) ⟨same_new nD, upd_same⟩ ?_ ?_ ?_
    · rintro i H1 _ ⟨sm, _⟩
      exact sm _ _ upd_same
    · rintro i x H1 H2 hi ⟨sm, eD⟩ ⟨rfl, k, u, hx, rfl⟩
      obtain ⟨j, ej, rfl⟩ := hk.at hx
      refine ⟨rfl, yes ?_⟩
      refine ⟨_, rfl, _, rfl, _, rfl, v, n, ts, p, j, rfl, hWl.mono (Same.tst sm), fun H3 s3 => ?_⟩
      refine ⟨_, s3 _ _ eD, sz' ?_, Same.put (sm.trans s3) nD, ?_⟩
      · rw [List.length_map, List.length_map, List.length_take]; omega
      · rw [upd_same, List.take_add_one, ej, List.map_append, List.map_append]; rfl
    · rintro H1 ⟨sm, eD⟩
      rw [kl, List.take_length] at eD
      refine ⟨sm _ _ upd_same, ?_⟩
      have nDd : D ≠ d := fun z => by rw [z, upd_same] at nD; cases nD
      have sU := same_unlockK ed sm
      have eD2 : (upd H1 d (.dK kvs)) D = some (.lst ((ks.map (adjB ts p)).map V.bl)) := by rw [upd_ne nDd]; exact eD
      refine ⟨_, rfl, D, _, rfl, SqL.of eD2, _, rfl, ?_⟩
      have qq := q _ sU
      unfold partsB at qq
      refine ite2 (fun e => ?_) (fun e => ?_)
      · rw [e, Bool.true_and] at qq
        exact ⟨_, rfl, D, _, rfl, SqL.of eD2, _, rfl, qq⟩
      · rw [Bool.eq_false_iff.mpr e, Bool.false_and] at qq
        exact qq
/-! ### least_among -/
abbrev s_least_among : Stmt := topS 14
abbrev N_least_among : List Str := ["web", "everything", "places", "inside", "place", "grown", "parted"]
theorem sc_least_among : FnScope N_least_among ["web", "everything", "places"] (defScope s_least_among) := ⟨rfl, rfl, rfl, by decide +kernel, rfl, by decide +kernel, by decide +kernel⟩
def sp_among : Sp := fun vs H Q _ => ∃ (v : V) (n : Nat) (ts : List (Int × Int)) (e d : Addr) (S0 : List Int), vs = [v, .ref e, .ref d] ∧ Web H v n ts ∧ n ≤ 100 ∧ H e = some (.lst ((up n).map V.int)) ∧ H d = some (.lst (S0.map V.int)) ∧ (n < 64) ∧ (∀ x ∈ S0, 0 ≤ x ∧ x < (n : Int)) ∧ S0.length ≤ 1000 ∧
  ∀ L r H', H r = none → Same H H' → Least n ts S0 L → H' r = some (.lst (L.map V.int)) → Q (.ref r) H'
theorem ok_among {f : Addr} {fd : FuncData} (B : Bts mg) (F : Fun K "least_among" "least_among" s_least_among f fd) (c_is_parting : Cl P w K mg base 3 "is_parting" sp_parting) : FnOk P w K mg base CX0 4 f fd ["web", "everything", "places"] sp_among := by
  refine F.ok sc_least_among (fun vs H Q E h => ?_) (fun cdv A outer s H vs Q E hr h => ?_)
  · obtain ⟨v, n, ts, e, d, S0, rfl, _⟩ := h; rfl
  · obtain ⟨v, n, ts, e, d, S0, rfl, hW, hn, ee, ed, h64, hS, sl, q⟩ := h
    refine ⟨_, (pss_cons (ps_set (i := 3) sc_least_among.nd rfl (by first | exact Or.inl rfl | exact Or.inr rfl) (pe_dc (own := [("place", 4)]) (g := (gName 4)) (tt := tYes) rfl sc_least_among.nd (pi_list (pv 2)) (blkOk_by (own := [("place", 4)]) (N := N_least_among) (sc := defScope s_least_among) (by decide +kernel)) (fun _ _ _ _ _ => (pg_name (i := 4) sc_least_among.nd rfl (by first | exact Or.inl rfl | exact Or.inr rfl))) (fun _ _ _ _ _ => pts_nil) (fun _ _ _ _ _ => (pv 4)) (fun _ _ _ _ _ => pe_bl)))
    (pss_cons (ps_set (i := 5) sc_least_among.nd rfl (by first | exact Or.inl rfl | exact Or.inr rfl) pe_bl)
    (pss_cons (ps_while PassesOwn.never (pt_val (pv 5))
      (pss_cons (ps_setLc (i := 6) (own := [("place", 4)]) (g := (gName 4)) rfl sc_least_among.nd rfl rfl (sw_true rfl rfl rfl (by decide +kernel)) (pi_list (pv 1)) (blkOk_by (own := [("place", 4)]) (N := N_least_among) (sc := defScope s_least_among) (by decide +kernel)) (fun _ _ _ _ _ => (pg_name (i := 4) sc_least_among.nd rfl (by first | exact Or.inl rfl | exact Or.inr rfl))) (fun _ _ _ _ _ => (pts_one (PW.pt (pw_and (pt_cmp (pc_dnotin (hu_of hr) (pv 4) (pv 3))) (pw_and1 (pt_val (pe_c c_is_parting hr (by decide) (by rfl) (pa_cons (pv 0) (pa_cons (pv 4) (pa_cons (pv 3) pa_nil)))))))))) (fun _ _ _ _ _ => (pv 4)))
      (pss_cons (ps_for PassesOwn.never rfl (pi_list (pv 6)) (pg_name (i := 4) sc_least_among.nd rfl (by first | exact Or.inl rfl | exact Or.inr rfl))
        (pss_one (ps_dput (hu_of hr) (pv 3) (pv 4) pe_bl rfl)))
      (pss_one (ps_set (i := 5) sc_least_among.nd rfl (by first | exact Or.inl rfl | exact Or.inr rfl) (pe_callTy call_boolL (by rfl) B.bool (by decide +kernel) (pa_cons (pv 6) pa_nil)))))))
    (pss_one (ps_ret (pe_callB (call_sortedDI rfl) (by rfl) B.sorted (by decide +kernel) (pa_cons (pv 3) pa_nil))))))), ?_⟩
    refine ⟨_, rfl, d, rfl, ⟨_, SqL.of ed⟩, fun D nD => ?_⟩
    have Slen : (S0.map V.int).length = S0.length := List.length_map _
    refine wk (walk_list (K := K) (a := d) (xs := S0.map V.int)) (fun i H1 => ∃ kvs ks, Same H H1 ∧ H1 D = some (.dK kvs) ∧ KeysI kvs ks ∧ ks.Nodup ∧ (∀ x, x ∈ ks ↔ x ∈ S0.take i) ∧ ks.length ≤ i) ⟨[], [], same_new nD, upd_same, rfl, List.nodup_nil, fun x => Iff.rfl, Nat.le_refl _⟩ ?_ ?_ ?_
    · rintro i H1 _ ⟨_, _, sm, _⟩
      exact SqL.of (sm _ _ ed)
    · rintro i x H1 H2 hi ⟨kvs, ks, sm, eD, hk, nd, hm, kl⟩ ⟨rfl, hx⟩
      rw [List.getElem?_map] at hx
      obtain ⟨j, ej, rfl⟩ := Option.map_eq_some_iff.mp hx
      refine ⟨rfl, yes ?_⟩
      have kll := hk.len
      refine ⟨_, rfl, kvs, Sum.inl j, rfl, eD, sz' (by omega), ?_⟩
      refine ⟨_, _, Same.put sm nD, upd_same, hk.put j (.bl true), ?_, fun x => ?_, ?_⟩
      · by_cases h : j ∈ ks
        · rw [if_pos h]; exact nd
        · rw [if_neg h, List.nodup_append]
          exact ⟨nd, List.nodup_cons.mpr ⟨List.not_mem_nil, List.nodup_nil⟩, fun a ha b hb e => h (by rw [List.mem_singleton.mp hb] at e; exact e ▸ ha)⟩
      · rw [List.take_add_one, ej, List.mem_append, ← hm x]
        show _ ↔ _ ∨ x ∈ [j]
        rw [List.mem_singleton]
        by_cases h : j ∈ ks
        · rw [if_pos h]; exact ⟨.inl, fun z => z.elim id fun z => z ▸ h⟩
        · rw [if_neg h, List.mem_append, List.mem_singleton]
      · by_cases h : j ∈ ks
        · rw [if_pos h]; omega
        · rw [if_neg h, List.length_append]; exact Nat.succ_le_succ kl
    · rintro H1 ⟨kvs, ks, s1, eD, hk, nd, hm, kl⟩
      rw [Slen, List.take_length] at hm
      have L0 : Lm n ts S0 ks := ⟨fun x hx => (hm x).mpr hx, fun x hx => hS x ((hm x).mp hx), nd, fun M _ hS x hx => hS x ((hm x).mp hx)⟩
      let W : Nat → L2.St → Hp → Prop := fun m σ H1 => ∃ kvs ks g y4 y6, σ = [some v, some (.ref e), some (.ref d), some (.ref D), y4, some (.bl g), y6] ∧ Same H H1 ∧ H1 D = some (.dK kvs) ∧ KeysI kvs ks ∧ Lm n ts S0 ks ∧ (g = false → Clo n ts ks) ∧ m = 2 * (n - ks.length) + g.toNat
      refine ⟨W, ⟨_, kvs, ks, true, none, none, rfl, s1, eD, hk, L0, fun z => (nomatch z), rfl⟩, ?_⟩
      rintro m σ H2 ⟨kvs, ks, g, y4, y6, rfl, s2, eD2, hk2, L2', hg, rfl⟩
      have kn : ks.length ≤ n := by
        have := nd_len (m := up n) L2'.nd fun x hx => mem_up.mpr (L2'.rng x hx)
        rwa [up_len] at this
      refine ⟨_, rfl, g, rfl, ?_⟩
      cases g with
      | false =>
        refine iteF ⟨_, rfl, D, kvs, ks, rfl, .inl eD2, hk2, by omega, fun ys r pm pw nr => ?_⟩
        have sr := same_new (o := .lst (ys.map V.int)) nr
        exact q ys r _ (same_free s2 nr) (s2.trans sr) (least_of L2' (hg rfl) pm pw) upd_same
      | true =>
        refine iteT ⟨fun σ' H' => ∃ m', m' < 2 * (n - ks.length) + 1 ∧ W m' σ' H', fun σ' H' hh => hh, ?_⟩
        refine ⟨_, rfl, e, rfl, ⟨_, SqL.of (s2 _ _ ee)⟩, fun N nN => ?_⟩
        have ul : ((up n).map V.int).length = n := by rw [List.length_map, up_len]
        refine wk (walk_list (K := K) (a := e) (xs := (up n).map V.int)) (fun i H3 => Same H2 H3 ∧ H3 N = some (.lst ((newP n ts ks i).map V.int))) ⟨same_new nN, upd_same⟩ ?_ ?_ ?_
        · rintro i H3 _ ⟨s3, _⟩
          exact SqL.of (s3 _ _ (s2 _ _ ee))
        · rintro i x H3 H4 hi ⟨s3, eN⟩ ⟨rfl, hx⟩
          rw [ul] at hi
          rw [List.getElem?_map, up_get hi] at hx
          cases hx
          have st := newP_step n ts ks i
          have nl : (newP n ts ks i).length ≤ i := Nat.le_trans (List.length_filter_le _ _) (Nat.le_of_eq (up_len i))
          refine ⟨rfl, _, rfl, _, rfl, D, _, rfl, DGet.k (k := Sum.inl (i : Int)) (s3 _ _ eD2), _, rfl, ?_⟩
          rw [hk2.get]
          by_cases hi2 : (i : Int) ∈ ks
          · rw [decide_eq_true hi2]
            rw [decide_eq_false (fun z => z hi2), Bool.false_and, if_neg (fun z => nomatch z), List.append_nil] at st
            refine iteF (iteF ⟨s3, ?_⟩)
            rw [st]; exact eN
          · rw [decide_eq_false hi2]
            rw [decide_eq_true hi2, Bool.true_and] at st
            refine iteT ⟨_, rfl, _, rfl, _, rfl, v, n, ts, (i : Int), D, kvs, ks, rfl, hW.mono (Same.tst (s2.trans s3)), s3 _ _ eD2, hk2, by omega, fun H5 s5 => ⟨_, rfl, ?_⟩⟩
            cases hp : partsB ts ks (i : Int) with
            | false =>
              rw [hp, if_neg (fun z => nomatch z), List.append_nil] at st
              refine iteF ⟨s3.trans s5, ?_⟩
              rw [st]; exact s5 _ _ eN
            | true =>
              rw [hp, if_pos rfl] at st
              refine iteT ⟨_, rfl, _, s5 _ _ eN, sz' (by rw [List.length_map]; omega), Same.put (s3.trans s5) nN, ?_⟩
              rw [upd_same, st, List.map_append]; rfl
        · rintro H3 ⟨s3, eN⟩
          rw [ul] at eN
          have nND : N ≠ D := Ne.symm (ne_of_none eD2 nN)
          have nl : (newP n ts ks n).length ≤ n := Nat.le_trans (List.length_filter_le _ _) (Nat.le_of_eq (up_len n))
          refine ⟨_, rfl, N, rfl, ⟨_, SqL.of eN⟩, ?_⟩
          refine for_it (walk_list (K := K) (a := N) (xs := (newP n ts ks n).map V.int)) (fun i σ H4 => ∃ kvs y4, σ = [some v, some (.ref e), some (.ref d), some (.ref D), y4, some (.bl true), some (.ref N)] ∧ Same H H4 ∧ H4 N = some (.lst ((newP n ts ks n).map V.int)) ∧ H4 D = some (.dK kvs) ∧ KeysI kvs (ks ++ (newP n ts ks n).take i))
            ⟨kvs, y4, rfl, s2.trans s3, eN, s3 _ _ eD2, by rw [List.take_zero, List.append_nil]; exact hk2⟩ ?_ ?_ ?_
          · rintro i σ H4 _ ⟨_, _, _, _, e4, _⟩
            exact SqL.of e4
          · rintro i x σ H4 H5 hi ⟨kvs4, y4, rfl, s4, eN4, eD4, hk4⟩ ⟨rfl, hx⟩
            rw [List.length_map] at hi
            rw [List.getElem?_map] at hx
            obtain ⟨j, ej, rfl⟩ := Option.map_eq_some_iff.mp hx
            have k4l := hk4.len
            rw [List.length_append, List.length_take] at k4l
            refine ⟨_, rfl, _, rfl, D, _, rfl, DPut.k (k := Sum.inl j) eD4 (sz' (by omega)), ?_⟩
            have nj : j ∉ ks ++ (newP n ts ks n).take i := by
              have Lnd := (lm_more L2').nd
              rw [← List.take_append_drop i (newP n ts ks n), ← List.append_assoc, List.nodup_append] at Lnd
              refine fun z => Lnd.2.2 j z j ?_ rfl
              rw [List.drop_eq_getElem_cons hi]
              have := (List.getElem?_eq_some_iff.mp ej).2
              rw [this]; exact List.mem_cons_self
            have hp := hk4.put j (.bl true)
            rw [if_neg nj] at hp
            refine ⟨_, _, rfl, Same.put s4 nD, by rw [upd_ne nND]; exact eN4, upd_same, ?_⟩
            rw [List.take_add_one, ej, ← List.append_assoc]
            exact hp
          · rintro σ H4 ⟨kvs4, y4, rfl, s4, eN4, eD4, hk4⟩
            rw [List.length_map, List.take_length] at hk4
            refine ⟨_, rfl, N, _, rfl, SqL.of eN4, ?_⟩
            have Lm' := lm_more L2'
            refine ⟨_, ?_, kvs4, _, _, _, _, rfl, s4, eD4, hk4, Lm', fun z => ?_, rfl⟩
            · rw [List.length_append]
              cases hh : newP n ts ks n with
              | nil => show 2 * (n - (ks.length + 0)) + 0 < _; omega
              | cons a l =>
                have kn' : (ks ++ newP n ts ks n).length ≤ n := by
                  have := nd_len (m := up n) Lm'.nd fun x hx => mem_up.mpr (Lm'.rng x hx)
                  rwa [up_len] at this
                rw [hh, List.length_append] at kn'
                rw [List.length_cons] at kn' ⊢
                show 2 * (n - (ks.length + (l.length + 1))) + 1 < _
                omega
            · cases hh : newP n ts ks n with
              | nil => rw [List.append_nil]; exact lm_clo hh
              | cons a l => rw [hh] at z; cases z
/-! ### least_module -/
abbrev s_least_module : Stmt := topS 11
abbrev N_least_module : List Str := ["web", "places"]
theorem sc_least_module : FnScope N_least_module ["web", "places"] (defScope s_least_module) := ⟨rfl, rfl, rfl, by decide +kernel, rfl, by decide +kernel, by decide +kernel⟩
def sp_least : Sp := fun vs H Q _ => ∃ (v : V) (n : Nat) (ts : List (Int × Int)) (d : Addr) (S0 : List Int), vs = [v, .ref d] ∧ Web H v n ts ∧ H d = some (.lst (S0.map V.int)) ∧ (n < 64) ∧ (∀ x ∈ S0, 0 ≤ x ∧ x < (n : Int)) ∧ S0.length ≤ 1000 ∧
  ∀ L r H', H r = none → Same H H' → Least n ts S0 L → H' r = some (.lst (L.map V.int)) → Q (.ref r) H'
theorem rg_upM (n : Nat) : rgV 0 (n : Int) = (up n).map V.int := by
  unfold rgV up
  rw [List.map_map, show ((n : Int) - 0).toNat = n from by omega]
  exact List.map_congr_left fun i _ => congrArg V.int (Int.zero_add _)
theorem ok_least {f : Addr} {fd : FuncData} (B : Bts mg) (F : Fun K "least_module" "least_module" s_least_module f fd) (c_least_among : Cl P w K mg base 4 "least_among" sp_among) : FnOk P w K mg base CX0 5 f fd ["web", "places"] sp_least := by
  refine F.ok sc_least_module (fun vs H Q E h => ?_) (fun cdv A outer s H vs Q E hr h => ?_)
  · obtain ⟨v, n, ts, d, S0, rfl, _⟩ := h; rfl
  · obtain ⟨v, n, ts, d, S0, rfl, hW, ed, h64, hS, sl, q⟩ := h
    refine ⟨_, (pss_one (ps_ret (pe_c c_least_among hr (by decide) (by rfl) (pa_cons (pv 0) (pa_cons (pe_listRg rfl (by rfl) B.list (prg_1 (by rfl) B.range (pe_ix ix_tup (pv 0) pe_int (fun _ _ => rfl)))) (pa_cons (pv 1) pa_nil)))))), ?_⟩
    obtain ⟨p, q', us, rfl, ep, eq, hT⟩ := id hW
    refine ⟨_, rfl, _, rfl, p, _, _, _, rfl, rfl, SqT.of ep, rfl, ?_⟩
    refine ⟨_, rfl, ⟨by omega, by omega, by omega, by omega⟩, fun e ne => ?_⟩
    have se := same_new (o := .lst (rgV 0 (n : Int))) ne
    refine ⟨_, rfl, _, n, ts, e, d, S0, rfl, hW.mono (Same.tst se), by omega, by rw [upd_same, rg_upM], se _ _ ed, h64, hS, sl, fun L r H' nr s' hL er => ?_⟩
    exact q L r H' (same_free se nr) (se.trans s') hL er
end
end My

set_option Elab.async false
set_option linter.all false
set_option maxRecDepth 100000
namespace My
open PySem PySem.Spec PyProof.Rows L2 GxR
theorem eqv_dI2 : ∀ a b : List Int, PyData.eqv (dI a) (dI b) = decide (a = b)
  | [], [] => rfl
  | [], _ :: _ => rfl
  | _ :: _, [] => rfl
  | x :: a, y :: b => by
    show ((x == y) && PyData.eqvAll (a.map PyData.int) (b.map PyData.int)) = _
    rw [show PyData.eqvAll (a.map PyData.int) (b.map PyData.int) = PyData.eqv (dI a) (dI b) from rfl, eqv_dI2 a b]
    by_cases h : x = y <;> by_cases k : a = b <;> simp [h, k]
theorem tab_lst {H H' : Hp} {P d : Addr} {xs : List V} (tb : Tabbed P H H') (tg : TabG H P) (e : H d = some (.lst xs)) : H' d = some (.lst xs) := by
  obtain ⟨ps, h1, _⟩ := tg
  rw [tb.2 d (fun z => by rw [z, h1] at e; cases e)]; exact e
theorem tabG_sameM {H H' : Hp} {P : Addr} (h : TabG H P) (s : Same H H') : TabG H' P := by
  obtain ⟨ps, h1, h2⟩ := h
  exact ⟨ps, s _ _ h1, h2⟩
theorem least_nil (n : Nat) (ts : List (Int × Int)) : Least n ts [] [] :=
  ⟨⟨fun _ z => z, fun _ z => absurd z List.not_mem_nil, List.nodup_nil, fun _ _ _ x z => absurd z List.not_mem_nil⟩, fun _ _ _ _ => rfl, List.Pairwise.nil⟩
section
variable {P : Program} {w : World} {K : PySem.W.Frag} {mg : Str → Option Value} {base : Heap}
/-! ### is_place -/
abbrev s_is_place : Stmt := topS 3
abbrev N_is_place : List Str := ["web", "thing"]
theorem sc_is_place : FnScope N_is_place ["web", "thing"] (defScope s_is_place) := ⟨rfl, rfl, rfl, by decide +kernel, rfl, by decide +kernel, by decide +kernel⟩
def sp_place : Sp := fun vs H Q _ => ∃ (v : V) (n : Nat) (ts : List (Int × Int)) (i : Int), vs = [v, .int i] ∧ Web H v n ts ∧ 0 ≤ i ∧ i < (n : Int) ∧ Q (.bl true) H
theorem ok_place {f : Addr} {fd : FuncData} (B : Bts mg) (F : Fun K "is_place" "is_place" s_is_place f fd) (c_is_number : Cl P w K mg base 1 "is_number" sp_num) : FnOk P w K mg base CX0 2 f fd ["web", "thing"] sp_place := by
  refine F.ok sc_is_place (fun vs H Q E h => ?_) (fun cdv A outer s H vs Q E hr h => ?_)
  · obtain ⟨v, n, ts, i, rfl, _⟩ := h; rfl
  · obtain ⟨v, n, ts, i, rfl, ⟨pw, qw, uw, rfl, ew, eqw, hT⟩, i0, i1, q⟩ := h
    refine ⟨_, (pss_one (ps_ret (pe_and (pe_c c_is_number hr (by decide) (by rfl) (pa_cons (pv 1) pa_nil)) (pe_one (pe_chain op_le op_lt pe_int (pv 1) (pe_ix ix_tup (pv 0) pe_int (fun _ _ => rfl))))))), ?_⟩
    refine ⟨_, rfl, i, rfl, true, rfl, iteT ?_⟩
    refine ⟨_, rfl, _, _, rfl, rfl, _, rfl, ?_⟩
    rw [decide_eq_true i0]
    refine iteT ⟨_, rfl, pw, _, _, _, rfl, rfl, SqT.of ew, rfl, _, _, rfl, rfl, ?_⟩
    show Q (.bl (decide (i < (n : Int)))) H
    rw [decide_eq_true i1]
    exact q
/-! ### is_module -/
abbrev s_is_module : Stmt := topS 10
abbrev N_is_module : List Str := ["web", "places", "place"]
theorem sc_is_module : FnScope N_is_module ["web", "places"] (defScope s_is_module) := ⟨rfl, rfl, rfl, by decide +kernel, rfl, by decide +kernel, by decide +kernel⟩
def sp_module (PM : Addr) : Sp := fun vs H Q _ => ∃ (v : V) (n : Nat) (ts : List (Int × Int)) (d : Addr) (S0 : List Int), vs = [v, .ref d] ∧ Web H v n ts ∧ H d = some (.lst (S0.map V.int)) ∧ (n < 64) ∧ (∀ x ∈ S0, 0 ≤ x ∧ x < (n : Int)) ∧ S0.length ≤ 1000 ∧ TabG H PM ∧
  ∀ L H', FrM [PM] H H' → TabG H' PM → Least n ts S0 L → Q (.bl (!S0.isEmpty && decide (L = S0))) H'
theorem ok_module {f c PM : Addr} {fd : FuncData} (B : Bts mg) (F : Fun K "is_module" "is_module" s_is_module f fd) (hc : fd.code = .ref c) (TB : TabB base mg c PM) (c_is_place : Cl P w K mg base 2 "is_place" sp_place) (c_least_module : Cl P w K mg base 5 "least_module" sp_least) :
    FnOk P w K mg base CX0 6 f fd ["web", "places"] (sp_module PM) := by
  refine okC F hc sc_is_module (fun vs H Q E h => ?_) (fun A outer s H vs Q E hr h => ?_)
  · obtain ⟨v, n, ts, d, S0, rfl, _⟩ := h; rfl
  · obtain ⟨v, n, ts, d, S0, rfl, hW, ed, h64, hS, sl, tg, q⟩ := h
    refine ⟨_, (pss_cons (ps_if (PW.pt (pw_or (pt_not (pt_val (pe_callB call_isi (by rfl) B.isinstance (by decide +kernel) (pa_cons (pv 1) (pa_cons (pe_bltn (v := .ty "list") (by rfl) B.list (by decide +kernel) rfl) pa_nil))))) (pw_or1 (pt_not (pt_truth (pv 1) (by intro _; rfl)))))) (pss_one (ps_ret pe_bl)) pss_nil)
    (pss_cons (ps_if (pt_not (pt_val (pe_allG (own := [("place", 2)]) (g := (gName 2)) rfl sc_is_module.nd hr (by rfl) B.all TB rfl ⟨rfl, by decide +kernel, rfl⟩ (blkOk_by (own := [("place", 2)]) (N := N_is_module) (sc := defScope s_is_module) (by decide +kernel)) (pi_list (pv 1)) (fun _ _ _ _ _ _ _ => (pg_name (i := 2) sc_is_module.nd rfl (by first | exact Or.inl rfl | exact Or.inr rfl))) (fun _ _ _ _ _ _ _ hr => (pe_c c_is_place hr (by decide) (by rfl) (pa_cons (pv 0) (pa_cons (pv 2) pa_nil))))))) (pss_one (ps_ret pe_bl)) pss_nil)
    (pss_one (ps_ret (pe_cmpR (op_eqD hr.units) (pe_c c_least_module hr (by decide) (by rfl) (pa_cons (pv 0) (pa_cons (pv 1) pa_nil))) (pv 1) (nomark _)))))), ?_⟩
    refine ⟨_, rfl, _, _, _, _, true, rfl, .ty _, .base (.lst ed), kit_ty (by decide +kernel), true, rfl, iteF ?_⟩
    refine ⟨_, rfl, !(S0.map V.int).isEmpty, .inl ⟨_, SqL.of ed, rfl⟩, ?_⟩
    cases hS0 : S0 with
    | nil =>
      subst hS0
      exact iteT (q [] H (FrM.same (same_refl H)) tg (least_nil n ts))
    | cons x0 S1 =>
      rw [← hS0]
      have e0 : (!(S0.map V.int).isEmpty) = true := by rw [hS0]; rfl
      have e1 : (!S0.isEmpty) = true := by rw [hS0]; rfl
      rw [e0]
      refine iteF ?_
      refine ⟨_, rfl, d, rfl, ⟨_, SqL.of ed⟩, tg, fun H2 tb => ?_⟩
      have t2 := tb_tst tb tg
      have ed2 := tab_lst tb tg ed
      have hW2 := hW.mono t2
      obtain ⟨pw, qw, uw, rfl, ew, eqw, hT⟩ := id hW2
      refine allG_it (walk_list (K := K) (a := d) (xs := S0.map V.int)) (fun i H3 => H3 = H2) rfl ?_ ?_ ?_
      · rintro i H3 _ rfl
        exact SqL.of ed2
      · rintro i x H3 H4 hi rfl ⟨rfl, hx⟩
        rw [List.getElem?_map] at hx
        obtain ⟨j, ej, rfl⟩ := Option.map_eq_some_iff.mp hx
        have hj := hS j (List.mem_of_getElem? ej)
        refine ⟨rfl, _, rfl, _, rfl, .ref pw, n, ts, j, rfl, hW2, hj.1, hj.2, true, rfl, ?_⟩
        exact iteT rfl
      · rintro H3 rfl
        refine ⟨true, rfl, iteF ?_⟩
        refine ⟨_, rfl, _, rfl, _, n, ts, d, S0, rfl, hW2, ed2, h64, hS, sl, fun L r H' nr s' hL er => ?_⟩
        refine ⟨_, rfl, dI L, dI S0, .lst (SqL.of er) (dpI L), .lst (SqL.of (s' _ _ ed2)) (dpI S0), shaped_dI L, shaped_dI S0, ?_⟩
        rw [eqv_dI2]
        have qq := q L H' ((tb_frM tb).trans (FrM.same s')) (tabG_sameM tb.1 s') hL
        rw [e1, Bool.true_and] at qq
        exact qq
end
end My

set_option Elab.async false
set_option linter.all false
set_option maxRecDepth 100000
namespace My
open PySem PySem.Spec PyProof.Rows L2 GxR
/-- a module of the web, as a rising list; it may be empty -/
structure Mdl (n : Nat) (ts : List (Int × Int)) (A : List Int) : Prop where
  clo : Clo n ts A
  rise : A.Pairwise (· < ·)
  rng : ∀ x ∈ A, 0 ≤ x ∧ x < (n : Int)
theorem Least.mdl {n : Nat} {ts : List (Int × Int)} {S0 L : List Int} (h : Least n ts S0 L) : Mdl n ts L := ⟨h.clo, h.rise, h.lm.rng⟩
theorem Mdl.len {n : Nat} {ts : List (Int × Int)} {A : List Int} (h : Mdl n ts A) : A.length ≤ n := by
  have := nd_len (m := up n) (h.rise.imp fun h => Int.ne_of_lt h) fun x hx => mem_up.mpr (h.rng x hx)
  rwa [up_len] at this
theorem Mdl.least {n : Nat} {ts : List (Int × Int)} {A : List Int} (h : Mdl n ts A) : Least n ts A A := least_self h.clo h.rise h.rng
theorem frM_keep {H H' : Hp} {PM d : Addr} {o : HO} (f : FrM [PM] H H') (tg : TabG H PM) (e : H d = some o) (ne : ∀ ps, o ≠ .tbl ps) : H' d = some o := by
  refine f d o (fun z => ?_) e
  obtain ⟨ps, h1, _⟩ := tg
  rw [List.mem_singleton.mp z, h1] at e
  cases e
  exact ne ps rfl
theorem frM_lst {H H' : Hp} {PM d : Addr} {xs : List V} (f : FrM [PM] H H') (tg : TabG H PM) (e : H d = some (.lst xs)) : H' d = some (.lst xs) := frM_keep f tg e fun _ z => nomatch z
theorem frM_tst {H H' : Hp} {PM : Addr} (f : FrM [PM] H H') (tg : TabG H PM) : Tst H H' := fun b xs e => frM_keep f tg e fun _ z => nomatch z
section
variable {P : Program} {w : World} {K : PySem.W.Frag} {mg : Str → Option Value} {base : Heap}
end
end My

set_option Elab.async false
set_option linter.all false
set_option maxRecDepth 100000
set_option pp.maxSteps 400
set_option maxHeartbeats 4000000
namespace My
open PySem PySem.Spec PyProof.Rows L2 GxR
/-! all stays but the draws and one table -/
def FL (PM L : Addr) (H H' : Hp) : Prop := ∀ b o, b ≠ L → b ≠ PM → H b = some o → H' b = some o
theorem FL.refl (PM L : Addr) (H : Hp) : FL PM L H H := fun _ _ _ _ e => e
theorem FL.trans {PM L : Addr} {H H1 H2 : Hp} (a : FL PM L H H1) (b : FL PM L H1 H2) : FL PM L H H2 := fun c o n m e => b c o n m (a c o n m e)
theorem FL.fr {PM L : Addr} {H H' : Hp} (a : Fr L H H') : FL PM L H H' := fun b o n _ e => a b o n e
theorem FL.same {PM L : Addr} {H H' : Hp} (a : Same H H') : FL PM L H H' := fun b o _ _ e => a b o e
theorem FL.tab {PM L : Addr} {H H' : Hp} (a : FrM [PM] H H') : FL PM L H H' := fun b o _ m e => a b o (fun z => m (List.mem_singleton.mp z)) e
theorem tab_neL {PM L : Addr} {H : Hp} {c : Int} (tg : TabG H PM) (lf : Lf H L c) : L ≠ PM := by
  obtain ⟨x, y, z, e, _⟩ := lf
  obtain ⟨ps, h1, _⟩ := tg
  exact fun w => by rw [w, h1] at e; cases e
theorem FL.tst {PM L : Addr} {H H' : Hp} {c : Int} (h : FL PM L H H') (tg : TabG H PM) (lf : Lf H L c) : Tst H H' := fun b xs e => by
  refine h b _ (fun z => ?_) (fun z => ?_) e
  · obtain ⟨x, y, w, e2, _⟩ := lf
    rw [z, e2] at e; cases e
  · obtain ⟨ps, h1, _⟩ := tg
    rw [z, h1] at e; cases e
theorem FL.lst {PM L p : Addr} {H H' : Hp} {xs : List V} (h : FL PM L H H') (tg : TabG H PM) (ne : p ≠ L) (e : H p = some (.lst xs)) : H' p = some (.lst xs) := h p _ ne (fun z => by
  obtain ⟨ps, h1, _⟩ := tg
  rw [z, h1] at e; cases e) e
theorem tab_frL {PM L : Addr} {H H' : Hp} {c : Int} (tg : TabG H PM) (lf : Lf H L c) (f : Fr L H H') : TabG H' PM := by
  have n := tab_neL tg lf
  obtain ⟨ps, h1, h2⟩ := tg
  exact ⟨ps, f _ _ (Ne.symm n) h1, h2⟩
theorem all_repM (n : Nat) : (List.replicate n true).all id = true := by
  rw [List.all_eq_true]
  intro x hx
  rw [(List.mem_replicate.mp hx).2]; rfl
/-- a list of numbers that stands apart from two places -/
def LsI (L Fd : Addr) (H : Hp) (v : V) (A : List Int) : Prop := ∃ q, v = .ref q ∧ q ≠ L ∧ q ≠ Fd ∧ H q = some (.lst (A.map V.int))
section
variable {P : Program} {w : World} {K : PySem.W.Frag} {mg : Str → Option Value} {base : Heap}
end
end My

set_option Elab.async false
set_option linter.all false
set_option maxRecDepth 100000
namespace My
open PySem PySem.Spec PyProof.Rows L2 GxR
section
variable {P : Program} {w : World} {K : PySem.W.Frag} {mg : Str → Option Value} {base : Heap}
/-! ### part_of -/
abbrev s_part_of : Stmt := topS 7
abbrev N_part_of : List Str := ["web", "places", "number_of", "number", "place", "ties", "a", "b"]
theorem sc_part_of : FnScope N_part_of ["web", "places"] (defScope s_part_of) := ⟨rfl, rfl, rfl, by decide +kernel, rfl, by decide +kernel, by decide +kernel⟩
def NumD (kvs : List (Key × V)) (pl : List Int) (i : Nat) : Prop := ∀ p : Int, valV kvs (Sum.inl p) = if p ∈ pl.take i then some (.int (pl.idxOf p : Int)) else none
theorem num_put {kvs : List (Key × V)} {pl : List Int} {i : Nat} {x : Int} (nd : pl.Nodup) (h : NumD kvs pl i) (e : pl[i]? = some x) : NumD (putK kvs (Sum.inl x) (.int (i : Int))) pl (i + 1) := fun p => by
  rw [valV_put, List.take_add_one, e]
  show _ = if p ∈ pl.take i ++ [x] then _ else _
  by_cases hp : p = x
  · subst hp
    rw [if_pos rfl, if_pos (List.mem_append_right _ (List.mem_singleton.mpr rfl)), idx_of nd e]
  · rw [if_neg (fun z => hp (Sum.inl.inj z)), h p]
    by_cases hm : p ∈ pl.take i
    · rw [if_pos hm, if_pos (List.mem_append_left _ hm)]
    · rw [if_neg hm, if_neg]
      intro z
      rcases List.mem_append.mp z with z | z
      · exact hm z
      · exact hp (List.mem_singleton.mp z)
theorem part_step (ts : List (Int × Int)) (t : Int × Int) (pl : List Int) : partL (ts ++ [t]) pl = partL ts pl ++ (if t.1 ∈ pl ∧ t.2 ∈ pl then [((pl.idxOf t.1 : Int), (pl.idxOf t.2 : Int))] else []) := by
  unfold partL
  rw [List.filter_append, List.map_append]
  congr 1
  by_cases h1 : t.1 ∈ pl <;> by_cases h2 : t.2 ∈ pl <;> simp [h1, h2]
def sp_part : Sp := fun vs H Q _ => ∃ (v : V) (n : Nat) (ts : List (Int × Int)) (pa : Addr) (pl : List Int), vs = [v, .ref pa] ∧ Web H v n ts ∧ ts.length ≤ 10000 ∧ H pa = some (.lst (pl.map V.int)) ∧ pl.Nodup ∧ pl.length ≤ 1000 ∧
  ∀ u H', Same H H' → Web H' u pl.length (partL ts pl) → Q u H'
theorem ok_part_of {f : Addr} {fd : FuncData} (B : Bts mg) (F : Fun K "part_of" "part_of" s_part_of f fd) : FnOk P w K mg base CX0 1 f fd ["web", "places"] sp_part := by
  refine F.ok sc_part_of (fun vs H Q E h => ?_) (fun cdv A outer s H vs Q E hr h => ?_)
  · obtain ⟨v, n, ts, pa, pl, rfl, _⟩ := h; rfl
  · obtain ⟨v, n, ts, pa, pl, rfl, ⟨p, q', us, rfl, ep, eq, hT⟩, hl, epa, nd, pll, q⟩ := h
    refine ⟨_, (pss_cons (ps_set (i := 2) sc_part_of.nd rfl (by first | exact Or.inl rfl | exact Or.inr rfl) (pe_dc (own := [("number", 3), ("place", 4)]) (g := (gTup K 2 (gCons (gName 3) (gCons (gName 4) gNil)))) (tt := tYes) rfl sc_part_of.nd (pi_enum (by rfl) B.enumerate (pa_cons (pv 1) pa_nil)) (blkOk_by (own := [("number", 3), ("place", 4)]) (N := N_part_of) (sc := defScope s_part_of) (by decide +kernel)) (fun _ _ _ _ _ => (pg_tup rfl (pgs_cons (pg_name (i := 3) sc_part_of.nd rfl (by first | exact Or.inl rfl | exact Or.inr rfl)) (pgs_cons (pg_name (i := 4) sc_part_of.nd rfl (by first | exact Or.inl rfl | exact Or.inr rfl)) pgs_nil)))) (fun _ _ _ _ _ => pts_nil) (fun _ _ _ _ _ => (pv 4)) (fun _ _ _ _ _ => (pv 3))))
    (pss_cons (ps_setLc (i := 5) (own := [("a", 6), ("b", 7)]) (g := (gTup K 2 (gCons (gName 6) (gCons (gName 7) gNil)))) rfl sc_part_of.nd rfl rfl (sw_true rfl rfl rfl (by decide +kernel)) (pi_tup (pe_ix ix_tup (pv 0) pe_int (fun _ _ => rfl))) (blkOk_by (own := [("a", 6), ("b", 7)]) (N := N_part_of) (sc := defScope s_part_of) (by decide +kernel)) (fun _ _ _ _ _ => (pg_tup rfl (pgs_cons (pg_name (i := 6) sc_part_of.nd rfl (by first | exact Or.inl rfl | exact Or.inr rfl)) (pgs_cons (pg_name (i := 7) sc_part_of.nd rfl (by first | exact Or.inl rfl | exact Or.inr rfl)) pgs_nil)))) (fun _ _ _ _ _ => (pts_one (PW.pt (pw_and (pt_cmp (pc_din (hu_of hr) (pv 6) (pv 2))) (pw_and1 (pt_cmp (pc_din (hu_of hr) (pv 7) (pv 2)))))))) (fun _ _ _ _ _ => (pe_tup (pa_cons (pe_dget (hu_of hr) (pv 2) (pv 6) (fun _ _ => rfl)) (pa_cons (pe_dget (hu_of hr) (pv 2) (pv 7) (fun _ _ => rfl)) pa_nil)))))
    (pss_one (ps_ret (pe_tup (pa_cons (pe_callB call_len_seq (by rfl) B.len (by decide +kernel) (pa_cons (pv 1) pa_nil)) (pa_cons (pe_callTy call_tuple_of (by rfl) B.tuple (by decide +kernel) (pa_cons (pv 5) pa_nil)) pa_nil))))))), ?_⟩
    refine ⟨_, rfl, pa, _, rfl, SqL.of epa, fun D nD => ?_⟩
    refine dc_it (walk_enum (K := K) (a := pa) (xs := pl.map V.int)) (fun i H1 => ∃ kvs, Same H H1 ∧ H1 D = some (.dK kvs) ∧ kvs.length ≤ i ∧ NumD kvs pl i) ⟨[], same_new nD, upd_same, Nat.le_refl _, fun p => by exact (if_neg (by simp)).symm⟩ ?_ ?_ ?_
    · rintro i H1 _ ⟨_, sm, _⟩
      exact SqL.of (sm _ _ epa)
    · rintro i x H1 H2 hi ⟨kvs, sm, eD, kl, hN⟩ ⟨T, x1, x2, rfl, nT, rfl, ex1, ex2⟩
      rw [List.length_map] at hi
      dsimp only at ex1 ex2
      cases ex1
      have e2 : x2 = .int pl[i] := by
        rw [List.getElem?_map, List.getElem?_eq_getElem hi] at ex2
        cases ex2; rfl
      subst e2
      refine ⟨T, _, rfl, SqT.of upd_same, rfl, _, _, rfl, _, _, rfl, rfl, rfl, yes ?_⟩
      have eD2 := (same_new (o := .tup [.int (i : Int), .int pl[i]]) nT) _ _ eD
      refine ⟨_, rfl, _, rfl, kvs, Sum.inl pl[i], rfl, eD2, sz' (by omega), _, Same.put (sm.trans (same_new nT)) nD, upd_same, ?_, num_put nd hN (List.getElem?_eq_getElem hi)⟩
      have := len_put kvs (Sum.inl pl[i]) (.int (i : Int))
      omega
    · rintro H1 ⟨kvs, sm, eD, kl, hN⟩
      rw [List.length_map] at hN
      have hN' : ∀ p : Int, valV kvs (Sum.inl p) = if p ∈ pl then some (.int (pl.idxOf p : Int)) else none := fun p => by
        have := hN p
        rwa [List.take_length] at this
      refine ⟨_, rfl, p, _, _, _, rfl, rfl, SqT.of (sm _ _ ep), rfl, q', rfl, ⟨_, SqT.of (sm _ _ eq)⟩, fun D2 nD2 => ?_⟩
      refine lc_tup (K := K) (a := q') (xs := us) (fun i H2 => ∃ ws, Same H1 H2 ∧ H2 D2 = some (.lst ws) ∧ Ties H2 ws (partL (ts.take i) pl)) ⟨[], same_new nD2, upd_same, by exact trivial⟩ ?_ ?_ ?_
      · rintro i H2 _ ⟨_, s2, _⟩
        exact SqT.of (s2 _ _ (sm _ _ eq))
      · rintro i x H2 hx ⟨ws, s2, eD2, hW⟩
        obtain ⟨t, et, ht⟩ := hT.at hx
        have hi : i < us.length := (List.getElem?_eq_some_iff.mp hx).1
        have hu := hT.len
        have wl := hW.len
        have wl2 := part_len (ts := ts.take i) (pl := pl)
        rw [List.length_take] at wl2
        obtain ⟨pt, rfl, ept⟩ := ht.mono (Same.tst (sm.trans s2))
        have eN2 := s2 _ _ eD
        have g1 := DGet.k (k := Sum.inl t.1) eN2
        have g2 := DGet.k (k := Sum.inl t.2) eN2
        rw [hN'] at g1 g2
        have tk : partL (ts.take (i + 1)) pl = partL (ts.take i) pl ++ (if t.1 ∈ pl ∧ t.2 ∈ pl then [((pl.idxOf t.1 : Int), (pl.idxOf t.2 : Int))] else []) := by
          rw [List.take_add_one, et]; exact part_step _ _ _
        refine ⟨pt, _, rfl, SqT.of ept, rfl, _, _, rfl, _, _, rfl, rfl, rfl, ?_⟩
        refine ⟨_, rfl, _, rfl, D, _, rfl, g1, _, rfl, ?_⟩
        by_cases m1 : t.1 ∈ pl
        · rw [if_pos m1] at g1 ⊢
          refine iteT ⟨_, rfl, _, rfl, D, _, rfl, g2, _, rfl, ?_⟩
          by_cases m2 : t.2 ∈ pl
          · rw [if_pos m2] at g2 ⊢
            refine iteT ⟨_, rfl, _, rfl, D, _, rfl, g1, _, rfl, _, rfl, D, _, rfl, g2, by show 2 ≤ sizeLine; decide, fun k nk => ?_⟩
            have e3 := (same_new (o := .tup [.int (pl.idxOf t.1 : Int), .int (pl.idxOf t.2 : Int)]) nk) _ _ eD2
            refine ⟨ws, e3, sz' (by omega), ws ++ [.ref k], Same.put (s2.trans (same_new nk)) nD2, upd_same, ?_⟩
            rw [tk, if_pos ⟨m1, m2⟩]
            exact Ties.mono (tst_put e3) ((hW.mono (tst_new nk)).app (Ties.one Tie.new))
          · rw [if_neg m2]
            refine iteF ⟨ws, s2, eD2, ?_⟩
            rw [tk, if_neg (fun z => m2 z.2), List.append_nil]
            exact hW
        · rw [if_neg m1]
          refine iteF (iteF ⟨ws, s2, eD2, ?_⟩)
          rw [tk, if_neg (fun z => m1 z.1), List.append_nil]
          exact hW
      · rintro H2 ⟨ws, s2, eD2, hW⟩
        rw [hT.len, List.take_length] at hW
        refine ⟨_, rfl, pa, _, rfl, .inl (SqL.of (s2 _ _ (sm _ _ epa))), ?_⟩
        refine ⟨_, rfl, D2, ws, rfl, .inl ⟨SqL.of eD2, fun t nt => ?_⟩⟩
        refine ⟨by show 2 ≤ sizeLine; decide, fun u nu => ?_⟩
        have s3 := (same_new (o := .tup ws) nt).trans (same_new (o := .tup [.int ((pl.map V.int).length : Int), .ref t]) nu)
        refine q _ _ ((sm.trans s2).trans s3) ⟨u, t, ws, rfl, ?_, ?_, hW.mono (Same.tst s3)⟩
        · rw [upd_same, List.length_map]
        · rw [upd_ne (ne_of_none upd_same nu)]; exact upd_same
end
end My

set_option Elab.async false
set_option linter.all false
set_option maxRecDepth 100000
set_option pp.maxSteps 400
set_option maxHeartbeats 4000000
namespace My
open PySem PySem.Spec PyProof.Rows L2 GxR
theorem cut_sub {xs : List V} {lo hi : Option Int} : ∀ x ∈ cutV xs lo hi, x ∈ xs := fun x hx => by
  unfold cutV at hx
  exact List.mem_of_mem_drop (List.mem_of_mem_take hx)
theorem cut_none {xs : List V} {m : Nat} {hi : Option Int} (h : xs.length ≤ m) : cutV xs (some (m : Int)) hi = [] := by
  unfold cutV
  rw [HT.sIx_nat, Nat.min_eq_right h, List.drop_length, List.take_nil]
section
variable {P : Program} {w : World} {K : PySem.W.Frag} {mg : Str → Option Value} {base : Heap}
/-! ### _law_folded -/
abbrev s__law_folded : Stmt := topS 23
abbrev N__law_folded : List Str := ["_law_script", "_law_many", "_law_cells", "_law_k", "_law_cell"]
theorem sc__law_folded : FnScope N__law_folded ["_law_script", "_law_many"] (defScope s__law_folded) := ⟨rfl, rfl, rfl, by decide +kernel, rfl, by decide +kernel, by decide +kernel⟩
def sp_folded (K : PySem.W.Frag) : Sp := fun vs H Q _ => ∃ (a : Addr) (ns : List Int) (m : Nat), vs = [.ref a, .int (m : Int)] ∧ SqL K H a (ns.map V.int) ∧ ns.length ≤ 63 ∧ 1 ≤ m ∧ m ≤ 63 ∧
  ∀ (C : Addr) (cs : List Int) (H' : Hp), H C = none → Same H H' → H' C = some (.lst (cs.map V.int)) → cs.length = min m ns.length → Q (.ref C) H'
theorem ok_folded {f : Addr} {fd : FuncData} (B : Bts mg) (F : Fun K "_law_folded" "_law_folded" s__law_folded f fd) : FnOk P w K mg base CX0 1 f fd ["_law_script", "_law_many"] (sp_folded K) := by
  refine F.ok sc__law_folded (fun vs H Q E h => ?_) (fun cdv A outer s H vs Q E hr h => ?_)
  · obtain ⟨a, ns, m, rfl, _⟩ := h; rfl
  · obtain ⟨a, ns, m, rfl, hS, nl, m1, m63, q⟩ := h
    refine ⟨_, (pss_cons (ps_set (i := 2) sc__law_folded.nd rfl (by first | exact Or.inl rfl | exact Or.inr rfl) (pe_callTy call_list_of (by rfl) B.list (by decide +kernel) (pa_cons (pe_slice sl_list (pv 0) po_none (po_some (pv 1))) pa_nil)))
    (pss_cons (ps_for PassesOwn.never rfl (pi_enum (by rfl) B.enumerate (pa_cons (pe_slice sl_list (pv 0) (po_some (pv 1)) (po_some pe_int)) pa_nil)) (pg_tup rfl (pgs_cons (pg_name (i := 3) sc__law_folded.nd rfl (by first | exact Or.inl rfl | exact Or.inr rfl)) (pgs_cons (pg_name (i := 4) sc__law_folded.nd rfl (by first | exact Or.inl rfl | exact Or.inr rfl)) pgs_nil)))
      (pss_one (ps_asg (pe_op op_add (pe_ix ix_list (pv 2) (pe_op op_mod (pv 3) (pv 1)) (fun _ _ => rfl)) (pe_op op_mul (pv 4) (pe_op op_add (pv 3) pe_int))) (pg_sub (pv 2) (pe_op op_mod (pv 3) (pv 1)) set_list))))
    (pss_one (ps_ret (pv 2))))), ?_⟩
    refine ⟨_, rfl, _, rfl, _, rfl, a, _, rfl, hS, fun A1 nA1 => ?_⟩
    rw [cutTo, ← List.map_take]
    have s1 := same_new (o := .lst ((ns.take m).map V.int)) nA1
    refine ⟨A1, _, rfl, .inl (SqL.of upd_same), fun C nC => ?_⟩
    have sC := same_new (o := .lst ((ns.take m).map V.int)) nC
    have s2 := s1.trans sC
    have nC0 : H C = none := same_free s1 nC
    have eC := upd_same (H := upd H A1 (.lst ((ns.take m).map V.int))) (a := C) (o := .lst ((ns.take m).map V.int))
    generalize upd (upd H A1 (.lst ((ns.take m).map V.int))) C (.lst ((ns.take m).map V.int)) = H2 at s2 eC ⊢
    refine ⟨_, rfl, _, rfl, _, rfl, _, rfl, a, _, rfl, sq_same s2 hS, fun A3 nA3 => ?_⟩
    have sub : ∀ x ∈ cutV (ns.map V.int) (some (m : Int)) (some 63), x ∈ ns.map V.int := cut_sub
    have non : ns.length ≤ m → cutV (ns.map V.int) (some (m : Int)) (some 63) = [] := fun h => cut_none (by rw [List.length_map]; exact h)
    have cl := cutV_length (ns.map V.int) (some (m : Int)) (some 63)
    rw [List.length_map] at cl
    generalize cutV (ns.map V.int) (some (m : Int)) (some 63) = xs at sub non cl ⊢
    have s3 := same_new (o := .lst xs) nA3
    have eA3 := upd_same (H := H2) (a := A3) (o := .lst xs)
    have s03 := s2.trans s3
    have eC3 := s3 _ _ eC
    have CA : A3 ≠ C := fun z => by rw [z, eC] at nA3; cases nA3
    generalize upd H2 A3 (.lst xs) = H3 at s3 eA3 s03 eC3 ⊢
    refine ⟨A3, _, rfl, SqL.of eA3, ?_⟩
    refine for_it (walk_enum (K := K) (a := A3) (xs := xs)) (fun i σ H4 => ∃ cs y3 y4, σ = [some (.ref a), some (.int (m : Int)), some (.ref C), y3, y4] ∧ Same H H4 ∧ H4 A3 = some (.lst xs) ∧ H4 C = some (.lst (cs.map V.int)) ∧ cs.length = min m ns.length) ⟨ns.take m, _, _, rfl, s03, eA3, eC3, List.length_take ..⟩ ?_ ?_ ?_
    · rintro i σ H4 _ ⟨_, _, _, _, _, e4, _⟩
      exact SqL.of e4
    · rintro i z σ H4 H5 hi ⟨cs, y3, y4, rfl, s4, eA4, eC4, cl4⟩ ⟨T, x1, x2, rfl, nT, rfl, ex1, ex2⟩
      cases ex1
      dsimp only at ex2
      obtain ⟨cell, _, rfl⟩ := List.mem_map.mp (sub _ (List.mem_of_getElem? ex2))
      have lm : m < ns.length := by
        rcases Nat.lt_or_ge m ns.length with w | w
        · exact w
        · rw [non w] at hi; exact absurd hi (Nat.not_lt_zero _)
      have sT := same_new (o := .tup [.int ((i : Nat) : Int), .int cell]) nT
      have eC5 := sT _ _ eC4
      refine ⟨T, _, rfl, SqT.of upd_same, rfl, _, _, rfl, _, _, rfl, rfl, ?_⟩
      have s5 := s4.trans sT
      have eA5 := sT _ _ eA4
      generalize upd H4 T (.tup [.int ((i : Nat) : Int), .int cell]) = H5 at eC5 s5 eA5 ⊢
      obtain ⟨r, er⟩ : ∃ r : Nat, ((i : Nat) : Int) % (m : Int) = (r : Int) := ⟨i % m, by omega⟩
      have rm : r < m := by
        have := Int.emod_lt_of_pos ((i : Nat) : Int) (show (0 : Int) < (m : Int) by omega)
        omega
      have hr' : r < cs.length := by omega
      have gr : (cs.map V.int)[r]? = some (.int cs[r]) := by rw [List.getElem?_map, List.getElem?_eq_getElem hr']; rfl
      have mp : (0 : Int) < (m : Int) := by omega
      refine ⟨_, rfl, _, rfl, _, rfl, _, _, rfl, rfl, mp, ?_⟩
      have ixr : ixN (cs.map V.int).length (((i : Nat) : Int) % (m : Int)) = some r := by
        rw [er, List.length_map]
        unfold ixN
        rw [if_pos (by omega), if_pos (by omega), Int.toNat_natCast]
      refine ⟨C, _, ((i : Nat) : Int) % (m : Int), _, rfl, rfl, SqL.of eC5, by rw [er]; exact atI_nat gr, ?_⟩
      refine ⟨_, rfl, _, rfl, _, _, rfl, rfl, _, _, rfl, rfl, .inr ⟨by omega, by omega⟩, _, _, rfl, rfl, ?_⟩
      refine ⟨_, rfl, _, rfl, _, rfl, _, _, rfl, rfl, mp, C, _, _, r, rfl, rfl, eC5, ixr, ?_⟩
      refine ⟨cs.set r (cs[r] + cell * (((i : Nat) : Int) + 2)), _, _, rfl, Same.put s5 nC0, by rw [upd_ne CA]; exact eA5, ?_, by rw [List.length_set]; exact cl4⟩
      rw [upd_same, List.map_set]
    · rintro σ H4 ⟨cs, y3, y4, rfl, s4, eA4, eC4, cl4⟩
      exact ⟨_, rfl, q C cs H4 nC0 s4 eC4 cl4⟩
end
end My

set_option Elab.async false
set_option linter.all false
set_option maxRecDepth 100000
set_option pp.maxSteps 400
set_option maxHeartbeats 4000000
namespace My
open PySem PySem.Spec PyProof.Rows L2 GxR
/-! for each place the dict of those that it is tied to -/
def OneK (H : Hp) (ts : List (Int × Int)) (i : Int) (d : Addr) (k : Nat) : Prop := ∃ kvs : List (Key × V), H d = some (.dK kvs) ∧ kvs.length ≤ k ∧ ∀ x : Int, (valV kvs (Sum.inl x)).isSome = adjB ts i x
structure OnesAt (H : Hp) (O : Addr) (n : Nat) (ts : List (Int × Int)) : Prop where
  ex : ∃ ds : List Addr, H O = some (.lst (ds.map V.ref)) ∧ ds.length = n ∧ ∀ (i : Nat) (d : Addr), ds[i]? = some d → ∃ k, OneK H ts (i : Int) d k
theorem OnesAt.mono {H H' : Hp} {O : Addr} {n : Nat} {ts : List (Int × Int)} (h : OnesAt H O n ts) (s : Same H H') : OnesAt H' O n ts := by
  obtain ⟨ds, h1, h2, h3⟩ := h.ex
  refine ⟨ds, s _ _ h1, h2, fun i d e => ?_⟩
  obtain ⟨k, kvs, a, b, c⟩ := h3 i d e
  exact ⟨k, kvs, s _ _ a, b, c⟩
theorem OnesAt.fl {PM L : Addr} {H H' : Hp} {O : Addr} {n : Nat} {ts : List (Int × Int)} {c : Int} (h : OnesAt H O n ts) (f : FL PM L H H') (tg : TabG H PM) (lf : Lf H L c) (ne : O ≠ L) : OnesAt H' O n ts := by
  obtain ⟨ds, h1, h2, h3⟩ := h.ex
  refine ⟨ds, f.lst tg ne h1, h2, fun i d e => ?_⟩
  obtain ⟨k, kvs, a, b, z⟩ := h3 i d e
  refine ⟨k, kvs, f d _ (fun w => ?_) (fun w => ?_) a, b, z⟩
  · obtain ⟨x, y, u, e2, _⟩ := lf
    rw [w, e2] at a; cases a
  · obtain ⟨ps, p1, _⟩ := tg
    rw [w, p1] at a; cases a
theorem OnesAt.fr {L : Addr} {H H' : Hp} {O : Addr} {n : Nat} {ts : List (Int × Int)} {c : Int} (h : OnesAt H O n ts) (f : Fr L H H') (lf : Lf H L c) (ne : O ≠ L) : OnesAt H' O n ts := by
  obtain ⟨ds, h1, h2, h3⟩ := h.ex
  refine ⟨ds, f _ _ ne h1, h2, fun i d e => ?_⟩
  obtain ⟨k, kvs, a, b, z⟩ := h3 i d e
  refine ⟨k, kvs, f d _ (fun w => ?_) a, b, z⟩
  obtain ⟨x, y, u, e2, _⟩ := lf
  rw [w, e2] at a; cases a
/-- the dict of a place -/
theorem OnesAt.get {H : Hp} {O : Addr} {n : Nat} {ts : List (Int × Int)} (h : OnesAt H O n ts) {i : Int} (h0 : 0 ≤ i) (h1 : i < (n : Int)) : ∃ (xs : List V) (d : Addr) (kvs : List (Key × V)), H O = some (.lst xs) ∧ atI xs i = some (.ref d) ∧ H d = some (.dK kvs) ∧ ∀ x : Int, (valV kvs (Sum.inl x)).isSome = adjB ts i x := by
  obtain ⟨ds, e1, e2, e3⟩ := h.ex
  obtain ⟨j, rfl⟩ := natOf h0
  have lj : j < ds.length := by omega
  have gj : ds[j]? = some ds[j] := List.getElem?_eq_getElem lj
  obtain ⟨k, kvs, a, _, c⟩ := e3 j _ gj
  exact ⟨_, ds[j], kvs, e1, atI_nat (by rw [List.getElem?_map, gj]; rfl), a, c⟩
theorem adj_take_step {ts : List (Int × Int)} {j : Nat} {t : Int × Int} (e : ts[j]? = some t) (a b : Int) : adjB (ts.take (j + 1)) a b = (adjB (ts.take j) a b || decide (tieO a b = t)) := by
  unfold adjB
  rw [List.take_add_one, e, Bool.eq_iff_iff, Bool.or_eq_true, decide_eq_true_iff, decide_eq_true_iff, decide_eq_true_iff, List.mem_append]
  show _ ∨ _ ∈ [t] ↔ _
  rw [List.mem_singleton]
theorem tieO_isM {t : Int × Int} (ht : t.1 < t.2) (a b : Int) : tieO a b = t ↔ (a = t.1 ∧ b = t.2) ∨ (a = t.2 ∧ b = t.1) := by
  unfold tieO
  by_cases h : a < b
  · rw [if_pos h]
    constructor
    · rintro rfl; exact .inl ⟨rfl, rfl⟩
    · rintro (⟨rfl, rfl⟩ | ⟨rfl, rfl⟩)
      · rfl
      · omega
  · rw [if_neg h]
    by_cases k : b < a
    · first
      | rw [if_pos k]
        constructor
        · rintro rfl; exact .inr ⟨rfl, rfl⟩
        · rintro (⟨rfl, rfl⟩ | ⟨rfl, rfl⟩)
          · omega
          · rfl
      | constructor
        · rintro rfl; exact .inr ⟨rfl, rfl⟩
        · rintro (⟨rfl, rfl⟩ | ⟨rfl, rfl⟩)
          · omega
          · rfl
    · have : a = b := by omega
      subst this
      constructor
      · intro e
        exfalso
        have h1 := congrArg Prod.fst e
        have h2 := congrArg Prod.snd e
        dsimp only at h1 h2
        omega
      · rintro (⟨e1, e2⟩ | ⟨e1, e2⟩) <;> omega
theorem some_putI (kvs : List (Key × V)) (x y : Int) (v : V) : (valV (putK kvs (Sum.inl x) v) (Sum.inl y)).isSome = ((valV kvs (Sum.inl y)).isSome || decide (y = x)) := by
  rw [valV_put]
  by_cases h : y = x
  · subst h
    rw [if_pos rfl, decide_eq_true rfl, Bool.or_true]; rfl
  · rw [if_neg (fun z => h (Sum.inl.inj z)), decide_eq_false h, Bool.or_false]
section
variable {P : Program} {w : World} {K : PySem.W.Frag} {mg : Str → Option Value} {base : Heap}
end
end My

set_option Elab.async false
set_option linter.all false
set_option maxRecDepth 100000
namespace My
open PySem PySem.Spec PyProof.Rows L2 GxR
/-! ### modules of the part of some places -/
def CloI (ts : List (Int × Int)) (I : List Int) (M : Int → Prop) : Prop := ∀ p ∈ I, ¬ M p → ∀ a ∈ I, ∀ b ∈ I, M a → M b → adjB ts p a = adjB ts p b
def moreI (ts : List (Int × Int)) (I F : List Int) : List Int := I.filter fun p => decide (p ∉ F) && partsB ts F p
theorem moreI_step (ts : List (Int × Int)) (I F : List Int) {i : Nat} {p : Int} (e : I[i]? = some p) : moreI ts (I.take (i + 1)) F = moreI ts (I.take i) F ++ (if (decide (p ∉ F) && partsB ts F p) = true then [p] else []) := by
  unfold moreI
  rw [List.take_add_one, e, List.filter_append]
  show _ ++ List.filter _ [p] = _
  rw [List.filter_cons]; rfl
structure LI (ts : List (Int × Int)) (I S0 F : List Int) : Prop where
  ex : ∃ N, F = S0 ++ N ∧ N.Nodup ∧ ∀ x ∈ N, x ∉ S0 ∧ x ∈ I
  low : ∀ M : Int → Prop, CloI ts I M → (∀ x ∈ S0, M x) → ∀ x ∈ F, M x
theorem LI.start (ts : List (Int × Int)) (I S0 : List Int) : LI ts I S0 S0 := ⟨⟨[], (List.append_nil _).symm, List.nodup_nil, fun x h => absurd h List.not_mem_nil⟩, fun M _ h => h⟩
theorem LI.inI {ts : List (Int × Int)} {I S0 F : List Int} (h : LI ts I S0 F) (hs : ∀ x ∈ S0, x ∈ I) : ∀ x ∈ F, x ∈ I := fun x hx => by
  obtain ⟨N, rfl, _, k⟩ := h.ex
  rcases List.mem_append.mp hx with z | z
  · exact hs x z
  · exact (k x z).2
theorem LI.len {ts : List (Int × Int)} {I S0 F : List Int} (h : LI ts I S0 F) : F.length ≤ S0.length + I.length := by
  obtain ⟨N, rfl, nd, k⟩ := h.ex
  have := nd_len (m := I) nd fun x hx => (k x hx).2
  rw [List.length_append]; omega
theorem LI.more {ts : List (Int × Int)} {I S0 F : List Int} (h : LI ts I S0 F) (nI : I.Nodup) (hs : ∀ x ∈ S0, x ∈ I) : LI ts I S0 (F ++ moreI ts I F) := by
  have inI := h.inI hs
  constructor
  · obtain ⟨N, rfl, nd, k⟩ := h.ex
    have km : ∀ x ∈ moreI ts I (S0 ++ N), x ∈ I ∧ x ∉ S0 ++ N := fun x hx => by
      obtain ⟨h1, h2⟩ := List.mem_filter.mp hx
      rw [Bool.and_eq_true, decide_eq_true_iff] at h2
      exact ⟨h1, h2.1⟩
    refine ⟨N ++ moreI ts I (S0 ++ N), by rw [List.append_assoc], ?_, fun x hx => ?_⟩
    · rw [List.nodup_append]
      exact ⟨nd, nI.filter _, fun a ha b hb e => (km b hb).2 (List.mem_append_right _ (e ▸ ha))⟩
    · rcases List.mem_append.mp hx with z | z
      · exact k x z
      · exact ⟨fun w => (km x z).2 (List.mem_append_left _ w), (km x z).1⟩
  · intro M hM hS x hx
    rcases List.mem_append.mp hx with z | z
    · exact h.low M hM hS x z
    · obtain ⟨h1, h2⟩ := List.mem_filter.mp z
      rw [Bool.and_eq_true] at h2
      obtain ⟨⟨a, ha, e1⟩, b, hb, e2⟩ := parts_iff.mp h2.2
      refine Classical.byContradiction fun n => ?_
      have := hM x h1 n a (inI a ha) b (inI b hb) (h.low M hM hS a ha) (h.low M hM hS b hb)
      rw [e1, e2] at this; cases this
theorem LI.clo {ts : List (Int × Int)} {I F : List Int} (e : moreI ts I F = []) : CloI ts I (· ∈ F) := fun p hp n a _ b _ ha hb => by
  have : p ∉ moreI ts I F := by rw [e]; exact List.not_mem_nil
  have np : partsB ts F p = false := by
    cases h : partsB ts F p with
    | false => rfl
    | true => exact absurd (List.mem_filter.mpr ⟨hp, by rw [decide_eq_true n, h]; rfl⟩) this
  cases ea : adjB ts p a with
  | true =>
    cases eb : adjB ts p b with
    | true => rfl
    | false => rw [parts_iff.mpr ⟨⟨a, ha, ea⟩, b, hb, eb⟩] at np; cases np
  | false =>
    cases eb : adjB ts p b with
    | false => rfl
    | true => rw [parts_iff.mpr ⟨⟨b, hb, eb⟩, a, ha, ea⟩] at np; cases np
/-- the least module of S0 in the part of I, rising; what S0 has twice it has twice -/
structure LeastI (ts : List (Int × Int)) (I S0 L : List Int) : Prop where
  perm : ∃ N, L.Perm (S0 ++ N) ∧ N.Nodup ∧ ∀ x ∈ N, x ∉ S0 ∧ x ∈ I
  srt : L.Pairwise (· ≤ ·)
  low : ∀ M : Int → Prop, CloI ts I M → (∀ x ∈ S0, M x) → ∀ x ∈ L, M x
  clo : CloI ts I (· ∈ L)
theorem leastI_of {ts : List (Int × Int)} {I S0 F L : List Int} (h : LI ts I S0 F) (e : moreI ts I F = []) (pm : L.Perm F) (s : L.Pairwise (· ≤ ·)) : LeastI ts I S0 L := by
  obtain ⟨N, rfl, nd, k⟩ := h.ex
  refine ⟨⟨N, pm, nd, k⟩, s, fun M hM hS x hx => h.low M hM hS x (pm.mem_iff.mp hx), fun p hp n a ha b hb ma mb => LI.clo e p hp (fun z => n (pm.mem_iff.mpr z)) a ha b hb (pm.mem_iff.mp ma) (pm.mem_iff.mp mb)⟩
theorem LeastI.sub {ts : List (Int × Int)} {I S0 L : List Int} (h : LeastI ts I S0 L) : ∀ x ∈ S0, x ∈ L := fun x hx => by
  obtain ⟨N, pm, _, _⟩ := h.perm
  exact pm.mem_iff.mpr (List.mem_append_left _ hx)
theorem LeastI.inI {ts : List (Int × Int)} {I S0 L : List Int} (h : LeastI ts I S0 L) (hs : ∀ x ∈ S0, x ∈ I) : ∀ x ∈ L, x ∈ I := fun x hx => by
  obtain ⟨N, pm, _, k⟩ := h.perm
  rcases List.mem_append.mp (pm.mem_iff.mp hx) with z | z
  · exact hs x z
  · exact (k x z).2
theorem LeastI.nd {ts : List (Int × Int)} {I S0 L : List Int} (h : LeastI ts I S0 L) (n : S0.Nodup) : L.Nodup := by
  obtain ⟨N, pm, nd, k⟩ := h.perm
  refine pm.nodup_iff.mpr (List.nodup_append.mpr ⟨n, nd, fun a ha b hb e => (k b hb).1 (e ▸ ha)⟩)
theorem LeastI.len {ts : List (Int × Int)} {I S0 L : List Int} (h : LeastI ts I S0 L) : L.length ≤ S0.length + I.length := by
  obtain ⟨N, pm, nd, k⟩ := h.perm
  have := nd_len (m := I) nd fun x hx => (k x hx).2
  rw [pm.length_eq, List.length_append]; omega
def cntB (ts : List (Int × Int)) (F : List Int) (p : Int) : Nat := (F.filter (adjB ts p)).length
theorem cnt_parts (ts : List (Int × Int)) (F : List Int) (p : Int) : (!decide ((cntB ts F p : Int) ∈ [0, (F.length : Int)])) = partsB ts F p := by
  have key : partsB ts F p = true ↔ cntB ts F p ≠ 0 ∧ cntB ts F p ≠ F.length := by
    rw [parts_iff]
    unfold cntB
    constructor
    · rintro ⟨⟨a, ha, e1⟩, b, hb, e2⟩
      constructor
      · intro z
        have : a ∈ F.filter (adjB ts p) := List.mem_filter.mpr ⟨ha, e1⟩
        rw [List.eq_nil_of_length_eq_zero z] at this; cases this
      · intro z
        have := List.length_filter_eq_length_iff.mp z b hb
        rw [e2] at this; cases this
    · rintro ⟨h1, h2⟩
      constructor
      · obtain ⟨a, ha⟩ := List.exists_mem_of_ne_nil _ (fun z : F.filter (adjB ts p) = [] => h1 (by rw [z]; rfl))
        obtain ⟨k1, k2⟩ := List.mem_filter.mp ha
        exact ⟨a, k1, k2⟩
      · refine Classical.byContradiction fun n => h2 (List.length_filter_eq_length_iff.mpr fun b hb => ?_)
        cases e : adjB ts p b with
        | true => rfl
        | false => exact absurd ⟨b, hb, e⟩ n
  have mem : (cntB ts F p : Int) ∈ [0, (F.length : Int)] ↔ cntB ts F p = 0 ∨ cntB ts F p = F.length := by
    simp only [List.mem_cons, List.not_mem_nil, or_false]
    omega
  cases h : partsB ts F p with
  | true =>
    have := key.mp h
    rw [decide_eq_false (fun z => (mem.mp z).elim this.1 this.2)]; rfl
  | false =>
    have : ¬ (cntB ts F p ≠ 0 ∧ cntB ts F p ≠ F.length) := fun z => by rw [key.mpr z] at h; cases h
    rw [decide_eq_true (mem.mpr (by omega))]; rfl
end My

set_option Elab.async false
set_option linter.all false
set_option maxRecDepth 100000
set_option pp.maxSteps 400
set_option maxHeartbeats 4000000
namespace My
open PySem PySem.Spec PyProof.Rows L2 GxR
section
variable {P : Program} {w : World} {K : PySem.W.Frag} {mg : Str → Option Value} {base : Heap}
end
end My

set_option Elab.async false
set_option linter.all false
set_option maxRecDepth 100000
namespace My
open PySem PySem.Spec PyProof.Rows L2 GxR
/-! ### places joined by ties, or by gaps -/
def ClR (ts : List (Int × Int)) (b : Bool) (I : List Int) (A : Int → Prop) : Prop := ∀ x ∈ I, ∀ y ∈ I, A x → adjB ts x y = b → A y
/-- one's least place lies below all of the other's -/
def HdLt (S T : List Int) : Prop := ∃ s ∈ S, (∀ x ∈ S, s ≤ x) ∧ ∀ t ∈ T, s < t
theorem HdLt.irr {S : List Int} (h : HdLt S S) : False := by
  obtain ⟨s, hs, _, h⟩ := h
  have := h s hs; omega
theorem HdLt.asy {S T : List Int} (h : HdLt S T) (k : HdLt T S) : False := by
  obtain ⟨s, hs, _, h⟩ := h
  obtain ⟨t, ht, _, k⟩ := k
  have := h t ht
  have := k s hs
  omega
theorem HdLt.sub {S T U : List Int} (h : HdLt S T) (k : ∀ x ∈ U, x ∈ T) : HdLt S U := by
  obtain ⟨s, hs, h1, h2⟩ := h
  exact ⟨s, hs, h1, fun t ht => h2 t (k t ht)⟩
/-- two rows of sets in order with the same members are the same -/
theorem ord_ext : ∀ {F G : List (List Int)}, F.Pairwise HdLt → G.Pairwise HdLt → (∀ S, S ∈ F ↔ S ∈ G) → F = G
  | [], [], _, _, _ => rfl
  | [], b :: G, _, _, h => absurd ((h b).mpr List.mem_cons_self) List.not_mem_nil
  | a :: F, [], _, _, h => absurd ((h a).mp List.mem_cons_self) List.not_mem_nil
  | a :: F, b :: G, hF, hG, h => by
    obtain ⟨a1, F1⟩ := List.pairwise_cons.mp hF
    obtain ⟨b1, G1⟩ := List.pairwise_cons.mp hG
    have e : a = b := by
      rcases List.mem_cons.mp ((h a).mp List.mem_cons_self) with z | z
      · exact z
      · rcases List.mem_cons.mp ((h b).mpr List.mem_cons_self) with w | w
        · exact w.symm
        · exact absurd (HdLt.asy (b1 a z) (a1 b w)) id
    subst e
    congr 1
    refine ord_ext F1 G1 fun S => ⟨fun hS => ?_, fun hS => ?_⟩
    · rcases List.mem_cons.mp ((h S).mp (List.mem_cons_of_mem _ hS)) with z | z
      · subst z; exact absurd (HdLt.irr (a1 S hS)) id
      · exact z
    · rcases List.mem_cons.mp ((h S).mpr (List.mem_cons_of_mem _ hS)) with z | z
      · subst z; exact absurd (HdLt.irr (b1 S hS)) id
      · exact z
structure SetsI (ts : List (Int × Int)) (b : Bool) (I : List Int) (F : List (List Int)) : Prop where
  perm : F.flatten.Perm I
  ne : ∀ S ∈ F, S ≠ []
  srt : ∀ S ∈ F, S.Pairwise (· ≤ ·)
  clo : ∀ S ∈ F, ∀ x ∈ S, ∀ y ∈ I, adjB ts x y = b → y ∈ S
  con : ∀ S ∈ F, ∀ A : Int → Prop, ClR ts b I A → ∀ x ∈ S, A x → ∀ y ∈ S, A y
  ord : I.Pairwise (· < ·) → F.Pairwise HdLt
/-- some sets are found, some places are left -/
structure SetsP (ts : List (Int × Int)) (b : Bool) (I : List Int) (F : List (List Int)) (Lt : List Int) : Prop where
  perm : (F.flatten ++ Lt).Perm I
  ne : ∀ S ∈ F, S ≠ []
  srt : ∀ S ∈ F, S.Pairwise (· ≤ ·)
  clo : ∀ S ∈ F, ∀ x ∈ S, ∀ y ∈ I, adjB ts x y = b → y ∈ S
  con : ∀ S ∈ F, ∀ A : Int → Prop, ClR ts b I A → ∀ x ∈ S, A x → ∀ y ∈ S, A y
  sub : Lt.Sublist I
  ord : I.Pairwise (· < ·) → F.Pairwise HdLt ∧ ∀ S ∈ F, HdLt S Lt
theorem SetsP.start (ts : List (Int × Int)) (b : Bool) (I : List Int) : SetsP ts b I [] I := ⟨List.Perm.refl _, fun S h => absurd h List.not_mem_nil, fun S h => absurd h List.not_mem_nil, fun S h => absurd h List.not_mem_nil, fun S h => absurd h List.not_mem_nil, List.Sublist.refl _, fun _ => ⟨.nil, fun S h => absurd h List.not_mem_nil⟩⟩
theorem SetsP.done {ts : List (Int × Int)} {b : Bool} {I : List Int} {F : List (List Int)} (h : SetsP ts b I F []) : SetsI ts b I F := ⟨by have := h.perm; rwa [List.append_nil] at this, h.ne, h.srt, h.clo, h.con, fun k => (h.ord k).1⟩
/-- a set on its way -/
structure OneP (ts : List (Int × Int)) (b : Bool) (I L0 : List Int) (seed : Int) (S W Lt : List Int) : Prop where
  perm : (S ++ Lt).Perm L0
  sd : seed ∈ S
  wS : ∀ x ∈ W, x ∈ S
  wN : W.Nodup
  done : ∀ x ∈ S, x ∉ W → ∀ y ∈ Lt, adjB ts x y ≠ b
  reach : ∀ A : Int → Prop, ClR ts b I A → A seed → ∀ x ∈ S, A x
  sub : Lt.Sublist L0
  hd : ∃ l, L0 = seed :: l
theorem OneP.start {ts : List (Int × Int)} {b : Bool} {I : List Int} {seed : Int} {Lt : List Int} : OneP ts b I (seed :: Lt) seed [seed] [seed] Lt :=
  ⟨List.Perm.refl _, List.mem_singleton.mpr rfl, fun x h => h, List.nodup_cons.mpr ⟨List.not_mem_nil, List.nodup_nil⟩, fun x h n => absurd h n, fun A _ h x hx => by rw [List.mem_singleton.mp hx]; exact h, List.sublist_cons_self _ _, ⟨_, rfl⟩⟩
def candI (ts : List (Int × Int)) (b : Bool) (o : Int) (Lt : List Int) : List Int := Lt.filter fun y => decide (adjB ts o y = b)
theorem candI_step (ts : List (Int × Int)) (b : Bool) (o : Int) {Lt : List Int} {i : Nat} {y : Int} (e : Lt[i]? = some y) : candI ts b o (Lt.take (i + 1)) = candI ts b o (Lt.take i) ++ (if decide (adjB ts o y = b) = true then [y] else []) := by
  unfold candI
  rw [List.take_add_one, e, List.filter_append]
  show _ ++ List.filter _ [y] = _
  rw [List.filter_cons]; rfl
theorem OneP.step {ts : List (Int × Int)} {b : Bool} {I L0 : List Int} {seed o : Int} {S W Lt Le : List Int} (h : OneP ts b I L0 seed S (W ++ [o]) Lt) (nd : L0.Nodup) (inI : ∀ x ∈ L0, x ∈ I) (pm : (candI ts b o Lt ++ Le).Perm Lt) (sb : Le.Sublist Lt) : OneP ts b I L0 seed (S ++ candI ts b o Lt) (W ++ candI ts b o Lt) Le := by
  have oS := h.wS o (List.mem_append_right _ (List.mem_singleton.mpr rfl))
  have nSL : (S ++ Lt).Nodup := h.perm.nodup_iff.mpr nd
  rw [List.nodup_append] at nSL
  have cm : ∀ y, y ∈ candI ts b o Lt ↔ y ∈ Lt ∧ adjB ts o y = b := fun y => by unfold candI; rw [List.mem_filter, decide_eq_true_iff]
  have nL : (candI ts b o Lt ++ Le).Nodup := pm.nodup_iff.mpr nSL.2.1
  rw [List.nodup_append] at nL
  have leM : ∀ y ∈ Le, y ∈ Lt ∧ adjB ts o y ≠ b := fun y hy => by
    have hL := pm.mem_iff.mp (List.mem_append_right _ hy)
    exact ⟨hL, fun z => nL.2.2 y ((cm y).mpr ⟨hL, z⟩) y hy rfl⟩
  have mI : ∀ x ∈ S ++ Lt, x ∈ I := fun x hx => inI x (h.perm.mem_iff.mp hx)
  refine ⟨?_, List.mem_append_left _ h.sd, fun x hx => ?_, ?_, fun x hx nW y hy => ?_, fun A cA sA x hx => ?_, sb.trans h.sub, h.hd⟩
  · rw [List.append_assoc]
    exact (List.Perm.append_left S pm).trans h.perm
  · rcases List.mem_append.mp hx with z | z
    · exact List.mem_append_left _ (h.wS x (List.mem_append_left _ z))
    · exact List.mem_append_right _ z
  · have wN := h.wN
    rw [List.nodup_append] at wN ⊢
    refine ⟨wN.1, nL.1, fun a ha c hc e => ?_⟩
    have := h.wS a (List.mem_append_left _ ha)
    exact nSL.2.2 a this c ((cm c).mp hc).1 e
  · obtain ⟨yL, yo⟩ := leM y hy
    by_cases xo : x = o
    · rw [xo]; exact yo
    · rcases List.mem_append.mp hx with z | z
      · refine h.done x z (fun w => ?_) y yL
        rcases List.mem_append.mp w with w | w
        · exact nW (List.mem_append_left _ w)
        · exact xo (List.mem_singleton.mp w)
      · exact absurd (List.mem_append_right _ z) nW
  · rcases List.mem_append.mp hx with z | z
    · exact h.reach A cA sA x z
    · obtain ⟨k1, k2⟩ := (cm x).mp z
      exact cA o (mI o (List.mem_append_left _ oS)) x (mI x (List.mem_append_right _ k1)) (h.reach A cA sA o oS) k2
theorem SetsP.add {ts : List (Int × Int)} {b : Bool} {I : List Int} {F : List (List Int)} {L0 S Lt T : List Int} {seed : Int} (h : SetsP ts b I F L0) (nd : I.Nodup) (o : OneP ts b I L0 seed S [] Lt) (pm : T.Perm S) (st : T.Pairwise (· ≤ ·)) : SetsP ts b I (F ++ [T]) Lt := by
  have nI : (F.flatten ++ L0).Nodup := h.perm.nodup_iff.mpr nd
  have n0 := List.nodup_append.mp nI
  have sI : ∀ x ∈ S, x ∈ I := fun x hx => h.perm.mem_iff.mp (List.mem_append_right _ (o.perm.mem_iff.mp (List.mem_append_left _ hx)))
  have sdI := sI seed o.sd
  refine ⟨?_, fun U hU => ?_, fun U hU => ?_, fun U hU => ?_, fun U hU => ?_, o.sub.trans h.sub, fun hI => ?_⟩
  · rw [List.flatten_append, List.flatten_cons, List.flatten_nil, List.append_nil, List.append_assoc]
    exact (List.Perm.append_left _ ((List.Perm.append_right Lt pm).trans o.perm)).trans h.perm
  · rcases List.mem_append.mp hU with z | z
    · exact h.ne U z
    · rw [List.mem_singleton.mp z]
      exact fun e => by rw [e] at pm; have := pm.mem_iff.mpr o.sd; cases this
  · rcases List.mem_append.mp hU with z | z
    · exact h.srt U z
    · rw [List.mem_singleton.mp z]; exact st
  · rcases List.mem_append.mp hU with z | z
    · exact h.clo U z
    · rw [List.mem_singleton.mp z]
      intro x hx y hy e
      have xS := pm.mem_iff.mp hx
      refine pm.mem_iff.mpr ?_
      rcases List.mem_append.mp (h.perm.mem_iff.mpr hy) with w | w
      · exfalso
        obtain ⟨V', hV, yV⟩ := List.mem_flatten.mp w
        have xV := h.clo V' hV y yV x (sI x xS) (by rw [adj_comm]; exact e)
        exact n0.2.2 x (List.mem_flatten.mpr ⟨V', hV, xV⟩) x (o.perm.mem_iff.mp (List.mem_append_left _ xS)) rfl
      · rcases List.mem_append.mp (o.perm.mem_iff.mpr w) with k | k
        · exact k
        · exact absurd e (o.done x xS List.not_mem_nil y k)
  · rcases List.mem_append.mp hU with z | z
    · exact h.con U z
    · rw [List.mem_singleton.mp z]
      intro A cA x hx ax y hy
      have sA : A seed := by
        refine Classical.byContradiction fun n => ?_
        have cN : ClR ts b I (fun z => ¬ A z) := fun u hu v hv nu e av => nu (cA v hv u hu av (by rw [adj_comm]; exact e))
        exact o.reach _ cN n x (pm.mem_iff.mp hx) ax
      exact o.reach A cA sA y (pm.mem_iff.mp hy)
  · obtain ⟨k1, k2⟩ := h.ord hI
    have T0 : ∀ x ∈ T, x ∈ L0 := fun x hx => o.perm.mem_iff.mp (List.mem_append_left _ (pm.mem_iff.mp hx))
    have Lt0 : ∀ x ∈ Lt, x ∈ L0 := fun x hx => o.perm.mem_iff.mp (List.mem_append_right _ hx)
    have nS := List.nodup_append.mp (o.perm.nodup_iff.mpr n0.2.1)
    have le0 : ∀ x ∈ L0, seed ≤ x := fun x hx => by
      have p0 := hI.sublist h.sub
      obtain ⟨l, hl⟩ := o.hd
      rw [hl] at hx p0
      rcases List.mem_cons.mp hx with z | z
      · omega
      · have := (List.pairwise_cons.mp p0).1 x z; omega
    have hT : HdLt T Lt := ⟨seed, pm.mem_iff.mpr o.sd, fun x hx => le0 x (T0 x hx), fun t ht => by
      have h1 := le0 t (Lt0 t ht)
      have h2 : seed ≠ t := fun e => nS.2.2 seed o.sd t ht e
      omega⟩
    refine ⟨?_, fun U hU => ?_⟩
    · rw [List.pairwise_append]
      exact ⟨k1, List.pairwise_singleton _ _, fun U hU V hV => by rw [List.mem_singleton.mp hV]; exact (k2 U hU).sub T0⟩
    · rcases List.mem_append.mp hU with z | z
      · exact (k2 U z).sub Lt0
      · rw [List.mem_singleton.mp z]; exact hT
theorem erase_permI {l : List Int} {j : Nat} {x : Int} (e : l[j]? = some x) : (x :: l.eraseIdx j).Perm l := by
  obtain ⟨hj, rfl⟩ := List.getElem?_eq_some_iff.mp e
  exact erase_perm hj
theorem idx_at1 {ns : List Int} {x : Int} (h : x ∈ ns) : ns[ns.idxOf x]? = some x ∧ ∀ m : Nat, m < ns.idxOf x → ns[m]? ≠ some x := by
  refine ⟨idx_get h, fun m hm e => ?_⟩
  obtain ⟨l, e2⟩ := List.getElem?_eq_some_iff.mp e
  have := List.not_of_lt_findIdx (xs := ns) (p := fun y => y == x) hm
  rw [e2] at this
  simp at this
end My

set_option Elab.async false
set_option linter.all false
set_option maxRecDepth 100000
set_option pp.maxSteps 400
set_option maxHeartbeats 4000000
namespace My
open PySem PySem.Spec PyProof.Rows L2 GxR
/-- lists of numbers, each a new one -/
def LsN (bad : List Addr) (H : Hp) (v : V) (A : List Int) : Prop := ∃ q, v = .ref q ∧ q ∉ bad ∧ H q = some (.lst (A.map V.int))
section
variable {P : Program} {w : World} {K : PySem.W.Frag} {mg : Str → Option Value} {base : Heap}
end
end My

set_option Elab.async false
set_option linter.all false
set_option maxRecDepth 100000
namespace My
open PySem PySem.Spec PyProof.Rows L2 GxR
/-! ### the parts of places that neither ties nor gaps leave apart -/
/-- neither ties nor gaps leave I apart -/
structure Whl (ts : List (Int × Int)) (I : List Int) : Prop where
  con : ∀ (b : Bool) (A : Int → Prop), ClR ts b I A → ∀ x ∈ I, A x → ∀ y ∈ I, A y
theorem whl_of {ts : List (Int × Int)} {I : List Int} {F1 F2 : List (List Int)} (h1 : SetsI ts true I F1) (h2 : SetsI ts false I F2) (l1 : ¬ 1 < F1.length) (l2 : ¬ 1 < F2.length) : Whl ts I := by
  have one : ∀ (b : Bool) (F : List (List Int)), SetsI ts b I F → ¬ 1 < F.length → ∀ A : Int → Prop, ClR ts b I A → ∀ x ∈ I, A x → ∀ y ∈ I, A y := fun b F h l A cA x hx ax y hy => by
    obtain ⟨S, hS, xS⟩ := List.mem_flatten.mp (h.perm.mem_iff.mpr hx)
    obtain ⟨T, hT, yT⟩ := List.mem_flatten.mp (h.perm.mem_iff.mpr hy)
    have e : S = T := by
      rcases F with _ | ⟨U, _ | ⟨V', G⟩⟩
      · cases hS
      · rw [List.mem_singleton.mp hS, List.mem_singleton.mp hT]
      · exact absurd (by simp) l
    subst e
    exact h.con S hS A cA x xS ax y yT
  refine ⟨fun b => ?_⟩
  cases b with
  | true => exact one true F1 h1 l1
  | false => exact one false F2 h2 l2
theorem cloI_both {ts : List (Int × Int)} {I : List Int} {M N : Int → Prop} (hM : CloI ts I M) (hN : CloI ts I N) {c : Int} (cI : c ∈ I) (cM : M c) (cN : N c) : CloI ts I (fun x => M x ∨ N x) := fun p hp np a ha b hb ma mb => by
  have k : ∀ x ∈ I, M x ∨ N x → adjB ts p x = adjB ts p c := fun x hx m => by
    rcases m with m | m
    · exact hM p hp (fun z => np (.inl z)) x hx c cI m cM
    · exact hN p hp (fun z => np (.inr z)) x hx c cI m cN
  exact (k a ha ma).trans (k b hb mb).symm
/-- two modules that meet, each of which lacks a place, lack one together -/
theorem two_lack {ts : List (Int × Int)} {I : List Int} (w : Whl ts I) {M N : Int → Prop} (hM : CloI ts I M) (hN : CloI ts I N) {c a b : Int} (cI : c ∈ I) (cM : M c) (cN : N c) (aI : a ∈ I) (aN : ¬ N a) (bI : b ∈ I) (bM : ¬ M b) : ∃ z ∈ I, ¬ (M z ∨ N z) := by
  refine Classical.byContradiction fun no => ?_
  have all : ∀ z ∈ I, M z ∨ N z := fun z hz => Classical.byContradiction fun n => no ⟨z, hz, n⟩
  have aM : M a := (all a aI).resolve_right aN
  have bN : N b := (all b bI).resolve_left bM
  have k : ∀ x ∈ I, ¬ N x → ∀ y ∈ I, N y → adjB ts x y = adjB ts b a := fun x hx nx y hy ny => by
    have mx : M x := (all x hx).resolve_right nx
    have e1 := hN x hx nx y hy b bI ny bN
    have e2 := hM b bI bM x hx a aI mx aM
    rw [e1, adj_comm ts x b, e2]
  have cA : ClR ts (!adjB ts b a) I (fun x => ¬ N x) := fun x hx y hy nx e ny => by
    rw [k x hx nx y hy ny] at e
    cases h : adjB ts b a <;> rw [h] at e <;> cases e
  exact w.con _ _ cA a aI aN b bI bN
/-- a module has both that lacks a place -/
def Pr (ts : List (Int × Int)) (I : List Int) (p q : Int) : Prop := ∃ M : Int → Prop, CloI ts I M ∧ M p ∧ M q ∧ ∃ z ∈ I, ¬ M z
theorem Pr.symm {ts : List (Int × Int)} {I : List Int} {p q : Int} (h : Pr ts I p q) : Pr ts I q p := by
  obtain ⟨M, a, b, c, d⟩ := h
  exact ⟨M, a, c, b, d⟩
theorem Pr.trans {ts : List (Int × Int)} {I : List Int} (w : Whl ts I) {p q r : Int} (qI : q ∈ I) (h : Pr ts I p q) (k : Pr ts I q r) : Pr ts I p r := by
  obtain ⟨M, a, b, c, zb, z1, z2⟩ := h
  obtain ⟨N, a', b', c', za, y1, y2⟩ := k
  exact ⟨fun x => M x ∨ N x, cloI_both a a' qI c b', .inl b, .inr c', two_lack w a a' qI c b' y1 y2 z1 z2⟩
theorem cloI_one (ts : List (Int × Int)) (I : List Int) (p : Int) : CloI ts I (fun x => x = p) := fun q _ _ a _ b _ ha hb => by rw [ha, hb]
theorem whl_two {ts : List (Int × Int)} {I : List Int} (w : Whl ts I) {a b : Int} (aI : a ∈ I) (bI : b ∈ I) (ab : a ≠ b) : ∃ c ∈ I, c ≠ a ∧ c ≠ b := by
  refine Classical.byContradiction fun no => ?_
  have all : ∀ z ∈ I, z = a ∨ z = b := fun z hz => Classical.byContradiction fun n => no ⟨z, hz, fun e => n (.inl e), fun e => n (.inr e)⟩
  have cA : ClR ts (!adjB ts a b) I (fun x => x = a) := fun x hx y hy ex e => by
    subst ex
    rcases all y hy with z | z
    · exact z
    · subst z
      cases h : adjB ts x y <;> rw [h] at e <;> cases e
  exact ab (w.con _ _ cA a aI rfl b bI).symm
theorem Pr.refl {ts : List (Int × Int)} {I : List Int} {p q : Int} (qI : q ∈ I) (n : q ≠ p) : Pr ts I p p := ⟨fun x => x = p, cloI_one ts I p, rfl, rfl, q, qI, n⟩
open Classical in
noncomputable def clsI (ts : List (Int × Int)) (I : List Int) (p : Int) : List Int := I.filter fun q => decide (Pr ts I p q)
open Classical in
theorem mem_clsI {ts : List (Int × Int)} {I : List Int} {p q : Int} : q ∈ clsI ts I p ↔ q ∈ I ∧ Pr ts I p q := by
  unfold clsI
  rw [List.mem_filter, decide_eq_true_iff]
open Classical in
theorem clsI_eq {ts : List (Int × Int)} {I : List Int} (w : Whl ts I) {p q : Int} (pI : p ∈ I) (qI : q ∈ I) (h : Pr ts I p q) : clsI ts I p = clsI ts I q := by
  unfold clsI
  refine List.filter_congr fun x hx => ?_
  refine decide_eq_decide.mpr ⟨fun k => h.symm.trans w pI k, fun k => h.trans w qI k⟩
/-- not all are near -/
theorem cls_lack {ts : List (Int × Int)} {I : List Int} (w : Whl ts I) {p q : Int} (pI : p ∈ I) (qI : q ∈ I) (n : q ≠ p) : ∃ z ∈ I, z ∉ clsI ts I p := by
  refine Classical.byContradiction fun no => ?_
  have all : ∀ z ∈ I, Pr ts I p z := fun z hz => Classical.byContradiction fun k => no ⟨z, hz, fun m => k (mem_clsI.mp m).2⟩
  have key : ∀ l : List Int, (∀ x ∈ l, x ∈ I) → ∃ M : Int → Prop, CloI ts I M ∧ M p ∧ (∀ x ∈ l, M x) ∧ ∃ z ∈ I, ¬ M z := fun l => by
    induction l with
    | nil => intro _; exact ⟨fun x => x = p, cloI_one ts I p, rfl, fun x h => absurd h List.not_mem_nil, q, qI, n⟩
    | cons x l ih =>
      intro hl
      obtain ⟨M, a, b, c, zb, z1, z2⟩ := ih fun y hy => hl y (List.mem_cons_of_mem _ hy)
      obtain ⟨N, a', b', c', za, y1, y2⟩ := all x (hl x List.mem_cons_self)
      refine ⟨fun y => M y ∨ N y, cloI_both a a' pI b b', .inl b, fun y hy => ?_, two_lack w a a' pI b b' y1 y2 z1 z2⟩
      rcases List.mem_cons.mp hy with e | e
      · subst e; exact .inr c'
      · exact .inl (c y e)
  obtain ⟨M, _, _, c, z, z1, z2⟩ := key I fun _ h => h
  exact z2 (c z z1)
theorem ltLen {I L : List Int} (nL : L.Nodup) (sub : ∀ x ∈ L, x ∈ I) {z : Int} (zI : z ∈ I) (zL : z ∉ L) : L.length < I.length := by
  have := nd_len (l := z :: L) (m := I) (List.nodup_cons.mpr ⟨zL, nL⟩) fun x hx => by
    rcases List.mem_cons.mp hx with e | e
    · rw [e]; exact zI
    · exact sub x e
  rw [List.length_cons] at this; omega
/-- the least module of two places lacks a place just where some module does -/
theorem least_lt {ts : List (Int × Int)} {I L : List Int} {p q : Int} (w : Whl ts I) (nI : I.Nodup) (pI : p ∈ I) (qI : q ∈ I) {u : Int} (uI : u ∈ I) (up : u ≠ p) (h : LeastI ts I [p, q] L) : L.length < I.length ↔ Pr ts I p q := by
  have inL := h.inI (fun x hx => by
    rcases List.mem_cons.mp hx with e | e
    · rw [e]; exact pI
    · rw [List.mem_singleton.mp e]; exact qI)
  by_cases e : q = p
  · subst e
    have all : ∀ x ∈ L, x = q := h.low (fun x => x = q) (cloI_one ts I q) (fun x hx => by
      rcases List.mem_cons.mp hx with e | e
      · exact e
      · exact List.mem_singleton.mp e)
    obtain ⟨N, pm, nd, k⟩ := h.perm
    have N0 : N = [] := by
      cases N with
      | nil => rfl
      | cons x N =>
        have x1 := all x (pm.mem_iff.mpr (List.mem_append_right _ List.mem_cons_self))
        exact absurd (by rw [x1]; exact List.mem_cons_self) (k x List.mem_cons_self).1
    have l2 : L.length = 2 := by rw [pm.length_eq, N0]; rfl
    obtain ⟨c, cI, c1, c2⟩ := whl_two w pI uI (Ne.symm up)
    have l3 : 3 ≤ I.length := by
      have := nd_len (l := [q, u, c]) (m := I) (by simp [up.symm, c1.symm, c2.symm]) fun x hx => by
        simp only [List.mem_cons, List.not_mem_nil, or_false] at hx
        rcases hx with rfl | rfl | rfl
        · exact pI
        · exact uI
        · exact cI
      exact this
    exact ⟨fun _ => Pr.refl uI up, fun _ => by omega⟩
  · have nL := h.nd (show [p, q].Nodup from List.nodup_cons.mpr ⟨fun z => e (List.mem_singleton.mp z).symm, List.nodup_cons.mpr ⟨List.not_mem_nil, List.nodup_nil⟩⟩)
    constructor
    · intro lt
      refine ⟨(· ∈ L), h.clo, h.sub p List.mem_cons_self, h.sub q (List.mem_cons_of_mem _ List.mem_cons_self), ?_⟩
      refine Classical.byContradiction fun no => ?_
      have := nd_len nI fun x hx => Classical.byContradiction fun k => no ⟨x, hx, k⟩
      exact absurd (this : I.length ≤ L.length) (by omega)
    · rintro ⟨M, a, b, c, z, z1, z2⟩
      refine ltLen nL inL z1 fun k => z2 (h.low M a (fun x hx => ?_) z k)
      rcases List.mem_cons.mp hx with e | e
      · rw [e]; exact b
      · rw [List.mem_singleton.mp e]; exact c
/-- the unlike classes found so far -/
structure ClsG (ts : List (Int × Int)) (I : List Int) (i : Nat) (G : List (List Int)) : Prop where
  src : ∀ S ∈ G, ∃ p ∈ I.take i, S = clsI ts I p
  got : ∀ p ∈ I.take i, clsI ts I p ∈ G
  nd : G.Nodup
  ord : Whl ts I → I.Pairwise (· < ·) → (∃ u v, u ∈ I ∧ v ∈ I ∧ u ≠ v) → G.Pairwise HdLt
theorem rise_hd {S : List Int} (r : S.Pairwise (· < ·)) {q : Int} (hq : q ∈ S) : ∃ s ∈ S, (∀ x ∈ S, s ≤ x) := by
  cases S with
  | nil => cases hq
  | cons a l =>
    refine ⟨a, List.mem_cons_self, fun x hx => ?_⟩
    rcases List.mem_cons.mp hx with e | e
    · omega
    · have := (List.pairwise_cons.mp r).1 x e; omega
theorem ClsG.start (ts : List (Int × Int)) (I : List Int) : ClsG ts I 0 [] := ⟨fun S h => absurd h List.not_mem_nil, fun p h => absurd h (by rw [List.take_zero]; exact List.not_mem_nil), List.nodup_nil, fun _ _ _ => .nil⟩
theorem ClsG.step {ts : List (Int × Int)} {I : List Int} {i : Nat} {G : List (List Int)} {p : Int} (h : ClsG ts I i G) (e : I[i]? = some p) : ClsG ts I (i + 1) (if clsI ts I p ∈ G then G else G ++ [clsI ts I p]) := by
  have st : I.take (i + 1) = I.take i ++ [p] := by rw [List.take_add_one, e]; rfl
  by_cases k : clsI ts I p ∈ G
  · rw [if_pos k]
    refine ⟨fun S hS => ?_, fun q hq => ?_, h.nd, h.ord⟩
    · obtain ⟨r, hr, e⟩ := h.src S hS
      exact ⟨r, by rw [st]; exact List.mem_append_left _ hr, e⟩
    · rw [st] at hq
      rcases List.mem_append.mp hq with z | z
      · exact h.got q z
      · rw [List.mem_singleton.mp z]; exact k
  · rw [if_neg k]
    refine ⟨fun S hS => ?_, fun q hq => ?_, ?_, fun w r two => ?_⟩
    · rcases List.mem_append.mp hS with z | z
      · obtain ⟨r, hr, e⟩ := h.src S z
        exact ⟨r, by rw [st]; exact List.mem_append_left _ hr, e⟩
      · exact ⟨p, by rw [st]; exact List.mem_append_right _ (List.mem_singleton.mpr rfl), List.mem_singleton.mp z⟩
    · rw [st] at hq
      rcases List.mem_append.mp hq with z | z
      · exact List.mem_append_left _ (h.got q z)
      · rw [List.mem_singleton.mp z]; exact List.mem_append_right _ (List.mem_singleton.mpr rfl)
    · rw [List.nodup_append]
      exact ⟨h.nd, List.nodup_cons.mpr ⟨List.not_mem_nil, List.nodup_nil⟩, fun a ha b hb e => k (by rw [List.mem_singleton.mp hb] at e; exact e ▸ ha)⟩
    · rw [List.pairwise_append]
      refine ⟨h.ord w r two, List.pairwise_singleton _ _, fun S hS T hT => ?_⟩
      rw [List.mem_singleton.mp hT]
      obtain ⟨q, hq, rfl⟩ := h.src S hS
      have qI := List.take_subset _ _ hq
      obtain ⟨u, v, uI, vI, uv⟩ := two
      have other : ∀ x : Int, ∃ z ∈ I, z ≠ x := fun x => by
        by_cases e : u = x
        · exact ⟨v, vI, fun z => uv (e.trans z.symm)⟩
        · exact ⟨u, uI, e⟩
      obtain ⟨z, zI, zq⟩ := other q
      have qq : q ∈ clsI ts I q := mem_clsI.mpr ⟨qI, Pr.refl zI zq⟩
      have rS : (clsI ts I q).Pairwise (· < ·) := r.sublist List.filter_sublist
      obtain ⟨s, s1, s2⟩ := rise_hd rS qq
      refine ⟨s, s1, s2, fun t ht => ?_⟩
      obtain ⟨tI, tp⟩ := mem_clsI.mp ht
      have pI := List.mem_of_getElem? e
      have sq := s2 q qq
      -- q is ahead of p, and t is not ahead of p
      obtain ⟨a, al, ea⟩ := List.mem_iff_getElem.mp hq
      rw [List.length_take] at al
      rw [List.getElem_take] at ea
      obtain ⟨hi, ep⟩ := List.getElem?_eq_some_iff.mp e
      have qp : q < p := by
        have := List.pairwise_iff_getElem.mp r a i (by omega) hi (by omega)
        rw [ea, ep] at this; exact this
      obtain ⟨c, cl, ec⟩ := List.mem_iff_getElem.mp tI
      have ic : i ≤ c := by
        refine Classical.byContradiction fun no => k ?_
        have tt : t ∈ I.take i := List.mem_iff_getElem.mpr ⟨c, by rw [List.length_take]; omega, by rw [List.getElem_take]; exact ec⟩
        rw [clsI_eq w pI tI tp]
        exact h.got t tt
      have pt : p ≤ t := by
        rcases Nat.eq_or_lt_of_le ic with z | z
        · subst z; rw [ep] at ec; omega
        · have := List.pairwise_iff_getElem.mp r i c hi cl z
          rw [ep, ec] at this; omega
      omega
theorem ClsG.len {ts : List (Int × Int)} {I : List Int} {i : Nat} {G : List (List Int)} (h : ClsG ts I i G) (il : i ≤ I.length) : G.length ≤ i := by
  haveI : DecidableEq (List Int) := inferInstance
  have := nd_len (m := (I.take i).map (clsI ts I)) h.nd fun S hS => by
    obtain ⟨p, hp, e⟩ := h.src S hS
    exact List.mem_map.mpr ⟨p, hp, e.symm⟩
  rw [List.length_map, List.length_take] at this
  omega
/-- a partition of I into rising lists, each lesser than I -/
structure PartI (I : List Int) (G : List (List Int)) : Prop where
  perm : G.flatten.Perm I
  ne : ∀ S ∈ G, S ≠ []
  rise : ∀ S ∈ G, S.Pairwise (· < ·)
  two : 2 ≤ G.length
theorem PartI.mem {I : List Int} {G : List (List Int)} (h : PartI I G) {S : List Int} (hS : S ∈ G) : ∀ x ∈ S, x ∈ I := fun x hx => h.perm.mem_iff.mp (List.mem_flatten.mpr ⟨S, hS, hx⟩)
theorem PartI.less {I : List Int} {G : List (List Int)} (h : PartI I G) {S : List Int} (hS : S ∈ G) : S.length < I.length := by
  have key : ∀ G : List (List Int), (∀ S ∈ G, S ≠ []) → 2 ≤ G.length → ∀ S ∈ G, S.length < G.flatten.length := fun G => by
    match G with
    | [] => intro _ l; exact absurd l (by decide)
    | [_] => intro _ l; exact absurd l (by simp)
    | A :: B :: G =>
      intro ne _ S hS
      rw [List.flatten_cons, List.length_append]
      have a := List.length_pos_iff.mpr (ne A List.mem_cons_self)
      have b := List.length_pos_iff.mpr (ne B (List.mem_cons_of_mem _ List.mem_cons_self))
      have bl : B.length ≤ (B :: G).flatten.length := by rw [List.flatten_cons, List.length_append]; omega
      rcases List.mem_cons.mp hS with e | e
      · rw [e]; omega
      · have : ∀ L : List (List Int), S ∈ L → S.length ≤ L.flatten.length := fun L => by
          induction L with
          | nil => intro h; cases h
          | cons C L ih =>
            intro h
            rw [List.flatten_cons, List.length_append]
            rcases List.mem_cons.mp h with z | z
            · rw [z]; omega
            · have := ih z; omega
        have := this _ e
        omega
  rw [← h.perm.length_eq]
  exact key G h.ne h.two S hS
theorem PartI.len {I : List Int} {G : List (List Int)} (h : PartI I G) : G.length ≤ I.length := by
  have key : ∀ G : List (List Int), (∀ S ∈ G, S ≠ []) → G.length ≤ G.flatten.length := fun G => by
    induction G with
    | nil => intro _; exact Nat.le_refl _
    | cons A G ih =>
      intro ne
      have a := List.length_pos_iff.mpr (ne A List.mem_cons_self)
      have := ih fun S h => ne S (List.mem_cons_of_mem _ h)
      rw [List.flatten_cons, List.length_append, List.length_cons]; omega
  rw [← h.perm.length_eq]
  exact key G h.ne
theorem rise_of {S : List Int} (s : S.Pairwise (· ≤ ·)) (n : S.Nodup) : S.Pairwise (· < ·) := (s.and (List.nodup_iff_pairwise_ne.mp n)).imp fun ⟨a, b⟩ => by omega
theorem nd_flat {G : List (List Int)} : G.flatten.Nodup ↔ (∀ S ∈ G, S.Nodup) ∧ G.Pairwise fun S T => ∀ x ∈ S, ∀ y ∈ T, x ≠ y := by
  rw [List.nodup_iff_pairwise_ne, List.pairwise_flatten]
  exact ⟨fun ⟨a, b⟩ => ⟨fun S hS => List.nodup_iff_pairwise_ne.mpr (a S hS), b⟩, fun ⟨a, b⟩ => ⟨fun S hS => List.nodup_iff_pairwise_ne.mp (a S hS), b⟩⟩
theorem sub_flat {G : List (List Int)} {S : List Int} (hS : S ∈ G) (n : G.flatten.Nodup) : S.Nodup := (nd_flat.mp n).1 S hS
theorem SetsI.part {ts : List (Int × Int)} {b : Bool} {I : List Int} {F : List (List Int)} (h : SetsI ts b I F) (nI : I.Nodup) (l : 1 < F.length) : PartI I F :=
  ⟨h.perm, h.ne, fun S hS => rise_of (h.srt S hS) (sub_flat hS (h.perm.nodup_iff.mpr nI)), l⟩
theorem ClsG.part {ts : List (Int × Int)} {I : List Int} {G : List (List Int)} (w : Whl ts I) (r : I.Pairwise (· < ·)) {u v : Int} (uI : u ∈ I) (vI : v ∈ I) (uv : u ≠ v) (h : ClsG ts I I.length G) : PartI I G := by
  have nI : I.Nodup := r.imp fun h => Int.ne_of_lt h
  rw [show ClsG ts I I.length G ↔ _ from Iff.rfl] at h
  have src : ∀ S ∈ G, ∃ p ∈ I, S = clsI ts I p := fun S hS => by
    obtain ⟨p, hp, e⟩ := h.src S hS
    exact ⟨p, by rwa [List.take_length] at hp, e⟩
  have got : ∀ p ∈ I, clsI ts I p ∈ G := fun p hp => h.got p (by rw [List.take_length]; exact hp)
  have oth : ∀ p ∈ I, ∃ q ∈ I, q ≠ p := fun p hp => by
    by_cases e : u = p
    · exact ⟨v, vI, fun z => uv (e.trans z.symm)⟩
    · exact ⟨u, uI, e⟩
  have own : ∀ p ∈ I, p ∈ clsI ts I p := fun p hp => by
    obtain ⟨q, hq, n⟩ := oth p hp
    exact mem_clsI.mpr ⟨hp, Pr.refl hq n⟩
  have nF : G.flatten.Nodup := by
    rw [nd_flat]
    refine ⟨fun S hS => ?_, ?_⟩
    · obtain ⟨p, _, rfl⟩ := src S hS
      exact nI.filter _
    · refine (List.nodup_iff_pairwise_ne.mp h.nd).imp_of_mem fun {S T} hS hT ne x hx y hy exy => ?_
      obtain ⟨p, hp, rfl⟩ := src S hS
      obtain ⟨q, hq, rfl⟩ := src T hT
      obtain ⟨xI, x1⟩ := mem_clsI.mp hx
      obtain ⟨_, x2⟩ := mem_clsI.mp (exy ▸ hy)
      exact ne (clsI_eq w hp hq (x1.trans w xI x2.symm))
  refine ⟨?_, fun S hS e => ?_, fun S hS => ?_, ?_⟩
  · refine (List.perm_ext_iff_of_nodup nF nI).mpr fun x => ?_
    rw [List.mem_flatten]
    constructor
    · rintro ⟨S, hS, hx⟩
      obtain ⟨p, _, rfl⟩ := src S hS
      exact (mem_clsI.mp hx).1
    · exact fun hx => ⟨_, got x hx, own x hx⟩
  · obtain ⟨p, hp, rfl⟩ := src S hS
    have := own p hp
    rw [e] at this; cases this
  · obtain ⟨p, _, rfl⟩ := src S hS
    exact r.filter _
  · obtain ⟨z, zI, nz⟩ := cls_lack w uI vI (Ne.symm uv)
    have n : clsI ts I u ≠ clsI ts I z := fun e => nz (by rw [e]; exact own z zI)
    match G, got u uI, got z zI with
    | [], h1, _ => cases h1
    | [S], h1, h2 => exact absurd ((List.mem_singleton.mp h1).trans (List.mem_singleton.mp h2).symm) n
    | _ :: _ :: _, _, _ => simp
end My

set_option Elab.async false
set_option linter.all false
set_option maxRecDepth 100000
namespace My
open PySem PySem.Spec PyProof.Rows L2 GxR
/-! what a part of a web comes apart into -/
theorem SetsI.mem_sub {ts : List (Int × Int)} {b : Bool} {I : List Int} {F G : List (List Int)} (f : SetsI ts b I F) (g : SetsI ts b I G) (nI : I.Nodup) {S : List Int} (hS : S ∈ F) : S ∈ G := by
  obtain ⟨x, xS⟩ := List.exists_mem_of_ne_nil _ (f.ne S hS)
  have xI := f.perm.mem_iff.mp (List.mem_flatten.mpr ⟨S, hS, xS⟩)
  obtain ⟨T, hT, xT⟩ := List.mem_flatten.mp (g.perm.mem_iff.mpr xI)
  have ST : ∀ y ∈ S, y ∈ T := f.con S hS (· ∈ T) (fun u _ v hv ut e => g.clo T hT u ut v hv e) x xS xT
  have TS : ∀ y ∈ T, y ∈ S := g.con T hT (· ∈ S) (fun u _ v hv ut e => f.clo S hS u ut v hv e) x xT xS
  have e : S = T := rise_ext (rise_of (f.srt S hS) (sub_flat hS (f.perm.nodup_iff.mpr nI))) (rise_of (g.srt T hT) (sub_flat hT (g.perm.nodup_iff.mpr nI))) fun y => ⟨ST y, TS y⟩
  rw [e]; exact hT
theorem SetsI.uniq {ts : List (Int × Int)} {b : Bool} {I : List Int} {F G : List (List Int)} (f : SetsI ts b I F) (g : SetsI ts b I G) (r : I.Pairwise (· < ·)) : F = G := by
  have nI : I.Nodup := r.imp fun h => Int.ne_of_lt h
  exact ord_ext (f.ord r) (g.ord r) fun S => ⟨f.mem_sub g nI, g.mem_sub f nI⟩
def KindX (ts : List (Int × Int)) (I : List Int) (w : Str) (Is : List (List Int)) : Prop :=
  (w = "apart" ∧ SetsI ts true I Is ∧ 1 < Is.length) ∨
  (w = "all" ∧ (∃ F, SetsI ts true I F ∧ ¬ 1 < F.length) ∧ SetsI ts false I Is ∧ 1 < Is.length) ∨
  (w = "close" ∧ (∃ F, SetsI ts true I F ∧ ¬ 1 < F.length) ∧ (∃ F, SetsI ts false I F ∧ ¬ 1 < F.length) ∧ ClsG ts I I.length Is)
theorem two_of {I : List Int} (r : I.Pairwise (· < ·)) (l : 2 ≤ I.length) : ∃ u v, u ∈ I ∧ v ∈ I ∧ u ≠ v := by
  match I, l, r with
  | a :: b :: l, _, r => exact ⟨a, b, List.mem_cons_self, List.mem_cons_of_mem _ List.mem_cons_self, Int.ne_of_lt ((List.pairwise_cons.mp r).1 b List.mem_cons_self)⟩
theorem ClsG.uniq {ts : List (Int × Int)} {I : List Int} {F G : List (List Int)} (w : Whl ts I) (r : I.Pairwise (· < ·)) (l : 2 ≤ I.length) (f : ClsG ts I I.length F) (g : ClsG ts I I.length G) : F = G := by
  refine ord_ext (f.ord w r (two_of r l)) (g.ord w r (two_of r l)) fun S => ⟨fun h => ?_, fun h => ?_⟩
  · obtain ⟨p, hp, rfl⟩ := f.src S h
    exact g.got p hp
  · obtain ⟨p, hp, rfl⟩ := g.src S h
    exact f.got p hp
theorem KindX.uniq {ts : List (Int × Int)} {I : List Int} {w w' : Str} {F G : List (List Int)} (r : I.Pairwise (· < ·)) (l : 2 ≤ I.length) (f : KindX ts I w F) (g : KindX ts I w' G) : w = w' ∧ F = G := by
  rcases f with ⟨rfl, f1, f2⟩ | ⟨rfl, ⟨F1, a1, a2⟩, f1, f2⟩ | ⟨rfl, ⟨F1, a1, a2⟩, ⟨F2, b1, b2⟩, f1⟩ <;> rcases g with ⟨rfl, g1, g2⟩ | ⟨rfl, ⟨G1, c1, c2⟩, g1, g2⟩ | ⟨rfl, ⟨G1, c1, c2⟩, ⟨G2, d1, d2⟩, g1⟩
  · exact ⟨rfl, f1.uniq g1 r⟩
  · exact absurd f2 (by rw [f1.uniq c1 r]; exact c2)
  · exact absurd f2 (by rw [f1.uniq c1 r]; exact c2)
  · exact absurd g2 (by rw [g1.uniq a1 r]; exact a2)
  · exact ⟨rfl, f1.uniq g1 r⟩
  · exact absurd f2 (by rw [f1.uniq d1 r]; exact d2)
  · exact absurd g2 (by rw [g1.uniq a1 r]; exact a2)
  · exact absurd g2 (by rw [g1.uniq b1 r]; exact b2)
  · exact ⟨rfl, ClsG.uniq (whl_of a1 b1 a2 b2) r l f1 g1⟩
theorem KindX.part {ts : List (Int × Int)} {I : List Int} {w : Str} {F : List (List Int)} (r : I.Pairwise (· < ·)) (l : 2 ≤ I.length) (f : KindX ts I w F) : PartI I F := by
  have nI : I.Nodup := r.imp fun h => Int.ne_of_lt h
  rcases f with ⟨rfl, f1, f2⟩ | ⟨rfl, _, f1, f2⟩ | ⟨rfl, ⟨F1, a1, a2⟩, ⟨F2, b1, b2⟩, f1⟩
  · exact f1.part nI f2
  · exact f1.part nI f2
  · obtain ⟨u, v, uI, vI, uv⟩ := two_of r l
    exact f1.part (whl_of a1 b1 a2 b2) r uI vI uv
theorem KindX.word {ts : List (Int × Int)} {I : List Int} {w : Str} {F : List (List Int)} (f : KindX ts I w F) : w ≠ "place" ∧ PyData.canLay0 (.str w) = true := by
  rcases f with ⟨rfl, _⟩ | ⟨rfl, _⟩ | ⟨rfl, _⟩
  · exact ⟨by decide, by decide +kernel⟩
  · exact ⟨by decide, by decide +kernel⟩
  · exact ⟨by decide, by decide +kernel⟩
theorem eqd_strX {m : Nat} {H : Hp} {i : Str} : Eqd m H (.str i) (.str i) := by
  cases m with
  | zero => exact ⟨rfl, .inr (.inr (.inr ⟨i, rfl⟩))⟩
  | succ m => exact .inl ⟨rfl, .inr (.inr (.inr ⟨i, rfl⟩))⟩
/-- the tree of the places I that stands somewhere -/
def TrX (ts : List (Int × Int)) (H : Hp) : Nat → V → List Int → Prop
  | 0, _, _ => False
  | m + 1, v, I => (∃ p i, v = .ref p ∧ H p = some (.tup [.str "place", .int i]) ∧ I = [i]) ∨
      ∃ (p q : Addr) (w : Str) (vs : List V) (Is : List (List Int)), v = .ref p ∧ H p = some (.tup [.str w, .ref q]) ∧ (I.Pairwise (· < ·) ∧ 2 ≤ I.length) ∧ KindX ts I w Is ∧ H q = some (.tup vs) ∧ All2 (TrX ts H m) vs Is
theorem TrX.mono {ts : List (Int × Int)} {H H' : Hp} (t : Tst H H') : ∀ {m : Nat} {v : V} {I : List Int}, TrX ts H m v I → TrX ts H' m v I
  | 0, _, _, h => h.elim
  | m + 1, v, I, h => by
    rcases h with ⟨p, i, e, a, b⟩ | ⟨p, q, w, vs, Is, e, a, b, k, c, d⟩
    · exact .inl ⟨p, i, e, t _ _ a, b⟩
    · exact .inr ⟨p, q, w, vs, Is, e, t _ _ a, b, k, t _ _ c, d.imp fun _ _ h => TrX.mono t h⟩
theorem TrX.ne {ts : List (Int × Int)} {H : Hp} : ∀ {m : Nat} {v : V} {I : List Int}, TrX ts H m v I → I ≠ []
  | 0, _, _, h => h.elim
  | m + 1, v, I, h => by
    rcases h with ⟨p, i, e, a, rfl⟩ | ⟨p, q, w, vs, Is, e, a, b, k, c, d⟩
    · intro z; cases z
    · intro z; rw [z] at b; exact absurd b.2 (by decide)
/-- two trees of the same places are the same -/
theorem TrX.eqd {ts : List (Int × Int)} {H : Hp} : ∀ {m k : Nat} {v u : V} {I : List Int}, TrX ts H m v I → TrX ts H k u I → I.length ≤ 10000 → Eqd (2 * m) H v u
  | 0, _, _, _, _, h, _, _ => h.elim
  | _ + 1, 0, _, _, _, _, h, _ => h.elim
  | m + 1, k + 1, v, u, I, h, g, l => by
    rcases h with ⟨p, i, rfl, a, rfl⟩ | ⟨p, q, w, vs, Is, rfl, a, ⟨r, l2⟩, kd, c, d⟩
    · rcases g with ⟨p', i', rfl, a', e⟩ | ⟨p', q', w', vs', Is', rfl, a', ⟨r', l2'⟩, kd', c', d'⟩
      · obtain rfl : i = i' := by cases e; rfl
        refine .inr ⟨p, p', _, _, rfl, rfl, .inl ⟨a, a'⟩, rfl, by show 2 ≤ 10000; decide, fun j x y e f => ?_⟩
        rw [e] at f
        cases f
        match j, e with
        | 0, e => cases e; exact eqd_strX
        | 1, e => cases e; exact Eqd.int
      · exact absurd l2' (by simp)
    · rcases g with ⟨p', i', rfl, a', e⟩ | ⟨p', q', w', vs', Is', rfl, a', _, kd', c', d'⟩
      · rw [e] at l2; exact absurd l2 (by simp)
      · obtain ⟨rfl, rfl⟩ := kd.uniq r l2 kd'
        have pt := kd.part r l2
        have ptl := pt.len
        have dl := d.len
        have dl' := d'.len
        refine .inr ⟨p, p', _, _, rfl, rfl, .inl ⟨a, a'⟩, rfl, by show 2 ≤ 10000; decide, fun j x y e f => ?_⟩
        match j, e, f with
        | 0, e, f => cases e; cases f; exact eqd_strX
        | 1, e, f =>
          cases e; cases f
          show Eqd (2 * m + 1) H (.ref q) (.ref q')
          refine .inr ⟨q, q', vs, vs', rfl, rfl, .inl ⟨c, c'⟩, by rw [dl, dl'], by omega, fun j x y ex ey => ?_⟩
          obtain ⟨S, eS, hS⟩ := d.at ex
          obtain ⟨S', eS', hS'⟩ := d'.at ey
          rw [eS] at eS'
          cases eS'
          have less := pt.less (List.mem_of_getElem? eS)
          exact TrX.eqd hS hS' (by omega)
end My

set_option Elab.async false
set_option linter.all false
set_option maxRecDepth 100000
set_option pp.maxSteps 400
set_option maxHeartbeats 4000000
namespace My
open PySem PySem.Spec PyProof.Rows L2 GxR
/-- a tree of the places of I that stands somewhere -/
def TrAt (H : Hp) : Nat → V → List Int → Prop
  | 0, _, _ => False
  | m + 1, v, I => (∃ p i, v = .ref p ∧ H p = some (.tup [.str "place", .int i]) ∧ I = [i]) ∨
      ∃ (p q : Addr) (w : Str) (vs : List V) (Is : List (List Int)), v = .ref p ∧ H p = some (.tup [.str w, .ref q]) ∧ (w ≠ "place" ∧ PyData.canLay0 (.str w) = true) ∧ H q = some (.tup vs) ∧ All2 (TrAt H m) vs Is ∧ PartI I Is
theorem TrAt.mono {H H' : Hp} (t : Tst H H') : ∀ {m : Nat} {v : V} {I : List Int}, TrAt H m v I → TrAt H' m v I
  | 0, _, _, h => h.elim
  | m + 1, v, I, h => by
    rcases h with ⟨p, i, e, a, b⟩ | ⟨p, q, w, vs, Is, e, a, b, c, d, f⟩
    · exact .inl ⟨p, i, e, t _ _ a, b⟩
    · exact .inr ⟨p, q, w, vs, Is, e, t _ _ a, b, t _ _ c, d.imp fun _ _ h => TrAt.mono t h, f⟩
theorem TrX.at {ts : List (Int × Int)} {H : Hp} : ∀ {m : Nat} {v : V} {I : List Int}, TrX ts H m v I → TrAt H m v I
  | 0, _, _, h => h.elim
  | m + 1, v, I, h => by
    rcases h with ⟨p, i, e, a, b⟩ | ⟨p, q, w, vs, Is, e, a, b, k, c, d⟩
    · exact .inl ⟨p, i, e, a, b⟩
    · exact .inr ⟨p, q, w, vs, Is, e, a, k.word, c, d.imp fun _ _ h => TrX.at h, k.part b.1 b.2⟩
theorem lsn_dp {K : PySem.W.Frag} {H : Hp} {bad : List Addr} : ∀ {us : List V} {G : List (List Int)}, All2 (LsN bad H) us G → DpAll K H us (G.map dI)
  | [], [], _ => .nil
  | _ :: _, _ :: _, h => by
    obtain ⟨q, rfl, _, e⟩ := h.1
    exact .cons (.lst (SqL.of e) (dpI _)) (lsn_dp h.2)
  | [], _ :: _, h => h.elim
  | _ :: _, [], h => h.elim
theorem any_dIs (G : List (List Int)) (c : List Int) : ((G.map dI).any fun z => PyData.eqv z (dI c)) = decide (c ∈ G) := by
  induction G with
  | nil => rfl
  | cons d G ih =>
    rw [List.map_cons, List.any_cons, ih, eqv_dI2]
    by_cases h : d = c
    · subst h; simp
    · have h' : ¬ c = d := fun z => h z.symm
      simp [h, h']
theorem shaped_dIs (G : List (List Int)) : SeqAt.shaped (.list (G.map dI)) = true := by
  unfold SeqAt.shaped
  rw [Bool.and_eq_true, decide_eq_true_eq]
  constructor
  · show PyData.canLayAll0 (G.map dI) = true
    induction G with
    | nil => rfl
    | cons a l ih =>
      rw [List.map_cons, PyData.canLayAll0, ih]
      have : (dI a).canLay0 = true := by
        have := shaped_dI a
        unfold SeqAt.shaped at this
        rw [Bool.and_eq_true] at this
        exact this.1
      rw [this]; rfl
  · show PyData.depthAll (G.map dI) + 1 ≤ 64
    have : PyData.depthAll (G.map dI) ≤ 63 := by
      induction G with
      | nil => exact Nat.zero_le _
      | cons a l ih =>
        rw [List.map_cons, PyData.depthAll]
        have : (dI a).depth ≤ 63 := by
          unfold dI
          rw [PyData.depth]
          have : PyData.depthAll (a.map PyData.int) = 0 := by
            induction a with
            | nil => rfl
            | cons x a ih2 => rw [List.map_cons, PyData.depthAll, ih2]; rfl
          omega
        omega
    omega
section
variable {P : Program} {w : World} {K : PySem.W.Frag} {mg : Str → Option Value} {base : Heap}
end
end My

set_option Elab.async false
set_option linter.all false
set_option maxRecDepth 100000
set_option maxHeartbeats 2000000
namespace My
open PySem PySem.Spec PyProof.Rows L2 GxR GenW
/-! any(e for tg in iter): as all (Ge2, Ge3, A3), the other way round -/
section
variable {prog : Program} {w : World} {A : Around} {R : Result → Shared → Prop} {a : Addr} {g : Nat} {St : Nat → Shared → Prop} {En : Shared → Prop} {Yl : Nat → Value → Shared → Prop}
theorem anyG_loop (hh : A.handled = none) (hd : A.in1.depth < recursionLimit)
    (hen : ∀ s₁ h', En s₁ → (∀ b o, s₁.heap.get? b = some o → h'.get? b = some o) → R (.ok (.ret (.bool false))) { s₁.setGen g .finished with heap := h' })
    (hyl : ∀ m v s₁ gs', gs'.bare = true → Yl m v s₁ → (v = .bool true ∧ R (.ok (.ret (.bool true))) (s₁.setGen g gs')) ∨
      (v = .bool false ∧ (s₁.setGen g gs').heap.NoLimit ∧ (s₁.setGen g gs').heap.IsGen a g ∧ ∃ m', m' < m ∧ St m' ((s₁.setGen g gs').setGen g .running))) :
    ∀ (n : Nat) (s : Shared), s.heap.NoLimit → s.heap.IsGen a g →
      (∃ gs, s.gens[g]? = some gs ∧ gs.Goes (model prog w) A.in1.in1 (fun _ _ r s₁ => r = .ok .next ∧ En s₁) (protoG St Yl) n (.send .none) (s.setGen g .running)) →
      codeAny (model prog w) A (.builtin "any.loop" ⟨[.ref a], []⟩) R s := by
  intro n
  induction n with
  | zero =>
    rintro s hl hg ⟨gs, hgs, hgo⟩
    refine codeAny_builtin F.entry_any_loop ?_
    rw [Around.under_plainId F.plain_any_loop _]
    show wpAny _ A.in1 (pyNext (.ref a) >>= _) _ _ s
    refine wpAny_bind (wpAny_pyNext_genexpQ (P := fun _ _ s₁ => En s₁) hh hl hd hg hgs hgo (fun v s₁ gs' hb hY => ?_) (fun s₁ hP h' hk => ?_))
    · obtain ⟨⟨m, hm, hy⟩, _⟩ := hY
      rcases hyl m v s₁ gs' hb hy with ⟨rfl, hR⟩ | ⟨_, _, _, m', hm', _⟩
      · refine wpAny_bind (wpAny_holding (wpAny_truthy_bool ?_))
        refine wpAny_bind (wpAny_letGo ?_)
        simp only [if_true]
        exact wpAny_bind (wpAny_rule (wpAny_pure hR))
      · omega
    · exact wpAny_bind (wpAny_rule (wpAny_pure (hen s₁ h' hP hk)))
  | succ n ih =>
    rintro s hl hg ⟨gs, hgs, hgo⟩
    refine codeAny_builtin F.entry_any_loop ?_
    rw [Around.under_plainId F.plain_any_loop _]
    show wpAny _ A.in1 (pyNext (.ref a) >>= _) _ _ s
    have hsz : g + 1 ≤ s.gens.size := by
      rcases Nat.lt_or_ge g s.gens.size with z | z
      · exact z
      · rw [Array.getElem?_eq_none z] at hgs; cases hgs
    refine wpAny_bind (wpAny_gsz hsz (wpAny_pyNext_genexpQ (P := fun _ _ s₁ => En s₁) hh hl hd hg hgs hgo (fun v s₁ gs' hb hY hn => ?_) (fun s₁ hP h' hk _ => ?_)))
    · obtain ⟨⟨m, hm, hy⟩, hres⟩ := hY
      rcases hyl m v s₁ gs' hb hy with ⟨rfl, hR⟩ | ⟨rfl, hl', hg', m', hm', hst⟩
      · refine wpAny_bind (wpAny_holding (wpAny_truthy_bool ?_))
        refine wpAny_bind (wpAny_letGo ?_)
        simp only [if_true]
        exact wpAny_bind (wpAny_rule (wpAny_pure hR))
      · refine wpAny_bind (wpAny_holding (wpAny_truthy_bool ?_))
        refine wpAny_bind (wpAny_letGo ?_)
        simp only [Bool.false_eq_true, if_false]
        have hm : m ≤ n := hm
        refine wpAny_pure ⟨plainId_quiet F.plain_any_loop _, ih _ hl' hg' ⟨gs', ?_, hres _ m' (by omega) hst⟩⟩
        have hn' : g < s₁.gens.size := by
          rw [setGen_size] at hn; exact hn
        show (s₁.gens.setIfInBounds g gs')[g]? = some gs'
        rw [Array.getElem?_setIfInBounds_self, if_pos hn']
    · exact wpAny_bind (wpAny_rule (wpAny_pure (hen s₁ h' hP hk)))
end
theorem anyG_it {J : It} {n : Nat} {G : Hp → Prop} {Y : Nat → Hp → V → Hp → Prop} (w : Walk J n G Y) {g : TG} {te : TE} {vs : List Nat} {σ : L2.St} {H0 : Hp} {QT QF : Hp → Prop} (Pv : Nat → Hp → Prop) (h0 : Pv 0 H0) (hG : ∀ i H, i ≤ n → Pv i H → G H)
    (hs : ∀ i x H H', i < n → Pv i H → Y i H x H' → g x (wipe σ vs) H' fun σ2 H2 => wipe σ2 vs = wipe σ vs ∧ te σ2 H2 fun y H3 => ∃ b, y = .bl b ∧ if b = true then QF H3 else Pv (i + 1) H3)
    (hd : ∀ H, Pv n H → QT H) :
    ∃ W : Nat → Nat → Hp → Prop, (∃ m, W 0 m H0) ∧ ∀ i m H, W i m H → (J.stop i H ∧ QT H) ∨
      (J.go i H ∧ ∃ Nx : Hp → Prop, (∀ H', Nx H' → ∃ m', m' < m ∧ W (i + 1) m' H') ∧ ∀ x H', J.yld i H x H' → g x (wipe σ vs) H' fun σ2 H2 => wipe σ2 vs = wipe σ vs ∧
        te σ2 H2 fun y H3 => ∃ b, y = .bl b ∧ if b = true then QF H3 else Nx H3) := by
  refine ⟨fun i m H => m = n - i ∧ i ≤ n ∧ Pv i H, ⟨n, rfl, Nat.zero_le _, h0⟩, ?_⟩
  rintro i m H ⟨rfl, hi, p⟩
  have q := hG i H hi p
  by_cases hlt : i < n
  · exact .inr ⟨w.goes i H hlt q, Pv (i + 1), fun H' p' => ⟨n - (i + 1), by omega, rfl, hlt, p'⟩, fun x H' y => hs i x H H' hlt p (w.yields i H x H' hlt q y)⟩
  · have e : i = n := by omega
    subst e
    exact .inl ⟨w.stops H q, hd H p⟩
/-- any(e for tg in iter) -/
def tAnyG (P : Addr) (wi : TI) (g : TG) (te : TE) (vs : List Nat) : TE := fun σ H Q => wi σ H fun J H1 => TabG H1 P ∧ ∀ H2, Tabbed P H1 H2 →
  ∃ W : Nat → Nat → Hp → Prop, (∃ m, W 0 m H2) ∧ ∀ i m H, W i m H → (J.stop i H ∧ Q (.bl false) H) ∨
    (J.go i H ∧ ∃ Nx : Hp → Prop, (∀ H', Nx H' → ∃ m', m' < m ∧ W (i + 1) m' H') ∧ ∀ x H', J.yld i H x H' → g x (wipe σ vs) H' fun σ2 H2 => wipe σ2 vs = wipe σ vs ∧
      te σ2 H2 fun y H3 => ∃ b, y = .bl b ∧ if b = true then Q (.bl true) H3 else Nx H3)

section
variable {X : Cx}
theorem pe_anyG {c P : Addr} {elt tg iter : Expr} {p pos gpos : Pos} {scope : Scope} {own : List (Str × Nat)} {wi : TI} {g : TG} {te : TE} {k : Nat}
    (hc : X.calm = true) (hN : X.N.Nodup) (hr : Room (k + 1) X.A) (hgl : Gl X "any") (hm : X.mg "any" = none) (TB : TabB X.base X.mg c P) (hcode : X.env.code = .ref c)
    (S : GsOk scope) (ok : BlkOk X.N X.env.scope scope own) (hi : PI X tg iter wi)
    (hg : ∀ A' s H C code fp pn, PG (gcx X A' s H (gEnv X scope C code) fp pn) tg g)
    (he : ∀ A' s H C code fp pn, Room k A' → PE (gcx X A' s H (gEnv X scope C code) fp pn) elt te)
    (hs : ∀ v, genFold iter X.env v = pure v := by intro _; rfl)
    (h1 : starEach [.GeneratorExp elt [⟨tg, iter, [], 0⟩] scope gpos] X.env = (false, eval (.GeneratorExp elt [⟨tg, iter, [], 0⟩] scope gpos) X.env) :: starEach [] X.env := by rfl) :
    PE X (.Call (.Name "any" p) [.GeneratorExp elt [⟨tg, iter, [], 0⟩] scope gpos] [] pos) (tAnyG P wi g te (own.map (·.2))) := by
  refine ⟨fun pins s σ H Q I h => ?_⟩
  refine wpAny_Call_Name_kw (ld_blt I hgl hm boot_any ?_)
  refine PyProof.Rows.callWith_builtin1 ?_ h1 (by rfl)
  rw [h1]
  show wpAny _ _ (spliced ((false, eval (.GeneratorExp elt [⟨tg, iter, [], 0⟩] scope gpos) X.env) :: backTo pos (starEach [] X.env))) _ _ s
  refine Calls.spliced_cons (gen_mk hr TB hcode S ok hi hs I h fun J H1 H2 it fp tn s4 s5 C a code gi x y q M => ?_)
  refine Calls.spliced_nil ?_
  obtain ⟨W, ⟨m0, w0⟩, turn⟩ := q H2 M.tab
  have hX : X.A.handled = none := M.inv.ok.hd hc
  have I5 : Inv (gcx X (gA X elt tg iter scope gpos it C code) s4 H2 (gEnv X scope C code) fp [(a, genObj gi x y)]) [] (wipe σ (own.map (·.2))) H2 s5 :=
    gen_inv M.inv ok hN S M.fp M.c hX (gA_frames M.inv.ok.frames) M.kp M.ns M.os M.bare fun p hp => by
      rw [List.mem_singleton.mp hp]
      exact ⟨M.obj, M.lt, fun v e => by cases e⟩
  have pg := hg (gA X elt tg iter scope gpos it C code) s4 H2 C code fp [(a, genObj gi x y)]
  have pe := he (gA X elt tg iter scope gpos it C code) s4 H2 C code fp [(a, genObj gi x y)] (gA_room hr)
  have T := M.tu
  generalize hY : gcx X (gA X elt tg iter scope gpos it C code) s4 H2 (gEnv X scope C code) fp [(a, genObj gi x y)] = Y at I5 pg pe
  have stat : ∀ {σ' : L2.St} {H' : Hp} {s' : Shared}, Inv Y [] σ' H' s' → (∀ b ∈ fp, H' b = none) → ∀ b ∈ fp, FpOk Y [] H' b := fun {σ' H' s'} I' hn b hb => by
    subst hY
    refine ⟨hn b hb, (I'.ok.exf b hb).1, I'.ok.exfs b hb, .inl hb, fun x c e => (I'.ok.exf b hb).2 x c e, fun p hp => ?_⟩
    have hp : p ∈ [(a, genObj gi x y)] ++ ([] : List (Addr × Obj)) := hp
    rw [List.append_nil] at hp
    rw [List.mem_singleton.mp hp]
    have h2 := (M.fp b hb).2
    have h3 := M.lt
    exact Nat.ne_of_gt (Nat.lt_trans h2 h3)
  have obj : ∀ {σ' : L2.St} {H' : Hp} {s' : Shared}, Inv Y [] σ' H' s' → s'.heap.IsGen a gi := fun {σ' H' s'} I' => by
    subst hY
    exact ⟨_, x, y, (I'.pin (a, genObj gi x y) (List.mem_append_left _ (List.mem_singleton.mpr rfl))).1, rfl, rfl, rfl⟩
  have back : ∀ {σ' : L2.St} {H' : Hp} {s' : Shared}, Inv Y [] σ' H' s' → Inv X pins σ H' s' := fun {σ' H' s'} I' => by
    subst hY
    exact M.inv.call' (ch := fp) I'.os I'.base I'.hok I'.bare fun b hb => ⟨(M.fp b hb).1.2.2.2.1, (M.fp b hb).1.2.1, (M.fp b hb).1.2.2.2.2.1, (M.fp b hb).1.2.2.2.2.2⟩
  have seg := seg_loopG (prog := X.prog) (w := X.w) (A := X.A.in1.in1) (elt := elt) (tg := tg) (iter := iter) (scope := scope) (pos := gpos) (it := it) (cenv := gEnv X scope C code) S.co
    (fun m s => ∃ i H', Inv Y [] (wipe σ (own.map (·.2))) H' s ∧ tn i s.heap ∧ (∀ b ∈ fp, H' b = none) ∧ W i m H')
    (fun s => ∃ H', Inv Y [] (wipe σ (own.map (·.2))) H' s ∧ Q (.bl false) H')
    (fun m v s => ∃ i H' b, v = .bool b ∧ Inv Y [] (wipe σ (own.map (·.2))) H' s ∧ tn i s.heap ∧ (∀ b ∈ fp, H' b = none) ∧ if b = true then Q (.bl true) H' else ∃ m', m' < m ∧ W i m' H') ?_
  · have hl5 : s5.heap.NoLimit := I5.nolimit
    refine call_function_tree F.kind_any F.plain_any F.entry_any (F.args_any1 _) ?_
    unfold Builtin.«any»
    refine wpAny_bind (m := oneArg "any" _) (wpAny_pure ?_)
    refine wpAny_bind (wpAny_pyIter_gen (obj I5) ?_)
    refine wpAny_pure ⟨plainId_quiet F.plain_any_loop _, ?_⟩
    refine anyG_loop (g := gi) (n := m0 + 1) (St := fun m s => ∃ i H', Inv Y [] (wipe σ (own.map (·.2))) H' s ∧ tn i s.heap ∧ (∀ b ∈ fp, H' b = none) ∧ W i m H')
      (En := fun s => ∃ H', Inv Y [] (wipe σ (own.map (·.2))) H' s ∧ Q (.bl false) H')
      (Yl := fun m v s => ∃ i H' b, v = .bool b ∧ Inv Y [] (wipe σ (own.map (·.2))) H' s ∧ tn i s.heap ∧ (∀ b ∈ fp, H' b = none) ∧ if b = true then Q (.bl true) H' else ∃ m', m' < m ∧ W i m' H')
      hX (by have := hr.dp; show X.A.depth < _; omega) ?_ ?_ s5 hl5 (obj I5) ⟨_, M.gs, rfl, ?_⟩
    · rintro s₁ h' ⟨H', I', qq⟩ hk
      have I6 := inv_setGen (g := gi) (x := .finished) I' rfl
      have I7 := (back I6).kept (t' := s₁.toks) hk
      exact ⟨.bl false, H', I7, rfl, qq⟩
    · rintro m v s₁ gs' hb ⟨i, H', b, rfl, I', st', n', q'⟩
      have I6 := inv_setGen (g := gi) I' hb
      cases b with
      | true => exact .inl ⟨rfl, .bl true, H', back I6, rfl, q'⟩
      | false =>
        obtain ⟨m', hm', w'⟩ : ∃ m', m' < m ∧ W i m' H' := q'
        exact .inr ⟨rfl, I6.nolimit, obj I6, m', hm', i, H', inv_setGen I6 rfl, st', n', w'⟩
    · -- the start
      have I6 : Inv Y [] (wipe σ (own.map (·.2))) H2 (s5.setGen gi .running) := inv_setGen I5 rfl
      have st5 : tn 0 (s5.setGen gi .running).heap := T.keep _ _ _ M.st fun b _ o e => M.kp b o e
      have loop := seg (m0 + 1) m0 (s5.setGen gi .running) (s5.setGen gi .running) (Nat.lt_succ_self _) ⟨0, H2, I6, st5, fun b hb => (M.fp b hb).1.1, w0⟩
      show Seg _ X.A.in1.in1 _ _ _ _ _ ((compStart (.GeneratorExp elt [⟨tg, iter, [], 0⟩] scope gpos) 0 (.ref it) .none (gEnv X scope C code)).onRaise (leaving (gEnv X scope C code))) [] _
      unfold compStart
      rw [Sem.onRaise_eq_wrap]
      show Seg _ X.A.in1.in1 _ _ _ _ _ ((ask >>= _).wrap _ _ _ _) [] _
      refine seg_bind_wrap (wpAny_askSetting ?_)
      split
      · exact seg_again rfl loop
      · refine seg_bind_wrap (wpAny_rule ?_)
        show Seg _ X.A.in1.in1 _ _ _ _ _ ((standAt iter.pos >>= _).wrap _ _ _ _) [] _
        exact seg_bind_wrap (wpAny_standAt (seg_bind_wrap (T.self _ 0 _ _ _ st5 (seg_again rfl loop))))
  · rintro m s6 ⟨i, H', I', st', n', w'⟩
    rcases turn i m H' w' with ⟨stop, qq⟩ | ⟨go, Nx, hNx, step⟩
    · have td := T.done Y (by subst hY; rfl) (by subst hY; rfl) (by subst hY; rfl) (by subst hY; rfl) i [] s6 _ H' (fun _ _ => False) I' (stat I' n') st' stop
      subst hY
      refine wpAny_mono td (fun r s7 ⟨hr7, I7⟩ => ?_) fun _ _ e => e
      subst hr7
      exact ⟨H', I7, qq⟩
    · have ti := T.item Y (by subst hY; rfl) (by subst hY; rfl) (by subst hY; rfl) (by subst hY; rfl) i [] s6 _ H' (fun _ _ => False) I' (stat I' n') st' go
      subst hY
      refine wpAny_mono ti (fun r s7 ⟨u, hr7, h7⟩ => ?_) fun _ _ e => e
      subst hr7
      refine wpAny_mono h7 (fun _ s8 ⟨xv, H8, I8, r8, y8, st8, n8⟩ => ?_) fun _ _ e => e
      have I8' := I8.pinned (stat I8 n8) (T.obj _ _ st8)
      refine wpAny_mono (pg.run _ s8 _ H8 xv u _ I8' r8 (step xv H8 y8)) (fun _ s9 ⟨σ9, H9, I9, hw9, q9⟩ => ?_) fun _ _ e => e
      refine wpAny_mono (pe.run _ s9 σ9 H9 _ I9 q9) (fun v s10 ⟨yv, H10, I10, r10, b, eb, q10⟩ => ?_) fun _ _ e => e
      subst eb
      cases r10
      have pin' : ∀ b ∈ fp, ∀ o, s8.heap.get? b = some o → s10.heap.get? b = some o ∧ H10 b = none := fun b hb o e =>
        let z := I10.pin (b, o) (List.mem_append_right _ (List.mem_append_right _ (mem_pinsAt hb e)))
        ⟨z.1, z.2.1⟩
      have hl : (wipe σ (own.map (·.2))).length = σ9.length := by rw [← hw9, wipe_length]
      refine ⟨i + 1, H10, b, rfl, (I10.unpinned (pins := [])).weak hl (fun j v e => ?_), T.keep _ _ _ st8 fun b hb o e => (pin' b hb o e).1, fun b hb => ?_, ?_⟩
      · rw [← hw9] at e
        exact (wipe_some e).1
      · obtain ⟨o, e, _⟩ := T.obj _ _ st8 b hb
        exact (pin' b hb o e).2
      · cases b with
        | true => exact q10
        | false => exact hNx H10 q10
end
end My

set_option Elab.async false
set_option linter.all false
set_option maxRecDepth 100000
namespace My
open PySem PySem.Spec PyProof.Rows L2 GxR
open PySem.W (dataLt AllAlike Sortable sorted_data EachIs dataLe sort_pairwise sortLe_total)

/-! ### sorted(xs), xs a list of objects that are data -/
def rSortedD (K : PySem.W.Frag) : List V → Hp → VK → Prop := fun vs H Q => ∃ (a : Addr) (bs : List (V × PyData)), vs = [.ref a] ∧ SqL K H a (bs.map (·.1)) ∧ (∀ b ∈ bs, (∃ p, b.1 = .ref p) ∧ Dp K H b.1 b.2 ∧ b.2.depth ≤ 50) ∧
  AllAlike (bs.map (·.2)) ∧ Sortable (bs.map (·.2)) ∧
  ∀ (ys : List (V × PyData)) (p : Addr), ys.Perm bs → ys.Pairwise (fun x y => dataLt y.2 x.2 = false) → H p = none → Q (.ref p) (upd H p (.lst (ys.map (·.1))))
abbrev BkR : Value → V × PyData → Prop := fun v b => (∃ p, v = Value.ref p) ∧ b.1 = backV v
theorem each_bk : ∀ {bs : List (V × PyData)} {its : List Value}, Vals (bs.map (·.1)) its → (∀ b ∈ bs, ∃ p, b.1 = .ref p) → EachIs BkR its bs
  | [], _, .nil, _ => .nil
  | (x, d) :: bs, _, .cons r t, h => by
    obtain ⟨p, e⟩ := h _ List.mem_cons_self
    dsimp only at e
    subst e
    cases r
    exact .cons ⟨⟨_, rfl⟩, rfl⟩ (each_bk t fun b hb => h b (List.mem_cons_of_mem _ hb))
theorem each_out : ∀ {bs : List (V × PyData)} {out : List Value}, EachIs BkR out bs → bs.map (·.1) = out.map backV ∧ ∀ u ∈ out, ∃ p, u = Value.ref p
  | _, _, .nil => ⟨rfl, fun u hu => absurd hu List.not_mem_nil⟩
  | _, _, .cons h t => by
    obtain ⟨e1, e2⟩ := each_out t
    refine ⟨by rw [List.map_cons, List.map_cons, h.2, e1], fun u hu => ?_⟩
    rcases List.mem_cons.mp hu with rfl | hu
    · exact h.1
    · exact e2 u hu
section
variable {X : Cx}
theorem each_rd {pins : List (Addr × Obj)} {σ : L2.St} {H : Hp} {s : Shared} (I : Inv X pins σ H s) : ∀ {bs : List (V × PyData)} {its : List Value}, Vals (bs.map (·.1)) its → (∀ b ∈ bs, Dp X.K H b.1 b.2) → EachIs (fun v (b : V × PyData) => ∃ as, Reads s.heap v b.2 as) its bs
  | [], _, .nil, _ => .nil
  | b :: bs, _, .cons r t, h => .cons (Dp.reads I b.2 b.1 _ (h b List.mem_cons_self) r) (each_rd I t fun c hc => h c (List.mem_cons_of_mem _ hc))
theorem cr_sortedD (hu : X.A.units + 65 < cLine) : CallR X (.builtin "sorted") (rSortedD X.K) := by
  rintro pins s σ H vs us Q I r ⟨a, bs, rfl, ha, hb, al, so, q⟩
  obtain ⟨u, rfl, ru⟩ := vals1 r
  obtain rfl : u = Value.ref a := ru
  obtain ⟨its, rv, hl, hz⟩ := I.list ha
  have ll : its.length = bs.length := by rw [← rv.length, List.length_map]
  have hz' : bs.length ≤ sizeLine := by rw [List.length_map] at hz; exact hz
  refine sorted_data (enc := Prod.snd) (R := BkR) (bs := bs) hl.isList (each_bk rv fun b z => (hb b z).1) (each_rd I rv fun b z => (hb b z).2.1) al so hz' (fun b z => ?_) fun out ol eo => ?_
  · have := (hb b z).2.2
    omega
  · obtain ⟨e1, e2⟩ := each_out eo
    obtain ⟨ep, he'⟩ := PyProof.Rows.sortedAll_at s.heap its out.toArray
    have hn : H (s.heap.objs.size + 1) = none := I.hok.fresh (Nat.le_succ _)
    refine ⟨.ref _, upd H (s.heap.objs.size + 1) (.lst ((bs.mergeSort (dataLe false Prod.snd)).map (·.1))), I.laid (t' := s.toks) (fun _ _ => PyProof.Rows.sortedAll_old) (Nat.le_succ _) ⟨?_, out, ep, ?_, he'⟩, rfl, q _ _ (List.mergeSort_perm bs _) ?_ hn⟩
    · rw [List.length_map, (List.mergeSort_perm bs _).length_eq]; exact hz'
    · rw [e1]; exact vals_back e2
    · refine (sort_pairwise (sortLe_total _ _ _) bs).imp fun {x y} h => ?_
      have h' : (!dataLt y.2 x.2) = true := h
      simpa using h'
end
end My

set_option Elab.async false
set_option linter.all false
set_option maxRecDepth 100000
namespace My
open PySem PySem.Spec PyProof.Rows L2 GxR
open PySem.W (dataLt AllAlike Sortable alike alikeAll keyToks keyToksAll lex_atom lex_one)
/-! ### sets joined place by place -/
structure JP (ts : List (Int × Int)) (I : List Int) (i : Nat) (G : List (List Int)) : Prop where
  perm : G.flatten.Perm (I.take i)
  ne : ∀ S ∈ G, S ≠ []
  clo : ∀ S ∈ G, ∀ x ∈ S, ∀ y ∈ I.take i, adjB ts x y = true → y ∈ S
  con : ∀ S ∈ G, ∀ A : Int → Prop, ClR ts true I A → ∀ x ∈ S, A x → ∀ y ∈ S, A y
def njB (ts : List (Int × Int)) (p : Int) (S : List Int) : Bool := S.any (adjB ts p)
def nrG (ts : List (Int × Int)) (p : Int) (G : List (List Int)) : List (List Int) := G.filter (njB ts p)
def frG (ts : List (Int × Int)) (p : Int) (G : List (List Int)) : List (List Int) := G.filter fun S => !njB ts p S
theorem nr_fr_perm (ts : List (Int × Int)) (p : Int) (G : List (List Int)) : (frG ts p G ++ nrG ts p G).Perm G := by
  unfold frG nrG
  induction G with
  | nil => exact List.Perm.refl _
  | cons S G ih =>
    rw [List.filter_cons, List.filter_cons]
    cases h : njB ts p S with
    | true =>
      simp only [Bool.not_true, Bool.false_eq_true, if_false, if_true]
      exact List.perm_middle.trans (ih.cons S)
    | false =>
      simp only [Bool.not_false, Bool.false_eq_true, if_false, if_true, List.cons_append]
      exact ih.cons S
theorem JP.start (ts : List (Int × Int)) (I : List Int) : JP ts I 0 [] := ⟨List.Perm.refl _, fun S h => absurd h List.not_mem_nil, fun S h => absurd h List.not_mem_nil, fun S h => absurd h List.not_mem_nil⟩
theorem JP.len {ts : List (Int × Int)} {I : List Int} {i : Nat} {G : List (List Int)} (h : JP ts I i G) : G.length ≤ i ∧ G.flatten.length ≤ i := by
  have key : ∀ G : List (List Int), (∀ S ∈ G, S ≠ []) → G.length ≤ G.flatten.length := fun G => by
    induction G with
    | nil => intro _; exact Nat.le_refl _
    | cons A G ih =>
      intro ne
      have a := List.length_pos_iff.mpr (ne A List.mem_cons_self)
      have := ih fun S h => ne S (List.mem_cons_of_mem _ h)
      rw [List.flatten_cons, List.length_append, List.length_cons]; omega
  have a := key G h.ne
  have b := h.perm.length_eq
  rw [List.length_take] at b
  omega
theorem JP.step {ts : List (Int × Int)} {I : List Int} {i : Nat} {G : List (List Int)} {p : Int} (h : JP ts I i G) (e : I[i]? = some p) : JP ts I (i + 1) (frG ts p G ++ [(nrG ts p G).flatten ++ [p]]) := by
  have st : I.take (i + 1) = I.take i ++ [p] := by rw [List.take_add_one, e]; rfl
  have pI := List.mem_of_getElem? e
  have fm : ∀ S, S ∈ frG ts p G ↔ S ∈ G ∧ njB ts p S = false := fun S => by
    unfold frG; rw [List.mem_filter, Bool.not_eq_true']
  have nm : ∀ S, S ∈ nrG ts p G ↔ S ∈ G ∧ njB ts p S = true := fun S => by unfold nrG; rw [List.mem_filter]
  have nb : ∀ S, njB ts p S = true ↔ ∃ o ∈ S, adjB ts p o = true := fun S => by unfold njB; rw [List.any_eq_true]
  have inI : ∀ S ∈ G, ∀ x ∈ S, x ∈ I := fun S hS x hx => List.take_subset _ _ (h.perm.mem_iff.mp (List.mem_flatten.mpr ⟨S, hS, hx⟩))
  refine ⟨?_, fun S hS => ?_, fun S hS => ?_, fun S hS => ?_⟩
  · rw [List.flatten_append, List.flatten_cons, List.flatten_nil, List.append_nil, ← List.append_assoc, st, ← List.flatten_append]
    exact List.Perm.append_right _ ((nr_fr_perm ts p G).flatten.trans h.perm)
  · rcases List.mem_append.mp hS with z | z
    · exact h.ne S ((fm S).mp z).1
    · rw [List.mem_singleton.mp z]
      intro w
      have := congrArg List.length w
      rw [List.length_append] at this; simp at this
  · intro x hx y hy a
    rw [st] at hy
    rcases List.mem_append.mp hS with z | z
    · obtain ⟨SG, nS⟩ := (fm S).mp z
      rcases List.mem_append.mp hy with w | w
      · exact h.clo S SG x hx y w a
      · rw [List.mem_singleton.mp w, adj_comm] at a
        have := (nb S).mpr ⟨x, hx, a⟩
        rw [nS] at this; cases this
    · rw [List.mem_singleton.mp z] at hx ⊢
      rcases List.mem_append.mp hy with w | w
      · refine List.mem_append_left _ ?_
        rcases List.mem_append.mp hx with k | k
        · obtain ⟨T, hT, xT⟩ := List.mem_flatten.mp k
          exact List.mem_flatten.mpr ⟨T, hT, h.clo T ((nm T).mp hT).1 x xT y w a⟩
        · rw [List.mem_singleton.mp k] at a
          obtain ⟨T, hT, yT⟩ := List.mem_flatten.mp (h.perm.mem_iff.mpr w)
          exact List.mem_flatten.mpr ⟨T, (nm T).mpr ⟨hT, (nb T).mpr ⟨y, yT, a⟩⟩, yT⟩
      · exact List.mem_append_right _ w
  · intro A cA x hx ax y hy
    rcases List.mem_append.mp hS with z | z
    · exact h.con S ((fm S).mp z).1 A cA x hx ax y hy
    · rw [List.mem_singleton.mp z] at hx hy
      have toP : A p := by
        rcases List.mem_append.mp hx with k | k
        · obtain ⟨T, hT, xT⟩ := List.mem_flatten.mp k
          obtain ⟨TG, tn⟩ := (nm T).mp hT
          obtain ⟨o, oT, oa⟩ := (nb T).mp tn
          exact cA o (inI T TG o oT) p pI (h.con T TG A cA x xT ax o oT) (by rw [adj_comm]; exact oa)
        · rw [← List.mem_singleton.mp k]; exact ax
      rcases List.mem_append.mp hy with k | k
      · obtain ⟨T, hT, yT⟩ := List.mem_flatten.mp k
        obtain ⟨TG, tn⟩ := (nm T).mp hT
        obtain ⟨o, oT, oa⟩ := (nb T).mp tn
        exact h.con T TG A cA o oT (cA p pI o (inI T TG o oT) toP oa) y yT
      · rw [List.mem_singleton.mp k]; exact toP
/-- each sorted -/
def PSr : List (List Int) → List (List Int) → Prop
  | [], [] => True
  | S :: G, T :: Ts => (T.Perm S ∧ T.Pairwise (· ≤ ·)) ∧ PSr G Ts
  | _, _ => False
theorem PSr.app : ∀ {G Ts : List (List Int)} {S T : List Int}, PSr G Ts → T.Perm S → T.Pairwise (· ≤ ·) → PSr (G ++ [S]) (Ts ++ [T])
  | [], [], _, _, _, a, b => ⟨⟨a, b⟩, trivial⟩
  | _ :: _, _ :: _, _, _, h, a, b => ⟨h.1, PSr.app h.2 a b⟩
  | [], _ :: _, _, _, h, _, _ => h.elim
  | _ :: _, [], _, _, h, _, _ => h.elim
theorem PSr.flat : ∀ {G Ts : List (List Int)}, PSr G Ts → Ts.flatten.Perm G.flatten
  | [], [], _ => List.Perm.refl _
  | _ :: _, _ :: _, h => by
    rw [List.flatten_cons, List.flatten_cons]
    exact h.1.1.append (PSr.flat h.2)
  | [], _ :: _, h => h.elim
  | _ :: _, [], h => h.elim
theorem PSr.src : ∀ {G Ts : List (List Int)}, PSr G Ts → ∀ T ∈ Ts, ∃ S ∈ G, T.Perm S ∧ T.Pairwise (· ≤ ·)
  | [], [], _, T, hT => absurd hT List.not_mem_nil
  | S :: G, T :: Ts, h, U, hU => by
    rcases List.mem_cons.mp hU with e | e
    · rw [e]; exact ⟨S, List.mem_cons_self, h.1⟩
    · obtain ⟨S', h1, h2⟩ := PSr.src h.2 U e
      exact ⟨S', List.mem_cons_of_mem _ h1, h2⟩
  | [], _ :: _, h, _, _ => h.elim
  | _ :: _, [], h, _, _ => h.elim
theorem PSr.len : ∀ {G Ts : List (List Int)}, PSr G Ts → Ts.length = G.length
  | [], [], _ => rfl
  | _ :: _, _ :: _, h => congrArg (· + 1) (PSr.len h.2)
  | [], _ :: _, h => h.elim
  | _ :: _, [], h => h.elim
theorem dlt_dI {a b : Int} {l m : List Int} (h : a < b) : dataLt (dI (a :: l)) (dI (b :: m)) = true := by
  unfold dataLt
  show PyProof.Rows.lexLt itemOrd (.inl 1 :: ([.inl a] ++ keyToksAll (l.map PyData.int))) (.inl 1 :: ([.inl b] ++ keyToksAll (m.map PyData.int))) = true
  rw [lex_self]
  show PyProof.Rows.lexLt itemOrd (.inl a :: keyToksAll (l.map PyData.int)) (.inl b :: keyToksAll (m.map PyData.int)) = true
  rw [lex_atom (fun e => by have := Sum.inl.inj e; omega), lex_one]
  exact decide_eq_true h
theorem ord_of {F : List (List Int)} (ne : ∀ S ∈ F, S ≠ []) (srt : ∀ S ∈ F, S.Pairwise (· ≤ ·)) (nd : F.flatten.Nodup) (pw : F.Pairwise fun x y => dataLt (dI y) (dI x) = false) : F.Pairwise HdLt := by
  refine (pw.and (nd_flat.mp nd).2).imp_of_mem fun {S T} hS hT ⟨h, dj⟩ => ?_
  obtain ⟨a, l, rfl⟩ : ∃ a l, S = a :: l := by
    cases S with
    | nil => exact absurd rfl (ne [] hS)
    | cons a l => exact ⟨a, l, rfl⟩
  obtain ⟨b, m, rfl⟩ : ∃ a l, T = a :: l := by
    cases T with
    | nil => exact absurd rfl (ne [] hT)
    | cons a l => exact ⟨a, l, rfl⟩
  have ab : a ≠ b := dj a List.mem_cons_self b List.mem_cons_self
  have lt : a < b := by
    refine Classical.byContradiction fun no => ?_
    rw [dlt_dI (show b < a by omega)] at h; cases h
  refine ⟨a, List.mem_cons_self, fun x hx => ?_, fun t ht => ?_⟩
  · rcases List.mem_cons.mp hx with e | e
    · omega
    · exact (List.pairwise_cons.mp (srt _ hS)).1 x e
  · rcases List.mem_cons.mp ht with e | e
    · omega
    · have := (List.pairwise_cons.mp (srt _ hT)).1 t e; omega
theorem JP.sets {ts : List (Int × Int)} {I : List Int} {G Ts F : List (List Int)} (h : JP ts I I.length G) (nI : I.Nodup) (r : PSr G Ts) (pm : F.Perm Ts) (pw : F.Pairwise fun x y => dataLt (dI y) (dI x) = false) : SetsI ts true I F := by
  have hp := h.perm
  rw [List.take_length] at hp
  have fp : F.flatten.Perm I := (pm.flatten.trans r.flat).trans hp
  have src : ∀ T ∈ F, ∃ S ∈ G, T.Perm S ∧ T.Pairwise (· ≤ ·) := fun T hT => r.src T (pm.mem_iff.mp hT)
  have ne : ∀ T ∈ F, T ≠ [] := fun T hT e => by
    obtain ⟨S, hS, p, _⟩ := src T hT
    rw [e] at p
    exact h.ne S hS p.symm.eq_nil
  have srt : ∀ T ∈ F, T.Pairwise (· ≤ ·) := fun T hT => by
    obtain ⟨S, hS, _, q⟩ := src T hT
    exact q
  refine ⟨fp, ne, srt, fun T hT x hx y hy a => ?_, fun T hT A cA x hx ax y hy => ?_, fun _ => ord_of ne srt (fp.nodup_iff.mpr nI) pw⟩
  · obtain ⟨S, hS, p, _⟩ := src T hT
    exact p.mem_iff.mpr (h.clo S hS x (p.mem_iff.mp hx) y (by rw [List.take_length]; exact hy) a)
  · obtain ⟨S, hS, p, _⟩ := src T hT
    exact h.con S hS A cA x (p.mem_iff.mp hx) ax y (p.mem_iff.mp hy)
/-- by gaps: ties of the other web -/
theorem SetsI.gaps {ts gs : List (Int × Int)} {I : List Int} {F : List (List Int)} (h : SetsI gs true I F) (g : ∀ x ∈ I, ∀ y ∈ I, x ≠ y → adjB gs x y = !adjB ts x y) : SetsI ts false I F := by
  have inI : ∀ S ∈ F, ∀ x ∈ S, x ∈ I := fun S hS x hx => h.perm.mem_iff.mp (List.mem_flatten.mpr ⟨S, hS, hx⟩)
  refine ⟨h.perm, h.ne, h.srt, fun S hS x hx y hy a => ?_, fun S hS A cA => h.con S hS A fun x xI y yI ax a => ?_, h.ord⟩
  · by_cases e : x = y
    · rw [← e]; exact hx
    · exact h.clo S hS x hx y hy (by rw [g x (inI S hS x hx) y hy e, a]; rfl)
  · by_cases e : x = y
    · rw [← e]; exact ax
    · refine cA x xI y yI ax ?_
      rw [g x xI y yI e] at a
      cases z : adjB ts x y with
      | true => rw [z] at a; cases a
      | false => rfl
theorem alikeAll_int : ∀ c d : List Int, alikeAll (c.map PyData.int) (d.map PyData.int) = true
  | [], _ => by simp [alikeAll]
  | _ :: _, [] => by simp [alikeAll]
  | x :: c, y :: d => by
    show (alike (.int x) (.int y) && alikeAll (c.map PyData.int) (d.map PyData.int)) = true
    rw [alikeAll_int c d]
    simp [alike]
theorem alike_dI (c d : List Int) : alike (dI c) (dI d) = true := alikeAll_int c d
end My

set_option Elab.async false
set_option linter.all false
set_option maxRecDepth 100000
set_option pp.maxSteps 400
set_option maxHeartbeats 4000000
namespace My
open PySem PySem.Spec PyProof.Rows L2 GxR
def unI : PyData → List Int
  | .list xs => xs.filterMap fun d => match d with | .int i => some i | _ => none
  | _ => []
theorem unI_dI (S : List Int) : unI (dI S) = S := by
  show (S.map PyData.int).filterMap _ = S
  rw [List.filterMap_map]
  induction S with
  | nil => rfl
  | cons a S ih => rw [List.filterMap_cons]; show a :: _ = _; rw [ih]
theorem lsn_of {H : Hp} : ∀ {ys : List (V × PyData)}, (∀ b ∈ ys, ∃ S, LsN [] H b.1 S ∧ b.2 = dI S) → All2 (LsN [] H) (ys.map (·.1)) (ys.map fun b => unI b.2)
  | [], _ => trivial
  | b :: ys, h => by
    obtain ⟨S, h1, h2⟩ := h b List.mem_cons_self
    refine ⟨?_, lsn_of fun c hc => h c (List.mem_cons_of_mem _ hc)⟩
    show LsN [] H b.1 (unI b.2)
    rw [h2, unI_dI]; exact h1
theorem zip_at {H : Hp} : ∀ {ws : List V} {Ts : List (List Int)}, All2 (LsN [] H) ws Ts → (((ws.zip (Ts.map dI)).map (·.1) = ws) ∧ ((ws.zip (Ts.map dI)).map (·.2) = Ts.map dI)) ∧ ∀ b ∈ ws.zip (Ts.map dI), ∃ S, LsN [] H b.1 S ∧ b.2 = dI S
  | [], [], _ => ⟨⟨rfl, rfl⟩, fun b h => absurd h List.not_mem_nil⟩
  | v :: ws, T :: Ts, h => by
    obtain ⟨⟨a, b⟩, c⟩ := zip_at h.2
    rw [List.map_cons, List.zip_cons_cons, List.map_cons, List.map_cons, a, b]
    refine ⟨⟨rfl, rfl⟩, fun z hz => ?_⟩
    rcases List.mem_cons.mp hz with e | e
    · rw [e]; exact ⟨T, h.1, rfl⟩
    · exact c z e
  | [], _ :: _, h => h.elim
  | _ :: _, [], h => h.elim
theorem tabG_putM {H : Hp} {P D : Addr} {xs : List V} {o : HO} (t : TabG H P) (e : H D = some (.lst xs)) : TabG (upd H D o) P := by
  obtain ⟨ps, h1, h2⟩ := t
  exact ⟨ps, by rw [upd_ne (fun z => by rw [z, e] at h1; cases h1)]; exact h1, h2⟩
section
variable {P : Program} {w : World} {K : PySem.W.Frag} {mg : Str → Option Value} {base : Heap}
/-! ### joined_sets -/
abbrev s_joined_sets : Stmt := topS 17
abbrev N_joined_sets : List Str := ["web", "places", "sets", "place", "near", "part", "other", "far"]
theorem sc_joined_sets : FnScope N_joined_sets ["web", "places"] (defScope s_joined_sets) := ⟨rfl, rfl, rfl, by decide +kernel, rfl, by decide +kernel, by decide +kernel⟩
def sp_joined (PT : Addr) : Sp := fun vs H Q _ => ∃ (v : V) (n : Nat) (ts : List (Int × Int)) (pa : Addr) (I : List Int), vs = [v, .ref pa] ∧ Web H v n ts ∧ H pa = some (.lst (I.map V.int)) ∧ I.Pairwise (· < ·) ∧ I.length ≤ 100 ∧ TabG H PT ∧
  ∀ (F : List (List Int)) (r : Addr) (us : List V) (H' : Hp), H r = none → FrM [PT] H H' → TabG H' PT → SetsI ts true I F → H' r = some (.lst us) → All2 (LsN [] H') us F → Q (.ref r) H'
theorem ok_joined {f c PT : Addr} {fd : FuncData} (B : Bts mg) (F : Fun K "joined_sets" "joined_sets" s_joined_sets f fd) (hc : fd.code = .ref c) (TB : TabB base mg c PT) (c_tied : Cl P w K mg base 2 "tied" sp_tied) : FnOk P w K mg base CX0 4 f fd ["web", "places"] (sp_joined PT) := by
  refine okC F hc sc_joined_sets (fun vs H Q E h => ?_) (fun A outer s H vs Q E hr h => ?_)
  · obtain ⟨v, n, ts, pa, I, rfl, _⟩ := h; rfl
  · obtain ⟨v, n, ts, pa, I, rfl, hW, ep, rise, Il, tg, q⟩ := h
    refine ⟨_, (pss_cons (ps_set (i := 2) sc_joined_sets.nd rfl (by first | exact Or.inl rfl | exact Or.inr rfl) (pe_lst pa_nil))
    (pss_cons (ps_for PassesOwn.never rfl (pi_list (pv 1)) (pg_name (i := 3) sc_joined_sets.nd rfl (by first | exact Or.inl rfl | exact Or.inr rfl))
      (pss_cons (ps_set (i := 4) sc_joined_sets.nd rfl (by first | exact Or.inl rfl | exact Or.inr rfl) (pe_lc (own := [("part", 5)]) (g := (gName 5)) (tt := (tB (tAnyG PT (iList K (tVar 5)) (gName 6) (tCall sp_tied [] E0 (tCons (tVar 0) (tCons (tVar 3) (tCons (tVar 6) tNil)))) [6]))) rfl sc_joined_sets.nd (pi_list (pv 2)) (blkOk_by (own := [("part", 5)]) (N := N_joined_sets) (sc := defScope s_joined_sets) (by decide +kernel)) (fun _ _ _ _ _ => (pg_name (i := 5) sc_joined_sets.nd rfl (by first | exact Or.inl rfl | exact Or.inr rfl))) (fun _ _ _ _ _ => (pts_one (pt_val (pe_anyG (own := [("other", 6)]) (wi := iList K (tVar 5)) (g := (gName 6)) (te := (tCall sp_tied [] E0 (tCons (tVar 0) (tCons (tVar 3) (tCons (tVar 6) tNil))))) rfl sc_joined_sets.nd hr (by rfl) B.any TB rfl ⟨rfl, by decide +kernel, rfl⟩ (blkOk_by (own := [("other", 6)]) (N := N_joined_sets) (by with_unfolding_all rfl)) (pi_list (pv 5)) (fun _ _ _ _ _ _ _ => (pg_name (i := 6) sc_joined_sets.nd rfl (by first | exact Or.inl rfl | exact Or.inr rfl))) (fun _ _ _ _ _ _ _ hr => (pe_c c_tied hr (by decide) (by rfl) (pa_cons (pv 0) (pa_cons (pv 3) (pa_cons (pv 6) pa_nil))))))))) (fun _ _ _ _ _ => (pv 5))))
      (pss_cons (ps_setLc (i := 7) (own := [("part", 5)]) (g := (gName 5)) (tt := (tTest (tOp (rNotInD K) _ _))) rfl sc_joined_sets.nd rfl rfl (sw_true rfl rfl rfl (by decide +kernel)) (pi_list (pv 2)) (blkOk_by (own := [("part", 5)]) (N := N_joined_sets) (sc := defScope s_joined_sets) (by decide +kernel)) (fun _ _ _ _ _ => (pg_name (i := 5) sc_joined_sets.nd rfl (by first | exact Or.inl rfl | exact Or.inr rfl))) (fun _ _ _ _ _ => (pts_one (pt_cmpR (op_notInD (u65 hr)) (pv 5) (pv 4) (by rfl)))) (fun _ _ _ _ _ => (pv 5)))
      (pss_one (ps_set (i := 2) sc_joined_sets.nd rfl (by first | exact Or.inl rfl | exact Or.inr rfl) (pe_op op_cat (pv 7) (pe_lst (pa_cons (pe_op op_cat (pe_lc2 (own := [("part", 5), ("other", 6)]) (vs1 := [6]) (g := (gName 5)) (g1 := (gName 6)) (tt := tYes) (tt1 := tYes) (wi1 := iList K (tVar 5)) rfl sc_joined_sets.nd (pi_list (pv 4)) (blkOk_by (own := [("part", 5), ("other", 6)]) (N := N_joined_sets) (sc := defScope s_joined_sets) (by decide +kernel)) (by decide) (fun _ _ _ _ _ => (pg_name (i := 5) sc_joined_sets.nd rfl (by first | exact Or.inl rfl | exact Or.inr rfl))) (fun _ _ _ _ _ => pts_nil) (fun _ _ _ _ _ => (pi_list (pv 5))) (fun _ _ _ _ _ => (pg_name (i := 6) sc_joined_sets.nd rfl (by first | exact Or.inl rfl | exact Or.inr rfl))) (fun _ _ _ _ _ => pts_nil) (fun _ _ _ _ _ => (pv 6))) (pe_lst (pa_cons (pv 3) pa_nil))) pa_nil))))))))
    (pss_one (ps_ret (pe_callB (cr_sortedD (u65 hr)) (by rfl) B.sorted (by decide +kernel) (pa_cons (pe_lc (own := [("part", 5)]) (g := (gName 5)) (tt := tYes) (te := (tCB (rSortedI K) _)) rfl sc_joined_sets.nd (pi_list (pv 2)) (blkOk_by (own := [("part", 5)]) (N := N_joined_sets) (sc := defScope s_joined_sets) (by decide +kernel)) (fun _ _ _ _ _ => (pg_name (i := 5) sc_joined_sets.nd rfl (by first | exact Or.inl rfl | exact Or.inr rfl))) (fun _ _ _ _ _ => pts_nil) (fun _ _ _ _ _ => (pe_callB cr_sortedI (by rfl) B.sorted (by decide +kernel) (pa_cons (pv 5) pa_nil)))) pa_nil)))))), ?_⟩
    have nI : I.Nodup := rise.imp fun h => Int.ne_of_lt h
    refine ⟨Nat.zero_le _, fun S0 nS0 => ?_⟩
    have s1 := same_new (o := .lst []) nS0
    have eS0 := upd_same (H := H) (a := S0) (o := .lst [])
    generalize upd H S0 (.lst []) = H1 at s1 eS0 ⊢
    refine ⟨_, rfl, pa, rfl, ⟨_, SqL.of (s1 _ _ ep)⟩, ?_⟩
    refine for_it (walk_list (K := K) (a := pa) (xs := I.map V.int)) (fun i σ HX => ∃ Sa us G y3 y4 y5 y6 y7, σ = [some v, some (.ref pa), some (.ref Sa), y3, y4, y5, y6, y7] ∧ FrM [PT] H HX ∧ TabG HX PT ∧ HX Sa = some (.lst us) ∧ All2 (LsN [] HX) us G ∧ JP ts I i G) ⟨S0, [], [], _, _, _, _, _, rfl, FrM.same s1, tabG_sameM tg s1, eS0, by exact trivial, JP.start ts I⟩ ?_ ?_ ?_
    · rintro i σ HX _ ⟨_, _, _, _, _, _, _, _, _, fX, _⟩
      exact SqL.of (frM_lst fX tg ep)
    · rintro i x σ HX HY hi ⟨Sa, us, G, y3, y4, y5, y6, y7, rfl, fX, tX, eS, hA, hJ⟩ ⟨rfl, hx⟩
      rw [List.length_map] at hi
      rw [List.getElem?_map] at hx
      obtain ⟨p, ep2, rfl⟩ := Option.map_eq_some_iff.mp hx
      have Gl := hJ.len
      have ul := hA.len
      have hWX := hW.mono (frM_tst fX tg)
      have wX : ∀ {HZ : Hp}, FrM [PT] HY HZ → Web HZ v n ts := fun {HZ} f => hWX.mono (frM_tst f tX)
      -- near
      refine ⟨_, rfl, Sa, rfl, ⟨_, SqL.of eS⟩, fun D nD => ?_⟩
      refine wk (walk_list (K := K) (a := Sa) (xs := us)) (fun j HZ => ∃ vs, FrM [PT] HY HZ ∧ TabG HZ PT ∧ HZ D = some (.lst vs) ∧ All2 (LsN [D] HZ) vs (nrG ts p (G.take j))) ⟨[], FrM.same (same_new nD), tabG_sameM tX (same_new nD), upd_same, by exact trivial⟩ ?_ ?_ ?_
      · rintro j HZ _ ⟨_, fZ, _⟩
        exact SqL.of (frM_lst fZ tX eS)
      · rintro j x HZ0 HZ hj ⟨vs, fZ, tZ, eD, hV⟩ ⟨rfl, hx2⟩
        obtain ⟨S, eSj, q0, rfl, _, eq0⟩ := hA.at hx2
        have vl := hV.len
        have fl := List.length_filter_le (njB ts p) (G.take j)
        rw [List.length_take] at fl
        have vle : vs.length ≤ j := by rw [vl]; exact Nat.le_trans fl (Nat.min_le_left _ _)
        have qD : q0 ≠ D := fun z => by rw [z, nD] at eq0; cases eq0
        have stp : nrG ts p (G.take (j + 1)) = nrG ts p (G.take j) ++ (if njB ts p S = true then [S] else []) := by
          unfold nrG
          rw [List.take_add_one, eSj, List.filter_append]
          show _ ++ List.filter _ [S] = _
          rw [List.filter_cons]; rfl
        have eqZ := frM_lst fZ tX eq0
        refine ⟨rfl, _, rfl, q0, rfl, ⟨_, SqL.of eqZ⟩, tZ, fun H3 tb => ?_⟩
        have fZ3 := tb_frM tb
        refine anyG_it (walk_list (K := K) (a := q0) (xs := S.map V.int)) (fun m H4 => FrM [PT] HZ H4 ∧ TabG H4 PT ∧ ∀ o ∈ S.take m, adjB ts p o = false) ⟨fZ3, tb.1, fun o h => absurd h (by rw [List.take_zero]; exact List.not_mem_nil)⟩ ?_ ?_ ?_
        · rintro m H4 _ ⟨f4, _⟩
          exact SqL.of (frM_lst f4 tZ eqZ)
        · rintro m y H4 H5 hm ⟨f4, t4, al4⟩ ⟨rfl, hy⟩
          rw [List.getElem?_map] at hy
          obtain ⟨o, eo, rfl⟩ := Option.map_eq_some_iff.mp hy
          refine ⟨rfl, _, rfl, _, rfl, _, rfl, v, n, ts, p, o, rfl, wX (fZ.trans f4), fun H6 s6 => ⟨adjB ts p o, rfl, ?_⟩⟩
          have f6 := f4.trans (FrM.same s6)
          have t6 := tabG_sameM t4 s6
          by_cases ha : adjB ts p o = true
          · rw [if_pos ha]
            have hn : njB ts p S = true := List.any_eq_true.mpr ⟨o, List.mem_of_getElem? eo, ha⟩
            rw [hn, if_pos rfl] at stp
            have eD6 := frM_lst f6 tZ eD
            have eq6 := frM_lst f6 tZ eqZ
            refine ⟨true, rfl, iteT ⟨_, rfl, vs, eD6, sz' (by omega), vs ++ [.ref q0], ?_, ?_, upd_same, ?_⟩⟩
            · exact (fZ.trans f6).trans (FrM.refl _ _) |>.putN nD
            · exact tabG_putM t6 eD6
            · rw [stp]
              exact All2.app (hV.imp fun _ _ ⟨q1, e, nb, h⟩ => ⟨q1, e, nb, by rw [upd_ne (fun z => nb (List.mem_singleton.mpr z))]; exact frM_lst f6 tZ h⟩) ⟨⟨q0, rfl, fun z => qD (List.mem_singleton.mp z), by rw [upd_ne qD]; exact eq6⟩, trivial⟩
          · rw [if_neg ha]
            refine ⟨f6, t6, fun o' ho' => ?_⟩
            rw [List.take_add_one, eo] at ho'
            rcases List.mem_append.mp ho' with z | z
            · exact al4 o' z
            · rw [List.mem_singleton.mp (show o' ∈ [o] from z)]; exact Bool.eq_false_iff.mpr ha
        · rintro H4 ⟨f4, t4, al4⟩
          rw [List.length_map, List.take_length] at al4
          have hn : ¬ njB ts p S = true := fun z => by
            obtain ⟨o, ho, ha⟩ := List.any_eq_true.mp z
            rw [al4 o ho] at ha; cases ha
          rw [if_neg hn, List.append_nil] at stp
          refine ⟨false, rfl, iteF ⟨vs, fZ.trans f4, t4, frM_lst f4 tZ eD, ?_⟩⟩
          rw [stp]
          exact hV.imp fun _ _ ⟨q1, e, nb, h⟩ => ⟨q1, e, nb, frM_lst f4 tZ h⟩
      rintro HN ⟨vs, fN, tN, eDN, hV⟩
      rw [ul, List.take_length] at hV
      have vl := hV.len
      have vle : vs.length ≤ G.length := by rw [vl]; exact List.length_filter_le _ _
      have eSN := frM_lst fN tX eS
      have hAN : All2 (LsN [] HN) us G := hA.imp fun _ _ ⟨q1, e, nb, h⟩ => ⟨q1, e, nb, frM_lst fN tX h⟩
      -- far
      refine ⟨_, rfl, Sa, rfl, ⟨_, SqL.of eSN⟩, fun E nE => ?_⟩
      have ED : E ≠ D := fun z => by rw [z, eDN] at nE; cases nE
      refine wk (walk_list (K := K) (a := Sa) (xs := us)) (fun j HZ => ∃ fs, Same HN HZ ∧ HZ E = some (.lst fs) ∧ All2 (LsN [E] HZ) fs (frG ts p (G.take j))) ⟨[], same_new nE, upd_same, by exact trivial⟩ ?_ ?_ ?_
      · rintro j HZ _ ⟨_, sZ, _⟩
        exact SqL.of (sZ _ _ eSN)
      · rintro j x HZ0 HZ hj ⟨fs, sZ, eE, hE⟩ ⟨rfl, hx2⟩
        obtain ⟨S, eSj, q0, rfl, _, eq0⟩ := hAN.at hx2
        have SG := List.mem_of_getElem? eSj
        have el := hE.len
        have fl := List.length_filter_le (fun S => !njB ts p S) (G.take j)
        rw [List.length_take] at fl
        have ele : fs.length ≤ j := by rw [el]; exact Nat.le_trans fl (Nat.min_le_left _ _)
        have qE : q0 ≠ E := fun z => by rw [z, nE] at eq0; cases eq0
        have stp : frG ts p (G.take (j + 1)) = frG ts p (G.take j) ++ (if (!njB ts p S) = true then [S] else []) := by
          unfold frG
          rw [List.take_add_one, eSj, List.filter_append]
          show _ ++ List.filter _ [S] = _
          rw [List.filter_cons]; rfl
        have hVZ : All2 (LsN [D] HZ) vs (nrG ts p G) := hV.imp fun _ _ ⟨q1, e, nb, h⟩ => ⟨q1, e, nb, sZ _ _ h⟩
        refine ⟨rfl, _, rfl, _, rfl, dI S, (nrG ts p G).map dI, .lst (SqL.of (sZ _ _ eq0)) (dpI S), .lst (SqL.of (sZ _ _ eDN)) (lsn_dp hVZ), shaped_dI S, shaped_dIs _, _, rfl, ?_⟩
        rw [any_dIs]
        have em : decide (S ∈ nrG ts p G) = njB ts p S := by
          have : S ∈ nrG ts p G ↔ njB ts p S = true := by
            unfold nrG; rw [List.mem_filter]; exact ⟨fun z => z.2, fun z => ⟨SG, z⟩⟩
          rw [Bool.eq_iff_iff, decide_eq_true_iff]; exact this
        rw [em]
        cases hn : njB ts p S with
        | true =>
          rw [hn, if_neg (by decide), List.append_nil] at stp
          refine iteF ⟨fs, sZ, eE, ?_⟩
          rw [stp]; exact hE
        | false =>
          rw [hn, if_pos (show (!false) = true from rfl)] at stp
          refine iteT ⟨_, rfl, fs, eE, sz' (by omega), fs ++ [.ref q0], Same.put sZ nE, upd_same, ?_⟩
          rw [stp]
          exact All2.app (hE.imp fun _ _ ⟨q1, e, nb, h⟩ => ⟨q1, e, nb, by rw [upd_ne (fun z => nb (List.mem_singleton.mpr z))]; exact h⟩) ⟨⟨q0, rfl, fun z => qE (List.mem_singleton.mp z), by rw [upd_ne qE]; exact sZ _ _ eq0⟩, trivial⟩
      rintro HF ⟨fs, sF, eEF, hE⟩
      rw [ul, List.take_length] at hE
      have el := hE.len
      have ele : fs.length ≤ G.length := by rw [el]; exact List.length_filter_le _ _
      have eDF := sF _ _ eDN
      have hVF : All2 (LsN [D] HF) vs (nrG ts p G) := hV.imp fun _ _ ⟨q1, e, nb, h⟩ => ⟨q1, e, nb, sF _ _ h⟩
      have nfl : (nrG ts p G).flatten.length ≤ G.flatten.length := by
        have := ((nr_fr_perm ts p G).flatten).length_eq
        rw [List.flatten_append, List.length_append] at this; omega
      -- joined
      refine ⟨_, rfl, _, rfl, D, rfl, ⟨_, SqL.of eDF⟩, fun M nM => ?_⟩
      have hVM : ∀ {HZ : Hp}, Same HF HZ → All2 (LsN [D] HZ) vs (nrG ts p G) := fun {HZ} s => hVF.imp fun _ _ ⟨q1, e, nb, h⟩ => ⟨q1, e, nb, s _ _ h⟩
      refine wk (walk_list (K := K) (a := D) (xs := vs)) (fun j HZ => Same HF HZ ∧ HZ M = some (.lst ((((nrG ts p G).take j).flatten).map V.int))) ⟨same_new nM, upd_same⟩ ?_ ?_ ?_
      · rintro j HZ _ ⟨sZ, _⟩
        exact SqL.of (sZ _ _ eDF)
      · rintro j x HZ0 HZ hj ⟨sZ, eM⟩ ⟨rfl, hx2⟩
        obtain ⟨S, eSj, q0, rfl, _, eq0⟩ := hVF.at hx2
        have tkl : ((nrG ts p G).take j).flatten.length + S.length ≤ (nrG ts p G).flatten.length := by
          obtain ⟨hjl, e⟩ := List.getElem?_eq_some_iff.mp eSj
          have e2 : (nrG ts p G) = (nrG ts p G).take j ++ S :: (nrG ts p G).drop (j + 1) := by
            rw [← e, List.getElem_cons_drop, List.take_append_drop]
          have e3 := congrArg (fun l => l.flatten.length) e2
          simp only [List.flatten_append, List.flatten_cons, List.length_append] at e3
          omega
        refine ⟨rfl, yes ⟨_, rfl, q0, rfl, ⟨_, SqL.of (sZ _ _ eq0)⟩, ?_⟩⟩
        refine wk (walk_list (K := K) (a := q0) (xs := S.map V.int)) (fun l HU => Same HF HU ∧ HU M = some (.lst ((((nrG ts p G).take j).flatten ++ S.take l).map V.int))) ⟨sZ, by rw [List.take_zero, List.append_nil]; exact eM⟩ ?_ ?_ ?_
        · rintro l HU _ ⟨sU, _⟩
          exact SqL.of (sU _ _ eq0)
        · rintro l y HU0 HU hl ⟨sU, eMU⟩ ⟨rfl, hy⟩
          rw [List.length_map] at hl
          rw [List.getElem?_map] at hy
          obtain ⟨o, eo, rfl⟩ := Option.map_eq_some_iff.mp hy
          refine ⟨rfl, yes ⟨_, rfl, _, eMU, sz' (by rw [List.length_map, List.length_append, List.length_take]; omega), Same.put sU nM, ?_⟩⟩
          rw [upd_same, List.take_add_one, eo, ← List.append_assoc]
          exact congrArg (fun z => some (HO.lst z)) (List.map_append (f := V.int) (l₁ := ((nrG ts p G).take j).flatten ++ S.take l) (l₂ := [o])).symm
        · rintro HU ⟨sU, eMU⟩
          rw [List.length_map, List.take_length] at eMU
          refine ⟨sU, ?_⟩
          rw [eMU, List.take_add_one, eSj, List.flatten_append]
          show _ = some (HO.lst ((_ ++ [S].flatten).map V.int))
          rw [List.flatten_cons, List.flatten_nil, List.append_nil]
      rintro HM ⟨sM, eMM⟩
      rw [vl, List.take_length] at eMM
      refine ⟨_, rfl, by show 1 ≤ sizeLine; decide, fun l nl => ?_⟩
      have kl := same_new (o := .lst [.int p]) nl
      refine ⟨M, l, _, _, rfl, rfl, kl _ _ eMM, upd_same, sz (by rw [List.length_map]; show _ + 1 ≤ _; omega), fun cc ncc => ?_⟩
      have kc := kl.trans (same_new (o := .lst ((nrG ts p G).flatten.map V.int ++ [.int p])) ncc)
      have ecc := upd_same (H := upd HM l (.lst [.int p])) (a := cc) (o := .lst ((nrG ts p G).flatten.map V.int ++ [.int p]))
      generalize upd (upd HM l (.lst [.int p])) cc (.lst ((nrG ts p G).flatten.map V.int ++ [.int p])) = HC at kc ecc ⊢
      refine ⟨by show 1 ≤ sizeLine; decide, fun w1 nw1 => ?_⟩
      have kw := same_new (o := .lst [.ref cc]) nw1
      have sAll := sM.trans (kc.trans kw)
      refine ⟨E, w1, fs, [.ref cc], rfl, rfl, sAll _ _ eEF, upd_same, sz (by show fs.length + 1 ≤ _; omega), fun z nz => ?_⟩
      have kz := same_new (o := .lst (fs ++ [.ref cc])) nz
      have sEnd := sAll.trans kz
      refine ⟨z, fs ++ [.ref cc], frG ts p G ++ [(nrG ts p G).flatten ++ [p]], _, _, _, _, _, rfl, (fX.trans fN).trans (FrM.same (sF.trans sEnd)), tabG_sameM tN (sF.trans sEnd), upd_same, ?_, hJ.step ep2⟩
      refine All2.app (hE.imp fun _ _ ⟨q1, e, nb, h⟩ => ⟨q1, e, List.not_mem_nil, sEnd _ _ h⟩) ⟨⟨cc, rfl, List.not_mem_nil, ?_⟩, trivial⟩
      rw [(kw.trans kz) _ _ ecc, List.map_append]; rfl
    · rintro σ HX ⟨Sa, us, G, y3, y4, y5, y6, y7, rfl, fX, tX, eS, hA, hJ⟩
      rw [List.length_map] at hJ
      have Gl := hJ.len
      have ul := hA.len
      refine ⟨_, rfl, Sa, rfl, ⟨_, SqL.of eS⟩, fun D nD => ?_⟩
      refine wk (walk_list (K := K) (a := Sa) (xs := us)) (fun j HZ => ∃ ws Ts, Same HX HZ ∧ HZ D = some (.lst ws) ∧ All2 (LsN [D] HZ) ws Ts ∧ PSr (G.take j) Ts) ⟨[], [], same_new nD, upd_same, by exact trivial, by exact trivial⟩ ?_ ?_ ?_
      · rintro j HZ _ ⟨_, _, sZ, _⟩
        exact SqL.of (sZ _ _ eS)
      · rintro j x HZ0 HZ hj ⟨ws, Ts, sZ, eD, hT, hP⟩ ⟨rfl, hx2⟩
        obtain ⟨S, eSj, q0, rfl, _, eq0⟩ := hA.at hx2
        have wl := hT.len
        have pl := hP.len
        rw [List.length_take] at pl
        refine ⟨rfl, yes ⟨_, rfl, q0, S, rfl, SqL.of (sZ _ _ eq0), fun T t pmT srT nt => ?_⟩⟩
        have st := same_new (o := .lst (T.map V.int)) nt
        have tD : t ≠ D := fun z => by rw [z, eD] at nt; cases nt
        refine ⟨ws, st _ _ eD, sz' (by omega), ws ++ [.ref t], Ts ++ [T], Same.put (sZ.trans st) nD, upd_same, ?_, ?_⟩
        · exact All2.app (hT.imp fun _ _ ⟨q1, e, nb, h⟩ => ⟨q1, e, nb, by rw [upd_ne (fun z => nb (List.mem_singleton.mpr z))]; exact st _ _ h⟩) ⟨⟨t, rfl, fun z => tD (List.mem_singleton.mp z), by rw [upd_ne tD]; exact upd_same⟩, trivial⟩
        · rw [List.take_add_one, eSj]
          exact hP.app pmT srT
      rintro HZ ⟨ws, Ts, sZ, eD, hT, hP⟩
      rw [ul, List.take_length] at hP
      have hT0 : All2 (LsN [] HZ) ws Ts := hT.imp fun _ _ ⟨q1, e, nb, h⟩ => ⟨q1, e, List.not_mem_nil, h⟩
      obtain ⟨⟨z1, z2⟩, z3⟩ := zip_at hT0
      refine ⟨D, ws.zip (Ts.map dI), rfl, ?_, fun b hb => ?_, ?_, ?_, fun ys r pm pw nr => ?_⟩
      · rw [z1]; exact SqL.of eD
      · obtain ⟨S, ⟨q1, e1, _, h1⟩, e2⟩ := z3 b hb
        refine ⟨⟨q1, e1⟩, ?_, ?_⟩
        · rw [e1, e2]; exact .lst (SqL.of h1) (dpI S)
        · rw [e2]
          unfold dI
          rw [PyData.depth, PySem.W.depth_ints]; decide
      · rw [z2]
        intro d hd d' hd'
        obtain ⟨c, _, rfl⟩ := List.mem_map.mp hd
        obtain ⟨c', _, rfl⟩ := List.mem_map.mp hd'
        exact alike_dI c c'
      · rw [z2]
        refine .inr fun d hd => ?_
        obtain ⟨c, _, rfl⟩ := List.mem_map.mp hd
        exact ⟨fun z => (nomatch z), fun xs z => (nomatch z)⟩
      · have sr := same_new (o := .lst (ys.map (·.1))) nr
        have ysm : ∀ b ∈ ys, ∃ S, LsN [] HZ b.1 S ∧ b.2 = dI S := fun b hb => z3 b (pm.mem_iff.mp hb)
        have hF := lsn_of ysm
        have sEnd := sZ.trans sr
        refine q (ys.map fun b => unI b.2) r _ _ ?_ (fX.trans (FrM.same sEnd)) (tabG_sameM tX sEnd) (hJ.sets nI hP ?_ ?_) upd_same (hF.imp fun _ _ ⟨q1, e, nb, h⟩ => ⟨q1, e, nb, sr _ _ h⟩)
        · have nX := same_free sZ nr
          cases hh : H r with
          | none => rfl
          | some o =>
            exfalso
            by_cases hp : r = PT
            · obtain ⟨ps, h1, _⟩ := tX
              rw [hp, h1] at nX; cases nX
            · rw [fX r o (fun m => hp (List.mem_singleton.mp m)) hh] at nX; cases nX
        · have := (pm.map (·.2)).map unI
          rw [z2, List.map_map, List.map_map] at this
          have e : Ts.map (unI ∘ dI) = Ts := by
            conv => rhs; rw [← List.map_id Ts]
            exact List.map_congr_left fun S _ => unI_dI S
          rw [e] at this
          exact this
        · rw [List.pairwise_map]
          refine pw.imp_of_mem fun {x y} hx hy h => ?_
          obtain ⟨S, _, e1⟩ := ysm x hx
          obtain ⟨T, _, e2⟩ := ysm y hy
          rw [e1, e2, unI_dI, unI_dI, ← e1, ← e2]; exact h
end
end My

set_option Elab.async false
set_option linter.all false
set_option maxRecDepth 100000
namespace My
open PySem PySem.Spec PyProof.Rows L2 GxR
/-! the least module of some places among places I -/
structure LmI (ts : List (Int × Int)) (I S0 ks : List Int) : Prop where
  sub : ∀ x ∈ S0, x ∈ ks
  inI : ∀ x ∈ ks, x ∈ I
  nd : ks.Nodup
  low : ∀ M : Int → Prop, CloI ts I M → (∀ x ∈ S0, M x) → ∀ x ∈ ks, M x
structure LeastD (ts : List (Int × Int)) (I S0 L : List Int) : Prop where
  rise : L.Pairwise (· < ·)
  sub : ∀ x ∈ S0, x ∈ L
  inI : ∀ x ∈ L, x ∈ I
  low : ∀ M : Int → Prop, CloI ts I M → (∀ x ∈ S0, M x) → ∀ x ∈ L, M x
  clo : CloI ts I (· ∈ L)
theorem mem_moreI {ts : List (Int × Int)} {I F : List Int} {x : Int} : x ∈ moreI ts I F ↔ x ∈ I ∧ x ∉ F ∧ partsB ts F x = true := by
  unfold moreI
  rw [List.mem_filter, Bool.and_eq_true, decide_eq_true_iff]
theorem lmI_more {ts : List (Int × Int)} {I S0 ks : List Int} (h : LmI ts I S0 ks) (nI : I.Nodup) : LmI ts I S0 (ks ++ moreI ts I ks) := by
  refine ⟨fun x hx => List.mem_append_left _ (h.sub x hx), fun x hx => ?_, ?_, fun M hM hS x hx => ?_⟩
  · rcases List.mem_append.mp hx with z | z
    · exact h.inI x z
    · exact (mem_moreI.mp z).1
  · rw [List.nodup_append]
    exact ⟨h.nd, nI.filter _, fun a ha b hb e => (mem_moreI.mp hb).2.1 (e ▸ ha)⟩
  · rcases List.mem_append.mp hx with z | z
    · exact h.low M hM hS x z
    · obtain ⟨a, c, d⟩ := mem_moreI.mp z
      refine Classical.byContradiction fun no => ?_
      obtain ⟨⟨u, hu, eu⟩, w, hw, ew⟩ := parts_iff.mp d
      have := hM x a no u (h.inI u hu) w (h.inI w hw) (h.low M hM hS u hu) (h.low M hM hS w hw)
      rw [eu, ew] at this; cases this
theorem cloI_of {ts : List (Int × Int)} {I ks : List Int} (e : moreI ts I ks = []) : CloI ts I (· ∈ ks) := fun p pI pn a _ b _ ha hb => by
  have np : ¬ partsB ts ks p = true := fun z => by
    have : p ∈ moreI ts I ks := mem_moreI.mpr ⟨pI, pn, z⟩
    rw [e] at this; cases this
  cases ea : adjB ts p a <;> cases eb : adjB ts p b
  · rfl
  · exact absurd (parts_iff.mpr ⟨⟨b, hb, eb⟩, a, ha, ea⟩) np
  · exact absurd (parts_iff.mpr ⟨⟨a, ha, ea⟩, b, hb, eb⟩) np
  · rfl
theorem leastD_of {ts : List (Int × Int)} {I S0 ks ys : List Int} (h : LmI ts I S0 ks) (c : CloI ts I (· ∈ ks)) (p : ys.Perm ks) (r : ys.Pairwise (· ≤ ·)) : LeastD ts I S0 ys := by
  have hm : ∀ x, x ∈ ys ↔ x ∈ ks := fun x => p.mem_iff
  refine ⟨rise_of r (p.nodup_iff.mpr h.nd), fun x hx => (hm x).mpr (h.sub x hx), fun x hx => h.inI x ((hm x).mp hx), fun M hM hS x hx => h.low M hM hS x ((hm x).mp hx), fun q qI qn a aI b bI ha hb => c q qI (fun z => qn ((hm q).mpr z)) a aI b bI ((hm a).mp ha) ((hm b).mp hb)⟩
/-- not all: a module lacks a place -/
theorem leastD_ne {ts : List (Int × Int)} {I L : List Int} {p q : Int} (r : I.Pairwise (· < ·)) (h : LeastD ts I [p, q] L) : L ≠ I ↔ Pr ts I p q := by
  constructor
  · intro ne
    refine ⟨(· ∈ L), h.clo, h.sub p List.mem_cons_self, h.sub q (List.mem_cons_of_mem _ List.mem_cons_self), ?_⟩
    refine Classical.byContradiction fun no => ne (rise_ext h.rise r fun x => ⟨h.inI x, fun hx => Classical.byContradiction fun k => no ⟨x, hx, k⟩⟩)
  · rintro ⟨M, cM, mp, mq, z, zI, zM⟩ e
    refine zM (h.low M cM (fun x hx => ?_) z (e ▸ zI))
    rcases List.mem_cons.mp hx with k | k
    · rw [k]; exact mp
    · rw [List.mem_singleton.mp k]; exact mq
/-! the classes, one after another -/
open Classical in
structure GrP (ts : List (Int × Int)) (I : List Int) (G : List (List Int)) (Lt : List Int) : Prop where
  src : ∀ S ∈ G, ∃ p ∈ I, S = clsI ts I p
  left : Lt = I.filter fun x => decide (∀ S ∈ G, x ∉ S)
  ord : G.Pairwise HdLt
  ahd : ∀ S ∈ G, HdLt S Lt
open Classical in
theorem GrP.start (ts : List (Int × Int)) (I : List Int) : GrP ts I [] I := ⟨fun S h => absurd h List.not_mem_nil, by rw [List.filter_eq_self.mpr fun x _ => decide_eq_true fun S h => absurd h List.not_mem_nil], .nil, fun S h => absurd h List.not_mem_nil⟩
open Classical in
theorem GrP.mem {ts : List (Int × Int)} {I Lt : List Int} {G : List (List Int)} (h : GrP ts I G Lt) {x : Int} : x ∈ Lt ↔ x ∈ I ∧ ∀ S ∈ G, x ∉ S := by
  rw [h.left, List.mem_filter, decide_eq_true_iff]
open Classical in
theorem GrP.part {ts : List (Int × Int)} {I Lt : List Int} {G : List (List Int)} {p : Int} (w : Whl ts I) (h : GrP ts I G (p :: Lt)) : (p :: Lt).filter (fun q => decide (Pr ts I p q)) = clsI ts I p := by
  have pL := h.mem.mp List.mem_cons_self
  rw [h.left, List.filter_filter]
  unfold clsI
  refine List.filter_congr fun x hx => ?_
  by_cases hp : Pr ts I p x
  · rw [decide_eq_true hp, Bool.true_and]
    refine decide_eq_true fun S hS xS => ?_
    obtain ⟨r, rI, rfl⟩ := h.src S hS
    obtain ⟨_, rx⟩ := mem_clsI.mp xS
    exact pL.2 _ hS (mem_clsI.mpr ⟨pL.1, rx.trans w hx hp.symm⟩)
  · rw [decide_eq_false hp, Bool.false_and]
open Classical in
theorem GrP.step {ts : List (Int × Int)} {I Lt : List Int} {G : List (List Int)} {p : Int} (w : Whl ts I) (r : I.Pairwise (· < ·)) (l : 2 ≤ I.length) (h : GrP ts I G (p :: Lt)) : GrP ts I (G ++ [clsI ts I p]) ((p :: Lt).filter fun x => decide (x ∉ clsI ts I p)) ∧ p ∈ clsI ts I p := by
  have pL := h.mem.mp List.mem_cons_self
  obtain ⟨u, v, uI, vI, uv⟩ := two_of r l
  obtain ⟨z, zI, zp⟩ : ∃ z ∈ I, z ≠ p := by
    by_cases e : u = p
    · exact ⟨v, vI, fun z => uv (e.trans z.symm)⟩
    · exact ⟨u, uI, e⟩
  have pp : p ∈ clsI ts I p := mem_clsI.mpr ⟨pL.1, Pr.refl zI zp⟩
  have rL : (p :: Lt).Pairwise (· < ·) := by rw [h.left]; exact r.sublist List.filter_sublist
  have le : ∀ x ∈ p :: Lt, p ≤ x := fun x hx => by
    rcases List.mem_cons.mp hx with e | e
    · omega
    · have := (List.pairwise_cons.mp rL).1 x e; omega
  have cL : ∀ x ∈ clsI ts I p, x ∈ p :: Lt := fun x hx => by
    rw [← h.part w] at hx
    exact (List.mem_filter.mp hx).1
  refine ⟨⟨fun S hS => ?_, ?_, ?_, fun S hS => ?_⟩, pp⟩
  · rcases List.mem_append.mp hS with k | k
    · exact h.src S k
    · exact ⟨p, pL.1, List.mem_singleton.mp k⟩
  · rw [h.left, List.filter_filter]
    refine List.filter_congr fun x hx => ?_
    rw [Bool.eq_iff_iff, Bool.and_eq_true, decide_eq_true_iff, decide_eq_true_iff, decide_eq_true_iff]
    constructor
    · rintro ⟨a, b⟩ S hS
      rcases List.mem_append.mp hS with k | k
      · exact b S k
      · rw [List.mem_singleton.mp k]; exact a
    · intro a
      exact ⟨a _ (List.mem_append_right _ (List.mem_singleton.mpr rfl)), fun S hS => a S (List.mem_append_left _ hS)⟩
  · rw [List.pairwise_append]
    exact ⟨h.ord, List.pairwise_singleton _ _, fun S hS T hT => by rw [List.mem_singleton.mp hT]; exact (h.ahd S hS).sub cL⟩
  · rcases List.mem_append.mp hS with k | k
    · exact (h.ahd S k).sub fun x hx => (List.mem_filter.mp hx).1
    · rw [List.mem_singleton.mp k]
      refine ⟨p, pp, fun x hx => le x (cL x hx), fun t ht => ?_⟩
      obtain ⟨tL, tn⟩ := List.mem_filter.mp ht
      have := le t tL
      have : t ≠ p := fun e => (of_decide_eq_true tn) (e ▸ pp)
      omega
theorem GrP.done {ts : List (Int × Int)} {I : List Int} {G : List (List Int)} (w : Whl ts I) (h : GrP ts I G []) : ClsG ts I I.length G := by
  refine ⟨fun S hS => ?_, fun p hp => ?_, ?_, fun _ _ _ => h.ord⟩
  · rw [List.take_length]; exact h.src S hS
  · rw [List.take_length] at hp
    have : ∃ S ∈ G, p ∈ S := Classical.byContradiction fun no => by
      have := h.mem.mpr ⟨hp, fun S hS k => no ⟨S, hS, k⟩⟩
      cases this
    obtain ⟨S, hS, pS⟩ := this
    obtain ⟨r, rI, rfl⟩ := h.src S hS
    rw [← clsI_eq w rI hp (mem_clsI.mp pS).2]; exact hS
  · exact List.nodup_iff_pairwise_ne.mpr (h.ord.imp fun {S T} k e => by subst e; exact k.irr)
theorem GrP.len {ts : List (Int × Int)} {I Lt : List Int} {G : List (List Int)} (h : GrP ts I G Lt) : Lt.length ≤ I.length := by
  rw [h.left]; exact List.length_filter_le _ _
end My

set_option Elab.async false
set_option linter.all false
set_option maxRecDepth 100000
set_option pp.maxSteps 400
set_option maxHeartbeats 4000000
namespace My
open PySem PySem.Spec PyProof.Rows L2 GxR
section
variable {P : Program} {w : World} {K : PySem.W.Frag} {mg : Str → Option Value} {base : Heap}
/-! ### least_among -/
def sp_amongI : Sp := fun vs H Q _ => ∃ (v : V) (n : Nat) (ts : List (Int × Int)) (e d : Addr) (I S0 : List Int), vs = [v, .ref e, .ref d] ∧ Web H v n ts ∧ I.Nodup ∧ I.length ≤ 60 ∧ H e = some (.lst (I.map V.int)) ∧ H d = some (.lst (S0.map V.int)) ∧ (∀ x ∈ S0, x ∈ I) ∧ S0.length ≤ 1000 ∧
  ∀ L r H', H r = none → Same H H' → LeastD ts I S0 L → H' r = some (.lst (L.map V.int)) → Q (.ref r) H'
theorem ok_amongI {f : Addr} {fd : FuncData} (B : Bts mg) (F : Fun K "least_among" "least_among" s_least_among f fd) (c_is_parting : Cl P w K mg base 3 "is_parting" sp_parting) : FnOk P w K mg base CX0 4 f fd ["web", "everything", "places"] sp_amongI := by
  refine F.ok sc_least_among (fun vs H Q E h => ?_) (fun cdv A outer s H vs Q E hr h => ?_)
  · obtain ⟨v, n, ts, e, d, I, S0, rfl, _⟩ := h; rfl
  · obtain ⟨v, n, ts, e, d, I, S0, rfl, hW, nI, Il, ee, ed, hS, sl, q⟩ := h
    refine ⟨_, (pss_cons (ps_set (i := 3) sc_least_among.nd rfl (by first | exact Or.inl rfl | exact Or.inr rfl) (pe_dc (own := [("place", 4)]) (g := (gName 4)) (tt := tYes) rfl sc_least_among.nd (pi_list (pv 2)) (blkOk_by (own := [("place", 4)]) (N := N_least_among) (sc := defScope s_least_among) (by decide +kernel)) (fun _ _ _ _ _ => (pg_name (i := 4) sc_least_among.nd rfl (by first | exact Or.inl rfl | exact Or.inr rfl))) (fun _ _ _ _ _ => pts_nil) (fun _ _ _ _ _ => (pv 4)) (fun _ _ _ _ _ => pe_bl)))
    (pss_cons (ps_set (i := 5) sc_least_among.nd rfl (by first | exact Or.inl rfl | exact Or.inr rfl) pe_bl)
    (pss_cons (ps_while PassesOwn.never (pt_val (pv 5))
      (pss_cons (ps_setLc (i := 6) (own := [("place", 4)]) (g := (gName 4)) rfl sc_least_among.nd rfl rfl (sw_true rfl rfl rfl (by decide +kernel)) (pi_list (pv 1)) (blkOk_by (own := [("place", 4)]) (N := N_least_among) (sc := defScope s_least_among) (by decide +kernel)) (fun _ _ _ _ _ => (pg_name (i := 4) sc_least_among.nd rfl (by first | exact Or.inl rfl | exact Or.inr rfl))) (fun _ _ _ _ _ => (pts_one (PW.pt (pw_and (pt_cmp (pc_dnotin (hu_of hr) (pv 4) (pv 3))) (pw_and1 (pt_val (pe_c c_is_parting hr (by decide) (by rfl) (pa_cons (pv 0) (pa_cons (pv 4) (pa_cons (pv 3) pa_nil)))))))))) (fun _ _ _ _ _ => (pv 4)))
      (pss_cons (ps_for PassesOwn.never rfl (pi_list (pv 6)) (pg_name (i := 4) sc_least_among.nd rfl (by first | exact Or.inl rfl | exact Or.inr rfl))
        (pss_one (ps_dput (hu_of hr) (pv 3) (pv 4) pe_bl rfl)))
      (pss_one (ps_set (i := 5) sc_least_among.nd rfl (by first | exact Or.inl rfl | exact Or.inr rfl) (pe_callTy call_boolL (by rfl) B.bool (by decide +kernel) (pa_cons (pv 6) pa_nil)))))))
    (pss_one (ps_ret (pe_callB (call_sortedDI rfl) (by rfl) B.sorted (by decide +kernel) (pa_cons (pv 3) pa_nil))))))), ?_⟩
    refine ⟨_, rfl, d, rfl, ⟨_, SqL.of ed⟩, fun D nD => ?_⟩
    have Slen : (S0.map V.int).length = S0.length := List.length_map _
    refine wk (walk_list (K := K) (a := d) (xs := S0.map V.int)) (fun i H1 => ∃ kvs ks, Same H H1 ∧ H1 D = some (.dK kvs) ∧ KeysI kvs ks ∧ ks.Nodup ∧ (∀ x, x ∈ ks ↔ x ∈ S0.take i) ∧ ks.length ≤ i) ⟨[], [], same_new nD, upd_same, rfl, List.nodup_nil, fun x => Iff.rfl, Nat.le_refl _⟩ ?_ ?_ ?_
    · rintro i H1 _ ⟨_, _, sm, _⟩
      exact SqL.of (sm _ _ ed)
    · rintro i x H1 H2 hi ⟨kvs, ks, sm, eD, hk, nd, hm, kl⟩ ⟨rfl, hx⟩
      rw [List.getElem?_map] at hx
      obtain ⟨j, ej, rfl⟩ := Option.map_eq_some_iff.mp hx
      refine ⟨rfl, yes ?_⟩
      have kll := hk.len
      refine ⟨_, rfl, kvs, Sum.inl j, rfl, eD, sz' (by omega), ?_⟩
      refine ⟨_, _, Same.put sm nD, upd_same, hk.put j (.bl true), ?_, fun x => ?_, ?_⟩
      · by_cases h : j ∈ ks
        · rw [if_pos h]; exact nd
        · rw [if_neg h, List.nodup_append]
          exact ⟨nd, List.nodup_cons.mpr ⟨List.not_mem_nil, List.nodup_nil⟩, fun a ha b hb e => h (by rw [List.mem_singleton.mp hb] at e; exact e ▸ ha)⟩
      · rw [List.take_add_one, ej, List.mem_append, ← hm x]
        show _ ↔ _ ∨ x ∈ [j]
        rw [List.mem_singleton]
        by_cases h : j ∈ ks
        · rw [if_pos h]; exact ⟨.inl, fun z => z.elim id fun z => z ▸ h⟩
        · rw [if_neg h, List.mem_append, List.mem_singleton]
      · by_cases h : j ∈ ks
        · rw [if_pos h]; omega
        · rw [if_neg h, List.length_append]; exact Nat.succ_le_succ kl
    · rintro H1 ⟨kvs, ks, s1, eD, hk, nd, hm, kl⟩
      rw [Slen, List.take_length] at hm
      have L0 : LmI ts I S0 ks := ⟨fun x hx => (hm x).mpr hx, fun x hx => hS x ((hm x).mp hx), nd, fun M _ hS x hx => hS x ((hm x).mp hx)⟩
      let W : Nat → L2.St → Hp → Prop := fun m σ H1 => ∃ kvs ks g y4 y6, σ = [some v, some (.ref e), some (.ref d), some (.ref D), y4, some (.bl g), y6] ∧ Same H H1 ∧ H1 D = some (.dK kvs) ∧ KeysI kvs ks ∧ LmI ts I S0 ks ∧ (g = false → CloI ts I (· ∈ ks)) ∧ m = 2 * (I.length - ks.length) + g.toNat
      refine ⟨W, ⟨_, kvs, ks, true, none, none, rfl, s1, eD, hk, L0, fun z => (nomatch z), rfl⟩, ?_⟩
      rintro m σ H2 ⟨kvs, ks, g, y4, y6, rfl, s2, eD2, hk2, L2', hg, rfl⟩
      have kn : ks.length ≤ I.length := nd_len (m := I) L2'.nd L2'.inI
      refine ⟨_, rfl, g, rfl, ?_⟩
      cases g with
      | false =>
        refine iteF ⟨_, rfl, D, kvs, ks, rfl, .inl eD2, hk2, by omega, fun ys r pm pw nr => ?_⟩
        have sr := same_new (o := .lst (ys.map V.int)) nr
        exact q ys r _ (same_free s2 nr) (s2.trans sr) (leastD_of L2' (hg rfl) pm pw) upd_same
      | true =>
        refine iteT ⟨fun σ' H' => ∃ m', m' < 2 * (I.length - ks.length) + 1 ∧ W m' σ' H', fun σ' H' hh => hh, ?_⟩
        refine ⟨_, rfl, e, rfl, ⟨_, SqL.of (s2 _ _ ee)⟩, fun N nN => ?_⟩
        have ul : (I.map V.int).length = I.length := List.length_map _
        refine wk (walk_list (K := K) (a := e) (xs := I.map V.int)) (fun i H3 => Same H2 H3 ∧ H3 N = some (.lst ((moreI ts (I.take i) ks).map V.int))) ⟨same_new nN, upd_same⟩ ?_ ?_ ?_
        · rintro i H3 _ ⟨s3, _⟩
          exact SqL.of (s3 _ _ (s2 _ _ ee))
        · rintro i x H3 H4 hi ⟨s3, eN⟩ ⟨rfl, hx⟩
          rw [ul] at hi
          rw [List.getElem?_map] at hx
          obtain ⟨o, eo, rfl⟩ := Option.map_eq_some_iff.mp hx
          have st := moreI_step ts I ks eo
          have nl : (moreI ts (I.take i) ks).length ≤ i := Nat.le_trans (List.length_filter_le _ _) (by rw [List.length_take]; exact Nat.min_le_left _ _)
          refine ⟨rfl, _, rfl, _, rfl, D, _, rfl, DGet.k (k := Sum.inl o) (s3 _ _ eD2), _, rfl, ?_⟩
          rw [hk2.get]
          by_cases hi2 : o ∈ ks
          · rw [decide_eq_true hi2]
            rw [decide_eq_false (fun z => z hi2), Bool.false_and, if_neg (fun z => nomatch z), List.append_nil] at st
            refine iteF (iteF ⟨s3, ?_⟩)
            rw [st]; exact eN
          · rw [decide_eq_false hi2]
            rw [decide_eq_true hi2, Bool.true_and] at st
            refine iteT ⟨_, rfl, _, rfl, _, rfl, v, n, ts, o, D, kvs, ks, rfl, hW.mono (Same.tst (s2.trans s3)), s3 _ _ eD2, hk2, by omega, fun H5 s5 => ⟨_, rfl, ?_⟩⟩
            cases hp : partsB ts ks o with
            | false =>
              rw [hp, if_neg (fun z => nomatch z), List.append_nil] at st
              refine iteF ⟨s3.trans s5, ?_⟩
              rw [st]; exact s5 _ _ eN
            | true =>
              rw [hp, if_pos rfl] at st
              refine iteT ⟨_, rfl, _, s5 _ _ eN, sz' (by rw [List.length_map]; omega), Same.put (s3.trans s5) nN, ?_⟩
              rw [upd_same, st, List.map_append]; rfl
        · rintro H3 ⟨s3, eN⟩
          rw [ul, List.take_length] at eN
          have nND : N ≠ D := Ne.symm (ne_of_none eD2 nN)
          have nl : (moreI ts I ks).length ≤ I.length := List.length_filter_le _ _
          refine ⟨_, rfl, N, rfl, ⟨_, SqL.of eN⟩, ?_⟩
          refine for_it (walk_list (K := K) (a := N) (xs := (moreI ts I ks).map V.int)) (fun i σ H4 => ∃ kvs y4, σ = [some v, some (.ref e), some (.ref d), some (.ref D), y4, some (.bl true), some (.ref N)] ∧ Same H H4 ∧ H4 N = some (.lst ((moreI ts I ks).map V.int)) ∧ H4 D = some (.dK kvs) ∧ KeysI kvs (ks ++ (moreI ts I ks).take i))
            ⟨kvs, y4, rfl, s2.trans s3, eN, s3 _ _ eD2, by rw [List.take_zero, List.append_nil]; exact hk2⟩ ?_ ?_ ?_
          · rintro i σ H4 _ ⟨_, _, _, _, e4, _⟩
            exact SqL.of e4
          · rintro i x σ H4 H5 hi ⟨kvs4, y4, rfl, s4, eN4, eD4, hk4⟩ ⟨rfl, hx⟩
            rw [List.length_map] at hi
            rw [List.getElem?_map] at hx
            obtain ⟨j, ej, rfl⟩ := Option.map_eq_some_iff.mp hx
            have k4l := hk4.len
            rw [List.length_append, List.length_take] at k4l
            refine ⟨_, rfl, _, rfl, D, _, rfl, DPut.k (k := Sum.inl j) eD4 (sz' (by omega)), ?_⟩
            have nj : j ∉ ks ++ (moreI ts I ks).take i := by
              have Lnd := (lmI_more L2' nI).nd
              rw [← List.take_append_drop i (moreI ts I ks), ← List.append_assoc, List.nodup_append] at Lnd
              refine fun z => Lnd.2.2 j z j ?_ rfl
              rw [List.drop_eq_getElem_cons hi]
              have := (List.getElem?_eq_some_iff.mp ej).2
              rw [this]; exact List.mem_cons_self
            have hp := hk4.put j (.bl true)
            rw [if_neg nj] at hp
            refine ⟨_, _, rfl, Same.put s4 nD, by rw [upd_ne nND]; exact eN4, upd_same, ?_⟩
            rw [List.take_add_one, ej, ← List.append_assoc]
            exact hp
          · rintro σ H4 ⟨kvs4, y4, rfl, s4, eN4, eD4, hk4⟩
            rw [List.length_map, List.take_length] at hk4
            refine ⟨_, rfl, N, _, rfl, SqL.of eN4, ?_⟩
            have Lm' := lmI_more L2' nI
            refine ⟨_, ?_, kvs4, _, _, _, _, rfl, s4, eD4, hk4, Lm', fun z => ?_, rfl⟩
            · rw [List.length_append]
              cases hh : moreI ts I ks with
              | nil => show 2 * (I.length - (ks.length + 0)) + 0 < _; omega
              | cons a l =>
                have kn' : (ks ++ moreI ts I ks).length ≤ I.length := nd_len (m := I) Lm'.nd Lm'.inI
                rw [hh, List.length_append] at kn'
                rw [List.length_cons] at kn' ⊢
                show 2 * (I.length - (ks.length + (l.length + 1))) + 1 < _
                omega
            · cases hh : moreI ts I ks with
              | nil => rw [List.append_nil]; exact cloI_of hh
              | cons a l => rw [hh] at z; cases z
end
end My

set_option Elab.async false
set_option linter.all false
set_option maxRecDepth 100000
set_option pp.maxSteps 400
set_option maxHeartbeats 4000000
namespace My
open PySem PySem.Spec PyProof.Rows L2 GxR
section
variable {P : Program} {w : World} {K : PySem.W.Frag} {mg : Str → Option Value} {base : Heap}
/-! ### greatest_modules -/
abbrev s_greatest_modules : Stmt := topS 18
abbrev N_greatest_modules : List Str := ["web", "places", "sets", "left", "first", "part", "place"]
theorem sc_greatest_modules : FnScope N_greatest_modules ["web", "places"] (defScope s_greatest_modules) := ⟨rfl, rfl, rfl, by decide +kernel, rfl, by decide +kernel, by decide +kernel⟩
def sp_gm : Sp := fun vs H Q _ => ∃ (v : V) (n : Nat) (ts : List (Int × Int)) (pa : Addr) (I : List Int), vs = [v, .ref pa] ∧ Web H v n ts ∧ H pa = some (.lst (I.map V.int)) ∧ I.Pairwise (· < ·) ∧ 2 ≤ I.length ∧ I.length ≤ 60 ∧ Whl ts I ∧
  ∀ (G : List (List Int)) (r : Addr) (us : List V) (H' : Hp), H r = none → Same H H' → ClsG ts I I.length G → H' r = some (.lst us) → All2 (LsN [] H') us G → Q (.ref r) H'
open Classical in
theorem ok_gm {f : Addr} {fd : FuncData} (B : Bts mg) (F : Fun K "greatest_modules" "greatest_modules" s_greatest_modules f fd) (c_least_among : Cl P w K mg base 4 "least_among" sp_amongI) : FnOk P w K mg base CX0 5 f fd ["web", "places"] sp_gm := by
  refine F.ok sc_greatest_modules (fun vs H Q E h => ?_) (fun cdv A outer s H vs Q E hr h => ?_)
  · obtain ⟨v, n, ts, pa, I, rfl, _⟩ := h; rfl
  · obtain ⟨v, n, ts, pa, I, rfl, hW, ep, rise, I2, Il, wh, q⟩ := h
    refine ⟨_, (pss_cons (ps_set (i := 2) sc_greatest_modules.nd rfl (by first | exact Or.inl rfl | exact Or.inr rfl) (pe_lst pa_nil))
    (pss_cons (ps_set (i := 3) sc_greatest_modules.nd rfl (by first | exact Or.inl rfl | exact Or.inr rfl) (pv 1))
    (pss_cons (ps_while PassesOwn.never (pt_truth (pv 3) (by intro _; rfl))
      (pss_cons (ps_set (i := 4) sc_greatest_modules.nd rfl (by first | exact Or.inl rfl | exact Or.inr rfl) (pe_ix ix_list (pv 3) pe_int (fun _ _ => rfl)))
      (pss_cons (ps_set (i := 5) sc_greatest_modules.nd rfl (by first | exact Or.inl rfl | exact Or.inr rfl) (pe_lc (own := [("place", 6)]) (g := (gName 6)) (tt := (tTest (tOp (rNeD K) _ _))) rfl sc_greatest_modules.nd (pi_list (pv 3)) (blkOk_by (own := [("place", 6)]) (N := N_greatest_modules) (sc := defScope s_greatest_modules) (by decide +kernel)) (fun _ _ _ _ _ => (pg_name (i := 6) sc_greatest_modules.nd rfl (by first | exact Or.inl rfl | exact Or.inr rfl))) (fun _ _ _ _ _ => (pts_one (pt_cmpR (op_neD hr.units) (pe_c c_least_among hr (by decide) (by rfl) (pa_cons (pv 0) (pa_cons (pv 1) (pa_cons (pe_lst (pa_cons (pv 4) (pa_cons (pv 6) pa_nil))) pa_nil)))) (pv 1) (nomark _)))) (fun _ _ _ _ _ => (pv 6))))
      (pss_cons (ps_expr (pe_bm PySem.F.plainAttrs_list PySem.F.slot_list_append PySem.F.type_list_append mt_append (pv 2) (pa_cons (pv 5) pa_nil)))
      (pss_one (ps_setLc (i := 3) (own := [("place", 6)]) (g := (gName 6)) (tt := (tTest (tOp (rIn K true) _ _))) rfl sc_greatest_modules.nd rfl rfl (sw_true rfl rfl rfl (by decide +kernel)) (pi_list (pv 3)) (blkOk_by (own := [("place", 6)]) (N := N_greatest_modules) (sc := defScope s_greatest_modules) (by decide +kernel)) (fun _ _ _ _ _ => (pg_name (i := 6) sc_greatest_modules.nd rfl (by first | exact Or.inl rfl | exact Or.inr rfl))) (fun _ _ _ _ _ => (pts_one (pt_cmpR op_notIn_seq (pv 6) (pv 5) (by rfl)))) (fun _ _ _ _ _ => (pv 6))))))))
    (pss_one (ps_ret (pv 2)))))), ?_⟩
    have nI : I.Nodup := rise.imp fun h => Int.ne_of_lt h
    refine ⟨Nat.zero_le _, fun Sa nSa => ?_⟩
    have s1 := same_new (o := .lst []) nSa
    have eS1 := upd_same (H := H) (a := Sa) (o := .lst [])
    have pS : pa ≠ Sa := fun z => by rw [← z, ep] at nSa; cases nSa
    generalize upd H Sa (.lst []) = H1 at s1 eS1 ⊢
    refine ⟨_, rfl, ?_⟩
    let W : Nat → L2.St → Hp → Prop := fun m σ HX => ∃ G La Lt us y4 y5 y6, σ = [some v, some (.ref pa), some (.ref Sa), some (.ref La), y4, y5, y6] ∧ Same H HX ∧ HX Sa = some (.lst us) ∧ All2 (LsN [Sa] HX) us G ∧ HX La = some (.lst (Lt.map V.int)) ∧ La ≠ Sa ∧ GrP ts I G Lt ∧ G.length + Lt.length ≤ I.length ∧ m = Lt.length
    refine ⟨W, ⟨_, [], pa, I, [], _, _, _, rfl, s1, eS1, by exact trivial, s1 _ _ ep, pS, GrP.start ts I, by show 0 + _ ≤ _; omega, rfl⟩, ?_⟩
    rintro m σ HX ⟨G, La, Lt, us, y4, y5, y6, rfl, sX, eS, hA, eL, LS, hG, gl, rfl⟩
    have ul := hA.len
    refine ⟨_, rfl, !(Lt.map V.int).isEmpty, .inl ⟨_, SqL.of eL, rfl⟩, ?_⟩
    cases Lt with
    | nil =>
      refine iteF ⟨_, rfl, q G Sa us HX nSa sX (hG.done wh) eS (hA.imp fun _ _ ⟨q0, e, nb, h⟩ => ⟨q0, e, List.not_mem_nil, h⟩)⟩
    | cons p Lt1 =>
      refine iteT ⟨fun σ' H' => ∃ m', m' < (p :: Lt1).length ∧ W m' σ' H', fun σ' H' hh => hh, ?_⟩
      have pL := hG.mem.mp List.mem_cons_self
      have LI : ∀ x ∈ p :: Lt1, x ∈ I := fun x hx => (hG.mem.mp hx).1
      obtain ⟨hstep, pp⟩ := hG.step wh rise I2
      refine ⟨_, rfl, La, _, 0, .int p, rfl, rfl, SqL.of eL, atI_nat (j := 0) rfl, ?_⟩
      -- part
      refine ⟨_, rfl, La, rfl, ⟨_, SqL.of eL⟩, fun D nD => ?_⟩
      refine wk (walk_list (K := K) (a := La) (xs := (p :: Lt1).map V.int)) (fun j HZ => Same HX HZ ∧ HZ D = some (.lst ((((p :: Lt1).take j).filter fun q => decide (Pr ts I p q)).map V.int))) ⟨same_new nD, upd_same⟩ ?_ ?_ ?_
      · rintro j HZ _ ⟨sZ, _⟩
        exact SqL.of (sZ _ _ eL)
      · rintro j x HZ0 HZ hj ⟨sZ, eD⟩ ⟨rfl, hx⟩
        rw [List.length_map] at hj
        rw [List.getElem?_map] at hx
        obtain ⟨o, eo, rfl⟩ := Option.map_eq_some_iff.mp hx
        have oI := LI o (List.mem_of_getElem? eo)
        have fl := List.length_filter_le (fun q => decide (Pr ts I p q)) ((p :: Lt1).take j)
        rw [List.length_take] at fl
        have stp : ((p :: Lt1).take (j + 1)).filter (fun q => decide (Pr ts I p q)) = ((p :: Lt1).take j).filter (fun q => decide (Pr ts I p q)) ++ (if decide (Pr ts I p o) = true then [o] else []) := by
          rw [List.take_add_one, eo, List.filter_append]
          show _ ++ List.filter _ [o] = _
          rw [List.filter_cons]; rfl
        refine ⟨rfl, _, rfl, _, rfl, _, rfl, _, rfl, by show 2 ≤ sizeLine; decide, fun l nl => ?_⟩
        have sl := same_new (o := .lst [.int p, .int o]) nl
        have s0l := (sX.trans sZ).trans sl
        refine ⟨v, n, ts, pa, l, I, [p, o], rfl, hW.mono (Same.tst s0l), nI, Il, s0l _ _ ep, upd_same, fun x hx => ?_, by show 2 ≤ 1000; decide, fun L r HW nr sW hL er => ?_⟩
        · rcases List.mem_cons.mp hx with z | z
          · rw [z]; exact pL.1
          · rw [List.mem_singleton.mp z]; exact oI
        have s0W := s0l.trans sW
        refine ⟨_, rfl, dI L, dI I, .lst (SqL.of er) (dpI L), .lst (SqL.of (s0W _ _ ep)) (dpI I), shaped_dI L, shaped_dI I, _, rfl, ?_⟩
        rw [eqv_dI2]
        have eDW := (sl.trans sW) _ _ eD
        have sZW := sZ.trans (sl.trans sW)
        by_cases hp : Pr ts I p o
        · rw [decide_eq_false ((leastD_ne rise hL).mpr hp)]
          rw [decide_eq_true hp, if_pos rfl] at stp
          refine iteT ⟨_, rfl, _, eDW, sz' (by rw [List.length_map]; have := hG.len; omega), Same.put sZW nD, ?_⟩
          rw [upd_same, stp, List.map_append]; rfl
        · rw [decide_eq_true (Classical.byContradiction fun z => hp ((leastD_ne rise hL).mp z))]
          rw [decide_eq_false hp, if_neg (by decide), List.append_nil] at stp
          refine iteF ⟨sZW, ?_⟩
          rw [stp]; exact eDW
      rintro HD ⟨sD, eD⟩
      rw [List.length_map, List.take_length, hG.part wh] at eD
      have eSD := sD _ _ eS
      have eLD := sD _ _ eL
      have DS : D ≠ Sa := fun z => by rw [z, eS] at nD; cases nD
      refine ⟨_, rfl, .inl ⟨rfl, _, SqL.of eSD⟩, _, rfl, Sa, us, .ref D, rfl, rfl, eSD, sz' (by omega), ?_⟩
      have sP : Same H (upd HD Sa (.lst (us ++ [.ref D]))) := Same.put (sX.trans sD) nSa
      have eSP := upd_same (H := HD) (a := Sa) (o := .lst (us ++ [.ref D]))
      have eLP : (upd HD Sa (.lst (us ++ [.ref D]))) La = some (.lst ((p :: Lt1).map V.int)) := by rw [upd_ne LS]; exact eLD
      have eDP : (upd HD Sa (.lst (us ++ [.ref D]))) D = some (.lst ((clsI ts I p).map V.int)) := by rw [upd_ne DS]; exact eD
      have hAP : All2 (LsN [Sa] (upd HD Sa (.lst (us ++ [.ref D])))) (us ++ [.ref D]) (G ++ [clsI ts I p]) := All2.app (hA.imp fun _ _ ⟨q0, e, nb, h⟩ => ⟨q0, e, nb, by rw [upd_ne (fun z => nb (List.mem_singleton.mpr z))]; exact sD _ _ h⟩) ⟨⟨D, rfl, fun z => DS (List.mem_singleton.mp z), eDP⟩, trivial⟩
      generalize upd HD Sa (.lst (us ++ [.ref D])) = HP at sP eSP eLP eDP hAP ⊢
      -- left
      refine ⟨_, rfl, La, rfl, ⟨_, SqL.of eLP⟩, fun E nE => ?_⟩
      refine wk (walk_list (K := K) (a := La) (xs := (p :: Lt1).map V.int)) (fun j HZ => Same HP HZ ∧ HZ E = some (.lst ((((p :: Lt1).take j).filter fun x => decide (x ∉ clsI ts I p)).map V.int))) ⟨same_new nE, upd_same⟩ ?_ ?_ ?_
      · rintro j HZ _ ⟨sZ, _⟩
        exact SqL.of (sZ _ _ eLP)
      · rintro j x HZ0 HZ hj ⟨sZ, eE⟩ ⟨rfl, hx⟩
        rw [List.length_map] at hj
        rw [List.getElem?_map] at hx
        obtain ⟨o, eo, rfl⟩ := Option.map_eq_some_iff.mp hx
        have fl := List.length_filter_le (fun x => decide (x ∉ clsI ts I p)) ((p :: Lt1).take j)
        rw [List.length_take] at fl
        have stp : ((p :: Lt1).take (j + 1)).filter (fun x => decide (x ∉ clsI ts I p)) = ((p :: Lt1).take j).filter (fun x => decide (x ∉ clsI ts I p)) ++ (if decide (o ∉ clsI ts I p) = true then [o] else []) := by
          rw [List.take_add_one, eo, List.filter_append]
          show _ ++ List.filter _ [o] = _
          rw [List.filter_cons]; rfl
        refine ⟨rfl, _, rfl, _, rfl, D, _, rfl, .inl (SqL.of (sZ _ _ eDP)), rfl, all_flat _, _, rfl, ?_⟩
        rw [inV_int]
        by_cases hp : o ∈ clsI ts I p
        · rw [decide_eq_true hp]
          rw [decide_eq_false (fun z => z hp), if_neg (by decide), List.append_nil] at stp
          refine iteF ⟨sZ, ?_⟩
          rw [stp]; exact eE
        · rw [decide_eq_false hp]
          rw [decide_eq_true hp, if_pos rfl] at stp
          refine iteT ⟨_, rfl, _, eE, sz' (by rw [List.length_map]; have := hG.len; omega), Same.put sZ nE, ?_⟩
          rw [upd_same, stp, List.map_append]; rfl
      rintro HE ⟨sE, eE⟩
      rw [List.length_map, List.take_length] at eE
      have ll : ((p :: Lt1).filter fun x => decide (x ∉ clsI ts I p)).length ≤ Lt1.length := by
        rw [List.filter_cons_of_neg (by rw [decide_eq_true_iff]; exact fun z => z pp)]
        exact List.length_filter_le _ _
      have eSE := sE _ _ eSP
      have ES : E ≠ Sa := fun z => by rw [z, eSP] at nE; cases nE
      refine ⟨_, Nat.lt_succ_of_le ll, G ++ [clsI ts I p], E, _, us ++ [.ref D], _, _, _, rfl, sP.trans sE, eSE, hAP.imp fun _ _ ⟨q0, e, nb, h⟩ => ⟨q0, e, nb, sE _ _ h⟩, eE, ES, hstep, ?_, rfl⟩
      rw [List.length_append]
      have e1 : ([clsI ts I p] : List (List Int)).length = 1 := rfl
      rw [List.length_cons] at gl
      omega
end
end My

set_option Elab.async false
set_option linter.all false
set_option maxRecDepth 100000
set_option pp.maxSteps 400
set_option maxHeartbeats 4000000
namespace My
open PySem PySem.Spec PyProof.Rows L2 GxR
theorem SetsI.pos {ts : List (Int × Int)} {b : Bool} {I : List Int} {F : List (List Int)} (h : SetsI ts b I F) (ne : I ≠ []) : 1 ≤ F.length := by
  cases F with
  | nil => exact absurd h.perm.symm.eq_nil ne
  | cons _ _ => exact Nat.succ_le_succ (Nat.zero_le _)
theorem FrM.free {PT r : Addr} {H H' : Hp} (f : FrM [PT] H H') (t : TabG H' PT) (n : H' r = none) : H r = none := by
  cases hh : H r with
  | none => rfl
  | some o =>
    exfalso
    by_cases hp : r = PT
    · obtain ⟨ps, h1, _⟩ := t
      rw [hp, h1] at n; cases n
    · rw [f r o (fun m => hp (List.mem_singleton.mp m)) hh] at n; cases n
theorem rg_upT (n : Nat) : rgV 0 (n : Int) = (up n).map V.int := by
  unfold rgV up
  rw [List.map_map, show ((n : Int) - 0).toNat = n from by omega]
  exact List.map_congr_left fun i _ => congrArg V.int (Int.zero_add _)
theorem adj_gaps {n : Nat} {ts : List (Int × Int)} {x y : Int} (hx : 0 ≤ x ∧ x < (n : Int)) (hy : 0 ≤ y ∧ y < (n : Int)) (ne : x ≠ y) : adjB (gapsF ts (pup n n)) x y = !adjB ts x y := by
  have mp : tieO x y ∈ pup n n := by
    rw [mem_pup (Nat.le_refl n)]
    unfold tieO
    split
    · dsimp only; omega
    · dsimp only; omega
  unfold adjB gapsF
  rw [Bool.eq_iff_iff, decide_eq_true_iff, List.mem_filter, Bool.not_eq_true', decide_eq_false_iff_not]
  exact ⟨fun z => z.2, fun z => ⟨mp, z⟩⟩
section
variable {P : Program} {w : World} {K : PySem.W.Frag} {mg : Str → Option Value} {base : Heap}
/-! ### tree_of -/
abbrev s_tree_of : Stmt := topS 16
abbrev N_tree_of : List Str := ["web", "gaps", "places", "kind", "sets", "part"]
theorem sc_tree_of : FnScope N_tree_of ["web", "gaps", "places"] (defScope s_tree_of) := ⟨rfl, rfl, rfl, by decide +kernel, rfl, by decide +kernel, by decide +kernel⟩
def sp_tree (PT : Addr) : Nat → Sp
  | 0 => fun _ _ _ _ => False
  | m + 1 => fun vs H Q _ => ∃ (v g : V) (n : Nat) (ts gs : List (Int × Int)) (pa : Addr) (I : List Int), vs = [v, g, .ref pa] ∧ Web H v n ts ∧ Web H g n gs ∧ (∀ x ∈ I, ∀ y ∈ I, x ≠ y → adjB gs x y = !adjB ts x y) ∧ H pa = some (.lst (I.map V.int)) ∧ I.Pairwise (· < ·) ∧ I ≠ [] ∧ I.length ≤ m ∧ m ≤ 30 ∧ TabG H PT ∧
    ∀ u H', FrM [PT] H H' → TabG H' PT → TrX ts H' m u I → Q u H'
theorem ok_tree1 {f PT : Addr} {fd : FuncData} {m : Nat} (B : Bts mg) (F : Fun K "tree_of" "tree_of" s_tree_of f fd) (c_joined_sets : Cl P w K mg base 4 "joined_sets" (sp_joined PT)) (c_greatest_modules : Cl P w K mg base 5 "greatest_modules" sp_gm) (c_tree_of : Cl P w K mg base (m + 6) "tree_of" (sp_tree PT m)) :
    FnOk P w K mg base CX0 (m + 7) f fd ["web", "gaps", "places"] (sp_tree PT (m + 1)) := by
  refine F.ok sc_tree_of (fun vs H Q E h => ?_) (fun cdv A outer s H vs Q E hr h => ?_)
  · obtain ⟨v, g, n, ts, gs, pa, I, rfl, _⟩ := h; rfl
  · obtain ⟨v, g, n, ts, gs, pa, I, rfl, hW, hG, gap, ep, rise, Ine, Il, m30, tg, q⟩ := h
    refine ⟨_, (pss_cons (ps_if (pt_cmpR op_eq (pe_callB call_len_seq (by rfl) B.len (by decide +kernel) (pa_cons (pv 2) pa_nil)) pe_int (nomark _)) (pss_one (ps_ret (pe_tup (pa_cons pe_str (pa_cons (pe_ix ix_list (pv 2) pe_int (fun _ _ => rfl)) pa_nil))))) pss_nil)
    (pss_cons (ps_set (i := 3) sc_tree_of.nd rfl (by first | exact Or.inl rfl | exact Or.inr rfl) pe_str)
    (pss_cons (ps_set (i := 4) sc_tree_of.nd rfl (by first | exact Or.inl rfl | exact Or.inr rfl) (pe_c c_joined_sets hr (by omega) (by rfl) (pa_cons (pv 0) (pa_cons (pv 2) pa_nil))))
    (pss_cut (ps_if (pt_cmpR op_eq (pe_callB call_len_seq (by rfl) B.len (by decide +kernel) (pa_cons (pv 4) pa_nil)) pe_int (nomark _)) (pss_cons (ps_set (i := 3) sc_tree_of.nd rfl (by first | exact Or.inl rfl | exact Or.inr rfl) pe_str)
      (pss_one (ps_set (i := 4) sc_tree_of.nd rfl (by first | exact Or.inl rfl | exact Or.inr rfl) (pe_c c_joined_sets hr (by omega) (by rfl) (pa_cons (pv 1) (pa_cons (pv 2) pa_nil)))))) pss_nil)
    (pss_cut (ps_if (pt_cmpR op_eq (pe_callB call_len_seq (by rfl) B.len (by decide +kernel) (pa_cons (pv 4) pa_nil)) pe_int (nomark _)) (pss_cons (ps_set (i := 3) sc_tree_of.nd rfl (by first | exact Or.inl rfl | exact Or.inr rfl) pe_str)
      (pss_one (ps_set (i := 4) sc_tree_of.nd rfl (by first | exact Or.inl rfl | exact Or.inr rfl) (pe_c c_greatest_modules hr (by omega) (by rfl) (pa_cons (pv 0) (pa_cons (pv 2) pa_nil)))))) pss_nil)
    (pss_one (ps_ret (pe_tup (pa_cons (pv 3) (pa_cons (pe_callTy call_tuple_of (by rfl) B.tuple (by decide +kernel) (pa_cons (pe_lc (own := [("part", 5)]) (g := (gName 5)) (tt := tYes) rfl sc_tree_of.nd (pi_list (pv 4)) (blkOk_by (own := [("part", 5)]) (N := N_tree_of) (sc := defScope s_tree_of) (by decide +kernel)) (fun _ _ _ _ _ => (pg_name (i := 5) sc_tree_of.nd rfl (by first | exact Or.inl rfl | exact Or.inr rfl))) (fun _ _ _ _ _ => pts_nil) (fun _ _ _ _ _ => (pe_c c_tree_of hr (Nat.le_refl _) (by rfl) (pa_cons (pv 0) (pa_cons (pv 1) (pa_cons (pv 5) pa_nil)))))) pa_nil)) pa_nil)))))))))), ?_⟩
    have nI : I.Nodup := rise.imp fun h => Int.ne_of_lt h
    have I0 := List.length_pos_iff.mpr Ine
    obtain ⟨m, rfl⟩ : ∃ k, m = k + 1 := ⟨m - 1, by omega⟩
    refine ⟨_, rfl, pa, _, rfl, .inl (SqL.of ep), rfl, _, rfl, ite2 (fun e => ?_) (fun e => ?_)⟩
    · have l1 : I.length = 1 := by
        have := V.int.inj (of_decide_eq_true e)
        rw [List.length_map] at this; omega
      obtain ⟨i, rfl⟩ := List.length_eq_one_iff.mp l1
      refine ⟨_, rfl, pa, _, 0, .int i, rfl, rfl, SqL.of ep, atI_nat (j := 0) rfl, by show 2 ≤ sizeLine; decide, fun p np => ?_⟩
      exact q _ _ (FrM.same (same_new np)) (tabG_sameM tg (same_new np)) (.inl ⟨p, i, rfl, upd_same, rfl⟩)
    have I2 : 2 ≤ I.length := by
      refine Classical.byContradiction fun k => e ?_
      rw [List.length_map]
      have : I.length = 1 := by omega
      rw [this]; exact decide_eq_true rfl
    -- apart
    refine ⟨_, rfl, _, rfl, v, n, ts, pa, I, rfl, hW, ep, rise, by omega, tg, fun F1 r1 us1 H1 nr1 f1 t1 h1 er1 hA1 => ?_⟩
    have tst1 := frM_tst f1 tg
    have ul1 := hA1.len
    have ps1 := h1.pos Ine
    -- all
    refine ⟨fun σ HX => ∃ (kd : Str) (r : Addr) (us : List V) (Fc : List (List Int)), σ = [some v, some g, some (.ref pa), some (.str kd), some (.ref r), none] ∧ FrM [PT] H HX ∧ TabG HX PT ∧ HX r = some (.lst us) ∧ All2 (LsN [] HX) us Fc ∧ ((kd = "apart" ∧ SetsI ts true I Fc ∧ 1 < Fc.length) ∨ (kd = "all" ∧ (∃ F1, SetsI ts true I F1 ∧ ¬ 1 < F1.length) ∧ SetsI ts false I Fc)), ?_, ?_⟩
    · refine ⟨_, rfl, r1, _, rfl, .inl (SqL.of er1), rfl, _, rfl, ite2 (fun e => ?_) (fun e => ?_)⟩
      · have l1 : us1.length = 1 := by have := V.int.inj (of_decide_eq_true e); omega
        refine ⟨_, rfl, _, rfl, g, n, gs, pa, I, rfl, hG.mono tst1, frM_lst f1 tg ep, rise, by omega, t1, fun F2 r2 us2 H2 nr2 f2 t2 h2 er2 hA2 => ?_⟩
        exact ⟨"all", r2, us2, F2, rfl, f1.trans f2, t2, er2, hA2, .inr ⟨rfl, ⟨F1, h1, by omega⟩, h2.gaps gap⟩⟩
      · have l1 : 1 < F1.length := by
          refine Classical.byContradiction fun k => e ?_
          have : us1.length = 1 := by omega
          rw [this]; exact decide_eq_true rfl
        exact ⟨"apart", r1, us1, F1, rfl, f1, t1, er1, hA1, .inl ⟨rfl, h1, l1⟩⟩
    rintro σ H2 ⟨kd, r2, us2, F2, rfl, f2, t2, er2, hA2, hk2⟩
    have tst2 := frM_tst f2 tg
    have ul2 := hA2.len
    have ps2 : 1 ≤ F2.length := by
      rcases hk2 with ⟨_, h, _⟩ | ⟨_, _, h⟩
      · exact h.pos Ine
      · exact h.pos Ine
    -- close
    refine ⟨fun σ HX => ∃ (kd : Str) (r : Addr) (us : List V) (Fc : List (List Int)), σ = [some v, some g, some (.ref pa), some (.str kd), some (.ref r), none] ∧ FrM [PT] H HX ∧ TabG HX PT ∧ HX r = some (.lst us) ∧ All2 (LsN [] HX) us Fc ∧ KindX ts I kd Fc, ?_, ?_⟩
    · refine ⟨_, rfl, r2, _, rfl, .inl (SqL.of er2), rfl, _, rfl, ite2 (fun e => ?_) (fun e => ?_)⟩
      · have l1 : us2.length = 1 := by have := V.int.inj (of_decide_eq_true e); omega
        have n1 : ¬ 1 < F2.length := by omega
        obtain ⟨⟨F1', a1, a2⟩, b1⟩ : (∃ F1, SetsI ts true I F1 ∧ ¬ 1 < F1.length) ∧ SetsI ts false I F2 := by
          rcases hk2 with ⟨_, _, h⟩ | ⟨_, h, k⟩
          · exact absurd h n1
          · exact ⟨h, k⟩
        refine ⟨_, rfl, _, rfl, v, n, ts, pa, I, rfl, hW.mono tst2, frM_lst f2 tg ep, rise, I2, by omega, whl_of a1 b1 a2 n1, fun G r us H3 nr s3 hC er hA => ?_⟩
        exact ⟨"close", r, us, G, rfl, f2.trans (FrM.same s3), tabG_sameM t2 s3, er, hA, .inr (.inr ⟨rfl, ⟨F1', a1, a2⟩, ⟨F2, b1, n1⟩, hC⟩)⟩
      · have l1 : 1 < F2.length := by
          refine Classical.byContradiction fun k => e ?_
          have : us2.length = 1 := by omega
          rw [this]; exact decide_eq_true rfl
        refine ⟨kd, r2, us2, F2, rfl, f2, t2, er2, hA2, ?_⟩
        rcases hk2 with ⟨rfl, h, k⟩ | ⟨rfl, h, k⟩
        · exact .inl ⟨rfl, h, k⟩
        · exact .inr (.inl ⟨rfl, h, k, l1⟩)
    rintro σ H3 ⟨kd, r3, us3, F3, rfl, f3, t3, er3, hA3, hk⟩
    have tst3 := frM_tst f3 tg
    have pt := hk.part rise I2
    have ptl := pt.len
    have ul3 := hA3.len
    have hW3 := hW.mono tst3
    have hG3 := hG.mono tst3
    refine ⟨_, rfl, _, rfl, r3, rfl, ⟨_, SqL.of er3⟩, fun D nD => ?_⟩
    refine wk (walk_list (K := K) (a := r3) (xs := us3)) (fun j HY => ∃ ws, FrM [PT] H3 HY ∧ TabG HY PT ∧ HY D = some (.lst ws) ∧ All2 (TrX ts HY m) ws (F3.take j)) ⟨[], FrM.same (same_new nD), tabG_sameM t3 (same_new nD), upd_same, by exact trivial⟩ ?_ ?_ ?_
    · rintro j HY _ ⟨_, fY, _⟩
      exact SqL.of (frM_lst fY t3 er3)
    · rintro j x HY0 HY hj ⟨ws, fY, tY, eD, hT⟩ ⟨rfl, hx2⟩
      obtain ⟨S, eS, q0, rfl, _, eq0⟩ := hA3.at hx2
      have Sm := List.mem_of_getElem? eS
      have less := pt.less Sm
      have wl := hT.len
      rw [List.length_take] at wl
      have tY3 := frM_tst fY t3
      refine ⟨rfl, yes ⟨_, rfl, _, rfl, _, rfl, v, g, n, ts, gs, q0, S, rfl, hW3.mono tY3, hG3.mono tY3, fun x hx y hy => gap x (pt.mem Sm x hx) y (pt.mem Sm y hy), frM_lst fY t3 eq0, pt.rise S Sm, pt.ne S Sm, by omega, by omega, tY, fun u HU fU tU ht => ?_⟩⟩
      have eDU := frM_lst fU tY eD
      have tp := tst_put (o := .lst (ws ++ [u])) eDU
      refine ⟨ws, eDU, sz' (by omega), ws ++ [u], (fY.trans fU).putN nD, tabG_putM tU eDU, upd_same, ?_⟩
      rw [List.take_add_one, eS]
      exact (hT.imp fun _ _ h => (h.mono (frM_tst fU tY)).mono tp).app ⟨ht.mono tp, trivial⟩
    rintro HY ⟨ws, fY, tY, eD, hT⟩
    rw [ul3, List.take_length] at hT
    refine ⟨D, ws, rfl, .inl ⟨SqL.of eD, fun q1 nq1 => ⟨by show 2 ≤ sizeLine; decide, fun p np => ?_⟩⟩⟩
    have sq1 := same_new (o := .tup ws) nq1
    have sp_ := same_new (o := .tup [.str kd, .ref q1]) np
    have sE := sq1.trans sp_
    refine q _ _ ((f3.trans fY).trans (FrM.same sE)) (tabG_sameM tY sE) (.inr ⟨p, q1, kd, ws, F3, rfl, upd_same, ⟨rise, I2⟩, hk, sp_ _ _ upd_same, hT.imp fun _ _ h => h.mono (Same.tst sE)⟩)
theorem ok_tree {f PT : Addr} {fd : FuncData} (B : Bts mg) (F : Fun K "tree_of" "tree_of" s_tree_of f fd) (hm : mg "tree_of" = some (.ref f)) (hb : Binds K fd ["web", "gaps", "places"] []) (c_joined_sets : Cl P w K mg base 4 "joined_sets" (sp_joined PT)) (c_greatest_modules : Cl P w K mg base 5 "greatest_modules" sp_gm) :
    ∀ m, FnOk P w K mg base CX0 (m + 6) f fd ["web", "gaps", "places"] (sp_tree PT m)
  | 0 => ⟨fun _ _ _ _ h => h.elim, fun _ _ _ _ _ _ _ _ _ _ _ _ _ h => h.elim⟩
  | m + 1 => ok_tree1 B F c_joined_sets c_greatest_modules (Cl.mk' F hm hb (ok_tree B F hm hb c_joined_sets c_greatest_modules m))
/-! ### parts_of -/
abbrev s_parts_of : Stmt := topS 12
abbrev N_parts_of : List Str := ["web"]
theorem sc_parts_of : FnScope N_parts_of ["web"] (defScope s_parts_of) := ⟨rfl, rfl, rfl, by decide +kernel, rfl, by decide +kernel, by decide +kernel⟩
def sp_parts (PT : Addr) : Sp := fun vs H Q _ => ∃ (v : V) (n : Nat) (ts : List (Int × Int)), vs = [v] ∧ Web H v n ts ∧ n ≤ 12 ∧ ts.length ≤ 10000 ∧ TabG H PT ∧
  ∀ u H', FrM [PT] H H' → TabG H' PT → ((n = 0 ∧ u = .non) ∨ (0 < n ∧ TrX ts H' 12 u (up n))) → Q u H'
theorem ok_parts {f PT : Addr} {fd : FuncData} (B : Bts mg) (F : Fun K "parts_of" "parts_of" s_parts_of f fd) (c_tree_of : Cl P w K mg base 19 "tree_of" (sp_tree PT 13)) (c_gaps_of : Cl P w K mg base 1 "gaps_of" sp_gaps) : FnOk P w K mg base CX0 20 f fd ["web"] (sp_parts PT) := by
  refine F.ok sc_parts_of (fun vs H Q E h => ?_) (fun cdv A outer s H vs Q E hr h => ?_)
  · obtain ⟨v, n, ts, rfl, _⟩ := h; rfl
  · obtain ⟨v, n, ts, rfl, hW, hn, tl, tg, q⟩ := h
    refine ⟨_, (pss_cons (ps_if (pt_cmpR op_eq (pe_ix ix_tup (pv 0) pe_int (fun _ _ => rfl)) pe_int (nomark _)) (pss_one (ps_ret pe_non)) pss_nil)
    (pss_one (ps_ret (pe_c c_tree_of hr (by decide) (by rfl) (pa_cons (pv 0) (pa_cons (pe_c c_gaps_of hr (by decide) (by rfl) (pa_cons (pv 0) pa_nil)) (pa_cons (pe_listRg rfl (by rfl) B.list (prg_1 (by rfl) B.range (pe_ix ix_tup (pv 0) pe_int (fun _ _ => rfl)))) pa_nil))))))), ?_⟩
    obtain ⟨pw, qw, uw, rfl, ew, _⟩ := id hW
    refine ⟨_, rfl, pw, _, 0, .int (n : Int), rfl, rfl, SqT.of ew, atI_nat (j := 0) rfl, rfl, _, rfl, ite2 (fun e => ?_) (fun e => ?_)⟩
    · have n0 : n = 0 := by have := V.int.inj (of_decide_eq_true e); omega
      exact q _ H (FrM.refl _ _) tg (.inl ⟨n0, rfl⟩)
    · have n0 : 0 < n := by
        refine Nat.pos_of_ne_zero fun z => e ?_
        rw [z]; exact decide_eq_true rfl
      refine ⟨_, rfl, _, rfl, .ref pw, n, ts, rfl, hW, tl, by omega, fun g H1 s1 hG => ?_⟩
      refine ⟨_, rfl, pw, _, 0, .int (n : Int), rfl, rfl, SqT.of (s1 _ _ ew), atI_nat (j := 0) rfl, _, rfl, ⟨by omega, by omega, by omega, by omega⟩, fun e ne => ?_⟩
      have se := same_new (o := .lst (rgV 0 (n : Int))) ne
      have ee := upd_same (H := H1) (a := e) (o := .lst (rgV 0 (n : Int)))
      rw [rg_upT] at se ee ⊢
      have s2 := s1.trans se
      refine ⟨.ref pw, g, n, ts, _, e, up n, rfl, hW.mono (Same.tst s2), hG.mono (Same.tst se), fun x hx y hy xy => adj_gaps (mem_up.mp hx) (mem_up.mp hy) xy, ee, (ris_up n).1, (fun z => by have := up_len n; rw [z] at this; simp at this; omega), by rw [up_len]; omega, by decide, tabG_sameM tg s2, fun u H2 f2 t2 hu => ?_⟩
      exact q u H2 ((FrM.same s2).trans f2) t2 (.inr ⟨n0, hu⟩)
end
end My

set_option Elab.async false
set_option linter.all false
set_option maxRecDepth 100000
set_option pp.maxSteps 400
set_option maxHeartbeats 4000000
namespace My
open PySem PySem.Spec PyProof.Rows L2 GxR
section
variable {P : Program} {w : World} {K : PySem.W.Frag} {mg : Str → Option Value} {base : Heap}
/-! ### places_in -/
abbrev s_places_in : Stmt := topS 13
abbrev N_places_in : List Str := ["tree", "kind", "inside", "part", "place"]
theorem sc_places_in : FnScope N_places_in ["tree"] (defScope s_places_in) := ⟨rfl, rfl, rfl, by decide +kernel, rfl, by decide +kernel, by decide +kernel⟩
def sp_plin (m : Nat) : Sp := fun vs H Q _ => ∃ (v : V) (I : List Int), vs = [v] ∧ TrAt H m v I ∧ I.length ≤ 100 ∧
  ∀ (T : List Int) (r : Addr) (H' : Hp), H r = none → Same H H' → T.Perm I → T.Pairwise (· ≤ ·) → H' r = some (.lst (T.map V.int)) → Q (.ref r) H'
theorem ok_plin1 {f : Addr} {fd : FuncData} {m : Nat} (B : Bts mg) (F : Fun K "places_in" "places_in" s_places_in f fd) (c_places_in : Cl P w K mg base (m + 1) "places_in" (sp_plin m)) :
    FnOk P w K mg base CX0 (m + 2) f fd ["tree"] (sp_plin (m + 1)) := by
  refine F.ok sc_places_in (fun vs H Q E h => ?_) (fun cdv A outer s H vs Q E hr h => ?_)
  · obtain ⟨v, I, rfl, _⟩ := h; rfl
  · obtain ⟨v, I, rfl, hv, Il, q⟩ := h
    refine ⟨_, (pss_cons (ps_asg (pv 0) (pg_tup rfl (pgs_cons (pg_name (i := 1) sc_places_in.nd rfl (by first | exact Or.inl rfl | exact Or.inr rfl)) (pgs_cons (pg_name (i := 2) sc_places_in.nd rfl (by first | exact Or.inl rfl | exact Or.inr rfl)) pgs_nil))))
    (pss_cons (ps_if (pt_cmpR op_eq (pv 1) pe_str (nomark _)) (pss_one (ps_ret (pe_lst (pa_cons (pv 2) pa_nil)))) pss_nil)
    (pss_one (ps_ret (pe_callB cr_sortedI (by rfl) B.sorted (by decide +kernel) (pa_cons (pe_lc2 (own := [("part", 3), ("place", 4)]) (vs1 := [4]) (g := (gName 3)) (g1 := (gName 4)) (tt := tYes) (tt1 := tYes) (wi1 := iList K _) rfl sc_places_in.nd (pi_tup (pv 2)) (blkOk_by (own := [("part", 3), ("place", 4)]) (N := N_places_in) (sc := defScope s_places_in) (by decide +kernel)) (by decide) (fun _ _ _ _ _ => (pg_name (i := 3) sc_places_in.nd rfl (by first | exact Or.inl rfl | exact Or.inr rfl))) (fun _ _ _ _ _ => pts_nil) (fun _ _ _ _ _ => (pi_list (pe_c c_places_in hr (Nat.le_refl _) (by rfl) (pa_cons (pv 3) pa_nil)))) (fun _ _ _ _ _ => (pg_name (i := 4) sc_places_in.nd rfl (by first | exact Or.inl rfl | exact Or.inr rfl))) (fun _ _ _ _ _ => pts_nil) (fun _ _ _ _ _ => (pv 4))) pa_nil)))))), ?_⟩
    rcases hv with ⟨p, i, rfl, ep, rfl⟩ | ⟨p, q0, wd, us, Is, rfl, ep, wne, eq, hU, pt⟩
    · refine ⟨_, rfl, p, _, rfl, SqT.of ep, rfl, _, _, rfl, _, _, rfl, rfl, ?_⟩
      refine ⟨_, rfl, rfl, _, rfl, ?_⟩
      rw [decide_eq_true rfl]
      refine iteT ⟨_, rfl, by show 1 ≤ sizeLine; decide, fun r nr => ?_⟩
      exact q [i] r _ nr (same_new nr) (List.Perm.refl _) (List.pairwise_singleton _ _) upd_same
    · have ptl := pt.len
      have ul := hU.len
      have fl := pt.perm.length_eq
      refine ⟨_, rfl, p, _, rfl, SqT.of ep, rfl, _, _, rfl, _, _, rfl, rfl, ?_⟩
      refine ⟨_, rfl, rfl, _, rfl, ?_⟩
      rw [decide_eq_false (fun z => wne.1 (V.str.inj z))]
      refine iteF ?_
      refine ⟨_, rfl, q0, rfl, ⟨_, SqT.of eq⟩, fun D nD => ?_⟩
      refine wk (walk_tup (K := K) (a := q0) (xs := us)) (fun j HX => ∃ ks : List Int, Same H HX ∧ HX D = some (.lst (ks.map V.int)) ∧ ks.Perm (Is.take j).flatten) ⟨[], same_new nD, upd_same, List.Perm.refl _⟩ ?_ ?_ ?_
      · rintro j HX _ ⟨_, sX, _⟩
        exact SqT.of (sX _ _ eq)
      · rintro j x HX0 HX hj ⟨ks, sX, eD, pm⟩ ⟨rfl, hx⟩
        obtain ⟨S, eS, hS⟩ := hU.at hx
        have less := pt.less (List.mem_of_getElem? eS)
        have tkl : (Is.take j).flatten.length + S.length ≤ Is.flatten.length := by
          obtain ⟨hjl, e⟩ := List.getElem?_eq_some_iff.mp eS
          have e2 : Is = Is.take j ++ S :: Is.drop (j + 1) := by
            rw [← e, List.getElem_cons_drop, List.take_append_drop]
          have e3 := congrArg (fun l => l.flatten.length) e2
          simp only [List.flatten_append, List.flatten_cons, List.length_append] at e3
          omega
        have kl := pm.length_eq
        refine ⟨rfl, yes ⟨_, rfl, _, S, rfl, hS.mono (Same.tst sX), by omega, fun T r HY nr sY pmT _ er => ⟨r, rfl, ⟨_, SqL.of er⟩, ?_⟩⟩⟩
        have tl := pmT.length_eq
        refine wk (walk_list (K := K) (a := r) (xs := T.map V.int)) (fun l HU => Same H HU ∧ HU D = some (.lst ((ks ++ T.take l).map V.int)) ∧ HU r = some (.lst (T.map V.int))) ⟨sX.trans sY, by rw [List.take_zero, List.append_nil]; exact sY _ _ eD, er⟩ ?_ ?_ ?_
        · rintro l HU _ ⟨_, _, eU⟩
          exact SqL.of eU
        · rintro l y HU0 HU hl ⟨sU, eDU, erU⟩ ⟨rfl, hy⟩
          rw [List.length_map] at hl
          rw [List.getElem?_map] at hy
          obtain ⟨o, eo, rfl⟩ := Option.map_eq_some_iff.mp hy
          have rD : r ≠ D := fun z => by rw [z, eD] at nr; cases nr
          refine ⟨rfl, yes ⟨_, rfl, _, eDU, sz' (by rw [List.length_map, List.length_append, List.length_take]; omega), Same.put sU nD, ?_, by rw [upd_ne rD]; exact erU⟩⟩
          rw [upd_same, List.take_add_one, eo, ← List.append_assoc]
          exact congrArg (fun z => some (HO.lst z)) (List.map_append (f := V.int) (l₁ := ks ++ T.take l) (l₂ := [o])).symm
        · rintro HU ⟨sU, eDU, erU⟩
          rw [List.length_map, List.take_length] at eDU
          refine ⟨ks ++ T, sU, eDU, ?_⟩
          rw [List.take_add_one, eS]
          show (ks ++ T).Perm (Is.take j ++ [S]).flatten
          rw [List.flatten_append, List.flatten_cons, List.flatten_nil, List.append_nil]
          exact pm.append pmT
      · rintro HX ⟨ks, sX, eD, pm⟩
        rw [ul, List.take_length] at pm
        refine ⟨D, ks, rfl, SqL.of eD, fun T r pmT srT nr => ?_⟩
        have sr := same_new (o := .lst (T.map V.int)) nr
        exact q T r _ (same_free sX nr) (sX.trans sr) ((pmT.trans pm).trans pt.perm) srT upd_same
theorem ok_plin {f : Addr} {fd : FuncData} (B : Bts mg) (F : Fun K "places_in" "places_in" s_places_in f fd) (hm : mg "places_in" = some (.ref f)) (hb : Binds K fd ["tree"] []) :
    ∀ m, FnOk P w K mg base CX0 (m + 1) f fd ["tree"] (sp_plin m)
  | 0 => ⟨fun vs H Q E ⟨_, _, _, h, _⟩ => h.elim, fun _ _ _ _ _ _ _ _ _ _ _ _ _ ⟨_, _, _, h, _⟩ => h.elim⟩
  | m + 1 => ok_plin1 B F (Cl.mk' F hm hb (ok_plin B F hm hb m))
end
end My

set_option Elab.async false
set_option linter.all false
set_option maxRecDepth 100000
set_option pp.maxSteps 400
set_option maxHeartbeats 4000000
namespace My
open PySem PySem.Spec PyProof.Rows L2 GxR
/-- the first place of each -/
def hds (Is : List (List Int)) : List Int := Is.map fun S => S.headD 0
theorem hd_mem {S : List Int} (h : S ≠ []) : S.headD 0 ∈ S := by
  cases S with
  | nil => exact absurd rfl h
  | cons a l => exact List.mem_cons_self
theorem hds_nodup {I : List Int} {Is : List (List Int)} (pt : PartI I Is) (nI : I.Nodup) : (hds Is).Nodup := by
  have := (nd_flat.mp (pt.perm.nodup_iff.mpr nI)).2
  unfold hds
  rw [List.nodup_iff_pairwise_ne, List.pairwise_map]
  exact this.imp_of_mem fun {S T} hS hT h => h _ (hd_mem (pt.ne S hS)) _ (hd_mem (pt.ne T hT))
section
variable {P : Program} {w : World} {K : PySem.W.Frag} {mg : Str → Option Value} {base : Heap}
end
end My

set_option Elab.async false
set_option linter.all false
set_option maxRecDepth 100000
namespace My
open PySem PySem.Spec PyProof.Rows L2 GxR
/-! trees whose parts stand in order, with what their words say of the ties between two parts -/
def BtB (ts : List (Int × Int)) (w : Str) (Is : List (List Int)) : Prop :=
  (w = "all" ∨ w = "apart" ∨ w = "close") ∧ (w = "all" → Is.Pairwise fun S T => ∀ x ∈ S, ∀ y ∈ T, adjB ts x y = true) ∧ (w = "apart" → Is.Pairwise fun S T => ∀ x ∈ S, ∀ y ∈ T, adjB ts x y = false)
def TrR (ts : List (Int × Int)) (H : Hp) : Nat → V → List Int → Prop
  | 0, _, _ => False
  | m + 1, v, I => (∃ p i, v = .ref p ∧ H p = some (.tup [.str "place", .int i]) ∧ I = [i]) ∨
      ∃ (p q : Addr) (w : Str) (vs : List V) (Is : List (List Int)), v = .ref p ∧ H p = some (.tup [.str w, .ref q]) ∧ (w ≠ "place" ∧ PyData.canLay0 (.str w) = true) ∧ H q = some (.tup vs) ∧ All2 (TrR ts H m) vs Is ∧ PartI I Is ∧ Is.Pairwise HdLt ∧ BtB ts w Is
theorem TrR.mono {ts : List (Int × Int)} {H H' : Hp} (t : Tst H H') : ∀ {m : Nat} {v : V} {I : List Int}, TrR ts H m v I → TrR ts H' m v I
  | 0, _, _, h => h.elim
  | m + 1, v, I, h => by
    rcases h with ⟨p, i, e, a, b⟩ | ⟨p, q, w, vs, Is, e, a, b, c, d, f, g, k⟩
    · exact .inl ⟨p, i, e, t _ _ a, b⟩
    · exact .inr ⟨p, q, w, vs, Is, e, t _ _ a, b, t _ _ c, d.imp fun _ _ h => TrR.mono t h, f, g, k⟩
theorem TrR.at {ts : List (Int × Int)} {H : Hp} : ∀ {m : Nat} {v : V} {I : List Int}, TrR ts H m v I → TrAt H m v I
  | 0, _, _, h => h.elim
  | m + 1, v, I, h => by
    rcases h with ⟨p, i, e, a, b⟩ | ⟨p, q, w, vs, Is, e, a, b, c, d, f, _, _⟩
    · exact .inl ⟨p, i, e, a, b⟩
    · exact .inr ⟨p, q, w, vs, Is, e, a, b, c, d.imp fun _ _ h => TrR.at h, f⟩
theorem KindX.ord {ts : List (Int × Int)} {I : List Int} {w : Str} {F : List (List Int)} (r : I.Pairwise (· < ·)) (l : 2 ≤ I.length) (f : KindX ts I w F) : F.Pairwise HdLt := by
  rcases f with ⟨rfl, f1, f2⟩ | ⟨rfl, _, f1, f2⟩ | ⟨rfl, ⟨F1, a1, a2⟩, ⟨F2, b1, b2⟩, f1⟩
  · exact f1.ord r
  · exact f1.ord r
  · exact f1.ord (whl_of a1 b1 a2 b2) r (two_of r l)
theorem SetsI.btw {ts : List (Int × Int)} {b : Bool} {I : List Int} {F : List (List Int)} (h : SetsI ts b I F) (nI : I.Nodup) : F.Pairwise fun S T => ∀ x ∈ S, ∀ y ∈ T, adjB ts x y = !b := by
  refine (nd_flat.mp (h.perm.nodup_iff.mpr nI)).2.imp_of_mem fun {S T} hS hT dj x hx y hy => ?_
  have yI := h.perm.mem_iff.mp (List.mem_flatten.mpr ⟨T, hT, hy⟩)
  have ne : adjB ts x y ≠ b := fun e => dj y (h.clo S hS x hx y yI e) y hy rfl
  cases b <;> cases hh : adjB ts x y
  · exact absurd hh ne
  · rfl
  · rfl
  · exact absurd hh ne
theorem KindX.btw {ts : List (Int × Int)} {I : List Int} {w : Str} {F : List (List Int)} (r : I.Pairwise (· < ·)) (f : KindX ts I w F) : BtB ts w F := by
  have nI : I.Nodup := r.imp fun h => Int.ne_of_lt h
  rcases f with ⟨rfl, f1, f2⟩ | ⟨rfl, _, f1, f2⟩ | ⟨rfl, _, _, f1⟩
  · exact ⟨.inr (.inl rfl), fun z => absurd z (by decide), fun _ => f1.btw nI⟩
  · exact ⟨.inl rfl, fun _ => f1.btw nI, fun z => absurd z (by decide)⟩
  · exact ⟨.inr (.inr rfl), fun z => absurd z (by decide), fun z => absurd z (by decide)⟩
theorem TrX.toR {ts : List (Int × Int)} {H : Hp} : ∀ {m : Nat} {v : V} {I : List Int}, TrX ts H m v I → TrR ts H m v I
  | 0, _, _, h => h.elim
  | m + 1, v, I, h => by
    rcases h with ⟨p, i, e, a, b⟩ | ⟨p, q, w, vs, Is, e, a, b, k, c, d⟩
    · exact .inl ⟨p, i, e, a, b⟩
    · exact .inr ⟨p, q, w, vs, Is, e, a, k.word, c, d.imp fun _ _ h => TrX.toR h, k.part b.1 b.2, k.ord b.1 b.2, k.btw b.1⟩
/-- the least places of the parts rise -/
theorem hds_rise {I : List Int} {Is : List (List Int)} (pt : PartI I Is) (o : Is.Pairwise HdLt) : (hds Is).Pairwise (· < ·) := by
  unfold hds
  rw [List.pairwise_map]
  refine o.imp_of_mem fun {S T} hS hT ⟨s, s1, s2, s3⟩ => ?_
  have h1 := hd_mem (pt.ne S hS)
  have h2 := s3 _ (hd_mem (pt.ne T hT))
  have : S.headD 0 ≤ s := by
    have r := pt.rise S hS
    cases S with
    | nil => cases s1
    | cons a l =>
      rcases List.mem_cons.mp s1 with e | e
      · rw [e]; exact Int.le_refl _
      · exact Int.le_of_lt ((List.pairwise_cons.mp r).1 s e)
  omega
end My

set_option Elab.async false
set_option linter.all false
set_option maxRecDepth 100000
set_option maxHeartbeats 1000000
namespace My
open PySem PySem.Spec PyProof.Rows L2
/-! l.extend(a tuple) -/
def rExtendT (K : PySem.W.Frag) : V → List V → Hp → VK → Prop := fun x vs H Q => ∃ l b xs zs, x = .ref l ∧ vs = [.ref b] ∧ H l = some (.lst xs) ∧ SqT K H b zs ∧ xs.length + zs.length ≤ sizeLine ∧ Q .non (upd H l (.lst (xs ++ zs)))
section
variable {X : Cx}
theorem mt_extendT : MtM X "list.extend" (rExtendT X.K) := by
  intro pins s σ H x vs v us Q I rx rv h
  obtain ⟨l, b, xs, zs, rfl, rfl, hH, hB, hz, q⟩ := h
  cases rx
  obtain ⟨u, rfl, ru⟩ := rv.one
  cases ru
  obtain ⟨z, its, n, r, hl, e⟩ := I.lstM hH
  obtain ⟨its2, r2, p2, hl2⟩ := I.tuple hB
  have k1 := r.length
  have k2 := r2.length
  have hsz : its.toArray.size + its2.toArray.size ≤ sizeLine := by rw [List.size_toArray, List.size_toArray]; omega
  have hlong : ¬ (!its.toArray.isEmpty && Builtin.List.listTooLong (its.toArray.size + its2.toArray.size)) = true := by
    rw [notLongL hsz, Bool.and_false]
    exact Bool.false_ne_true
  obtain ⟨o, ho, hc, n2, hd⟩ := id p2
  refine wpAny_call_entry F.slot_list_extend ⟨_, e, rfl⟩ F.entry_list_extend ?_ (F.args_list_extend_2 _ _)
  show wpAny _ _ (Builtin.List.listExtendWith (.ref l) (.ref b) .none) _ _ s
  unfold Builtin.List.listExtendWith
  refine wpAny_bind (wpAny_typeOf ⟨o, ho, hc⟩ ?_)
  have h1 : (Builtin.List.listSameRef (.ref l) (.ref b) || Value.type "tuple" == Value.type "list" || Value.type "tuple" == Value.type "tuple") = true := by simp
  simp only [h1, if_true]
  refine wpAny_bind ?_
  unfold Builtin.List.listItems
  refine wpAny_bind (wpAny_seqItems ho hd (wpAny_pure ?_))
  refine wpAny_bind ?_
  refine wpAny_bind (wpAny_seqItems e rfl (wpAny_pure ?_))
  rw [if_neg hlong]
  refine wpAny_bind (wpAny_updateSeq (hz := by rw [List.size_toArray]; omega) e rfl ?_)
  refine wpAny_pure ⟨_, rfl, ?_⟩
  refine ⟨.non, _, I.lset (its' := its ++ its2) hH e (by simp) (r.append r2) ?_, rfl, q⟩
  rw [List.length_append]
  omega
end
end My

set_option Elab.async false
set_option linter.all false
set_option maxRecDepth 100000
set_option pp.maxSteps 400
set_option maxHeartbeats 4000000
namespace My
open PySem PySem.Spec PyProof.Rows L2 GxR
def TrE (H : Hp) (v : V) (J : List Int) : Prop := ∃ m, m ≤ 14 ∧ TrAt H m v J
theorem TrE.mono {H H' : Hp} {v : V} {J : List Int} (h : TrE H v J) (t : Tst H H') : TrE H' v J := by
  obtain ⟨m, a, b⟩ := h
  exact ⟨m, a, b.mono t⟩
theorem trAt_dp {K : PySem.W.Frag} {H : Hp} : ∀ {m : Nat} {v : V} {I : List Int}, TrAt H m v I → ∃ d, Dp K H v d ∧ d.canLay0 = true ∧ d.depth ≤ 2 * m
  | 0, _, _, h => h.elim
  | m + 1, v, I, h => by
    rcases h with ⟨p, i, rfl, a, b⟩ | ⟨p, q, w, vs, Is, rfl, a, b, c, d, f⟩
    · have hp : PyData.canLay0 (.str "place") = true := by decide +kernel
      refine ⟨.tuple [.str "place", .int i], .tup (SqT.of a) (.cons (.str _) (.cons (.int _) .nil)), ?_, by show 1 ≤ _; omega⟩
      show PyData.canLayAll0 [.str "place", .int i] = true
      rw [PyData.canLayAll0, PyData.canLayAll0, PyData.canLayAll0, hp]; rfl
    · have key : ∀ (vs : List V) (Is : List (List Int)), All2 (TrAt H m) vs Is → ∃ ds, DpAll K H vs ds ∧ PyData.canLayAll0 ds = true ∧ PyData.depthAll ds ≤ 2 * m := fun vs => by
        induction vs with
        | nil => intro Is h; exact ⟨[], .nil, rfl, Nat.zero_le _⟩
        | cons v vs ih =>
          intro Is h
          cases Is with
          | nil => exact h.elim
          | cons J Is =>
            obtain ⟨d, d1, d2, d3⟩ := trAt_dp (K := K) h.1
            obtain ⟨ds, e1, e2, e3⟩ := ih Is h.2
            exact ⟨d :: ds, .cons d1 e1, by rw [PyData.canLayAll0, d2, e2]; rfl, by rw [PyData.depthAll]; omega⟩
      obtain ⟨ds, e1, e2, e3⟩ := key vs Is d
      refine ⟨.tuple [.str w, .tuple ds], .tup (SqT.of a) (.cons (.str _) (.cons (.tup (SqT.of c) e1) .nil)), ?_, ?_⟩
      · show PyData.canLayAll0 [.str w, .tuple ds] = true
        rw [PyData.canLayAll0, PyData.canLayAll0, PyData.canLayAll0, b.2]
        show (true && (PyData.canLayAll0 ds && true)) = true
        rw [e2]; rfl
      · rw [PyData.depth, PyData.depthAll, PyData.depthAll, PyData.depthAll, PyData.depth, PyData.depth]
        omega
theorem tre_dp {K : PySem.W.Frag} {H : Hp} : ∀ {vs : List V} {Js : List (List Int)}, All2 (TrE H) vs Js → ∃ ds, DpAll K H vs ds ∧ PyData.canLayAll0 ds = true ∧ PyData.depthAll ds ≤ 28 ∧ ds.length = vs.length
  | [], [], _ => ⟨[], .nil, rfl, Nat.zero_le _, rfl⟩
  | v :: vs, J :: Js, h => by
    obtain ⟨m, hm, ht⟩ := h.1
    obtain ⟨d, d1, d2, d3⟩ := trAt_dp (K := K) ht
    obtain ⟨ds, e1, e2, e3, e4⟩ := tre_dp (K := K) h.2
    exact ⟨d :: ds, .cons d1 e1, by rw [PyData.canLayAll0, d2, e2]; rfl, by rw [PyData.depthAll]; omega, by rw [List.length_cons, List.length_cons, e4]⟩
  | [], _ :: _, h => h.elim
  | _ :: _, [], h => h.elim
theorem tre_ne {K : PySem.W.Frag} {H : Hp} {vs : List V} {Js : List (List Int)} (h : All2 (TrE H) vs Js) : ∃ ds, DpAll K H vs ds ∧ SeqAt.shaped (.list ds) = true ∧ PyData.eqv (.list ds) (.list []) = decide (vs = []) := by
  obtain ⟨ds, e1, e2, e3, e4⟩ := tre_dp (K := K) h
  refine ⟨ds, e1, ?_, ?_⟩
  · unfold SeqAt.shaped
    rw [Bool.and_eq_true, decide_eq_true_eq]
    refine ⟨e2, ?_⟩
    show PyData.depthAll ds + 1 ≤ 64
    omega
  · cases vs with
    | nil => rw [List.eq_nil_of_length_eq_zero (show ds.length = 0 from e4)]; rfl
    | cons v vs =>
      cases ds with
      | nil => cases e4
      | cons d ds => rfl
/-- how much is left to walk -/
def wlkS (Js : List (List Int)) : Nat := (Js.map fun J => 2 * J.length - 1).sum
theorem wlkS_app (A B : List (List Int)) : wlkS (A ++ B) = wlkS A + wlkS B := by unfold wlkS; rw [List.map_append, List.sum_append]
theorem wlkS_one (J : List Int) : wlkS [J] = 2 * J.length - 1 := by unfold wlkS; simp
theorem wlkS_flat : ∀ {Js : List (List Int)}, (∀ J ∈ Js, J ≠ []) → wlkS Js + Js.length = 2 * Js.flatten.length
  | [], _ => rfl
  | J :: Js, h => by
    have i := wlkS_flat (Js := Js) fun K hK => h K (List.mem_cons_of_mem _ hK)
    have := List.length_pos_iff.mpr (h J List.mem_cons_self)
    have e : wlkS (J :: Js) = (2 * J.length - 1) + wlkS Js := by unfold wlkS; rw [List.map_cons, List.sum_cons]
    rw [e, List.length_cons, List.flatten_cons, List.length_append]
    omega
theorem all2_last {α : Type} {R : V → α → Prop} : ∀ {vs : List V} {Js : List α}, All2 R vs Js → vs ≠ [] → ∃ vs' v Js' J, vs = vs' ++ [v] ∧ Js = Js' ++ [J] ∧ All2 R vs' Js' ∧ R v J
  | [], _, _, n => absurd rfl n
  | [v], [J], h, _ => ⟨[], v, [], J, rfl, rfl, trivial, h.1⟩
  | v :: u :: vs, J :: L :: Js, h, _ => by
    obtain ⟨vs', v', Js', J', e1, e2, e3, e4⟩ := all2_last (vs := u :: vs) (Js := L :: Js) h.2 (fun z => by cases z)
    exact ⟨v :: vs', v', J :: Js', J', by rw [e1]; rfl, by rw [e2]; rfl, ⟨h.1, e3⟩, e4⟩
  | [_], [], h, _ => h.elim
  | [_], _ :: _ :: _, h, _ => h.2.elim
  | _ :: _ :: _, [], h, _ => h.elim
  | _ :: _ :: _, [_], h, _ => h.2.elim
theorem PartI.nd {I : List Int} {G : List (List Int)} (h : PartI I G) {S : List Int} (hS : S ∈ G) : S.Nodup := (h.rise S hS).imp fun h => Int.ne_of_lt h
theorem pop_last {xs : List V} {v : V} : (xs ++ [v])[(xs ++ [v]).length - 1]? = some v := by
  rw [List.length_append, List.getElem?_append_right (by simp)]
  simp
section
variable {P : Program} {w : World} {K : PySem.W.Frag} {mg : Str → Option Value} {base : Heap}
end
end My

set_option Elab.async false
set_option linter.all false
set_option maxRecDepth 100000
namespace My
open PySem PySem.Spec PyProof.Rows L2
/-! sorted(a list of pairs whose first numbers are unlike): by these, whatever stands behind them -/
theorem all2_perm {α : Type} {R : V → α → Prop} {ys xs : List V} (p : ys.Perm xs) : ∀ {bs : List α}, All2 R xs bs → ∃ cs, cs.Perm bs ∧ All2 R ys cs := by
  induction p with
  | nil => intro bs h; exact ⟨bs, List.Perm.refl _, h⟩
  | cons x _ ih =>
    intro bs h
    cases bs with
    | nil => exact h.elim
    | cons b bs =>
      obtain ⟨cs, c1, c2⟩ := ih h.2
      exact ⟨b :: cs, c1.cons b, h.1, c2⟩
  | swap x y l =>
    intro bs h
    match bs, h with
    | [], h => exact h.elim
    | [_], h => exact h.2.elim
    | b :: c :: bs, h => exact ⟨c :: b :: bs, List.Perm.swap b c bs, h.2.1, h.1, h.2.2⟩
  | trans _ _ ih1 ih2 =>
    intro bs h
    obtain ⟨cs, c1, c2⟩ := ih2 h
    obtain ⟨ds, d1, d2⟩ := ih1 c2
    exact ⟨ds, d1.trans c1, d2⟩
theorem perm_map_lift {α β : Type} {f : α → β} {cs ds : List β} (p : cs.Perm ds) : ∀ {zs : List α}, ds = zs.map f → ∃ ws : List α, ws.Perm zs ∧ cs = ws.map f := by
  induction p with
  | nil => intro zs e; exact ⟨zs, List.Perm.refl _, e⟩
  | cons x _ ih =>
    intro zs e
    cases zs with
    | nil => cases e
    | cons z zs =>
      rw [List.map_cons] at e
      obtain ⟨e1, e2⟩ := List.cons.inj e
      obtain ⟨ws, w1, w2⟩ := ih e2
      exact ⟨z :: ws, w1.cons z, by rw [List.map_cons, w2, e1]⟩
  | swap x y l =>
    intro zs e
    match zs, e with
    | a :: b :: zs, e =>
      rw [List.map_cons, List.map_cons] at e
      obtain ⟨e1, e2⟩ := List.cons.inj e
      obtain ⟨e2, e3⟩ := List.cons.inj e2
      exact ⟨b :: a :: zs, List.Perm.swap a b zs, by rw [List.map_cons, List.map_cons, e1, e2, e3]⟩
  | trans _ _ ih1 ih2 =>
    intro zs e
    obtain ⟨ws, w1, w2⟩ := ih2 e
    obtain ⟨us, u1, u2⟩ := ih1 w2
    exact ⟨us, u1.trans w1, u2⟩
def FstP (h : Heap) (v : Value) (x : Int) : Prop := ∃ a o t u n, v = .ref a ∧ h.get? a = some o ∧ o.cls = .type "tuple" ∧ o.data = .seq #[.int x t, u] n
theorem FstP.keeps {h h' : Heap} {v : Value} {x : Int} (p : FstP h v x) (k : ∀ b o, h.get? b = some o → o.cls = .type "tuple" → h'.get? b = some o) : FstP h' v x := by
  obtain ⟨a, o, t, u, n, e, ho, hc, hd⟩ := p
  exact ⟨a, o, t, u, n, e, k _ _ ho hc, hc, hd⟩
theorem swo_fst (k : Value → Int) : SrtO.Swo fun v u => decide (k v < k u) := by
  refine ⟨fun x y h => ?_, fun x y z h1 h2 => ?_⟩
  · have a := of_decide_eq_true h
    exact decide_eq_false (by omega)
  · have a := of_decide_eq_false h1
    have b := of_decide_eq_false h2
    exact decide_eq_false (by omega)
theorem firstsF {h : Heap} : ∀ {vs : List Value}, (∀ v ∈ vs, ∃ x, FstP h v x) → ∃ fs : List Value, PySem.W.KatTups h vs fs ∧ fs.length = vs.length ∧ ∀ f ∈ fs, ∃ x t, f = Value.int x t
  | [], _ => ⟨[], PySem.W.KatTups.nil, rfl, fun _ hm => by simp at hm⟩
  | v :: vs, hp => by
    obtain ⟨fs, h1, h2, h3⟩ := firstsF (vs := vs) fun v' hm => hp v' (List.mem_cons_of_mem _ hm)
    obtain ⟨x, a, o, t, u, n, e, ho, hc, hd⟩ := hp v List.mem_cons_self
    subst e
    refine ⟨.int x t :: fs, PySem.W.KatTups.cons ho hc hd rfl h1, by rw [List.length_cons, List.length_cons, h2], fun f hm => ?_⟩
    rcases List.mem_cons.mp hm with rfl | hm
    · exact ⟨x, t, rfl⟩
    · exact h3 f hm
section
variable {prog : Program} {w : World} {A : Around} {E : Value → Shared → Prop} {s : Shared}
theorem fst_lt {k : Value → Int} {v u : Value} (h1 : FstP s.heap v (k v)) (h2 : FstP s.heap u (k u)) (hi : k v = k u → v = u) : wpAny (model prog w) A (keyLt' (tuples' true) v u) (fun r s' => s' = s ∧ r = decide (k v < k u)) (fun _ _ => False) s := by
  by_cases e : k v = k u
  · have vu := hi e
    rw [← vu]
    obtain ⟨a, o, t, y, n, ev, ho, hc, hd⟩ := h1
    have q : decide (k v < k v) = false := decide_eq_false (Int.lt_irrefl _)
    rw [q]
    generalize k v = x at hd
    rw [ev]
    refine PySem.W.kat_lt ho hd ho hd ?_
    show PySem.W.KatLex prog w A true (decide (2 < 2)) _ [(.int x t, .int x t), (y, y)] 0 s
    refine PySem.W.kat_cons (SeqAt.EqAt.same _ prog w _ _ ?_)
    refine PySem.W.kat_yes (PySem.W.kat_cons (SeqAt.EqAt.same _ prog w _ _ ?_))
    exact PySem.W.kat_yes (PySem.W.kat_nil ⟨rfl, rfl⟩)
  · generalize k v = x at h1 e ⊢
    generalize k u = x' at h2 e ⊢
    obtain ⟨a, o, t, y, n, rfl, ho, hc, hd⟩ := h1
    obtain ⟨a', o', t', y', n', rfl, ho', hc', hd'⟩ := h2
    refine PySem.W.kat_lt ho hd ho' hd' ?_
    show PySem.W.KatLex prog w A true (decide (2 < 2)) _ [(.int x t, .int x' t'), (y, y')] 0 s
    refine PySem.W.kat_cons (SeqAt.EqAt.int_int x t x' t' prog w _ _ ?_)
    have e1 : (x == x') = false := by simpa using e
    rw [e1]
    exact PySem.W.kat_no (TS.oneLt_ints _ ⟨rfl, rfl⟩)
theorem fst_sortableO {a : Addr} {vs : List Value} {k : Value → Int} (h0 : 0 < vs.length) (hp : ∀ v ∈ vs, FstP s.heap v (k v)) (inj : ∀ v ∈ vs, ∀ u ∈ vs, k v = k u → v = u) (ha : ∀ o, s.heap.get? a = some o → o.cls ≠ .type "tuple") : SrtO.SortableO prog w A s a vs fun v u => decide (k v < k u) := by
  intro h' keep
  have hp' : ∀ v ∈ vs, FstP h' v (k v) := fun v hm => (hp v hm).keeps fun b o e c => keep b o (fun z => by subst z; exact ha o e c) e
  obtain ⟨fs, h1, h2, h3⟩ := firstsF fun v hm => ⟨_, hp' v hm⟩
  refine ⟨tuples' true, fun Q E hq => ?_, fun p q hm hm' => fst_lt (s := { s with heap := h' }) (hp' _ hm) (hp' _ hm') (inj _ hm _ hm')⟩
  refine PySem.W.kat_kind (T := .type "int") h1 (by omega) (fun f hm => ?_) (by rfl) ?_
  · obtain ⟨x, t, rfl⟩ := h3 f hm
    exact PySem.W.Looks.now
  · have e : (Value.type "int" != Value.type "tuple") = true := by first | decide +kernel | rfl | decide
    rw [e]
    exact hq
theorem sorted_fstO {l : Addr} {vs : List Value} {k : Value → Int} {Q : Value → Shared → Prop} (hl : s.heap.IsList l vs.toArray) (hz : vs.length ≤ sizeLine) (hp : ∀ v ∈ vs, FstP s.heap v (k v)) (inj : ∀ v ∈ vs, ∀ u ∈ vs, k v = k u → v = u)
    (h : ∀ (h' : Heap) (d : Addr) (out : List Value), SrtO.Srtd (fun v u => decide (k v < k u)) out → out.Perm vs → (∀ b o, s.heap.get? b = some o → h'.get? b = some o) → s.heap.objs.size ≤ d → (∃ n, h'.get? d = some (seqObj "list" out.toArray n)) → Q (.ref d) { s with heap := h' }) :
    wpAny (model prog w) A (call (.builtin "sorted") [.ref l]) Q E s := by
  refine SrtO.sorted_ord (swo_fst k) hl hz (fun h2 h₁ a ha kk => ?_) fun out hs hb => ?_
  · refine fst_sortableO (s := { s with heap := h₁ }) (by omega) (fun v hm => (hp v hm).keeps fun b o e _ => (kk b o e).2) inj fun o e => ?_
    have e' : some o = some (seqObj "list" vs.toArray 0) := e.symm.trans ha
    cases e'
    intro c
    exact absurd (Value.type.inj c) (by decide)
  · exact h _ _ out hs hb.perm (fun b o e => sortedAll_old e) (Nat.le_succ _) (sortedAll_at s.heap vs out.toArray)
end
def FstV (H : Hp) (x : V) (b : Int × V) : Prop := ∃ t, x = .ref t ∧ H t = some (.tup [.int b.1, b.2])
def rSortedF (K : PySem.W.Frag) : List V → Hp → VK → Prop := fun vs H Q => ∃ (a : Addr) (xs : List V) (bs : List (Int × V)), vs = [.ref a] ∧ SqL K H a xs ∧ All2 (FstV H) xs bs ∧ (bs.map (·.1)).Nodup ∧
  ∀ ys p cs, cs.Perm bs → cs.Pairwise (fun x y => x.1 < y.1) → All2 (FstV H) ys cs → H p = none → Q (.ref p) (upd H p (.lst ys))
open Classical in
noncomputable def keyF (H : Hp) (x : V) : Int := if h : ∃ b, FstV H x b then h.choose.1 else 0
theorem keyF_of {H : Hp} {x : V} {b : Int × V} (h : FstV H x b) : keyF H x = b.1 := by
  unfold keyF
  rw [dif_pos ⟨b, h⟩]
  obtain ⟨t, e, ht⟩ := Exists.choose_spec (⟨b, h⟩ : ∃ b, FstV H x b)
  obtain ⟨t', e', ht'⟩ := h
  rw [e] at e'
  cases e'
  rw [ht] at ht'
  have := HO.tup.inj (Option.some.inj ht')
  exact V.int.inj (List.cons.inj this).1
theorem keyF_map {H : Hp} : ∀ {xs : List V} {bs : List (Int × V)}, All2 (FstV H) xs bs → xs.map (keyF H) = bs.map (·.1)
  | [], [], _ => rfl
  | _ :: _, _ :: _, h => by rw [List.map_cons, List.map_cons, keyF_of h.1, keyF_map h.2]
  | [], _ :: _, h => h.elim
  | _ :: _, [], h => h.elim
theorem nd_inj {α : Type} {f : α → Int} : ∀ {l : List α}, (l.map f).Nodup → ∀ x ∈ l, ∀ y ∈ l, f x = f y → x = y
  | [], _, _, hx, _, _, _ => by cases hx
  | a :: l, h, x, hx, y, hy, e => by
    rw [List.map_cons, List.nodup_cons] at h
    rcases List.mem_cons.mp hx with rfl | hx' <;> rcases List.mem_cons.mp hy with e1 | hy'
    · exact e1.symm
    · exact absurd (e ▸ List.mem_map_of_mem (f := f) hy') h.1
    · subst e1; exact absurd (e ▸ List.mem_map_of_mem (f := f) hx') h.1
    · exact nd_inj h.2 x hx' y hy' e
section
variable {X : Cx}
theorem cr_sortedF : CallR X (.builtin "sorted") (rSortedF X.K) := by
  intro pins s σ H vs us Q I r h
  obtain ⟨a, xs, bs, rfl, hs, hx, nd, q⟩ := h
  obtain ⟨its, rv, hl, hz⟩ := I.list hs
  obtain ⟨u, rfl, ru⟩ := vals1 r
  obtain rfl : u = Value.ref a := ru
  have km := keyF_map hx
  have each : ∀ x ∈ xs, ∃ b, FstV H x b := fun x m => by
    obtain ⟨i, e⟩ := List.getElem?_of_mem m
    obtain ⟨b, _, hb⟩ := hx.at e
    exact ⟨b, hb⟩
  obtain ⟨e1, e2⟩ := refs_back rv fun x m => by
    obtain ⟨b, t, e, _⟩ := each x m
    exact ⟨t, e⟩
  have inj := nd_inj (f := keyF H) (l := xs) (by rw [km]; exact nd)
  refine sorted_fstO (k := fun u => keyF H (backV u)) hl.isList (by rw [← rv.length]; exact hz) (fun v hv => ?_) (fun v hv u hu e => ?_) fun h' d out h1 h2 kp hd hn => ?_
  · obtain ⟨t, rfl⟩ := e2 v hv
    have hm : V.ref t ∈ xs := by rw [e1]; exact List.mem_map.mpr ⟨_, hv, rfl⟩
    obtain ⟨b, hb⟩ := each _ hm
    have kb := keyF_of hb
    obtain ⟨t', e, ht⟩ := hb
    cases e
    obtain ⟨_, its2, r2, o, ho, hc, n, hd⟩ := I.hok _ _ ht
    obtain ⟨u1, u2, rfl, ri, rj⟩ := vals2 r2
    obtain ⟨t1, rfl⟩ := ri
    refine ⟨t, o, t1, u2, n, rfl, ho, hc, ?_⟩
    show o.data = _
    rw [show keyF H (backV (Value.ref t)) = b.1 from kb]
    exact hd
  · obtain ⟨t, rfl⟩ := e2 v hv
    obtain ⟨t', rfl⟩ := e2 u hu
    have hm : V.ref t ∈ xs := by rw [e1]; exact List.mem_map.mpr ⟨_, hv, rfl⟩
    have hm' : V.ref t' ∈ xs := by rw [e1]; exact List.mem_map.mpr ⟨_, hu, rfl⟩
    have := inj _ hm _ hm' e
    cases this; rfl
  · have h3 : ∀ u ∈ out, ∃ a, u = Value.ref a := fun u hu => e2 u (h2.mem_iff.mp hu)
    obtain ⟨n, hn⟩ := hn
    have hb : (out.map backV).Perm xs := by
      rw [e1]; exact h2.map backV
    obtain ⟨cs, c1, c2⟩ := all2_perm hb hx
    refine ⟨.ref d, upd H d (.lst (out.map backV)), I.laid (t' := s.toks) kp hd ⟨?_, out, n, vals_back h3, hn⟩, rfl, q _ d cs c1 ?_ c2 (I.hok.fresh hd)⟩
    · rw [hb.length_eq]
      have := rv.length
      omega
    · have km2 := keyF_map c2
      have srt : (out.map backV).Pairwise fun x y => ¬ keyF H y < keyF H x := by
        rw [List.pairwise_map]
        exact h1.imp fun h => of_decide_eq_false h
      have srt2 : (cs.map (·.1)).Pairwise fun x y => ¬ y < x := by
        rw [← km2, List.pairwise_map]; exact srt
      have nd2 : (cs.map (·.1)).Nodup := (c1.map _).nodup_iff.mpr nd
      have both := srt2.and (List.nodup_iff_pairwise_ne.mp nd2)
      rw [List.pairwise_map] at both
      exact both.imp fun ⟨a, b⟩ => by omega
end
end My

set_option Elab.async false
set_option linter.all false
set_option maxRecDepth 100000
namespace My
open PySem PySem.Spec PyProof.Rows L2 GxR
/-! trees as they are drawn, and that they are the exact trees of their web -/
def ConI (ts : List (Int × Int)) (b : Bool) (I : List Int) : Prop := ∀ A : Int → Prop, ClR ts b I A → ∀ x ∈ I, A x → ∀ y ∈ I, A y
theorem setsI_one {ts : List (Int × Int)} {b : Bool} {I : List Int} (c : ConI ts b I) (r : I.Pairwise (· < ·)) (ne : I ≠ []) : SetsI ts b I [I] := by
  refine ⟨by rw [List.flatten_cons, List.flatten_nil, List.append_nil], fun S h => ?_, fun S h => ?_, fun S h => ?_, fun S h => ?_, fun _ => List.pairwise_singleton _ _⟩
  · rw [List.mem_singleton.mp h]; exact ne
  · rw [List.mem_singleton.mp h]; exact r.imp fun h => Int.le_of_lt h
  · rw [List.mem_singleton.mp h]; exact fun x _ y hy _ => hy
  · rw [List.mem_singleton.mp h]; exact c
theorem pw_all {α : Type} {R : α → α → Prop} (sy : ∀ a b, R a b → R b a) : ∀ {l : List α}, l.Pairwise R → ∀ a ∈ l, ∀ b ∈ l, a ≠ b → R a b
  | [], _, _, h, _, _, _ => by cases h
  | c :: l, p, a, ha, b, hb, n => by
    obtain ⟨p1, p2⟩ := List.pairwise_cons.mp p
    rcases List.mem_cons.mp ha with e1 | ha' <;> rcases List.mem_cons.mp hb with e2 | hb'
    · exact absurd (e1.trans e2.symm) n
    · rw [e1]; exact p1 b hb'
    · rw [e2]; exact sy _ _ (p1 a ha')
    · exact pw_all sy p2 a ha' b hb' n
def BtwP (ts : List (Int × Int)) (b : Bool) (Is : List (List Int)) : Prop := Is.Pairwise fun S T => ∀ x ∈ S, ∀ y ∈ T, adjB ts x y = b
theorem BtwP.all {ts : List (Int × Int)} {b : Bool} {Is : List (List Int)} (h : BtwP ts b Is) : ∀ S ∈ Is, ∀ T ∈ Is, S ≠ T → ∀ x ∈ S, ∀ y ∈ T, adjB ts x y = b :=
  pw_all (fun S T k x hx y hy => by rw [adj_comm]; exact k y hy x hx) h
theorem PartI.sub {I : List Int} {Is : List (List Int)} (pt : PartI I Is) {S : List Int} (hS : S ∈ Is) : ∀ x ∈ S, x ∈ I := pt.mem hS
theorem PartI.own {I : List Int} {Is : List (List Int)} (pt : PartI I Is) {x : Int} (hx : x ∈ I) : ∃ S ∈ Is, x ∈ S := by
  obtain ⟨S, a, b⟩ := List.mem_flatten.mp (pt.perm.mem_iff.mpr hx)
  exact ⟨S, a, b⟩
theorem PartI.nods {I : List Int} {Is : List (List Int)} (pt : PartI I Is) (nI : I.Nodup) : Is.Nodup := by
  have := (nd_flat.mp (pt.perm.nodup_iff.mpr nI)).2
  rw [List.nodup_iff_pairwise_ne]
  refine this.imp_of_mem fun {S T} hS hT h e => ?_
  obtain ⟨x, hx⟩ := List.exists_mem_of_ne_nil _ (pt.ne S hS)
  exact h x hx x (e ▸ hx) rfl
/-- of a place there is another part -/
theorem PartI.other {I : List Int} {Is : List (List Int)} (pt : PartI I Is) (nI : I.Nodup) (S : List Int) : ∃ T ∈ Is, T ≠ S := by
  have nd := pt.nods nI
  have two := pt.two
  match Is, two, nd with
  | A :: B :: l, _, nd =>
    by_cases e : A = S
    · refine ⟨B, by simp, fun z => ?_⟩
      rw [List.nodup_cons] at nd
      exact nd.1 (by rw [e, ← z]; exact List.mem_cons_self)
    · exact ⟨A, by simp, e⟩
theorem PartI.dis {I : List Int} {Is : List (List Int)} (pt : PartI I Is) (nI : I.Nodup) : ∀ S ∈ Is, ∀ T ∈ Is, ∀ x, x ∈ S → x ∈ T → S = T := fun S hS T hT x xS xT => by
  refine Classical.byContradiction fun n => ?_
  have := pw_all (R := fun S T : List Int => ∀ x ∈ S, ∀ y ∈ T, x ≠ y) (fun a b k x hx y hy e => k y hy x hx e.symm) (nd_flat.mp (pt.perm.nodup_iff.mpr nI)).2 S hS T hT n
  exact this x xS x xT rfl
theorem con_btw {ts : List (Int × Int)} {b : Bool} {I : List Int} {Is : List (List Int)} (pt : PartI I Is) (nI : I.Nodup) (h : BtwP ts b Is) : ConI ts b I := fun A cA x hx ax y hy => by
  have ha := h.all
  obtain ⟨S, hS, xS⟩ := pt.own hx
  obtain ⟨T, hT, yT⟩ := pt.own hy
  by_cases e : T = S
  · obtain ⟨U, hU, nU⟩ := pt.other nI S
    obtain ⟨u, uU⟩ := List.exists_mem_of_ne_nil _ (pt.ne U hU)
    have uI := pt.sub hU u uU
    have au := cA x hx u uI ax (ha S hS U hU (Ne.symm nU) x xS u uU)
    exact cA u uI y hy au (ha U hU T hT (by rw [e]; exact nU) u uU y yT)
  · exact cA x hx y hy ax (ha S hS T hT (Ne.symm e) x xS y yT)
theorem setsI_parts {ts : List (Int × Int)} {b : Bool} {I : List Int} {Is : List (List Int)} (pt : PartI I Is) (ord : Is.Pairwise HdLt) (h : BtwP ts (!b) Is) (c : ∀ S ∈ Is, ConI ts b S) : SetsI ts b I Is := by
  have ha := h.all
  refine ⟨pt.perm, pt.ne, fun S hS => (pt.rise S hS).imp fun h => Int.le_of_lt h, fun S hS x hx y hy e => ?_, fun S hS A cA x hx ax y hy => ?_, fun _ => ord⟩
  · obtain ⟨T, hT, yT⟩ := pt.own hy
    by_cases k : S = T
    · rw [k]; exact yT
    · have := ha S hS T hT k x hx y yT
      rw [e] at this
      cases b <;> cases this
  · exact c S hS A (fun u hu v hv => cA u (pt.sub hS u hu) v (pt.sub hS v hv)) x hx ax y hy

/-! ### the seven shapes -/
abbrev Shp := Nat × List (Nat × Nat) × Int
def shapes : List Shp := [(4, [(0,1),(1,2),(2,3)], 2), (5, [(0,1),(1,2),(2,3),(3,4)], 2), (5, [(0,1),(1,2),(2,3),(3,4),(0,4)], 0), (5, [(0,1),(1,2),(2,3),(1,4),(2,4)], 2),
  (5, [(0,2),(0,3),(0,4),(1,3),(1,4),(2,4)], 2), (6, [(0,1),(1,2),(2,3),(3,4),(4,5),(0,5)], 2), (6, [(0,1),(1,2),(2,3),(3,4),(4,5)], 2)]
def shA (sh : Shp) (i j : Nat) : Bool := decide ((i, j) ∈ sh.2.1) || decide ((j, i) ∈ sh.2.1)
theorem shA_comm (sh : Shp) (i j : Nat) : shA sh i j = shA sh j i := Bool.or_comm _ _
def blists : Nat → List (List Bool)
  | 0 => [[]]
  | n + 1 => (blists n).flatMap fun l => [true :: l, false :: l]
theorem mem_blists : ∀ l : List Bool, l ∈ blists l.length
  | [] => List.mem_singleton.mpr rfl
  | b :: l => by
    rw [List.length_cons, blists, List.mem_flatMap]
    refine ⟨l, mem_blists l, ?_⟩
    cases b <;> simp
def cloB (sh : Shp) (bs : List Bool) : Bool := (List.range sh.1).all fun c => bs.getD c false || (List.range sh.1).all fun a => (List.range sh.1).all fun b => !(bs.getD a false) || !(bs.getD b false) || shA sh c a == shA sh c b
def twoB (sh : Shp) (bs : List Bool) : Bool := (List.range sh.1).any fun a => (List.range sh.1).any fun b => decide (a ≠ b) && bs.getD a false && bs.getD b false
def allB (sh : Shp) (bs : List Bool) : Bool := (List.range sh.1).all fun a => bs.getD a false
def conB (sh : Shp) (b : Bool) (bs : List Bool) : Bool := (List.range sh.1).all fun x => (List.range sh.1).all fun y => !(bs.getD x false) || decide (x = y) || !(shA sh x y == b) || bs.getD y false
theorem shape_k : ∀ sh ∈ shapes, 4 ≤ sh.1 ∧ sh.1 ≤ 6 ∧ (∀ t ∈ sh.2.1, t.1 < t.2 ∧ t.2 < sh.1) := by decide +kernel
theorem shape_prime : ∀ sh ∈ shapes, ∀ bs ∈ blists sh.1, (!(cloB sh bs) || !(twoB sh bs) || allB sh bs) = true := by decide +kernel
theorem shape_con : ∀ sh ∈ shapes, ∀ b : Bool, ∀ bs ∈ blists sh.1, (!(conB sh b bs) || !((List.range sh.1).any fun a => bs.getD a false) || allB sh bs) = true := by decide +kernel
open Classical in
noncomputable def bsOf (k : Nat) (J : Nat → Prop) : List Bool := (List.range k).map fun i => decide (J i)
theorem bsOf_mem (k : Nat) (J : Nat → Prop) : bsOf k J ∈ blists k := by
  have := mem_blists (bsOf k J)
  have e : (bsOf k J).length = k := by unfold bsOf; rw [List.length_map, List.length_range]
  rwa [e] at this
open Classical in
theorem bsOf_at {k : Nat} {J : Nat → Prop} {i : Nat} (h : i < k) : (bsOf k J).getD i false = true ↔ J i := by
  unfold bsOf
  rw [List.getD_eq_getElem?_getD, List.getElem?_map, List.getElem?_range h]
  exact decide_eq_true_iff
theorem shape_primeP {sh : Shp} (hs : sh ∈ shapes) {J : Nat → Prop} (clo : ∀ c, c < sh.1 → ¬ J c → ∀ a, a < sh.1 → ∀ b, b < sh.1 → J a → J b → shA sh c a = shA sh c b) {i j : Nat} (hi : i < sh.1) (hj : j < sh.1) (ij : i ≠ j) (Ji : J i) (Jj : J j) : ∀ a, a < sh.1 → J a := fun a ha => by
  have h := shape_prime sh hs _ (bsOf_mem sh.1 J)
  have c1 : cloB sh (bsOf sh.1 J) = true := by
    unfold cloB
    rw [List.all_eq_true]
    intro c hc
    have hc := List.mem_range.mp hc
    rw [Bool.or_eq_true]
    by_cases k : J c
    · exact .inl ((bsOf_at hc).mpr k)
    · refine .inr ?_
      rw [List.all_eq_true]
      intro a ha
      have ha := List.mem_range.mp ha
      rw [List.all_eq_true]
      intro b hb
      have hb := List.mem_range.mp hb
      rw [Bool.or_eq_true, Bool.or_eq_true, Bool.not_eq_true', Bool.not_eq_true', beq_iff_eq]
      by_cases Ja : J a
      · by_cases Jb : J b
        · exact .inr (clo c hc k a ha b hb Ja Jb)
        · exact .inl (.inr (Bool.eq_false_iff.mpr fun z => Jb ((bsOf_at hb).mp z)))
      · exact .inl (.inl (Bool.eq_false_iff.mpr fun z => Ja ((bsOf_at ha).mp z)))
  have c2 : twoB sh (bsOf sh.1 J) = true := by
    unfold twoB
    rw [List.any_eq_true]
    refine ⟨i, List.mem_range.mpr hi, ?_⟩
    rw [List.any_eq_true]
    refine ⟨j, List.mem_range.mpr hj, ?_⟩
    rw [(bsOf_at hi).mpr Ji, (bsOf_at hj).mpr Jj, decide_eq_true ij]; rfl
  rw [c1, c2] at h
  have h3 : allB sh (bsOf sh.1 J) = true := h
  unfold allB at h3
  rw [List.all_eq_true] at h3
  exact (bsOf_at ha).mp (h3 a (List.mem_range.mpr ha))
theorem shape_conP {sh : Shp} (hs : sh ∈ shapes) (b : Bool) {J : Nat → Prop} (clo : ∀ x, x < sh.1 → ∀ y, y < sh.1 → x ≠ y → J x → shA sh x y = b → J y) {i : Nat} (hi : i < sh.1) (Ji : J i) : ∀ a, a < sh.1 → J a := fun a ha => by
  have h := shape_con sh hs b _ (bsOf_mem sh.1 J)
  have c1 : conB sh b (bsOf sh.1 J) = true := by
    unfold conB
    rw [List.all_eq_true]
    intro x hx
    have hx := List.mem_range.mp hx
    rw [List.all_eq_true]
    intro y hy
    have hy := List.mem_range.mp hy
    rw [Bool.or_eq_true, Bool.or_eq_true, Bool.or_eq_true, Bool.not_eq_true', Bool.not_eq_true']
    by_cases Jx : J x
    · by_cases e : x = y
      · exact .inl (.inl (.inr (decide_eq_true e)))
      · by_cases g : shA sh x y = b
        · exact .inr ((bsOf_at hy).mpr (clo x hx y hy e Jx g))
        · exact .inl (.inr (by rw [← Bool.not_eq_true, beq_iff_eq]; exact g))
    · exact .inl (.inl (.inl (Bool.eq_false_iff.mpr fun z => Jx ((bsOf_at hx).mp z))))
  have c2 : ((List.range sh.1).any fun a => (bsOf sh.1 J).getD a false) = true := by
    rw [List.any_eq_true]
    exact ⟨i, List.mem_range.mpr hi, (bsOf_at hi).mpr Ji⟩
  rw [c1, c2] at h
  have h3 : allB sh (bsOf sh.1 J) = true := h
  unfold allB at h3
  rw [List.all_eq_true] at h3
  exact (bsOf_at ha).mp (h3 a (List.mem_range.mpr ha))
/-- between two sets it is as the shape says -/
def BtwG (ts : List (Int × Int)) (sh : Shp) (Js : List (List Int)) : Prop := ∀ (i j : Nat) (S T : List Int), i ≠ j → Js[i]? = some S → Js[j]? = some T → ∀ x ∈ S, ∀ y ∈ T, adjB ts x y = shA sh i j
section close
variable {ts : List (Int × Int)} {sh : Shp} {I : List Int} {Is Js : List (List Int)}
theorem close_at (pm : Js.Perm Is) (pt : PartI I Is) {x : Int} (hx : x ∈ I) : ∃ (i : Nat) (S : List Int), Js[i]? = some S ∧ x ∈ S := by
  obtain ⟨S, hS, xS⟩ := pt.own hx
  obtain ⟨i, e⟩ := List.getElem?_of_mem (pm.mem_iff.mpr hS)
  exact ⟨i, S, e, xS⟩
theorem close_con (hs : sh ∈ shapes) (pm : Js.Perm Is) (jl : Js.length = sh.1) (pt : PartI I Is) (bt : BtwG ts sh Js) (b : Bool) : ConI ts b I := fun A cA x hx ax y hy => by
  have k4 := (shape_k sh hs).1
  have inI : ∀ {i : Nat} {S : List Int}, Js[i]? = some S → ∀ z ∈ S, z ∈ I := fun {i S} e z hz => pt.sub (pm.mem_iff.mp (List.mem_of_getElem? e)) z hz
  have lt : ∀ {i : Nat} {S : List Int}, Js[i]? = some S → i < sh.1 := fun {i S} e => by
    have := (List.getElem?_eq_some_iff.mp e).1
    omega
  obtain ⟨i, S, eS, xS⟩ := close_at pm pt hx
  obtain ⟨j, T, eT, yT⟩ := close_at pm pt hy
  have all := shape_conP hs b (J := fun a => ∃ (U : List Int) (z : Int), Js[a]? = some U ∧ z ∈ U ∧ A z) (fun u hu v hv uv ⟨U, z, eU, zU, az⟩ g => by
    have hv' : v < Js.length := by omega
    obtain ⟨q, qV⟩ := List.exists_mem_of_ne_nil _ (pt.ne Js[v] (pm.mem_iff.mp (List.getElem_mem hv')))
    have eV : Js[v]? = some Js[v] := List.getElem?_eq_getElem hv'
    exact ⟨Js[v], q, eV, qV, cA z (inI eU z zU) q (inI eV q qV) az (by rw [bt u v U _ uv eU eV z zU q qV]; exact g)⟩) (lt eS) ⟨S, x, eS, xS, ax⟩
  -- a set that is joined to y's
  have hj := lt eT
  obtain ⟨u, hu, uj, g⟩ : ∃ u, u < sh.1 ∧ u ≠ j ∧ shA sh u j = b := by
    refine Classical.byContradiction fun no => ?_
    obtain ⟨o, ho, oj⟩ : ∃ o, o < sh.1 ∧ o ≠ j := ⟨if j = 0 then 1 else 0, by split <;> omega, by split <;> omega⟩
    have := shape_conP hs b (J := fun a => a = j) (fun x hx y hy n ex g => by
      subst ex
      exact absurd ⟨y, hy, Ne.symm n, by rw [shA_comm]; exact g⟩ no) hj rfl o ho
    exact oj this
  obtain ⟨U, z, eU, zU, az⟩ := all u hu
  exact cA z (inI eU z zU) y hy az (by rw [bt u j U T uj eU eT z zU y yT]; exact g)
theorem close_cls (hs : sh ∈ shapes) (pm : Js.Perm Is) (jl : Js.length = sh.1) (pt : PartI I Is) (bt : BtwG ts sh Js) (r : I.Pairwise (· < ·)) {S : List Int} (hS : S ∈ Is) {p : Int} (pS : p ∈ S) : clsI ts I p = S := by
  have nI : I.Nodup := r.imp fun h => Int.ne_of_lt h
  have k4 := (shape_k sh hs).1
  have inI : ∀ {i : Nat} {S : List Int}, Js[i]? = some S → ∀ z ∈ S, z ∈ I := fun {i S} e z hz => pt.sub (pm.mem_iff.mp (List.mem_of_getElem? e)) z hz
  have lt : ∀ {i : Nat} {S : List Int}, Js[i]? = some S → i < sh.1 := fun {i S} e => by
    have := (List.getElem?_eq_some_iff.mp e).1
    omega
  have get : ∀ {i : Nat}, i < sh.1 → ∃ (U : List Int) (z : Int), Js[i]? = some U ∧ z ∈ U := fun {i} hi => by
    have hi' : i < Js.length := by omega
    obtain ⟨q, qV⟩ := List.exists_mem_of_ne_nil _ (pt.ne Js[i] (pm.mem_iff.mp (List.getElem_mem hi')))
    exact ⟨_, q, List.getElem?_eq_getElem hi', qV⟩
  have jIs : ∀ {i : Nat} {S : List Int}, Js[i]? = some S → S ∈ Is := fun {i S} e => pm.mem_iff.mp (List.mem_of_getElem? e)
  have nJ : Js.Nodup := pm.nodup_iff.mpr (pt.nods nI)
  have uniq : ∀ {i j : Nat} {S : List Int}, Js[i]? = some S → Js[j]? = some S → i = j := fun {i j S} e f => by
    obtain ⟨hi, ei⟩ := List.getElem?_eq_some_iff.mp e
    obtain ⟨hj, ej⟩ := List.getElem?_eq_some_iff.mp f
    exact (List.getElem_inj nJ).mp (ei.trans ej.symm)
  refine rise_ext (r.sublist (by unfold clsI; exact List.filter_sublist)) (pt.rise S hS) fun q => ?_
  rw [mem_clsI]
  obtain ⟨i, eS⟩ := List.getElem?_of_mem (pm.mem_iff.mpr hS)
  constructor
  · rintro ⟨qI, M, cM, Mp, Mq, z, zI, nz⟩
    obtain ⟨j, T, eT, qT⟩ := close_at pm pt qI
    by_cases ij : i = j
    · subst ij
      rw [eS] at eT
      cases eT; exact qT
    exfalso
    let J : Nat → Prop := fun a => ∃ (U : List Int) (x : Int), Js[a]? = some U ∧ x ∈ U ∧ M x
    have Jall : ∀ a, a < sh.1 → J a := shape_primeP hs (J := J) (fun c hc nc a ha b hb ⟨U, x, eU, xU, Mx⟩ ⟨V', y, eV, yV, My⟩ => by
      obtain ⟨Z, d, eZ, dZ⟩ := get hc
      have nd : ¬ M d := fun k => nc ⟨Z, d, eZ, dZ, k⟩
      have ca : c ≠ a := fun k => nc (by subst k; exact ⟨U, x, eU, xU, Mx⟩)
      have cb : c ≠ b := fun k => nc (by subst k; exact ⟨V', y, eV, yV, My⟩)
      have := cM d (inI eZ d dZ) nd x (inI eU x xU) y (inI eV y yV) Mx My
      rw [bt c a Z U ca eZ eU d dZ x xU, bt c b Z V' cb eZ eV d dZ y yV] at this
      exact this) (lt eS) (lt eT) ij ⟨S, p, eS, pS, Mp⟩ ⟨T, q, eT, qT, Mq⟩
    obtain ⟨c, Z, eZ, zZ⟩ := close_at pm pt zI
    have hc := lt eZ
    obtain ⟨u, v, hu, hv, uv, uc, vc⟩ : ∃ u v, u < sh.1 ∧ v < sh.1 ∧ u ≠ v ∧ u ≠ c ∧ v ≠ c := by
      rcases c with _ | _ | c
      · exact ⟨1, 2, by omega, by omega, by omega, by omega, by omega⟩
      · exact ⟨0, 2, by omega, by omega, by omega, by omega, by omega⟩
      · exact ⟨0, 1, by omega, by omega, by omega, by omega, by omega⟩
    have := shape_primeP hs (J := fun a => a ≠ c) (fun c' hc' nc a ha b hb na nb => by
      have : c' = c := Classical.byContradiction fun k => nc k
      subst this
      obtain ⟨U, x, eU, xU, Mx⟩ := Jall a ha
      obtain ⟨V', y, eV, yV, My⟩ := Jall b hb
      have := cM z zI nz x (inI eU x xU) y (inI eV y yV) Mx My
      rw [bt c' a Z U (Ne.symm na) eZ eU z zZ x xU, bt c' b Z V' (Ne.symm nb) eZ eV z zZ y yV] at this
      exact this) hu hv uv uc vc c hc
    exact this rfl
  · intro qS
    refine ⟨pt.sub hS q qS, (· ∈ S), fun d hd nd a ha b hb aS bS => ?_, pS, qS, ?_⟩
    · obtain ⟨j, T, eT, dT⟩ := close_at pm pt hd
      have ji : j ≠ i := fun k => by
        subst k
        rw [eS] at eT
        cases eT; exact nd dT
      rw [bt j i T S ji eT eS d dT a aS, bt j i T S ji eT eS d dT b bS]
    · obtain ⟨T, hT, nT⟩ := pt.other nI S
      obtain ⟨z, zT⟩ := List.exists_mem_of_ne_nil _ (pt.ne T hT)
      exact ⟨z, pt.sub hT z zT, fun zS => nT (pt.dis nI T hT S hS z zT zS)⟩
theorem close_clsG (hs : sh ∈ shapes) (pm : Js.Perm Is) (jl : Js.length = sh.1) (pt : PartI I Is) (bt : BtwG ts sh Js) (r : I.Pairwise (· < ·)) (ord : Is.Pairwise HdLt) : ClsG ts I I.length Is := by
  have nI : I.Nodup := r.imp fun h => Int.ne_of_lt h
  refine ⟨fun S hS => ?_, fun p hp => ?_, pt.nods nI, fun _ _ _ => ord⟩
  · obtain ⟨p, hp⟩ := List.exists_mem_of_ne_nil _ (pt.ne S hS)
    exact ⟨p, by rw [List.take_length]; exact pt.sub hS p hp, (close_cls hs pm jl pt bt r hS hp).symm⟩
  · rw [List.take_length] at hp
    obtain ⟨S, hS, pS⟩ := pt.own hp
    rw [close_cls hs pm jl pt bt r hS pS]
    exact hS
end close
def factN : Nat → Int
  | 0 => 1
  | n + 1 => factN n * ((n + 1 : Nat) : Int)
def NodeB (ts : List (Int × Int)) (ab w : Str) (Is : List (List Int)) (own : Int) : Prop :=
  (w = "all" ∧ ab ≠ "all" ∧ own = factN Is.length ∧ BtwP ts true Is) ∨ (w = "apart" ∧ ab ≠ "apart" ∧ own = 1 ∧ BtwP ts false Is) ∨
  (w = "close" ∧ ∃ sh ∈ shapes, ∃ Js : List (List Int), Js.Perm Is ∧ Js.length = sh.1 ∧ own = sh.2.2 ∧ BtwG ts sh Js)
def prodI (l : List Int) : Int := l.foldr (· * ·) 1
/-- a drawn tree of the places I: where it stands, under which word, in how many ways -/
def DrX (ts : List (Int × Int)) (H : Hp) : Nat → V → List Int → Int → Str → Prop
  | 0, _, _, _, _ => False
  | m + 1, v, I, wy, ab => (∃ p i, v = .ref p ∧ H p = some (.tup [.str "place", .int i]) ∧ I = [i] ∧ wy = 1) ∨
      ∃ (p q : Addr) (w : Str) (vs : List V) (bs : List (List Int × Int)) (own : Int), v = .ref p ∧ H p = some (.tup [.str w, .ref q]) ∧ H q = some (.tup vs) ∧ All2 (fun v b => DrX ts H m v b.1 b.2 w) vs bs ∧
        (I.Pairwise (· < ·) ∧ PartI I (bs.map (·.1)) ∧ (bs.map (·.1)).Pairwise HdLt) ∧ NodeB ts ab w (bs.map (·.1)) own ∧ wy = own * prodI (bs.map (·.2))
theorem DrX.mono {ts : List (Int × Int)} {H H' : Hp} (t : Tst H H') : ∀ {m : Nat} {v : V} {I : List Int} {wy : Int} {ab : Str}, DrX ts H m v I wy ab → DrX ts H' m v I wy ab
  | 0, _, _, _, _, h => h.elim
  | m + 1, v, I, wy, ab, h => by
    rcases h with ⟨p, i, e, a, b⟩ | ⟨p, q, w, vs, bs, own, e, a, b, c, d⟩
    · exact .inl ⟨p, i, e, t _ _ a, b⟩
    · exact .inr ⟨p, q, w, vs, bs, own, e, t _ _ a, t _ _ b, c.imp fun _ _ h => DrX.mono t h, d⟩
theorem DrX.up {ts : List (Int × Int)} {H : Hp} : ∀ {m : Nat} {v : V} {I : List Int} {wy : Int} {ab : Str}, DrX ts H m v I wy ab → DrX ts H (m + 1) v I wy ab
  | 0, _, _, _, _, h => h.elim
  | m + 1, v, I, wy, ab, h => by
    rcases h with ⟨p, i, e, a, b⟩ | ⟨p, q, w, vs, bs, own, e, a, b, c, d⟩
    · exact .inl ⟨p, i, e, a, b⟩
    · exact .inr ⟨p, q, w, vs, bs, own, e, a, b, c.imp fun _ _ h => DrX.up h, d⟩
theorem DrX.ups {ts : List (Int × Int)} {H : Hp} {m : Nat} {v : V} {I : List Int} {wy : Int} {ab : Str} (h : DrX ts H m v I wy ab) : ∀ {k : Nat}, m ≤ k → DrX ts H k v I wy ab := fun {k} hk => by
  obtain ⟨d, rfl⟩ : ∃ d, k = m + d := ⟨k - m, by omega⟩
  clear hk
  induction d with
  | zero => exact h
  | succ d ih => exact ih.up
theorem DrX.rise {ts : List (Int × Int)} {H : Hp} : ∀ {m : Nat} {v : V} {I : List Int} {wy : Int} {ab : Str}, DrX ts H m v I wy ab → I.Pairwise (· < ·) ∧ I ≠ []
  | 0, _, _, _, _, h => h.elim
  | m + 1, v, I, wy, ab, h => by
    rcases h with ⟨p, i, e, a, rfl, _⟩ | ⟨p, q, w, vs, bs, own, e, a, b, c, ⟨d1, d2, d3⟩, _⟩
    · exact ⟨List.pairwise_singleton _ _, fun z => by cases z⟩
    · refine ⟨d1, fun z => ?_⟩
      have := d2.len
      have t := d2.two
      rw [z] at this
      exact absurd (Nat.le_trans t this) (by decide)
theorem BtwP.cong {ts us : List (Int × Int)} {b : Bool} {Is : List (List Int)} {I : List Int} (sub : ∀ S ∈ Is, ∀ x ∈ S, x ∈ I) (c : ∀ x ∈ I, ∀ y ∈ I, adjB ts x y = adjB us x y) (h : BtwP ts b Is) : BtwP us b Is :=
  List.Pairwise.imp_of_mem (fun {S T} hS hT k x hx y hy => by rw [← c x (sub S hS x hx) y (sub T hT y hy)]; exact k x hx y hy) h
theorem NodeB.cong {ts us : List (Int × Int)} {ab w : Str} {Is : List (List Int)} {own : Int} {I : List Int} (sub : ∀ S ∈ Is, ∀ x ∈ S, x ∈ I) (c : ∀ x ∈ I, ∀ y ∈ I, adjB ts x y = adjB us x y) (h : NodeB ts ab w Is own) : NodeB us ab w Is own := by
  rcases h with ⟨a, b, d, e⟩ | ⟨a, b, d, e⟩ | ⟨a, sh, hs, Js, pm, jl, ow, bt⟩
  · exact .inl ⟨a, b, d, e.cong sub c⟩
  · exact .inr (.inl ⟨a, b, d, e.cong sub c⟩)
  · refine .inr (.inr ⟨a, sh, hs, Js, pm, jl, ow, fun i j S T ij eS eT x hx y hy => ?_⟩)
    rw [← c x (sub S (pm.mem_iff.mp (List.mem_of_getElem? eS)) x hx) y (sub T (pm.mem_iff.mp (List.mem_of_getElem? eT)) y hy)]
    exact bt i j S T ij eS eT x hx y hy
theorem all2_impMem {α : Type} {R S : V → α → Prop} : ∀ {vs : List V} {ts : List α}, (∀ v t, t ∈ ts → R v t → S v t) → All2 R vs ts → All2 S vs ts
  | [], [], _, _ => trivial
  | _ :: _, _ :: _, f, h => ⟨f _ _ List.mem_cons_self h.1, all2_impMem (fun v t ht => f v t (List.mem_cons_of_mem _ ht)) h.2⟩
  | [], _ :: _, _, h => h.elim
  | _ :: _, [], _, h => h.elim
theorem DrX.cong {ts us : List (Int × Int)} {H : Hp} : ∀ {m : Nat} {v : V} {I : List Int} {wy : Int} {ab : Str}, (∀ x ∈ I, ∀ y ∈ I, adjB ts x y = adjB us x y) → DrX ts H m v I wy ab → DrX us H m v I wy ab
  | 0, _, _, _, _, _, h => h.elim
  | m + 1, v, I, wy, ab, k, h => by
    rcases h with ⟨p, i, e, a, b⟩ | ⟨p, q, w, vs, bs, own, e, a, b, c, ⟨d1, d2, d3⟩, nb, ew⟩
    · exact .inl ⟨p, i, e, a, b⟩
    · have sub : ∀ S ∈ bs.map (·.1), ∀ x ∈ S, x ∈ I := fun S hS => d2.sub hS
      refine .inr ⟨p, q, w, vs, bs, own, e, a, b, all2_impMem (fun v t ht h => ?_) c, ⟨d1, d2, d3⟩, nb.cong sub k, ew⟩
      have st := sub t.1 (List.mem_map.mpr ⟨t, ht, rfl⟩)
      exact DrX.cong (fun x hx y hy => k x (st x hx) y (st y hy)) h
theorem NodeB.con {ts : List (Int × Int)} {ab w : Str} {I : List Int} {Is : List (List Int)} {own : Int} (pt : PartI I Is) (r : I.Pairwise (· < ·)) (h : NodeB ts ab w Is own) : (w ≠ "apart" → ConI ts true I) ∧ (w ≠ "all" → ConI ts false I) := by
  have nI : I.Nodup := r.imp fun h => Int.ne_of_lt h
  rcases h with ⟨rfl, b, d, e⟩ | ⟨rfl, b, d, e⟩ | ⟨rfl, sh, hs, Js, pm, jl, ow, bt⟩
  · exact ⟨fun _ => con_btw pt nI e, fun z => absurd rfl z⟩
  · exact ⟨fun z => absurd rfl z, fun _ => con_btw pt nI e⟩
  · exact ⟨fun _ => close_con hs pm jl pt bt true, fun _ => close_con hs pm jl pt bt false⟩
theorem NodeB.ne {ts : List (Int × Int)} {ab w : Str} {Is : List (List Int)} {own : Int} (h : NodeB ts ab w Is own) : (ab = "apart" → w ≠ "apart") ∧ (ab = "all" → w ≠ "all") := by
  rcases h with ⟨rfl, b, d, e⟩ | ⟨rfl, b, d, e⟩ | ⟨rfl, _⟩
  · exact ⟨fun _ z => absurd z (by decide), fun z => absurd z b⟩
  · exact ⟨fun z => absurd z b, fun _ z => absurd z (by decide)⟩
  · exact ⟨fun _ z => absurd z (by decide), fun _ z => absurd z (by decide)⟩
theorem con_one (ts : List (Int × Int)) (b : Bool) (i : Int) : ConI ts b [i] := fun A _ x hx ax y hy => by
  rw [List.mem_singleton.mp hx] at ax
  rw [List.mem_singleton.mp hy]; exact ax
theorem DrX.con {ts : List (Int × Int)} {H : Hp} {m : Nat} {v : V} {I : List Int} {wy : Int} {ab : Str} (h : DrX ts H m v I wy ab) : (ab = "apart" → ConI ts true I) ∧ (ab = "all" → ConI ts false I) := by
  cases m with
  | zero => exact h.elim
  | succ m =>
    rcases h with ⟨p, i, e, a, rfl, _⟩ | ⟨p, q, w, vs, bs, own, e, a, b, c, ⟨d1, d2, d3⟩, nb, ew⟩
    · exact ⟨fun _ => con_one ts true i, fun _ => con_one ts false i⟩
    · obtain ⟨k1, k2⟩ := nb.con d2 d1
      obtain ⟨n1, n2⟩ := nb.ne
      exact ⟨fun z => k1 (n1 z), fun z => k2 (n2 z)⟩
theorem all2_map1 {α β : Type} {R : V → β → Prop} {f : α → β} : ∀ {vs : List V} {bs : List α}, All2 (fun v b => R v (f b)) vs bs → All2 R vs (bs.map f)
  | [], [], _ => trivial
  | _ :: _, _ :: _, h => ⟨h.1, all2_map1 h.2⟩
  | [], _ :: _, h => h.elim
  | _ :: _, [], h => h.elim
theorem all2_get {α : Type} {R : V → α → Prop} : ∀ {vs : List V} {bs : List α}, All2 R vs bs → ∀ b ∈ bs, ∃ v, R v b
  | [], [], _, _, h => by cases h
  | v :: _, b :: _, h, c, hc => by
    rcases List.mem_cons.mp hc with rfl | hc
    · exact ⟨v, h.1⟩
    · exact all2_get h.2 c hc
  | [], _ :: _, h, _, _ => h.elim
  | _ :: _, [], h, _, _ => h.elim
/-- a drawn tree is the exact tree of its web -/
theorem DrX.exact {ts : List (Int × Int)} {H : Hp} : ∀ {m : Nat} {v : V} {I : List Int} {wy : Int} {ab : Str}, DrX ts H m v I wy ab → TrX ts H m v I
  | 0, _, _, _, _, h => h.elim
  | m + 1, v, I, wy, ab, h => by
    rcases h with ⟨p, i, e, a, b, _⟩ | ⟨p, q, w, vs, bs, own, e, a, b, c, ⟨d1, d2, d3⟩, nb, ew⟩
    · exact .inl ⟨p, i, e, a, b⟩
    · have nI : I.Nodup := d1.imp fun h => Int.ne_of_lt h
      have l2 : 2 ≤ I.length := Nat.le_trans d2.two d2.len
      have Ine : I ≠ [] := fun z => by rw [z] at l2; exact absurd l2 (by decide)
      have kids : ∀ S ∈ bs.map (·.1), (w = "apart" → ConI ts true S) ∧ (w = "all" → ConI ts false S) := fun S hS => by
        obtain ⟨t, ht, rfl⟩ := List.mem_map.mp hS
        obtain ⟨u, hu⟩ := all2_get c t ht
        exact hu.con
      have len2 : 1 < (bs.map (·.1)).length := d2.two
      refine .inr ⟨p, q, w, vs, bs.map (·.1), e, a, ⟨d1, l2⟩, ?_, b, all2_map1 (c.imp fun _ _ h => DrX.exact h)⟩
      rcases nb with ⟨rfl, b, d, e⟩ | ⟨rfl, b, d, e⟩ | ⟨rfl, sh, hs, Js, pm, jl, ow, bt⟩
      · exact .inr (.inl ⟨rfl, ⟨[I], setsI_one (con_btw d2 nI e) d1 Ine, by simp⟩, setsI_parts d2 d3 e fun S hS => (kids S hS).2 rfl, len2⟩)
      · exact .inl ⟨rfl, setsI_parts d2 d3 e fun S hS => (kids S hS).1 rfl, len2⟩
      · exact .inr (.inr ⟨rfl, ⟨[I], setsI_one (close_con hs pm jl d2 bt true) d1 Ine, by simp⟩, ⟨[I], setsI_one (close_con hs pm jl d2 bt false) d1 Ine, by simp⟩, close_clsG hs pm jl d2 bt d1 d3⟩)
end My

set_option Elab.async false
set_option linter.all false
set_option maxRecDepth 100000
set_option pp.maxSteps 400
set_option maxHeartbeats 4000000
namespace My
open PySem PySem.Spec PyProof.Rows L2 GxR
def toI (t : Nat × Nat) : Int × Int := ((t.1 : Int), (t.2 : Int))
/-- how a shape is written -/
def TxtOk (s : Int × Str × Int) (sh : Shp) : Prop := s.1 = (sh.1 : Int) ∧ s.2.2 = sh.2.2 ∧ s.2.1.length + 2 ≤ 100000 ∧ (Txt.split s.2.1 " ").length = sh.2.1.length ∧
  ∀ (i : Nat) (x : Str), (Txt.split s.2.1 " ")[i]? = some x → ∃ (t : Nat × Nat) (c0 c1 : Nat), sh.2.1[i]? = some t ∧ x.length ≤ 10 ∧ atI x.cps.toList 0 = some c0 ∧ atI x.cps.toList 1 = some c1 ∧ intText? (⟨#[c0]⟩ : Str) = some (t.1 : Int) ∧ intText? (⟨#[c1]⟩ : Str) = some (t.2 : Int)
def txts : List (Int × Str × Int) := [(4, "01 12 23", 2), (5, "01 12 23 34", 2), (5, "01 12 23 34 04", 0), (5, "01 12 23 14 24", 2), (5, "02 03 04 13 14 24", 2), (6, "01 12 23 34 45 05", 2), (6, "01 12 23 34 45", 2)]
def txtB (s : Int × Str × Int) (sh : Shp) : Bool := decide (s.1 = (sh.1 : Int)) && decide (s.2.2 = sh.2.2) && decide (s.2.1.length + 2 ≤ 100000) && decide ((Txt.split s.2.1 " ").length = sh.2.1.length) &&
  ((Txt.split s.2.1 " ").zip sh.2.1).all fun (x, t) => decide (x.length ≤ 10) && match atI x.cps.toList 0, atI x.cps.toList 1 with
    | some c0, some c1 => decide (intText? (⟨#[c0]⟩ : Str) = some (t.1 : Int)) && decide (intText? (⟨#[c1]⟩ : Str) = some (t.2 : Int))
    | _, _ => false
theorem txtB_ok {s : Int × Str × Int} {sh : Shp} (h : txtB s sh = true) : TxtOk s sh := by
  unfold txtB at h
  simp only [Bool.and_eq_true, decide_eq_true_eq, List.all_eq_true] at h
  obtain ⟨⟨⟨⟨a, b⟩, c⟩, d⟩, e⟩ := h
  refine ⟨a, b, c, d, fun i x ex => ?_⟩
  obtain ⟨hi, _⟩ := List.getElem?_eq_some_iff.mp ex
  have hj : i < sh.2.1.length := by omega
  have et : sh.2.1[i]? = some sh.2.1[i] := List.getElem?_eq_getElem hj
  have mz : (x, sh.2.1[i]) ∈ (Txt.split s.2.1 " ").zip sh.2.1 := List.mem_of_getElem? (i := i) (by rw [List.getElem?_zip_eq_some]; exact ⟨ex, et⟩)
  have k := e _ mz
  dsimp only at k
  obtain ⟨k1, k2⟩ := k
  cases e0 : atI x.cps.toList 0 with
  | none => rw [e0] at k2; cases k2
  | some c0 =>
    cases e1 : atI x.cps.toList 1 with
    | none => rw [e0, e1] at k2; cases k2
    | some c1 =>
      rw [e0, e1] at k2
      dsimp only at k2
      rw [Bool.and_eq_true, decide_eq_true_eq, decide_eq_true_eq] at k2
      exact ⟨_, c0, c1, et, k1, rfl, rfl, k2.1, k2.2⟩
theorem shape_tl : ∀ sh ∈ shapes, sh.2.1.length ≤ 12 := by decide +kernel
theorem txts_ok : ∀ s ∈ txts, ∃ sh ∈ shapes, txtB s sh = true := by decide +kernel
def ShpV (H : Hp) (v : V) (s : Int × Str × Int) : Prop := ∃ p, v = .ref p ∧ H p = some (.tup [.int s.1, .str s.2.1, .int s.2.2])
theorem ShpV.mono {H H' : Hp} {v : V} {s : Int × Str × Int} (t : Tst H H') (h : ShpV H v s) : ShpV H' v s := by
  obtain ⟨p, e, h⟩ := h
  exact ⟨p, e, t _ _ h⟩
section
variable {P : Program} {w : World} {K : PySem.W.Frag} {mg : Str → Option Value} {base : Heap}
/-! ### _law_shape -/
abbrev s__law_shape : Stmt := topS 26
abbrev N__law_shape : List Str := ["_law_left_here", "_law_most", "_law_some", "_law_one", "_law_many", "_law_ties", "_law_ways", "_law_tie"]
theorem sc__law_shape : FnScope N__law_shape ["_law_left_here", "_law_most"] (defScope s__law_shape) := ⟨rfl, rfl, rfl, by decide +kernel, rfl, by decide +kernel, by decide +kernel⟩
def sp_lshape : Sp := fun vs H Q _ => ∃ (L : Addr) (n : Nat) (c : Int), vs = [.ref L, .int (n : Int)] ∧ Lf H L c ∧ c < 2 ^ 48 ∧ 4 ≤ n ∧ n ≤ 12 ∧
  ∀ (p q : Addr) (sh : Shp) (us : List V) (H' : Hp), sh ∈ shapes → sh.1 ≤ n → H q = none → Fr L H H' → Lf H' L (c + 1) → H' p = some (.tup [.int (sh.1 : Int), .ref q, .int sh.2.2]) → H' q = some (.lst us) → Ties H' us (sh.2.1.map toI) → Q (.ref p) H'
theorem ok_lshape {f : Addr} {fd : FuncData} (B : Bts mg) (F : Fun K "_law_shape" "_law_shape" s__law_shape f fd) (c__law_pick : Cl P w K mg base 2 "_law_pick" sp_pick) : FnOk P w K mg base CX0 3 f fd ["_law_left_here", "_law_most"] sp_lshape := by
  refine F.ok sc__law_shape (fun vs H Q E h => ?_) (fun cdv A outer s H vs Q E hr h => ?_)
  · obtain ⟨L, n, c, rfl, _⟩ := h; rfl
  · obtain ⟨L, n, c, rfl, hL, hc, n4, n12, q⟩ := h
    refine ⟨_, (pss_cons (ps_set (i := 2) sc__law_shape.nd rfl (by first | exact Or.inl rfl | exact Or.inr rfl) (pe_lst (pa_cons (pe_tup (pa_cons pe_int (pa_cons pe_str (pa_cons pe_int pa_nil)))) (pa_cons (pe_tup (pa_cons pe_int (pa_cons pe_str (pa_cons pe_int pa_nil)))) (pa_cons (pe_tup (pa_cons pe_int (pa_cons pe_str (pa_cons pe_int pa_nil)))) (pa_cons (pe_tup (pa_cons pe_int (pa_cons pe_str (pa_cons pe_int pa_nil)))) pa_nil))))))
    (pss_cons (ps_set (i := 2) sc__law_shape.nd rfl (by first | exact Or.inl rfl | exact Or.inr rfl) (pe_op op_cat (pv 2) (pe_lst (pa_cons (pe_tup (pa_cons pe_int (pa_cons pe_str (pa_cons pe_int pa_nil)))) (pa_cons (pe_tup (pa_cons pe_int (pa_cons pe_str (pa_cons pe_int pa_nil)))) (pa_cons (pe_tup (pa_cons pe_int (pa_cons pe_str (pa_cons pe_int pa_nil)))) pa_nil))))))
    (pss_cons (ps_setLc (i := 2) (own := [("_law_one", 3)]) (g := (gName 3)) (tt := (tTest (tOp _ (tOp (rIxT K) _ _) _))) rfl sc__law_shape.nd rfl rfl (sw_true rfl rfl rfl (by decide +kernel)) (pi_list (pv 2)) (blkOk_by (own := [("_law_one", 3)]) (N := N__law_shape) (sc := defScope s__law_shape) (by decide +kernel)) (fun _ _ _ _ _ => (pg_name (i := 3) sc__law_shape.nd rfl (by first | exact Or.inl rfl | exact Or.inr rfl))) (fun _ _ _ _ _ => (pts_one (pt_cmpR op_le (pe_ix ix_tup (pv 3) pe_int (fun _ _ => rfl)) (pv 1) (nomark _)))) (fun _ _ _ _ _ => (pv 3)))
    (pss_cons (ps_asg (pe_ix ix_list (pv 2) (pe_c c__law_pick hr (by decide) (by rfl) (pa_cons (pv 0) (pa_cons (pe_callB call_len_seq (by rfl) B.len (by decide +kernel) (pa_cons (pv 2) pa_nil)) pa_nil))) (fun _ _ => rfl)) (pg_tup rfl (pgs_cons (pg_name (i := 4) sc__law_shape.nd rfl (by first | exact Or.inl rfl | exact Or.inr rfl)) (pgs_cons (pg_name (i := 5) sc__law_shape.nd rfl (by first | exact Or.inl rfl | exact Or.inr rfl)) (pgs_cons (pg_name (i := 6) sc__law_shape.nd rfl (by first | exact Or.inl rfl | exact Or.inr rfl)) pgs_nil)))))
    (pss_one (ps_ret (pe_tup (pa_cons (pv 4) (pa_cons (pe_lc (own := [("_law_tie", 7)]) (g := (gName 7)) (tt := tYes) rfl sc__law_shape.nd (pi_list (pe_bm PySem.F.plainAttrs_str PySem.F.slot_str_split PySem.F.type_str_split mt_split (pv 5) (pa_cons pe_str pa_nil))) (blkOk_by (own := [("_law_tie", 7)]) (N := N__law_shape) (sc := defScope s__law_shape) (by decide +kernel)) (fun _ _ _ _ _ => (pg_name (i := 7) sc__law_shape.nd rfl (by first | exact Or.inl rfl | exact Or.inr rfl))) (fun _ _ _ _ _ => pts_nil) (fun _ _ _ _ _ => (pe_tup (pa_cons (pe_callTy call_int_str (by rfl) B.int (by decide +kernel) (pa_cons (pe_ix ix_str (pv 7) pe_int (fun _ _ => rfl)) pa_nil)) (pa_cons (pe_callTy call_int_str (by rfl) B.int (by decide +kernel) (pa_cons (pe_ix ix_str (pv 7) pe_int (fun _ _ => rfl)) pa_nil)) pa_nil))))) (pa_cons (pv 6) pa_nil)))))))))), ?_⟩
    refine ⟨by show 3 ≤ sizeLine; decide, fun k1 nk1 => ?_⟩
    have s1 := same_new (o := .tup [.int 4, .str "01 12 23", .int 2]) nk1
    have v1 : ShpV (upd H k1 (.tup [.int 4, .str "01 12 23", .int 2])) (.ref k1) (4, "01 12 23", 2) := ⟨k1, rfl, upd_same⟩
    generalize upd H k1 (.tup [.int 4, .str "01 12 23", .int 2]) = H1 at s1 v1 ⊢
    refine ⟨by show 3 ≤ sizeLine; decide, fun k2 nk2 => ?_⟩
    have s2 := same_new (o := .tup [.int 5, .str "01 12 23 34", .int 2]) nk2
    have v2 : ShpV (upd H1 k2 (.tup [.int 5, .str "01 12 23 34", .int 2])) (.ref k2) (5, "01 12 23 34", 2) := ⟨k2, rfl, upd_same⟩
    replace v1 := v1.mono (Same.tst s2)
    replace s2 := s1.trans s2
    generalize upd H1 k2 (.tup [.int 5, .str "01 12 23 34", .int 2]) = H2 at s2 v1 v2 ⊢
    refine ⟨by show 3 ≤ sizeLine; decide, fun k3 nk3 => ?_⟩
    have s3 := same_new (o := .tup [.int 5, .str "01 12 23 34 04", .int 0]) nk3
    have v3 : ShpV (upd H2 k3 (.tup [.int 5, .str "01 12 23 34 04", .int 0])) (.ref k3) (5, "01 12 23 34 04", 0) := ⟨k3, rfl, upd_same⟩
    replace v1 := v1.mono (Same.tst s3)
    replace v2 := v2.mono (Same.tst s3)
    replace s3 := s2.trans s3
    generalize upd H2 k3 (.tup [.int 5, .str "01 12 23 34 04", .int 0]) = H3 at s3 v1 v2 v3 ⊢
    refine ⟨by show 3 ≤ sizeLine; decide, fun k4 nk4 => ?_⟩
    have s4 := same_new (o := .tup [.int 5, .str "01 12 23 14 24", .int 2]) nk4
    have v4 : ShpV (upd H3 k4 (.tup [.int 5, .str "01 12 23 14 24", .int 2])) (.ref k4) (5, "01 12 23 14 24", 2) := ⟨k4, rfl, upd_same⟩
    replace v1 := v1.mono (Same.tst s4)
    replace v2 := v2.mono (Same.tst s4)
    replace v3 := v3.mono (Same.tst s4)
    replace s4 := s3.trans s4
    generalize upd H3 k4 (.tup [.int 5, .str "01 12 23 14 24", .int 2]) = H4 at s4 v1 v2 v3 v4 ⊢
    refine ⟨by show 4 ≤ sizeLine; decide, fun D nD => ?_⟩
    have sD := same_new (o := .lst [.ref k1, .ref k2, .ref k3, .ref k4]) nD
    have eD := upd_same (H := H4) (a := D) (o := .lst [.ref k1, .ref k2, .ref k3, .ref k4])
    have a4 : All2 (ShpV (upd H4 D (.lst [.ref k1, .ref k2, .ref k3, .ref k4]))) [.ref k1, .ref k2, .ref k3, .ref k4] (txts.take 4) :=
      ⟨v1.mono (Same.tst sD), v2.mono (Same.tst sD), v3.mono (Same.tst sD), v4.mono (Same.tst sD), trivial⟩
    replace sD := s4.trans sD
    clear v1 v2 v3 v4 s1 s2 s3 s4
    generalize upd H4 D (.lst [.ref k1, .ref k2, .ref k3, .ref k4]) = H5 at sD eD a4 ⊢
    refine ⟨_, rfl, by show 3 ≤ sizeLine; decide, fun k5 nk5 => ?_⟩
    have s5 := same_new (o := .tup [.int 5, .str "02 03 04 13 14 24", .int 2]) nk5
    have v5 : ShpV (upd H5 k5 (.tup [.int 5, .str "02 03 04 13 14 24", .int 2])) (.ref k5) (5, "02 03 04 13 14 24", 2) := ⟨k5, rfl, upd_same⟩
    have eD5 := s5 _ _ eD
    replace a4 := a4.imp fun _ _ h => h.mono (Same.tst s5)
    replace s5 := sD.trans s5
    generalize upd H5 k5 (.tup [.int 5, .str "02 03 04 13 14 24", .int 2]) = H6 at s5 v5 eD5 a4 ⊢
    refine ⟨by show 3 ≤ sizeLine; decide, fun k6 nk6 => ?_⟩
    have s6 := same_new (o := .tup [.int 6, .str "01 12 23 34 45 05", .int 2]) nk6
    have v6 : ShpV (upd H6 k6 (.tup [.int 6, .str "01 12 23 34 45 05", .int 2])) (.ref k6) (6, "01 12 23 34 45 05", 2) := ⟨k6, rfl, upd_same⟩
    have eD6 := s6 _ _ eD5
    replace v5 := v5.mono (Same.tst s6)
    replace a4 := a4.imp fun _ _ h => h.mono (Same.tst s6)
    replace s6 := s5.trans s6
    generalize upd H6 k6 (.tup [.int 6, .str "01 12 23 34 45 05", .int 2]) = H7 at s6 v5 v6 eD6 a4 ⊢
    refine ⟨by show 3 ≤ sizeLine; decide, fun k7 nk7 => ?_⟩
    have s7 := same_new (o := .tup [.int 6, .str "01 12 23 34 45", .int 2]) nk7
    have v7 : ShpV (upd H7 k7 (.tup [.int 6, .str "01 12 23 34 45", .int 2])) (.ref k7) (6, "01 12 23 34 45", 2) := ⟨k7, rfl, upd_same⟩
    have eD7 := s7 _ _ eD6
    replace v5 := v5.mono (Same.tst s7)
    replace v6 := v6.mono (Same.tst s7)
    replace a4 := a4.imp fun _ _ h => h.mono (Same.tst s7)
    replace s7 := s6.trans s7
    generalize upd H7 k7 (.tup [.int 6, .str "01 12 23 34 45", .int 2]) = H8 at s7 v5 v6 v7 eD7 a4 ⊢
    refine ⟨by show 3 ≤ sizeLine; decide, fun E nE => ?_⟩
    have sE := same_new (o := .lst [.ref k5, .ref k6, .ref k7]) nE
    have eE := upd_same (H := H8) (a := E) (o := .lst [.ref k5, .ref k6, .ref k7])
    have eD8 := sE _ _ eD7
    have a7 : All2 (ShpV (upd H8 E (.lst [.ref k5, .ref k6, .ref k7]))) ([.ref k1, .ref k2, .ref k3, .ref k4] ++ [.ref k5, .ref k6, .ref k7]) (txts.take 4 ++ txts.drop 4) :=
      All2.app (a4.imp fun _ _ h => h.mono (Same.tst sE)) ⟨v5.mono (Same.tst sE), v6.mono (Same.tst sE), v7.mono (Same.tst sE), trivial⟩
    replace sE := s7.trans sE
    rw [List.take_append_drop] at a7
    clear v5 v6 v7 a4 s5 s6 s7
    generalize upd H8 E (.lst [.ref k5, .ref k6, .ref k7]) = H9 at sE eE eD8 a7 ⊢
    refine ⟨D, E, _, _, rfl, rfl, eD8, eE, by show 7 ≤ sizeLine; decide, fun S nS => ?_⟩
    have sS := same_new (o := .lst ([.ref k1, .ref k2, .ref k3, .ref k4] ++ [.ref k5, .ref k6, .ref k7])) nS
    have eS := upd_same (H := H9) (a := S) (o := .lst ([.ref k1, .ref k2, .ref k3, .ref k4] ++ [.ref k5, .ref k6, .ref k7]))
    replace a7 := a7.imp fun _ _ h => h.mono (Same.tst sS)
    replace sS := sE.trans sS
    have l7 : ([.ref k1, .ref k2, .ref k3, .ref k4] ++ [.ref k5, .ref k6, .ref k7] : List V).length = 7 := rfl
    clear sE eD8 eE sD eD eD5 eD6 eD7
    generalize ([.ref k1, .ref k2, .ref k3, .ref k4] ++ [.ref k5, .ref k6, .ref k7] : List V) = xs at sS eS a7 l7 ⊢
    generalize upd H9 S (.lst xs) = HA at sS eS a7 ⊢
    refine ⟨_, rfl, S, rfl, ⟨_, SqL.of eS⟩, fun M nM => ?_⟩
    have n0M := same_free sS nM
    have tl : txts.length = 7 := rfl
    refine wk (walk_list (K := K) (a := S) (xs := xs)) (fun j HX => ∃ us fs, Same HA HX ∧ HX M = some (.lst us) ∧ All2 (ShpV HX) us fs ∧ (∀ s ∈ fs, s ∈ txts ∧ s.1 ≤ (n : Int)) ∧ fs.length ≤ j ∧ (1 ≤ j → 1 ≤ fs.length)) ⟨[], [], same_new nM, upd_same, by exact trivial, fun s h => absurd h List.not_mem_nil, Nat.zero_le _, fun z => absurd z (by decide)⟩ ?_ ?_ ?_
    · rintro j HX _ ⟨_, _, sX, _⟩
      exact SqL.of (sX _ _ eS)
    · rintro j x HX0 HX hj ⟨us, fs, sX, eM, hU, hf, fl, f1⟩ ⟨rfl, hx⟩
      obtain ⟨s, es, hs⟩ := a7.at hx
      have ul := hU.len
      obtain ⟨p, rfl, ep⟩ := hs.mono (Same.tst sX)
      have ms := List.mem_of_getElem? es
      refine ⟨rfl, _, rfl, p, _, 0, .int s.1, rfl, rfl, SqT.of ep, atI_nat (j := 0) rfl, _, rfl, _, _, rfl, rfl, _, rfl, ite2 (fun e => ?_) (fun e => ?_)⟩
      · have tp := tst_put (o := .lst (us ++ [.ref p])) eM
        refine ⟨_, rfl, us, eM, sz' (by omega), us ++ [.ref p], fs ++ [s], Same.put sX nM, upd_same, All2.app (hU.imp fun _ _ h => h.mono tp) ⟨⟨p, rfl, tp _ _ ep⟩, trivial⟩, fun t ht => ?_, by rw [List.length_append]; show fs.length + 1 ≤ _; omega, fun _ => by rw [List.length_append]; show 1 ≤ fs.length + 1; omega⟩
        rcases List.mem_append.mp ht with z | z
        · exact hf t z
        · rw [List.mem_singleton.mp z]; exact ⟨ms, of_decide_eq_true e⟩
      · refine ⟨us, fs, sX, eM, hU, hf, by omega, fun _ => ?_⟩
        rcases j with _ | j
        · exfalso
          have : s = ((4, "01 12 23", 2) : Int × Str × Int) := (Option.some.inj es).symm
          rw [this] at e
          exact e (decide_eq_true (by show (4 : Int) ≤ n; omega))
        · exact f1 (by omega)
    rintro HX ⟨us, fs, sX, eM, hU, hf, fl, f1⟩
    have ul := hU.len
    have f1 := f1 (by omega)
    have frX : Fr L H HX := Fr.of (sS.trans sX)
    refine ⟨_, rfl, _, rfl, _, rfl, M, us, rfl, .inl (SqL.of eM), L, _, c, rfl, hL.same (sS.trans sX), by omega, by omega, by omega, fun r H2 r0 r1 fr2 lf2 => ?_⟩
    have eM2 := fr2 _ _ (hL.ne n0M) eM
    obtain ⟨k, rfl⟩ := natOf r0
    have hk : k < us.length := by omega
    obtain ⟨s, es, hs⟩ := hU.at (List.getElem?_eq_getElem hk)
    obtain ⟨p, ep0, ep⟩ := hs.mono ((hL.same (sS.trans sX)).tst fr2)
    refine ⟨M, us, (k : Int), us[k], rfl, rfl, SqL.of eM2, atI_nat (List.getElem?_eq_getElem hk), ?_⟩
    rw [ep0]
    refine ⟨p, _, rfl, SqT.of ep, rfl, _, _, rfl, _, _, rfl, _, _, rfl, rfl, ?_⟩
    obtain ⟨ms, sn⟩ := hf s (List.mem_of_getElem? es)
    obtain ⟨sh, hsh, tb⟩ := txts_ok s ms
    obtain ⟨t1, t2, t3, t4, t5⟩ := txtB_ok tb
    have nl := lf2
    refine ⟨_, rfl, _, rfl, rfl, s.2.1, " ", rfl, rfl, by decide, sz t3, fun qa nq => ⟨qa, rfl, ⟨_, SqL.of upd_same⟩, fun G nG => ?_⟩⟩
    have sq := same_new (o := .lst ((Txt.split s.2.1 " ").map V.str)) nq
    have eqa := upd_same (H := H2) (a := qa) (o := .lst ((Txt.split s.2.1 " ").map V.str))
    generalize upd H2 qa (.lst ((Txt.split s.2.1 " ").map V.str)) = H3 at sq eqa nG ⊢
    have k6 := shape_k sh hsh
    have tl6 := shape_tl sh hsh
    refine wk (walk_list (K := K) (a := qa) (xs := (Txt.split s.2.1 " ").map V.str)) (fun j HX => ∃ ws, Same H3 HX ∧ HX G = some (.lst ws) ∧ Ties HX ws ((sh.2.1.take j).map toI)) ⟨[], same_new nG, upd_same, by exact trivial⟩ ?_ ?_ ?_
    · rintro j HX _ ⟨_, sX, _⟩
      exact SqL.of (sX _ _ eqa)
    · rintro j x HX0 HX hj ⟨ws, sX, eG, hw⟩ ⟨rfl, hx⟩
      rw [List.getElem?_map] at hx
      obtain ⟨x1, ex, rfl⟩ := Option.map_eq_some_iff.mp hx
      obtain ⟨t, c0, c1, et, xl, e0, e1, i0, i1⟩ := t5 j x1 ex
      have wl := hw.len
      rw [List.length_map, List.length_take] at wl
      refine ⟨rfl, yes ?_⟩
      refine ⟨_, rfl, x1, 0, c0, rfl, rfl, sz (by omega), e0, _, _, rfl, i0, by show 1 ≤ 640; decide, ?_⟩
      refine ⟨_, rfl, x1, 1, c1, rfl, rfl, sz (by omega), e1, _, _, rfl, i1, by show 1 ≤ 640; decide, ?_⟩
      refine ⟨by show 2 ≤ sizeLine; decide, fun k nk => ?_⟩
      have sk := same_new (o := .tup [.int (t.1 : Int), .int (t.2 : Int)]) nk
      have eGk := sk _ _ eG
      have tp := tst_put (o := .lst (ws ++ [.ref k])) eGk
      refine ⟨ws, eGk, sz' (by omega), ws ++ [.ref k], Same.put (sX.trans sk) nG, upd_same, ?_⟩
      rw [List.take_add_one, et]
      have := ((hw.mono (Same.tst sk)).mono tp).app (Ties.one (t := toI t) ⟨k, rfl, tp _ _ upd_same⟩)
      rw [List.map_append]
      exact this
    rintro HX ⟨ws, sX2, eG, hw⟩
    rw [List.length_map, t4, List.take_length] at hw
    refine ⟨_, rfl, by show 3 ≤ sizeLine; decide, fun T nT => ?_⟩
    have sT := same_new (o := .tup [.int s.1, .ref G, .int s.2.2]) nT
    have sZ := (sq.trans sX2).trans sT
    have GL : G ≠ L := (nl.same sq).ne nG
    refine q T G sh ws _ hsh ?_ ?_ ((frX.trans fr2).trans (Fr.of sZ)) (nl.same sZ) ?_ (sT _ _ eG) (hw.mono (Same.tst sT))
    · rw [t1] at sn; omega
    · exact Lf.free (frX.trans fr2) nl (same_free sq nG)
    · rw [← t1, ← t2]; exact upd_same
end
end My

set_option Elab.async false
set_option linter.all false
set_option maxRecDepth 100000
set_option pp.maxSteps 400
set_option maxHeartbeats 4000000
namespace My
open PySem PySem.Spec PyProof.Rows L2 GxR
/-! lists of numbers, each laid anew -/
structure LsA (H0 H : Hp) (p : Addr) (qs : List Addr) (F : List (List Int)) : Prop where
  here : H p = some (.lst (qs.map V.ref))
  len : qs.length = F.length
  nd : qs.Nodup
  out : p ∉ qs
  new : ∀ q ∈ qs, H0 q = none
  at_ : ∀ (i : Nat) (q : Addr), qs[i]? = some q → ∃ l, F[i]? = some l ∧ H q = some (.lst (l.map V.int))
theorem LsA.mono {H0 H H' : Hp} {p : Addr} {qs : List Addr} {F : List (List Int)} (h : LsA H0 H p qs F) (s : Same H H') : LsA H0 H' p qs F :=
  ⟨s _ _ h.here, h.len, h.nd, h.out, h.new, fun i q e => by obtain ⟨l, a, b⟩ := h.at_ i q e; exact ⟨l, a, s _ _ b⟩⟩
theorem LsA.keep {H0 H H' : Hp} {p : Addr} {qs : List Addr} {F : List (List Int)} (h : LsA H0 H p qs F) (hp : H' p = H p) (hq : ∀ q ∈ qs, H' q = H q) : LsA H0 H' p qs F :=
  ⟨hp.trans h.here, h.len, h.nd, h.out, h.new, fun i q e => by obtain ⟨l, a, b⟩ := h.at_ i q e; exact ⟨l, a, (hq q (List.mem_of_getElem? e)).trans b⟩⟩
theorem flat_set {x : Int} {A : List Int} : ∀ {F : List (List Int)} {r : Nat}, F[r]? = some A → (F.set r (A ++ [x])).flatten.Perm (F.flatten ++ [x])
  | B :: F, 0, e => by
    cases e
    rw [List.set_cons_zero, List.flatten_cons, List.flatten_cons, List.append_assoc, List.append_assoc]
    exact List.Perm.append_left _ List.perm_append_comm
  | B :: F, r + 1, e => by
    rw [List.set_cons_succ, List.flatten_cons, List.flatten_cons, List.append_assoc]
    exact List.Perm.append_left _ (flat_set (r := r) e)
section
variable {P : Program} {w : World} {K : PySem.W.Frag} {mg : Str → Option Value} {base : Heap}
/-! ### _law_shares -/
abbrev s__law_shares : Stmt := topS 27
abbrev N__law_shares : List Str := ["_law_left_here", "_law_places", "_law_many", "_law_found", "_law_place"]
theorem sc__law_shares : FnScope N__law_shares ["_law_left_here", "_law_places", "_law_many"] (defScope s__law_shares) := ⟨rfl, rfl, rfl, by decide +kernel, rfl, by decide +kernel, by decide +kernel⟩
def sp_shares : Sp := fun vs H Q _ => ∃ (L pa : Addr) (k : Nat) (c : Int) (P : List Int), vs = [.ref L, .ref pa, .int (k : Int)] ∧ Lf H L c ∧ c < 2 ^ 48 ∧ H pa = some (.lst (P.map V.int)) ∧ pa ≠ L ∧ 1 ≤ k ∧ k ≤ P.length ∧ P.length ≤ 12 ∧
  ∀ (T : Addr) (qs : List Addr) (F : List (List Int)) (H' : Hp), H T = none → Fr L H H' → Lf H' L (c + 12) → LsA H H' T qs F → F.length = k → F.flatten.Perm P → (∀ S ∈ F, S ≠ []) → Q (.ref T) H'
theorem ok_shares {f : Addr} {fd : FuncData} (B : Bts mg) (F : Fun K "_law_shares" "_law_shares" s__law_shares f fd) (c__law_pick : Cl P w K mg base 2 "_law_pick" sp_pick) : FnOk P w K mg base CX0 3 f fd ["_law_left_here", "_law_places", "_law_many"] sp_shares := by
  refine F.ok sc__law_shares (fun vs H Q E h => ?_) (fun cdv A outer s H vs Q E hr h => ?_)
  · obtain ⟨L, pa, k, c, P, rfl, _⟩ := h; rfl
  · obtain ⟨L, pa, k, c, P, rfl, hL, hc, ep, paL, k1, kP, P12, q⟩ := h
    refine ⟨_, (pss_cons (ps_setLc (i := 3) (own := [("_law_place", 4)]) (g := (gName 4)) (tt := tYes) rfl sc__law_shares.nd rfl rfl (sw_true rfl rfl rfl (by decide +kernel)) (pi_list (pe_slice sl_list (pv 1) po_none (po_some (pv 2)))) (blkOk_by (own := [("_law_place", 4)]) (N := N__law_shares) (sc := defScope s__law_shares) (by decide +kernel)) (fun _ _ _ _ _ => (pg_name (i := 4) sc__law_shares.nd rfl (by first | exact Or.inl rfl | exact Or.inr rfl))) (fun _ _ _ _ _ => pts_nil) (fun _ _ _ _ _ => (pe_lst (pa_cons (pv 4) pa_nil))))
    (pss_cons (ps_for PassesOwn.never rfl (pi_list (pe_slice sl_list (pv 1) (po_some (pv 2)) po_none)) (pg_name (i := 4) sc__law_shares.nd rfl (by first | exact Or.inl rfl | exact Or.inr rfl))
      (pss_one (ps_expr (pe_bm PySem.F.plainAttrs_list PySem.F.slot_list_append PySem.F.type_list_append mt_append (pe_ix ix_list (pv 3) (pe_c c__law_pick hr (by decide) (by rfl) (pa_cons (pv 0) (pa_cons (pv 2) pa_nil))) (fun _ _ => rfl)) (pa_cons (pv 4) pa_nil)))))
    (pss_one (ps_ret (pv 3))))), ?_⟩
    refine ⟨_, rfl, _, rfl, _, rfl, pa, _, rfl, SqL.of ep, fun A1 nA1 => ?_⟩
    rw [cutTo, ← List.map_take]
    have s1 := same_new (o := .lst ((P.take k).map V.int)) nA1
    have e1 := upd_same (H := H) (a := A1) (o := .lst ((P.take k).map V.int))
    generalize upd H A1 (.lst ((P.take k).map V.int)) = H1 at s1 e1 ⊢
    refine ⟨A1, rfl, ⟨_, SqL.of e1⟩, fun T nT => ?_⟩
    have n0T := same_free s1 nT
    have tkl : (P.take k).length = k := by rw [List.length_take]; omega
    refine wk (walk_list (K := K) (a := A1) (xs := (P.take k).map V.int)) (fun j HX => ∃ qs, Same H1 HX ∧ LsA H HX T qs ((P.take j).map fun x => [x])) ⟨[], same_new nT, upd_same, rfl, List.nodup_nil, List.not_mem_nil, fun _ z => absurd z List.not_mem_nil, fun _ _ z => by cases z⟩ ?_ ?_ ?_
    · rintro j HX _ ⟨_, sX, _⟩
      exact SqL.of (sX _ _ e1)
    · rintro j x HX0 HX hj ⟨qs, sX, hA⟩ ⟨rfl, hx⟩
      rw [List.length_map, tkl] at hj
      rw [List.getElem?_map, List.getElem?_take, if_pos hj] at hx
      obtain ⟨o, eo, rfl⟩ := Option.map_eq_some_iff.mp hx
      have ql := hA.len
      rw [List.length_map, List.length_take] at ql
      refine ⟨rfl, yes ⟨_, rfl, by show 1 ≤ sizeLine; decide, fun t nt => ?_⟩⟩
      have st := same_new (o := .lst [.int o]) nt
      have tT : t ≠ T := fun z => by rw [z, hA.here] at nt; cases nt
      have tq : ∀ q ∈ qs, q ≠ t := fun q hq z => by
        obtain ⟨i, ei⟩ := List.getElem?_of_mem hq
        obtain ⟨l, _, el⟩ := hA.at_ i q ei
        rw [z, nt] at el; cases el
      have hA2 := hA.mono st
      refine ⟨_, hA2.here, sz' (by rw [List.length_map]; omega), qs ++ [t], Same.put (sX.trans st) nT, ?_⟩
      have stp : (P.take (j + 1)).map (fun x => [x]) = (P.take j).map (fun x => [x]) ++ [[o]] := by
        rw [List.take_add_one, eo, List.map_append]; rfl
      refine ⟨by rw [upd_same, List.map_append]; rfl, by rw [stp, List.length_append, List.length_append, hA.len]; rfl, ?_, ?_, fun q hq => ?_, fun i q e => ?_⟩
      · rw [List.nodup_append]
        exact ⟨hA.nd, List.nodup_cons.mpr ⟨List.not_mem_nil, List.nodup_nil⟩, fun a ha b hb => by rw [List.mem_singleton.mp hb]; exact tq a ha⟩
      · intro z
        rcases List.mem_append.mp z with z | z
        · exact hA.out z
        · exact tT (List.mem_singleton.mp z).symm
      · rcases List.mem_append.mp hq with z | z
        · exact hA.new q z
        · rw [List.mem_singleton.mp z]; exact same_free (s1.trans sX) nt
      · have qT : q ≠ T := fun z => by
          subst z
          rcases List.mem_append.mp (List.mem_of_getElem? e) with z | z
          · exact hA.out z
          · exact tT (List.mem_singleton.mp z).symm
        rw [upd_ne qT, stp]
        rcases Nat.lt_or_ge i qs.length with z | z
        · rw [List.getElem?_append_left z] at e
          obtain ⟨l, a, b⟩ := hA2.at_ i q e
          exact ⟨l, by rw [List.getElem?_append_left (by rw [← hA.len]; exact z)]; exact a, b⟩
        · rw [List.getElem?_append_right z] at e
          have i0 : i = qs.length := by
            have := (List.getElem?_eq_some_iff.mp e).1
            rw [List.length_singleton] at this; omega
          subst i0
          rw [Nat.sub_self] at e
          cases e
          refine ⟨[o], ?_, upd_same⟩
          rw [hA.len, List.getElem?_append_right (Nat.le_refl _), Nat.sub_self]; rfl
    rintro H2 ⟨qs0, s2, hA⟩
    rw [List.length_map, tkl] at hA
    refine ⟨_, rfl, _, rfl, _, rfl, pa, _, rfl, SqL.of (s2 _ _ (s1 _ _ ep)), fun A3 nA3 => ?_⟩
    rw [cutFrom, ← List.map_drop]
    have s3 := same_new (o := .lst ((P.drop k).map V.int)) nA3
    have e3 := upd_same (H := H2) (a := A3) (o := .lst ((P.drop k).map V.int))
    have s03 := (s1.trans s2).trans s3
    have hA3 := hA.mono s3
    have A3T : A3 ≠ T := fun z => by rw [z, hA.here] at nA3; cases nA3
    have A3q : ∀ q ∈ qs0, A3 ≠ q := fun q hq z => by
      obtain ⟨i, ei⟩ := List.getElem?_of_mem hq
      obtain ⟨l, _, el⟩ := hA.at_ i q ei
      rw [← z, nA3] at el; cases el
    generalize upd H2 A3 (.lst ((P.drop k).map V.int)) = H3 at s3 e3 s03 hA3 ⊢
    have lf3 := hL.same s03
    have TL : T ≠ L := hL.ne n0T
    have A3L : A3 ≠ L := hL.ne (same_free (s1.trans s2) nA3)
    refine ⟨A3, rfl, ⟨_, SqL.of e3⟩, ?_⟩
    refine for_it (walk_list (K := K) (a := A3) (xs := (P.drop k).map V.int)) (fun j σ HX => ∃ y4 F, σ = [some (.ref L), some (.ref pa), some (.int (k : Int)), some (.ref T), y4] ∧ Fr L H HX ∧ Lf HX L (c + j) ∧ HX A3 = some (.lst ((P.drop k).map V.int)) ∧ LsA H HX T qs0 F ∧ F.length = k ∧ F.flatten.Perm (P.take k ++ (P.drop k).take j) ∧ ∀ S ∈ F, S ≠ []) ⟨_, _, rfl, Fr.of s03, lf3.mono (by omega), e3, hA3, by rw [List.length_map, tkl], ?_, fun S hS => ?_⟩ ?_ ?_ ?_
    · rw [List.take_zero, List.append_nil]
      have : ∀ l : List Int, (l.map fun x => [x]).flatten = l := fun l => by
        induction l with
        | nil => rfl
        | cons a l ih => rw [List.map_cons, List.flatten_cons, ih]; rfl
      rw [this]
    · obtain ⟨x, _, rfl⟩ := List.mem_map.mp hS
      exact fun z => by cases z
    · rintro j σ HX _ ⟨_, _, _, _, _, eA, _⟩
      exact SqL.of eA
    · rintro j z σ HX HY hj ⟨y4, F, rfl, frX, lfX, eA, hAX, Fl, pm, ne⟩ ⟨rfl, hx⟩
      rw [List.length_map, List.length_drop] at hj
      rw [List.getElem?_map] at hx
      obtain ⟨o, eo, rfl⟩ := Option.map_eq_some_iff.mp hx
      refine ⟨_, rfl, ?_⟩
      refine ⟨_, rfl, _, rfl, L, _, c + j, rfl, lfX, by omega, by omega, by omega, fun r H5 r0 r1 fr5 lf5 => ?_⟩
      obtain ⟨r, rfl⟩ := natOf r0
      have hr5 : r < qs0.length := by rw [hA.len, List.length_map, tkl]; omega
      have er := List.getElem?_eq_getElem hr5
      have qL : ∀ q ∈ qs0, q ≠ L := fun q hq => hL.ne (hA.new q hq)
      have hA5 : LsA H H5 T qs0 F := by
        refine ⟨fr5 _ _ TL hAX.here, hAX.len, hAX.nd, hAX.out, hAX.new, fun i q e => ?_⟩
        obtain ⟨l, a, b⟩ := hAX.at_ i q e
        exact ⟨l, a, fr5 _ _ (qL q (List.mem_of_getElem? e)) b⟩
      obtain ⟨l, el, eq⟩ := hA5.at_ r _ er
      have ql := qL _ (List.mem_of_getElem? er)
      have ll : l.length ≤ 12 := by
        have h1 := pm.length_eq
        have h2 : l.length ≤ F.flatten.length := by
          have hF : F = F.take r ++ l :: F.drop (r + 1) := by
            obtain ⟨hi, e⟩ := List.getElem?_eq_some_iff.mp el
            rw [← e, List.getElem_cons_drop, List.take_append_drop]
          have := congrArg (fun l => l.flatten.length) hF
          simp only [List.flatten_append, List.flatten_cons, List.length_append] at this
          omega
        rw [List.length_append, List.length_take, List.length_take, List.length_drop] at h1
        omega
      refine ⟨T, _, (r : Int), .ref qs0[r], rfl, rfl, SqL.of hA5.here, atI_nat (by rw [List.getElem?_map, er]; rfl), ?_⟩
      refine ⟨.inl ⟨rfl, _, SqL.of eq⟩, _, rfl, qs0[r], _, _, rfl, rfl, eq, sz' (by rw [List.length_map]; omega), ?_⟩
      have qT : qs0[r] ≠ T := fun z => hA5.out (by rw [← z]; exact List.mem_of_getElem? er)
      have qA : A3 ≠ qs0[r] := A3q _ (List.mem_of_getElem? er)
      refine ⟨_, F.set r (l ++ [o]), rfl, Fr.put (frX.trans fr5) (hA.new _ (List.mem_of_getElem? er)), (lf5.mono (by omega)).put ql, by rw [upd_ne qA]; exact fr5 _ _ A3L eA, ⟨by rw [upd_ne (Ne.symm qT)]; exact hA5.here, by rw [List.length_set]; exact hA5.len, hA5.nd, hA5.out, hA5.new, fun i q e => ?_⟩, by rw [List.length_set]; exact Fl, ?_, fun S hS => ?_⟩
      · by_cases ir : i = r
        · subst ir
          rw [er] at e
          cases e
          refine ⟨l ++ [o], ?_, by rw [upd_same, List.map_append]; rfl⟩
          rw [List.getElem?_set_self (by rw [← hA5.len]; exact hr5)]
        · have qq : q ≠ qs0[r] := fun z => ir (by
            obtain ⟨hi, ei⟩ := List.getElem?_eq_some_iff.mp e
            exact (List.getElem_inj hA5.nd).mp (ei.trans z))
          obtain ⟨l2, a, b⟩ := hA5.at_ i q e
          exact ⟨l2, by rw [List.getElem?_set_ne (Ne.symm ir)]; exact a, by rw [upd_ne qq]; exact b⟩
      · rw [List.take_add_one, eo, ← List.append_assoc]
        exact (flat_set el).trans (pm.append_right _)
      · rcases List.mem_or_eq_of_mem_set hS with z | z
        · exact ne S z
        · rw [z]; simp
    · rintro σ HX ⟨y4, F, rfl, frX, lfX, eA, hAX, Fl, pm, ne⟩
      rw [List.length_map, List.length_drop] at lfX
      rw [List.length_map, List.take_length, List.take_append_drop] at pm
      exact ⟨_, rfl, q T qs0 F HX n0T frX (lfX.mono (by omega)) hAX Fl pm ne⟩
end
end My

set_option Elab.async false
set_option linter.all false
set_option maxRecDepth 100000
namespace My
open PySem PySem.Spec PyProof.Rows L2 GxR
/-! what a node draws -/
def blkT (A B : List Int) : List Ar := A.flatMap fun x => B.map fun y => tieO x y
def cellT (F : List (List Int)) (g : Nat → Nat → Bool) (t : Ar) : List Ar := if g t.1.toNat t.2.toNat = true then blkT (F.getD t.1.toNat []) (F.getD t.2.toNat []) else []
def ownT (F : List (List Int)) (g : Nat → Nat → Bool) (l : List Ar) : List Ar := l.flatMap (cellT F g)
theorem mem_blkT {A B : List Int} {t : Ar} : t ∈ blkT A B ↔ ∃ x ∈ A, ∃ y ∈ B, t = tieO x y := by
  unfold blkT
  rw [List.mem_flatMap]
  constructor
  · rintro ⟨x, hx, h⟩
    obtain ⟨y, hy, rfl⟩ := List.mem_map.mp h
    exact ⟨x, hx, y, hy, rfl⟩
  · rintro ⟨x, hx, y, hy, rfl⟩
    exact ⟨x, hx, List.mem_map_of_mem hy⟩
theorem tieO_ends (x y : Int) : (tieO x y = (x, y) ∧ x < y) ∨ (tieO x y = (y, x) ∧ y ≤ x) := by
  unfold tieO
  by_cases h : x < y
  · rw [if_pos h]; exact .inl ⟨rfl, h⟩
  · rw [if_neg h]; exact .inr ⟨rfl, by omega⟩
theorem tieO_inj {x y u v : Int} (h : tieO x y = tieO u v) : (x = u ∧ y = v) ∨ (x = v ∧ y = u) := by
  rcases tieO_ends x y with ⟨a, b⟩ | ⟨a, b⟩ <;> rcases tieO_ends u v with ⟨c, d⟩ | ⟨c, d⟩ <;> rw [a, c] at h <;> cases h
  · exact .inl ⟨rfl, rfl⟩
  · exact .inr ⟨rfl, rfl⟩
  · exact .inr ⟨rfl, rfl⟩
  · exact .inl ⟨rfl, rfl⟩
/-- sets of places, none twice -/
structure SetsF (P : List Int) (F : List (List Int)) : Prop where
  nd : P.Nodup
  pm : F.flatten.Perm P
  ne : ∀ S ∈ F, S ≠ []
theorem SetsF.uniq {P : List Int} {F : List (List Int)} (h : SetsF P F) {i j : Nat} {S T : List Int} {x : Int} (eS : F[i]? = some S) (eT : F[j]? = some T) (xS : x ∈ S) (xT : x ∈ T) : i = j := by
  have dj := (nd_flat.mp (h.pm.nodup_iff.mpr h.nd)).2
  obtain ⟨hi, rfl⟩ := List.getElem?_eq_some_iff.mp eS
  obtain ⟨hj, rfl⟩ := List.getElem?_eq_some_iff.mp eT
  rcases Nat.lt_trichotomy i j with z | z | z
  · exact absurd rfl (List.pairwise_iff_getElem.mp dj i j hi hj z x xS x xT)
  · exact z
  · exact absurd rfl (List.pairwise_iff_getElem.mp dj j i hj hi z x xT x xS)
theorem SetsF.nodS {P : List Int} {F : List (List Int)} (h : SetsF P F) {i : Nat} {S : List Int} (eS : F[i]? = some S) : S.Nodup := sub_flat (List.mem_of_getElem? eS) (h.pm.nodup_iff.mpr h.nd)
theorem SetsF.inP {P : List Int} {F : List (List Int)} (h : SetsF P F) {i : Nat} {S : List Int} (eS : F[i]? = some S) : ∀ x ∈ S, x ∈ P := fun x hx => h.pm.mem_iff.mp (List.mem_flatten.mpr ⟨S, List.mem_of_getElem? eS, hx⟩)
theorem getD_some {F : List (List Int)} {i : Nat} {x : Int} (h : x ∈ F.getD i []) : ∃ S, F[i]? = some S ∧ x ∈ S := by
  rw [List.getD_eq_getElem?_getD] at h
  cases e : F[i]? with
  | none => rw [e] at h; cases h
  | some S => rw [e] at h; exact ⟨S, rfl, h⟩
theorem mem_ownT {F : List (List Int)} {g : Nat → Nat → Bool} {l : List Ar} {t : Ar} : t ∈ ownT F g l ↔ ∃ p ∈ l, g p.1.toNat p.2.toNat = true ∧ ∃ S T, F[p.1.toNat]? = some S ∧ F[p.2.toNat]? = some T ∧ ∃ x ∈ S, ∃ y ∈ T, t = tieO x y := by
  unfold ownT
  rw [List.mem_flatMap]
  constructor
  · rintro ⟨p, hp, h⟩
    unfold cellT at h
    by_cases c : g p.1.toNat p.2.toNat = true
    · rw [if_pos c] at h
      obtain ⟨x, hx, y, hy, rfl⟩ := mem_blkT.mp h
      obtain ⟨S, eS, xS⟩ := getD_some hx
      obtain ⟨T, eT, yT⟩ := getD_some hy
      exact ⟨p, hp, c, S, T, eS, eT, x, xS, y, yT, rfl⟩
    · rw [if_neg c] at h; cases h
  · rintro ⟨p, hp, c, S, T, eS, eT, x, xS, y, yT, rfl⟩
    refine ⟨p, hp, ?_⟩
    unfold cellT
    rw [if_pos c]
    refine mem_blkT.mpr ⟨x, ?_, y, ?_, rfl⟩
    · rw [List.getD_eq_getElem?_getD, eS]; exact xS
    · rw [List.getD_eq_getElem?_getD, eT]; exact yT
theorem blkT_nodup {A B : List Int} (nA : A.Nodup) (nB : B.Nodup) (dj : ∀ x ∈ A, ∀ y ∈ B, x ≠ y) : (blkT A B).Nodup := by
  unfold blkT
  rw [List.nodup_iff_pairwise_ne, List.pairwise_flatMap]
  refine ⟨fun x hx => ?_, ?_⟩
  · rw [List.pairwise_map]
    refine (List.nodup_iff_pairwise_ne.mp nB).imp_of_mem fun {a b} ha hb n e => ?_
    rcases tieO_inj e with ⟨_, k⟩ | ⟨k, _⟩
    · exact n k
    · exact dj x hx b hb k
  · refine (List.nodup_iff_pairwise_ne.mp nA).imp_of_mem fun {a b} ha hb n s hs t ht e => ?_
    obtain ⟨u, hu, rfl⟩ := List.mem_map.mp hs
    obtain ⟨v, hv, rfl⟩ := List.mem_map.mp ht
    rcases tieO_inj e with ⟨k, _⟩ | ⟨k, _⟩
    · exact n k
    · exact dj a ha v hv k
theorem ownT_nodup {P : List Int} {F : List (List Int)} (h : SetsF P F) (g : Nat → Nat → Bool) (k : Nat) : (ownT F g (pup k k)).Nodup := by
  unfold ownT
  rw [List.nodup_iff_pairwise_ne, List.pairwise_flatMap]
  have rng : ∀ t ∈ pup k k, ∃ a b : Nat, t = ((a : Int), (b : Int)) ∧ a < b := fun t ht => by
    have m := (mem_pup (Nat.le_refl k)).mp ht
    obtain ⟨a, ha⟩ := natOf m.1
    obtain ⟨b, hb⟩ := natOf (show 0 ≤ t.2 by omega)
    exact ⟨a, b, by rw [← ha, ← hb], by omega⟩
  refine ⟨fun t ht => ?_, ?_⟩
  · obtain ⟨a, b, rfl, ab⟩ := rng t ht
    show (cellT F g ((a : Int), (b : Int))).Nodup
    unfold cellT
    dsimp only
    rw [Int.toNat_natCast, Int.toNat_natCast]
    split
    · have ndD : ∀ i, (F.getD i []).Nodup := fun i => by
        rw [List.getD_eq_getElem?_getD]
        cases e : F[i]? with
        | none => exact List.nodup_nil
        | some S => exact h.nodS e
      refine blkT_nodup (ndD a) (ndD b) fun x hx y hy e => ?_
      obtain ⟨S, eS, xS⟩ := getD_some hx
      obtain ⟨T, eT, yT⟩ := getD_some hy
      have := h.uniq eS eT xS (e ▸ yT)
      omega
    · exact List.nodup_nil
  · refine (pup_pw k k (Nat.le_refl k)).imp_of_mem fun {s t} hs ht lt x hx y hy e => ?_
    obtain ⟨a, b, rfl, ab⟩ := rng s hs
    obtain ⟨c, d, rfl, cd⟩ := rng t ht
    subst e
    have m1 := mem_ownT.mp (List.mem_flatMap.mpr ⟨_, List.mem_singleton.mpr rfl, hx⟩ : x ∈ ownT F g [((a : Int), (b : Int))])
    have m2 := mem_ownT.mp (List.mem_flatMap.mpr ⟨_, List.mem_singleton.mpr rfl, hy⟩ : x ∈ ownT F g [((c : Int), (d : Int))])
    obtain ⟨p, hp, _, S, T, eS, eT, u, uS, v, vT, e1⟩ := m1
    obtain ⟨p', hp', _, S', T', eS', eT', u', uS', v', vT', e2⟩ := m2
    rw [List.mem_singleton.mp hp] at eS eT
    rw [List.mem_singleton.mp hp'] at eS' eT'
    dsimp only at eS eT eS' eT'
    rw [Int.toNat_natCast] at eS eT eS' eT'
    unfold ltT at lt
    dsimp only at lt
    rcases tieO_inj (e1.symm.trans e2) with ⟨k1, k2⟩ | ⟨k1, k2⟩
    · subst k1; subst k2
      have := h.uniq eS eS' uS uS'
      have := h.uniq eT eT' vT vT'
      omega
    · subst k1; subst k2
      have := h.uniq eS eT' uS vT'
      have := h.uniq eT eS' vT uS'
      omega
def WIn (es : List Ar) (S : List Int) : Prop := ∀ t ∈ es, t.1 ∈ S ∧ t.2 ∈ S ∧ t.1 < t.2
structure It where
  v : V
  I : List Int
  y : Int
  e : List Ar
structure ItsOk (F : List (List Int)) (its : List It) : Prop where
  at_ : ∀ (i : Nat) (it : It), its[i]? = some it → ∃ S, F[i]? = some S ∧ it.I.Perm S ∧ WIn it.e S ∧ it.e.Nodup
theorem adjB_iff {es : List Ar} {x y : Int} : adjB es x y = true ↔ tieO x y ∈ es := by
  unfold adjB
  exact decide_eq_true_iff
theorem WIn.ends {es : List Ar} {S : List Int} (h : WIn es S) {x y : Int} (m : tieO x y ∈ es) : x ∈ S ∧ y ∈ S := by
  have := h _ m
  rcases tieO_ends x y with ⟨a, _⟩ | ⟨a, _⟩ <;> rw [a] at this
  · exact ⟨this.1, this.2.1⟩
  · exact ⟨this.2.1, this.1⟩
theorem two_sort {x y : Int} {ns : List Int} (p : ns.Perm [x, y]) (s : ns.Pairwise (· ≤ ·)) : ns = [(tieO x y).1, (tieO x y).2] := by
  have l := p.length_eq
  match ns, l with
  | [a, b], _ =>
    have ab := (List.pairwise_cons.mp s).1 b (by simp)
    have e : (a = x ∧ b = y) ∨ (a = y ∧ b = x) := by
      have ma := p.mem_iff.mp (show a ∈ [a, b] by simp)
      simp only [List.mem_cons, List.not_mem_nil, or_false] at ma
      rcases ma with rfl | rfl
      · have q := (List.perm_cons a).mp p
        exact .inl ⟨rfl, (List.cons.inj (List.perm_singleton.mp q)).1⟩
      · have q := (List.perm_cons a).mp (p.trans (List.Perm.swap _ _ _))
        exact .inr ⟨rfl, (List.cons.inj (List.perm_singleton.mp q)).1⟩
    rcases tieO_ends x y with ⟨k, h⟩ | ⟨k, h⟩ <;> rw [k] <;> rcases e with ⟨rfl, rfl⟩ | ⟨rfl, rfl⟩
    · rfl
    · exact absurd ab (by omega)
    · have : a = b := by omega
      rw [this]
    · rfl
theorem blkT_succ {A B : List Int} {p : Nat} {x : Int} (e : A[p]? = some x) : blkT (A.take (p + 1)) B = blkT (A.take p) B ++ B.map fun y => tieO x y := by
  unfold blkT
  rw [List.take_add_one, e, List.flatMap_append]
  show _ ++ List.flatMap _ [x] = _
  rw [List.flatMap_singleton]
theorem blkT_len (A B : List Int) : (blkT A B).length = A.length * B.length := by
  unfold blkT
  induction A with
  | nil => simp
  | cons a A ih => rw [List.flatMap_cons, List.length_append, ih, List.length_map, List.length_cons, Nat.succ_mul, Nat.add_comm]
theorem ownT_app (F : List (List Int)) (g : Nat → Nat → Bool) (l m : List Ar) : ownT F g (l ++ m) = ownT F g l ++ ownT F g m := by
  unfold ownT; rw [List.flatMap_append]
theorem ownT_one (F : List (List Int)) (g : Nat → Nat → Bool) (a b : Nat) (S T : List Int) (eS : F[a]? = some S) (eT : F[b]? = some T) : ownT F g [((a : Int), (b : Int))] = if g a b = true then blkT S T else [] := by
  unfold ownT
  rw [List.flatMap_singleton]
  unfold cellT
  dsimp only
  rw [Int.toNat_natCast, Int.toNat_natCast, List.getD_eq_getElem?_getD, List.getD_eq_getElem?_getD, eS, eT]; rfl
theorem prodI_snoc (l : List Int) (y : Int) : prodI (l ++ [y]) = prodI l * y := by
  induction l with
  | nil => show y * 1 = 1 * y; omega
  | cons a l ih => show a * prodI (l ++ [y]) = a * prodI l * y; rw [ih, Int.mul_assoc]
section
variable {P : List Int} {F : List (List Int)} {g : Nat → Nat → Bool} {its : List It}
def allE (F : List (List Int)) (g : Nat → Nat → Bool) (its : List It) : List Ar := ownT F g (pup F.length F.length) ++ (its.map (·.e)).flatten
/-- between two sets -/
theorem adj_cross (h : SetsF P F) (o : ItsOk F its) {i j : Nat} {S T : List Int} {x y : Int} (ij : i < j) (eS : F[i]? = some S) (eT : F[j]? = some T) (xS : x ∈ S) (yT : y ∈ T) : adjB (allE F g its) x y = g i j := by
  have key : tieO x y ∈ allE F g its ↔ g i j = true := by
    unfold allE
    rw [List.mem_append, mem_ownT, List.mem_flatten]
    constructor
    · rintro (⟨p, hp, c, S', T', eS', eT', u, uS, v, vT, e⟩ | ⟨l, hl, ml⟩)
      · have m := (mem_pup (Nat.le_refl _)).mp hp
        rcases tieO_inj e with ⟨rfl, rfl⟩ | ⟨rfl, rfl⟩
        · have a := h.uniq eS eS' xS uS
          have b := h.uniq eT eT' yT vT
          rw [← a, ← b] at c; exact c
        · have a := h.uniq eS eT' xS vT
          have b := h.uniq eT eS' yT uS
          omega
      · obtain ⟨it, hit, rfl⟩ := List.mem_map.mp hl
        obtain ⟨r, er⟩ := List.getElem?_of_mem hit
        obtain ⟨S', eS', _, wi, _⟩ := o.at_ r it er
        obtain ⟨a, b⟩ := wi.ends ml
        have := h.uniq eS eS' xS a
        have := h.uniq eT eS' yT b
        omega
    · intro c
      have hi := (List.getElem?_eq_some_iff.mp eS).1
      have hj := (List.getElem?_eq_some_iff.mp eT).1
      refine .inl ⟨((i : Int), (j : Int)), (mem_pup (Nat.le_refl _)).mpr ?_, ?_, S, T, ?_, ?_, x, xS, y, yT, rfl⟩
      · dsimp only; omega
      · dsimp only; rw [Int.toNat_natCast, Int.toNat_natCast]; exact c
      · dsimp only; rw [Int.toNat_natCast]; exact eS
      · dsimp only; rw [Int.toNat_natCast]; exact eT
  unfold adjB
  cases hg : g i j with
  | true => exact decide_eq_true (key.mpr hg)
  | false => exact decide_eq_false fun m => by rw [key.mp m] at hg; cases hg
/-- within a set -/
theorem adj_in (h : SetsF P F) (o : ItsOk F its) {i : Nat} {it : It} {S : List Int} {x y : Int} (ei : its[i]? = some it) (eS : F[i]? = some S) (xS : x ∈ S) (yS : y ∈ S) : adjB (allE F g its) x y = adjB it.e x y := by
  have key : tieO x y ∈ allE F g its ↔ tieO x y ∈ it.e := by
    unfold allE
    rw [List.mem_append, mem_ownT, List.mem_flatten]
    constructor
    · rintro (⟨p, hp, c, S', T', eS', eT', u, uS, v, vT, e⟩ | ⟨l, hl, ml⟩)
      · have m := (mem_pup (Nat.le_refl _)).mp hp
        rcases tieO_inj e with ⟨rfl, rfl⟩ | ⟨rfl, rfl⟩
        · have a := h.uniq eS eS' xS uS
          have b := h.uniq eS eT' yS vT
          omega
        · have a := h.uniq eS eT' xS vT
          have b := h.uniq eS eS' yS uS
          omega
      · obtain ⟨it', hit, rfl⟩ := List.mem_map.mp hl
        obtain ⟨r, er⟩ := List.getElem?_of_mem hit
        obtain ⟨S', eS', _, wi, _⟩ := o.at_ r it' er
        obtain ⟨a, b⟩ := wi.ends ml
        have := h.uniq eS eS' xS a
        subst this
        rw [ei] at er
        cases er; exact ml
    · intro m
      exact .inr ⟨it.e, List.mem_map.mpr ⟨it, List.mem_of_getElem? ei, rfl⟩, m⟩
  unfold adjB
  exact decide_eq_decide.mpr key
theorem allE_in (h : SetsF P F) (o : ItsOk F its) : WIn (allE F g its) P := fun t ht => by
  unfold allE at ht
  rcases List.mem_append.mp ht with ht | ht
  · obtain ⟨p, hp, c, S', T', eS', eT', u, uS, v, vT, rfl⟩ := mem_ownT.mp ht
    have m := (mem_pup (Nat.le_refl _)).mp hp
    have uP := h.inP eS' u uS
    have vP := h.inP eT' v vT
    rcases tieO_ends u v with ⟨a, b⟩ | ⟨a, b⟩ <;> rw [a]
    · exact ⟨uP, vP, b⟩
    · refine ⟨vP, uP, ?_⟩
      show v < u
      rcases Int.lt_or_eq_of_le b with z | z
      · exact z
      · subst z
        have := h.uniq eS' eT' uS vT
        omega
  · obtain ⟨l, hl, ml⟩ := List.mem_flatten.mp ht
    obtain ⟨it, hit, rfl⟩ := List.mem_map.mp hl
    obtain ⟨r, er⟩ := List.getElem?_of_mem hit
    obtain ⟨S', eS', _, wi, _⟩ := o.at_ r it er
    have := wi t ml
    exact ⟨h.inP eS' _ this.1, h.inP eS' _ this.2.1, this.2.2⟩
theorem allE_nodup (h : SetsF P F) (o : ItsOk F its) : (allE F g its).Nodup := by
  have k1 : ∀ l ∈ its.map (·.e), l.Nodup := fun l hl => by
    obtain ⟨it, hit, rfl⟩ := List.mem_map.mp hl
    obtain ⟨r, er⟩ := List.getElem?_of_mem hit
    obtain ⟨S', eS', _, wi, nd⟩ := o.at_ r it er
    exact nd
  have k2 : (its.map (·.e)).Pairwise fun l m => ∀ x ∈ l, ∀ y ∈ m, x ≠ y := by
    rw [List.pairwise_map, List.pairwise_iff_getElem]
    intro i j hi hj ij x hx y hy e
    subst e
    obtain ⟨S, eS, _, wi, _⟩ := o.at_ i _ (List.getElem?_eq_getElem hi)
    obtain ⟨T, eT, _, wj, _⟩ := o.at_ j _ (List.getElem?_eq_getElem hj)
    have := h.uniq eS eT (wi x hx).1 (wj x hy).1
    omega
  unfold allE
  rw [List.nodup_append]
  refine ⟨ownT_nodup h g _, by rw [List.nodup_iff_pairwise_ne, List.pairwise_flatten]; exact ⟨fun l hl => List.nodup_iff_pairwise_ne.mp (k1 l hl), k2⟩, fun a ha b hb e => ?_⟩
  · subst e
    obtain ⟨p, hp, c, S', T', eS', eT', u, uS, v, vT, e⟩ := mem_ownT.mp ha
    have m := (mem_pup (Nat.le_refl _)).mp hp
    obtain ⟨l, hl, ml⟩ := List.mem_flatten.mp hb
    obtain ⟨it, hit, rfl⟩ := List.mem_map.mp hl
    obtain ⟨r, er⟩ := List.getElem?_of_mem hit
    obtain ⟨S, eS, _, wi, _⟩ := o.at_ r it er
    rw [e] at ml
    obtain ⟨k1, k2⟩ := wi.ends ml
    have := h.uniq eS' eS uS k1
    have := h.uniq eT' eS vT k2
    omega
theorem prodI_perm {l m : List Int} (p : l.Perm m) : prodI l = prodI m := by
  induction p with
  | nil => rfl
  | cons x _ ih => show x * prodI _ = x * prodI _; rw [ih]
  | swap x y l => show y * (x * prodI l) = x * (y * prodI l); rw [← Int.mul_assoc, ← Int.mul_assoc, Int.mul_comm y x]
  | trans _ _ ih1 ih2 => exact ih1.trans ih2
/-- the places of P, rising -/
def srtP (P : List Int) : List Int := (up 12).filter fun x => decide (x ∈ P)
theorem srtP_rise (P : List Int) : (srtP P).Pairwise (· < ·) := by
  have : (up 12).Pairwise (· < ·) := by decide +kernel
  exact this.sublist List.filter_sublist
theorem srtP_perm {P : List Int} (nd : P.Nodup) (r : ∀ x ∈ P, 0 ≤ x ∧ x < 12) : (srtP P).Perm P := by
  refine (List.perm_ext_iff_of_nodup ((srtP_rise P).imp fun h => Int.ne_of_lt h) nd).mpr fun x => ?_
  unfold srtP
  rw [List.mem_filter, decide_eq_true_iff, mem_up]
  exact ⟨fun h => h.2, fun h => ⟨r x h, h⟩⟩
theorem headI_le {S : List Int} (r : S.Pairwise (· < ·)) {x : Int} (h : x ∈ S) : S.headD 0 ≤ x := by
  cases S with
  | nil => cases h
  | cons a l =>
    rcases List.mem_cons.mp h with e | e
    · rw [e]; exact Int.le_refl _
    · exact Int.le_of_lt ((List.pairwise_cons.mp r).1 x e)
theorem head_min {S : List Int} (nd : S.Nodup) (r : ∀ x ∈ S, 0 ≤ x ∧ x < 12) {mn : Int} (m : mn ∈ S) (le : ∀ y ∈ S, mn ≤ y) : (srtP S).headD 0 = mn := by
  have pm := srtP_perm nd r
  have rs := srtP_rise S
  have h1 := headI_le rs (pm.mem_iff.mpr m)
  have ne : srtP S ≠ [] := fun z => by rw [z] at pm; have := pm.mem_iff.mpr m; cases this
  have h2 := le _ (pm.mem_iff.mp (hd_mem ne))
  omega
/-- the whole node -/
theorem drawn_node {H : Hp} {m : Nat} {p q : Addr} {ab w : Str} {us : List V} {its' : List It} {own : Int} (h : SetsF P F) (rg : ∀ x ∈ P, 0 ≤ x ∧ x < 12) (k2 : 2 ≤ F.length) (o : ItsOk F its) (il : its.length = F.length)
    (dr : ∀ it ∈ its, DrX it.e H m it.v it.I it.y w) (pm : its'.Perm its) (hd : (its'.map fun it => it.I.headD 0).Pairwise (· < ·)) (uv : us = its'.map (·.v))
    (ep : H p = some (.tup [.str w, .ref q])) (eq : H q = some (.tup us))
    (nb : (w = "all" ∧ ab ≠ "all" ∧ own = factN F.length ∧ ∀ i j, i < j → j < F.length → g i j = true) ∨ (w = "apart" ∧ ab ≠ "apart" ∧ own = 1 ∧ ∀ i j, i < j → j < F.length → g i j = false) ∨
      (w = "close" ∧ ∃ sh ∈ shapes, F.length = sh.1 ∧ own = sh.2.2 ∧ ∀ i j, i < j → j < F.length → g i j = shA sh i j)) :
    DrX (allE F g its) H (m + 1) (.ref p) (srtP P) (own * prodI (its.map (·.y))) ab := by
  have sP := srtP_perm h.nd rg
  have at2 : ∀ it ∈ its, ∃ i S, its[i]? = some it ∧ F[i]? = some S ∧ it.I.Perm S := fun it hit => by
    obtain ⟨r, er⟩ := List.getElem?_of_mem hit
    obtain ⟨S, eS, pmI, _⟩ := o.at_ r it er
    exact ⟨r, S, er, eS, pmI⟩
  have flI : ∀ (F : List (List Int)) (its : List It), its.length = F.length → (∀ (i : Nat) (it : It), its[i]? = some it → ∃ S, F[i]? = some S ∧ it.I.Perm S) → (its.map (·.I)).flatten.Perm F.flatten := fun F => by
    induction F with
    | nil => intro its l _; rw [List.eq_nil_of_length_eq_zero l]; exact List.Perm.refl _
    | cons S F ih =>
      intro its l k
      cases its with
      | nil => cases l
      | cons it its =>
        rw [List.map_cons, List.flatten_cons, List.flatten_cons]
        obtain ⟨S', e, pmS⟩ := k 0 it rfl
        cases e
        exact pmS.append (ih its (Nat.succ.inj l) fun i it e => k (i + 1) it e)
  have plI := flI F its il fun i it e => by
    obtain ⟨S, a, b, _⟩ := o.at_ i it e
    exact ⟨S, a, b⟩
  have i'l : its'.length = F.length := by rw [pm.length_eq, il]
  have rises : ∀ it ∈ its', it.I.Pairwise (· < ·) ∧ it.I ≠ [] := fun it hit => (dr it (pm.mem_iff.mp hit)).rise
  have em : ((its'.map fun it => (it.I, it.y)).map (·.1)) = its'.map (·.I) := by rw [List.map_map]; rfl
  have ey : ((its'.map fun it => (it.I, it.y)).map (·.2)) = its'.map (·.y) := by rw [List.map_map]; rfl
  have pt : PartI (srtP P) (its'.map (·.I)) := by
    refine ⟨?_, fun S hS => ?_, fun S hS => ?_, by rw [List.length_map]; omega⟩
    · have : (its'.map (·.I)).flatten.Perm (its.map (·.I)).flatten := (pm.map _).flatten
      exact ((this.trans plI).trans h.pm).trans sP.symm
    · obtain ⟨it, hit, rfl⟩ := List.mem_map.mp hS
      exact (rises it hit).2
    · obtain ⟨it, hit, rfl⟩ := List.mem_map.mp hS
      exact (rises it hit).1
  rw [List.pairwise_map] at hd
  have ord : (its'.map (·.I)).Pairwise HdLt := by
    rw [List.pairwise_map]
    refine hd.imp_of_mem fun {a b} ha hb lt => ?_
    obtain ⟨ra, na⟩ := rises a ha
    obtain ⟨rb, nb'⟩ := rises b hb
    exact ⟨a.I.headD 0, hd_mem na, fun x hx => headI_le ra hx, fun t ht => Int.lt_of_lt_of_le lt (headI_le rb ht)⟩
  -- two items
  have two : ∀ a ∈ its', ∀ b ∈ its', a.I.headD 0 < b.I.headD 0 → ∃ i j S T, i ≠ j ∧ F[i]? = some S ∧ F[j]? = some T ∧ a.I.Perm S ∧ b.I.Perm T := fun a ha b hb lt => by
    obtain ⟨i, S, ei, eS, pS⟩ := at2 a (pm.mem_iff.mp ha)
    obtain ⟨j, T, ej, eT, pT⟩ := at2 b (pm.mem_iff.mp hb)
    refine ⟨i, j, S, T, fun z => ?_, eS, eT, pS, pT⟩
    subst z
    rw [ei] at ej
    cases ej
    exact absurd lt (Int.lt_irrefl _)
  have btw : ∀ b : Bool, (∀ i j, i < j → j < F.length → g i j = b) → BtwP (allE F g its) b (its'.map (·.I)) := fun b hg => by
    unfold BtwP
    rw [List.pairwise_map]
    refine hd.imp_of_mem fun {a c} ha hc lt x hx y hy => ?_
    obtain ⟨i, j, S, T, ij, eS, eT, pS, pT⟩ := two a ha c hc lt
    have hi := (List.getElem?_eq_some_iff.mp eS).1
    have hj := (List.getElem?_eq_some_iff.mp eT).1
    have xS := pS.mem_iff.mp hx
    have yT := pT.mem_iff.mp hy
    rcases Nat.lt_or_gt_of_ne ij with z | z
    · rw [adj_cross h o z eS eT xS yT]; exact hg i j z hj
    · rw [adj_comm, adj_cross h o z eT eS yT xS]; exact hg j i z hi
  refine .inr ⟨p, q, w, us, its'.map fun it => (it.I, it.y), own, rfl, ep, eq, ?_, ⟨srtP_rise P, by rw [em]; exact pt, by rw [em]; exact ord⟩, ?_, by rw [ey, prodI_perm (pm.map _)]⟩
  · rw [uv]
    have : ∀ l : List It, (∀ it ∈ l, it ∈ its) → All2 (fun v b => DrX (allE F g its) H m v b.1 b.2 w) (l.map (·.v)) (l.map fun it => (it.I, it.y)) := fun l => by
      induction l with
      | nil => intro _; exact trivial
      | cons it l ih =>
        intro k
        refine ⟨?_, ih fun x hx => k x (List.mem_cons_of_mem _ hx)⟩
        have hit := k it List.mem_cons_self
        obtain ⟨i, S, ei, eS, pS⟩ := at2 it hit
        exact (dr it hit).cong fun x hx y hy => (adj_in h o ei eS (pS.mem_iff.mp hx) (pS.mem_iff.mp hy)).symm
    exact this its' fun it hit => pm.mem_iff.mp hit
  · rw [em]
    rcases nb with ⟨rfl, a, b, c⟩ | ⟨rfl, a, b, c⟩ | ⟨rfl, sh, hs, kl, b, c⟩
    · exact .inl ⟨rfl, a, by rw [b, List.length_map, i'l], btw true c⟩
    · exact .inr (.inl ⟨rfl, a, b, btw false c⟩)
    · refine .inr (.inr ⟨rfl, sh, hs, its.map (·.I), (pm.map _).symm, by rw [List.length_map, il, kl], b, fun i j S T ij eS eT x hx y hy => ?_⟩)
      rw [List.getElem?_map] at eS eT
      obtain ⟨a, ea, rfl⟩ := Option.map_eq_some_iff.mp eS
      obtain ⟨b', eb, rfl⟩ := Option.map_eq_some_iff.mp eT
      obtain ⟨S, eS, pS, _⟩ := o.at_ i a ea
      obtain ⟨T, eT, pT, _⟩ := o.at_ j b' eb
      have hi := (List.getElem?_eq_some_iff.mp eS).1
      have hj := (List.getElem?_eq_some_iff.mp eT).1
      have xS := pS.mem_iff.mp hx
      have yT := pT.mem_iff.mp hy
      rcases Nat.lt_or_gt_of_ne ij with z | z
      · rw [adj_cross h o z eS eT xS yT]; exact c i j z hj
      · rw [adj_comm, adj_cross h o z eT eS yT xS, shA_comm]; exact c j i z hi
end
end My

set_option Elab.async false
set_option linter.all false
set_option maxRecDepth 100000
set_option pp.maxSteps 400
set_option maxHeartbeats 4000000
namespace My
open PySem PySem.Spec PyProof.Rows L2 GxR
/-! heaps: all stays but three lists -/
def F3 (L W Z : Addr) (H H' : Hp) : Prop := ∀ b o, b ≠ L → b ≠ W → b ≠ Z → H b = some o → H' b = some o
theorem F3.refl (L W Z : Addr) (H : Hp) : F3 L W Z H H := fun _ _ _ _ _ h => h
theorem F3.trans {L W Z : Addr} {H H1 H2 : Hp} (a : F3 L W Z H H1) (b : F3 L W Z H1 H2) : F3 L W Z H H2 := fun c o n1 n2 n3 h => b c o n1 n2 n3 (a c o n1 n2 n3 h)
theorem F3.same {L W Z : Addr} {H H' : Hp} (a : Same H H') : F3 L W Z H H' := fun b o _ _ _ h => a b o h
theorem F3.fr {L W Z : Addr} {H H' : Hp} (a : Fr L H H') : F3 L W Z H H' := fun b o n _ _ h => a b o n h
theorem F3.putN {L W Z : Addr} {H H' : Hp} {p : Addr} {o : HO} (a : F3 L W Z H H') (h : H p = none) : F3 L W Z H (upd H' p o) := fun b x n1 n2 n3 e => by rw [upd_ne (ne_of_none e h)]; exact a b x n1 n2 n3 e
theorem F3.putW {L W Z : Addr} {H H' : Hp} {o : HO} (a : F3 L W Z H H') : F3 L W Z H (upd H' W o) := fun b x n1 n2 n3 e => by rw [upd_ne n2]; exact a b x n1 n2 n3 e
theorem F3.putZ {L W Z : Addr} {H H' : Hp} {o : HO} (a : F3 L W Z H H') : F3 L W Z H (upd H' Z o) := fun b x n1 n2 n3 e => by rw [upd_ne n3]; exact a b x n1 n2 n3 e
/-- what is drawn from, and the world -/
structure Wld (H : Hp) (L W Z : Addr) (c : Int) (es : List Ar) (wy : Int) : Prop where
  lf : Lf H L c
  wd : H W = some (.lst [.ref Z, .int wy])
  zl : ∃ zs, H Z = some (.lst zs) ∧ Ties H zs es
  lw : L ≠ W
  wz : W ≠ Z
  lz : L ≠ Z
theorem Wld.tst {H H' : Hp} {L W Z : Addr} {c : Int} {es : List Ar} {wy : Int} (h : Wld H L W Z c es wy) (f : F3 L W Z H H') : Tst H H' := fun b xs e => by
  obtain ⟨x, y, z, h1, _⟩ := h.lf
  obtain ⟨zs, h2, _⟩ := h.zl
  refine f b _ (fun k => ?_) (fun k => ?_) (fun k => ?_) e
  · rw [k, h1] at e; cases e
  · rw [k, h.wd] at e; cases e
  · rw [k, h2] at e; cases e
theorem Wld.same {H H' : Hp} {L W Z : Addr} {c : Int} {es : List Ar} {wy : Int} (h : Wld H L W Z c es wy) (s : Same H H') : Wld H' L W Z c es wy := by
  obtain ⟨zs, a, b⟩ := h.zl
  exact ⟨h.lf.same s, s _ _ h.wd, ⟨zs, s _ _ a, b.mono (Same.tst s)⟩, h.lw, h.wz, h.lz⟩
theorem Wld.frL {H H' : Hp} {L W Z : Addr} {c c' : Int} {es : List Ar} {wy : Int} (h : Wld H L W Z c es wy) (s : Fr L H H') (l : Lf H' L c') : Wld H' L W Z c' es wy := by
  obtain ⟨zs, a, b⟩ := h.zl
  exact ⟨l, s _ _ (Ne.symm h.lw) h.wd, ⟨zs, s _ _ (Ne.symm h.lz) a, b.mono (h.lf.tst s)⟩, h.lw, h.wz, h.lz⟩
theorem Wld.mono {H : Hp} {L W Z : Addr} {c d : Int} {es : List Ar} {wy : Int} (h : Wld H L W Z c es wy) (e : c ≤ d) : Wld H L W Z d es wy := ⟨h.lf.mono e, h.wd, h.zl, h.lw, h.wz, h.lz⟩
theorem Wld.putN {H : Hp} {L W Z p : Addr} {c : Int} {es : List Ar} {wy : Int} {o : HO} {xs : List V} (h : Wld H L W Z c es wy) (n1 : p ≠ L) (n2 : p ≠ W) (n3 : p ≠ Z) (e : H p = some (.lst xs)) : Wld (upd H p o) L W Z c es wy := by
  obtain ⟨zs, a, b⟩ := h.zl
  exact ⟨h.lf.put n1, by rw [upd_ne (Ne.symm n2)]; exact h.wd, ⟨zs, by rw [upd_ne (Ne.symm n3)]; exact a, b.mono (tst_put e)⟩, h.lw, h.wz, h.lz⟩
theorem Wld.setW {H : Hp} {L W Z : Addr} {c : Int} {es : List Ar} {wy wy' : Int} (h : Wld H L W Z c es wy) : Wld (upd H W (.lst [.ref Z, .int wy'])) L W Z c es wy' := by
  obtain ⟨zs, a, b⟩ := h.zl
  exact ⟨h.lf.put (Ne.symm h.lw), upd_same, ⟨zs, by rw [upd_ne (Ne.symm h.wz)]; exact a, b.mono (tst_put h.wd)⟩, h.lw, h.wz, h.lz⟩
theorem Wld.ne {H : Hp} {L W Z p : Addr} {c : Int} {es : List Ar} {wy : Int} (h : Wld H L W Z c es wy) (n : H p = none) : p ≠ L ∧ p ≠ W ∧ p ≠ Z := by
  obtain ⟨zs, a, b⟩ := h.zl
  exact ⟨h.lf.ne n, fun z => (by rw [z, h.wd] at n; cases n), fun z => (by rw [z, a] at n; cases n)⟩
theorem shape_w : ∀ sh ∈ shapes, -(2 ^ 64) < sh.2.2 ∧ sh.2.2 < 2 ^ 64 := by decide +kernel
section
variable {P : Program} {w : World} {K : PySem.W.Frag} {mg : Str → Option Value} {base : Heap}
/-! ### _law_drawn -/
abbrev s__law_drawn : Stmt := topS 28
abbrev N__law_drawn : List Str := ["_law_left_here", "_law_places", "_law_above", "_law_world", "_law_word", "_law_sides", "_law_many", "_law_ways", "_law_sets", "_law_a", "_law_b", "_law_place", "_law_other", "_law_trees", "_law_one", "_law_least", "_law_tree"]
theorem sc__law_drawn : FnScope N__law_drawn ["_law_left_here", "_law_places", "_law_above", "_law_world"] (defScope s__law_drawn) := ⟨rfl, rfl, rfl, by decide +kernel, rfl, by decide +kernel, by decide +kernel⟩
def sp_drawn : Nat → Sp
  | 0 => fun _ _ _ _ => False
  | m + 1 => fun vs H Q _ => ∃ (L pa W Z : Addr) (P : List Int) (ab : Str) (c : Int) (es : List Ar) (wy : Int), vs = [.ref L, .ref pa, .str ab, .ref W] ∧ Wld H L W Z c es wy ∧ c + 1000 * P.length < 2 ^ 47 ∧ H pa = some (.lst (P.map V.int)) ∧ (pa ≠ L ∧ pa ≠ W ∧ pa ≠ Z) ∧
      P.Nodup ∧ (∀ x ∈ P, 0 ≤ x ∧ x < 12) ∧ P ≠ [] ∧ P.length ≤ m + 1 ∧ es.length + 6000 * P.length ≤ 100000 ∧
    ∀ (v : V) (H' : Hp) (fs : List Ar) (wy' : Int), F3 L W Z H H' → Wld H' L W Z (c + 20 * ((P.length : Int) - 1)) (es ++ fs) (wy * wy') → fs.length ≤ 5200 * (P.length - 1) → WIn fs P → fs.Nodup → DrX fs H' (m + 1) v (srtP P) wy' ab → Q v H'
theorem ok_drawn1 {f : Addr} {fd : FuncData} {m : Nat} (B : Bts mg) (F : Fun K "_law_drawn" "_law_drawn" s__law_drawn f fd) (c__law_pick : Cl P w K mg base 2 "_law_pick" sp_pick) (c__law_shape : Cl P w K mg base 3 "_law_shape" sp_lshape) (c__law_shares : Cl P w K mg base 3 "_law_shares" sp_shares) (c__law_drawn : Cl P w K mg base (m + 4) "_law_drawn" (sp_drawn m)) :
    FnOk P w K mg base CX0 (m + 5) f fd ["_law_left_here", "_law_places", "_law_above", "_law_world"] (sp_drawn (m + 1)) := by
  refine F.ok sc__law_drawn (fun vs H Q E h => ?_) (fun cdv A outer s H vs Q E hr h => ?_)
  · obtain ⟨L, pa, W, Z, P, ab, c, es, wy, rfl, _⟩ := h; rfl
  · obtain ⟨L, pa, W, Z, P, ab, c, es, wy, rfl, hW, hc, ep, ⟨pL, pW, pZ⟩, nP, rP, Pne, Pm, el, q⟩ := h
    refine ⟨_, (pss_cons (ps_if (pt_cmpR op_eq (pe_callB call_len_seq (by rfl) B.len (by decide +kernel) (pa_cons (pv 1) pa_nil)) pe_int (nomark _)) (pss_one (ps_ret (pe_tup (pa_cons pe_str (pa_cons (pe_ix ix_list (pv 1) pe_int (fun _ _ => rfl)) pa_nil))))) pss_nil)
    (pss_cons (ps_set (i := 4) sc__law_drawn.nd rfl (by first | exact Or.inl rfl | exact Or.inr rfl) (pe_cut (pe_ix ix_list (pe_lst (pa_cons pe_str (pa_cons pe_str pa_nil))) (pe_callTy call_int1 (by rfl) B.int (by decide +kernel) (pa_cons (pe_or (pe_cmpR op_eq (pv 2) pe_str (nomark _)) (pe_one (pe_and (pe_cmpR op_ne (pv 2) pe_str (nomark _)) (pe_one (pe_cmpR op_eq (pe_c c__law_pick hr (by omega) (by rfl) (pa_cons (pv 0) (pa_cons pe_int pa_nil))) pe_int (nomark _)))))) pa_nil)) (fun _ _ => rfl))))
    (pss_cons (ps_set (i := 5) sc__law_drawn.nd rfl (by first | exact Or.inl rfl | exact Or.inr rfl) (pe_lst pa_nil))
    (pss_cut (ps_if (PW.pt (pw_and (pt_cmpR op_gt (pe_callB call_len_seq (by rfl) B.len (by decide +kernel) (pa_cons (pv 1) pa_nil)) pe_int (nomark _)) (pw_and1 (pt_cmpR op_eq (pe_c c__law_pick hr (by omega) (by rfl) (pa_cons (pv 0) (pa_cons pe_int pa_nil))) pe_int (nomark _))))) (pss_cons (ps_set (i := 4) sc__law_drawn.nd rfl (by first | exact Or.inl rfl | exact Or.inr rfl) pe_str)
      (pss_cons (ps_asg (pe_c c__law_shape hr (by omega) (by rfl) (pa_cons (pv 0) (pa_cons (pe_callB call_len_seq (by rfl) B.len (by decide +kernel) (pa_cons (pv 1) pa_nil)) pa_nil))) (pg_tup rfl (pgs_cons (pg_name (i := 6) sc__law_drawn.nd rfl (by first | exact Or.inl rfl | exact Or.inr rfl)) (pgs_cons (pg_name (i := 5) sc__law_drawn.nd rfl (by first | exact Or.inl rfl | exact Or.inr rfl)) (pgs_cons (pg_name (i := 7) sc__law_drawn.nd rfl (by first | exact Or.inl rfl | exact Or.inr rfl)) pgs_nil)))))
      (pss_one (ps_asg (pe_op op_mul (pe_ix ix_list (pv 3) pe_int (fun _ _ => rfl)) (pv 7)) (pg_sub (pv 3) pe_int set_list))))) (pss_one (ps_set (i := 6) sc__law_drawn.nd rfl (by first | exact Or.inl rfl | exact Or.inr rfl) (pe_op op_add pe_int (pe_c c__law_pick hr (by omega) (by rfl) (pa_cons (pv 0) (pa_cons (pe_callB (call_min2 rfl) (by rfl) B.min (by decide +kernel) (pa_cons pe_int (pa_cons (pe_op op_sub (pe_callB call_len_seq (by rfl) B.len (by decide +kernel) (pa_cons (pv 1) pa_nil)) pe_int) pa_nil))) pa_nil)))))))
    (pss_cons (ps_set (i := 8) sc__law_drawn.nd rfl (by first | exact Or.inl rfl | exact Or.inr rfl) (pe_c c__law_shares hr (by omega) (by rfl) (pa_cons (pv 0) (pa_cons (pv 1) (pa_cons (pv 6) pa_nil)))))
    (pss_cons (ps_for PassesOwn.never rfl (pi_range1 (by rfl) B.range (pa_cons (pv 6) pa_nil)) (pg_name (i := 9) sc__law_drawn.nd rfl (by first | exact Or.inl rfl | exact Or.inr rfl))
      (pss_cons (ps_asg (pe_op op_mul (pe_ix ix_list (pv 3) pe_int (fun _ _ => rfl)) (pe_ix ix_list (pe_lst (pa_cons pe_int (pa_cons (pe_op op_add (pv 9) pe_int) pa_nil))) (pe_callTy call_int1 (by rfl) B.int (by decide +kernel) (pa_cons (pe_cmpR op_eq (pv 4) pe_str (nomark _)) pa_nil)) (fun _ _ => rfl))) (pg_sub (pv 3) pe_int set_list))
      (pss_one (ps_for PassesOwn.never rfl (pi_range2 (by rfl) B.range (pa_cons (pe_op op_add (pv 9) pe_int) (pa_cons (pv 6) pa_nil))) (pg_name (i := 10) sc__law_drawn.nd rfl (by first | exact Or.inl rfl | exact Or.inr rfl))
        (pss_one (ps_if (pt_cut (PW.pt (pw_or (pt_cmpR op_eq (pv 4) pe_str (nomark _)) (pw_or1 (pt_cmpR (op_inD (u65 hr)) (pe_tup (pa_cons (pv 9) (pa_cons (pv 10) pa_nil))) (pv 5) (by rfl)))))) (pss_one (ps_for PassesOwn.never rfl (pi_list (pe_ix ix_list (pv 8) (pv 9) (fun _ _ => rfl))) (pg_name (i := 11) sc__law_drawn.nd rfl (by first | exact Or.inl rfl | exact Or.inr rfl))
            (pss_one (ps_expr (pe_bm PySem.F.plainAttrs_list PySem.F.slot_list_extend PySem.F.type_list_extend mt_extend (pe_ix ix_list (pv 3) pe_int (fun _ _ => rfl)) (pa_cons (pe_lc (own := [("_law_other", 12)]) (g := (gName 12)) (tt := tYes) (te := (tCB (rTupK K) (tCons (tCB (rSortedI K) _) tNil))) rfl sc__law_drawn.nd (pi_list (pe_ix ix_list (pv 8) (pv 10) (fun _ _ => rfl))) (blkOk_by (own := [("_law_other", 12)]) (N := N__law_drawn) (sc := defScope s__law_drawn) (by decide +kernel)) (fun _ _ _ _ _ => (pg_name (i := 12) sc__law_drawn.nd rfl (by first | exact Or.inl rfl | exact Or.inr rfl))) (fun _ _ _ _ _ => pts_nil) (fun _ _ _ _ _ => (pe_callTy call_tuple_of (by rfl) B.tuple (by decide +kernel) (pa_cons (pe_callB cr_sortedI (by rfl) B.sorted (by decide +kernel) (pa_cons (pe_lst (pa_cons (pv 11) (pa_cons (pv 12) pa_nil))) pa_nil)) pa_nil)))) pa_nil)))))) pss_nil))))))
    (pss_cons (ps_setLc (i := 13) (own := [("_law_one", 14)]) (g := (gName 14)) (tt := tYes) (te := (tTup (tCons (tCB (rMin K) _) (tCons _ tNil)))) rfl sc__law_drawn.nd rfl rfl (sw_true rfl rfl rfl (by decide +kernel)) (pi_list (pv 8)) (blkOk_by (own := [("_law_one", 14)]) (N := N__law_drawn) (sc := defScope s__law_drawn) (by decide +kernel)) (fun _ _ _ _ _ => (pg_name (i := 14) sc__law_drawn.nd rfl (by first | exact Or.inl rfl | exact Or.inr rfl))) (fun _ _ _ _ _ => pts_nil) (fun _ _ _ _ _ => (pe_tup (pa_cons (pe_callB (cr_min rfl) (by rfl) B.min (by decide +kernel) (pa_cons (pv 14) pa_nil)) (pa_cons (pe_c c__law_drawn hr (Nat.le_refl _) (by rfl) (pa_cons (pv 0) (pa_cons (pv 14) (pa_cons (pv 4) (pa_cons (pv 3) pa_nil))))) pa_nil)))))
    (pss_one (ps_ret (pe_tup (pa_cons (pv 4) (pa_cons (pe_callTy call_tuple_of (by rfl) B.tuple (by decide +kernel) (pa_cons (pe_lc (own := [("_law_least", 15), ("_law_tree", 16)]) (g := (gTup K 2 (gCons (gName 15) (gCons (gName 16) gNil)))) (tt := tYes) rfl sc__law_drawn.nd (pi_list (pe_callB cr_sortedF (by rfl) B.sorted (by decide +kernel) (pa_cons (pv 13) pa_nil))) (blkOk_by (own := [("_law_least", 15), ("_law_tree", 16)]) (N := N__law_drawn) (sc := defScope s__law_drawn) (by decide +kernel)) (fun _ _ _ _ _ => (pg_tup rfl (pgs_cons (pg_name (i := 15) sc__law_drawn.nd rfl (by first | exact Or.inl rfl | exact Or.inr rfl)) (pgs_cons (pg_name (i := 16) sc__law_drawn.nd rfl (by first | exact Or.inl rfl | exact Or.inr rfl)) pgs_nil)))) (fun _ _ _ _ _ => pts_nil) (fun _ _ _ _ _ => (pv 16))) pa_nil)) pa_nil)))))))))))), ?_⟩
    have P0 := List.length_pos_iff.mpr Pne
    have P12 : P.length ≤ 12 := by
      have := nd_len (m := up 12) nP fun x hx => mem_up.mpr (rP x hx)
      rw [up_len] at this; exact this
    refine ⟨_, rfl, pa, _, rfl, .inl (SqL.of ep), rfl, _, rfl, ite2 (fun e => ?_) (fun e => ?_)⟩
    · have l1 : P.length = 1 := by
        have := V.int.inj (of_decide_eq_true e)
        rw [List.length_map] at this; omega
      obtain ⟨i, rfl⟩ := List.length_eq_one_iff.mp l1
      refine ⟨_, rfl, pa, _, 0, .int i, rfl, rfl, SqL.of ep, atI_nat (j := 0) rfl, by show 2 ≤ sizeLine; decide, fun p np => ?_⟩
      have sp := same_new (o := .tup [.str "place", .int i]) np
      refine q _ _ [] 1 (F3.same sp) ?_ (Nat.zero_le _) (fun t h => absurd h List.not_mem_nil) List.nodup_nil (.inl ⟨p, i, rfl, upd_same, ?_, rfl⟩)
      · rw [List.append_nil, Int.mul_one]; exact (hW.same sp).mono (by rw [l1]; omega)
      · have := srtP_perm nP rP
        exact List.perm_singleton.mp this
    have P2 : 2 ≤ P.length := by
      refine Classical.byContradiction fun k => e ?_
      rw [List.length_map]
      have : P.length = 1 := by omega
      rw [this]; exact decide_eq_true rfl
    -- the word
    refine ⟨fun v HX => ∃ wd : Str, v = .str wd ∧ Wld HX L W Z (c + 1) es wy ∧ F3 L W Z H HX ∧ ((wd = "all" ∧ ab ≠ "all") ∨ (wd = "apart" ∧ ab ≠ "apart")), ?_, ?_⟩
    · refine ⟨by show 2 ≤ sizeLine; decide, fun l nl => ?_⟩
      have sl := same_new (o := .lst [.str "all", .str "apart"]) nl
      have el := upd_same (H := H) (a := l) (o := .lst [.str "all", .str "apart"])
      have hWl := hW.same sl
      obtain ⟨nl1, nl2, nl3⟩ := hW.ne nl
      generalize upd H l (.lst [.str "all", .str "apart"]) = H1 at sl el hWl ⊢
      refine ⟨_, rfl, rfl, _, rfl, ite2 (fun e => ?_) (fun e => ?_)⟩
      · have ea : ab = "all" := V.str.inj (of_decide_eq_true e)
        exact .inr ⟨true, rfl, l, _, 1, .str "apart", rfl, rfl, SqL.of el, atI_nat (j := 1) rfl, "apart", rfl, hWl.mono (by omega), F3.same sl, .inr ⟨rfl, by rw [ea]; decide⟩⟩
      · have ea : ab ≠ "all" := fun z => e (decide_eq_true (by rw [z]))
        refine ⟨_, rfl, rfl, _, rfl, ite2 (fun e2 => ?_) (fun e2 => ?_)⟩
        · have eb : ab ≠ "apart" := fun z => by rw [z] at e2; exact absurd e2 (by decide)
          refine ⟨_, rfl, L, _, c, rfl, hWl.lf, by decide, by decide, by omega, fun r HX r0 r1 frX lfX => ⟨rfl, ?_⟩⟩
          have elX := frX _ _ nl1 el
          have hWX := hWl.frL frX lfX
          have fX : F3 L W Z H HX := (F3.same sl).trans (F3.fr frX)
          cases decide (V.int r = V.int 0) with
          | true => exact .inr ⟨true, rfl, l, _, 1, .str "apart", rfl, rfl, SqL.of elX, atI_nat (j := 1) rfl, "apart", rfl, hWX, fX, .inr ⟨rfl, eb⟩⟩
          | false => exact .inr ⟨false, rfl, l, _, 0, .str "all", rfl, rfl, SqL.of elX, atI_nat (j := 0) rfl, "all", rfl, hWX, fX, .inl ⟨rfl, ea⟩⟩
        · exact .inr ⟨false, rfl, l, _, 0, .str "all", rfl, rfl, SqL.of el, atI_nat (j := 0) rfl, "all", rfl, hWl.mono (by omega), F3.same sl, .inl ⟨rfl, ea⟩⟩
    rintro v1 H1 ⟨wd, rfl, hW1, f1, hwd⟩
    have ep1 := f1 _ _ pL pW pZ ep
    refine ⟨Nat.zero_le _, fun sa nsa => ?_⟩
    have ssa := same_new (o := .lst []) nsa
    have esa := upd_same (H := H1) (a := sa) (o := .lst [])
    obtain ⟨sn1, sn2, sn3⟩ := hW1.ne nsa
    have hW2 := hW1.same ssa
    have ep2 := ssa _ _ ep1
    have f2 : F3 L W Z H (upd H1 sa (.lst [])) := f1.trans (F3.same ssa)
    generalize upd H1 sa (.lst []) = H2 at ssa esa hW2 ep2 f2 ⊢
    -- how many, the sides
    refine ⟨fun σ HX => ∃ (wd : Str) (sa : Addr) (k : Nat) (us : List V) (sl : List (Nat × Nat)) (ow : Int) (y7 : Option V), σ = [some (.ref L), some (.ref pa), some (.str ab), some (.ref W), some (.str wd), some (.ref sa), some (.int (k : Int)), y7, none, none, none, none, none, none, none, none, none] ∧
      Wld HX L W Z (c + 5) es (wy * ow) ∧ F3 L W Z H HX ∧ (sa ≠ L ∧ sa ≠ W ∧ sa ≠ Z) ∧ HX sa = some (.lst us) ∧ Ties HX us (sl.map toI) ∧ sl.length ≤ 12 ∧ 2 ≤ k ∧ k ≤ P.length ∧ k ≤ 6 ∧
      ((wd = "all" ∧ ab ≠ "all" ∧ ow = 1 ∧ sl = []) ∨ (wd = "apart" ∧ ab ≠ "apart" ∧ ow = 1 ∧ sl = []) ∨ (wd = "close" ∧ ∃ sh ∈ shapes, k = sh.1 ∧ ow = sh.2.2 ∧ sl = sh.2.1)), ?_, ?_⟩
    · have many : ∀ HX (r : Int) (y7 : Option V), 0 ≤ r → r ≤ 2 → r + 2 ≤ (P.length : Int) → Fr L H2 HX → Lf HX L (c + 1 + 2) → ∃ (wd' : Str) (sa' : Addr) (k : Nat) (us : List V) (sl : List (Nat × Nat)) (ow : Int) (y7' : Option V), [some (V.ref L), some (.ref pa), some (.str ab), some (.ref W), some (.str wd), some (.ref sa), some (.int (2 + r)), y7, none, none, none, none, none, none, none, none, none] = [some (.ref L), some (.ref pa), some (.str ab), some (.ref W), some (.str wd'), some (.ref sa'), some (.int (k : Int)), y7', none, none, none, none, none, none, none, none, none] ∧
        Wld HX L W Z (c + 5) es (wy * ow) ∧ F3 L W Z H HX ∧ (sa' ≠ L ∧ sa' ≠ W ∧ sa' ≠ Z) ∧ HX sa' = some (.lst us) ∧ Ties HX us (sl.map toI) ∧ sl.length ≤ 12 ∧ 2 ≤ k ∧ k ≤ P.length ∧ k ≤ 6 ∧
        ((wd' = "all" ∧ ab ≠ "all" ∧ ow = 1 ∧ sl = []) ∨ (wd' = "apart" ∧ ab ≠ "apart" ∧ ow = 1 ∧ sl = []) ∨ (wd' = "close" ∧ ∃ sh ∈ shapes, k = sh.1 ∧ ow = sh.2.2 ∧ sl = sh.2.1)) := fun HX r y7 r0 r1 r2 frX lfX => by
        obtain ⟨r, rfl⟩ := natOf r0
        refine ⟨wd, sa, r + 2, [], [], 1, y7, by rw [show (2 : Int) + (r : Int) = ((r + 2 : Nat) : Int) by omega], ?_, f2.trans (F3.fr frX), ⟨sn1, sn2, sn3⟩, frX _ _ sn1 esa, by exact trivial, by show 0 ≤ 12; omega, by omega, by omega, by omega, ?_⟩
        · rw [Int.mul_one]; exact (hW2.frL frX lfX).mono (by omega)
        · rcases hwd with ⟨a, b⟩ | ⟨a, b⟩
          · exact .inl ⟨a, b, rfl, rfl⟩
          · exact .inr (.inl ⟨a, b, rfl, rfl⟩)
      have mn : ∀ r : Int, r < (if ((P.map V.int).length : Int) - 1 < 3 then ((P.map V.int).length : Int) - 1 else 3) → r ≤ 2 ∧ r + 2 ≤ (P.length : Int) := fun r h => by
        rw [List.length_map] at h
        split at h <;> omega
      have mp : 0 < (if ((P.map V.int).length : Int) - 1 < 3 then ((P.map V.int).length : Int) - 1 else 3) ∧ (if ((P.map V.int).length : Int) - 1 < 3 then ((P.map V.int).length : Int) - 1 else 3) < 1000000 := by
        rw [List.length_map]
        constructor <;> split <;> omega
      refine ⟨_, rfl, pa, _, rfl, .inl (SqL.of ep2), _, _, rfl, rfl, _, rfl, ite2 (fun e3 => ?_) (fun e3 => ?_)⟩
      · have P4 : 4 ≤ P.length := by
          have := of_decide_eq_true e3
          rw [List.length_map] at this; omega
        refine ⟨_, rfl, L, _, c + 1, rfl, hW2.lf, by decide, by decide, by omega, fun r H3 r0 r1 fr3 lf3 => ⟨rfl, _, rfl, ite2 (fun e4 => ?_) (fun e4 => ?_)⟩⟩
        · have ep3 := fr3 _ _ pL ep2
          have hW3 := hW2.frL fr3 lf3
          refine ⟨_, rfl, _, rfl, pa, _, rfl, .inl (SqL.of ep3), L, P.length, c + 2, by rw [List.length_map]; rfl, hW3.lf.mono (by omega), by omega, P4, P12, fun p qa sh us H4 hsh shn nqa fr4 lf4 epp eqa hus => ?_⟩
          have hW4 := hW3.frL fr4 lf4
          obtain ⟨qn1, qn2, qn3⟩ := hW3.ne nqa
          refine ⟨p, _, rfl, SqT.of epp, rfl, _, _, rfl, _, _, rfl, _, _, rfl, rfl, ?_⟩
          have sk := shape_k sh hsh
          have sw : -(2 ^ 64) < sh.2.2 ∧ sh.2.2 < 2 ^ 64 := shape_w sh hsh
          refine ⟨_, rfl, W, _, 1, .int wy, rfl, rfl, SqL.of hW4.wd, atI_nat (j := 1) rfl, _, rfl, _, _, rfl, rfl, .inr sw, ?_⟩
          refine ⟨_, rfl, W, _, _, _, rfl, rfl, hW4.wd, rfl, ?_⟩
          refine ⟨"close", qa, sh.1, us, sh.2.1, sh.2.2, _, rfl, (hW4.setW).mono (by omega), ((f2.trans (F3.fr fr3)).trans (F3.fr fr4)).putW, ⟨qn1, qn2, qn3⟩, by rw [upd_ne qn2]; exact eqa, hus.mono (tst_put hW4.wd), shape_tl sh hsh, by omega, shn, sk.2.1, .inr (.inr ⟨rfl, sh, hsh, rfl, rfl, rfl⟩)⟩
        · have ep3 := fr3 _ _ pL ep2
          refine ⟨_, rfl, _, rfl, pa, _, rfl, .inl (SqL.of ep3), _, _, rfl, rfl, _, _, rfl, L, _, c + 2, rfl, lf3.mono (by omega), mp.1, mp.2, by omega, fun r2 H4 s0 s1 fr4 lf4 => ⟨_, _, rfl, rfl, ?_⟩⟩
          obtain ⟨m1, m2⟩ := mn r2 s1
          exact many H4 r2 none s0 m1 m2 (fr3.trans fr4) (lf4.mono (by omega))
      · refine iteF ?_
        refine ⟨_, rfl, _, rfl, pa, _, rfl, .inl (SqL.of ep2), _, _, rfl, rfl, _, _, rfl, L, _, c + 1, rfl, hW2.lf, mp.1, mp.2, by omega, fun r2 H4 s0 s1 fr4 lf4 => ⟨_, _, rfl, rfl, ?_⟩⟩
        obtain ⟨m1, m2⟩ := mn r2 s1
        exact many H4 r2 none s0 m1 m2 fr4 (lf4.mono (by omega))
    rintro σ H3 ⟨wd, sa, k, us, sl, ow, y7, rfl, hW3, f3, ⟨sn1, sn2, sn3⟩, esa, hsl, sll, k2, kP, k6, hk⟩
    have ep3 := f3 _ _ pL pW pZ ep
    -- the sets
    refine ⟨_, rfl, _, rfl, _, rfl, L, pa, k, c + 5, P, rfl, hW3.lf, by omega, ep3, pL, by omega, kP, P12, fun T qs G H4 nT fr4 lf4 hA Gl Gp Gne => ?_⟩
    subst Gl
    have hW4 := hW3.frL fr4 lf4
    have f34 : F3 L W Z H3 H4 := F3.fr fr4
    obtain ⟨T1, T2, T3⟩ := hW3.ne nT
    have qsn : ∀ q ∈ qs, q ≠ L ∧ q ≠ W ∧ q ≠ Z := fun q hq => hW3.ne (hA.new q hq)
    have esa4 := fr4 _ _ sn1 esa
    have hsl4 := hsl.mono (hW3.tst f34)
    have f4 := f3.trans f34
    have keepA : ∀ {HX : Hp}, F3 L W Z H4 HX → LsA H3 HX T qs G := fun {HX} f => ⟨f _ _ T1 T2 T3 hA.here, hA.len, hA.nd, hA.out, hA.new, fun i q e => by
      obtain ⟨l, x, y⟩ := hA.at_ i q e
      obtain ⟨n1, n2, n3⟩ := qsn q (List.mem_of_getElem? e)
      exact ⟨l, x, f _ _ n1 n2 n3 y⟩⟩
    have qget : ∀ {i : Nat}, i < G.length → ∃ q S, qs[i]? = some q ∧ G[i]? = some S ∧ ∀ {HX : Hp}, F3 L W Z H4 HX → HX q = some (.lst (S.map V.int)) := fun {i} hi => by
      have hq : i < qs.length := by rw [hA.len]; exact hi
      have e := List.getElem?_eq_getElem hq
      obtain ⟨S, eS, _⟩ := hA.at_ i _ e
      refine ⟨_, S, e, eS, fun {HX} f => ?_⟩
      obtain ⟨S', eS', r⟩ := (keepA f).at_ i _ e
      rw [eS] at eS'
      cases eS'; exact r
    have Sl : ∀ {i : Nat} {S : List Int}, G[i]? = some S → S.length ≤ 12 := fun {i S} e => by
      have h1 := Gp.length_eq
      obtain ⟨hi, ei⟩ := List.getElem?_eq_some_iff.mp e
      have hF : G = G.take i ++ S :: G.drop (i + 1) := by
        rw [← ei, List.getElem_cons_drop, List.take_append_drop]
      have := congrArg (fun l => l.flatten.length) hF
      simp only [List.flatten_append, List.flatten_cons, List.length_append] at this
      omega
    let g : Nat → Nat → Bool := fun i j => decide (wd = "all") || decide ((i, j) ∈ sl)
    let fc : Nat → Int := fun i => if wd = "all" then factN i else 1
    refine ⟨_, rfl, _, rfl, by omega, by omega, ?_⟩
    refine for_range (fun i σ HX => ∃ y9 y10 y11 y12, σ = [some (.ref L), some (.ref pa), some (.str ab), some (.ref W), some (.str wd), some (.ref sa), some (.int (G.length : Int)), y7, some (.ref T), y9, y10, y11, y12, none, none, none, none] ∧ F3 L W Z H4 HX ∧ Wld HX L W Z (c + 17) (es ++ ownT G g (pup G.length i)) (wy * ow * fc i) ∧ (ownT G g (pup G.length i)).length ≤ 864 * i) ⟨_, _, _, _, rfl, F3.refl _ _ _ _, ?_, Nat.zero_le _⟩ ?_ ?_
    · have f0 : fc 0 = 1 := by
        show (if wd = "all" then factN 0 else 1) = 1
        split <;> rfl
      rw [f0, Int.mul_one]
      have : es ++ ownT G g (pup G.length 0) = es := List.append_nil es
      rw [this]
      exact hW4.mono (by omega)
    · rintro i σ H5 hi ⟨y9, y10, y11, y12, rfl, f5, hW5, l5⟩
      have hi : i < G.length := by omega
      refine ⟨_, rfl, W, _, 1, .int (wy * ow * fc i), rfl, rfl, SqL.of hW5.wd, atI_nat (j := 1) rfl, _, rfl, _, _, rfl, rfl, by show 2 ≤ sizeLine; decide, fun l nl => ?_⟩
      have sl' := same_new (o := .lst [.int 1, .int (0 + (i : Int) + 1)]) nl
      have el' := upd_same (H := H5) (a := l) (o := .lst [.int 1, .int (0 + (i : Int) + 1)])
      have hW6 := hW5.same sl'
      have f6 : F3 L W Z H4 (upd H5 l (.lst [.int 1, .int (0 + (i : Int) + 1)])) := f5.trans (F3.same sl')
      generalize upd H5 l (.lst [.int 1, .int (0 + (i : Int) + 1)]) = H6 at sl' el' hW6 f6 ⊢
      obtain ⟨ft, hft, eft, b1, b2⟩ : ∃ ft : Int, atI [V.int 1, V.int (0 + (i : Int) + 1)] (if decide (V.str wd = V.str "all") = true then 1 else 0) = some (.int ft) ∧ fc i * ft = fc (i + 1) ∧ -(2 ^ 64) < ft ∧ ft < 2 ^ 64 := by
        by_cases hw : wd = "all"
        · refine ⟨0 + (i : Int) + 1, ?_, ?_, by omega, by omega⟩
          · rw [hw, decide_eq_true rfl]; exact atI_nat (j := 1) rfl
          · show (if wd = "all" then factN i else 1) * _ = (if wd = "all" then factN (i + 1) else 1)
            rw [if_pos hw, if_pos hw]
            show _ = factN i * ((i + 1 : Nat) : Int)
            congr 1; omega
        · refine ⟨1, ?_, ?_, by decide, by decide⟩
          · rw [decide_eq_false (fun z => hw (V.str.inj z))]; exact atI_nat (j := 0) rfl
          · show (if wd = "all" then factN i else 1) * _ = (if wd = "all" then factN (i + 1) else 1)
            rw [if_neg hw, if_neg hw]; rfl
      refine ⟨_, rfl, rfl, .inr ⟨_, rfl, l, _, _, .int ft, rfl, rfl, SqL.of el', hft, _, _, rfl, rfl, .inr ⟨b1, b2⟩, ?_⟩⟩
      refine ⟨_, rfl, W, _, _, _, rfl, rfl, hW6.wd, rfl, ?_⟩
      have hW7 : Wld (upd H6 W (.lst [.ref Z, .int (wy * ow * fc i * ft)])) L W Z (c + 17) (es ++ ownT G g (pup G.length i)) (wy * ow * fc (i + 1)) := by
        have := hW6.setW (wy' := wy * ow * fc i * ft)
        rw [Int.mul_assoc (wy * ow), eft] at this ⊢
        exact this
      have f7 : F3 L W Z H4 (upd H6 W (.lst [.ref Z, .int (wy * ow * fc i * ft)])) := f6.putW
      refine ⟨_, rfl, _, _, rfl, rfl, _, rfl, _, _, rfl, ⟨by omega, by omega, by omega, by omega⟩, ?_⟩
      refine for_range (fun j σ HX => ∃ y10 y11 y12, σ = [some (.ref L), some (.ref pa), some (.str ab), some (.ref W), some (.str wd), some (.ref sa), some (.int (G.length : Int)), y7, some (.ref T), some (.int (0 + (i : Int))), y10, y11, y12, none, none, none, none] ∧ F3 L W Z H4 HX ∧ Wld HX L W Z (c + 17) (es ++ ownT G g (pup G.length i ++ prow i j)) (wy * ow * fc (i + 1)) ∧ (ownT G g (pup G.length i ++ prow i j)).length ≤ 864 * i + 144 * j) ⟨_, _, _, rfl, f7, ?_, ?_⟩ ?_ ?_
      · have : pup G.length i ++ prow i 0 = pup G.length i := List.append_nil _
        rw [this]; exact hW7
      · have : pup G.length i ++ prow i 0 = pup G.length i := List.append_nil _
        rw [this]; omega
      · rintro j σ H8 hj ⟨y10, y11, y12, rfl, f8, hW8, l8⟩
        have hj : i + 1 + j < G.length := by omega
        obtain ⟨qa, A, eqa, eA, hqa⟩ := qget hi
        obtain ⟨qb, Bs, eqb, eB, hqb⟩ := qget hj
        have Al := Sl eA
        have Bl := Sl eB
        have bb : (0 : Int) + (i : Int) + 1 + (j : Int) = ((i + 1 + j : Nat) : Int) := by omega
        have aa : (0 : Int) + (i : Int) = ((i : Nat) : Int) := by omega
        have row : pup G.length i ++ prow i (j + 1) = (pup G.length i ++ prow i j) ++ [((i : Int), ((i + 1 + j : Nat) : Int))] := by
          rw [prow_succ, ← List.append_assoc]
          congr 3
        have nxt : ownT G g (pup G.length i ++ prow i (j + 1)) = ownT G g (pup G.length i ++ prow i j) ++ (if g i (i + 1 + j) = true then blkT A Bs else []) := by
          rw [row, ownT_app G g (pup G.length i ++ prow i j), ownT_one G g i (i + 1 + j) A Bs eA eB]
        -- the test
        refine ⟨fun b HX => b = g i (i + 1 + j) ∧ F3 L W Z H4 HX ∧ Wld HX L W Z (c + 17) (es ++ ownT G g (pup G.length i ++ prow i j)) (wy * ow * fc (i + 1)), ?_, ?_⟩
        · refine ⟨_, rfl, rfl, _, rfl, ite2 (fun e5 => ?_) (fun e5 => ?_)⟩
          · have hw : wd = "all" := V.str.inj (of_decide_eq_true e5)
            refine ⟨?_, f8, hW8⟩
            show true = (decide (wd = "all") || _)
            rw [decide_eq_true hw]; rfl
          · have hw : ¬ wd = "all" := fun z => e5 (decide_eq_true (by rw [z]))
            refine ⟨_, rfl, _, rfl, by show 2 ≤ sizeLine; decide, fun t nt => ⟨_, rfl, ?_⟩⟩
            have st := same_new (o := .tup [.int (0 + (i : Int)), .int (0 + (i : Int) + 1 + (j : Int))]) nt
            have esaX := f8 _ _ sn1 sn2 sn3 esa4
            have hslX := hsl4.mono (hW4.tst f8)
            have ht : Tie (upd H8 t (.tup [.int (0 + (i : Int)), .int (0 + (i : Int) + 1 + (j : Int))])) (.ref t) (0 + (i : Int), 0 + (i : Int) + 1 + (j : Int)) := ⟨t, rfl, upd_same⟩
            refine ⟨dT _, (sl.map toI).map dT, ht.dp, .lst (SqL.of (st _ _ esaX)) (hslX.mono (Same.tst st)).dp, shaped_dT _, shaped_ties _, _, rfl, ?_⟩
            rw [any_dT]
            refine ⟨?_, f8.trans (F3.same st), hW8.same st⟩
            show _ = (decide (wd = "all") || decide ((i, i + 1 + j) ∈ sl))
            rw [decide_eq_false hw, Bool.false_or]
            refine decide_eq_decide.mpr ?_
            rw [bb, aa]
            constructor
            · intro h
              obtain ⟨u, hu, e⟩ := List.mem_map.mp h
              unfold toI at e
              have e1 := congrArg Prod.fst e
              have e2 := congrArg Prod.snd e
              dsimp only at e1 e2
              have : u = (i, i + 1 + j) := Prod.ext (by omega) (by omega)
              rw [← this]; exact hu
            · intro h
              exact List.mem_map.mpr ⟨_, h, rfl⟩
        rintro b H9 ⟨eb, f9, hW9⟩
        cases b with
        | false =>
          rw [if_neg (by decide)]
          rw [← eb, if_neg (by decide), List.append_nil] at nxt
          refine ⟨_, _, _, rfl, f9, ?_, ?_⟩
          · rw [nxt]; exact hW9
          · rw [nxt]; omega
        | true =>
          rw [if_pos rfl]
          rw [← eb, if_pos rfl] at nxt
          have eT9 := f9 _ _ T1 T2 T3 hA.here
          refine ⟨_, rfl, _, rfl, T, _, (0 + (i : Int)), .ref qa, rfl, rfl, SqL.of eT9, ?_, qa, rfl, ⟨_, SqL.of (hqa f9)⟩, ?_⟩
          · rw [aa]; exact atI_nat (by rw [List.getElem?_map, eqa]; rfl)
          refine for_it (walk_list (K := K) (a := qa) (xs := A.map V.int)) (fun p σ HX => ∃ y11 y12, σ = [some (.ref L), some (.ref pa), some (.str ab), some (.ref W), some (.str wd), some (.ref sa), some (.int (G.length : Int)), y7, some (.ref T), some (.int (0 + (i : Int))), some (.int (0 + (i : Int) + 1 + (j : Int))), y11, y12, none, none, none, none] ∧ F3 L W Z H4 HX ∧ Wld HX L W Z (c + 17) (es ++ (ownT G g (pup G.length i ++ prow i j) ++ blkT (A.take p) Bs)) (wy * ow * fc (i + 1))) ⟨_, _, rfl, f9, ?_⟩ ?_ ?_ ?_
          · have : blkT (A.take 0) Bs = [] := rfl
            rw [this, List.append_nil]; exact hW9
          · rintro p σ HX _ ⟨_, _, _, fX, _⟩
            exact SqL.of (hqa fX)
          · rintro p x σ HX0 HX hp ⟨y11, y12, rfl, fX, hWX⟩ ⟨rfl, hx⟩
            rw [List.getElem?_map] at hx
            obtain ⟨x, ex, rfl⟩ := Option.map_eq_some_iff.mp hx
            have hp := (List.getElem?_eq_some_iff.mp ex).1
            have eTX := fX _ _ T1 T2 T3 hA.here
            obtain ⟨zs, eZ, hzs⟩ := hWX.zl
            refine ⟨_, rfl, W, _, 0, .ref Z, rfl, rfl, SqL.of hWX.wd, atI_nat (j := 0) rfl, .inl ⟨rfl, _, SqL.of eZ⟩, ?_⟩
            refine ⟨_, rfl, _, rfl, T, _, (0 + (i : Int) + 1 + (j : Int)), .ref qb, rfl, rfl, SqL.of eTX, ?_, qb, rfl, ⟨_, SqL.of (hqb fX)⟩, fun D nD => ?_⟩
            · rw [bb]; exact atI_nat (by rw [List.getElem?_map, eqb]; rfl)
            obtain ⟨D1, D2, D3⟩ := hWX.ne nD
            refine wk (walk_list (K := K) (a := qb) (xs := Bs.map V.int)) (fun r HV => ∃ ws, Same HX HV ∧ HV D = some (.lst ws) ∧ Ties HV ws ((Bs.take r).map fun y => tieO x y)) ⟨[], same_new nD, upd_same, by exact trivial⟩ ?_ ?_ ?_
            · rintro r HV _ ⟨_, sV, _⟩
              exact SqL.of (sV _ _ (hqb fX))
            · rintro r yv HV0 HV hr' ⟨ws, sV, eD, hws⟩ ⟨rfl, hy⟩
              rw [List.getElem?_map] at hy
              obtain ⟨y, ey, rfl⟩ := Option.map_eq_some_iff.mp hy
              have wl := hws.len
              rw [List.length_map, List.length_take] at wl
              refine ⟨rfl, yes ⟨_, rfl, _, rfl, by show 2 ≤ sizeLine; decide, fun l2 nl2 => ?_⟩⟩
              have k1 := same_new (o := .lst [.int x, .int y]) nl2
              refine ⟨l2, [x, y], rfl, SqL.of upd_same, fun ns' pp pm' srt' npp => ?_⟩
              have k2 := same_new (o := .lst (ns'.map V.int)) npp
              refine ⟨pp, _, rfl, .inl ⟨SqL.of upd_same, fun t nt => ?_⟩⟩
              have k3 := same_new (o := .tup (ns'.map V.int)) nt
              have kk := (k1.trans k2).trans k3
              have eDk := kk _ _ eD
              have tp := tst_put (o := .lst (ws ++ [.ref t])) eDk
              have ens := two_sort pm' srt'
              have htt : Tie (upd (upd (upd HV l2 (.lst [.int x, .int y])) pp (.lst (ns'.map V.int))) t (.tup (ns'.map V.int))) (.ref t) (tieO x y) := ⟨t, rfl, by rw [upd_same, ens]; rfl⟩
              refine ⟨ws, eDk, sz' (by omega), ws ++ [.ref t], Same.put (sV.trans kk) nD, upd_same, ?_⟩
              rw [List.take_add_one, ey, List.map_append]
              exact ((hws.mono (Same.tst kk)).mono tp).app (Ties.one (htt.mono tp))
            · rintro HV ⟨ws, sV, eD, hws⟩
              rw [List.length_map, List.take_length] at hws
              have eZV := sV _ _ eZ
              have zl := hzs.len
              have wl := hws.len
              rw [List.length_map] at wl
              have bl := blkT_len (A.take p) Bs
              have bl2 : (blkT (A.take p) Bs).length ≤ 144 := by
                rw [bl, List.length_take]
                exact Nat.le_trans (Nat.mul_le_mul (show min p A.length ≤ 12 by omega) Bl) (by decide)
              rw [List.length_append, List.length_append] at zl
              refine ⟨Z, D, zs, ws, rfl, rfl, eZV, eD, Nat.le_trans (show zs.length + ws.length ≤ 200000 by omega) (by decide), ?_⟩
              have tZ := tst_put (o := .lst (zs ++ ws)) eZV
              refine ⟨_, _, rfl, (fX.trans (F3.same sV)).putZ, ?_⟩
              have hWV := hWX.same sV
              refine ⟨hWV.lf.put (Ne.symm hWV.lz), by rw [upd_ne hWV.wz]; exact hWV.wd, ⟨_, upd_same, ?_⟩, hWV.lw, hWV.wz, hWV.lz⟩
              rw [blkT_succ ex, ← List.append_assoc (ownT G g (pup G.length i ++ prow i j)), ← List.append_assoc es]
              exact ((hzs.mono (Same.tst sV)).mono tZ).app (hws.mono tZ)
          · rintro σ HX ⟨y11, y12, rfl, fX, hWX⟩
            rw [List.length_map, List.take_length] at hWX
            refine ⟨_, _, _, rfl, fX, ?_, ?_⟩
            · rw [nxt]; exact hWX
            · rw [nxt, List.length_append, blkT_len]
              have := Nat.mul_le_mul Al Bl
              omega
      · rintro σ H8 ⟨y10, y11, y12, rfl, f8, hW8, l8⟩
        have ek : ((G.length : Int) - (0 + (i : Int) + 1)).toNat = G.length - (i + 1) := by omega
        rw [ek, ← pup_succ] at hW8 l8
        exact ⟨_, _, _, _, rfl, f8, hW8, by omega⟩
    rintro σ H5 ⟨y9, y10, y11, y12, rfl, f5, hW5, l5⟩
    rw [Int.toNat_natCast] at hW5 l5
    -- the trees
    have Gset : SetsF P G := ⟨nP, Gp, Gne⟩
    have Gfl : ∀ (i : Nat) (S : List Int), G[i]? = some S → (G.take (i + 1)).flatten.length = (G.take i).flatten.length + S.length ∧ (G.take i).flatten.length + S.length ≤ P.length ∧ i ≤ (G.take i).flatten.length ∧ S.length < P.length := fun i S e => by
      have h1 := Gp.length_eq
      obtain ⟨hi, ei⟩ := List.getElem?_eq_some_iff.mp e
      have hF : G = G.take i ++ S :: G.drop (i + 1) := by
        rw [← ei, List.getElem_cons_drop, List.take_append_drop]
      have key : ∀ l : List (List Int), (∀ S ∈ l, S ≠ []) → l.length ≤ l.flatten.length := fun l => by
        induction l with
        | nil => intro _; exact Nat.le_refl _
        | cons a l ih =>
          intro ne
          have h := List.length_pos_iff.mpr (ne a List.mem_cons_self)
          have := ih fun S hS => ne S (List.mem_cons_of_mem _ hS)
          rw [List.flatten_cons, List.length_append, List.length_cons]; omega
      have k1 := key (G.take i) fun S hS => Gne S (List.mem_of_mem_take hS)
      have k2' := key (G.drop (i + 1)) fun S hS => Gne S (List.mem_of_mem_drop hS)
      rw [List.length_take] at k1
      rw [List.length_drop] at k2'
      have h2 := congrArg (fun l => l.flatten.length) hF
      simp only [List.flatten_append, List.flatten_cons, List.length_append] at h2
      refine ⟨?_, by omega, by omega, by omega⟩
      rw [List.take_add_one, e, List.flatten_append, List.length_append]
      show _ + (List.flatten [S]).length = _
      rw [List.flatten_cons, List.flatten_nil, List.append_nil]
    obtain ⟨m, rfl⟩ : ∃ m', m = m' + 1 := ⟨m - 1, by omega⟩
    refine ⟨_, rfl, T, rfl, ⟨_, SqL.of (f5 _ _ T1 T2 T3 hA.here)⟩, fun D nD => ?_⟩
    obtain ⟨D1, D2, D3⟩ := hW5.ne nD
    refine wk (walk_list (K := K) (a := T) (xs := qs.map V.ref)) (fun j HX => ∃ (xs : List V) (its : List It), F3 L W Z H5 HX ∧ Wld HX L W Z (c + 17 + 20 * (((G.take j).flatten.length : Int) - j)) (es ++ (ownT G g (pup G.length G.length) ++ (its.map (·.e)).flatten)) (wy * ow * fc G.length * prodI (its.map (·.y))) ∧ HX D = some (.lst xs) ∧ All2 (FstV HX) xs (its.map fun it => (it.I.headD 0, it.v)) ∧ its.length = j ∧
      (∀ (i : Nat) (it : It), its[i]? = some it → ∃ S, G[i]? = some S ∧ it.I.Perm S ∧ WIn it.e S ∧ it.e.Nodup ∧ DrX it.e HX (m + 1) it.v it.I it.y wd) ∧ (its.map (·.e)).flatten.length + 5200 * j ≤ 5200 * (G.take j).flatten.length) ⟨[], [], (F3.refl L W Z H5).putN nD, ?_, upd_same, by exact trivial, rfl, fun i it e => (by cases e), Nat.le_refl _⟩ ?_ ?_ ?_
    · have e1 : prodI (List.map (fun it : It => it.y) []) = 1 := rfl
      rw [e1, Int.mul_one]
      show Wld _ L W Z _ (es ++ (ownT G g (pup G.length G.length) ++ [])) _
      rw [List.append_nil]
      exact (hW5.same (same_new nD)).mono (by show c + 17 ≤ c + 17 + 20 * (((0 : Nat) : Int) - ((0 : Nat) : Int)); omega)
    · rintro j HX _ ⟨_, _, fX, _⟩
      exact SqL.of ((f5.trans fX) _ _ T1 T2 T3 hA.here)
    · rintro j x HX0 HX hj ⟨xs, its, fX, hWX, eD, hF, il, hit, ilen⟩ ⟨rfl, hx⟩
      rw [List.length_map, hA.len] at hj
      rw [List.getElem?_map] at hx
      obtain ⟨q1, eq1, rfl⟩ := Option.map_eq_some_iff.mp hx
      obtain ⟨q2, S, eq2, eS, hq⟩ := qget hj
      rw [eq1] at eq2
      cases eq2
      have eqX := hq (f5.trans fX)
      obtain ⟨g1, g2, g3, g4⟩ := Gfl j S eS
      have gz : (G.take j).flatten.length = 0 ∨ 1 ≤ j := by
        rcases Nat.eq_zero_or_pos j with z | z
        · subst z; exact .inl rfl
        · exact .inr z
      have Sne := Gne S (List.mem_of_getElem? eS)
      have S0 := List.length_pos_iff.mpr Sne
      have rS : ∀ x ∈ S, 0 ≤ x ∧ x < 12 := fun x hx => rP x (Gset.inP eS x hx)
      have nS := Gset.nodS eS
      refine ⟨rfl, yes ⟨_, rfl, q1, S, rfl, SqL.of eqX, S0, fun mn mm mle => ?_⟩⟩
      have wl := hF.len
      rw [List.length_map] at wl
      have olen : (es ++ (ownT G g (pup G.length G.length) ++ (its.map (·.e)).flatten)).length = es.length + ((ownT G g (pup G.length G.length)).length + (its.map (·.e)).flatten.length) := by rw [List.length_append, List.length_append]
      refine ⟨_, rfl, _, rfl, _, rfl, _, rfl, L, q1, W, Z, S, wd, _, _, _, rfl, hWX, by omega, eqX, qsn q1 (List.mem_of_getElem? eq1), nS, rS, Sne, by omega, by rw [olen]; omega, fun v HY fs y fY hWY fl fin fnd dr => ?_⟩
      refine ⟨by show 2 ≤ sizeLine; decide, fun t nt => ?_⟩
      have st := same_new (o := .tup [.int mn, v]) nt
      have eDt := st _ _ (fY _ _ D1 D2 D3 eD)
      have tp := tst_put (o := .lst (xs ++ [.ref t])) eDt
      have tXY := hWX.tst fY
      have tall := (tXY.trans (Same.tst st)).trans tp
      refine ⟨xs, eDt, sz' (by omega), xs ++ [.ref t], its ++ [⟨v, srtP S, y, fs⟩], ((fX.trans fY).trans (F3.same st)).putN nD, ?_, upd_same, ?_, by rw [List.length_append, il]; rfl, fun i it e => ?_, ?_⟩
      · have hWt := (hWY.same st).putN (o := .lst (xs ++ [.ref t])) D1 D2 D3 eDt
        rw [List.map_append, List.map_append, List.flatten_append]
        show Wld _ L W Z _ (es ++ (ownT G g (pup G.length G.length) ++ ((its.map (·.e)).flatten ++ [fs].flatten))) (wy * ow * fc G.length * prodI (its.map (·.y) ++ [y]))
        rw [prodI_snoc, List.flatten_cons, List.flatten_nil, List.append_nil, ← List.append_assoc (ownT G g (pup G.length G.length)), ← List.append_assoc es, ← Int.mul_assoc]
        exact hWt.mono (by rw [g1]; omega)
      · rw [List.map_append]
        refine All2.app (hF.imp fun _ _ ⟨t', e, h⟩ => ⟨t', e, tall _ _ h⟩) ⟨⟨t, rfl, ?_⟩, trivial⟩
        show _ = some (HO.tup [.int ((srtP S).headD 0), v])
        rw [head_min nS rS mm mle]
        exact tp _ _ upd_same
      · rcases Nat.lt_or_ge i its.length with z | z
        · rw [List.getElem?_append_left z] at e
          obtain ⟨S', a, b, c', d, dr'⟩ := hit i it e
          exact ⟨S', a, b, c', d, dr'.mono tall⟩
        · rw [List.getElem?_append_right z] at e
          have i0 : i = its.length := by
            have := (List.getElem?_eq_some_iff.mp e).1
            rw [List.length_singleton] at this; omega
          subst i0
          rw [Nat.sub_self] at e
          cases e
          refine ⟨S, by rw [il]; exact eS, srtP_perm nS rS, fin, fnd, dr.mono ((Same.tst st).trans tp)⟩
      · rw [List.map_append, List.flatten_append, List.length_append]
        show _ + ([fs].flatten).length + _ ≤ _
        rw [List.flatten_cons, List.flatten_nil, List.append_nil, g1]
        have : 5200 * (S.length - 1) + 5200 = 5200 * S.length := by omega
        omega
    rintro H6 ⟨xs, its, f6, hW6, eD, hF, il, hit, ilen⟩
    rw [List.length_map, hA.len] at hW6 il ilen
    rw [List.take_length] at hW6 ilen
    have pl := Gp.length_eq
    have hd0 : ((its.map fun it => (it.I.headD 0, it.v)).map (·.1)).Nodup := by
      rw [List.map_map, List.nodup_iff_pairwise_ne, List.pairwise_map, List.pairwise_iff_getElem]
      intro i j hi hj ij e
      obtain ⟨S, eS, pS, _, _, d1⟩ := hit i _ (List.getElem?_eq_getElem hi)
      obtain ⟨S', eS', pS', _, _, d2⟩ := hit j _ (List.getElem?_eq_getElem hj)
      have h1 := pS.mem_iff.mp (hd_mem d1.rise.2)
      have h2 := pS'.mem_iff.mp (hd_mem d2.rise.2)
      have e' : (its[i]).I.headD 0 = (its[j]).I.headD 0 := e
      rw [← e'] at h2
      have := Gset.uniq eS eS' h1 h2
      omega
    refine ⟨_, rfl, _, rfl, D, xs, _, rfl, SqL.of eD, hF, hd0, fun ys p cs pm srt hys np => ⟨p, rfl, ⟨_, SqL.of upd_same⟩, fun E nE => ?_⟩⟩
    obtain ⟨its', pm', rfl⟩ := perm_map_lift pm rfl
    have sp := same_new (o := .lst ys) np
    have epp := upd_same (H := H6) (a := p) (o := .lst ys)
    replace hys := All2.imp (S := FstV (upd H6 p (.lst ys))) (fun _ _ (⟨t', e, h⟩ : FstV H6 _ _) => ⟨t', e, sp _ _ h⟩) hys
    generalize upd H6 p (.lst ys) = H7 at sp epp hys nE ⊢
    have yl := hys.len
    rw [List.length_map, pm'.length_eq, il] at yl
    refine wk (walk_list (K := K) (a := p) (xs := ys)) (fun j HX => Same H7 HX ∧ HX E = some (.lst ((its'.take j).map (·.v)))) ⟨same_new nE, upd_same⟩ ?_ ?_ ?_
    · rintro j HX _ ⟨sX, _⟩
      exact SqL.of (sX _ _ epp)
    · rintro j x HX0 HX hj ⟨sX, eE⟩ ⟨rfl, hx⟩
      obtain ⟨b, eb, t, rfl, et⟩ := hys.at hx
      rw [List.getElem?_map] at eb
      obtain ⟨it, eit, rfl⟩ := Option.map_eq_some_iff.mp eb
      refine ⟨t, _, rfl, SqT.of (sX _ _ et), rfl, _, _, rfl, _, _, rfl, rfl, rfl, yes ⟨_, rfl, _, eE, sz' (by rw [List.length_map, List.length_take]; omega), Same.put sX nE, ?_⟩⟩
      rw [upd_same, List.take_add_one, eit, List.map_append]; rfl
    rintro H8 ⟨s8, eE⟩
    have il' : its'.length = ys.length := by rw [pm'.length_eq, il, yl]
    rw [← il', List.take_length] at eE
    refine ⟨E, _, rfl, .inl ⟨SqL.of eE, fun u nu => ?_⟩⟩
    have su := same_new (o := .tup (its'.map (·.v))) nu
    refine ⟨by show 2 ≤ sizeLine; decide, fun r nr => ?_⟩
    have sr := same_new (o := .tup [.str wd, .ref u]) nr
    have s68 := (sp.trans s8).trans (su.trans sr)
    have io : ItsOk G its := ⟨fun i it e => by
      obtain ⟨S, a, b, c', d, _⟩ := hit i it e
      exact ⟨S, a, b, c', d⟩⟩
    have fin : DrX (allE G g its) (upd (upd H8 u (.tup (its'.map (·.v)))) r (.tup [.str wd, .ref u])) (m + 1 + 1) (.ref r) (srtP P) (ow * fc G.length * prodI (its.map (·.y))) ab := by
      refine drawn_node (us := its'.map (·.v)) (w := wd) (q := u) Gset rP k2 io il (fun it hi' => ?_) pm' ?_ rfl upd_same (sr _ _ upd_same) ?_
      · obtain ⟨i, ei⟩ := List.getElem?_of_mem hi'
        obtain ⟨_, _, _, _, _, dr⟩ := hit i it ei
        exact dr.mono (Same.tst s68)
      · rw [List.pairwise_map] at srt ⊢
        exact srt
      · rcases hk with ⟨hw, a, rfl, b⟩ | ⟨hw, a, rfl, b⟩ | ⟨hw, sh, hs, a, rfl, b⟩
        · refine .inl ⟨hw, a, ?_, fun i j _ _ => ?_⟩
          · show 1 * (if wd = "all" then factN G.length else 1) = _
            rw [if_pos hw, Int.one_mul]
          · show (decide (wd = "all") || _) = true
            rw [decide_eq_true hw]; rfl
        · have nw : ¬ wd = "all" := fun z => absurd (hw.symm.trans z) (by decide)
          refine .inr (.inl ⟨hw, a, ?_, fun i j _ _ => ?_⟩)
          · show 1 * (if wd = "all" then factN G.length else 1) = _
            rw [if_neg nw]; rfl
          · show (decide (wd = "all") || decide ((i, j) ∈ sl)) = false
            rw [decide_eq_false nw, b]; rfl
        · have nw : ¬ wd = "all" := fun z => absurd (hw.symm.trans z) (by decide)
          refine .inr (.inr ⟨hw, sh, hs, a, ?_, fun i j ij _ => ?_⟩)
          · show sh.2.2 * (if wd = "all" then factN G.length else 1) = _
            rw [if_neg nw, Int.mul_one]
          · show (decide (wd = "all") || decide ((i, j) ∈ sl)) = (decide ((i, j) ∈ sh.2.1) || decide ((j, i) ∈ sh.2.1))
            have nb : decide ((j, i) ∈ sh.2.1) = false := decide_eq_false fun z => by
              have := ((shape_k sh hs).2.2 _ z).1
              dsimp only at this; omega
            rw [decide_eq_false nw, b, nb, Bool.or_false, Bool.false_or]
    have flen : (allE G g its).length ≤ 5200 * (P.length - 1) := by
      unfold allE
      rw [List.length_append]
      have : 5200 * (P.length - 1) + 5200 = 5200 * P.length := by omega
      omega
    refine q (.ref r) _ (allE G g its) _ ((((f4.trans f5).trans f6).trans (F3.same s68))) ?_ flen (allE_in Gset io) (allE_nodup Gset io) fin
    have := (hW6.same s68).mono (d := c + 20 * ((P.length : Int) - 1)) (by rw [pl]; omega)
    rw [Int.mul_assoc wy, Int.mul_assoc wy] at this
    exact this
end
end My

set_option Elab.async false
set_option linter.all false
set_option maxRecDepth 100000
set_option pp.maxSteps 400
set_option maxHeartbeats 4000000
namespace My
open PySem PySem.Spec PyProof.Rows L2 GxR
theorem twelve : ∀ r : Nat, r < 12 → ([V.int 1, V.int 2, V.int 3, V.int 4, V.int 5, V.int 6, V.int 7, V.int 8, V.int 9, V.int 10, V.int 11, V.int 12] : List V)[r]? = some (V.int ((r + 1 : Nat) : Int)) := by
  intro r h
  rcases r with _ | _ | _ | _ | _ | _ | _ | _ | _ | _ | _ | _ | r <;> first | rfl | omega
theorem srtP_up {n : Nat} {ns : List Int} (hn : n ≤ 12) (pm : ns.Perm (up n)) : srtP ns = up n := by
  have r : ∀ x ∈ ns, 0 ≤ x ∧ x < 12 := fun x hx => by
    have := mem_up.mp (pm.mem_iff.mp hx); omega
  exact rise_ext (srtP_rise ns) (ris_up n).1 fun x => by rw [(srtP_perm (pm.nodup_iff.mpr (up_nodup n)) r).mem_iff, pm.mem_iff]
section
variable {P : Program} {w : World} {K : PySem.W.Frag} {mg : Str → Option Value} {base : Heap}
theorem ok_drawn {f : Addr} {fd : FuncData} (B : Bts mg) (F : Fun K "_law_drawn" "_law_drawn" s__law_drawn f fd) (hm : mg "_law_drawn" = some (.ref f)) (hb : Binds K fd ["_law_left_here", "_law_places", "_law_above", "_law_world"] []) (c__law_pick : Cl P w K mg base 2 "_law_pick" sp_pick) (c__law_shape : Cl P w K mg base 3 "_law_shape" sp_lshape) (c__law_shares : Cl P w K mg base 3 "_law_shares" sp_shares) :
    ∀ m, FnOk P w K mg base CX0 (m + 4) f fd ["_law_left_here", "_law_places", "_law_above", "_law_world"] (sp_drawn m)
  | 0 => ⟨fun vs H Q E h => h.elim, fun _ _ _ _ _ _ _ _ _ _ _ _ _ h => h.elim⟩
  | m + 1 => ok_drawn1 B F c__law_pick c__law_shape c__law_shares (Cl.mk' F hm hb (ok_drawn B F hm hb c__law_pick c__law_shape c__law_shares m))
/-! ### _law_drawn_web -/
abbrev s__law_drawn_web : Stmt := topS 29
abbrev N__law_drawn_web : List Str := ["_law_left_here", "_law_many", "_law_world", "_law_tree"]
theorem sc__law_drawn_web : FnScope N__law_drawn_web ["_law_left_here"] (defScope s__law_drawn_web) := ⟨rfl, rfl, rfl, by decide +kernel, rfl, by decide +kernel, by decide +kernel⟩
def sp_dweb : Sp := fun vs H Q _ => ∃ (L : Addr) (c : Int), vs = [.ref L] ∧ Lf H L c ∧ c < 2 ^ 45 ∧
  ∀ (p : Addr) (u v : V) (n : Nat) (ts : List Ar) (wy : Int) (H' : Hp), Fr L H H' → Lf H' L (c + 1000) → H' p = some (.tup [u, v, .int wy]) → Web H' u n ts → WOk n ts → 1 ≤ n → n ≤ 12 → DrX ts H' 12 v (up n) wy "" → Q (.ref p) H'
theorem ok_dweb {f : Addr} {fd : FuncData} (B : Bts mg) (F : Fun K "_law_drawn_web" "_law_drawn_web" s__law_drawn_web f fd) (c__law_pick : Cl P w K mg base 2 "_law_pick" sp_pick) (c__law_row : Cl P w K mg base 3 "_law_row" sp_row) (c__law_drawn : Cl P w K mg base 16 "_law_drawn" (sp_drawn 12)) :
    FnOk P w K mg base CX0 17 f fd ["_law_left_here"] sp_dweb := by
  refine F.ok sc__law_drawn_web (fun vs H Q E h => ?_) (fun cdv A outer s H vs Q E hr h => ?_)
  · obtain ⟨L, c, rfl, _⟩ := h; rfl
  · obtain ⟨L, c, rfl, hL, hc, q⟩ := h
    refine ⟨_, (pss_cons (ps_set (i := 1) sc__law_drawn_web.nd rfl (by first | exact Or.inl rfl | exact Or.inr rfl) (pe_ix ix_list (pe_lst (pa_cons pe_int (pa_cons pe_int (pa_cons pe_int (pa_cons pe_int (pa_cons pe_int (pa_cons pe_int (pa_cons pe_int (pa_cons pe_int (pa_cons pe_int (pa_cons pe_int (pa_cons pe_int (pa_cons pe_int pa_nil))))))))))))) (pe_c c__law_pick hr (by decide) (by rfl) (pa_cons (pv 0) (pa_cons pe_int pa_nil))) (fun _ _ => rfl)))
    (pss_cons (ps_set (i := 2) sc__law_drawn_web.nd rfl (by first | exact Or.inl rfl | exact Or.inr rfl) (pe_lst (pa_cons (pe_lst pa_nil) (pa_cons pe_int pa_nil))))
    (pss_cons (ps_set (i := 3) sc__law_drawn_web.nd rfl (by first | exact Or.inl rfl | exact Or.inr rfl) (pe_c c__law_drawn hr (by decide) (by rfl) (pa_cons (pv 0) (pa_cons (pe_c c__law_row hr (by decide) (by rfl) (pa_cons (pv 0) (pa_cons (pv 1) pa_nil))) (pa_cons pe_str (pa_cons (pv 2) pa_nil))))))
    (pss_one (ps_ret (pe_tup (pa_cons (pe_tup (pa_cons (pv 1) (pa_cons (pe_callTy call_tuple_of (by rfl) B.tuple (by decide +kernel) (pa_cons (pe_callB cr_sortedPO (by rfl) B.sorted (by decide +kernel) (pa_cons (pe_ix ix_list (pv 2) pe_int (fun _ _ => rfl)) pa_nil)) pa_nil)) pa_nil))) (pa_cons (pv 3) (pa_cons (pe_ix ix_list (pv 2) pe_int (fun _ _ => rfl)) pa_nil))))))))), ?_⟩
    refine ⟨by show 12 ≤ sizeLine; decide, fun l nl => ?_⟩
    have sl := same_new (o := .lst [V.int 1, V.int 2, V.int 3, V.int 4, V.int 5, V.int 6, V.int 7, V.int 8, V.int 9, V.int 10, V.int 11, V.int 12]) nl
    have el := upd_same (H := H) (a := l) (o := .lst [V.int 1, V.int 2, V.int 3, V.int 4, V.int 5, V.int 6, V.int 7, V.int 8, V.int 9, V.int 10, V.int 11, V.int 12])
    have lL := hL.ne nl
    have hL1 := hL.same sl
    generalize upd H l (.lst [V.int 1, V.int 2, V.int 3, V.int 4, V.int 5, V.int 6, V.int 7, V.int 8, V.int 9, V.int 10, V.int 11, V.int 12]) = H1 at sl el hL1 ⊢
    refine ⟨_, rfl, L, _, c, rfl, hL1, by decide, by decide, by omega, fun r H2 r0 r1 fr2 lf2 => ?_⟩
    obtain ⟨r, rfl⟩ := natOf r0
    have r12 : r < 12 := by omega
    refine ⟨l, _, (r : Int), .int ((r + 1 : Nat) : Int), rfl, rfl, SqL.of (fr2 _ _ lL el), atI_nat (twelve r r12), ?_⟩
    have f2 : Fr L H H2 := (Fr.of sl).trans fr2
    refine ⟨Nat.zero_le _, fun Z nZ => ⟨by show 2 ≤ sizeLine; decide, fun W nW => ?_⟩⟩
    have sZ := same_new (o := .lst []) nZ
    have eZ := upd_same (H := H2) (a := Z) (o := .lst [])
    have ZL := lf2.ne nZ
    have lfZ := lf2.same sZ
    have n0Z := Lf.free f2 lf2 nZ
    generalize upd H2 Z (.lst []) = H3 at sZ eZ lfZ nW ⊢
    have sW := same_new (o := .lst [.ref Z, .int 1]) nW
    have eW := upd_same (H := H3) (a := W) (o := .lst [.ref Z, .int 1])
    have WL := lfZ.ne nW
    have WZ : W ≠ Z := fun z => by rw [z, eZ] at nW; cases nW
    have lfW := lfZ.same sW
    have n0W := Lf.free f2 lf2 (same_free sZ nW)
    have eZW := sW _ _ eZ
    generalize upd H3 W (.lst [.ref Z, .int 1]) = H4 at sW eW lfW eZW ⊢
    have f4 : Fr L H H4 := f2.trans (Fr.of (sZ.trans sW))
    -- the row
    refine ⟨_, rfl, _, rfl, _, rfl, L, r + 1, c + 1, rfl, lfW, by omega, by omega, fun pr ns H5 npr fr5 lf5 epr pm => ?_⟩
    have ZL5 := fr5 _ _ ZL eZW
    have WL5 := fr5 _ _ WL eW
    have prL := lfW.ne npr
    have prW : pr ≠ W := fun z => by rw [z, eW] at npr; cases npr
    have prZ : pr ≠ Z := fun z => by rw [z, eZW] at npr; cases npr
    have nl := pm.length_eq
    rw [up_len] at nl
    have rn : ∀ x ∈ ns, 0 ≤ x ∧ x < ((r + 1 : Nat) : Int) := fun x hx => mem_up.mp (pm.mem_iff.mp hx)
    refine ⟨_, rfl, L, pr, W, Z, ns, "", _, [], 1, rfl, ⟨lf5, WL5, ⟨[], ZL5, by exact trivial⟩, Ne.symm WL, WZ, Ne.symm ZL⟩, by omega, epr, ⟨prL, prW, prZ⟩, pm.nodup_iff.mpr (up_nodup _), (fun x hx => by have := rn x hx; omega), (fun z => by rw [z] at nl; cases nl), by show ns.length ≤ 12; omega, by show 0 + 6000 * ns.length ≤ 100000; omega, fun v H6 fs wy f6 hW6 fl fin fnd dr => ?_⟩
    rw [List.nil_append] at hW6
    obtain ⟨zs, eZ6, hzs⟩ := hW6.zl
    -- the web
    refine ⟨_, rfl, _, rfl, W, _, 0, .ref Z, rfl, rfl, SqL.of hW6.wd, atI_nat (j := 0) rfl, Z, zs, key H6, rfl, SqL.of eZ6, hzs.all, fun ys p hs hb np => ?_⟩
    obtain ⟨ts, h1, h2, h3⟩ := srt_ties hs hb.perm hzs
    have sp := same_new (o := .lst ys) np
    refine ⟨p, ys, rfl, .inl ⟨SqL.of upd_same, fun T nT => ?_⟩⟩
    have sT := same_new (o := .tup ys) nT
    refine ⟨by show 2 ≤ sizeLine; decide, fun u nu => ?_⟩
    have su := same_new (o := .tup [.int ((r + 1 : Nat) : Int), .ref T]) nu
    have s9 := (sp.trans sT).trans su
    have hW9 := hW6.same s9
    refine ⟨_, rfl, _, rfl, W, _, 1, .int (1 * wy), rfl, rfl, SqL.of hW9.wd, atI_nat (j := 1) rfl, by show 3 ≤ sizeLine; decide, fun pp npp => ?_⟩
    have spp := same_new (o := .tup [.ref u, v, .int (1 * wy)]) npp
    have nts : ts.Nodup := h2.nodup_iff.mpr fnd
    have hO : WOk (r + 1) ts := ⟨pw_lt h3 nts, fun t ht => by
      have := fin t (h2.mem_iff.mp ht)
      have a := rn _ this.1
      have b := rn _ this.2.1
      exact ⟨a.1, this.2.2, b.2⟩⟩
    have f9 : Fr L H (upd (upd (upd (upd H6 p (.lst ys)) T (.tup ys)) u (.tup [.int ((r + 1 : Nat) : Int), .ref T])) pp (.tup [.ref u, v, .int (1 * wy)])) := by
      have f5 : Fr L H H5 := f4.trans fr5
      have f6' : Fr L H H6 := fun b o n e => f6 b o n (fun z => by rw [z, n0W] at e; cases e) (fun z => by rw [z, n0Z] at e; cases e) (f5 b o n e)
      exact f6'.trans (Fr.of (s9.trans spp))
    refine q pp (.ref u) v (r + 1) ts (1 * wy) _ f9 ((hW9.lf.same spp).mono (by omega)) upd_same ?_ hO (by omega) (by omega) ?_
    · exact ⟨u, T, ys, rfl, spp _ _ upd_same, spp _ _ (su _ _ upd_same), h1.mono (Same.tst (s9.trans spp))⟩
    · have key : ∀ HX : Hp, Same H6 HX → DrX ts HX 12 v (up (r + 1)) (1 * wy) "" := fun HX sX => by
        rw [Int.one_mul, ← srtP_up (by omega) pm]
        refine (dr.mono (Same.tst sX)).cong fun x _ y _ => ?_
        unfold adjB
        exact decide_eq_decide.mpr h2.symm.mem_iff
      exact key _ (s9.trans spp)
end
end My

set_option Elab.async false
set_option linter.all false
set_option maxRecDepth 100000
namespace My
open PySem PySem.Spec PyProof.Rows L2 GxR
/-! a tree as a text -/
theorem listText_lenT (l : List Str) : (listText l).length ≤ piled l + 2 := by
  rw [listText_eq_join, strLen_append, strLen_append]
  have e1 : ((("[" : String) : Str)).length = 1 := rfl
  have e3 : ((("]" : String) : Str)).length = 1 := rfl
  rw [e1, e3]
  by_cases h : l = []
  · subst h
    have : (Str.join ", " []).length = 0 := rfl
    omega
  · have := join_length_add l h
    omega
structure ShT (d : PyData) (m k : Nat) : Prop where
  sh : d.showable = true
  hd : d.hasDict = false
  dp : d.depth ≤ 2 * m
  ln : d.shown.length + 40 ≤ 80 * k
theorem word_len : (reprText ("place" : Str)).length ≤ 7 ∧ (reprText ("all" : Str)).length ≤ 7 ∧ (reprText ("apart" : Str)).length ≤ 7 ∧ (reprText ("close" : Str)).length ≤ 7 := by decide +kernel
theorem trX_show {K : PySem.W.Frag} {ts : List Ar} {H : Hp} : ∀ {m : Nat} {v : V} {I : List Int}, TrX ts H m v I → (∀ x ∈ I, 0 ≤ x ∧ x < 100) → ∃ d, (∀ H' : Hp, Tst H H' → Dp K H' v d) ∧ ShT d m I.length
  | 0, _, _, h, _ => h.elim
  | m + 1, v, I, h, r => by
    rcases h with ⟨p, i, rfl, a, rfl⟩ | ⟨p, q, w, vs, Is, rfl, a, ⟨rise, l2⟩, kd, c, d⟩
    · have hi := r i (List.mem_singleton.mpr rfl)
      refine ⟨.tuple [.str "place", .int i], fun H' t => .tup (SqT.of (t _ _ a)) (.cons (.str _) (.cons (.int _) .nil)), ?_, rfl, by show 1 ≤ _; omega, ?_⟩
      · simp only [PyData.showable, PyData.showableAll, log_small hi.1 hi.2]; rfl
      · simp only [PyData.shown, PyData.shownAll]
        have h0 := tupleText_len [reprText ("place" : Str), ((toString i : String) : Str)]
        rw [piled_cons, piled_cons, piled_nil] at h0
        have h1 := txt_len hi.1 hi.2
        have h2 := word_len.1
        show _ + 40 ≤ 80 * 1
        omega
    · have pt := kd.part rise l2
      have key : ∀ (vs : List V) (Is : List (List Int)), All2 (TrX ts H m) vs Is → (∀ S ∈ Is, ∀ x ∈ S, 0 ≤ x ∧ x < 100) → ∃ ds, (∀ H' : Hp, Tst H H' → DpAll K H' vs ds) ∧ PyData.showableAll ds = true ∧ PyData.hasDictAll ds = false ∧ PyData.depthAll ds ≤ 2 * m ∧ piled (PyData.shownAll ds) + 38 * Is.length ≤ 80 * Is.flatten.length := fun vs => by
        induction vs with
        | nil =>
          intro Is h _
          cases Is with
          | nil => exact ⟨[], fun _ _ => .nil, rfl, rfl, Nat.zero_le _, Nat.le_refl _⟩
          | cons S Is => exact h.elim
        | cons v vs ih =>
          intro Is h rr
          cases Is with
          | nil => exact h.elim
          | cons J Is =>
            obtain ⟨d, d1, d2⟩ := trX_show (K := K) h.1 (rr J List.mem_cons_self)
            obtain ⟨ds, e1, e2, e3, e4, e5⟩ := ih Is h.2 fun S hS => rr S (List.mem_cons_of_mem _ hS)
            refine ⟨d :: ds, fun H' t => .cons (d1 H' t) (e1 H' t), by rw [PyData.showableAll, d2.sh, e2]; rfl, by rw [PyData.hasDictAll, d2.hd, e3]; rfl, by have := d2.dp; rw [PyData.depthAll]; omega, ?_⟩
            have := d2.ln
            rw [PyData.shownAll, piled_cons, List.length_cons, List.flatten_cons, List.length_append]
            omega
      obtain ⟨ds, e1, e2, e3, e4, e5⟩ := key vs Is d fun S hS x hx => r x (pt.mem hS x hx)
      have fl := pt.perm.length_eq
      have two := pt.two
      refine ⟨.tuple [.str w, .tuple ds], fun H' t => .tup (SqT.of (t _ _ a)) (.cons (.str _) (.cons (.tup (SqT.of (t _ _ c)) (e1 H' t)) .nil)), ?_, ?_, ?_, ?_⟩
      · simp only [PyData.showable, PyData.showableAll, e2]; rfl
      · simp only [PyData.hasDict, PyData.hasDictAll, e3]; rfl
      · simp only [PyData.depth, PyData.depthAll]; omega
      · simp only [PyData.shown, PyData.shownAll]
        have h0 := tupleText_len [reprText w, tupleText (PyData.shownAll ds)]
        rw [piled_cons, piled_cons, piled_nil] at h0
        have h1 := tupleText_len (PyData.shownAll ds)
        have h2 : (reprText w).length ≤ 7 := by
          rcases kd with ⟨rfl, _⟩ | ⟨rfl, _⟩ | ⟨rfl, _⟩
          · exact word_len.2.2.1
          · exact word_len.2.1
          · exact word_len.2.2.2
        omega
/-- a web and its tree, shown -/
theorem wt_show {K : PySem.W.Frag} {ts : List Ar} {H : Hp} {m n : Nat} {u v : V} {I : List Int} (hWeb : Web H u n ts) (hW : WOk n ts) (hn : n ≤ 12) (tl : ts.length ≤ 10000) (h : TrX ts H m v I) (mm : m ≤ 20) (r : ∀ x ∈ I, 0 ≤ x ∧ x < 100) (il : I.length ≤ 100) :
    ∃ d, (∀ (H' : Hp) (l : Addr), Tst H H' → H' l = some (.lst [u, v]) → Dp K H' (.ref l) d) ∧ d.showable = true ∧ d.hasDict = false ∧ d.depth ≤ 50 ∧ d.shown.length ≤ sizeLine := by
  obtain ⟨dt, h1, h2⟩ := trX_show (K := K) h r
  obtain ⟨w1, w2, w3, w4⟩ := web_show hW hn tl
  have wl : (dW n ts).shown.length ≤ 200000 := by
    have hR : ∀ t ∈ ts, InR n t := fun t ht => by
      have := hW.2 t ht
      exact ⟨this.1, by omega, by omega, this.2.2⟩
    have s3 := shown_ties (n := n) (by omega) hR
    unfold dW
    rw [PyData.shown, PyData.shownAll, PyData.shownAll, PyData.shownAll, PyData.shown, PyData.shown]
    have h1 := tupleText_len [((toString (n : Int) : String) : Str), tupleText (PyData.shownAll (ts.map dT))]
    rw [piled_cons, piled_cons, piled_nil] at h1
    have h2 := tupleText_len (PyData.shownAll (ts.map dT))
    have h3 := txt_len (i := (n : Int)) (by omega) (by omega)
    omega
  refine ⟨.list [dW n ts, dt], fun H' l t e => .lst (SqL.of e) (.cons ((hWeb.mono t).dp) (.cons (h1 H' t) .nil)), ?_, ?_, ?_, ?_⟩
  · simp only [PyData.showable, PyData.showableAll, w1, h2.sh]; rfl
  · simp only [PyData.hasDict, PyData.hasDictAll, w2, h2.hd]; rfl
  · have a := h2.dp
    have b : (dW n ts).depth ≤ 10 := by
      have s4 := dep_ties ts
      unfold dW
      rw [PyData.depth, PyData.depthAll, PyData.depthAll, PyData.depthAll, PyData.depth, PyData.depth]
      omega
    simp only [PyData.depth, PyData.depthAll]; omega
  · have a := h2.ln
    simp only [PyData.shown, PyData.shownAll]
    have h0 := listText_lenT [(dW n ts).shown, dt.shown]
    rw [piled_cons, piled_cons, piled_nil] at h0
    have h4 : 300000 ≤ sizeLine := by decide
    omega
theorem TrR.up {ts : List (Int × Int)} {H : Hp} : ∀ {m : Nat} {v : V} {I : List Int}, TrR ts H m v I → TrR ts H (m + 1) v I
  | 0, _, _, h => h.elim
  | m + 1, v, I, h => by
    rcases h with ⟨p, i, e, a, b⟩ | ⟨p, q, w, vs, Is, e, a, b, c, d, f⟩
    · exact .inl ⟨p, i, e, a, b⟩
    · exact .inr ⟨p, q, w, vs, Is, e, a, b, c, d.imp fun _ _ h => TrR.up h, f⟩
theorem TrR.ups {ts : List (Int × Int)} {H : Hp} {m : Nat} {v : V} {I : List Int} (h : TrR ts H m v I) : ∀ {k : Nat}, m ≤ k → TrR ts H k v I := fun {k} hk => by
  obtain ⟨d, rfl⟩ : ∃ d, k = m + d := ⟨k - m, by omega⟩
  clear hk
  induction d with
  | zero => exact h
  | succ d ih => exact ih.up
end My

set_option Elab.async false
set_option linter.all false
set_option maxRecDepth 100000
namespace My
open PySem PySem.Spec PyProof.Rows L2 GxR

/-! ### other numbers -/
def nAt (ns : List Int) (i : Int) : Int := ns.getD i.toNat 0
structure Nums (n : Nat) (f : Int → Int) : Prop where
  rng : ∀ a, 0 ≤ a → a < (n : Int) → 0 ≤ f a ∧ f a < (n : Int)
  inj : ∀ a b, 0 ≤ a → a < (n : Int) → 0 ≤ b → b < (n : Int) → f a = f b → a = b
  sur : ∀ c, 0 ≤ c → c < (n : Int) → ∃ a, 0 ≤ a ∧ a < (n : Int) ∧ f a = c
theorem perm_len {n : Nat} {ns : List Int} (h : ns.Perm (up n)) : ns.length = n := by rw [h.length_eq, up_len]
theorem nAt_get {ns : List Int} {i : Int} (h0 : 0 ≤ i) (h : i < (ns.length : Int)) : ns[i.toNat]? = some (nAt ns i) := by
  have hl : i.toNat < ns.length := by omega
  unfold nAt
  rw [List.getD_eq_getElem?_getD, List.getElem?_eq_getElem hl]; rfl
theorem at_nAt {ns : List Int} {i : Int} (h0 : 0 ≤ i) (h : i < (ns.length : Int)) : atI (ns.map V.int) i = some (.int (nAt ns i)) := by
  have : (ns.map V.int)[i.toNat]? = some (.int (nAt ns i)) := by rw [List.getElem?_map, nAt_get h0 h]; rfl
  have g2 := atI_nat this
  rwa [Int.toNat_of_nonneg h0] at g2
theorem nums {n : Nat} {ns : List Int} (h : ns.Perm (up n)) : Nums n (nAt ns) := by
  have hl := perm_len h
  have nd : ns.Nodup := h.nodup_iff.mpr (up_nodup n)
  refine ⟨fun a h0 h1 => ?_, fun a b a0 a1 b0 b1 e => ?_, fun c c0 c1 => ?_⟩
  · exact mem_up.mp (h.mem_iff.mp (List.mem_of_getElem? (nAt_get h0 (by omega))))
  · have e1 := idx_of nd (nAt_get a0 (by omega : a < (ns.length : Int)))
    have e2 := idx_of nd (nAt_get b0 (by omega : b < (ns.length : Int)))
    rw [e] at e1
    omega
  · have hm : c ∈ ns := h.mem_iff.mpr (mem_up.mpr ⟨c0, c1⟩)
    have g := idx_get hm
    have hi := List.idxOf_lt_length_of_mem hm
    refine ⟨(ns.idxOf c : Int), by omega, by omega, ?_⟩
    have g2 := nAt_get (ns := ns) (i := (ns.idxOf c : Int)) (by omega) (by omega)
    rw [Int.toNat_natCast, g] at g2
    exact (Option.some.inj g2).symm
theorem tieO_comm (a b : Int) : tieO a b = tieO b a := by
  unfold tieO
  by_cases h : a < b
  · rw [if_pos h, if_neg (by omega)]
  · by_cases k : b < a
    · rw [if_neg h, if_pos k]
    · have : a = b := by omega
      rw [this]
theorem tieO_lt {a b : Int} (h : a < b) : tieO a b = (a, b) := if_pos h
theorem tieO_eq {a b c d : Int} (h : tieO a b = tieO c d) : (a = c ∧ b = d) ∨ (a = d ∧ b = c) := by
  unfold tieO at h
  split at h <;> split at h <;> injection h <;> omega
theorem tieO_self {t : Int × Int} (h : t.1 < t.2) : tieO t.1 t.2 = t := tieO_lt h
def renF (f : Int → Int) (t : Int × Int) : Int × Int := tieO (f t.1) (f t.2)
theorem ren_mem {n : Nat} {f : Int → Int} (hf : Nums n f) {ts rs : List (Int × Int)} (hw : WOk n ts) (hp : rs.Perm (ts.map (renF f))) {a b : Int} (a0 : 0 ≤ a) (a1 : a < (n : Int)) (b0 : 0 ≤ b) (b1 : b < (n : Int)) :
    tieO (f a) (f b) ∈ rs ↔ tieO a b ∈ ts := by
  rw [hp.mem_iff, List.mem_map]
  constructor
  · rintro ⟨s, hs, e⟩
    have b := hw.2 s hs
    rcases tieO_eq e with ⟨e1, e2⟩ | ⟨e1, e2⟩
    · rw [← hf.inj _ _ (by omega) (by omega) a0 a1 e1, ← hf.inj _ _ (by omega) (by omega) b0 b1 e2, tieO_self b.2.1]; exact hs
    · rw [← hf.inj _ _ (by omega) (by omega) b0 b1 e1, ← hf.inj _ _ (by omega) (by omega) a0 a1 e2, tieO_comm, tieO_self b.2.1]; exact hs
  · intro h
    refine ⟨_, h, ?_⟩
    unfold renF tieO
    by_cases c : a < b
    · simp only [c, if_true]
    · simp only [c, if_false]
      exact (tieO_comm (f b) (f a))
theorem ren_nd {n : Nat} {f : Int → Int} (hf : Nums n f) {ts : List (Int × Int)} (hw : WOk n ts) : (ts.map (renF f)).Nodup := by
  rw [List.nodup_iff_pairwise_ne, List.pairwise_map]
  refine hw.1.imp_of_mem fun {s t} hs ht h e => ?_
  have b1 := hw.2 s hs
  have b2 := hw.2 t ht
  have k : s = t := by
    rcases tieO_eq e with ⟨e1, e2⟩ | ⟨e1, e2⟩
    · exact Prod.ext (hf.inj _ _ (by omega) (by omega) (by omega) (by omega) e1) (hf.inj _ _ (by omega) (by omega) (by omega) (by omega) e2)
    · have := hf.inj _ _ (by omega) (by omega) (by omega) (by omega) e1
      have := hf.inj _ _ (by omega) (by omega) (by omega) (by omega) e2
      omega
  subst k
  exact ltT_irr h
theorem ren_rng {n : Nat} {f : Int → Int} (hf : Nums n f) {ts : List (Int × Int)} (hw : WOk n ts) : ∀ t ∈ ts.map (renF f), 0 ≤ t.1 ∧ t.1 < t.2 ∧ t.2 < (n : Int) := by
  intro t ht
  obtain ⟨s, hs, rfl⟩ := List.mem_map.mp ht
  have b := hw.2 s hs
  have r1 := hf.rng s.1 (by omega) (by omega)
  have r2 := hf.rng s.2 (by omega) (by omega)
  have ne : f s.1 ≠ f s.2 := fun e => by
    have := hf.inj _ _ (by omega) (by omega) (by omega) (by omega) e
    omega
  unfold renF tieO
  split <;> dsimp only <;> omega
theorem wok_ext {n : Nat} {xs ys : List (Int × Int)} (hx : WOk n xs) (hy : WOk n ys) (h : ∀ a b, 0 ≤ a → a < (n : Int) → 0 ≤ b → b < (n : Int) → (tieO a b ∈ xs ↔ tieO a b ∈ ys)) : xs = ys := by
  refine pw_eq hx.1 hy.1 fun t => ?_
  constructor
  · intro m
    have b := hx.2 t m
    have := (h t.1 t.2 (by omega) (by omega) (by omega) (by omega)).mp (by rw [tieO_self b.2.1]; exact m)
    rwa [tieO_self b.2.1] at this
  · intro m
    have b := hy.2 t m
    have := (h t.1 t.2 (by omega) (by omega) (by omega) (by omega)).mpr (by rw [tieO_self b.2.1]; exact m)
    rwa [tieO_self b.2.1] at this
theorem wok_extF {n : Nat} {f : Int → Int} (hf : Nums n f) {xs ys : List (Int × Int)} (hx : WOk n xs) (hy : WOk n ys) (h : ∀ a b, 0 ≤ a → a < (n : Int) → 0 ≤ b → b < (n : Int) → (tieO (f a) (f b) ∈ xs ↔ tieO (f a) (f b) ∈ ys)) : xs = ys := by
  refine wok_ext hx hy fun c d c0 c1 d0 d1 => ?_
  obtain ⟨a, a0, a1, rfl⟩ := hf.sur c c0 c1
  obtain ⟨b, b0, b1, rfl⟩ := hf.sur d d0 d1
  exact h a b a0 a1 b0 b1
theorem gaps_mem {n : Nat} {ts : List (Int × Int)} {a b : Int} (a0 : 0 ≤ a) (a1 : a < (n : Int)) (b0 : 0 ≤ b) (b1 : b < (n : Int)) : tieO a b ∈ gapsF ts (pup n n) ↔ a ≠ b ∧ ¬ tieO a b ∈ ts := by
  unfold gapsF
  rw [List.mem_filter, Bool.not_eq_true', decide_eq_false_iff_not, mem_pup (Nat.le_refl n)]
  refine and_congr ?_ Iff.rfl
  unfold tieO
  split <;> dsimp only <;> omega

section
variable {P : Program} {w : World} {K : PySem.W.Frag} {mg : Str → Option Value} {base : Heap}
/-! ### renumbered -/
abbrev s_renumbered : Stmt := topS 8
abbrev N_renumbered : List Str := ["web", "numbers", "many", "ties", "a", "b"]
theorem sc_renumbered : FnScope N_renumbered ["web", "numbers"] (defScope s_renumbered) := ⟨rfl, rfl, rfl, by decide +kernel, rfl, by decide +kernel, by decide +kernel⟩
def sp_ren : Sp := fun vs H Q _ => ∃ (v : V) (n : Nat) (ts : List (Int × Int)) (pa : Addr) (ns : List Int), vs = [v, .ref pa] ∧ Web H v n ts ∧ WOk n ts ∧ ts.length ≤ 10000 ∧ H pa = some (.lst (ns.map V.int)) ∧ ns.Perm (up n) ∧
  ∀ u H' rs, Same H H' → Web H' u n rs → WOk n rs → rs.Perm (ts.map (renF (nAt ns))) → Q u H'
theorem ok_ren {f : Addr} {fd : FuncData} (B : Bts mg) (F : Fun K "renumbered" "renumbered" s_renumbered f fd) (c_tie_of : Cl P w K mg base 1 "tie_of" sp_tie_of) : FnOk P w K mg base CX0 2 f fd ["web", "numbers"] sp_ren := by
  refine F.ok sc_renumbered (fun vs H Q E h => ?_) (fun cdv A outer s H vs Q E hr h => ?_)
  · obtain ⟨v, n, ts, pa, ns, rfl, _⟩ := h; rfl
  · obtain ⟨v, n, ts, pa, ns, rfl, ⟨p, q', us, rfl, ep, eq, hT⟩, hW, hl, epa, hp, q⟩ := h
    refine ⟨_, (pss_cons (ps_asg (pv 0) (pg_tup rfl (pgs_cons (pg_name (i := 2) sc_renumbered.nd rfl (by first | exact Or.inl rfl | exact Or.inr rfl)) (pgs_cons (pg_name (i := 3) sc_renumbered.nd rfl (by first | exact Or.inl rfl | exact Or.inr rfl)) pgs_nil))))
    (pss_one (ps_ret (pe_tup (pa_cons (pv 2) (pa_cons (pe_callTy call_tuple_of (by rfl) B.tuple (by decide +kernel) (pa_cons (pe_callB cr_sortedPO (by rfl) B.sorted (by decide +kernel) (pa_cons (pe_lc (own := [("a", 4), ("b", 5)]) (g := (gTup K 2 (gCons (gName 4) (gCons (gName 5) gNil)))) (tt := tYes) (te := (tCall _ _ _ (tCons (tOp (rIxL K) _ _) (tCons (tOp (rIxL K) _ _) tNil)))) rfl sc_renumbered.nd (pi_tup (pv 3)) (blkOk_by (own := [("a", 4), ("b", 5)]) (N := N_renumbered) (sc := defScope s_renumbered) (by decide +kernel)) (fun _ _ _ _ _ => (pg_tup rfl (pgs_cons (pg_name (i := 4) sc_renumbered.nd rfl (by first | exact Or.inl rfl | exact Or.inr rfl)) (pgs_cons (pg_name (i := 5) sc_renumbered.nd rfl (by first | exact Or.inl rfl | exact Or.inr rfl)) pgs_nil)))) (fun _ _ _ _ _ => pts_nil) (fun _ _ _ _ _ => (pe_c c_tie_of hr (by decide) (by rfl) (pa_cons (pe_ix ix_list (pv 1) (pv 4) (fun _ _ => rfl)) (pa_cons (pe_ix ix_list (pv 1) (pv 5) (fun _ _ => rfl)) pa_nil))))) pa_nil)) pa_nil)) pa_nil)))))), ?_⟩
    refine ⟨_, rfl, p, _, rfl, SqT.of ep, rfl, _, _, rfl, _, _, rfl, rfl, ?_⟩
    refine ⟨_, rfl, _, rfl, q', rfl, ⟨_, SqT.of eq⟩, fun D nD => ?_⟩
    have pl := perm_len hp
    refine wk (walk_tup (K := K) (a := q') (xs := us)) (fun i H1 => ∃ ws, Same H H1 ∧ H1 D = some (.lst ws) ∧ Ties H1 ws ((ts.take i).map (renF (nAt ns)))) ⟨[], same_new nD, upd_same, by exact trivial⟩ ?_ ?_ ?_
    · rintro i H1 _ ⟨_, sm, _⟩
      exact SqT.of (sm _ _ eq)
    · rintro i x H1 H2 hi ⟨ws, sm, eD, hR⟩ ⟨rfl, hx⟩
      obtain ⟨t, et, ht⟩ := hT.at hx
      have hu := hT.len
      obtain ⟨pt, rfl, ept⟩ := ht.mono (Same.tst sm)
      have hb := hW.2 t (List.mem_of_getElem? et)
      have wl := hR.len
      rw [List.length_map, List.length_take] at wl
      refine ⟨pt, _, rfl, SqT.of ept, rfl, _, _, rfl, _, _, rfl, rfl, rfl, yes ?_⟩
      refine ⟨_, rfl, _, rfl, pa, _, _, _, rfl, rfl, SqL.of (sm _ _ epa), at_nAt (by omega) (by omega), ?_⟩
      refine ⟨_, rfl, _, rfl, pa, _, _, _, rfl, rfl, SqL.of (sm _ _ epa), at_nAt (by omega) (by omega), ?_⟩
      refine ⟨_, _, rfl, fun k nk => ?_⟩
      have sk := same_new (o := .tup [.int (renF (nAt ns) t).1, .int (renF (nAt ns) t).2]) nk
      have e3 := sk _ _ eD
      refine ⟨ws, e3, sz' (by omega), ws ++ [.ref k], Same.put (sm.trans sk) nD, upd_same, ?_⟩
      rw [List.take_add_one, et, List.map_append]
      exact Ties.mono (tst_put e3) ((hR.mono (Same.tst sk)).app (Ties.one ⟨k, rfl, upd_same⟩))
    · rintro H1 ⟨ws, sm, eD, hR⟩
      rw [hT.len, List.take_length] at hR
      refine ⟨D, ws, My.key H1, rfl, SqL.of eD, hR.all, fun ys y hs hst np => ?_⟩
      obtain ⟨rs, hT', pm', pw⟩ := srt_ties hs hst.perm hR
      refine ⟨y, ys, rfl, .inl ⟨SqL.of upd_same, fun t nt => ?_⟩⟩
      refine ⟨by show 2 ≤ sizeLine; decide, fun u nu => ?_⟩
      have s9 := ((same_new (H := H1) (o := .lst ys) np).trans (same_new (o := .tup ys) nt)).trans (same_new (o := .tup [.int (n : Int), .ref t]) nu)
      refine q _ _ rs (sm.trans s9) ⟨u, t, ys, rfl, upd_same, ?_, hT'.mono (Same.tst s9)⟩ ⟨pw_lt pw (pm'.nodup_iff.mpr (ren_nd (nums hp) hW)), fun t ht => ren_rng (nums hp) hW t (pm'.mem_iff.mp ht)⟩ pm'
      rw [upd_ne (ne_of_none upd_same nu)]; exact upd_same
end
end My

set_option Elab.async false
set_option linter.all false
set_option maxRecDepth 100000
namespace My
open PySem PySem.Spec PyProof.Rows L2 GxR
/-! ### ties and gaps exchanged -/
def flipW (w : Str) : Str := if w = "all" then "apart" else if w = "apart" then "all" else w
def Opp (ts gs : List Ar) (I : List Int) : Prop := ∀ x ∈ I, ∀ y ∈ I, x ≠ y → adjB gs x y = !adjB ts x y
theorem Opp.symm {ts gs : List Ar} {I : List Int} (g : Opp ts gs I) : Opp gs ts I := fun x hx y hy n => by rw [g x hx y hy n, Bool.not_not]
theorem Opp.sub {ts gs : List Ar} {I J : List Int} (g : Opp ts gs I) (s : ∀ x ∈ J, x ∈ I) : Opp ts gs J := fun x hx y hy n => g x (s x hx) y (s y hy) n
theorem clR_flip {ts gs : List Ar} {I : List Int} {b : Bool} {A : Int → Prop} (g : Opp ts gs I) (h : ClR gs (!b) I A) : ClR ts b I A := fun x hx y hy ax e => by
  by_cases xy : x = y
  · rw [← xy]; exact ax
  · exact h x hx y hy ax (by rw [g x hx y hy xy, e])
theorem SetsI.flip {ts gs : List Ar} {b : Bool} {I : List Int} {F : List (List Int)} (g : Opp ts gs I) (h : SetsI ts b I F) : SetsI gs (!b) I F := by
  have inI : ∀ S ∈ F, ∀ x ∈ S, x ∈ I := fun S hS x hx => h.perm.mem_iff.mp (List.mem_flatten.mpr ⟨S, hS, hx⟩)
  refine ⟨h.perm, h.ne, h.srt, fun S hS x hx y hy e => ?_, fun S hS A cA x hx ax y hy => h.con S hS A (clR_flip g cA) x hx ax y hy, h.ord⟩
  by_cases xy : x = y
  · rw [← xy]; exact hx
  · rw [g x (inI S hS x hx) y hy xy] at e
    exact h.clo S hS x hx y hy (by cases b <;> cases hh : adjB ts x y <;> rw [hh] at e <;> first | rfl | cases e)
theorem cloI_flip {ts gs : List Ar} {I : List Int} {M : Int → Prop} (g : Opp ts gs I) (h : CloI ts I M) : CloI gs I M := fun p hp np a ha b hb ma mb => by
  have pa : p ≠ a := fun z => np (z ▸ ma)
  have pb : p ≠ b := fun z => np (z ▸ mb)
  rw [g p hp a ha pa, g p hp b hb pb, h p hp np a ha b hb ma mb]
theorem pr_flip {ts gs : List Ar} {I : List Int} {p q : Int} (g : Opp ts gs I) (h : Pr ts I p q) : Pr gs I p q := by
  obtain ⟨M, a, b⟩ := h
  exact ⟨M, cloI_flip g a, b⟩
theorem clsI_flip {ts gs : List Ar} {I : List Int} (g : Opp ts gs I) (p : Int) : clsI gs I p = clsI ts I p := by
  unfold clsI
  refine List.filter_congr fun q _ => ?_
  exact decide_eq_decide.mpr ⟨fun h => pr_flip g.symm h, fun h => pr_flip g h⟩
theorem whl_flip {ts gs : List Ar} {I : List Int} (g : Opp ts gs I) (w : Whl gs I) : Whl ts I := ⟨fun b A cA x hx ax y hy => w.con (!b) A (clR_flip g.symm (by rw [Bool.not_not]; exact cA)) x hx ax y hy⟩
theorem ClsG.flip {ts gs : List Ar} {I : List Int} {i : Nat} {G : List (List Int)} (g : Opp ts gs I) (h : ClsG ts I i G) : ClsG gs I i G := by
  refine ⟨fun S hS => ?_, fun p hp => by rw [clsI_flip g]; exact h.got p hp, h.nd, fun w => h.ord (whl_flip g w)⟩
  obtain ⟨p, hp, e⟩ := h.src S hS
  exact ⟨p, hp, by rw [clsI_flip g]; exact e⟩
theorem KindX.flip {ts gs : List Ar} {I : List Int} {w : Str} {Is : List (List Int)} (g : Opp ts gs I) (r : I.Pairwise (· < ·)) (l : 2 ≤ I.length) (h : KindX ts I w Is) : KindX gs I (flipW w) Is := by
  have nI : I.Nodup := r.imp fun h => Int.ne_of_lt h
  have Ine : I ≠ [] := fun z => by rw [z] at l; exact absurd l (by decide)
  have pt := h.part r l
  rcases h with ⟨rfl, f1, f2⟩ | ⟨rfl, ⟨F1, a1, a2⟩, f1, f2⟩ | ⟨rfl, ⟨F1, a1, a2⟩, ⟨F2, b1, b2⟩, f1⟩
  · have f := f1.flip g
    have e : flipW "apart" = "all" := by decide
    rw [e]
    exact .inr (.inl ⟨rfl, ⟨[I], setsI_one (con_btw pt nI (f.btw nI)) r Ine, by simp⟩, f, f2⟩)
  · have e : flipW "all" = "apart" := by decide
    rw [e]
    exact .inl ⟨rfl, f1.flip g, f2⟩
  · have e : flipW "close" = "close" := by decide
    rw [e]
    exact .inr (.inr ⟨rfl, ⟨F2, b1.flip g, b2⟩, ⟨F1, a1.flip g, a2⟩, f1.flip g⟩)
/-! ### other numbers -/
def RenS (f : Int → Int) (S S' : List Int) : Prop := S'.Pairwise (· < ·) ∧ ∀ z, z ∈ S' ↔ ∃ x ∈ S, f x = z
theorem RenS.uniq {f : Int → Int} {S A B : List Int} (a : RenS f S A) (b : RenS f S B) : A = B := rise_ext a.1 b.1 fun x => by rw [a.2, b.2]
structure RenI (f : Int → Int) (ts rs : List Ar) (I : List Int) : Prop where
  inj : ∀ x ∈ I, ∀ y ∈ I, f x = f y → x = y
  adj : ∀ x ∈ I, ∀ y ∈ I, x ≠ y → adjB rs (f x) (f y) = adjB ts x y
theorem RenI.sub {f : Int → Int} {ts rs : List Ar} {I J : List Int} (g : RenI f ts rs I) (s : ∀ x ∈ J, x ∈ I) : RenI f ts rs J := ⟨fun x hx y hy e => g.inj x (s x hx) y (s y hy) e, fun x hx y hy n => g.adj x (s x hx) y (s y hy) n⟩
section
variable {f : Int → Int} {ts rs : List Ar} {I I' : List Int}
theorem RenS.len (g : RenI f ts rs I) (nI : I.Nodup) (r : RenS f I I') : I'.length = I.length := by
  have n' : I'.Nodup := r.1.imp fun h => Int.ne_of_lt h
  have nm : (I.map f).Nodup := by
    rw [List.nodup_iff_pairwise_ne, List.pairwise_map]
    exact (List.nodup_iff_pairwise_ne.mp nI).imp_of_mem fun {a b} ha hb n e => n (g.inj a ha b hb e)
  have := (List.perm_ext_iff_of_nodup n' nm).mpr fun z => by rw [r.2, List.mem_map]
  rw [this.length_eq, List.length_map]
/-- sets with other numbers, in their order -/
structure RenF (f : Int → Int) (F F' : List (List Int)) : Prop where
  fw : ∀ S ∈ F, ∃ S' ∈ F', RenS f S S'
  bw : ∀ S' ∈ F', ∃ S ∈ F, RenS f S S'
  ord : F'.Pairwise HdLt
theorem RenF.part {F F' : List (List Int)} (g : RenI f ts rs I) (nI : I.Nodup) (r : RenS f I I') (q : RenF f F F') (pm : F.flatten.Perm I) : F'.flatten.Perm I' := by
  have n' : I'.Nodup := r.1.imp fun h => Int.ne_of_lt h
  have inI : ∀ S ∈ F, ∀ x ∈ S, x ∈ I := fun S hS x hx => pm.mem_iff.mp (List.mem_flatten.mpr ⟨S, hS, hx⟩)
  have dj := (nd_flat.mp (pm.nodup_iff.mpr nI)).2
  have nF : F'.flatten.Nodup := by
    rw [nd_flat]
    refine ⟨fun S' hS' => ?_, q.ord.imp_of_mem fun {S T} hS hT h x hx y hy e => ?_⟩
    · obtain ⟨S, _, a, _⟩ := q.bw S' hS'
      exact a.imp fun h => Int.ne_of_lt h
    · subst e
      obtain ⟨A, hA, a⟩ := q.bw S hS
      obtain ⟨B, hB, b⟩ := q.bw T hT
      obtain ⟨u, uA, eu⟩ := (a.2 x).mp hx
      obtain ⟨v, vB, ev⟩ := (b.2 x).mp hy
      have uv := g.inj u (inI A hA u uA) v (inI B hB v vB) (eu.trans ev.symm)
      have AB : A = B := Classical.byContradiction fun n => by
        have := pw_all (R := fun S T : List Int => ∀ x ∈ S, ∀ y ∈ T, x ≠ y) (fun a b k x hx y hy e => k y hy x hx e.symm) dj A hA B hB n
        exact this u uA v vB uv
      subst AB
      rw [a.uniq b] at h
      exact h.irr
  refine (List.perm_ext_iff_of_nodup nF n').mpr fun z => ?_
  rw [List.mem_flatten, r.2]
  constructor
  · rintro ⟨S', hS', hz⟩
    obtain ⟨S, hS, a⟩ := q.bw S' hS'
    obtain ⟨x, hx, e⟩ := (a.2 z).mp hz
    exact ⟨x, inI S hS x hx, e⟩
  · rintro ⟨x, hx, e⟩
    obtain ⟨S, hS, xS⟩ := List.mem_flatten.mp (pm.mem_iff.mpr hx)
    obtain ⟨S', hS', a⟩ := q.fw S hS
    exact ⟨S', hS', (a.2 z).mpr ⟨x, xS, e⟩⟩
theorem SetsI.ren {b : Bool} {F F' : List (List Int)} (g : RenI f ts rs I) (nI : I.Nodup) (r : RenS f I I') (q : RenF f F F') (h : SetsI ts b I F) : SetsI rs b I' F' := by
  have inI : ∀ S ∈ F, ∀ x ∈ S, x ∈ I := fun S hS x hx => h.perm.mem_iff.mp (List.mem_flatten.mpr ⟨S, hS, hx⟩)
  refine ⟨q.part g nI r h.perm, fun S' hS' e => ?_, fun S' hS' => ?_, fun S' hS' x' hx' y' hy' e => ?_, fun S' hS' A cA x' hx' ax y' hy' => ?_, fun _ => q.ord⟩
  · obtain ⟨S, hS, a⟩ := q.bw S' hS'
    obtain ⟨x, hx⟩ := List.exists_mem_of_ne_nil _ (h.ne S hS)
    have := (a.2 (f x)).mpr ⟨x, hx, rfl⟩
    rw [e] at this; cases this
  · obtain ⟨S, hS, a⟩ := q.bw S' hS'
    exact a.1.imp fun h => Int.le_of_lt h
  · obtain ⟨S, hS, a⟩ := q.bw S' hS'
    obtain ⟨x, hx, rfl⟩ := (a.2 x').mp hx'
    obtain ⟨y, hy, rfl⟩ := (r.2 y').mp hy'
    by_cases xy : x = y
    · rw [← xy]; exact hx'
    · rw [g.adj x (inI S hS x hx) y hy xy] at e
      exact (a.2 (f y)).mpr ⟨y, h.clo S hS x hx y hy e, rfl⟩
  · obtain ⟨S, hS, a⟩ := q.bw S' hS'
    obtain ⟨x, hx, rfl⟩ := (a.2 x').mp hx'
    obtain ⟨y, hy, rfl⟩ := (a.2 y').mp hy'
    refine h.con S hS (fun u => A (f u)) (fun u hu v hv au e => ?_) x hx ax y hy
    by_cases uv : u = v
    · rw [← uv]; exact au
    · exact cA (f u) ((r.2 _).mpr ⟨u, hu, rfl⟩) (f v) ((r.2 _).mpr ⟨v, hv, rfl⟩) au (by rw [g.adj u hu v hv uv]; exact e)
theorem pr_ren (g : RenI f ts rs I) (r : RenS f I I') {p q : Int} (hp : p ∈ I) (hq : q ∈ I) : Pr rs I' (f p) (f q) ↔ Pr ts I p q := by
  constructor
  · rintro ⟨M, cM, mp, mq, z, hz, nz⟩
    obtain ⟨u, hu, rfl⟩ := (r.2 z).mp hz
    refine ⟨fun x => M (f x), fun a ha na b hb c hc mb mc => ?_, mp, mq, u, hu, nz⟩
    have ab : a ≠ b := fun e => na (e ▸ mb)
    have ac : a ≠ c := fun e => na (e ▸ mc)
    have := cM (f a) ((r.2 _).mpr ⟨a, ha, rfl⟩) na (f b) ((r.2 _).mpr ⟨b, hb, rfl⟩) (f c) ((r.2 _).mpr ⟨c, hc, rfl⟩) mb mc
    rw [g.adj a ha b hb ab, g.adj a ha c hc ac] at this
    exact this
  · rintro ⟨M, cM, mp, mq, z, hz, nz⟩
    refine ⟨fun y => ∃ x ∈ I, f x = y ∧ M x, fun a ha na b hb c hc mb mc => ?_, ⟨p, hp, rfl, mp⟩, ⟨q, hq, rfl, mq⟩, f z, (r.2 _).mpr ⟨z, hz, rfl⟩, fun ⟨x, hx, e, mx⟩ => nz (by rw [← g.inj x hx z hz e]; exact mx)⟩
    obtain ⟨a1, ha1, ea⟩ := (r.2 a).mp ha
    obtain ⟨b1, hb1, eb, mb1⟩ := mb
    obtain ⟨c1, hc1, ec, mc1⟩ := mc
    have na' : ¬ M a1 := fun m => na ⟨a1, ha1, ea, m⟩
    have ab : a1 ≠ b1 := fun e => na' (e ▸ mb1)
    have ac : a1 ≠ c1 := fun e => na' (e ▸ mc1)
    rw [← ea, ← eb, ← ec, g.adj a1 ha1 b1 hb1 ab, g.adj a1 ha1 c1 hc1 ac]
    exact cM a1 ha1 na' b1 hb1 c1 hc1 mb1 mc1
theorem clsI_ren (g : RenI f ts rs I) (r : RenS f I I') {p : Int} (hp : p ∈ I) : RenS f (clsI ts I p) (clsI rs I' (f p)) := by
  refine ⟨r.1.sublist (by unfold clsI; exact List.filter_sublist), fun z => ?_⟩
  rw [mem_clsI, r.2]
  constructor
  · rintro ⟨⟨x, hx, rfl⟩, h⟩
    exact ⟨x, mem_clsI.mpr ⟨hx, (pr_ren g r hp hx).mp h⟩, rfl⟩
  · rintro ⟨x, hx, rfl⟩
    obtain ⟨a, b⟩ := mem_clsI.mp hx
    exact ⟨⟨x, a, rfl⟩, (pr_ren g r hp a).mpr b⟩
theorem ClsG.ren {F F' : List (List Int)} (g : RenI f ts rs I) (r : RenS f I I') (q : RenF f F F') (h : ClsG ts I I.length F) : ClsG rs I' I'.length F' := by
  refine ⟨fun S' hS' => ?_, fun p' hp' => ?_, ?_, fun _ _ _ => q.ord⟩
  · obtain ⟨S, hS, a⟩ := q.bw S' hS'
    obtain ⟨p, hp, rfl⟩ := h.src S hS
    rw [List.take_length] at hp
    exact ⟨f p, by rw [List.take_length]; exact (r.2 _).mpr ⟨p, hp, rfl⟩, a.uniq (clsI_ren g r hp)⟩
  · rw [List.take_length] at hp'
    obtain ⟨p, hp, rfl⟩ := (r.2 p').mp hp'
    obtain ⟨S', hS', a⟩ := q.fw _ (h.got p (by rw [List.take_length]; exact hp))
    rw [(clsI_ren g r hp).uniq a]; exact hS'
  · rw [List.nodup_iff_pairwise_ne]
    exact q.ord.imp fun {S T} h e => by rw [e] at h; exact h.irr
theorem ConI.ren {b : Bool} (g : RenI f ts rs I) (r : RenS f I I') (h : ConI ts b I) : ConI rs b I' := fun A cA x' hx' ax y' hy' => by
  obtain ⟨x, hx, rfl⟩ := (r.2 x').mp hx'
  obtain ⟨y, hy, rfl⟩ := (r.2 y').mp hy'
  refine h (fun u => A (f u)) (fun u hu v hv au e => ?_) x hx ax y hy
  by_cases uv : u = v
  · rw [← uv]; exact au
  · exact cA (f u) ((r.2 _).mpr ⟨u, hu, rfl⟩) (f v) ((r.2 _).mpr ⟨v, hv, rfl⟩) au (by rw [g.adj u hu v hv uv]; exact e)
theorem con_of {b : Bool} {F : List (List Int)} (h : SetsI ts b I F) (l : ¬ 1 < F.length) : ConI ts b I := fun A cA x hx ax y hy => by
  obtain ⟨S, hS, xS⟩ := List.mem_flatten.mp (h.perm.mem_iff.mpr hx)
  obtain ⟨T, hT, yT⟩ := List.mem_flatten.mp (h.perm.mem_iff.mpr hy)
  have e : S = T := by
    rcases F with _ | ⟨U, _ | ⟨V', G⟩⟩
    · cases hS
    · rw [List.mem_singleton.mp hS, List.mem_singleton.mp hT]
    · exact absurd (by simp) l
  subst e
  exact h.con S hS A cA x xS ax y yT
theorem KindX.ren {w : Str} {F F' : List (List Int)} (g : RenI f ts rs I) (ri : I.Pairwise (· < ·)) (l : 2 ≤ I.length) (r : RenS f I I') (q : RenF f F F') (fl : F'.length = F.length) (h : KindX ts I w F) : KindX rs I' w F' := by
  have nI : I.Nodup := ri.imp fun h => Int.ne_of_lt h
  have l' := r.len g nI
  have Ine : I' ≠ [] := fun z => by rw [z] at l'; rw [← l'] at l; exact absurd l (by decide)
  have one : ∀ b : Bool, (∃ F, SetsI ts b I F ∧ ¬ 1 < F.length) → ∃ F, SetsI rs b I' F ∧ ¬ 1 < F.length := fun b ⟨F, a, b'⟩ => ⟨[I'], setsI_one ((con_of a b').ren g r) r.1 Ine, by simp⟩
  rcases h with ⟨rfl, f1, f2⟩ | ⟨rfl, a, f1, f2⟩ | ⟨rfl, a, b, f1⟩
  · exact .inl ⟨rfl, f1.ren g nI r q, by rw [fl]; exact f2⟩
  · exact .inr (.inl ⟨rfl, one true a, f1.ren g nI r q, by rw [fl]; exact f2⟩)
  · exact .inr (.inr ⟨rfl, one true a, one false b, f1.ren g r q⟩)
end
/-! ### nodes are modules -/
theorem KindX.mod {ts : List Ar} {I : List Int} {w : Str} {F : List (List Int)} (r : I.Pairwise (· < ·)) (l : 2 ≤ I.length) (h : KindX ts I w F) : ∀ S ∈ F, CloI ts I (· ∈ S) := fun S hS p hp np a ha b hb aS bS => by
  have nI : I.Nodup := r.imp fun h => Int.ne_of_lt h
  have pt := h.part r l
  obtain ⟨T, hT, pT⟩ := pt.own hp
  have TS : T ≠ S := fun z => np (z ▸ pT)
  rcases h with ⟨rfl, f1, f2⟩ | ⟨rfl, _, f1, f2⟩ | ⟨rfl, ⟨F1, a1, a2⟩, ⟨F2, b1, b2⟩, f1⟩
  · have := BtwP.all (f1.btw nI)
    rw [this T hT S hS TS p pT a aS, this T hT S hS TS p pT b bS]
  · have := BtwP.all (f1.btw nI)
    rw [this T hT S hS TS p pT a aS, this T hT S hS TS p pT b bS]
  · have wh := whl_of a1 b1 a2 b2
    obtain ⟨c, hc, rfl⟩ := f1.src S hS
    rw [List.take_length] at hc
    obtain ⟨_, pa⟩ := mem_clsI.mp aS
    obtain ⟨_, pb⟩ := mem_clsI.mp bS
    obtain ⟨M, cM, ma, mb, z, zI, nz⟩ := (pa.symm).trans wh hc pb
    -- the class of c is a module: p is parted from a and b alike
    refine Classical.byContradiction fun no => ?_
    have mp : M p := Classical.byContradiction fun k => no (cM p hp k a ha b hb ma mb)
    exact np (mem_clsI.mpr ⟨hp, pa.trans wh ha ⟨M, cM, ma, mp, z, zI, nz⟩⟩)
theorem clo_sub {ts : List Ar} {J I S : List Int} (sub : ∀ x ∈ S, x ∈ I) (inJ : ∀ x ∈ I, x ∈ J) (h : CloI ts J (· ∈ I)) (k : CloI ts I (· ∈ S)) : CloI ts J (· ∈ S) := fun p hp np a ha b hb aS bS => by
  by_cases pI : p ∈ I
  · exact k p pI np a (sub a aS) b (sub b bS) aS bS
  · exact h p hp pI a ha b hb (sub a aS) (sub b bS)
end My

set_option Elab.async false
set_option linter.all false
set_option maxRecDepth 100000
set_option pp.maxSteps 400
set_option maxHeartbeats 4000000
namespace My
open PySem PySem.Spec PyProof.Rows L2 GxR
/-! a[b], a a list or a dict -/
def rIxLD (K : PySem.W.Frag) : R2 := fun x y H Q => rIxL K x y H Q ∨ ∃ a v, x = .ref a ∧ DGet H a y (some v) ∧ Q v H
theorem ix_dict {X : Cx} (hu : X.A.units + 1 < cLine) : IxR X (fun x y H Q => ∃ a v, x = .ref a ∧ DGet H a y (some v) ∧ Q v H) := by
  intro value slice pins s σ H x y v u Q I rx ry h hs
  obtain ⟨a, z, rfl, g, q⟩ := h
  obtain rfl : v = Value.ref a := rx
  have hT := dict_typeIs I g
  have h₂ : wpAny (model X.prog X.w) X.A (getItem (.ref a) u) (EP X pins σ Q) X.xe s := d_getItem hu I g ry fun w' s3 I3 rw' => ⟨z, H, I3, rw', q⟩
  unfold subscriptTail
  refine wpAny_bind ?_
  rw [getitemInPython_of_ne hT.not_modules]
  refine wpAny_bind (wpAny_specialOf hT PySem.F.slot_dict_getitem.lookup ?_)
  have fin : wpAny (model X.prog X.w) X.A (subscripted slice false (.ref a) u) (fun r s₃ => wpAny (model X.prog X.w) X.A (letTemporaryGo value (.ref a) r >>= fun _ => pure r) (EP X pins σ Q) X.xe s₃) X.xe s := by
    rw [hs]
    exact wpAny_operating (wpAny_mono h₂ (fun r s₃ h₃ => wpAny_bind (wpAny_letTemporaryGo (wpAny_pure h₃))) fun _ _ x => x)
  first
    | exact wpAny_pure (wpAny_bind fin)
    | exact wpAny_bind (wpAny_pure (wpAny_bind fin))
    | exact wpAny_bind fin
theorem ix_ld {X : Cx} (hu : X.A.units + 1 < cLine) : IxR X (rIxLD X.K) := ix_list.or (ix_dict hu)
def NumAt (H : Hp) (nb : V) (f : Int → Int) (I : List Int) : Prop := (∃ (p : Addr) (ns : List Int), nb = .ref p ∧ H p = some (.lst (ns.map V.int)) ∧ ∀ x ∈ I, atI (ns.map V.int) x = some (V.int (f x))) ∨
  (∃ (p : Addr) (kvs : List (Key × V)), nb = .ref p ∧ H p = some (.dK kvs) ∧ ∀ x ∈ I, valV kvs (Sum.inl x) = some (V.int (f x)))
theorem NumAt.same {H H' : Hp} {nb : V} {f : Int → Int} {I : List Int} (s : Same H H') (h : NumAt H nb f I) : NumAt H' nb f I := by
  rcases h with ⟨p, ns, a, b, c⟩ | ⟨p, ns, a, b, c⟩
  · exact .inl ⟨p, ns, a, s _ _ b, c⟩
  · exact .inr ⟨p, ns, a, s _ _ b, c⟩
theorem NumAt.sub {H : Hp} {nb : V} {f : Int → Int} {I J : List Int} (s : ∀ x ∈ J, x ∈ I) (h : NumAt H nb f I) : NumAt H nb f J := by
  rcases h with ⟨p, ns, a, b, c⟩ | ⟨p, ns, a, b, c⟩
  · exact .inl ⟨p, ns, a, b, fun x hx => c x (s x hx)⟩
  · exact .inr ⟨p, ns, a, b, fun x hx => c x (s x hx)⟩
theorem NumAt.ix {K : PySem.W.Frag} {H : Hp} {nb : V} {f : Int → Int} {I : List Int} {x : Int} (h : NumAt H nb f I) (hx : x ∈ I) {Q : VK} (q : Q (.int (f x)) H) : rIxLD K nb (.int x) H Q := by
  rcases h with ⟨p, ns, rfl, b, c⟩ | ⟨p, kvs, rfl, b, c⟩
  · exact .inl ⟨p, _, x, _, rfl, rfl, SqL.of b, c x hx, q⟩
  · refine .inr ⟨p, .int (f x), rfl, ?_, q⟩
    rw [← c x hx]
    exact DGet.k (k := Sum.inl x) b
theorem renS_srt {f : Int → Int} {I : List Int} (r : ∀ x ∈ I, 0 ≤ f x ∧ f x < 12) : RenS f I (srtP (I.map f)) := by
  refine ⟨srtP_rise _, fun z => ?_⟩
  unfold srtP
  rw [List.mem_filter, decide_eq_true_iff, mem_up, List.mem_map]
  exact ⟨fun h => h.2, fun ⟨x, hx, e⟩ => ⟨by rw [← e]; exact r x hx, x, hx, e⟩⟩
section
variable {P : Program} {w : World} {K : PySem.W.Frag} {mg : Str → Option Value} {base : Heap}
/-! ### _law_exchanged -/
abbrev s__law_exchanged : Stmt := topS 30
abbrev N__law_exchanged : List Str := ["_law_tree", "_law_word", "_law_inner", "_law_turned", "_law_one"]
theorem sc__law_exchanged : FnScope N__law_exchanged ["_law_tree"] (defScope s__law_exchanged) := ⟨rfl, rfl, rfl, by decide +kernel, rfl, by decide +kernel, by decide +kernel⟩
def sp_exch (m : Nat) : Sp := fun vs H Q _ => ∃ (v : V) (ts gs : List Ar) (I : List Int), vs = [v] ∧ TrX ts H m v I ∧ Opp ts gs I ∧ I.length ≤ 12 ∧ ∀ u H', Same H H' → TrX gs H' m u I → Q u H'
theorem ok_exch1 {f : Addr} {fd : FuncData} {m : Nat} (B : Bts mg) (F : Fun K "_law_exchanged" "_law_exchanged" s__law_exchanged f fd) (c__law_exchanged : Cl P w K mg base (m + 1) "_law_exchanged" (sp_exch m)) :
    FnOk P w K mg base CX0 (m + 2) f fd ["_law_tree"] (sp_exch (m + 1)) := by
  refine F.ok sc__law_exchanged (fun vs H Q E h => ?_) (fun cdv A outer s H vs Q E hr h => ?_)
  · obtain ⟨v, ts, gs, I, rfl, _⟩ := h; rfl
  · obtain ⟨v, ts, gs, I, rfl, hv, g, Il, q⟩ := h
    refine ⟨_, (pss_cons (ps_asg (pv 0) (pg_tup rfl (pgs_cons (pg_name (i := 1) sc__law_exchanged.nd rfl (by first | exact Or.inl rfl | exact Or.inr rfl)) (pgs_cons (pg_name (i := 2) sc__law_exchanged.nd rfl (by first | exact Or.inl rfl | exact Or.inr rfl)) pgs_nil))))
    (pss_cons (ps_if (pt_cmpR op_eq (pv 1) pe_str (nomark _)) (pss_one (ps_ret (pv 0))) pss_nil)
    (pss_cons (ps_set (i := 3) sc__law_exchanged.nd rfl (by first | exact Or.inl rfl | exact Or.inr rfl) (pe_dget (hu_of hr) (pe_disp (pps_cons pe_str pe_str (pps_cons pe_str pe_str (pps_cons pe_str pe_str pps_nil))) rfl rfl (fun z => nomatch z) (by decide)) (pv 1) (fun _ _ => rfl)))
    (pss_one (ps_ret (pe_tup (pa_cons (pv 3) (pa_cons (pe_callTy call_tuple_of (by rfl) B.tuple (by decide +kernel) (pa_cons (pe_lc (own := [("_law_one", 4)]) (g := (gName 4)) (tt := tYes) rfl sc__law_exchanged.nd (pi_tup (pv 2)) (blkOk_by (own := [("_law_one", 4)]) (N := N__law_exchanged) (sc := defScope s__law_exchanged) (by decide +kernel)) (fun _ _ _ _ _ => (pg_name (i := 4) sc__law_exchanged.nd rfl (by first | exact Or.inl rfl | exact Or.inr rfl))) (fun _ _ _ _ _ => pts_nil) (fun _ _ _ _ _ => (pe_c c__law_exchanged hr (Nat.le_refl _) (by rfl) (pa_cons (pv 4) pa_nil)))) pa_nil)) pa_nil)))))))), ?_⟩
    rcases hv with ⟨p, i, rfl, ep, rfl⟩ | ⟨p, q0, wd, us, Is, rfl, ep, ⟨r, l2⟩, kd, eq, hU⟩
    · refine ⟨_, rfl, p, _, rfl, SqT.of ep, rfl, _, _, rfl, _, _, rfl, rfl, ?_⟩
      refine ⟨_, rfl, rfl, _, rfl, ?_⟩
      rw [decide_eq_true rfl]
      exact iteT ⟨_, rfl, q _ H (same_refl H) (.inl ⟨p, i, rfl, ep, rfl⟩)⟩
    · have pt := kd.part r l2
      have ptl := pt.len
      have ul := hU.len
      have wne := kd.word
      have hw : wd = "all" ∨ wd = "apart" ∨ wd = "close" := by
        rcases kd with ⟨rfl, _⟩ | ⟨rfl, _⟩ | ⟨rfl, _⟩
        · exact .inr (.inl rfl)
        · exact .inl rfl
        · exact .inr (.inr rfl)
      refine ⟨_, rfl, p, _, rfl, SqT.of ep, rfl, _, _, rfl, _, _, rfl, rfl, ?_⟩
      refine ⟨_, rfl, rfl, _, rfl, ?_⟩
      rw [decide_eq_false (fun z => wne.1 (V.str.inj z))]
      refine iteF ?_
      intro dd ndd
      refine ⟨upd_same, [(Sum.inr "all", .str "apart"), (Sum.inr "apart", .str "all"), (Sum.inr "close", .str "close")], rfl, by decide, ?_⟩
      have s1 : Same H (upd (upd H dd (.dK [])) dd (.dK (mergeK [] [(Sum.inr "all", .str "apart"), (Sum.inr "apart", .str "all"), (Sum.inr "close", .str "close")]))) := Same.put (same_new ndd) ndd
      have e1 := upd_same (H := upd H dd (.dK [])) (a := dd) (o := .dK (mergeK [] [(Sum.inr "all", .str "apart"), (Sum.inr "apart", .str "all"), (Sum.inr "close", .str "close")]))
      generalize upd (upd H dd (.dK [])) dd (.dK (mergeK [] [(Sum.inr "all", .str "apart"), (Sum.inr "apart", .str "all"), (Sum.inr "close", .str "close")])) = H1 at s1 e1 ⊢
      have val : valV (mergeK [] [(Sum.inr "all", V.str "apart"), (Sum.inr "apart", .str "all"), (Sum.inr "close", .str "close")]) (Sum.inr wd) = some (.str (flipW wd)) := by
        rcases hw with rfl | rfl | rfl <;> decide +kernel
      refine ⟨_, rfl, dd, .str (flipW wd), rfl, by rw [← val]; exact DGet.k (k := Sum.inr wd) e1, ?_⟩
      refine ⟨_, rfl, _, rfl, q0, rfl, ⟨_, SqT.of (s1 _ _ eq)⟩, fun D nD => ?_⟩
      refine wk (walk_tup (K := K) (a := q0) (xs := us)) (fun j HX => ∃ xs, Same H1 HX ∧ HX D = some (.lst xs) ∧ All2 (TrX gs HX m) xs (Is.take j)) ⟨[], same_new nD, upd_same, by exact trivial⟩ ?_ ?_ ?_
      · rintro j HX _ ⟨_, sX, _⟩
        exact SqT.of (sX _ _ (s1 _ _ eq))
      · rintro j x HX0 HX hj ⟨xs, sX, eD, hA⟩ ⟨rfl, hx⟩
        obtain ⟨S, eS, hS⟩ := hU.at hx
        have mS := List.mem_of_getElem? eS
        have less := pt.less mS
        have xl := hA.len
        rw [List.length_take] at xl
        refine ⟨rfl, yes ⟨_, rfl, x, ts, gs, S, rfl, hS.mono (Same.tst (s1.trans sX)), g.sub (pt.mem mS), by omega, fun u HY sY hu => ?_⟩⟩
        have eDY := sY _ _ eD
        have tp := tst_put (o := .lst (xs ++ [u])) eDY
        refine ⟨xs, eDY, sz' (by omega), xs ++ [u], Same.put (sX.trans sY) nD, upd_same, ?_⟩
        rw [List.take_add_one, eS]
        exact All2.app (hA.imp fun _ _ h => (h.mono (Same.tst sY)).mono tp) ⟨hu.mono tp, trivial⟩
      rintro HX ⟨xs, sX, eD, hA⟩
      rw [ul, List.take_length] at hA
      refine ⟨D, xs, rfl, .inl ⟨SqL.of eD, fun T nT => ?_⟩⟩
      have sT := same_new (o := .tup xs) nT
      refine ⟨by show 2 ≤ sizeLine; decide, fun u nu => ?_⟩
      have su := same_new (o := .tup [.str (flipW wd), .ref T]) nu
      exact q (.ref u) _ (s1.trans (sX.trans (sT.trans su))) (.inr ⟨u, T, flipW wd, xs, Is, rfl, upd_same, ⟨r, l2⟩, kd.flip g r l2, su _ _ upd_same, hA.imp fun _ _ h => h.mono (Same.tst (sT.trans su))⟩)
theorem ok_exch {f : Addr} {fd : FuncData} (B : Bts mg) (F : Fun K "_law_exchanged" "_law_exchanged" s__law_exchanged f fd) (hm : mg "_law_exchanged" = some (.ref f)) (hb : Binds K fd ["_law_tree"] []) :
    ∀ m, FnOk P w K mg base CX0 (m + 1) f fd ["_law_tree"] (sp_exch m)
  | 0 => ⟨fun vs H Q E ⟨_, _, _, _, _, h, _⟩ => h.elim, fun _ _ _ _ _ _ _ _ _ _ _ _ _ ⟨_, _, _, _, _, h, _⟩ => h.elim⟩
  | m + 1 => ok_exch1 B F (Cl.mk' F hm hb (ok_exch B F hm hb m))
/-! ### _law_numbered -/
abbrev s__law_numbered : Stmt := topS 31
abbrev N__law_numbered : List Str := ["_law_tree", "_law_numbers", "_law_word", "_law_inner", "_law_some", "_law_one", "_law_least"]
theorem sc__law_numbered : FnScope N__law_numbered ["_law_tree", "_law_numbers"] (defScope s__law_numbered) := ⟨rfl, rfl, rfl, by decide +kernel, rfl, by decide +kernel, by decide +kernel⟩
def sp_numd (m : Nat) : Sp := fun vs H Q _ => ∃ (v nb : V) (ts rs : List Ar) (f : Int → Int) (I : List Int), vs = [v, nb] ∧ TrX ts H m v I ∧ NumAt H nb f I ∧ RenI f ts rs I ∧ (∀ x ∈ I, 0 ≤ f x ∧ f x < 12) ∧ I.length ≤ 12 ∧
  ∀ p u H', H p = none → Same H H' → H' p = some (.tup [.int ((srtP (I.map f)).headD 0), u]) → TrX rs H' m u (srtP (I.map f)) → Q (.ref p) H'
theorem ok_numd1 {f : Addr} {fd : FuncData} {m : Nat} (B : Bts mg) (F : Fun K "_law_numbered" "_law_numbered" s__law_numbered f fd) (c__law_numbered : Cl P w K mg base (m + 1) "_law_numbered" (sp_numd m)) :
    FnOk P w K mg base CX0 (m + 2) f fd ["_law_tree", "_law_numbers"] (sp_numd (m + 1)) := by
  refine F.ok sc__law_numbered (fun vs H Q E h => ?_) (fun cdv A outer s H vs Q E hr h => ?_)
  · obtain ⟨v, nb, ts, rs, fn, I, rfl, _⟩ := h; rfl
  · obtain ⟨v, nb, ts, rs, fn, I, rfl, hv, hN, g, rf, Il, q⟩ := h
    refine ⟨_, (pss_cons (ps_asg (pv 0) (pg_tup rfl (pgs_cons (pg_name (i := 2) sc__law_numbered.nd rfl (by first | exact Or.inl rfl | exact Or.inr rfl)) (pgs_cons (pg_name (i := 3) sc__law_numbered.nd rfl (by first | exact Or.inl rfl | exact Or.inr rfl)) pgs_nil))))
    (pss_cons (ps_if (pt_cmpR op_eq (pv 2) pe_str (nomark _)) (pss_one (ps_ret (pe_tup (pa_cons (pe_ix (ix_ld (hu_of hr)) (pv 1) (pv 3) (fun _ _ => rfl)) (pa_cons (pe_tup (pa_cons pe_str (pa_cons (pe_ix (ix_ld (hu_of hr)) (pv 1) (pv 3) (fun _ _ => rfl)) pa_nil))) pa_nil))))) pss_nil)
    (pss_cons (ps_set (i := 4) sc__law_numbered.nd rfl (by first | exact Or.inl rfl | exact Or.inr rfl) (pe_callB cr_sortedF (by rfl) B.sorted (by decide +kernel) (pa_cons (pe_lc (own := [("_law_one", 5)]) (g := (gName 5)) (tt := tYes) rfl sc__law_numbered.nd (pi_tup (pv 3)) (blkOk_by (own := [("_law_one", 5)]) (N := N__law_numbered) (sc := defScope s__law_numbered) (by decide +kernel)) (fun _ _ _ _ _ => (pg_name (i := 5) sc__law_numbered.nd rfl (by first | exact Or.inl rfl | exact Or.inr rfl))) (fun _ _ _ _ _ => pts_nil) (fun _ _ _ _ _ => (pe_c c__law_numbered hr (Nat.le_refl _) (by rfl) (pa_cons (pv 5) (pa_cons (pv 1) pa_nil))))) pa_nil)))
    (pss_one (ps_ret (pe_tup (pa_cons (pe_ix ix_tup (pe_ix ix_list (pv 4) pe_int (fun _ _ => rfl)) pe_int (fun _ _ => rfl)) (pa_cons (pe_tup (pa_cons (pv 2) (pa_cons (pe_callTy call_tuple_of (by rfl) B.tuple (by decide +kernel) (pa_cons (pe_lc (own := [("_law_least", 6), ("_law_one", 5)]) (g := (gTup K 2 (gCons (gName 6) (gCons (gName 5) gNil)))) (tt := tYes) rfl sc__law_numbered.nd (pi_list (pv 4)) (blkOk_by (own := [("_law_least", 6), ("_law_one", 5)]) (N := N__law_numbered) (sc := defScope s__law_numbered) (by decide +kernel)) (fun _ _ _ _ _ => (pg_tup rfl (pgs_cons (pg_name (i := 6) sc__law_numbered.nd rfl (by first | exact Or.inl rfl | exact Or.inr rfl)) (pgs_cons (pg_name (i := 5) sc__law_numbered.nd rfl (by first | exact Or.inl rfl | exact Or.inr rfl)) pgs_nil)))) (fun _ _ _ _ _ => pts_nil) (fun _ _ _ _ _ => (pv 5))) pa_nil)) pa_nil))) pa_nil)))))))), ?_⟩
    rcases hv with ⟨p, i, rfl, ep, rfl⟩ | ⟨p, q0, wd, us, Is, rfl, ep, ⟨r, l2⟩, kd, eq, hU⟩
    · refine ⟨_, rfl, p, _, rfl, SqT.of ep, rfl, _, _, rfl, _, _, rfl, rfl, ?_⟩
      refine ⟨_, rfl, rfl, _, rfl, ?_⟩
      rw [decide_eq_true rfl]
      have mi : i ∈ [i] := List.mem_singleton.mpr rfl
      have es : srtP ([i].map fn) = [fn i] := by
        refine (renS_srt rf).uniq ⟨List.pairwise_singleton _ _, fun z => ?_⟩
        rw [List.mem_singleton]
        exact ⟨fun h => ⟨i, mi, h.symm⟩, fun ⟨x, hx, e⟩ => by rw [← e, List.mem_singleton.mp hx]⟩
      refine iteT ⟨_, rfl, _, rfl, hN.ix mi ?_⟩
      refine ⟨_, rfl, _, rfl, hN.ix mi ⟨by show 2 ≤ sizeLine; decide, fun k nk => ?_⟩⟩
      have sk := same_new (o := .tup [.str "place", .int (fn i)]) nk
      refine ⟨by show 2 ≤ sizeLine; decide, fun k2 nk2 => ?_⟩
      have sk2 := same_new (o := .tup [.int (fn i), .ref k]) nk2
      refine q k2 (.ref k) _ (same_free sk nk2) (sk.trans sk2) (by rw [es]; exact upd_same) ?_
      rw [es]
      exact .inl ⟨k, fn i, rfl, sk2 _ _ upd_same, rfl⟩
    · have pt := kd.part r l2
      have nI : I.Nodup := r.imp fun h => Int.ne_of_lt h
      have ptl := pt.len
      have ul := hU.len
      have wne := kd.word
      refine ⟨_, rfl, p, _, rfl, SqT.of ep, rfl, _, _, rfl, _, _, rfl, rfl, ?_⟩
      refine ⟨_, rfl, rfl, _, rfl, ?_⟩
      rw [decide_eq_false (fun z => wne.1 (V.str.inj z))]
      refine iteF ?_
      refine ⟨_, rfl, q0, rfl, ⟨_, SqT.of eq⟩, fun D nD => ?_⟩
      refine wk (walk_tup (K := K) (a := q0) (xs := us)) (fun j HX => ∃ (xs : List V) (its : List (V × List Int)), Same H HX ∧ HX D = some (.lst xs) ∧ All2 (FstV HX) xs (its.map fun it => (it.2.headD 0, it.1)) ∧ its.map (·.2) = (Is.take j).map (fun S => srtP (S.map fn)) ∧ ∀ it ∈ its, TrX rs HX m it.1 it.2) ⟨[], [], same_new nD, upd_same, by exact trivial, rfl, fun it h => absurd h List.not_mem_nil⟩ ?_ ?_ ?_
      · rintro j HX _ ⟨_, _, sX, _⟩
        exact SqT.of (sX _ _ eq)
      · rintro j x HX0 HX hj ⟨xs, its, sX, eD, hA, ei, hi⟩ ⟨rfl, hx⟩
        obtain ⟨S, eS, hS⟩ := hU.at hx
        have mS := List.mem_of_getElem? eS
        have less := pt.less mS
        have xl := hA.len
        have il := congrArg List.length ei
        rw [List.length_map] at xl
        rw [List.length_map, List.length_map, List.length_take] at il
        refine ⟨rfl, yes ⟨_, rfl, _, rfl, x, nb, ts, rs, fn, S, rfl, hS.mono (Same.tst sX), (hN.same sX).sub (pt.mem mS), g.sub (pt.mem mS), fun y hy => rf y (pt.mem mS y hy), by omega, fun p1 u HY np1 sY ep1 hu => ?_⟩⟩
        have eDY := sY _ _ eD
        have tp := tst_put (o := .lst (xs ++ [.ref p1])) eDY
        refine ⟨xs, eDY, sz' (by omega), xs ++ [.ref p1], its ++ [(u, srtP (S.map fn))], Same.put (sX.trans sY) nD, upd_same, ?_, ?_, fun it hit => ?_⟩
        · rw [List.map_append]
          exact All2.app (hA.imp fun _ _ ⟨t, e, h⟩ => ⟨t, e, tp _ _ (sY _ _ h)⟩) ⟨⟨p1, rfl, tp _ _ ep1⟩, trivial⟩
        · rw [List.map_append, ei, List.take_add_one, eS, List.map_append]; rfl
        · rcases List.mem_append.mp hit with z | z
          · exact ((hi it z).mono (Same.tst sY)).mono tp
          · rw [List.mem_singleton.mp z]; exact hu.mono tp
      rintro H1 ⟨xs, its, s1, eD, hA, ei, hi⟩
      rw [ul, List.take_length] at ei
      have ren : ∀ S ∈ Is, RenS fn S (srtP (S.map fn)) := fun S hS => renS_srt fun x hx => rf x (pt.mem hS x hx)
      have rne : ∀ S ∈ Is, srtP (S.map fn) ≠ [] := fun S hS z => by
        obtain ⟨x, hx⟩ := List.exists_mem_of_ne_nil _ (pt.ne S hS)
        have := ((ren S hS).2 (fn x)).mpr ⟨x, hx, rfl⟩
        rw [z] at this; cases this
      -- the heads are unlike
      have hdn : ((its.map fun it => (it.2.headD 0, it.1)).map (·.1)).Nodup := by
        have e2 : (its.map fun it => (it.2.headD 0, it.1)).map (·.1) = (its.map (·.2)).map fun S => S.headD 0 := by rw [List.map_map, List.map_map]; rfl
        rw [e2, ei, List.map_map, List.nodup_iff_pairwise_ne, List.pairwise_map]
        refine (nd_flat.mp (pt.perm.nodup_iff.mpr nI)).2.imp_of_mem fun {S T} hS hT dj e => ?_
        have h1 := ((ren S hS).2 _).mp (hd_mem (rne S hS))
        have h2 := ((ren T hT).2 _).mp (hd_mem (rne T hT))
        obtain ⟨x, hx, ex⟩ := h1
        obtain ⟨y, hy, ey⟩ := h2
        have e' : (srtP (S.map fn)).headD 0 = (srtP (T.map fn)).headD 0 := e
        exact dj x hx y hy (g.inj x (pt.mem hS x hx) y (pt.mem hT y hy) (by rw [ex, ey, e']))
      refine ⟨D, xs, _, rfl, SqL.of eD, hA, hdn, fun ys pp cs pm srt hys npp => ?_⟩
      obtain ⟨its', pm', rfl⟩ := perm_map_lift pm rfl
      have spp := same_new (o := .lst ys) npp
      have epp := upd_same (H := H1) (a := pp) (o := .lst ys)
      replace hys := All2.imp (S := FstV (upd H1 pp (.lst ys))) (fun _ _ (⟨t', e, h⟩ : FstV H1 _ _) => ⟨t', e, spp _ _ h⟩) hys
      have hi2 : ∀ it ∈ its', TrX rs (upd H1 pp (.lst ys)) m it.1 it.2 := fun it hit => (hi it (pm'.mem_iff.mp hit)).mono (Same.tst spp)
      generalize upd H1 pp (.lst ys) = H2 at spp epp hys hi2 ⊢
      have yl := hys.len
      have itl := pm'.length_eq
      have il := congrArg List.length ei
      rw [List.length_map, List.length_map] at il
      rw [List.length_map] at yl
      -- the family of sets
      have bw : ∀ S' ∈ its'.map (·.2), ∃ S ∈ Is, RenS fn S S' := fun S' hS' => by
        have : S' ∈ its.map (·.2) := (pm'.map _).mem_iff.mp hS'
        rw [ei] at this
        obtain ⟨S, hS, rfl⟩ := List.mem_map.mp this
        exact ⟨S, hS, ren S hS⟩
      have qF : RenF fn Is (its'.map (·.2)) := by
        refine ⟨fun S hS => ⟨srtP (S.map fn), (pm'.map _).mem_iff.mpr (by rw [ei]; exact List.mem_map.mpr ⟨S, hS, rfl⟩), ren S hS⟩, bw, ?_⟩
        rw [List.pairwise_map] at srt ⊢
        refine srt.imp_of_mem fun {a b} ha hb lt => ?_
        obtain ⟨S, hS, ra⟩ := bw _ (List.mem_map.mpr ⟨a, ha, rfl⟩)
        obtain ⟨T, hT, rb⟩ := bw _ (List.mem_map.mpr ⟨b, hb, rfl⟩)
        have na : a.2 ≠ [] := by rw [ra.uniq (ren S hS)]; exact rne S hS
        have nb : b.2 ≠ [] := by rw [rb.uniq (ren T hT)]; exact rne T hT
        exact ⟨a.2.headD 0, hd_mem na, fun x hx => headI_le ra.1 hx, fun t ht => Int.lt_of_lt_of_le lt (headI_le rb.1 ht)⟩
      have rI := renS_srt rf
      have l' := rI.len g nI
      have kd' := kd.ren g r l2 rI qF (by rw [List.length_map]; omega)
      -- the least
      obtain ⟨it0, rest, e0⟩ : ∃ it0 rest, its' = it0 :: rest := by
        cases its' with
        | nil => have two := pt.two; rw [List.length_nil] at itl; omega
        | cons a l => exact ⟨a, l, rfl⟩
      have least : (srtP (I.map fn)).headD 0 = it0.2.headD 0 := by
        have m0 : it0.2 ∈ its'.map (·.2) := List.mem_map.mpr ⟨it0, by rw [e0]; exact List.mem_cons_self, rfl⟩
        obtain ⟨S, hS, ra⟩ := bw _ m0
        have na : it0.2 ≠ [] := by rw [ra.uniq (ren S hS)]; exact rne S hS
        obtain ⟨x, hx, ex⟩ := (ra.2 _).mp (hd_mem na)
        have h1 : it0.2.headD 0 ∈ srtP (I.map fn) := (rI.2 _).mpr ⟨x, pt.mem hS x hx, ex⟩
        have h2 := headI_le rI.1 h1
        have ne : srtP (I.map fn) ≠ [] := fun z => by rw [z] at h1; cases h1
        obtain ⟨y, hy, ey⟩ := (rI.2 _).mp (hd_mem ne)
        obtain ⟨T, hT, yT⟩ := pt.own hy
        obtain ⟨T', hT', rT⟩ := qF.fw T hT
        have h3 : (srtP (I.map fn)).headD 0 ∈ T' := (rT.2 _).mpr ⟨y, yT, ey⟩
        obtain ⟨itT, hitT, rfl⟩ := List.mem_map.mp hT'
        have h4 := headI_le rT.1 h3
        have h5 : it0.2.headD 0 ≤ itT.2.headD 0 := by
          rw [e0] at hitT srt
          rw [List.map_cons, List.pairwise_cons] at srt
          rcases List.mem_cons.mp hitT with z | z
          · rw [z]; exact Int.le_refl _
          · exact Int.le_of_lt (srt.1 _ (List.mem_map.mpr ⟨itT, z, rfl⟩))
        omega
      obtain ⟨y0, ey0⟩ : ∃ y0, ys[0]? = some y0 := by
        have : 0 < ys.length := by rw [yl, e0]; simp
        exact ⟨_, List.getElem?_eq_getElem this⟩
      obtain ⟨b0, eb0, t0, rfl, et0⟩ := hys.at ey0
      rw [e0] at eb0
      cases eb0
      refine ⟨_, rfl, pp, _, 0, .ref t0, rfl, rfl, SqL.of epp, atI_nat (j := 0) ey0, t0, _, 0, _, rfl, rfl, SqT.of et0, atI_nat (j := 0) rfl, ?_⟩
      refine ⟨_, rfl, _, rfl, pp, rfl, ⟨_, SqL.of epp⟩, fun E nE => ?_⟩
      refine wk (walk_list (K := K) (a := pp) (xs := ys)) (fun j HX => Same H2 HX ∧ HX E = some (.lst ((its'.take j).map (·.1)))) ⟨same_new nE, upd_same⟩ ?_ ?_ ?_
      · rintro j HX _ ⟨sX, _⟩
        exact SqL.of (sX _ _ epp)
      · rintro j x HX0 HX hj ⟨sX, eE⟩ ⟨rfl, hx⟩
        obtain ⟨b, eb, t, rfl, et⟩ := hys.at hx
        rw [List.getElem?_map] at eb
        obtain ⟨it, eit, rfl⟩ := Option.map_eq_some_iff.mp eb
        refine ⟨t, _, rfl, SqT.of (sX _ _ et), rfl, _, _, rfl, _, _, rfl, rfl, rfl, yes ⟨_, rfl, _, eE, sz' (by rw [List.length_map, List.length_take]; omega), Same.put sX nE, ?_⟩⟩
        rw [upd_same, List.take_add_one, eit, List.map_append]; rfl
      rintro H3 ⟨s3, eE⟩
      have il' : its'.length = ys.length := yl.symm
      rw [← il', List.take_length] at eE
      refine ⟨E, _, rfl, .inl ⟨SqL.of eE, fun u nu => ?_⟩⟩
      have su := same_new (o := .tup (its'.map (·.1))) nu
      refine ⟨by show 2 ≤ sizeLine; decide, fun z nz => ?_⟩
      have sz1 := same_new (o := .tup [.str wd, .ref u]) nz
      refine ⟨by show 2 ≤ sizeLine; decide, fun z2 nz2 => ?_⟩
      have sz2 := same_new (o := .tup [.int (it0.2.headD 0), .ref z]) nz2
      have s2z := s3.trans (su.trans (sz1.trans sz2))
      have sAll := (s1.trans spp).trans s2z
      refine q z2 (.ref z) _ (same_free ((s1.trans spp).trans (s3.trans (su.trans sz1))) nz2) sAll (by rw [least]; exact upd_same) ?_
      refine .inr ⟨z, u, wd, its'.map (·.1), its'.map (·.2), rfl, sz2 _ _ upd_same, ⟨rI.1, by omega⟩, kd', sz2 _ _ (sz1 _ _ upd_same), ?_⟩
      have key : ∀ l : List (V × List Int), (∀ it ∈ l, TrX rs H2 m it.1 it.2) → ∀ HX, Same H2 HX → All2 (TrX rs HX m) (l.map (·.1)) (l.map (·.2)) := fun l => by
        induction l with
        | nil => intro _ HX _; exact trivial
        | cons a l ih => intro h HX sX; exact ⟨(h a List.mem_cons_self).mono (Same.tst sX), ih (fun b hb => h b (List.mem_cons_of_mem _ hb)) HX sX⟩
      exact key its' hi2 _ s2z
theorem ok_numd {f : Addr} {fd : FuncData} (B : Bts mg) (F : Fun K "_law_numbered" "_law_numbered" s__law_numbered f fd) (hm : mg "_law_numbered" = some (.ref f)) (hb : Binds K fd ["_law_tree", "_law_numbers"] []) :
    ∀ m, FnOk P w K mg base CX0 (m + 1) f fd ["_law_tree", "_law_numbers"] (sp_numd m)
  | 0 => ⟨fun vs H Q E ⟨_, _, _, _, _, _, _, h, _⟩ => h.elim, fun _ _ _ _ _ _ _ _ _ _ _ _ _ ⟨_, _, _, _, _, _, _, h, _⟩ => h.elim⟩
  | m + 1 => ok_numd1 B F (Cl.mk' F hm hb (ok_numd B F hm hb m))
end
end My

set_option Elab.async false
set_option linter.all false
set_option maxRecDepth 100000
namespace My
open PySem PySem.Spec PyProof.Rows L2 GxR
/-! ### two tables -/
structure St2 (PT PM : Addr) (H0 H : Hp) : Prop where
  fr : ∀ b o, b ≠ PT → b ≠ PM → H0 b = some o → H b = some o
  t1 : TabG H PT
  t2 : TabG H PM
theorem St2.refl {PT PM : Addr} {H : Hp} (a : TabG H PT) (b : TabG H PM) : St2 PT PM H H := ⟨fun _ _ _ _ e => e, a, b⟩
theorem St2.trans {PT PM : Addr} {H0 H1 H2 : Hp} (a : St2 PT PM H0 H1) (b : St2 PT PM H1 H2) : St2 PT PM H0 H2 := ⟨fun c o n1 n2 e => b.fr c o n1 n2 (a.fr c o n1 n2 e), b.t1, b.t2⟩
theorem St2.same {PT PM : Addr} {H0 H H' : Hp} (h : St2 PT PM H0 H) (s : Same H H') : St2 PT PM H0 H' := ⟨fun b o n1 n2 e => s _ _ (h.fr b o n1 n2 e), tab_same h.t1 s, tab_same h.t2 s⟩
theorem tab_keep {PT PM : Addr} {H H' : Hp} (s : FrM [PT] H H') (t : TabG H' PT) (m : TabG H PM) : TabG H' PM := by
  by_cases e : PM = PT
  · rw [e]; exact t
  · obtain ⟨ps, h1, h2⟩ := m
    exact ⟨ps, s _ _ (fun z => e (List.mem_singleton.mp z)) h1, h2⟩
theorem St2.tabT {PT PM : Addr} {H0 H H' : Hp} (h : St2 PT PM H0 H) (s : FrM [PT] H H') (t : TabG H' PT) : St2 PT PM H0 H' :=
  ⟨fun b o n1 n2 e => s _ _ (fun z => n1 (List.mem_singleton.mp z)) (h.fr b o n1 n2 e), t, tab_keep s t h.t2⟩
theorem St2.tabM {PT PM : Addr} {H0 H H' : Hp} (h : St2 PT PM H0 H) (s : FrM [PM] H H') (t : TabG H' PM) : St2 PT PM H0 H' :=
  ⟨fun b o n1 n2 e => s _ _ (fun z => n2 (List.mem_singleton.mp z)) (h.fr b o n1 n2 e), tab_keep s t h.t1, t⟩
theorem St2.free {PT PM p : Addr} {H0 H : Hp} (h : St2 PT PM H0 H) (e : H p = none) : H0 p = none := by
  cases z : H0 p with
  | none => rfl
  | some o =>
    exfalso
    by_cases h1 : p = PT
    · obtain ⟨ps, k, _⟩ := h.t1
      rw [h1, k] at e; cases e
    by_cases h2 : p = PM
    · obtain ⟨ps, k, _⟩ := h.t2
      rw [h2, k] at e; cases e
    rw [h.fr p o h1 h2 z] at e; cases e
theorem tab_neT {PT p : Addr} {H : Hp} {xs : List V} (t : TabG H PT) (e : H p = some (.tup xs)) : p ≠ PT := fun z => by
  obtain ⟨ps, h1, _⟩ := t
  rw [z, h1] at e; cases e
theorem St2.tst {PT PM : Addr} {H0 H : Hp} (h : St2 PT PM H0 H) (a : TabG H0 PT) (b : TabG H0 PM) : Tst H0 H := fun p xs e => h.fr p _ (tab_neT a e) (tab_neT b e) e
theorem St2.lst {PT PM p : Addr} {H0 H : Hp} {xs : List V} (h : St2 PT PM H0 H) (a : TabG H0 PT) (b : TabG H0 PM) (e : H0 p = some (.lst xs)) : H p = some (.lst xs) := h.fr p _ (tab_ne a e) (tab_ne b e) e
theorem St2.frL {PT PM L : Addr} {H0 H H' : Hp} {c : Int} (h : St2 PT PM H0 H) (lf : Lf H L c) (n0 : H0 L = none) (f : Fr L H H') : St2 PT PM H0 H' := by
  obtain ⟨x, y, z, e, _⟩ := lf
  obtain ⟨ps, h1, h2⟩ := h.t1
  obtain ⟨ps', k1, k2⟩ := h.t2
  have n1 : PT ≠ L := fun w => by rw [w, e] at h1; cases h1
  have n2 : PM ≠ L := fun w => by rw [w, e] at k1; cases k1
  exact ⟨fun b o m1 m2 eb => f b o (fun w => by rw [w, n0] at eb; cases eb) (h.fr b o m1 m2 eb), ⟨ps, f _ _ n1 h1, h2⟩, ⟨ps', f _ _ n2 k1, k2⟩⟩
theorem St2.put {PT PM p : Addr} {H0 H : Hp} {o : HO} {xs : List V} (h : St2 PT PM H0 H) (e : H0 p = none) (e2 : H p = some (.lst xs)) : St2 PT PM H0 (upd H p o) := by
  obtain ⟨ps, h1, h2⟩ := h.t1
  obtain ⟨ps', k1, k2⟩ := h.t2
  exact ⟨fun b x m1 m2 eb => by rw [upd_ne (fun z => by rw [z, e] at eb; cases eb)]; exact h.fr b x m1 m2 eb, ⟨ps, by rw [upd_ne (Ne.symm (tab_ne h.t1 e2))]; exact h1, h2⟩, ⟨ps', by rw [upd_ne (Ne.symm (tab_ne h.t2 e2))]; exact k1, k2⟩⟩
theorem lf_st2 {PT PM L : Addr} {H H' : Hp} {c : Int} (lf : Lf H L c) (s : St2 PT PM H H') (a : TabG H PT) (b : TabG H PM) : Lf H' L c := by
  obtain ⟨x, y, z, e, h⟩ := lf
  exact ⟨x, y, z, s.lst a b e, h⟩
theorem Eqd.ups {m : Nat} {H : Hp} {x y : V} (h : Eqd m H x y) : ∀ {k : Nat}, m ≤ k → Eqd k H x y := fun {k} hk => by
  obtain ⟨d, rfl⟩ : ∃ d, k = m + d := ⟨k - m, by omega⟩
  clear hk
  induction d with
  | zero => exact h
  | succ d ih => exact ih.up
theorem intsT_eqd {H : Hp} {p q : Addr} {ns : List Int} {m : Nat} (hp : H p = some (.tup (ns.map V.int))) (hq : H q = some (.tup (ns.map V.int))) (l : ns.length ≤ 10000) : Eqd (m + 1) H (.ref p) (.ref q) := by
  refine .inr ⟨p, q, _, _, rfl, rfl, .inl ⟨hp, hq⟩, rfl, by rw [List.length_map]; exact l, fun i v u e f => ?_⟩
  rw [e] at f
  cases f
  rw [List.getElem?_map] at e
  obtain ⟨n, _, rfl⟩ := Option.map_eq_some_iff.mp e
  exact Eqd.int
end My

set_option Elab.async false
set_option linter.all false
set_option maxRecDepth 100000
set_option pp.maxSteps 400
set_option maxHeartbeats 4000000
namespace My
open PySem PySem.Spec PyProof.Rows L2 GxR
theorem paired_appK {α β : Type} {R : α → β → Prop} : ∀ {l : List α} {m : List β} {a : α} {b : β}, Paired R l m → R a b → Paired R (l ++ [a]) (m ++ [b])
  | _, _, _, _, .nil, h => .cons h .nil
  | _, _, _, _, .cons h t, k => .cons h (paired_appK t k)
theorem paired_monoK {α β : Type} {R S : α → β → Prop} (f : ∀ a b, R a b → S a b) : ∀ {l : List α} {m : List β}, Paired R l m → Paired S l m
  | _, _, .nil => .nil
  | _, _, .cons h t => .cons (f _ _ h) (paired_monoK f t)
/-- the spots of a row of places -/
def enK (J : List Int) (j : Nat) : List (Key × V) := (List.range j).map fun i => (Sum.inl (J.getD i 0), V.int (i : Int))
theorem enK_val {J : List Int} (nd : J.Nodup) : ∀ (j : Nat), j ≤ J.length → ∀ (i : Nat) (x : Int), J[i]? = some x → valV (mergeK [] (enK J j)) (Sum.inl x) = if i < j then some (V.int (i : Int)) else none
  | 0, _, i, x, _ => by rw [if_neg (Nat.not_lt_zero _)]; rfl
  | j + 1, h, i, x, e => by
    have es : enK J (j + 1) = enK J j ++ [(Sum.inl (J.getD j 0), V.int (j : Int))] := by unfold enK; rw [List.range_succ, List.map_append]; rfl
    have em : mergeK [] (enK J (j + 1)) = putK (mergeK [] (enK J j)) (Sum.inl (J.getD j 0)) (V.int (j : Int)) := by rw [es]; unfold mergeK; rw [List.foldl_append]; rfl
    rw [em, valV_put, enK_val nd j (by omega) i x e]
    have gj : J[j]? = some (J.getD j 0) := by rw [List.getD_eq_getElem?_getD, List.getElem?_eq_getElem (by omega : j < J.length)]; rfl
    by_cases ij : i = j
    · subst ij
      rw [e] at gj
      rw [if_pos (by rw [← Option.some.inj gj]), if_pos (Nat.lt_succ_self _)]
    · have ne : ¬ (Sum.inl x : Key) = Sum.inl (J.getD j 0) := fun z => ij (by
        have := Sum.inl.inj z
        obtain ⟨h1, e1⟩ := List.getElem?_eq_some_iff.mp e
        obtain ⟨h2, e2⟩ := List.getElem?_eq_some_iff.mp gj
        exact (List.getElem_inj nd).mp (e1.trans (this.trans e2.symm)))
      rw [if_neg ne]
      by_cases lt : i < j
      · rw [if_pos lt, if_pos (by omega)]
      · rw [if_neg lt, if_neg (by omega)]
theorem TrX.rise {ts : List Ar} {H : Hp} : ∀ {m : Nat} {v : V} {I : List Int}, TrX ts H m v I → I.Pairwise (· < ·)
  | 0, _, _, h => h.elim
  | m + 1, v, I, h => by
    rcases h with ⟨p, i, e, a, rfl⟩ | ⟨p, q, w, vs, Is, e, a, b, k, c, d⟩
    · exact List.pairwise_singleton _ _
    · exact b.1
theorem TrX.up1 {ts : List Ar} {H : Hp} : ∀ {m : Nat} {v : V} {I : List Int}, TrX ts H m v I → TrX ts H (m + 1) v I
  | 0, _, _, h => h.elim
  | m + 1, v, I, h => by
    rcases h with ⟨p, i, e, a, b⟩ | ⟨p, q, w, vs, Is, e, a, b, k, c, d⟩
    · exact .inl ⟨p, i, e, a, b⟩
    · exact .inr ⟨p, q, w, vs, Is, e, a, b, k, c, d.imp fun _ _ h => TrX.up1 h⟩
theorem TrX.ups {ts : List Ar} {H : Hp} {m : Nat} {v : V} {I : List Int} (h : TrX ts H m v I) : ∀ {k : Nat}, m ≤ k → TrX ts H k v I := fun {k} hk => by
  obtain ⟨d, rfl⟩ : ∃ d, k = m + d := ⟨k - m, by omega⟩
  clear hk
  induction d with
  | zero => exact h
  | succ d ih => exact ih.up1
/-- a part of a web has other numbers -/
theorem part_ren {n : Nat} {ts : List Ar} {J : List Int} (hW : WOk n ts) (rJ : J.Pairwise (· < ·)) : RenI (fun x => (J.idxOf x : Int)) ts (partL ts J) J := by
  have nd : J.Nodup := rJ.imp fun h => Int.ne_of_lt h
  refine ⟨fun x hx y hy e => ?_, fun x hx y hy n => ?_⟩
  · have e' : J.idxOf x = J.idxOf y := by have : (J.idxOf x : Int) = J.idxOf y := e; omega
    have g1 := idx_get hx
    have g2 := idx_get hy
    rw [e', g2] at g1
    exact (Option.some.inj g1).symm
  · have g1 := idx_get hx
    have g2 := idx_get hy
    have l1 := List.idxOf_lt_length_of_mem hx
    have l2 := List.idxOf_lt_length_of_mem hy
    have mono : ∀ {a b : Int}, a ∈ J → b ∈ J → a < b → J.idxOf a < J.idxOf b := fun {a b} ha hb lt => by
      refine Classical.byContradiction fun k => ?_
      have ga := idx_get ha
      have gb := idx_get hb
      obtain ⟨h1, e1⟩ := List.getElem?_eq_some_iff.mp ga
      obtain ⟨h2, e2⟩ := List.getElem?_eq_some_iff.mp gb
      rcases Nat.lt_or_eq_of_le (Nat.le_of_not_lt k) with z | z
      · have := List.pairwise_iff_getElem.mp rJ _ _ h2 h1 z
        rw [e1, e2] at this; omega
      · rw [← z, gb] at ga
        have := Option.some.inj ga
        omega
    have key : ∀ {a b : Int}, a ∈ J → b ∈ J → a < b → (((J.idxOf a : Int), (J.idxOf b : Int)) ∈ partL ts J ↔ (a, b) ∈ ts) := fun {a b} ha hb lt => by
      rw [mem_part nd]
      constructor
      · rintro ⟨i, j, u, v, e, ei, ej, h⟩
        injection e with e1 e2
        have e1' : i = J.idxOf a := by omega
        have e2' : j = J.idxOf b := by omega
        subst e1'; subst e2'
        rw [idx_get ha] at ei
        rw [idx_get hb] at ej
        rw [Option.some.inj ei, Option.some.inj ej]; exact h
      · intro h
        exact ⟨_, _, a, b, rfl, idx_get ha, idx_get hb, h⟩
    unfold adjB
    refine decide_eq_decide.mpr ?_
    rcases Int.lt_or_lt_of_ne n with lt | lt
    · have := mono hx hy lt
      rw [tieO_lt (show (J.idxOf x : Int) < J.idxOf y by omega), tieO_lt lt]
      exact key hx hy lt
    · have := mono hy hx lt
      rw [tieO_comm, tieO_comm x y, tieO_lt (show (J.idxOf y : Int) < J.idxOf x by omega), tieO_lt lt]
      exact key hy hx lt
theorem part_upK {J : List Int} (rJ : J.Pairwise (· < ·)) (l : J.length ≤ 12) : srtP (J.map fun x => (J.idxOf x : Int)) = up J.length := by
  have nd : J.Nodup := rJ.imp fun h => Int.ne_of_lt h
  refine rise_ext (srtP_rise _) (ris_up _).1 fun z => ?_
  unfold srtP
  rw [List.mem_filter, decide_eq_true_iff, mem_up, mem_up, List.mem_map]
  constructor
  · rintro ⟨_, x, hx, rfl⟩
    have := List.idxOf_lt_length_of_mem hx
    omega
  · rintro ⟨h0, h1⟩
    obtain ⟨i, rfl⟩ := natOf h0
    have hi : i < J.length := by omega
    refine ⟨by omega, J[i], List.getElem_mem hi, ?_⟩
    have := idx_of nd (List.getElem?_eq_getElem hi)
    omega
theorem least_selfK {n : Nat} {ts : List Ar} {J L : List Int} (rJ : J.Pairwise (· < ·)) (inJ : ∀ x ∈ J, x ∈ up n) (h : CloI ts (up n) (· ∈ J)) (k : Least n ts J L) : L = J := by
  refine k.uniq ⟨⟨fun x hx => hx, fun x hx => mem_up.mp (inJ x hx), rJ.imp fun h => Int.ne_of_lt h, fun M _ hM x hx => hM x hx⟩, fun p p0 p1 np => ?_, rJ⟩
  refine Bool.eq_false_iff.mpr fun z => ?_
  obtain ⟨⟨a, ha, ea⟩, b, hb, eb⟩ := parts_iff.mp z
  have := h p (mem_up.mpr ⟨p0, p1⟩) np a (inJ a ha) b (inJ b hb) ha hb
  rw [ea, eb] at this; cases this
/-- a node that waits, as a module -/
def NdW (ts : List Ar) (n : Nat) (H : Hp) (v : V) (J : List Int) : Prop := (∃ m, m ≤ 12 ∧ TrX ts H m v J) ∧ CloI ts (up n) (· ∈ J) ∧ (∀ x ∈ J, x ∈ up n)
theorem NdW.mono {ts : List Ar} {n : Nat} {H H' : Hp} {v : V} {J : List Int} (t : Tst H H') (h : NdW ts n H v J) : NdW ts n H' v J := by
  obtain ⟨⟨m, a, b⟩, c⟩ := h
  exact ⟨⟨m, a, b.mono t⟩, c⟩
theorem NdW.e {ts : List Ar} {n : Nat} {H : Hp} {v : V} {J : List Int} (h : NdW ts n H v J) : TrE H v J := by
  obtain ⟨⟨m, a, b⟩, c⟩ := h
  exact ⟨m, by omega, b.at⟩
theorem NdW.ne {ts : List Ar} {n : Nat} {H : Hp} {v : V} {J : List Int} (h : NdW ts n H v J) : J ≠ [] := by
  obtain ⟨⟨m, a, b⟩, c⟩ := h
  exact b.ne
theorem ndW_len {ts : List Ar} {n : Nat} {H : Hp} : ∀ (us : List V) (G : List (List Int)), All2 (NdW ts n H) us G → G.length ≤ G.flatten.length
  | [], [], _ => Nat.le_refl _
  | x :: us, A :: G, h => by
    have a := List.length_pos_iff.mpr h.1.ne
    have := ndW_len us G h.2
    rw [List.flatten_cons, List.length_append, List.length_cons]; omega
  | [], _ :: _, h => h.elim
  | _ :: _, [], h => h.elim
section
variable {P : Program} {w : World} {K : PySem.W.Frag} {mg : Str → Option Value} {base : Heap}
/-! ### _law_nodes_right -/
abbrev s__law_nodes_right : Stmt := topS 32
abbrev N__law_nodes_right : List Str := ["_law_web", "_law_tree", "_law_waiting", "_law_node", "_law_places", "_law_order", "_law_at", "_law_place"]
theorem sc__law_nodes_right : FnScope N__law_nodes_right ["_law_web", "_law_tree"] (defScope s__law_nodes_right) := ⟨rfl, rfl, rfl, by decide +kernel, rfl, by decide +kernel, by decide +kernel⟩
def sp_ndr (PT PM : Addr) : Sp := fun vs H Q _ => ∃ (v u : V) (n : Nat) (ts : List Ar), vs = [v, u] ∧ Web H v n ts ∧ WOk n ts ∧ 1 ≤ n ∧ n ≤ 12 ∧ TrX ts H 12 u (up n) ∧ TabG H PT ∧ TabG H PM ∧ ∀ H', St2 PT PM H H' → Q (.bl true) H'
theorem ok_ndr {f PT PM : Addr} {fd : FuncData} (B : Bts mg) (F : Fun K "_law_nodes_right" "_law_nodes_right" s__law_nodes_right f fd) (c_places_in : Cl P w K mg base 14 "places_in" (sp_plin 13)) (c_part_of : Cl P w K mg base 1 "part_of" sp_part) (c_parts_of : Cl P w K mg base 20 "parts_of" (sp_parts PT))
    (c__law_numbered : Cl P w K mg base 13 "_law_numbered" (sp_numd 12)) (c_is_module : Cl P w K mg base 6 "is_module" (sp_module PM)) (c_least_module : Cl P w K mg base 5 "least_module" sp_least) (c__law_same : Cl P w K mg base 25 "_law_same" (sp_same 25)) : FnOk P w K mg base CX0 26 f fd ["_law_web", "_law_tree"] (sp_ndr PT PM) := by
  refine F.ok sc__law_nodes_right (fun vs H Q E h => ?_) (fun cdv A outer s H vs Q E hr h => ?_)
  · obtain ⟨v, u, n, ts, rfl, _⟩ := h; rfl
  · obtain ⟨v, u, n, ts, rfl, hWeb, hW, n1, n12, hu, tT, tM, q⟩ := h
    refine ⟨_, (pss_cons (ps_set (i := 2) sc__law_nodes_right.nd rfl (by first | exact Or.inl rfl | exact Or.inr rfl) (pe_lst (pa_cons (pv 1) pa_nil)))
    (pss_cons (ps_while PassesOwn.never (pt_cmpR (op_neD hr.units) (pv 2) (pe_lst pa_nil) (nomark _))
      (pss_cons (ps_set (i := 3) sc__law_nodes_right.nd rfl (by first | exact Or.inl rfl | exact Or.inr rfl) (pe_bm0 PySem.F.plainAttrs_list PySem.F.slot_list_pop PySem.F.type_list_pop mt_pop (pv 2)))
      (pss_cons (ps_set (i := 4) sc__law_nodes_right.nd rfl (by first | exact Or.inl rfl | exact Or.inr rfl) (pe_c c_places_in hr (by decide) (by rfl) (pa_cons (pv 3) pa_nil)))
      (pss_cons (ps_set (i := 5) sc__law_nodes_right.nd rfl (by first | exact Or.inl rfl | exact Or.inr rfl) (pe_callTy (call_dictP rfl) (by rfl) B.dict (by decide +kernel) (pa_cons (pe_lc (own := [("_law_at", 6), ("_law_place", 7)]) (g := (gTup K 2 (gCons (gName 6) (gCons (gName 7) gNil)))) (tt := tYes) rfl sc__law_nodes_right.nd (pi_enum (by rfl) B.enumerate (pa_cons (pv 4) pa_nil)) (blkOk_by (own := [("_law_at", 6), ("_law_place", 7)]) (N := N__law_nodes_right) (sc := defScope s__law_nodes_right) (by decide +kernel)) (fun _ _ _ _ _ => (pg_tup rfl (pgs_cons (pg_name (i := 6) sc__law_nodes_right.nd rfl (by first | exact Or.inl rfl | exact Or.inr rfl)) (pgs_cons (pg_name (i := 7) sc__law_nodes_right.nd rfl (by first | exact Or.inl rfl | exact Or.inr rfl)) pgs_nil)))) (fun _ _ _ _ _ => pts_nil) (fun _ _ _ _ _ => (pe_tup (pa_cons (pv 7) (pa_cons (pv 6) pa_nil))))) pa_nil)))
      (pss_cons (ps_if (pt_not (pt_val (pe_c c__law_same hr (by decide) (by rfl) (pa_cons (pe_c c_parts_of hr (by decide) (by rfl) (pa_cons (pe_c c_part_of hr (by decide) (by rfl) (pa_cons (pv 0) (pa_cons (pv 4) pa_nil))) pa_nil)) (pa_cons (pe_ix ix_tup (pe_c c__law_numbered hr (by decide) (by rfl) (pa_cons (pv 3) (pa_cons (pv 5) pa_nil))) pe_int (fun _ _ => rfl)) pa_nil))))) (pss_one (ps_ret pe_bl)) pss_nil)
      (pss_cons (ps_if (PW.pt (pw_or (pt_cmpR op_notBl (pe_c c_is_module hr (by decide) (by rfl) (pa_cons (pv 0) (pa_cons (pv 4) pa_nil))) pe_bl (nomark _)) (pw_or1 (pt_cmpR (op_neD hr.units) (pe_c c_least_module hr (by decide) (by rfl) (pa_cons (pv 0) (pa_cons (pv 4) pa_nil))) (pv 4) (nomark _))))) (pss_one (ps_ret pe_bl)) pss_nil)
      (pss_one (ps_if (pt_cmpR op_ne (pe_ix ix_tup (pv 3) pe_int (fun _ _ => rfl)) pe_str (nomark _)) (pss_one (ps_expr (pe_bm PySem.F.plainAttrs_list PySem.F.slot_list_extend PySem.F.type_list_extend mt_extendT (pv 2) (pa_cons (pe_ix ix_tup (pv 3) pe_int (fun _ _ => rfl)) pa_nil)))) pss_nil))))))))
    (pss_one (ps_ret pe_bl)))), ?_⟩
    have tl : ts.length ≤ 10000 := wok_len hW (by omega)
    refine ⟨_, rfl, by show 1 ≤ sizeLine; decide, fun Wa nWa => ?_⟩
    have sW := same_new (o := .lst [u]) nWa
    have eW := upd_same (H := H) (a := Wa) (o := .lst [u])
    have S8 := (St2.refl tT tM).same sW
    have tW := Same.tst sW
    generalize upd H Wa (.lst [u]) = H8 at sW eW S8 tW ⊢
    have root : NdW ts n H8 u (up n) := ⟨⟨12, by decide, hu.mono tW⟩, fun p hp np => absurd hp np, fun x hx => hx⟩
    let Wk : Nat → L2.St → Hp → Prop := fun m σ HX => ∃ xs Js y3 y4 y5 y6 y7, σ = [some v, some u, some (.ref Wa), y3, y4, y5, y6, y7] ∧ St2 PT PM H HX ∧ HX Wa = some (.lst xs) ∧ All2 (NdW ts n HX) xs Js ∧ Js.flatten.length ≤ 12 ∧ m = wlkS Js
    refine ⟨Wk, ⟨_, [u], [up n], _, _, _, _, _, rfl, S8, eW, ⟨root, trivial⟩, by rw [List.flatten_cons, List.flatten_nil, List.append_nil, up_len]; exact n12, rfl⟩, ?_⟩
    rintro m σ H9 ⟨xs, Js, y3, y4, y5, y6, y7, rfl, S9, eW9, hJ, jl, rfl⟩
    refine ⟨_, rfl, Nat.zero_le _, fun en nen => ?_⟩
    have se := same_new (o := .lst []) nen
    obtain ⟨ds, hd2, sh2, ev2⟩ := tre_ne (K := K) (All2.imp (fun _ _ (h : NdW ts n H9 _ _) => (h.mono (Same.tst se)).e) hJ)
    refine ⟨_, _, .lst (SqL.of (se _ _ eW9)) hd2, .lst (SqL.of upd_same) .nil, sh2, rfl, _, rfl, ?_⟩
    rw [ev2]
    have SA := S9.same se
    have eWA := se _ _ eW9
    have hJA : All2 (NdW ts n (upd H9 en (.lst []))) xs Js := hJ.imp fun _ _ h => h.mono (Same.tst se)
    clear hd2
    generalize upd H9 en (.lst []) = HA at SA eWA hJA ⊢
    by_cases hxs : xs = []
    · rw [decide_eq_true hxs]
      exact iteF (q _ SA)
    rw [decide_eq_false hxs]
    obtain ⟨xs', x2, Js', J, rfl, rfl, hJ', hx2⟩ := all2_last hJA hxs
    rw [wlkS_app, wlkS_one]
    rw [List.flatten_append, List.length_append, List.flatten_cons, List.flatten_nil, List.append_nil] at jl
    have J0 := List.length_pos_iff.mpr hx2.ne
    refine iteT ⟨fun σ' H' => ∃ m', m' < wlkS Js' + (2 * J.length - 1) ∧ Wk m' σ' H', fun σ' H' hh => hh, ?_⟩
    refine ⟨_, rfl, .inl ⟨rfl, _, SqL.of eWA⟩, Wa, _, x2, rfl, rfl, eWA, pop_last, ?_⟩
    rw [List.dropLast_concat]
    have tI := tst_put (o := .lst xs') eWA
    have SB : St2 PT PM H (upd HA Wa (.lst xs')) := SA.put nWa eWA
    have eWB := upd_same (H := HA) (a := Wa) (o := .lst xs')
    have hJB : All2 (NdW ts n (upd HA Wa (.lst xs'))) xs' Js' := hJ'.imp fun _ _ h => h.mono tI
    have hxB := hx2.mono tI
    generalize upd HA Wa (.lst xs') = HB at SB eWB hJB hxB ⊢
    obtain ⟨⟨mm, hmm, htr⟩, cJ, inJ⟩ := hxB
    have rJ := htr.rise
    have nJ : J.Nodup := rJ.imp fun h => Int.ne_of_lt h
    have hWebB := hWeb.mono (SB.tst tT tM)
    -- its places
    refine ⟨_, rfl, x2, J, rfl, (htr.ups (by omega : mm ≤ 13)).at, by omega, fun T r HC nr sC pmT srT er => ?_⟩
    have eTJ : T = J := rise_ext (rise_of srT (pmT.nodup_iff.mpr nJ)) rJ fun x => pmT.mem_iff
    subst eTJ
    have SC := SB.same sC
    -- their order
    refine ⟨_, rfl, r, _, rfl, SqL.of er, fun D nD => ?_⟩
    have n0D := same_free sC nD
    refine wk (walk_enum (K := K) (a := r) (xs := T.map V.int)) (fun j HX => ∃ ps : List Addr, Same HC HX ∧ HX D = some (.lst (ps.map V.ref)) ∧ Paired (fun p kv => HX p = some (.tup [kV kv.1, kv.2])) ps (enK T j) ∧ ps.length = j) ⟨[], same_new nD, upd_same, .nil, rfl⟩ ?_ ?_ ?_
    · rintro j HX _ ⟨_, sX, _⟩
      exact SqL.of (sX _ _ er)
    · rintro j z HX HY hj ⟨ps, sX, eD, hP, pl⟩ ⟨Tp, x1, x2', rfl, nTp, rfl, ex1, ex2⟩
      cases ex1
      dsimp only at ex2
      rw [List.length_map] at hj
      rw [List.getElem?_map] at ex2
      obtain ⟨pl0, epl, rfl⟩ := Option.map_eq_some_iff.mp ex2
      have sTp := same_new (o := .tup [.int ((j : Nat) : Int), .int pl0]) nTp
      refine ⟨Tp, _, rfl, SqT.of upd_same, rfl, _, _, rfl, _, _, rfl, rfl, rfl, yes ⟨_, rfl, _, rfl, by show 2 ≤ sizeLine; decide, fun k nk => ?_⟩⟩
      have sk := same_new (o := .tup [.int pl0, .int ((j : Nat) : Int)]) nk
      have eDk := sk _ _ (sTp _ _ eD)
      have nkD : k ≠ D := fun z => by rw [z, sTp _ _ eD] at nk; cases nk
      have sAll : Same HX (upd (upd HX Tp (.tup [.int ((j : Nat) : Int), .int pl0])) k (.tup [.int pl0, .int ((j : Nat) : Int)])) := sTp.trans sk
      have tp := tst_put (o := .lst (ps.map V.ref ++ [.ref k])) eDk
      refine ⟨_, eDk, sz' (by rw [List.length_map]; omega), ps ++ [k], Same.put (sX.trans sAll) nD, by rw [upd_same, List.map_append]; rfl, ?_, by rw [List.length_append, pl]; rfl⟩
      have es : enK T (j + 1) = enK T j ++ [(Sum.inl pl0, V.int (j : Int))] := by
        unfold enK
        rw [List.range_succ, List.map_append]
        have : T.getD j 0 = pl0 := by rw [List.getD_eq_getElem?_getD, epl]; rfl
        show _ ++ [(Sum.inl (T.getD j 0), V.int (j : Int))] = _
        rw [this]
      rw [es]
      exact paired_appK (paired_monoK (fun a b h => tp _ _ (sAll _ _ h)) hP) (tp _ _ upd_same)
    rintro HD ⟨ps, sD, eD, hP, pl⟩
    rw [List.length_map] at hP
    refine ⟨D, ps, enK T T.length, rfl, SqL.of eD, paired_monoK (fun _ _ h => SqT.of h) hP, fun dd ndd => ?_⟩
    have sdd := same_new (o := .dK (mergeK [] (enK T T.length))) ndd
    have edd := upd_same (H := HD) (a := dd) (o := .dK (mergeK [] (enK T T.length)))
    have sCd := sD.trans sdd
    generalize upd HD dd (.dK (mergeK [] (enK T T.length))) = HE at sdd edd sCd ⊢
    have SE := SC.same sCd
    have sBE := sC.trans sCd
    have erE := sCd _ _ er
    have hWebE := hWebB.mono (Same.tst sBE)
    have Tl12 : T.length ≤ 12 := by omega
    -- its part's tree
    refine ⟨_, rfl, _, rfl, v, n, ts, r, T, rfl, hWebE, tl, erE, nJ, by omega, fun w1 HF sF hw1 => ?_⟩
    have SF := SE.same sF
    have rT : Ris n T := ⟨rJ, fun x hx => mem_up.mp (inJ x hx)⟩
    have wkP := part_wok rT hW
    refine ⟨w1, T.length, partL ts T, rfl, hw1, Tl12, wok_len wkP (by omega), SF.t1, fun w2 HG fG tG hw2 => ?_⟩
    have SG := SF.tabT fG tG
    have hX2 : TrX (partL ts T) HG 12 w2 (up T.length) := by
      rcases hw2 with ⟨z, _⟩ | ⟨_, h⟩
      · omega
      · exact h
    have ddG : HG dd = some (.dK (mergeK [] (enK T T.length))) := by
      have e := sF _ _ edd
      refine fG _ _ (fun z => ?_) e
      obtain ⟨ps', h1, _⟩ := SF.t1
      rw [List.mem_singleton.mp z, h1] at e; cases e
    have tBG := (Same.tst (sBE.trans sF)).trans (frM_tst fG SF.t1)
    have htrG := (htr.mono tBG).ups hmm
    have hNum : NumAt HG (.ref dd) (fun x => (T.idxOf x : Int)) T := .inr ⟨dd, _, rfl, ddG, fun x hx => by
      have := enK_val nJ T.length (Nat.le_refl _) (T.idxOf x) x (idx_get hx)
      rw [if_pos (List.idxOf_lt_length_of_mem hx)] at this
      exact this⟩
    refine ⟨_, rfl, _, rfl, x2, .ref dd, ts, partL ts T, _, T, rfl, htrG, hNum, part_ren hW rJ, fun x hx => ?_, Tl12, fun p1 u1 HI np1 sI ep1 hu1 => ?_⟩
    · have := List.idxOf_lt_length_of_mem hx
      exact ⟨by omega, by omega⟩
    rw [part_upK rJ Tl12] at hu1
    have SI := SG.same sI
    refine ⟨p1, _, 1, u1, rfl, rfl, SqT.of ep1, atI_nat (j := 1) rfl, w2, u1, rfl, (hX2.mono (Same.tst sI)).eqd hu1 (by rw [up_len]; omega), fun HJ sJ => ⟨true, rfl, iteF ?_⟩⟩
    have SJ := SI.same sJ
    have hWebJ := hWeb.mono (SJ.tst tT tM)
    have erJ : HJ r = some (.lst (T.map V.int)) := by
      have e1 := sF _ _ erE
      have e2 := frm_lst fG SF.t1 e1
      exact sJ _ _ (sI _ _ e2)
    have inR : ∀ x ∈ T, 0 ≤ x ∧ x < (n : Int) := fun x hx => mem_up.mp (inJ x hx)
    -- a module
    refine ⟨_, rfl, _, rfl, v, n, ts, r, T, rfl, hWebJ, erJ, by omega, inR, by omega, SJ.t2, fun L HK fK tK hL => ?_⟩
    have SK := SJ.tabM fK tK
    have eL := least_selfK rJ inJ cJ hL
    have bT : (!T.isEmpty && decide (L = T)) = true := by
      rw [eL, decide_eq_true rfl, Bool.and_true]
      cases T with
      | nil => simp at J0
      | cons a l => rfl
    rw [bT]
    have erK : HK r = some (.lst (T.map V.int)) := frm_lst fK SJ.t2 erJ
    refine ⟨true, true, rfl, rfl, _, rfl, iteF ?_⟩
    have hWebK := hWeb.mono (SK.tst tT tM)
    refine ⟨_, rfl, _, rfl, v, n, ts, r, T, rfl, hWebK, erK, by omega, inR, by omega, fun L2 r2 HL nr2 sL hL2 er2 => ?_⟩
    have eL2 := least_selfK rJ inJ cJ hL2
    rw [eL2] at er2
    have SL := SK.same sL
    have erL := sL _ _ erK
    refine ⟨_, rfl, dI T, dI T, .lst (SqL.of er2) (dpI T), .lst (SqL.of erL) (dpI T), shaped_dI T, shaped_dI T, _, rfl, ?_⟩
    have ee : (!PyData.eqv (dI T) (dI T)) = false := by rw [eqv_dI2, decide_eq_true rfl]; rfl
    rw [ee]
    refine iteF ?_
    -- its nodes
    have eWL : HL Wa = some (.lst xs') := by
      have e1 := sBE _ _ eWB
      have e2 := frm_lst fG SF.t1 (sF _ _ e1)
      have e3 := frm_lst fK SJ.t2 (sJ _ _ (sI _ _ e2))
      exact sL _ _ e3
    have tBL : Tst HB HL := by
      have t1 := tBG.trans (Same.tst (sI.trans sJ))
      exact (t1.trans (frM_tst fK SJ.t2)).trans (Same.tst sL)
    have hJL : All2 (NdW ts n HL) xs' Js' := hJB.imp fun _ _ h => h.mono tBL
    have htL := htr.mono tBL
    obtain ⟨mm, rfl⟩ : ∃ k, mm = k + 1 := by
      cases mm with
      | zero => exact htr.elim
      | succ k => exact ⟨k, rfl⟩
    rcases htL with ⟨q1, i1, rfl, eq1, rfl⟩ | ⟨q1, q2, wd, vs1, Is1, rfl, eq1, ⟨rr, l2⟩, kd, eq2, hch⟩
    · refine ⟨_, rfl, q1, _, 0, .str "place", rfl, rfl, SqT.of eq1, atI_nat (j := 0) rfl, rfl, _, rfl, ?_⟩
      rw [decide_eq_true rfl]
      exact iteF ⟨wlkS Js', by omega, xs', Js', _, _, _, _, _, rfl, SL, eWL, hJL, by omega, rfl⟩
    · have wne := kd.word
      have pt := kd.part rr l2
      refine ⟨_, rfl, q1, _, 0, .str wd, rfl, rfl, SqT.of eq1, atI_nat (j := 0) rfl, rfl, _, rfl, ?_⟩
      rw [decide_eq_false (fun z => wne.1 (V.str.inj z))]
      have ptf : Is1.flatten.length = T.length := pt.perm.length_eq
      have ptw := wlkS_flat (Js := Is1) pt.ne
      have pt2 := pt.two
      have cl := hch.len
      have cl2 := pt.len
      have jl2 : Js'.length ≤ 12 := by
        have := ndW_len xs' Js' hJL
        omega
      have xl := hJL.len
      refine iteT ⟨_, rfl, .inl ⟨rfl, _, SqL.of eWL⟩, _, rfl, q1, _, 1, .ref q2, rfl, rfl, SqT.of eq1, atI_nat (j := 1) rfl, Wa, q2, xs', vs1, rfl, rfl, eWL, SqT.of eq2, sz (by omega), ?_⟩
      have tD := tst_put (o := .lst (xs' ++ vs1)) eWL
      refine ⟨wlkS Js' + wlkS Is1, by omega, xs' ++ vs1, Js' ++ Is1, _, _, _, _, _, rfl, SL.put nWa eWL, upd_same, All2.app (hJL.imp fun _ _ h => h.mono tD) (all2_impMem (fun x S hS h => ?_) hch), by rw [List.flatten_append, List.length_append]; omega, by rw [wlkS_app]⟩
      exact ⟨⟨mm, by omega, h.mono tD⟩, clo_sub (pt.mem hS) inJ cJ (kd.mod rr l2 S hS), fun y hy => inJ y (pt.mem hS y hy)⟩
end
end My

set_option Elab.async false
set_option linter.all false
set_option maxRecDepth 100000
set_option pp.maxSteps 400
set_option maxHeartbeats 4000000
namespace My
open PySem PySem.Spec PyProof.Rows L2 GxR
theorem lf_set1 {H : Hp} {L : Addr} {c : Int} (h : Lf H L c) : ∃ x y z : Int, H L = some (.lst [.int x, .int y, .int z]) ∧ ∀ u : Int, Lf (upd H L (.lst [.int x, .int u, .int z])) L c := by
  obtain ⟨x, y, z, h1, h2, h3, h4⟩ := h
  exact ⟨x, y, z, h1, fun u => ⟨x, u, z, upd_same, h2, h3, h4⟩⟩
theorem opp_gaps (n : Nat) (ts : List Ar) : Opp ts (gapsF ts (pup n n)) (up n) := fun x hx y hy ne => adj_gaps (mem_up.mp hx) (mem_up.mp hy) ne
theorem least_opp {n : Nat} {ts gs : List Ar} {S L : List Int} (g : Opp ts gs (up n)) (rS : ∀ x ∈ S, 0 ≤ x ∧ x < (n : Int)) (h : Least n ts S L) : Least n gs S L := by
  have flip : ∀ {ts gs : List Ar} {M : List Int}, Opp ts gs (up n) → (∀ x ∈ M, 0 ≤ x ∧ x < (n : Int)) → Clo n ts M → Clo n gs M := fun {ts gs M} g r h p p0 p1 np => by
    refine Bool.eq_false_iff.mpr fun z => ?_
    obtain ⟨⟨a, ha, ea⟩, b, hb, eb⟩ := parts_iff.mp z
    have pn : ∀ x ∈ M, p ≠ x := fun x hx e => np (e ▸ hx)
    rw [g p (mem_up.mpr ⟨p0, p1⟩) a (mem_up.mpr (r a ha)) (pn a ha)] at ea
    rw [g p (mem_up.mpr ⟨p0, p1⟩) b (mem_up.mpr (r b hb)) (pn b hb)] at eb
    have := parts_iff.mpr (⟨⟨b, hb, by cases hh : adjB ts p b <;> rw [hh] at eb <;> first | rfl | cases eb⟩, a, ha, by cases hh : adjB ts p a <;> rw [hh] at ea <;> first | rfl | cases ea⟩ : (∃ a ∈ M, adjB ts p a = true) ∧ ∃ b ∈ M, adjB ts p b = false)
    rw [h p p0 p1 np] at this; cases this
  refine ⟨⟨h.lm.sub, h.lm.rng, h.lm.nd, fun M hM hS x hx => ?_⟩, flip g h.lm.rng h.clo, h.rise⟩
  -- M may have places beyond: what it has below n does
  have hM' : Clo n ts (M.filter fun x => decide (0 ≤ x ∧ x < (n : Int))) := by
    refine flip g.symm (fun x hx => of_decide_eq_true (List.mem_filter.mp hx).2) ?_
    intro p p0 p1 np
    refine Bool.eq_false_iff.mpr fun z => ?_
    have npM : p ∉ M := fun m => np (List.mem_filter.mpr ⟨m, decide_eq_true ⟨p0, p1⟩⟩)
    have := parts_mono (M := M) (fun x hx => (List.mem_filter.mp hx).1) z
    rw [hM p p0 p1 npM] at this; cases this
  exact (List.mem_filter.mp (h.lm.low _ hM' (fun y hy => List.mem_filter.mpr ⟨hS y hy, decide_eq_true (rS y hy)⟩) x hx)).1
section
variable {P : Program} {w : World} {K : PySem.W.Frag} {mg : Str → Option Value} {base : Heap}
/-! ### law -/
abbrev s_law : Stmt := topS 33
abbrev N_law : List Str := ["_law_script", "_law_cells", "_law_k", "_law_left_here", "_law_web", "_law_tree", "_law_ways", "_law_gaps", "_law_turn", "_law_places", "_law_place", "_law_numbers"]
theorem sc_law : FnScope N_law ["_law_script"] (defScope s_law) := ⟨rfl, rfl, rfl, by decide +kernel, rfl, by decide +kernel, by decide +kernel⟩
def sp_law (K : PySem.W.Frag) (PM PT : Addr) : Sp := fun vs H Q _ => ∃ (a : Addr) (ns : List Int), vs = [.ref a] ∧ SqL K H a (ns.map V.int) ∧ ns.length ≤ 63 ∧ TabG H PM ∧ TabG H PT ∧ ∀ H', Q (.bl true) H'
theorem ok_law {f PM PT : Addr} {fd : FuncData} (B : Bts mg) (F : Fun K "law" "law" s_law f fd) (c__law_left : Cl P w K mg base 1 "_law_left" (sp_left K)) (c__law_folded : Cl P w K mg base 1 "_law_folded" (sp_folded K)) (c__law_pick : Cl P w K mg base 2 "_law_pick" sp_pick) (c__law_row : Cl P w K mg base 3 "_law_row" sp_row)
    (c__law_drawn_web : Cl P w K mg base 17 "_law_drawn_web" sp_dweb) (c_gaps_of : Cl P w K mg base 1 "gaps_of" sp_gaps) (c_parts_of : Cl P w K mg base 20 "parts_of" (sp_parts PT)) (c__law_exchanged : Cl P w K mg base 13 "_law_exchanged" (sp_exch 12)) (c__law_numbered : Cl P w K mg base 13 "_law_numbered" (sp_numd 12))
    (c_is_module : Cl P w K mg base 6 "is_module" (sp_module PM)) (c_least_module : Cl P w K mg base 5 "least_module" sp_least) (c_renumbered : Cl P w K mg base 2 "renumbered" sp_ren) (c__law_nodes_right : Cl P w K mg base 26 "_law_nodes_right" (sp_ndr PT PM)) (c__law_same : Cl P w K mg base 25 "_law_same" (sp_same 25)) : TopRun P w K mg base f fd "_law_script" (sp_law K PM PT) := by
  refine top_run (k := 29) F sc_law ⟨rfl, by decide, by decide⟩ fun cdv s H v Q E hr h => ?_
  obtain ⟨a, ns, e, hS, hl, tM, tT, q⟩ := h
  cases e
  refine ⟨_, (pss_cons (ps_set (i := 1) sc_law.nd rfl (by first | exact Or.inl rfl | exact Or.inr rfl) (pe_c c__law_folded hr (by decide) (by rfl) (pa_cons (pv 0) (pa_cons pe_int pa_nil))))
    (pss_cons (ps_for PassesOwn.never rfl (pi_range1 (by rfl) B.range (pa_cons (pe_callB (call_max2 rfl) (by rfl) B.max (by decide +kernel) (pa_cons pe_int (pa_cons (pe_callB call_len_seq (by rfl) B.len (by decide +kernel) (pa_cons (pv 1) pa_nil)) pa_nil))) pa_nil)) (pg_name (i := 2) sc_law.nd rfl (by first | exact Or.inl rfl | exact Or.inr rfl))
      (pss_cons (ps_set (i := 3) sc_law.nd rfl (by first | exact Or.inl rfl | exact Or.inr rfl) (pe_c c__law_left hr (by decide) (by rfl) (pa_cons (pv 1) (pa_cons (pv 2) pa_nil))))
      (pss_cons (ps_asg (pe_op op_add (pe_ix ix_list (pv 3) pe_int (fun _ _ => rfl)) pe_int) (pg_sub (pv 3) pe_int set_list))
      (pss_cons (ps_asg (pe_c c__law_drawn_web hr (by decide) (by rfl) (pa_cons (pv 3) pa_nil)) (pg_tup rfl (pgs_cons (pg_name (i := 4) sc_law.nd rfl (by first | exact Or.inl rfl | exact Or.inr rfl)) (pgs_cons (pg_name (i := 5) sc_law.nd rfl (by first | exact Or.inl rfl | exact Or.inr rfl)) (pgs_cons (pg_name (i := 6) sc_law.nd rfl (by first | exact Or.inl rfl | exact Or.inr rfl)) pgs_nil)))))
      (pss_cons (ps_set (i := 7) sc_law.nd rfl (by first | exact Or.inl rfl | exact Or.inr rfl) (pe_c c_gaps_of hr (by decide) (by rfl) (pa_cons (pv 4) pa_nil)))
      (pss_cons (ps_if (pt_not (pt_val (pe_c c__law_same hr (by decide) (by rfl) (pa_cons (pe_c c_parts_of hr (by decide) (by rfl) (pa_cons (pv 7) pa_nil)) (pa_cons (pe_c c__law_exchanged hr (by decide) (by rfl) (pa_cons (pv 5) pa_nil)) pa_nil))))) (pss_one (ps_ret pe_bl)) pss_nil)
      (pss_cons (ps_for PassesOwn.never rfl (pi_range1 (by rfl) B.range (pa_cons pe_int pa_nil)) (pg_name (i := 8) sc_law.nd rfl (by first | exact Or.inl rfl | exact Or.inr rfl))
        (pss_cons (ps_setLc (i := 9) (own := [("_law_place", 10)]) (g := (gName 10)) rfl sc_law.nd rfl rfl (sw_true rfl rfl rfl (by decide +kernel)) (pi_range1 (by rfl) B.range (pa_cons (pe_ix ix_tup (pv 4) pe_int (fun _ _ => rfl)) pa_nil)) (blkOk_by (own := [("_law_place", 10)]) (N := N_law) (sc := defScope s_law) (by decide +kernel)) (fun _ _ _ _ _ => (pg_name (i := 10) sc_law.nd rfl (by first | exact Or.inl rfl | exact Or.inr rfl))) (fun _ _ _ _ _ => (pts_one (pt_cmpR op_eq (pe_c c__law_pick hr (by decide) (by rfl) (pa_cons (pv 3) (pa_cons pe_int pa_nil))) pe_int (nomark _)))) (fun _ _ _ _ _ => (pv 10)))
        (pss_cons (ps_if (pt_cmpR op_ne (pe_c c_is_module hr (by decide) (by rfl) (pa_cons (pv 4) (pa_cons (pv 9) pa_nil))) (pe_c c_is_module hr (by decide) (by rfl) (pa_cons (pv 7) (pa_cons (pv 9) pa_nil))) (nomark _)) (pss_one (ps_ret pe_bl)) pss_nil)
        (pss_one (ps_if (PW.pt (pw_and (pt_cmpR (op_neD hr.units) (pv 9) (pe_lst pa_nil) (nomark _)) (pw_and1 (pt_cmpR (op_neD hr.units) (pe_c c_least_module hr (by decide) (by rfl) (pa_cons (pv 4) (pa_cons (pv 9) pa_nil))) (pe_c c_least_module hr (by decide) (by rfl) (pa_cons (pv 7) (pa_cons (pv 9) pa_nil))) (nomark _))))) (pss_one (ps_ret pe_bl)) pss_nil)))))
      (pss_cons (ps_set (i := 11) sc_law.nd rfl (by first | exact Or.inl rfl | exact Or.inr rfl) (pe_c c__law_row hr (by decide) (by rfl) (pa_cons (pv 3) (pa_cons (pe_ix ix_tup (pv 4) pe_int (fun _ _ => rfl)) pa_nil))))
      (pss_cons (ps_if (pt_not (pt_val (pe_c c__law_same hr (by decide) (by rfl) (pa_cons (pe_c c_parts_of hr (by decide) (by rfl) (pa_cons (pe_c c_renumbered hr (by decide) (by rfl) (pa_cons (pv 4) (pa_cons (pv 11) pa_nil))) pa_nil)) (pa_cons (pe_ix ix_tup (pe_c c__law_numbered hr (by decide) (by rfl) (pa_cons (pv 5) (pa_cons (pv 11) pa_nil))) pe_int (fun _ _ => rfl)) pa_nil))))) (pss_one (ps_ret pe_bl)) pss_nil)
      (pss_one (ps_if (pt_not (pt_val (pe_c c__law_nodes_right hr (by decide) (by rfl) (pa_cons (pv 4) (pa_cons (pv 5) pa_nil))))) (pss_one (ps_ret pe_bl)) pss_nil)))))))))))
    (pss_one (ps_ret pe_bl)))), ?_⟩
  refine ⟨_, rfl, a, ns, 5, rfl, hS, hl, by decide, by decide, fun C cs H0 nC sC eC clen => ?_⟩
  have tM0 := tab_same tM sC
  have tT0 := tab_same tT sC
  refine ⟨_, rfl, C, _, rfl, .inl (SqL.of eC), _, _, rfl, _, rfl, ?_, ?_, ?_⟩
  · rw [List.length_map]; split <;> omega
  · rw [List.length_map]; split <;> omega
  refine for_range (fun k σ H1 => ∃ y2 y3 y4 y5 y6 y7 y8 y9 y10 y11, σ = [some (.ref a), some (.ref C), y2, y3, y4, y5, y6, y7, y8, y9, y10, y11] ∧ St2 PT PM H0 H1) ⟨none, none, none, none, none, none, none, none, none, none, rfl, St2.refl tT0 tM0⟩ ?_ ?_
  · rintro k σ H1 hk ⟨y2, y3, y4, y5, y6, y7, y8, y9, y10, y11, rfl, S1⟩
    have hk' : k < 100 := by
      refine Nat.lt_of_lt_of_le hk ?_
      rw [List.length_map]; split <;> omega
    refine ⟨_, rfl, _, rfl, C, cs, _, rfl, SqL.of (S1.lst tT0 tM0 eC), by omega, by omega, fun L H2 nL s2 lf2 => ?_⟩
    have n0L : H0 L = none := S1.free nL
    have S2 := S1.same s2
    obtain ⟨x, y, z, eL, setL⟩ := lf_set1 lf2
    refine ⟨_, rfl, L, _, _, _, rfl, rfl, SqL.of eL, rfl, _, _, rfl, rfl, ?_⟩
    refine ⟨_, rfl, L, _, _, _, rfl, rfl, eL, rfl, ?_⟩
    have S3 : St2 PT PM H0 (upd H2 L (.lst [.int x, .int (y + 1200), .int z])) := S2.put n0L eL
    refine ⟨_, rfl, L, 0, rfl, setL (y + 1200), by decide, fun p u v n ts wy H4 fr4 lf4 ep hWeb hW n1 n12 dr => ?_⟩
    have S4 : St2 PT PM H0 H4 := S3.frL (setL (y + 1200)) n0L fr4
    have tl : ts.length ≤ 10000 := wok_len hW (by omega)
    refine ⟨p, _, rfl, SqT.of ep, rfl, _, _, rfl, _, _, rfl, _, _, rfl, rfl, ?_⟩
    have hX := dr.exact
    -- gaps
    refine ⟨_, rfl, u, n, ts, rfl, hWeb, tl, by omega, fun gv H5 s5 hG => ?_⟩
    have S5 := S4.same s5
    have lf5 := lf4.same s5
    have gW : WOk n (gapsF ts (pup n n)) := gaps_wok ts
    have gl : (gapsF ts (pup n n)).length ≤ 10000 := wok_len gW (by omega)
    have og := opp_gaps n ts
    refine ⟨_, rfl, gv, n, _, rfl, hG, n12, gl, S5.t1, fun w1 H6 f6 t6 hw1 => ?_⟩
    have S6 := S5.tabT f6 t6
    have lf6 := lf_tab lf5 f6 S5.t1
    have hX1 : TrX (gapsF ts (pup n n)) H6 12 w1 (up n) := by
      rcases hw1 with ⟨z, _⟩ | ⟨_, h⟩
      · omega
      · exact h
    have t46 := (Same.tst s5).trans (frM_tst f6 S5.t1)
    refine ⟨_, rfl, v, ts, _, up n, rfl, hX.mono t46, og, by rw [up_len]; exact n12, fun w2 H7 s7 hX2 => ?_⟩
    have S7 := S6.same s7
    have lf7 := lf6.same s7
    refine ⟨w1, w2, rfl, (hX1.mono (Same.tst s7)).eqd hX2 (by rw [up_len]; omega), fun H8 s8 => ⟨true, rfl, iteF ?_⟩⟩
    have S8 := S7.same s8
    have lf8 := lf7.same s8
    have t48 := (t46.trans (Same.tst s7)).trans (Same.tst s8)
    have hWeb8 := hWeb.mono t48
    have hG8 := hG.mono ((frM_tst f6 S5.t1).trans ((Same.tst s7).trans (Same.tst s8)))
    have hX8 := hX.mono t48
    clear tM tT
    -- some places, six times
    refine ⟨_, rfl, by decide, by decide, ?_⟩
    refine for_range (fun i σ HX => ∃ y8 y9 y10 y11, σ = [some (.ref a), some (.ref C), some (.int (0 + (k : Int))), some (.ref L), some u, some v, some (.int wy), some gv, y8, y9, y10, y11] ∧ St2 PT PM H0 HX ∧ Lf HX L (10000 + 100 * (i : Int)) ∧ Tst H8 HX) ⟨_, _, _, _, rfl, S8, lf8.mono (by decide), Tst.refl _⟩ ?_ ?_
    · rintro i σ HX hi ⟨y8, y9, y10, y11, rfl, SX, lfX, tX⟩
      have hi6 : i < 6 := hi
      obtain ⟨pw, qw, uw, rfl, ew, _⟩ := id (hWeb8.mono tX)
      refine ⟨_, rfl, pw, _, 0, .int (n : Int), rfl, rfl, SqT.of ew, atI_nat (j := 0) rfl, _, rfl, by omega, by omega, fun D nD => ?_⟩
      have DL := lfX.ne nD
      have tn : ((n : Int)).toNat = n := Int.toNat_natCast n
      have n0D : H0 D = none := SX.free nD
      refine wk (walk_range (lo := 0)) (fun j HY => ∃ ps, Fr L HX HY ∧ Lf HY L (10000 + 100 * (i : Int) + (j : Int)) ∧ HY D = some (.lst (ps.map V.int)) ∧ ps.length ≤ j ∧ ∀ x ∈ ps, 0 ≤ x ∧ x < (n : Int)) ⟨[], Fr.new nD, (lfX.new nD).mono (by omega), upd_same, Nat.zero_le _, fun x h => absurd h List.not_mem_nil⟩ (fun _ _ _ _ => trivial) ?_ ?_
      · rintro j xv HY0 HY hj ⟨ps, fY, lY, eD, pl, pr⟩ ⟨rfl, hx⟩
        obtain rfl : xv = .int (j : Int) := hx.trans (congrArg V.int (Int.zero_add _))
        rw [tn] at hj
        refine ⟨rfl, _, rfl, L, _, _, rfl, lY, by decide, by decide, by omega, fun r HZ r0 r1 fZ lZ => ⟨rfl, _, rfl, ite2 (fun _ => ?_) (fun _ => ?_)⟩⟩
        · have eDZ := fZ _ _ DL eD
          refine ⟨_, rfl, _, eDZ, sz' (by rw [List.length_map]; omega), ps ++ [(j : Int)], Fr.put (fY.trans fZ) nD, (lZ.put DL).mono (by omega), by rw [upd_same, List.map_append]; rfl, by rw [List.length_append]; show ps.length + 1 ≤ _; omega, fun x hx => ?_⟩
          rcases List.mem_append.mp hx with z | z
          · exact pr x z
          · rw [List.mem_singleton.mp z]; omega
        · exact ⟨ps, fY.trans fZ, lZ.mono (by omega), fZ _ _ DL eD, by omega, pr⟩
      · rintro HY ⟨ps, fY, lY, eD, pl, pr⟩
        rw [tn] at lY pl
        have SY := SX.frL lfX n0L fY
        have tY : Tst HX HY := lfX.tst fY
        have t8Y := tX.trans tY
        refine ⟨_, rfl, _, rfl, .ref pw, n, ts, D, ps, rfl, hWeb8.mono t8Y, eD, by omega, pr, by omega, SY.t2, fun M1 HA fA tA hM1 => ?_⟩
        have SA := SY.tabM fA tA
        have tYA := frM_tst fA SY.t2
        have eDA := frm_lst fA SY.t2 eD
        refine ⟨_, rfl, _, rfl, gv, n, _, D, ps, rfl, hG8.mono (t8Y.trans tYA), eDA, by omega, pr, by omega, SA.t2, fun M2 HB fB tB hM2 => ?_⟩
        have SB := SA.tabM fB tB
        have tAB := frM_tst fB SA.t2
        have eDB := frm_lst fB SA.t2 eDA
        have eM : M2 = M1 := hM2.uniq (least_opp og pr hM1)
        subst eM
        refine ⟨rfl, _, rfl, ?_⟩
        rw [decide_eq_true rfl]
        refine iteF ?_
        have lfB : Lf HB L (10000 + 100 * (i : Int) + (n : Int)) := lf_tab (lf_tab lY fA SY.t2) fB SA.t2
        have t8B := (t8Y.trans tYA).trans tAB
        refine ⟨_, rfl, Nat.zero_le _, fun en nen => ?_⟩
        have se := same_new (o := .lst []) nen
        have eDe := se _ _ eDB
        have ev : (!PyData.eqv (dI ps) (.list [])) = !decide (ps = []) := congrArg (!·) (eqv_dI2 ps [])
        refine ⟨dI ps, .list [], .lst (SqL.of eDe) (dpI ps), .lst (SqL.of upd_same) .nil, shaped_dI ps, rfl, _, rfl, ?_⟩
        rw [ev]
        have SE := SB.same se
        have lfE := lfB.same se
        have t8E := t8B.trans (Same.tst se)
        generalize upd HB en (.lst []) = HE at eDe SE lfE t8E ⊢
        by_cases hp : ps = []
        · rw [decide_eq_true hp]
          exact iteF (iteF ⟨_, _, _, _, rfl, SE, lfE.mono (by omega), t8E⟩)
        rw [decide_eq_false hp]
        refine iteT ?_
        refine ⟨_, rfl, _, rfl, .ref pw, n, ts, D, ps, rfl, hWeb8.mono t8E, eDe, by omega, pr, by omega, fun N1 r1 HF nr1 sF hN1 er1 => ?_⟩
        have t8F := t8E.trans (Same.tst sF)
        refine ⟨_, rfl, _, rfl, gv, n, _, D, ps, rfl, hG8.mono t8F, sF _ _ eDe, by omega, pr, by omega, fun N2 r2 HG nr2 sG hN2 er2 => ?_⟩
        have eN : N2 = N1 := hN2.uniq (least_opp og pr hN1)
        subst eN
        refine ⟨dI N2, dI N2, .lst (SqL.of (sG _ _ er1)) (dpI N2), .lst (SqL.of er2) (dpI N2), shaped_dI N2, shaped_dI N2, _, rfl, ?_⟩
        have ee : (!PyData.eqv (dI N2) (dI N2)) = false := by rw [eqv_dI2, decide_eq_true rfl]; rfl
        rw [ee]
        exact iteF ⟨_, _, _, _, rfl, (SE.same sF).same sG, ((lfE.same sF).same sG).mono (by omega), t8F.trans (Same.tst sG)⟩
    · rintro σ H9 ⟨y8, y9, y10, y11, rfl, S9, lf9, t9⟩
      have lf9 : Lf H9 L 20000 := lf9.mono (by decide)
      obtain ⟨pw, qw, uw, rfl, ew, _⟩ := id (hWeb8.mono t9)
      refine ⟨_, rfl, _, rfl, pw, _, 0, .int (n : Int), rfl, rfl, SqT.of ew, atI_nat (j := 0) rfl, L, n, _, rfl, lf9, by omega, by decide, fun nr ns' HA nnr frA lfA enr pm => ?_⟩
      have SA := S9.frL lf9 n0L frA
      have t8A := t9.trans (lf9.tst frA)
      have hf := nums pm
      have nl := perm_len pm
      refine ⟨_, rfl, _, rfl, .ref pw, n, ts, nr, ns', rfl, hWeb8.mono t8A, hW, tl, enr, pm, fun w3 HB rs sB hw3 hR3 pm3 => ?_⟩
      have SB := SA.same sB
      have t8B := t8A.trans (Same.tst sB)
      refine ⟨w3, n, rs, rfl, hw3, n12, wok_len hR3 (by omega), SB.t1, fun w4 HC fC tC hw4 => ?_⟩
      have SC := SB.tabT fC tC
      have tBC := frM_tst fC SB.t1
      have hX4 : TrX rs HC 12 w4 (up n) := by
        rcases hw4 with ⟨z, _⟩ | ⟨_, h⟩
        · omega
        · exact h
      have enrC : HC nr = some (.lst (ns'.map V.int)) := frm_lst fC SB.t1 (sB _ _ enr)
      have inR : ∀ {x : Int}, x ∈ up n → 0 ≤ x ∧ x < (n : Int) := fun h => mem_up.mp h
      have gI : RenI (nAt ns') ts rs (up n) := by
        refine ⟨fun x hx y hy e => hf.inj x y (inR hx).1 (inR hx).2 (inR hy).1 (inR hy).2 e, fun x hx y hy _ => ?_⟩
        unfold adjB
        exact decide_eq_decide.mpr (ren_mem hf hW pm3 (inR hx).1 (inR hx).2 (inR hy).1 (inR hy).2)
      have rg : ∀ x ∈ up n, 0 ≤ nAt ns' x ∧ nAt ns' x < 12 := fun x hx => by
        have := hf.rng x (inR hx).1 (inR hx).2
        omega
      have eU : srtP ((up n).map (nAt ns')) = up n := (renS_srt rg).uniq ⟨(ris_up n).1, fun z => by
        rw [mem_up]
        constructor
        · intro h
          obtain ⟨b, b0, b1, e⟩ := hf.sur z h.1 h.2
          exact ⟨b, mem_up.mpr ⟨b0, b1⟩, e⟩
        · rintro ⟨x, hx, rfl⟩
          exact hf.rng x (inR hx).1 (inR hx).2⟩
      refine ⟨_, rfl, _, rfl, v, .ref nr, ts, rs, nAt ns', up n, rfl, hX8.mono (t8B.trans tBC), .inl ⟨nr, ns', rfl, enrC, fun x hx => at_nAt (inR hx).1 (by rw [nl]; exact (inR hx).2)⟩, gI, rg, by rw [up_len]; exact n12, fun p1 u1 HD np1 sD ep1 hu1 => ?_⟩
      rw [eU] at hu1
      have SD := SC.same sD
      refine ⟨p1, _, 1, u1, rfl, rfl, SqT.of ep1, atI_nat (j := 1) rfl, w4, u1, rfl, (hX4.mono (Same.tst sD)).eqd hu1 (by rw [up_len]; omega), fun HE sE => ⟨true, rfl, iteF ?_⟩⟩
      have SE := SD.same sE
      have t8E := ((t8B.trans tBC).trans (Same.tst sD)).trans (Same.tst sE)
      refine ⟨_, rfl, _, rfl, .ref pw, v, n, ts, rfl, hWeb8.mono t8E, hW, n1, n12, hX8.mono t8E, SE.t1, SE.t2, fun HF sF => ⟨true, rfl, iteF ?_⟩⟩
      exact ⟨_, _, _, _, _, _, _, _, _, _, rfl, SE.trans sF⟩
  · rintro σ H1 ⟨y2, y3, y4, y5, y6, y7, y8, y9, y10, y11, rfl, S1⟩
    exact q _
end
end My

set_option Elab.async false
set_option linter.all false
set_option maxRecDepth 100000
set_option maxHeartbeats 8000000
namespace My
open PySem PySem.Spec PyProof.Rows L2 GxR
/-! ### the head -/
def d_is_number : He.DefD := ⟨("is_number", none), "is_number", "is_number", defArgs s_is_number, defBody s_is_number, defScope s_is_number, [], []⟩
def d_is_place : He.DefD := ⟨("is_place", none), "is_place", "is_place", defArgs s_is_place, defBody s_is_place, defScope s_is_place, [], []⟩
def d_tied : He.DefD := ⟨("tied", none), "tied", "tied", defArgs s_tied, defBody s_tied, defScope s_tied, [], []⟩
def d_tie_of : He.DefD := ⟨("tie_of", none), "tie_of", "tie_of", defArgs s_tie_of, defBody s_tie_of, defScope s_tie_of, [], []⟩
def d_gaps_of : He.DefD := ⟨("gaps_of", none), "gaps_of", "gaps_of", defArgs s_gaps_of, defBody s_gaps_of, defScope s_gaps_of, [], []⟩
def d_part_of : He.DefD := ⟨("part_of", none), "part_of", "part_of", defArgs s_part_of, defBody s_part_of, defScope s_part_of, [], []⟩
def d_renumbered : He.DefD := ⟨("renumbered", none), "renumbered", "renumbered", defArgs s_renumbered, defBody s_renumbered, defScope s_renumbered, [], []⟩
def d_is_module : He.DefD := ⟨("is_module", none), "is_module", "is_module", defArgs s_is_module, defBody s_is_module, defScope s_is_module, [], []⟩
def d_least_module : He.DefD := ⟨("least_module", none), "least_module", "least_module", defArgs s_least_module, defBody s_least_module, defScope s_least_module, [], []⟩
def d_parts_of : He.DefD := ⟨("parts_of", none), "parts_of", "parts_of", defArgs s_parts_of, defBody s_parts_of, defScope s_parts_of, [], []⟩
def d_places_in : He.DefD := ⟨("places_in", none), "places_in", "places_in", defArgs s_places_in, defBody s_places_in, defScope s_places_in, [], []⟩
def d_least_among : He.DefD := ⟨("least_among", none), "least_among", "least_among", defArgs s_least_among, defBody s_least_among, defScope s_least_among, [], []⟩
def d_is_parting : He.DefD := ⟨("is_parting", none), "is_parting", "is_parting", defArgs s_is_parting, defBody s_is_parting, defScope s_is_parting, [], []⟩
def d_tree_of : He.DefD := ⟨("tree_of", none), "tree_of", "tree_of", defArgs s_tree_of, defBody s_tree_of, defScope s_tree_of, [], []⟩
def d_joined_sets : He.DefD := ⟨("joined_sets", none), "joined_sets", "joined_sets", defArgs s_joined_sets, defBody s_joined_sets, defScope s_joined_sets, [], []⟩
def d_greatest_modules : He.DefD := ⟨("greatest_modules", none), "greatest_modules", "greatest_modules", defArgs s_greatest_modules, defBody s_greatest_modules, defScope s_greatest_modules, [], []⟩
def d__law_mix : He.DefD := ⟨("_law_mix", none), "_law_mix", "_law_mix", defArgs s__law_mix, defBody s__law_mix, defScope s__law_mix, [], []⟩
def d__law_left : He.DefD := ⟨("_law_left", none), "_law_left", "_law_left", defArgs s__law_left, defBody s__law_left, defScope s__law_left, [], []⟩
def d__law_pick : He.DefD := ⟨("_law_pick", none), "_law_pick", "_law_pick", defArgs s__law_pick, defBody s__law_pick, defScope s__law_pick, [], []⟩
def d__law_folded : He.DefD := ⟨("_law_folded", none), "_law_folded", "_law_folded", defArgs s__law_folded, defBody s__law_folded, defScope s__law_folded, [], []⟩
def d__law_row : He.DefD := ⟨("_law_row", none), "_law_row", "_law_row", defArgs s__law_row, defBody s__law_row, defScope s__law_row, [], []⟩
def d__law_same : He.DefD := ⟨("_law_same", none), "_law_same", "_law_same", defArgs s__law_same, defBody s__law_same, defScope s__law_same, [], []⟩
def d__law_shape : He.DefD := ⟨("_law_shape", none), "_law_shape", "_law_shape", defArgs s__law_shape, defBody s__law_shape, defScope s__law_shape, [], []⟩
def d__law_shares : He.DefD := ⟨("_law_shares", none), "_law_shares", "_law_shares", defArgs s__law_shares, defBody s__law_shares, defScope s__law_shares, [], []⟩
def d__law_drawn : He.DefD := ⟨("_law_drawn", none), "_law_drawn", "_law_drawn", defArgs s__law_drawn, defBody s__law_drawn, defScope s__law_drawn, [], []⟩
def d__law_drawn_web : He.DefD := ⟨("_law_drawn_web", none), "_law_drawn_web", "_law_drawn_web", defArgs s__law_drawn_web, defBody s__law_drawn_web, defScope s__law_drawn_web, [], []⟩
def d__law_exchanged : He.DefD := ⟨("_law_exchanged", none), "_law_exchanged", "_law_exchanged", defArgs s__law_exchanged, defBody s__law_exchanged, defScope s__law_exchanged, [], []⟩
def d__law_numbered : He.DefD := ⟨("_law_numbered", none), "_law_numbered", "_law_numbered", defArgs s__law_numbered, defBody s__law_numbered, defScope s__law_numbered, [], []⟩
def d__law_nodes_right : He.DefD := ⟨("_law_nodes_right", none), "_law_nodes_right", "_law_nodes_right", defArgs s__law_nodes_right, defBody s__law_nodes_right, defScope s__law_nodes_right, [], []⟩
def d_law : He.DefD := ⟨("law", none), "law", "law", defArgs s_law, defBody s_law, defScope s_law, [], []⟩
def fns : List He.DefD := [d_is_number, d_is_place, d_tied, d_tie_of, d_gaps_of, d_part_of, d_renumbered, d_is_module, d_least_module, d_parts_of, d_places_in, d_least_among, d_is_parting, d_tree_of, d_joined_sets, d_greatest_modules, d__law_mix, d__law_left, d__law_pick, d__law_folded, d__law_row, d__law_same, d__law_shape, d__law_shares, d__law_drawn, d__law_drawn_web, d__law_exchanged, d__law_numbered, d__law_nodes_right, d_law]
def fas : List He.Fa := [.glo "is_number", .glo "is_place", .glo "tied", .glo "tie_of", .glo "gaps_of", .glo "part_of", .glo "renumbered", .glo "is_module", .glo "least_module", .glo "parts_of", .glo "places_in", .glo "least_among", .glo "is_parting", .glo "tree_of", .glo "joined_sets", .glo "greatest_modules", .glo "_law_mix", .glo "_law_left", .glo "_law_pick", .glo "_law_folded", .glo "_law_row", .glo "_law_same", .glo "_law_shape", .glo "_law_shares", .glo "_law_drawn", .glo "_law_drawn_web", .glo "_law_exchanged", .glo "_law_numbered", .glo "_law_nodes_right", .glo "law", .free "len", .free "range", .free "tuple", .free "list", .free "int", .free "abs", .free "min", .free "sorted", .free "set", .free "all", .free "any", .free "enumerate", .free "zip", .free "isinstance", .free "bool", .free "str", .free "dict", .free "max", .free "reversed", .free "sum"]
def tfs : List He.Defn := [("is_module", none), ("joined_sets", none)]
abbrev Rw : PySem.W.OpenRow := PySem.W.OpenLaw.row PySem.Challenge.rw_pointedties_k38_gaps_and_parts
def exf (K : PySem.W.Frag) : Bool := decide ((He.cT K ("is_module", none)).2 ≠ (He.cT K ("joined_sets", none)).2)
abbrev hk : PySem.W.Hook := He.hookX 4 fas fns [] tfs exf
def ob (s : PySem.W.SharedT) : He.AlX := He.obsX 4 fas fns [] tfs exf (HandSHeadRun.getT s)
theorem ob_eq (s : PySem.W.SharedT) : ob s = hk.obs s.abs := He.obsX_eq (HandSHeadRun.getT_eq s)
abbrev others : List Str := [("is_number" : Str), ("is_place" : Str), ("tied" : Str), ("tie_of" : Str), ("gaps_of" : Str), ("part_of" : Str), ("renumbered" : Str), ("is_module" : Str), ("least_module" : Str), ("parts_of" : Str), ("places_in" : Str), ("least_among" : Str), ("is_parting" : Str), ("tree_of" : Str), ("joined_sets" : Str), ("greatest_modules" : Str), ("_law_mix" : Str), ("_law_left" : Str), ("_law_pick" : Str), ("_law_folded" : Str), ("_law_row" : Str), ("_law_same" : Str), ("_law_shape" : Str), ("_law_shares" : Str), ("_law_drawn" : Str), ("_law_drawn_web" : Str), ("_law_exchanged" : Str), ("_law_numbered" : Str), ("_law_nodes_right" : Str)]
theorem run (w : World) : HandSHeadRun.RunEq Rw (PySem.W.view Rw.prog [33]) hk ob 4000 others w := by
  intro os; kernel_rfl

theorem code_of {K : PySem.W.Frag} {x q : Str} {st : Stmt} {p : He.Defn} {fd : FuncData} (F : Fun K x q st (He.fAd K p) fd) : fd.code = .ref (He.codeOf K p) := by
  obtain ⟨oc, od, kV, doc, pm, an, cdv, ct, osl, rfl, lk, hcd⟩ := F.ex
  cases cdv with
  | ref c => rw [He.codeOf_eq lk rfl]
  | _ => cases hcd
theorem law_ok {P : Program} {w : World} {K : PySem.W.Frag} {h : Heap} {mg : Str → Option Value} {f : Addr} (X : K.In h) (G : h.Ns mainGlobals mg) (hfa : mg ("law" : Str) = some (.ref f)) (c : He.SaysX fas fns [] tfs exf w h K) :
    ∃ fd : FuncData, (∀ (s : Shared) (v : Value), BindsTo s fd ⟨[v], []⟩ [("_law_script", v)]) ∧ ∀ base : Heap, K.In base → base.Ns mainGlobals mg → (∀ p ∈ tfs.map (He.cT K), LamX.TabB base mg p.1 p.2) →
      TopRun P w K mg base f fd "_law_script" (sp_law K (He.cT K ("is_module", none)).2 (He.cT K ("joined_sets", none)).2) := by
    have cd := c.t.d
    obtain ⟨fd_is_number, F_is_number⟩ := cd.def_ 0 (d := d_is_number) rfl
    have b_is_number : Binds K fd_is_number ["thing"] [] := F_is_number.bindsN fun _ _ _ _ _ _ us hl => match us, hl with | [_], _ => rfl
    have g_is_number : mg "is_number" = some (.ref (He.ga K "is_number")) := He.glo_ok X G (cd.fact 0 (f := .glo "is_number") rfl)
    have U_is_number : Fun K "is_number" "is_number" s_is_number (He.ga K "is_number") fd_is_number := fun_of F_is_number
    obtain ⟨fd_is_place, F_is_place⟩ := cd.def_ 1 (d := d_is_place) rfl
    have b_is_place : Binds K fd_is_place ["web", "thing"] [] := F_is_place.bindsN fun _ _ _ _ _ _ us hl => match us, hl with | [_, _], _ => rfl
    have g_is_place : mg "is_place" = some (.ref (He.ga K "is_place")) := He.glo_ok X G (cd.fact 1 (f := .glo "is_place") rfl)
    have U_is_place : Fun K "is_place" "is_place" s_is_place (He.ga K "is_place") fd_is_place := fun_of F_is_place
    obtain ⟨fd_tied, F_tied⟩ := cd.def_ 2 (d := d_tied) rfl
    have b_tied : Binds K fd_tied ["web", "a", "b"] [] := F_tied.bindsN fun _ _ _ _ _ _ us hl => match us, hl with | [_, _, _], _ => rfl
    have g_tied : mg "tied" = some (.ref (He.ga K "tied")) := He.glo_ok X G (cd.fact 2 (f := .glo "tied") rfl)
    have U_tied : Fun K "tied" "tied" s_tied (He.ga K "tied") fd_tied := fun_of F_tied
    obtain ⟨fd_tie_of, F_tie_of⟩ := cd.def_ 3 (d := d_tie_of) rfl
    have b_tie_of : Binds K fd_tie_of ["a", "b"] [] := F_tie_of.bindsN fun _ _ _ _ _ _ us hl => match us, hl with | [_, _], _ => rfl
    have g_tie_of : mg "tie_of" = some (.ref (He.ga K "tie_of")) := He.glo_ok X G (cd.fact 3 (f := .glo "tie_of") rfl)
    have U_tie_of : Fun K "tie_of" "tie_of" s_tie_of (He.ga K "tie_of") fd_tie_of := fun_of F_tie_of
    obtain ⟨fd_gaps_of, F_gaps_of⟩ := cd.def_ 4 (d := d_gaps_of) rfl
    have b_gaps_of : Binds K fd_gaps_of ["web"] [] := F_gaps_of.bindsN fun _ _ _ _ _ _ us hl => match us, hl with | [_], _ => rfl
    have g_gaps_of : mg "gaps_of" = some (.ref (He.ga K "gaps_of")) := He.glo_ok X G (cd.fact 4 (f := .glo "gaps_of") rfl)
    have U_gaps_of : Fun K "gaps_of" "gaps_of" s_gaps_of (He.ga K "gaps_of") fd_gaps_of := fun_of F_gaps_of
    obtain ⟨fd_part_of, F_part_of⟩ := cd.def_ 5 (d := d_part_of) rfl
    have b_part_of : Binds K fd_part_of ["web", "places"] [] := F_part_of.bindsN fun _ _ _ _ _ _ us hl => match us, hl with | [_, _], _ => rfl
    have g_part_of : mg "part_of" = some (.ref (He.ga K "part_of")) := He.glo_ok X G (cd.fact 5 (f := .glo "part_of") rfl)
    have U_part_of : Fun K "part_of" "part_of" s_part_of (He.ga K "part_of") fd_part_of := fun_of F_part_of
    obtain ⟨fd_renumbered, F_renumbered⟩ := cd.def_ 6 (d := d_renumbered) rfl
    have b_renumbered : Binds K fd_renumbered ["web", "numbers"] [] := F_renumbered.bindsN fun _ _ _ _ _ _ us hl => match us, hl with | [_, _], _ => rfl
    have g_renumbered : mg "renumbered" = some (.ref (He.ga K "renumbered")) := He.glo_ok X G (cd.fact 6 (f := .glo "renumbered") rfl)
    have U_renumbered : Fun K "renumbered" "renumbered" s_renumbered (He.ga K "renumbered") fd_renumbered := fun_of F_renumbered
    obtain ⟨fd_is_module, F_is_module⟩ := cd.def_ 7 (d := d_is_module) rfl
    have b_is_module : Binds K fd_is_module ["web", "places"] [] := F_is_module.bindsN fun _ _ _ _ _ _ us hl => match us, hl with | [_, _], _ => rfl
    have g_is_module : mg "is_module" = some (.ref (He.ga K "is_module")) := He.glo_ok X G (cd.fact 7 (f := .glo "is_module") rfl)
    have U_is_module : Fun K "is_module" "is_module" s_is_module (He.ga K "is_module") fd_is_module := fun_of F_is_module
    obtain ⟨fd_least_module, F_least_module⟩ := cd.def_ 8 (d := d_least_module) rfl
    have b_least_module : Binds K fd_least_module ["web", "places"] [] := F_least_module.bindsN fun _ _ _ _ _ _ us hl => match us, hl with | [_, _], _ => rfl
    have g_least_module : mg "least_module" = some (.ref (He.ga K "least_module")) := He.glo_ok X G (cd.fact 8 (f := .glo "least_module") rfl)
    have U_least_module : Fun K "least_module" "least_module" s_least_module (He.ga K "least_module") fd_least_module := fun_of F_least_module
    obtain ⟨fd_parts_of, F_parts_of⟩ := cd.def_ 9 (d := d_parts_of) rfl
    have b_parts_of : Binds K fd_parts_of ["web"] [] := F_parts_of.bindsN fun _ _ _ _ _ _ us hl => match us, hl with | [_], _ => rfl
    have g_parts_of : mg "parts_of" = some (.ref (He.ga K "parts_of")) := He.glo_ok X G (cd.fact 9 (f := .glo "parts_of") rfl)
    have U_parts_of : Fun K "parts_of" "parts_of" s_parts_of (He.ga K "parts_of") fd_parts_of := fun_of F_parts_of
    obtain ⟨fd_places_in, F_places_in⟩ := cd.def_ 10 (d := d_places_in) rfl
    have b_places_in : Binds K fd_places_in ["tree"] [] := F_places_in.bindsN fun _ _ _ _ _ _ us hl => match us, hl with | [_], _ => rfl
    have g_places_in : mg "places_in" = some (.ref (He.ga K "places_in")) := He.glo_ok X G (cd.fact 10 (f := .glo "places_in") rfl)
    have U_places_in : Fun K "places_in" "places_in" s_places_in (He.ga K "places_in") fd_places_in := fun_of F_places_in
    obtain ⟨fd_least_among, F_least_among⟩ := cd.def_ 11 (d := d_least_among) rfl
    have b_least_among : Binds K fd_least_among ["web", "everything", "places"] [] := F_least_among.bindsN fun _ _ _ _ _ _ us hl => match us, hl with | [_, _, _], _ => rfl
    have g_least_among : mg "least_among" = some (.ref (He.ga K "least_among")) := He.glo_ok X G (cd.fact 11 (f := .glo "least_among") rfl)
    have U_least_among : Fun K "least_among" "least_among" s_least_among (He.ga K "least_among") fd_least_among := fun_of F_least_among
    obtain ⟨fd_is_parting, F_is_parting⟩ := cd.def_ 12 (d := d_is_parting) rfl
    have b_is_parting : Binds K fd_is_parting ["web", "place", "places"] [] := F_is_parting.bindsN fun _ _ _ _ _ _ us hl => match us, hl with | [_, _, _], _ => rfl
    have g_is_parting : mg "is_parting" = some (.ref (He.ga K "is_parting")) := He.glo_ok X G (cd.fact 12 (f := .glo "is_parting") rfl)
    have U_is_parting : Fun K "is_parting" "is_parting" s_is_parting (He.ga K "is_parting") fd_is_parting := fun_of F_is_parting
    obtain ⟨fd_tree_of, F_tree_of⟩ := cd.def_ 13 (d := d_tree_of) rfl
    have b_tree_of : Binds K fd_tree_of ["web", "gaps", "places"] [] := F_tree_of.bindsN fun _ _ _ _ _ _ us hl => match us, hl with | [_, _, _], _ => rfl
    have g_tree_of : mg "tree_of" = some (.ref (He.ga K "tree_of")) := He.glo_ok X G (cd.fact 13 (f := .glo "tree_of") rfl)
    have U_tree_of : Fun K "tree_of" "tree_of" s_tree_of (He.ga K "tree_of") fd_tree_of := fun_of F_tree_of
    obtain ⟨fd_joined_sets, F_joined_sets⟩ := cd.def_ 14 (d := d_joined_sets) rfl
    have b_joined_sets : Binds K fd_joined_sets ["web", "places"] [] := F_joined_sets.bindsN fun _ _ _ _ _ _ us hl => match us, hl with | [_, _], _ => rfl
    have g_joined_sets : mg "joined_sets" = some (.ref (He.ga K "joined_sets")) := He.glo_ok X G (cd.fact 14 (f := .glo "joined_sets") rfl)
    have U_joined_sets : Fun K "joined_sets" "joined_sets" s_joined_sets (He.ga K "joined_sets") fd_joined_sets := fun_of F_joined_sets
    obtain ⟨fd_greatest_modules, F_greatest_modules⟩ := cd.def_ 15 (d := d_greatest_modules) rfl
    have b_greatest_modules : Binds K fd_greatest_modules ["web", "places"] [] := F_greatest_modules.bindsN fun _ _ _ _ _ _ us hl => match us, hl with | [_, _], _ => rfl
    have g_greatest_modules : mg "greatest_modules" = some (.ref (He.ga K "greatest_modules")) := He.glo_ok X G (cd.fact 15 (f := .glo "greatest_modules") rfl)
    have U_greatest_modules : Fun K "greatest_modules" "greatest_modules" s_greatest_modules (He.ga K "greatest_modules") fd_greatest_modules := fun_of F_greatest_modules
    obtain ⟨fd__law_mix, F__law_mix⟩ := cd.def_ 16 (d := d__law_mix) rfl
    have b__law_mix : Binds K fd__law_mix ["_law_cell", "_law_k"] [] := F__law_mix.bindsN fun _ _ _ _ _ _ us hl => match us, hl with | [_, _], _ => rfl
    have g__law_mix : mg "_law_mix" = some (.ref (He.ga K "_law_mix")) := He.glo_ok X G (cd.fact 16 (f := .glo "_law_mix") rfl)
    have U__law_mix : Fun K "_law_mix" "_law_mix" s__law_mix (He.ga K "_law_mix") fd__law_mix := fun_of F__law_mix
    obtain ⟨fd__law_left, F__law_left⟩ := cd.def_ 17 (d := d__law_left) rfl
    have b__law_left : Binds K fd__law_left ["_law_script", "_law_k"] [] := F__law_left.bindsN fun _ _ _ _ _ _ us hl => match us, hl with | [_, _], _ => rfl
    have g__law_left : mg "_law_left" = some (.ref (He.ga K "_law_left")) := He.glo_ok X G (cd.fact 17 (f := .glo "_law_left") rfl)
    have U__law_left : Fun K "_law_left" "_law_left" s__law_left (He.ga K "_law_left") fd__law_left := fun_of F__law_left
    obtain ⟨fd__law_pick, F__law_pick⟩ := cd.def_ 18 (d := d__law_pick) rfl
    have b__law_pick : Binds K fd__law_pick ["_law_left_here", "_law_many"] [] := F__law_pick.bindsN fun _ _ _ _ _ _ us hl => match us, hl with | [_, _], _ => rfl
    have g__law_pick : mg "_law_pick" = some (.ref (He.ga K "_law_pick")) := He.glo_ok X G (cd.fact 18 (f := .glo "_law_pick") rfl)
    have U__law_pick : Fun K "_law_pick" "_law_pick" s__law_pick (He.ga K "_law_pick") fd__law_pick := fun_of F__law_pick
    obtain ⟨fd__law_folded, F__law_folded⟩ := cd.def_ 19 (d := d__law_folded) rfl
    have b__law_folded : Binds K fd__law_folded ["_law_script", "_law_many"] [] := F__law_folded.bindsN fun _ _ _ _ _ _ us hl => match us, hl with | [_, _], _ => rfl
    have g__law_folded : mg "_law_folded" = some (.ref (He.ga K "_law_folded")) := He.glo_ok X G (cd.fact 19 (f := .glo "_law_folded") rfl)
    have U__law_folded : Fun K "_law_folded" "_law_folded" s__law_folded (He.ga K "_law_folded") fd__law_folded := fun_of F__law_folded
    obtain ⟨fd__law_row, F__law_row⟩ := cd.def_ 20 (d := d__law_row) rfl
    have b__law_row : Binds K fd__law_row ["_law_left_here", "_law_many"] [] := F__law_row.bindsN fun _ _ _ _ _ _ us hl => match us, hl with | [_, _], _ => rfl
    have g__law_row : mg "_law_row" = some (.ref (He.ga K "_law_row")) := He.glo_ok X G (cd.fact 20 (f := .glo "_law_row") rfl)
    have U__law_row : Fun K "_law_row" "_law_row" s__law_row (He.ga K "_law_row") fd__law_row := fun_of F__law_row
    obtain ⟨fd__law_same, F__law_same⟩ := cd.def_ 21 (d := d__law_same) rfl
    have b__law_same : Binds K fd__law_same ["_law_found", "_law_due"] [] := F__law_same.bindsN fun _ _ _ _ _ _ us hl => match us, hl with | [_, _], _ => rfl
    have g__law_same : mg "_law_same" = some (.ref (He.ga K "_law_same")) := He.glo_ok X G (cd.fact 21 (f := .glo "_law_same") rfl)
    have U__law_same : Fun K "_law_same" "_law_same" s__law_same (He.ga K "_law_same") fd__law_same := fun_of F__law_same
    obtain ⟨fd__law_shape, F__law_shape⟩ := cd.def_ 22 (d := d__law_shape) rfl
    have b__law_shape : Binds K fd__law_shape ["_law_left_here", "_law_most"] [] := F__law_shape.bindsN fun _ _ _ _ _ _ us hl => match us, hl with | [_, _], _ => rfl
    have g__law_shape : mg "_law_shape" = some (.ref (He.ga K "_law_shape")) := He.glo_ok X G (cd.fact 22 (f := .glo "_law_shape") rfl)
    have U__law_shape : Fun K "_law_shape" "_law_shape" s__law_shape (He.ga K "_law_shape") fd__law_shape := fun_of F__law_shape
    obtain ⟨fd__law_shares, F__law_shares⟩ := cd.def_ 23 (d := d__law_shares) rfl
    have b__law_shares : Binds K fd__law_shares ["_law_left_here", "_law_places", "_law_many"] [] := F__law_shares.bindsN fun _ _ _ _ _ _ us hl => match us, hl with | [_, _, _], _ => rfl
    have g__law_shares : mg "_law_shares" = some (.ref (He.ga K "_law_shares")) := He.glo_ok X G (cd.fact 23 (f := .glo "_law_shares") rfl)
    have U__law_shares : Fun K "_law_shares" "_law_shares" s__law_shares (He.ga K "_law_shares") fd__law_shares := fun_of F__law_shares
    obtain ⟨fd__law_drawn, F__law_drawn⟩ := cd.def_ 24 (d := d__law_drawn) rfl
    have b__law_drawn : Binds K fd__law_drawn ["_law_left_here", "_law_places", "_law_above", "_law_world"] [] := F__law_drawn.bindsN fun _ _ _ _ _ _ us hl => match us, hl with | [_, _, _, _], _ => rfl
    have g__law_drawn : mg "_law_drawn" = some (.ref (He.ga K "_law_drawn")) := He.glo_ok X G (cd.fact 24 (f := .glo "_law_drawn") rfl)
    have U__law_drawn : Fun K "_law_drawn" "_law_drawn" s__law_drawn (He.ga K "_law_drawn") fd__law_drawn := fun_of F__law_drawn
    obtain ⟨fd__law_drawn_web, F__law_drawn_web⟩ := cd.def_ 25 (d := d__law_drawn_web) rfl
    have b__law_drawn_web : Binds K fd__law_drawn_web ["_law_left_here"] [] := F__law_drawn_web.bindsN fun _ _ _ _ _ _ us hl => match us, hl with | [_], _ => rfl
    have g__law_drawn_web : mg "_law_drawn_web" = some (.ref (He.ga K "_law_drawn_web")) := He.glo_ok X G (cd.fact 25 (f := .glo "_law_drawn_web") rfl)
    have U__law_drawn_web : Fun K "_law_drawn_web" "_law_drawn_web" s__law_drawn_web (He.ga K "_law_drawn_web") fd__law_drawn_web := fun_of F__law_drawn_web
    obtain ⟨fd__law_exchanged, F__law_exchanged⟩ := cd.def_ 26 (d := d__law_exchanged) rfl
    have b__law_exchanged : Binds K fd__law_exchanged ["_law_tree"] [] := F__law_exchanged.bindsN fun _ _ _ _ _ _ us hl => match us, hl with | [_], _ => rfl
    have g__law_exchanged : mg "_law_exchanged" = some (.ref (He.ga K "_law_exchanged")) := He.glo_ok X G (cd.fact 26 (f := .glo "_law_exchanged") rfl)
    have U__law_exchanged : Fun K "_law_exchanged" "_law_exchanged" s__law_exchanged (He.ga K "_law_exchanged") fd__law_exchanged := fun_of F__law_exchanged
    obtain ⟨fd__law_numbered, F__law_numbered⟩ := cd.def_ 27 (d := d__law_numbered) rfl
    have b__law_numbered : Binds K fd__law_numbered ["_law_tree", "_law_numbers"] [] := F__law_numbered.bindsN fun _ _ _ _ _ _ us hl => match us, hl with | [_, _], _ => rfl
    have g__law_numbered : mg "_law_numbered" = some (.ref (He.ga K "_law_numbered")) := He.glo_ok X G (cd.fact 27 (f := .glo "_law_numbered") rfl)
    have U__law_numbered : Fun K "_law_numbered" "_law_numbered" s__law_numbered (He.ga K "_law_numbered") fd__law_numbered := fun_of F__law_numbered
    obtain ⟨fd__law_nodes_right, F__law_nodes_right⟩ := cd.def_ 28 (d := d__law_nodes_right) rfl
    have b__law_nodes_right : Binds K fd__law_nodes_right ["_law_web", "_law_tree"] [] := F__law_nodes_right.bindsN fun _ _ _ _ _ _ us hl => match us, hl with | [_, _], _ => rfl
    have g__law_nodes_right : mg "_law_nodes_right" = some (.ref (He.ga K "_law_nodes_right")) := He.glo_ok X G (cd.fact 28 (f := .glo "_law_nodes_right") rfl)
    have U__law_nodes_right : Fun K "_law_nodes_right" "_law_nodes_right" s__law_nodes_right (He.ga K "_law_nodes_right") fd__law_nodes_right := fun_of F__law_nodes_right
    obtain ⟨fd_law, F_law⟩ := cd.def_ 29 (d := d_law) rfl
    have b_law : Binds K fd_law ["_law_script"] [] := F_law.bindsN fun _ _ _ _ _ _ us hl => match us, hl with | [_], _ => rfl
    have g_law : mg "law" = some (.ref (He.ga K "law")) := He.glo_ok X G (cd.fact 29 (f := .glo "law") rfl)
    have bA_law := FunD.bindsA (ps := ["_law_script"]) F_law fun _ _ _ _ _ _ us hl => match us, hl with | [_], _ => rfl
    have U_law : Fun K "law" "law" s_law (He.ga K "law") fd_law := fun_of F_law
    have B : Bts mg := ⟨He.free_ok X G (cd.fact 30 (f := .free "len") rfl), He.free_ok X G (cd.fact 31 (f := .free "range") rfl), He.free_ok X G (cd.fact 32 (f := .free "tuple") rfl), He.free_ok X G (cd.fact 33 (f := .free "list") rfl), He.free_ok X G (cd.fact 34 (f := .free "int") rfl), He.free_ok X G (cd.fact 35 (f := .free "abs") rfl), He.free_ok X G (cd.fact 36 (f := .free "min") rfl), He.free_ok X G (cd.fact 37 (f := .free "sorted") rfl), He.free_ok X G (cd.fact 38 (f := .free "set") rfl), He.free_ok X G (cd.fact 39 (f := .free "all") rfl), He.free_ok X G (cd.fact 40 (f := .free "any") rfl), He.free_ok X G (cd.fact 41 (f := .free "enumerate") rfl), He.free_ok X G (cd.fact 42 (f := .free "zip") rfl), He.free_ok X G (cd.fact 43 (f := .free "isinstance") rfl), He.free_ok X G (cd.fact 44 (f := .free "bool") rfl), He.free_ok X G (cd.fact 45 (f := .free "str") rfl), He.free_ok X G (cd.fact 46 (f := .free "dict") rfl), He.free_ok X G (cd.fact 47 (f := .free "max") rfl), He.free_ok X G (cd.fact 48 (f := .free "reversed") rfl), He.free_ok X G (cd.fact 49 (f := .free "sum") rfl)⟩

    have e := hfa.symm.trans g_law
    cases e
    refine ⟨fd_law, fun s v => bA_law s [v] rfl, fun base _ _ hT => ?_⟩
    have T_is_module : GxR.TabB base mg (He.cT K ("is_module", none)).1 (He.cT K ("is_module", none)).2 := (fun t => ⟨t.code, t.bm, t.gP⟩) (hT _ (List.mem_map.mpr ⟨("is_module", none), by simp [tfs], rfl⟩))
    have h_is_module : fd_is_module.code = .ref (He.cT K ("is_module", none)).1 := code_of U_is_module
    have T_joined_sets : GxR.TabB base mg (He.cT K ("joined_sets", none)).1 (He.cT K ("joined_sets", none)).2 := (fun t => ⟨t.code, t.bm, t.gP⟩) (hT _ (List.mem_map.mpr ⟨("joined_sets", none), by simp [tfs], rfl⟩))
    have h_joined_sets : fd_joined_sets.code = .ref (He.cT K ("joined_sets", none)).1 := code_of U_joined_sets
    have k_same : Cl P w K mg base 25 "_law_same" (sp_same 25) := Cl.mk' U__law_same g__law_same b__law_same (ok_same B U__law_same g__law_same b__law_same 25)
    have k_mix : Cl P w K mg base 1 "_law_mix" sp_mix := Cl.mk' U__law_mix g__law_mix b__law_mix (ok_mix U__law_mix)
    have k_left : Cl P w K mg base 1 "_law_left" (sp_left K) := Cl.mk' U__law_left g__law_left b__law_left (ok_left B U__law_left)
    have k_pick : Cl P w K mg base 2 "_law_pick" sp_pick := Cl.mk' U__law_pick g__law_pick b__law_pick (ok_pick U__law_pick k_mix)
    have k_row : Cl P w K mg base 3 "_law_row" sp_row := Cl.mk' U__law_row g__law_row b__law_row (ok_row B U__law_row k_pick)
    have k_tie_of : Cl P w K mg base 1 "tie_of" sp_tie_of := Cl.mk' U_tie_of g_tie_of b_tie_of (ok_tie_of B U_tie_of)
    have k_num : Cl P w K mg base 1 "is_number" sp_num := Cl.mk' U_is_number g_is_number b_is_number (ok_number B U_is_number)
    have k_gaps : Cl P w K mg base 1 "gaps_of" sp_gaps := Cl.mk' U_gaps_of g_gaps_of b_gaps_of (ok_gaps B U_gaps_of)
    have k_tied : Cl P w K mg base 2 "tied" sp_tied := Cl.mk' U_tied g_tied b_tied (ok_tied B U_tied k_tie_of)
    have k_folded : Cl P w K mg base 1 "_law_folded" (sp_folded K) := Cl.mk' U__law_folded g__law_folded b__law_folded (ok_folded B U__law_folded)
    have k_place : Cl P w K mg base 2 "is_place" sp_place := Cl.mk' U_is_place g_is_place b_is_place (ok_place B U_is_place k_num)
    have k_parting : Cl P w K mg base 3 "is_parting" sp_parting := Cl.mk' U_is_parting g_is_parting b_is_parting (ok_parting B U_is_parting k_tied)
    have k_among : Cl P w K mg base 4 "least_among" sp_among := Cl.mk' U_least_among g_least_among b_least_among (ok_among B U_least_among k_parting)
    have k_least : Cl P w K mg base 5 "least_module" sp_least := Cl.mk' U_least_module g_least_module b_least_module (ok_least B U_least_module k_among)
    have k_module : Cl P w K mg base 6 "is_module" (sp_module (He.cT K ("is_module", none)).2) := Cl.mk' U_is_module g_is_module b_is_module (ok_module B U_is_module h_is_module T_is_module k_place k_least)
    have k_part : Cl P w K mg base 1 "part_of" sp_part := Cl.mk' U_part_of g_part_of b_part_of (ok_part_of B U_part_of)
    have k_amongI : Cl P w K mg base 4 "least_among" sp_amongI := Cl.mk' U_least_among g_least_among b_least_among (ok_amongI B U_least_among k_parting)
    have k_joined : Cl P w K mg base 4 "joined_sets" (sp_joined (He.cT K ("joined_sets", none)).2) := Cl.mk' U_joined_sets g_joined_sets b_joined_sets (ok_joined B U_joined_sets h_joined_sets T_joined_sets k_tied)
    have k_gm : Cl P w K mg base 5 "greatest_modules" sp_gm := Cl.mk' U_greatest_modules g_greatest_modules b_greatest_modules (ok_gm B U_greatest_modules k_amongI)
    have k_tree : Cl P w K mg base 19 "tree_of" (sp_tree (He.cT K ("joined_sets", none)).2 13) := Cl.mk' U_tree_of g_tree_of b_tree_of (ok_tree B U_tree_of g_tree_of b_tree_of k_joined k_gm 13)
    have k_parts : Cl P w K mg base 20 "parts_of" (sp_parts (He.cT K ("joined_sets", none)).2) := Cl.mk' U_parts_of g_parts_of b_parts_of (ok_parts B U_parts_of k_tree k_gaps)
    have k_plin : Cl P w K mg base 14 "places_in" (sp_plin 13) := Cl.mk' U_places_in g_places_in b_places_in (ok_plin B U_places_in g_places_in b_places_in 13)
    have k_lshape : Cl P w K mg base 3 "_law_shape" sp_lshape := Cl.mk' U__law_shape g__law_shape b__law_shape (ok_lshape B U__law_shape k_pick)
    have k_shares : Cl P w K mg base 3 "_law_shares" sp_shares := Cl.mk' U__law_shares g__law_shares b__law_shares (ok_shares B U__law_shares k_pick)
    have k_drawn : Cl P w K mg base 16 "_law_drawn" (sp_drawn 12) := Cl.mk' U__law_drawn g__law_drawn b__law_drawn (ok_drawn B U__law_drawn g__law_drawn b__law_drawn k_pick k_lshape k_shares 12)
    have k_dweb : Cl P w K mg base 17 "_law_drawn_web" sp_dweb := Cl.mk' U__law_drawn_web g__law_drawn_web b__law_drawn_web (ok_dweb B U__law_drawn_web k_pick k_row k_drawn)
    have k_exch : Cl P w K mg base 13 "_law_exchanged" (sp_exch 12) := Cl.mk' U__law_exchanged g__law_exchanged b__law_exchanged (ok_exch B U__law_exchanged g__law_exchanged b__law_exchanged 12)
    have k_numd : Cl P w K mg base 13 "_law_numbered" (sp_numd 12) := Cl.mk' U__law_numbered g__law_numbered b__law_numbered (ok_numd B U__law_numbered g__law_numbered b__law_numbered 12)
    have k_ren : Cl P w K mg base 2 "renumbered" sp_ren := Cl.mk' U_renumbered g_renumbered b_renumbered (ok_ren B U_renumbered k_tie_of)
    have k_ndr : Cl P w K mg base 26 "_law_nodes_right" (sp_ndr (He.cT K ("joined_sets", none)).2 (He.cT K ("is_module", none)).2) := Cl.mk' U__law_nodes_right g__law_nodes_right b__law_nodes_right (ok_ndr B U__law_nodes_right k_plin k_part k_parts k_numd k_module k_least k_same)
    exact ok_law B U_law k_left k_folded k_pick k_row k_dweb k_gaps k_parts k_exch k_numd k_module k_least k_ren k_ndr k_same

end My
open PySem PySem.W PySem.Calls PyProof.Rows
set_option maxHeartbeats 0 in
theorem PySem.Challenge.cw_pointedties_k38_gaps_and_parts_holds : PySem.Challenge.rw_pointedties_k38_gaps_and_parts.Holds := by
  w_on; o_law
  refine HandSHeadRun.head_any (r := My.Rw) (q := view My.Rw.prog [33]) (H := My.hk) (ob := My.ob) (M := 4000) (loose := My.others) (d := HandSHeadRun.topDef My.Rw.prog 33) (kwd := []) My.ob_eq
    (by kernel_rfl) (fun s => by kernel_rfl) My.run (by kernel_rfl) (by kernel_rfl) (by kernel_rfl) (by rfl) (by first | assumption | decide +kernel) (by decide +kernel) ⟨rfl, rfl, rfl, rfl, rfl, by decide +kernel⟩ ?hw ?hc
  case hw => w_witness2
  case hc =>
    refine My.walk_top (l := PySem.Challenge.rw_pointedties_k38_gaps_and_parts) (n := 63) (y := "_law_script") rfl (by decide) (by kernel_rfl) ?F
    intro w mg fa h Y G hmg0
    obtain ⟨K, KX, c⟩ := Y
    have hmg : mg ("law" : PySem.Str) = some (.ref fa) := by
      have e : (HandSHeadRun.topDef My.Rw.prog 33).name = ("law" : PySem.Str) := by kernel_rfl
      rw [← e]; exact hmg0
    obtain ⟨fd, hb, hF⟩ := My.law_ok (P := (PySem.Challenge.rw_pointedties_k38_gaps_and_parts).prog) (w := w) KX G hmg c
    have inT : ∀ p ∈ My.tfs.map (He.cT K), ∃ q ∈ My.tfs, p = He.cT K q := fun p hp => by
      obtain ⟨q, hq, e⟩ := List.mem_map.mp hp
      exact ⟨q, hq, e.symm⟩
    refine ⟨K, KX, fd, My.tfs.map (He.cT K), _, fun p hp => ?_, fun p hp => ?_, fun p hp => ?_, hb, fun H a ns hl _ hT hS => ?_, hF⟩
    · obtain ⟨q, hq, rfl⟩ := inT p hp; exact c.empty q hq
    · obtain ⟨q, hq, rfl⟩ := inT p hp; exact c.out q hq
    · obtain ⟨q, hq, rfl⟩ := inT p hp; exact PySem.W.codeHd_of_K KX (c.hd q hq)
    · exact ⟨a, ns, rfl, hS, hl, ⟨_, hT _ (List.mem_map.mpr ⟨_, by simp [My.tfs], rfl⟩), True.intro⟩, ⟨_, hT _ (List.mem_map.mpr ⟨_, by simp [My.tfs], rfl⟩), True.intro⟩, fun _ => rfl⟩
