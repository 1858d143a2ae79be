import PyProof.Rows.All
import Wide.All
import OpenK.AllK
import Wide.FinOn
import HandS.ForMost
import HandS.More
import HandS.SortRule
import HandS.SortInts
import HandS.TupSets
import HandS.Deep
import HandS.IsInst
import HandS.DictComp
import HandS.Style
import HandS.Flow
import HandS.TupAny
import HandS.Walk
import HandS.AnyAll
import HandS.GenOver
import PyProof.GenQ
import PyProof.GenComp
import PyProof.ConsumeS
import HandS.Zip
import HandS.Defaults
import PySem.Challenge.RW_pointedties_k16_ways_shown
import KE.KDictCopyH
import KE.KDictPairs
import HandS.HeadWalk
import PyProof.ReprRoads
import KE.DataMinMax
import KE.DataFind
import HandS.IterNext
import KE.SortData
import PyProof.CallStr
import HandS.RaiseMore
import KE.KStateDown
import HandS.Head0
import HandS.Head1
import HandS.Head2
import HandS.HeadEnd
import HandS.HeadHook1
import HandS.HeadHook2
import HandS.HeadHook3
import HandS.HeadHook4
set_option Elab.async false
set_option linter.all false
set_option maxRecDepth 100000
namespace My
open PySem PySem.Spec PyProof.Rows L2

/-! ### a def that may be called by its name -/
structure Cl (P : Program) (w : World) (K : PySem.W.Frag) (mg : Str → Option Value) (base : Heap)
    (k : Nat) (x : Str) (sp : Sp) : Prop where
  ex : ∃ (f : Addr) (fd : FuncData) (ps : List Str), FnOk P w K mg base CX0 k f fd ps sp ∧
    mg x = some (.ref f) ∧ PySem.W.keepIn K (.ref f) = true ∧ Binds K fd ps []
theorem Cl.mk' {P : Program} {w : World} {K : PySem.W.Frag} {mg : Str → Option Value} {base : Heap} {k : Nat} {x : Str} {sp : Sp}
    {st : Stmt} {f : Addr} {fd : FuncData} {ps : List Str} (F : Fun K x x st f fd) (hm : mg x = some (.ref f))
    (hb : Binds K fd ps []) (ok : FnOk P w K mg base CX0 k f fd ps sp) : Cl P w K mg base k x sp := ⟨f, fd, ps, ok, hm, F.kp, hb⟩
theorem pe_c {X : Cx} {k j : Nat} {x : Str} {sp : Sp} {p pos : Pos} {e : Expr} {es : List Expr} {t : TA}
    (c : Cl X.prog X.w X.K X.mg X.base k x sp) (hr : Room j X.A) (hk : k ≤ j) (hg : Gl X x) (ha : PA X (e :: es) t)
    (h1 : (x == ("__debug__" : Str)) = false := by decide)
    (h2 : starEach (e :: es) X.env = (false, eval e X.env) :: starEach es X.env := by rfl)
    (h3 : (backTo pos (starEach es X.env)).any (·.1) = false := by rfl) :
    PE X (.Call (.Name x p) (e :: es) [] pos) (tCall sp [] E0 t) := by
  obtain ⟨f, fd, ps, F, hm, kp, b⟩ := c.ex
  exact pe_call F (hr.mono hk) hg hm kp b .nil pass0 ha h1 h2 h3

/-! ### heaps: all stays but the list of draws at L -/
def Fr (L : Addr) (H H' : Hp) : Prop := ∀ b o, b ≠ L → H b = some o → H' b = some o
theorem Fr.refl (L : Addr) (H : Hp) : Fr L H H := fun _ _ _ h => h
theorem Fr.trans {L : Addr} {H H1 H2 : Hp} (a : Fr L H H1) (b : Fr L H1 H2) : Fr L H H2 :=
  fun c o n h => b c o n (a c o n h)
theorem Fr.of {L : Addr} {H H' : Hp} (a : Same H H') : Fr L H H' := fun b o _ h => a b o h
theorem same_new {H : Hp} {p : Addr} {o : HO} (h : H p = none) : Same H (upd H p o) := fun b x e => by
  rw [upd_ne (ne_of_none e h)]; exact e
theorem Fr.new {L : Addr} {H : Hp} {p : Addr} {o : HO} (h : H p = none) : Fr L H (upd H p o) := Fr.of (same_new h)
/-- what is new to the first heap may change -/
theorem Fr.put {L : Addr} {H H' : Hp} {p : Addr} {o : HO} (a : Fr L H H') (h : H p = none) : Fr L H (upd H' p o) :=
  fun b x n e => by rw [upd_ne (ne_of_none e h)]; exact a b x n e
theorem Same.put {H H' : Hp} {p : Addr} {o : HO} (a : Same H H') (h : H p = none) : Same H (upd H' p o) :=
  fun b x e => by rw [upd_ne (ne_of_none e h)]; exact a b x e
theorem Fr.putL {L : Addr} {H H' : Hp} {o : HO} (a : Fr L H H') : Fr L H (upd H' L o) :=
  fun b x n e => by rw [upd_ne n]; exact a b x n e

/-! ### the list of draws -/
def Lf (H : Hp) (L : Addr) (c : Int) : Prop :=
  ∃ x y z : Int, H L = some (.lst [.int x, .int y, .int z]) ∧ 0 ≤ x ∧ 0 ≤ z ∧ z ≤ c
theorem Lf.mono {H : Hp} {L : Addr} {c d : Int} (h : Lf H L c) (e : c ≤ d) : Lf H L d := by
  obtain ⟨x, y, z, h1, h2, h3, h4⟩ := h
  exact ⟨x, y, z, h1, h2, h3, Int.le_trans h4 e⟩
theorem Lf.same {H H' : Hp} {L : Addr} {c : Int} (h : Lf H L c) (e : Same H H') : Lf H' L c := by
  obtain ⟨x, y, z, h1, h2⟩ := h
  exact ⟨x, y, z, e _ _ h1, h2⟩
theorem Lf.new {H : Hp} {L p : Addr} {c : Int} {o : HO} (h : Lf H L c) (e : H p = none) : Lf (upd H p o) L c := h.same (same_new e)
theorem Lf.ne {H : Hp} {L p : Addr} {c : Int} (h : Lf H L c) (e : H p = none) : p ≠ L := by
  obtain ⟨x, y, z, h1, h2⟩ := h
  rintro rfl; rw [h1] at e; cases e
theorem Lf.put {H : Hp} {L p : Addr} {c : Int} {o : HO} (h : Lf H L c) (e : p ≠ L) : Lf (upd H p o) L c := by
  obtain ⟨x, y, z, h1, h2⟩ := h
  exact ⟨x, y, z, by rw [upd_ne (Ne.symm e)]; exact h1, h2⟩
theorem Lf.free {H H' : Hp} {L p : Addr} {c' : Int} (a : Fr L H H') (h' : Lf H' L c') (e : H' p = none) : H p = none := by
  have n := h'.ne e
  cases q : H p with
  | none => rfl
  | some o => rw [a p o n q] at e; cases e
theorem Lf.tup {H H' : Hp} {L p : Addr} {c : Int} {xs : List V} (a : Fr L H H') (h : Lf H L c) (e : H p = some (.tup xs)) : H' p = some (.tup xs) := by
  refine a p _ ?_ e
  obtain ⟨x, y, z, h1, h2⟩ := h
  rintro rfl; rw [h1] at e; cases e

/-! ### ties, rows of ties, webs -/
def Tie (H : Hp) (v : V) (t : Int × Int) : Prop := ∃ p, v = .ref p ∧ H p = some (.tup [.int t.1, .int t.2])
def Ties (H : Hp) : List V → List (Int × Int) → Prop
  | [], [] => True
  | v :: vs, t :: ts => Tie H v t ∧ Ties H vs ts
  | _, _ => False
/-- tuples stay -/
def Tst (H H' : Hp) : Prop := ∀ b xs, H b = some (.tup xs) → H' b = some (.tup xs)
theorem Tst.refl (H : Hp) : Tst H H := fun _ _ h => h
theorem Tst.trans {H H1 H2 : Hp} (a : Tst H H1) (b : Tst H1 H2) : Tst H H2 := fun c o h => b c o (a c o h)
theorem Same.tst {H H' : Hp} (a : Same H H') : Tst H H' := fun b xs h => a b _ h
theorem Lf.tst {H H' : Hp} {L : Addr} {c : Int} (h : Lf H L c) (a : Fr L H H') : Tst H H' := fun b xs e => Lf.tup a h e
theorem tst_new {H : Hp} {p : Addr} {o : HO} (h : H p = none) : Tst H (upd H p o) := Same.tst (same_new h)
theorem tst_put {H : Hp} {p : Addr} {o : HO} {xs : List V} (h : H p = some (.lst xs)) : Tst H (upd H p o) := fun b ys e => by
  rw [upd_ne]
  · exact e
  · rintro rfl; rw [h] at e; cases e
theorem Tie.mono {H H' : Hp} {v : V} {t : Int × Int} (a : Tst H H') (h : Tie H v t) : Tie H' v t := by
  obtain ⟨p, e, h⟩ := h
  exact ⟨p, e, a _ _ h⟩
theorem Ties.mono {H H' : Hp} (a : Tst H H') : ∀ {vs : List V} {ts : List (Int × Int)}, Ties H vs ts → Ties H' vs ts
  | [], [], _ => trivial
  | _ :: _, _ :: _, h => ⟨h.1.mono a, Ties.mono a h.2⟩
  | [], _ :: _, h => h.elim
  | _ :: _, [], h => h.elim
theorem Ties.app {H : Hp} : ∀ {vs : List V} {ts : List (Int × Int)} {us : List V} {rs : List (Int × Int)}, Ties H vs ts → Ties H us rs → Ties H (vs ++ us) (ts ++ rs)
  | [], [], _, _, _, k => k
  | _ :: _, _ :: _, _, _, h, k => ⟨h.1, Ties.app h.2 k⟩
  | [], _ :: _, _, _, h, _ => h.elim
  | _ :: _, [], _, _, h, _ => h.elim
theorem Ties.len {H : Hp} : ∀ {vs : List V} {ts : List (Int × Int)}, Ties H vs ts → vs.length = ts.length
  | [], [], _ => rfl
  | _ :: _, _ :: _, h => congrArg (· + 1) (Ties.len h.2)
  | [], _ :: _, h => h.elim
  | _ :: _, [], h => h.elim
theorem Ties.at {H : Hp} : ∀ {vs : List V} {ts : List (Int × Int)} {i : Nat} {v : V}, Ties H vs ts → vs[i]? = some v → ∃ t, ts[i]? = some t ∧ Tie H v t
  | [], [], _, _, _, e => by cases e
  | _ :: _, t :: _, 0, _, h, e => by cases e; exact ⟨t, rfl, h.1⟩
  | _ :: _, _ :: _, i + 1, _, h, e => Ties.at (i := i) h.2 e
  | [], _ :: _, _, _, h, _ => h.elim
  | _ :: _, [], _, _, h, _ => h.elim
theorem Ties.one {H : Hp} {v : V} {t : Int × Int} (h : Tie H v t) : Ties H [v] [t] := ⟨h, trivial⟩
theorem Tie.new {H : Hp} {p : Addr} {a b : Int} : Tie (upd H p (.tup [.int a, .int b])) (.ref p) (a, b) := ⟨p, rfl, upd_same⟩

/-! ### what a web is -/
def ltT (s t : Int × Int) : Prop := s.1 < t.1 ∨ (s.1 = t.1 ∧ s.2 < t.2)
def WOk (n : Nat) (ts : List (Int × Int)) : Prop := ts.Pairwise ltT ∧ ∀ t ∈ ts, 0 ≤ t.1 ∧ t.1 < t.2 ∧ t.2 < (n : Int)
def Web (H : Hp) (v : V) (n : Nat) (ts : List (Int × Int)) : Prop :=
  ∃ p q vs, v = .ref p ∧ H p = some (.tup [.int (n : Int), .ref q]) ∧ H q = some (.tup vs) ∧ Ties H vs ts
theorem Web.mono {H H' : Hp} {v : V} {n : Nat} {ts : List (Int × Int)} (a : Tst H H') (h : Web H v n ts) : Web H' v n ts := by
  obtain ⟨p, q, vs, e, h1, h2, h3⟩ := h
  exact ⟨p, q, vs, e, a _ _ h1, a _ _ h2, h3.mono a⟩

theorem sz {n : Nat} (h : n ≤ 100000) : n ≤ sizeLine := Nat.le_trans h (by decide)
theorem sz' {n : Nat} (h : n < 100000) : n < sizeLine := Nat.lt_of_lt_of_le h (by decide)

theorem bi (b : Bool) : -(2 ^ 64) < (if b = true then (1 : Int) else 0) ∧ (if b = true then (1 : Int) else 0) < 2 ^ 64 ∧ 0 ≤ (if b = true then (1 : Int) else 0) := by
  cases b <;> decide

theorem yes {σ : L2.St} {H : Hp} {R N : Hp → Prop} (h : R H) : tYes σ H (fun b H3 => if b = true then R H3 else N H3) := by
  show (if true = true then R H else N H)
  exact iteT h

/-! ### all pairs, rising -/
def prow (a : Nat) (j : Nat) : List (Int × Int) := (List.range j).map fun (i : Nat) => ((a : Int), (a : Int) + 1 + (i : Int))
def pup (n i : Nat) : List (Int × Int) := (List.range i).flatMap fun a => prow a (n - (a + 1))
theorem prow_succ (a j : Nat) : prow a (j + 1) = prow a j ++ [((a : Int), (a : Int) + 1 + (j : Int))] := by
  unfold prow; rw [List.range_succ, List.map_append]; rfl
theorem pup_succ (n i : Nat) : pup n (i + 1) = pup n i ++ prow i (n - (i + 1)) := by
  unfold pup; rw [List.range_succ, List.flatMap_append, List.flatMap_singleton]
theorem prow_len (a j : Nat) : (prow a j).length = j := by unfold prow; rw [List.length_map, List.length_range]
theorem mem_prow {a j : Nat} {t : Int × Int} : t ∈ prow a j ↔ t.1 = a ∧ (a : Int) < t.2 ∧ t.2 < (a : Int) + 1 + j := by
  unfold prow
  rw [List.mem_map]
  constructor
  · rintro ⟨i, hi, rfl⟩
    have := List.mem_range.mp hi
    refine ⟨rfl, ?_, ?_⟩ <;> dsimp only <;> omega
  · rintro ⟨h1, h2, h3⟩
    refine ⟨(t.2 - a - 1).toNat, List.mem_range.mpr (by omega), ?_⟩
    cases t with
    | mk x y =>
      dsimp only at h1 h2 h3
      rw [h1]
      congr 1
      omega
theorem mem_pup {n i : Nat} {t : Int × Int} (hi : i ≤ n) : t ∈ pup n i ↔ 0 ≤ t.1 ∧ t.1 < i ∧ t.1 < t.2 ∧ t.2 < n := by
  unfold pup
  rw [List.mem_flatMap]
  constructor
  · rintro ⟨a, ha, h⟩
    have := List.mem_range.mp ha
    have := mem_prow.mp h
    omega
  · rintro ⟨h1, h2, h3, h4⟩
    refine ⟨t.1.toNat, List.mem_range.mpr (by omega), mem_prow.mpr ?_⟩
    omega
theorem prow_pw (a : Nat) : ∀ j, (prow a j).Pairwise ltT
  | 0 => by exact List.Pairwise.nil
  | j + 1 => by
    rw [prow_succ, List.pairwise_append]
    refine ⟨prow_pw a j, List.pairwise_singleton _ _, fun s hs t ht => ?_⟩
    have h := mem_prow.mp hs
    have e := List.mem_singleton.mp ht
    subst e
    refine .inr ⟨h.1, ?_⟩
    show s.2 < (a : Int) + 1 + j
    omega
theorem pup_pw (n : Nat) : ∀ i, i ≤ n → (pup n i).Pairwise ltT
  | 0, _ => by exact List.Pairwise.nil
  | i + 1, h => by
    rw [pup_succ, List.pairwise_append]
    refine ⟨pup_pw n i (by omega), prow_pw i _, fun s hs t ht => ?_⟩
    have h1 := (mem_pup (by omega)).mp hs
    have h2 := mem_prow.mp ht
    refine .inl ?_
    omega
theorem pup_len (n : Nat) : ∀ i, (pup n i).length ≤ i * n
  | 0 => Nat.zero_le _
  | i + 1 => by
    rw [pup_succ, List.length_append, prow_len, Nat.succ_mul]
    have := pup_len n i
    omega
theorem pup_len' {n i : Nat} (hn : n ≤ 100) (hi : i ≤ n) : (pup n i).length ≤ 10000 :=
  Nat.le_trans (pup_len n i) (Nat.le_trans (Nat.mul_le_mul (Nat.le_trans hi hn) hn) (by decide))
theorem wok_sub {n : Nat} {ts : List (Int × Int)} (h : ts.Sublist (pup n n)) : WOk n ts :=
  ⟨(pup_pw n n (Nat.le_refl n)).sublist h, fun t ht => by
    have := (mem_pup (Nat.le_refl n)).mp (h.subset ht)
    omega⟩

/-! ### the numbers below n -/
def up (n : Nat) : List Int := (List.range n).map fun (i : Nat) => (i : Int)
theorem up_succ (n : Nat) : up (n + 1) = up n ++ [(n : Int)] := by unfold up; rw [List.range_succ, List.map_append]; rfl
theorem up_len (n : Nat) : (up n).length = n := by unfold up; rw [List.length_map, List.length_range]
theorem mem_up {n : Nat} {x : Int} : x ∈ up n ↔ 0 ≤ x ∧ x < n := by
  unfold up
  rw [List.mem_map]
  constructor
  · rintro ⟨i, hi, rfl⟩
    have := List.mem_range.mp hi
    omega
  · intro h
    exact ⟨x.toNat, List.mem_range.mpr (by omega), by omega⟩
theorem up_nodup (n : Nat) : (up n).Nodup := by
  unfold up
  rw [List.nodup_iff_pairwise_ne, List.pairwise_map]
  exact (List.nodup_iff_pairwise_ne.mp List.nodup_range).imp fun h e => h (by omega)
theorem ins_perm {α : Type} (l : List α) (x : α) (k : Nat) : (l.take k ++ [x] ++ l.drop k).Perm (l ++ [x]) := by
  have h : (l.take k ++ [x] ++ l.drop k).Perm (l.take k ++ (l.drop k ++ [x])) := by
    rw [List.append_assoc]
    exact List.Perm.append_left _ List.perm_append_comm
  refine h.trans ?_
  rw [← List.append_assoc, List.take_append_drop]

/-! ### where a number stands in a list -/
theorem all_flat (ns : List Int) : (ns.map V.int).all flatV = true := by
  rw [List.all_map, List.all_eq_true]; intro x _; rfl
theorem idx_at {ns : List Int} {x : Int} (h : x ∈ ns) : (ns.map V.int)[ns.idxOf x]? = some (.int x) := by
  have hl := List.idxOf_lt_length_of_mem h
  rw [List.getElem?_map, List.getElem?_eq_getElem hl, List.getElem_idxOf hl]; rfl
theorem idx_first {ns : List Int} {x : Int} : ∀ (m : Nat) (z : V), m < ns.idxOf x → (ns.map V.int)[m]? = some z → eqV z (.int x) = false := by
  intro m z hm hz
  rw [List.getElem?_map] at hz
  have hml : m < ns.length := Nat.lt_of_lt_of_le hm List.idxOf_le_length
  rw [List.getElem?_eq_getElem hml] at hz
  cases hz
  have : ns[m] ≠ x := fun e => by
    have := List.not_of_lt_findIdx (xs := ns) (p := fun y => y == x) hm
    rw [e] at this
    simp at this
  exact beq_eq_false_iff_ne.mpr this

/-! ### readings by name -/
abbrev rLenK (K : PySem.W.Frag) : List V → Hp → VK → Prop :=
  fun xs H Q => ∃ p ys, xs = [.ref p] ∧ (SqL K H p ys ∨ SqT K H p ys) ∧ Q (.int ys.length) H
abbrev rTupK (K : PySem.W.Frag) : List V → Hp → VK → Prop :=
  fun xs H Q => ∃ p ys, xs = [.ref p] ∧ ((SqL K H p ys ∧ ∀ l, H l = none → Q (.ref l) (upd H l (.tup ys))) ∨ (SqT K H p ys ∧ Q (.ref p) H))
abbrev rLstK (K : PySem.W.Frag) : List V → Hp → VK → Prop :=
  fun xs H Q => ∃ p ys, xs = [.ref p] ∧ (SqL K H p ys ∨ SqT K H p ys) ∧ ∀ l, H l = none → Q (.ref l) (upd H l (.lst ys))

/-! ### the built-in names -/
structure Bts (mg : Str → Option Value) : Prop where
  len : mg "len" = none
  range : mg "range" = none
  tuple : mg "tuple" = none
  list : mg "list" = none
  int : mg "int" = none
  abs : mg "abs" = none
  min : mg "min" = none
  sorted : mg "sorted" = none
  set : mg "set" = none
  all : mg "all" = none
  any : mg "any" = none
  enumerate : mg "enumerate" = none
  zip : mg "zip" = none
  isinstance : mg "isinstance" = none
  bool : mg "bool" = none
  str : mg "str" = none
  dict : mg "dict" = none
  max : mg "max" = none
  reversed : mg "reversed" = none
  sum : mg "sum" = none
end My

set_option Elab.async false
set_option linter.all false
set_option maxRecDepth 100000
namespace My
open PySem PySem.Spec PyProof.Rows L2

/-! ### the pair that a value tells -/
theorem Tie.inj {H : Hp} {v : V} {s t : Int × Int} (h : Tie H v s) (k : Tie H v t) : s = t := by
  obtain ⟨p, rfl, h⟩ := h
  obtain ⟨q, e, k⟩ := k
  cases e
  rw [h] at k
  cases s; cases t
  cases k
  rfl
open Classical in
noncomputable def key (H : Hp) (v : V) : Int × Int := if h : ∃ t, Tie H v t then h.choose else (0, 0)
theorem key_of {H : Hp} {v : V} {t : Int × Int} (h : Tie H v t) : key H v = t := by
  unfold key
  rw [dif_pos ⟨t, h⟩]
  exact (Exists.choose_spec (⟨t, h⟩ : ∃ t, Tie H v t)).inj h
theorem Ties.key {H : Hp} : ∀ {vs : List V} {ts : List (Int × Int)}, Ties H vs ts → ts = vs.map (My.key H)
  | [], [], _ => rfl
  | _ :: _, _ :: _, h => by rw [List.map_cons, key_of h.1, ← Ties.key h.2]
  | [], _ :: _, h => h.elim
  | _ :: _, [], h => h.elim
theorem Ties.all {H : Hp} : ∀ {vs : List V} {ts : List (Int × Int)}, Ties H vs ts → ∀ v ∈ vs, Tie H v (My.key H v)
  | [], [], _, _, hv => by cases hv
  | _ :: _, _ :: _, h, v, hv => by
    rcases List.mem_cons.mp hv with rfl | hv
    · rw [key_of h.1]; exact h.1
    · exact Ties.all h.2 v hv
  | [], _ :: _, h, _, _ => h.elim
  | _ :: _, [], h, _, _ => h.elim
theorem ties_mk {H : Hp} : ∀ {vs : List V}, (∀ v ∈ vs, Tie H v (My.key H v)) → Ties H vs (vs.map (My.key H))
  | [], _ => trivial
  | v :: vs, h => ⟨h v List.mem_cons_self, ties_mk fun u hu => h u (List.mem_cons_of_mem _ hu)⟩

/-! ### a list of ties, sorted -/
theorem srt_ties {H : Hp} {xs ys : List V} {ts : List (Int × Int)} (hs : SrtO.Srtd (ltP (My.key H)) ys) (hb : ys.Perm xs) (hT : Ties H xs ts) :
    ∃ ts', Ties H ys ts' ∧ ts'.Perm ts ∧ ts'.Pairwise (fun s t => ¬ ltT t s) := by
  refine ⟨ys.map (My.key H), ties_mk fun v hv => hT.all v (hb.mem_iff.mp hv), ?_, ?_⟩
  · rw [hT.key]; exact hb.map _
  · rw [List.pairwise_map]
    refine hs.imp fun {a b} h l => ?_
    have : ltP (My.key H) b a = true := SrtO.lexB_iff.mpr l
    rw [this] at h
    cases h
theorem ltT_tri (s t : Int × Int) : ltT s t ∨ s = t ∨ ltT t s := by
  cases s with | mk a b =>
  cases t with | mk c d =>
  unfold ltT
  by_cases h1 : a < c
  · exact .inl (.inl h1)
  · by_cases h2 : c < a
    · exact .inr (.inr (.inl h2))
    · have e : a = c := by omega
      subst e
      by_cases h3 : b < d
      · exact .inl (.inr ⟨rfl, h3⟩)
      · by_cases h4 : d < b
        · exact .inr (.inr (.inr ⟨rfl, h4⟩))
        · have e : b = d := by omega
          subst e
          exact .inr (.inl rfl)
theorem ltT_irr {s : Int × Int} : ¬ ltT s s := by unfold ltT; omega
theorem ltT_tr {s t u : Int × Int} (h : ltT s t) (k : ltT t u) : ltT s u := by unfold ltT at *; omega
theorem pw_lt {ts : List (Int × Int)} (h : ts.Pairwise (fun s t => ¬ ltT t s)) (nd : ts.Nodup) : ts.Pairwise ltT := by
  refine (h.and (List.nodup_iff_pairwise_ne.mp nd)).imp ?_
  rintro s t ⟨h1, h2⟩
  rcases ltT_tri s t with h | h | h
  · exact h
  · exact absurd h h2
  · exact absurd h h1
/-- two rising lists with the same items are one -/
theorem pw_eq : ∀ {as bs : List (Int × Int)}, as.Pairwise ltT → bs.Pairwise ltT → (∀ t, t ∈ as ↔ t ∈ bs) → as = bs
  | [], [], _, _, _ => rfl
  | [], b :: bs, _, _, h => by have := (h b).mpr List.mem_cons_self; cases this
  | a :: as, [], _, _, h => by have := (h a).mp List.mem_cons_self; cases this
  | a :: as, b :: bs, ha, hb, h => by
    have ha' := List.pairwise_cons.mp ha
    have hb' := List.pairwise_cons.mp hb
    have e : a = b := by
      rcases List.mem_cons.mp ((h a).mp List.mem_cons_self) with e | m1
      · exact e
      · rcases List.mem_cons.mp ((h b).mpr List.mem_cons_self) with e | m2
        · exact e.symm
        · exact absurd (ltT_tr (ha'.1 b m2) (hb'.1 a m1)) ltT_irr
    subst e
    rw [pw_eq ha'.2 hb'.2 fun t => ⟨fun m => ?_, fun m => ?_⟩]
    · rcases List.mem_cons.mp ((h t).mp (List.mem_cons_of_mem _ m)) with e | m'
      · subst e; exact absurd (ha'.1 t m) ltT_irr
      · exact m'
    · rcases List.mem_cons.mp ((h t).mpr (List.mem_cons_of_mem _ m)) with e | m'
      · subst e; exact absurd (hb'.1 t m) ltT_irr
      · exact m'

/-! ### ties as data -/
def dT (t : Int × Int) : PyData := .tuple [.int t.1, .int t.2]
theorem Tie.dp {K : PySem.W.Frag} {H : Hp} {v : V} {t : Int × Int} (h : Tie H v t) : Dp K H v (dT t) := by
  obtain ⟨p, rfl, h⟩ := h
  exact .tup (Or.inl (Or.inl h)) (.cons (.int _) (.cons (.int _) .nil))
theorem Ties.dp {K : PySem.W.Frag} {H : Hp} : ∀ {vs : List V} {ts : List (Int × Int)}, Ties H vs ts → DpAll K H vs (ts.map dT)
  | [], [], _ => .nil
  | _ :: _, _ :: _, h => .cons h.1.dp (Ties.dp h.2)
  | [], _ :: _, h => h.elim
  | _ :: _, [], h => h.elim
theorem shaped_dT (t : Int × Int) : SeqAt.shaped (dT t) = true := rfl
theorem can_ties (ts : List (Int × Int)) : PyData.canLayAll0 (ts.map dT) = true := by
  induction ts with
  | nil => rfl
  | cons t ts ih => rw [List.map_cons, PyData.canLayAll0, ih]; rfl
theorem dep_ties (ts : List (Int × Int)) : PyData.depthAll (ts.map dT) ≤ 1 := by
  induction ts with
  | nil => exact Nat.zero_le _
  | cons t ts ih =>
    rw [List.map_cons, PyData.depthAll]
    exact Nat.max_le.mpr ⟨Nat.le_refl _, ih⟩
theorem shaped_ties (ts : List (Int × Int)) : SeqAt.shaped (.list (ts.map dT)) = true := by
  unfold SeqAt.shaped
  rw [Bool.and_eq_true, decide_eq_true_eq]
  refine ⟨can_ties ts, ?_⟩
  show PyData.depthAll (ts.map dT) + 1 ≤ 64
  have := dep_ties ts
  omega
theorem eqv_dT (s t : Int × Int) : PyData.eqv (dT s) (dT t) = decide (s = t) := by
  cases s with | mk a b =>
  cases t with | mk c d =>
  show ((a == c) && ((b == d) && true)) = _
  by_cases h : a = c <;> by_cases k : b = d <;> simp [h, k]
theorem two {A : Hp → Prop} {C : Prop} (R : Hp → Prop) (k : (∀ H, R H → A H) → C) (h : ∀ H, R H → A H) : C := k h
theorem at_mem {ns : List Int} {j : Int} (h1 : -(ns.length : Int) ≤ j) (h2 : j < ns.length) : ∃ x, atI (ns.map V.int) j = some (.int x) ∧ x ∈ ns := by
  unfold atI ixN
  rw [List.length_map]
  by_cases h0 : 0 ≤ j
  · have hl : j.toNat < ns.length := by omega
    rw [if_pos h0, if_pos h2]
    refine ⟨ns[j.toNat], ?_, List.getElem_mem hl⟩
    show (ns.map V.int)[j.toNat]? = _
    rw [List.getElem?_map, List.getElem?_eq_getElem hl]; rfl
  · have hl : (j + ns.length).toNat < ns.length := by omega
    rw [if_neg h0, if_pos h1]
    refine ⟨ns[(j + ns.length).toNat], ?_, List.getElem_mem hl⟩
    show (ns.map V.int)[(j + ns.length).toNat]? = _
    rw [List.getElem?_map, List.getElem?_eq_getElem hl]; rfl
theorem perm2 {ns : List Int} {x y : Int} (h : ns.Perm [x, y]) (s : ns.Pairwise (· ≤ ·)) : ns = [if x ≤ y then x else y, if x ≤ y then y else x] := by
  match ns, h.length_eq with
  | [a, b], _ =>
    have ab : a ≤ b := (List.pairwise_cons.mp s).1 b (List.mem_singleton.mpr rfl)
    have ha := h.mem_iff (a := a) |>.mp List.mem_cons_self
    have hb := h.mem_iff (a := b) |>.mp (List.mem_cons_of_mem _ List.mem_cons_self)
    have hx := h.mem_iff (a := x) |>.mpr List.mem_cons_self
    have hy := h.mem_iff (a := y) |>.mpr (List.mem_cons_of_mem _ List.mem_cons_self)
    simp only [List.mem_cons, List.not_mem_nil, or_false] at ha hb hx hy
    by_cases c : x ≤ y
    · rw [if_pos c, if_pos c]
      have : a = x ∧ b = y := by omega
      rw [this.1, this.2]
    · rw [if_neg c, if_neg c]
      have : a = y ∧ b = x := by omega
      rw [this.1, this.2]
/-! ### ties by their places, for sets -/
def prT (p : Addr × List Int) : Int × Int := (p.2.getD 0 0, p.2.getD 1 0)
theorem Ties.addr {H : Hp} : ∀ {vs : List V} {ts : List (Int × Int)}, Ties H vs ts → ∃ ks : List (Addr × List Int), vs = (ks.map fun p => V.ref p.1) ∧
    (∀ p ∈ ks, H p.1 = some (.tup (p.2.map V.int)) ∧ ∃ t ∈ ts, p.2 = [t.1, t.2]) ∧ ks.map prT = ts
  | [], [], _ => ⟨[], rfl, (fun _ h => by cases h), rfl⟩
  | v :: vs, t :: ts, h => by
    obtain ⟨ks, e1, e2, e3⟩ := Ties.addr h.2
    obtain ⟨p, rfl, hp⟩ := h.1
    refine ⟨(p, [t.1, t.2]) :: ks, by rw [e1]; rfl, fun q hq => ?_, by rw [List.map_cons, e3]; rfl⟩
    rcases List.mem_cons.mp hq with rfl | hq
    · exact ⟨hp, t, List.mem_cons_self, rfl⟩
    · obtain ⟨g1, t', g2, g3⟩ := e2 q hq
      exact ⟨g1, t', List.mem_cons_of_mem _ g2, g3⟩
  | [], _ :: _, h => h.elim
  | _ :: _, [], h => h.elim
theorem ties_addr {H : Hp} : ∀ {ks : List (Addr × List Int)}, (∀ p ∈ ks, H p.1 = some (.tup (p.2.map V.int)) ∧ ∃ t : Int × Int, p.2 = [t.1, t.2]) → Ties H (ks.map fun p => V.ref p.1) (ks.map prT)
  | [], _ => trivial
  | p :: ks, h => by
    refine ⟨?_, ties_addr fun q hq => h q (List.mem_cons_of_mem _ hq)⟩
    obtain ⟨g1, t, g2⟩ := h p List.mem_cons_self
    refine ⟨p.1, rfl, ?_⟩
    unfold prT
    rw [g1, g2]; rfl
theorem u65 {k : Nat} {A : Around} (r : Room k A) : A.units + 65 < cLine := by have := r.un; omega
end My

set_option Elab.async false
set_option linter.all false
set_option maxRecDepth 100000
namespace My
open PySem PySem.Spec PyProof.Rows L2

/-! ### lists side by side -/
def All2 {α : Type} (R : V → α → Prop) : List V → List α → Prop
  | [], [] => True
  | v :: vs, t :: ts => R v t ∧ All2 R vs ts
  | _, _ => False
section
variable {α : Type} {R S : V → α → Prop}
theorem All2.imp (a : ∀ v t, R v t → S v t) : ∀ {vs : List V} {ts : List α}, All2 R vs ts → All2 S vs ts
  | [], [], _ => trivial
  | _ :: _, _ :: _, h => ⟨a _ _ h.1, All2.imp a h.2⟩
  | [], _ :: _, h => h.elim
  | _ :: _, [], h => h.elim
theorem All2.app : ∀ {vs us : List V} {ts rs : List α}, All2 R vs ts → All2 R us rs → All2 R (vs ++ us) (ts ++ rs)
  | [], _, [], _, _, k => k
  | _ :: _, _, _ :: _, _, h, k => ⟨h.1, All2.app h.2 k⟩
  | [], _, _ :: _, _, h, _ => h.elim
  | _ :: _, _, [], _, h, _ => h.elim
theorem All2.len : ∀ {vs : List V} {ts : List α}, All2 R vs ts → vs.length = ts.length
  | [], [], _ => rfl
  | _ :: _, _ :: _, h => congrArg (· + 1) (All2.len h.2)
  | [], _ :: _, h => h.elim
  | _ :: _, [], h => h.elim
theorem All2.at : ∀ {vs : List V} {ts : List α} {i : Nat} {v : V}, All2 R vs ts → vs[i]? = some v → ∃ t, ts[i]? = some t ∧ R v t
  | [], [], _, _, _, e => by cases e
  | _ :: _, t :: _, 0, _, h, e => by cases e; exact ⟨t, rfl, h.1⟩
  | _ :: _, _ :: _, i + 1, _, h, e => All2.at (i := i) h.2 e
  | [], _ :: _, _, _, h, _ => h.elim
  | _ :: _, [], _, _, h, _ => h.elim
theorem All2.at' : ∀ {vs : List V} {ts : List α} {i : Nat} {t : α}, All2 R vs ts → ts[i]? = some t → ∃ v, vs[i]? = some v ∧ R v t
  | [], [], _, _, _, e => by cases e
  | v :: _, _ :: _, 0, _, h, e => by cases e; exact ⟨v, rfl, h.1⟩
  | _ :: _, _ :: _, i + 1, _, h, e => All2.at' (i := i) h.2 e
  | [], _ :: _, _, _, h, _ => h.elim
  | _ :: _, [], _, _, h, _ => h.elim
theorem All2.erase : ∀ {vs : List V} {ts : List α} (k : Nat), All2 R vs ts → All2 R (vs.eraseIdx k) (ts.eraseIdx k)
  | [], [], _, _ => trivial
  | _ :: _, _ :: _, 0, h => h.2
  | _ :: _, _ :: _, k + 1, h => ⟨h.1, All2.erase k h.2⟩
  | [], _ :: _, _, h => h.elim
  | _ :: _, [], _, h => h.elim
end

/-! ### pairs of places of unlike groups -/
def norm (a b : Int) : Int × Int := (if a ≤ b then a else b, if a ≤ b then b else a)
theorem norm_inj {a b c d : Int} (h : norm a b = norm c d) : (a = c ∧ b = d) ∨ (a = d ∧ b = c) := by
  unfold norm at h
  have h1 := congrArg Prod.fst h
  have h2 := congrArg Prod.snd h
  dsimp only at h1 h2
  by_cases x : a ≤ b <;> by_cases y : c ≤ d
  · rw [if_pos x, if_pos y] at h1 h2; omega
  · rw [if_pos x, if_neg y] at h1 h2; omega
  · rw [if_neg x, if_pos y] at h1 h2; omega
  · rw [if_neg x, if_neg y] at h1 h2; omega
def newA (g h : List Int) : List (Int × Int) := g.flatMap fun a => h.map fun b => norm a b
def newK (s : List (List Int)) (cd : Nat → Nat → Bool) (k j : Nat) : List (Int × Int) :=
  (List.range j).flatMap fun j => newA (if cd k j = true then s.getD k [] else []) (s.getD j [])
def news (s : List (List Int)) (cd : Nat → Nat → Bool) (m : Nat) : List (Int × Int) := (List.range m).flatMap fun k => newK s cd k k
theorem newA_app (g g' h : List Int) : newA (g ++ g') h = newA g h ++ newA g' h := by unfold newA; rw [List.flatMap_append]
theorem newA_one (a : Int) (h : List Int) : newA [a] h = h.map fun b => norm a b := by unfold newA; rw [List.flatMap_singleton]
theorem newK_succ (s : List (List Int)) (cd : Nat → Nat → Bool) (k j : Nat) : newK s cd k (j + 1) = newK s cd k j ++ newA (if cd k j = true then s.getD k [] else []) (s.getD j []) := by
  unfold newK; rw [List.range_succ, List.flatMap_append, List.flatMap_singleton]
theorem news_succ (s : List (List Int)) (cd : Nat → Nat → Bool) (m : Nat) : news s cd (m + 1) = news s cd m ++ newK s cd m m := by
  unfold news; rw [List.range_succ, List.flatMap_append, List.flatMap_singleton]
theorem mem_newA {g h : List Int} {t : Int × Int} : t ∈ newA g h ↔ ∃ a ∈ g, ∃ b ∈ h, t = norm a b := by
  unfold newA
  simp only [List.mem_flatMap, List.mem_map]
  constructor
  · rintro ⟨a, ha, b, hb, rfl⟩; exact ⟨a, ha, b, hb, rfl⟩
  · rintro ⟨a, ha, b, hb, rfl⟩; exact ⟨a, ha, b, hb, rfl⟩
theorem mem_newK {s : List (List Int)} {cd : Nat → Nat → Bool} {k j : Nat} {t : Int × Int} (h : t ∈ newK s cd k j) :
    ∃ j' < j, ∃ a ∈ s.getD k [], ∃ b ∈ s.getD j' [], t = norm a b := by
  unfold newK at h
  obtain ⟨j', hj, h⟩ := List.mem_flatMap.mp h
  obtain ⟨a, ha, b, hb, e⟩ := mem_newA.mp h
  refine ⟨j', List.mem_range.mp hj, a, ?_, b, hb, e⟩
  split at ha
  · exact ha
  · cases ha
theorem mem_news {s : List (List Int)} {cd : Nat → Nat → Bool} {m : Nat} {t : Int × Int} (h : t ∈ news s cd m) :
    ∃ k < m, ∃ j < k, ∃ a ∈ s.getD k [], ∃ b ∈ s.getD j [], t = norm a b := by
  unfold news at h
  obtain ⟨k, hk, h⟩ := List.mem_flatMap.mp h
  obtain ⟨j, hj, r⟩ := mem_newK h
  exact ⟨k, List.mem_range.mp hk, j, hj, r⟩
/-- a place is in one group alone -/
theorem grp_one {s : List (List Int)} (nd : s.flatten.Nodup) {a : Int} {i j : Nat} (hi : a ∈ s.getD i []) (hj : a ∈ s.getD j []) : i = j := by
  have li : i < s.length := by
    rcases Nat.lt_or_ge i s.length with h | h
    · exact h
    · rw [List.getD_eq_getElem?_getD, List.getElem?_eq_none h] at hi; cases hi
  have lj : j < s.length := by
    rcases Nat.lt_or_ge j s.length with h | h
    · exact h
    · rw [List.getD_eq_getElem?_getD, List.getElem?_eq_none h] at hj; cases hj
  rw [List.getD_eq_getElem?_getD, List.getElem?_eq_getElem li] at hi
  rw [List.getD_eq_getElem?_getD, List.getElem?_eq_getElem lj] at hj
  dsimp only [Option.getD_some] at hi hj
  have pw := (List.pairwise_flatten.mp (List.nodup_iff_pairwise_ne.mp nd)).2
  rw [List.pairwise_iff_getElem] at pw
  rcases Nat.lt_trichotomy i j with h | h | h
  · exact absurd rfl (pw i j li lj h a hi a hj)
  · exact h
  · exact absurd rfl (pw j i lj li h a hj a hi)
theorem grp_nd {s : List (List Int)} (nd : s.flatten.Nodup) (i : Nat) : (s.getD i []).Nodup := by
  rcases Nat.lt_or_ge i s.length with h | h
  · rw [List.getD_eq_getElem?_getD, List.getElem?_eq_getElem h]
    exact List.nodup_iff_pairwise_ne.mpr ((List.pairwise_flatten.mp (List.nodup_iff_pairwise_ne.mp nd)).1 _ (List.getElem_mem h))
  · rw [List.getD_eq_getElem?_getD, List.getElem?_eq_none h]; exact List.nodup_nil
theorem four_inj {s : List (List Int)} (nd : s.flatten.Nodup) {k j k' j' : Nat} {a b a' b' : Int} (hj : j < k) (hj' : j' < k') (ha : a ∈ s.getD k []) (hb : b ∈ s.getD j [])
    (ha' : a' ∈ s.getD k' []) (hb' : b' ∈ s.getD j' []) (e : norm a b = norm a' b') : k = k' ∧ j = j' ∧ a = a' ∧ b = b' := by
  rcases norm_inj e with ⟨rfl, rfl⟩ | ⟨rfl, rfl⟩
  · exact ⟨grp_one nd ha ha', grp_one nd hb hb', rfl, rfl⟩
  · have e1 := grp_one nd ha hb'
    have e2 := grp_one nd hb ha'
    omega
theorem news_nd {s : List (List Int)} (nd : s.flatten.Nodup) (cd : Nat → Nat → Bool) (m : Nat) : (news s cd m).Nodup := by
  unfold news
  rw [List.nodup_iff_pairwise_ne, List.pairwise_flatMap]
  refine ⟨fun k hk => ?_, ?_⟩
  · unfold newK
    rw [List.pairwise_flatMap]
    refine ⟨fun j hj => ?_, ?_⟩
    · have hj := List.mem_range.mp hj
      unfold newA
      rw [List.pairwise_flatMap]
      refine ⟨fun a ha => ?_, ?_⟩
      · rw [List.pairwise_map]
        refine (List.nodup_iff_pairwise_ne.mp (grp_nd nd j)).imp_of_mem fun {b b'} hb hb' ne e => ?_
        have ha : a ∈ s.getD k [] := by split at ha; exact ha; cases ha
        exact ne (four_inj nd hj hj ha hb ha hb' e).2.2.2
      · have nda : (if cd k j = true then s.getD k [] else []).Nodup := by split; exact grp_nd nd k; exact List.nodup_nil
        refine (List.nodup_iff_pairwise_ne.mp nda).imp_of_mem fun {a a'} ha ha' ne x hx y hy e => ?_
        have ha : a ∈ s.getD k [] := by split at ha; exact ha; cases ha
        have ha' : a' ∈ s.getD k [] := by split at ha'; exact ha'; cases ha'
        obtain ⟨b, hb, rfl⟩ := List.mem_map.mp hx
        obtain ⟨b', hb', rfl⟩ := List.mem_map.mp hy
        exact ne (four_inj nd hj hj ha hb ha' hb' e).2.2.1
    · refine (List.nodup_iff_pairwise_ne.mp List.nodup_range).imp_of_mem fun {j j'} hj hj' ne x hx y hy e => ?_
      have hj := List.mem_range.mp hj
      have hj' := List.mem_range.mp hj'
      obtain ⟨a, ha, b, hb, rfl⟩ := mem_newA.mp hx
      obtain ⟨a', ha', b', hb', rfl⟩ := mem_newA.mp hy
      have ha : a ∈ s.getD k [] := by split at ha; exact ha; cases ha
      have ha' : a' ∈ s.getD k [] := by split at ha'; exact ha'; cases ha'
      exact ne (four_inj nd hj hj' ha hb ha' hb' e).2.1
  · refine (List.nodup_iff_pairwise_ne.mp List.nodup_range).imp_of_mem fun {k k'} hk hk' ne x hx y hy e => ?_
    obtain ⟨j, hj, a, ha, b, hb, rfl⟩ := mem_newK hx
    obtain ⟨j', hj', a', ha', b', hb', rfl⟩ := mem_newK hy
    exact ne (four_inj nd hj hj' ha hb ha' hb' e).1

/-- what holds of groups and ties between two turns -/
structure PInv (n : Nat) (gs : List (List Int)) (ts : List (Int × Int)) : Prop where
  fl : gs.flatten.Perm (up n)
  nd : ts.Nodup
  bd : ∀ t ∈ ts, 0 ≤ t.1 ∧ t.1 < t.2 ∧ t.2 < (n : Int)
  one : ∀ t ∈ ts, ∃ g ∈ gs, t.1 ∈ g ∧ t.2 ∈ g
theorem nd_len {α : Type} [DecidableEq α] : ∀ {l m : List α}, l.Nodup → (∀ x ∈ l, x ∈ m) → l.length ≤ m.length
  | [], _, _, _ => Nat.zero_le _
  | a :: l, m, nd, h => by
    have nd' := List.nodup_cons.mp nd
    have ha := h a List.mem_cons_self
    have := nd_len (l := l) (m := m.erase a) nd'.2 fun x hx => (List.mem_erase_of_ne (fun (e : x = a) => nd'.1 (by rw [← e]; exact hx))).mpr (h x (List.mem_cons_of_mem _ hx))
    rw [List.length_erase_of_mem ha] at this
    have := List.length_pos_of_mem ha
    rw [List.length_cons]
    omega
theorem PInv.len {n : Nat} {gs : List (List Int)} {ts : List (Int × Int)} (h : PInv n gs ts) (hn : n ≤ 100) : ts.length ≤ 10000 := by
  refine Nat.le_trans (nd_len (m := pup n n) h.nd fun t ht => ?_) (pup_len' hn (Nat.le_refl n))
  have := h.bd t ht
  exact (mem_pup (Nat.le_refl n)).mpr (by omega)
theorem norm_ends {a b : Int} {g : List Int} (h1 : (norm a b).1 ∈ g) (h2 : (norm a b).2 ∈ g) : a ∈ g ∧ b ∈ g := by
  unfold norm at h1 h2
  dsimp only at h1 h2
  by_cases x : a ≤ b
  · rw [if_pos x] at h1 h2; exact ⟨h1, h2⟩
  · rw [if_neg x] at h1 h2; exact ⟨h2, h1⟩
theorem PInv.next {n : Nat} {gs s r : List (List Int)} {ts : List (Int × Int)} (h : PInv n gs ts) (pm : gs.Perm (s ++ r)) (cd : Nat → Nat → Bool) :
    PInv n (r ++ [s.flatten]) (ts ++ news s cd s.length) := by
  have pf : (s ++ r).flatten.Perm (up n) := pm.flatten.symm.trans h.fl
  have ndf : (s ++ r).flatten.Nodup := pf.nodup_iff.mpr (up_nodup n)
  have nds : s.flatten.Nodup := by
    rw [List.flatten_append] at ndf
    exact (List.nodup_append.mp ndf).1
  have gd : ∀ i, i < s.length → (s ++ r).getD i [] = s.getD i [] := fun i hi => by
    rw [List.getD_eq_getElem?_getD, List.getD_eq_getElem?_getD, List.getElem?_append_left hi]
  have inS : ∀ {a : Int} {k : Nat}, a ∈ s.getD k [] → a ∈ s.flatten ∧ k < s.length := fun {a k} ha => by
    rcases Nat.lt_or_ge k s.length with hk | hk
    · rw [List.getD_eq_getElem?_getD, List.getElem?_eq_getElem hk] at ha
      exact ⟨List.mem_flatten.mpr ⟨_, List.getElem_mem hk, ha⟩, hk⟩
    · rw [List.getD_eq_getElem?_getD, List.getElem?_eq_none hk] at ha; cases ha
  have bd : ∀ {a : Int}, a ∈ s.flatten → 0 ≤ a ∧ a < (n : Int) := fun {a} ha =>
    mem_up.mp (pf.mem_iff.mp (by rw [List.flatten_append]; exact List.mem_append_left _ ha))
  refine ⟨?_, ?_, ?_, ?_⟩
  · refine List.Perm.trans ?_ pf
    rw [List.flatten_append, List.flatten_append]
    have : [s.flatten].flatten = s.flatten := by simp
    rw [this]
    exact List.perm_append_comm
  · rw [List.nodup_append]
    refine ⟨h.nd, news_nd nds cd _, fun t ht t' ht' e => ?_⟩
    subst e
    obtain ⟨k, hk, j, hj, a, ha, b, hb, rfl⟩ := mem_news ht'
    obtain ⟨g, hg, g1, g2⟩ := h.one _ ht
    obtain ⟨ga, gb⟩ := norm_ends g1 g2
    obtain ⟨i, hi, e⟩ := List.getElem_of_mem (pm.mem_iff.mp hg)
    have gi : (s ++ r).getD i [] = g := by rw [List.getD_eq_getElem?_getD, List.getElem?_eq_getElem hi, e]; rfl
    have e1 := grp_one ndf (i := i) (j := k) (by rw [gi]; exact ga) (by rw [gd k hk]; exact ha)
    have e2 := grp_one ndf (i := i) (j := j) (by rw [gi]; exact gb) (by rw [gd j (by omega)]; exact hb)
    omega
  · intro t ht
    rcases List.mem_append.mp ht with ht | ht
    · exact h.bd t ht
    · obtain ⟨k, hk, j, hj, a, ha, b, hb, rfl⟩ := mem_news ht
      have b1 := bd (inS ha).1
      have b2 := bd (inS hb).1
      have ne : a ≠ b := fun e => by subst e; have := grp_one nds ha hb; omega
      unfold norm
      dsimp only
      split <;> omega
  · intro t ht
    rcases List.mem_append.mp ht with ht | ht
    · obtain ⟨g, hg, g1, g2⟩ := h.one t ht
      rcases List.mem_append.mp (pm.mem_iff.mp hg) with m | m
      · exact ⟨s.flatten, List.mem_append_right _ (List.mem_singleton.mpr rfl), List.mem_flatten.mpr ⟨g, m, g1⟩, List.mem_flatten.mpr ⟨g, m, g2⟩⟩
      · exact ⟨g, List.mem_append_left _ m, g1, g2⟩
    · obtain ⟨k, hk, j, hj, a, ha, b, hb, rfl⟩ := mem_news ht
      refine ⟨s.flatten, List.mem_append_right _ (List.mem_singleton.mpr rfl), ?_, ?_⟩
      · unfold norm; dsimp only; split
        · exact (inS ha).1
        · exact (inS hb).1
      · unfold norm; dsimp only; split
        · exact (inS hb).1
        · exact (inS ha).1
theorem flat_one : ∀ ns : List Int, (ns.map fun x => [x]).flatten = ns
  | [] => rfl
  | a :: l => by rw [List.map_cons, List.flatten_cons, flat_one l]; rfl
theorem erase_perm {α : Type} : ∀ {l : List α} {i : Nat} (h : i < l.length), (l[i] :: l.eraseIdx i).Perm l
  | _ :: _, 0, _ => .refl _
  | a :: l, i + 1, h => by
    show (l[i]'(Nat.lt_of_succ_lt_succ h) :: a :: l.eraseIdx i).Perm (a :: l)
    exact (List.Perm.swap _ _ _).trans ((erase_perm (Nat.lt_of_succ_lt_succ h)).cons a)
/-! ### lengths -/
theorem newA_len {g h : List Int} {x y : Nat} (hg : g.length ≤ x) (hh : h.length ≤ y) : (newA g h).length ≤ x * y := by
  have : ∀ g : List Int, (newA g h).length = g.length * h.length := by
    intro g
    induction g with
    | nil => simp [newA]
    | cons a g ih =>
      have e : newA (a :: g) h = newA [a] h ++ newA g h := newA_app [a] g h
      rw [e, List.length_append, ih, newA_one, List.length_map, List.length_cons, Nat.succ_mul, Nat.add_comm]
  rw [this]
  exact Nat.mul_le_mul hg hh
theorem newK_len {s : List (List Int)} {cd : Nat → Nat → Bool} {k : Nat} (hs : ∀ i, (s.getD i []).length ≤ 12) : ∀ j, (newK s cd k j).length ≤ j * 144
  | 0 => Nat.zero_le _
  | j + 1 => by
    rw [newK_succ, List.length_append]
    have h1 := newK_len (s := s) (cd := cd) (k := k) hs j
    have h2 : (newA (if cd k j = true then s.getD k [] else []) (s.getD j [])).length ≤ 12 * 12 := newA_len (by split; exact hs k; exact Nat.zero_le _) (hs j)
    omega
theorem news_len {s : List (List Int)} {cd : Nat → Nat → Bool} (hs : ∀ i, (s.getD i []).length ≤ 12) : ∀ m, m ≤ 10 → (news s cd m).length ≤ m * 1440
  | 0, _ => Nat.zero_le _
  | m + 1, h => by
    rw [news_succ, List.length_append]
    have h1 := news_len (s := s) (cd := cd) hs m (by omega)
    have h2 := newK_len (s := s) (cd := cd) (k := m) hs m
    omega
theorem grp_len {n : Nat} {s : List (List Int)} {r : List (List Int)} (h : (s ++ r).flatten.Perm (up n)) (i : Nat) : (s.getD i []).length ≤ n := by
  rcases Nat.lt_or_ge i s.length with hi | hi
  · rw [List.getD_eq_getElem?_getD, List.getElem?_eq_getElem hi]
    have e := h.length_eq
    rw [up_len, List.flatten_append, List.length_append] at e
    have : ∀ (l : List (List Int)) (g : List Int), g ∈ l → g.length ≤ l.flatten.length := by
      intro l g hg
      induction l with
      | nil => cases hg
      | cons x l ih =>
        rw [List.flatten_cons, List.length_append]
        rcases List.mem_cons.mp hg with rfl | hg
        · omega
        · have := ih hg; omega
    have := this s _ (List.getElem_mem hi)
    show s[i].length ≤ n
    omega
  · rw [List.getD_eq_getElem?_getD, List.getElem?_eq_none hi]; exact Nat.zero_le _
end My

set_option Elab.async false
set_option linter.all false
set_option maxRecDepth 100000
set_option maxHeartbeats 2000000
namespace My
open PySem PySem.Spec PyProof.Rows L2 GxR

/-! ### the frame of a generator expression -/
abbrev gcx (X : Cx) (A' : Around) (s : Shared) (H : Hp) (cenv : Env) (fp : List Addr) (pn : List (Addr × Obj)) : Cx :=
  { X with A := A', s_0 := s, H_0 := H, env := cenv, outer := X.stack, stack := cenv :: X.stack, ex := fp, fn := fun _ => false, calm := true, pn := pn, xe := fun _ _ => False }
structure GsOk (scope : Scope) : Prop where
  co : scope.isCoroutine = false
  cell : ∀ y ∈ scope.names, y.2 ≠ .cell
  dot : scope.names.lookup (".0" : Str) = some NameKind.local

section
variable {X : Cx} {pins : List (Addr × Obj)} {σ : L2.St} {H : Hp} {s : Shared}
abbrev gEnv (X : Cx) (scope : Scope) (C : Addr) (code : Value) : Env :=
  genEnv scope (cloFrom X.env.cells scope.names []) C code builtinsNs X.env
theorem gen_inv {scope : Scope} {own : List (Str × Nat)} {fp : List Addr} {A' : Around} {C : Addr} {code : Value} {s5 : Shared}
    {m : Str → Option Value} {pn : List (Addr × Obj)} (I : Inv X pins σ H s) (ok : BlkOk X.N X.env.scope scope own) (hN : X.N.Nodup)
    (S : GsOk scope) (hfp : ∀ b ∈ fp, FpOk X pins H b ∧ b < s.heap.objs.size) (hC : C = s.heap.objs.size) (hA : A'.handled = none)
    (hF : A'.frames = some (gEnv X scope C code :: X.stack)) (kp : ∀ b o, s.heap.get? b = some o → s5.heap.get? b = some o)
    (hns : s5.heap.Ns C m) (hos : s5.os = s.os) (hb : AllBare s5.gens)
    (hpn : ∀ p ∈ pn, s5.heap.get? p.1 = some p.2 ∧ s.heap.objs.size < p.1 ∧ ∀ v, p.2.data ≠ .cell v) :
    Inv (gcx X A' s H (gEnv X scope C code) fp pn) [] (wipe σ (own.map (·.2))) H s5 := by
  have cm : ∀ {y : Str} {c : Addr}, (cloFrom X.env.cells scope.names []).lookup y = some c → X.env.cells.lookup y = some c ∧ c < s.heap.objs.size := fun {y c} e => by
    rcases cloFrom_mem (PySem.mem_of_lookup e) with z | ⟨h1, rfl⟩
    · cases z
    · have : ∃ c, X.env.cells.lookup y = some c := by
        rcases ok.free _ h1 rfl with k | k
        · exact I.ok.has _ (.inl k)
        · exact I.ok.has _ (.inr k)
      obtain ⟨c, hc⟩ := this
      rw [hc]
      obtain ⟨w, z⟩ := I.cell _ _ hc
      exact ⟨rfl, z.lt⟩
  have look : ∀ {y : Str}, scope.names.lookup y = some .free → ∃ c, (cloFrom X.env.cells scope.names []).lookup y = some c ∧ X.env.cells.lookup y = some c := fun {y} hl => by
    obtain ⟨c, e⟩ := mem_lookup (cloFrom_has (cells := X.env.cells) (acc := []) (PySem.mem_of_lookup hl))
    exact ⟨c, e, (cm e).1⟩
  have hCs : s.heap.objs.size ≤ C := Nat.le_of_eq hC.symm
  have okB : (gcx X A' s H (gEnv X scope C code) fp pn).Ok := by
    refine ⟨I.ok.mod, ok.kind, I.ok.glob, rfl, hCs, fun y z c e1 e2 => I.ok.inj y z c (cm e1).1 (cm e2).1, fun y hy => ?_, (fun y c z e => by cases z), fun _ => hA, hF, .inr ⟨rfl, rfl⟩,
      fun b hb => ⟨?_, fun y c e => (hfp b hb).1.2.2.2.2.1 y c (cm e).1⟩, I.bs, Nat.le_trans I.ok.bsz I.sz, fun b o e hb => ?_, fun b hb z => ?_, I.stack, I.stkFree⟩
    · rcases hy with hy | hy
      · exact absurd rfl (S.cell _ (PySem.mem_of_lookup (show scope.names.lookup y = some .cell from hy)))
      · obtain ⟨c, e, _⟩ := look (show scope.names.lookup y = some .free from hy)
        exact ⟨c, e⟩
    · show b ≠ C
      rw [hC]; exact Nat.ne_of_lt (hfp b hb).2
    · rcases (hfp b hb).1.2.2.2.1 with z | z
      · exact I.ok.noex b o e z
      · exact absurd (Nat.lt_of_lt_of_le (Heap.lt_size e) (Nat.le_trans I.ok.bsz z)) (Nat.lt_irrefl _)
    · rcases List.mem_cons.mp (I.stkSub b z) with z | z
      · exact (hfp b hb).1.2.1 z
      · exact (hfp b hb).1.2.2.1 z
  refine ⟨okB, hos, hb, Un.kept kp, ⟨m, hns, fun i y v e1 e2 e3 => ?_⟩, fun y c e => ?_, ?_, fun y c e => I.freeC y c (cm e).1, fun p hp => ?_, I.hok.kept kp, by rw [wipe_length]; exact I.len⟩
  · obtain ⟨e2, hne⟩ := wipe_some e2
    have no : ∀ k, scope.names.lookup y = some k → ¬ (k = .local ∨ k = .cell) := fun k e hh => by
      rcases ok.own _ (PySem.mem_of_lookup e) hh with z | z
      · obtain ⟨p, hp, hpy⟩ := List.mem_map.mp z
        have e4 := ok.ix p hp
        have hpy : p.1 = y := hpy
        rw [hpy] at e4
        exact hne (List.mem_map.mpr ⟨p, hp, nodup_ix hN e4 e1⟩)
      · exact z (List.mem_of_getElem? e1)
    have e3 : Vis scope y := e3
    have fr : scope.names.lookup y = some .free := by
      rcases e3 with e3 | e3 | e3
      · exact absurd (.inl rfl) (no _ e3)
      · exact absurd (.inr rfl) (no _ e3)
      · exact e3
    obtain ⟨m', hn, hl⟩ := I.loc
    have k := ok.free _ (PySem.mem_of_lookup fr) rfl
    have hv : Vis X.env.scope y := by
      rcases k with k | k
      · exact .inr (.inl k)
      · exact .inr (.inr k)
    obtain ⟨w, r, q⟩ := hl i y v e1 e2 hv
    refine ⟨w, r, .inr ⟨.inr fr, ?_⟩⟩
    obtain ⟨c, h1, h2⟩ := look fr
    rcases q with ⟨z, _⟩ | ⟨_, c', e', z⟩
    · have z : X.env.scope.names.lookup y = some .local := z
      rcases k with k | k <;> (have k : X.env.scope.names.lookup y = _ := k; rw [k] at z; cases z)
    · rw [h2] at e'; cases e'
      exact ⟨c, h1, z.keeps kp⟩
  · obtain ⟨w, z⟩ := I.cell y c (cm e).1
    exact ⟨w, z.keeps kp⟩
  · exact I.hok.fresh hCs
  · rw [List.append_nil] at hp
    obtain ⟨h1, h2, h3⟩ := hpn p hp
    refine ⟨h1, I.hok.fresh (Nat.le_of_lt h2), ?_, fun z => ?_, h3⟩
    · show p.1 ≠ C
      rw [hC]; exact Nat.ne_of_gt h2
    · rcases List.mem_cons.mp (I.stkSub p.1 z) with z | z
      · have := I.lt
        rw [← z] at this
        exact absurd (Nat.lt_trans h2 this) (Nat.lt_irrefl _)
      · exact I.nofs (Nat.le_of_lt h2) z
theorem inv_gens {gs : Array GenState} (I : Inv X pins σ H s) (hb : AllBare gs) : Inv X pins σ H { s with gens := gs } :=
  ⟨I.ok, I.os, hb, I.base, I.loc, I.cell, I.free, I.freeC, I.pin, I.hok, I.len⟩
theorem inv_setGen {g : Nat} {x : GenState} (I : Inv X pins σ H s) (hx : x.bare = true) : Inv X pins σ H (s.setGen g x) := by
  refine inv_gens I fun y hy => ?_
  rcases Array.mem_or_eq_of_mem_setIfInBounds hy with h | h
  · exact I.bare y h
  · rw [h]; exact hx
end

/-! ### the loop of a generator expression -/
section
variable {prog : Program} {w : World} {A : Around}
/-- n: how many more may come; Yl m v s: v is handed out, fewer than m turns are left; St m s: ready for the next turn -/
def protoG (St : Nat → Shared → Prop) (Yl : Nat → Value → Shared → Prop) : Protocol := fun n _ v s kap =>
  (∃ m, m ≤ n ∧ Yl m v s) ∧ ∀ s'' m', m' < n → St m' s'' → kap (.send .none) s''
theorem seg_loopG {elt tg iter : Expr} {scope : Scope} {pos : Pos} {it : Addr} {cenv : Env} (hco : cenv.scope.isCoroutine = false)
    (St : Nat → Shared → Prop) (En : Shared → Prop) (Yl : Nat → Value → Shared → Prop)
    (turn : ∀ m s, St m s → wpAny (model prog w) (A.over (.compLoop (.GeneratorExp elt [⟨tg, iter, [], 0⟩] scope pos) 0 (.ref it) .none cenv) []) (pyNext (.ref it)) (fun r s1 => match r with
      | none => En s1
      | some u => wpAny (model prog w) (A.over (.compLoop (.GeneratorExp elt [⟨tg, iter, [], 0⟩] scope pos) 0 (.ref it) .none cenv) []) (letOwnedTupleGo tg (.ref it) u) (fun _ s2 =>
          wpAny (model prog w) (A.over (.compLoop (.GeneratorExp elt [⟨tg, iter, [], 0⟩] scope pos) 0 (.ref it) .none cenv) []) (assign tg cenv u) (fun _ s3 =>
            wpAny (model prog w) (A.over (.compLoop (.GeneratorExp elt [⟨tg, iter, [], 0⟩] scope pos) 0 (.ref it) .none cenv) []) (eval elt cenv) (fun v s4 => Yl m v s4) (fun _ _ => False) s3) (fun _ _ => False) s2) (fun _ _ => False) s1) (fun _ _ => False) s) :
    ∀ (n m : Nat) (s₀ s : Shared), m < n → St m s →
      Seg (model prog w) A (fun _ _ r s₁ => r = .ok .next ∧ En s₁) (protoG St Yl) n s₀
        (.compLoop (.GeneratorExp elt [⟨tg, iter, [], 0⟩] scope pos) 0 (.ref it) .none cenv)
        ((model prog w).den (.compLoop (.GeneratorExp elt [⟨tg, iter, [], 0⟩] scope pos) 0 (.ref it) .none cenv)) [] s := by
  intro n
  induction n with
  | zero => intro m _ _ h; exact absurd h (Nat.not_lt_zero _)
  | succ n ih =>
    intro m s₀ s hm hst
    show Seg _ A _ _ _ s₀ _ ((compTurn (.GeneratorExp elt [⟨tg, iter, [], 0⟩] scope pos) 0 (.ref it) .none cenv).onRaise (leaving cenv)) [] s
    rw [compTurn_gen, Sem.onRaise_eq_wrap]
    refine seg_bind_wrap (wpAny_standAt ?_)
    refine seg_bind_wrap (wpAny_mono (turn m s hst) (fun r s1 h1 => ?_) fun _ _ e => e.elim)
    cases r with
    | none => exact seg_end (.ok .next) ⟨rfl, h1⟩
    | some u =>
      refine seg_bind_wrap (wpAny_mono h1 (fun _ s2 h2 => ?_) fun _ _ e => e.elim)
      refine seg_bind_wrap (wpAny_mono h2 (fun _ s3 h3 => ?_) fun _ _ e => e.elim)
      refine seg_bind_wrap ?_
      simp only [List.forIn_nil]
      refine wpAny_pure ?_
      simp only [if_true]
      have hy : ∀ v, yieldOut cenv v = yieldValue v := fun v => by simp only [yieldOut, hco, Bool.false_eq_true, if_false]
      simp only [hy]
      rw [Sem.bind_eq_wrap', Sem.bind_eq_wrap', Sem.wrap_wrap, Sem.wrap_wrap]
      refine seg_wrap (wpAny_mono h3 (fun v s4 h4 => ?_) fun _ _ e => e.elim)
      refine seg_at (seg_yield rfl rfl rfl ⟨⟨m, Nat.le_of_lt_succ hm, h4⟩, fun s'' m' hm' hst' => ?_⟩)
      exact seg_again rfl (ih m' s'' s'' hm' hst')
end
end My

set_option Elab.async false
set_option linter.all false
set_option maxRecDepth 100000
set_option maxHeartbeats 2000000
namespace My
open PySem PySem.Spec PyProof.Rows L2 GxR GenW

abbrev genObj (g : Nat) (x y : Value) : Obj := { cls := .type "generator", data := .fields #[.int g 0, x, y] }
/-- a generator expression is made: what stands then -/
structure Made (X : Cx) (pins : List (Addr × Obj)) (σ : L2.St) (elt tg iter : Expr) (scope : Scope) (gpos : Pos) (P : Addr) (J : It) (H1 H2 : Hp)
    (it : Addr) (fp : List Addr) (tn : Nat → Heap → Prop) (s4 s5 : Shared) (C a : Addr) (code : Value) (g : Nat) (x y : Value) : Prop where
  tab : Tabbed P H1 H2
  inv : Inv X pins σ H2 s4
  tu : Turn X.prog X.w X.K tg J fp it tn
  st : tn 0 s4.heap
  fp : ∀ b ∈ fp, FpOk X pins H2 b ∧ b < s4.heap.objs.size
  c : C = s4.heap.objs.size
  kp : ∀ b o, s4.heap.get? b = some o → s5.heap.get? b = some o
  ns : s5.heap.Ns C (fun y => if y = (".0" : Str) then some (.ref it) else none)
  os : s5.os = s4.os
  bare : AllBare s5.gens
  obj : s5.heap.get? a = some (genObj g x y)
  lt : s4.heap.objs.size < a
  gs : s5.gens[g]? = some (.fresh (.compStart (.GeneratorExp elt [⟨tg, iter, [], 0⟩] scope gpos) 0 (.ref it) .none (gEnv X scope C code)))

section
variable {X : Cx} {pins : List (Addr × Obj)} {σ : L2.St} {H : Hp} {s : Shared}
theorem gen_mk {c P : Addr} {elt tg iter : Expr} {gpos : Pos} {scope : Scope} {own : List (Str × Nat)} {wi : TI} {k : Nat} {Q' : Value → Shared → Prop} {R : It → Hp → Prop}
    (hr : Room k X.A) (TB : TabB X.base X.mg c P) (hcode : X.env.code = .ref c) (S : GsOk scope) (ok : BlkOk X.N X.env.scope scope own) (hi : PI X tg iter wi)
    (hs : ∀ v, genFold iter X.env v = pure v) (I : Inv X pins σ H s) (h : wi σ H fun J H1 => TabG H1 P ∧ R J H1)
    (hQ : ∀ J H1 H2 it fp tn s4 s5 C a code g x y, R J H1 → Made X pins σ elt tg iter scope gpos P J H1 H2 it fp tn s4 s5 C a code g x y → Q' (.ref a) s5) :
    wpAny (model X.prog X.w) X.A (eval (.GeneratorExp elt [⟨tg, iter, [], 0⟩] scope gpos) X.env) Q' X.xe s := by
  have hfree : ∀ y ∈ scope.names, y.2 = .free → ∃ c, X.env.cells.lookup y.1 = some c := fun y hy e => (ok.free y hy e).elim (fun k => I.ok.has _ (.inl k)) fun k => I.ok.has _ (.inr k)
  refine wpAny_GeneratorExp_make S.co (closure_ok hfree) S.cell S.dot ok.kind (by have := hr.dp; omega) ?_ hs
  refine thn (hi.run pins s σ H _ I h) fun xv s1 hx => thn hx fun itv s2 h2 => ?_
  obtain ⟨it, fp, tn, J, H1, rfl, I2, T, st2, f2, ⟨ps, hP, ht⟩, q⟩ := h2
  have hPs : s2.heap.get? P = some { cls := .none, data := .fields ps } := I2.hok P _ hP
  have cd : PySem.W.CodeHd s2.heap c P := TB.code.keeps fun b u e => I2.bk b u e
  have cont : ∀ (code : Value) (h3 : Heap) (tk : Nat) (more : Array Value), Heap.ExtBut P s2.heap h3 → s2.heap.objs.size ≤ h3.objs.size → h3.get? P = some { cls := .none, data := .fields (ps ++ more) } → TriplesOk (ps ++ more).toList →
      wpAny (model X.prog X.w) X.A (builtinsFor X.env.globals X.env.builtins) (fun bi s₄ =>
        ∀ h', h'.Ns s₄.heap.objs.size (fun y => if y = ".0" then some (Value.ref it) else none) → Heap.SameBut s₄.heap.objs.size (s₄.heap.push { cls := .type "frame", data := .dict #[] }) h' →
          Q' (.ref h'.objs.size) { s₄ with
            gens := s₄.gens.push (.fresh (.compStart (.GeneratorExp elt [⟨tg, iter, [], 0⟩] scope gpos) 0 (.ref it) .none (genEnv scope (cloFrom X.env.cells scope.names []) s₄.heap.objs.size code bi X.env))),
            toks := s₄.toks + 1 + 1 + 1,
            heap := h'.push { cls := .type "generator", data := .fields #[.int s₄.gens.size 0, .str "<genexpr>" (s₄.toks + 1), .str (X.env.qual ++ "<genexpr>") (s₄.toks + 1 + 1)] } }) X.xe { s2 with heap := h3, toks := tk } := by
    intro code h3 tk more hx hsz hP3 ht3
    obtain ⟨bm, ob, e1, e2, e3, e4, e5, e6, e7, e8⟩ := TB.bm
    have keep3 : ∀ b u, b ≠ P → s2.heap.get? b = some u → h3.get? b = some u := fun b u hb e => hx b u hb e
    refine wpAny_builtinsFor (m := X.mg) (by rw [I2.ok.glob]; exact (I2.mod.glob.keeps I2.bk).extBut hx TB.gP) e1 e2 (keep3 _ _ e4 (I2.bk _ _ e5)) e6 e7 e8 ?_
    intro h' hns hsb
    have I4 := inv_tab (more := more) (h' := h3) (g' := s2.gens) (d' := s2.drawn) (t' := tk) I2 hP keep3 hP3 I2.bare
    have old : ∀ b u, h3.get? b = some u → h'.get? b = some u := fun b u e => hsb.extBut b u (Nat.ne_of_lt (Heap.lt_size e)) (Heap.get?_push_of_some _ e)
    have hsz' : h'.objs.size = h3.objs.size + 1 := by rw [hsb.1, Heap.size_push]
    refine hQ J H1 (upd H1 P (.tbl (ps ++ more))) it fp tn { s2 with heap := h3, toks := tk } _ h3.objs.size _ code s2.gens.size _ _ q
      ⟨⟨⟨_, upd_same, ht3⟩, fun b hb => upd_ne hb⟩, I4, T, ?_, fun b hb => ⟨?_, ?_⟩, rfl, fun b o e => Heap.get?_push_of_some _ (old b o e), hns.keeps fun b o e => Heap.get?_push_of_some _ e, rfl, I2.bare.push rfl, Heap.get?_push_size _ rfl, ?_, ?_⟩
    · refine T.keep _ _ _ st2 fun b hb o e => keep3 b o (fun z => ?_) e
      have z2 := (f2 b hb).1
      rw [z, hP] at z2; cases z2
    · refine ⟨?_, (f2 b hb).2⟩
      have nb : b ≠ P := fun z => by
        have z2 := (f2 b hb).1
        rw [z, hP] at z2; cases z2
      rw [upd_ne nb]; exact (f2 b hb).1
    · obtain ⟨o, e, _⟩ := T.obj _ _ st2 b hb
      exact Nat.lt_of_lt_of_le (Heap.lt_size e) hsz
    · show h3.objs.size < h'.objs.size
      omega
    · show (s2.gens.push _)[s2.gens.size]? = _
      rw [Array.getElem?_push_size]
  refine ⟨I2.nolimit, ?_⟩
  cases hf : codeAmong gpos ps.toList with
  | none =>
    refine wpAny_genexprCodeX hcode (cd.code hPs ht) (cd.tab hPs) hf fun c' h' tk hx hge hlt hco' _ htab' _ => ?_
    obtain ⟨o1, vs, f1, tf, fl, tg', inF, tx, tt, op, _, _, _, _, _, _, _, _, _, htr, _⟩ := hco'
    exact cont _ h' tk _ hx (Nat.le_trans hge (Nat.le_of_lt hlt)) htab'.2 htr
  | some cv =>
    refine wpAny_genexprCode_hit hcode (cd.code hPs ht) hf ?_
    have z : ps ++ #[] = ps := by simp
    exact cont cv s2.heap s2.toks #[] (Heap.ExtBut.refl _ _) (Nat.le_refl _) (by rw [z]; exact hPs) (by rw [z]; exact ht)
end

/-! ### all, any: one item after another -/
section
variable {prog : Program} {w : World} {A : Around} {R : Result → Shared → Prop} {a : Addr} {g : Nat} {St : Nat → Shared → Prop} {En : Shared → Prop} {Yl : Nat → Value → Shared → Prop}
theorem allG_loop (hh : A.handled = none) (hd : A.in1.depth < recursionLimit)
    (hen : ∀ s₁ h', En s₁ → (∀ b o, s₁.heap.get? b = some o → h'.get? b = some o) → R (.ok (.ret (.bool true))) { s₁.setGen g .finished with heap := h' })
    (hyl : ∀ m v s₁ gs', gs'.bare = true → Yl m v s₁ → (v = .bool false ∧ R (.ok (.ret (.bool false))) (s₁.setGen g gs')) ∨
      (v = .bool true ∧ (s₁.setGen g gs').heap.NoLimit ∧ (s₁.setGen g gs').heap.IsGen a g ∧ ∃ m', m' < m ∧ St m' ((s₁.setGen g gs').setGen g .running))) :
    ∀ (n : Nat) (s : Shared), s.heap.NoLimit → s.heap.IsGen a g →
      (∃ gs, s.gens[g]? = some gs ∧ gs.Goes (model prog w) A.in1.in1 (fun _ _ r s₁ => r = .ok .next ∧ En s₁) (protoG St Yl) n (.send .none) (s.setGen g .running)) →
      codeAny (model prog w) A (.builtin "all.loop" ⟨[.ref a], []⟩) R s := by
  intro n
  induction n with
  | zero =>
    rintro s hl hg ⟨gs, hgs, hgo⟩
    refine codeAny_builtin F.entry_all_loop ?_
    rw [Around.under_plainId F.plain_all_loop _]
    show wpAny _ A.in1 (pyNext (.ref a) >>= _) _ _ s
    refine wpAny_bind (wpAny_pyNext_genexpQ (P := fun _ _ s₁ => En s₁) hh hl hd hg hgs hgo (fun v s₁ gs' hb hY => ?_) (fun s₁ hP h' hk => ?_))
    · obtain ⟨⟨m, hm, hy⟩, _⟩ := hY
      rcases hyl m v s₁ gs' hb hy with ⟨rfl, hR⟩ | ⟨_, _, _, m', hm', _⟩
      · refine wpAny_bind (wpAny_holding (wpAny_truthy_bool ?_))
        refine wpAny_bind (wpAny_letGo ?_)
        simp only [Bool.false_eq_true, if_false]
        exact wpAny_bind (wpAny_rule (wpAny_pure hR))
      · omega
    · exact wpAny_bind (wpAny_rule (wpAny_pure (hen s₁ h' hP hk)))
  | succ n ih =>
    rintro s hl hg ⟨gs, hgs, hgo⟩
    refine codeAny_builtin F.entry_all_loop ?_
    rw [Around.under_plainId F.plain_all_loop _]
    show wpAny _ A.in1 (pyNext (.ref a) >>= _) _ _ s
    have hsz : g + 1 ≤ s.gens.size := by
      rcases Nat.lt_or_ge g s.gens.size with z | z
      · exact z
      · rw [Array.getElem?_eq_none z] at hgs; cases hgs
    refine wpAny_bind (wpAny_gsz hsz (wpAny_pyNext_genexpQ (P := fun _ _ s₁ => En s₁) hh hl hd hg hgs hgo (fun v s₁ gs' hb hY hn => ?_) (fun s₁ hP h' hk _ => ?_)))
    · obtain ⟨⟨m, hm, hy⟩, hres⟩ := hY
      rcases hyl m v s₁ gs' hb hy with ⟨rfl, hR⟩ | ⟨rfl, hl', hg', m', hm', hst⟩
      · refine wpAny_bind (wpAny_holding (wpAny_truthy_bool ?_))
        refine wpAny_bind (wpAny_letGo ?_)
        simp only [Bool.false_eq_true, if_false]
        exact wpAny_bind (wpAny_rule (wpAny_pure hR))
      · refine wpAny_bind (wpAny_holding (wpAny_truthy_bool ?_))
        refine wpAny_bind (wpAny_letGo ?_)
        simp only [if_true]
        have hm : m ≤ n := hm
        refine wpAny_pure ⟨plainId_quiet F.plain_all_loop _, ih _ hl' hg' ⟨gs', ?_, hres _ m' (by omega) hst⟩⟩
        have hn' : g < s₁.gens.size := by
          rw [setGen_size] at hn; exact hn
        show (s₁.gens.setIfInBounds g gs')[g]? = some gs'
        rw [Array.getElem?_setIfInBounds_self, if_pos hn']
    · exact wpAny_bind (wpAny_rule (wpAny_pure (hen s₁ h' hP hk)))
end
end My

set_option Elab.async false
set_option linter.all false
set_option maxRecDepth 100000
set_option maxHeartbeats 2000000
namespace My
open PySem PySem.Spec PyProof.Rows L2 GxR GenW

/-- the around of the generator's frame, asked for by all or any -/
abbrev gA (X : Cx) (elt tg iter : Expr) (scope : Scope) (gpos : Pos) (it : Addr) (C : Addr) (code : Value) : Around :=
  X.A.in1.in1.over (.compLoop (.GeneratorExp elt [⟨tg, iter, [], 0⟩] scope gpos) 0 (.ref it) .none (gEnv X scope C code)) []
theorem gA_room {X : Cx} {elt tg iter : Expr} {scope : Scope} {gpos : Pos} {it C : Addr} {code : Value} {k : Nat} (hr : Room (k + 1) X.A) : Room k (gA X elt tg iter scope gpos it C code) := by
  have h1 : (gA X elt tg iter scope gpos it C code).depth = X.A.depth + 1 := rfl
  have h2 : (gA X elt tg iter scope gpos it C code).units ≤ X.A.units + 16 := by
    show X.A.in1.in1.units + _ + _ ≤ _
    have : X.A.in1.in1.units ≤ X.A.units + 8 := by
      first
        | exact Nat.le_add_right _ _
        | (show X.A.units + _ + _ ≤ _; omega)
    show X.A.in1.in1.units + 0 + 3 ≤ _
    omega
  exact ⟨hr.hd, by have := hr.dp; omega, by have := hr.un; omega⟩
theorem gA_frames {X : Cx} {elt tg iter : Expr} {scope : Scope} {gpos : Pos} {it C : Addr} {code : Value} (h : X.A.frames = some X.stack) :
    (gA X elt tg iter scope gpos it C code).frames = some (gEnv X scope C code :: X.stack) := by
  have e : (gA X elt tg iter scope gpos it C code).frames = pushEnvs [gEnv X scope C code] (pushEnvs [] X.A.frames) := rfl
  rw [e, h]; rfl

/-- all(e for tg in iter) -/
def tAllG (P : Addr) (wi : TI) (g : TG) (te : TE) (vs : List Nat) : TE := fun σ H Q => wi σ H fun J H1 => TabG H1 P ∧ ∀ H2, Tabbed P H1 H2 →
  ∃ W : Nat → Nat → Hp → Prop, (∃ m, W 0 m H2) ∧ ∀ i m H, W i m H → (J.stop i H ∧ Q (.bl true) H) ∨
    (J.go i H ∧ ∃ Nx : Hp → Prop, (∀ H', Nx H' → ∃ m', m' < m ∧ W (i + 1) m' H') ∧ ∀ x H', J.yld i H x H' → g x (wipe σ vs) H' fun σ2 H2 => wipe σ2 vs = wipe σ vs ∧
      te σ2 H2 fun y H3 => ∃ b, y = .bl b ∧ if b = true then Nx H3 else Q (.bl false) H3)

section
variable {X : Cx}
theorem pe_allG {c P : Addr} {elt tg iter : Expr} {p pos gpos : Pos} {scope : Scope} {own : List (Str × Nat)} {wi : TI} {g : TG} {te : TE} {k : Nat}
    (hc : X.calm = true) (hN : X.N.Nodup) (hr : Room (k + 1) X.A) (hgl : Gl X "all") (hm : X.mg "all" = none) (TB : TabB X.base X.mg c P) (hcode : X.env.code = .ref c)
    (S : GsOk scope) (ok : BlkOk X.N X.env.scope scope own) (hi : PI X tg iter wi)
    (hg : ∀ A' s H C code fp pn, PG (gcx X A' s H (gEnv X scope C code) fp pn) tg g)
    (he : ∀ A' s H C code fp pn, Room k A' → PE (gcx X A' s H (gEnv X scope C code) fp pn) elt te)
    (hs : ∀ v, genFold iter X.env v = pure v := by intro _; rfl)
    (h1 : starEach [.GeneratorExp elt [⟨tg, iter, [], 0⟩] scope gpos] X.env = (false, eval (.GeneratorExp elt [⟨tg, iter, [], 0⟩] scope gpos) X.env) :: starEach [] X.env := by rfl) :
    PE X (.Call (.Name "all" p) [.GeneratorExp elt [⟨tg, iter, [], 0⟩] scope gpos] [] pos) (tAllG P wi g te (own.map (·.2))) := by
  refine ⟨fun pins s σ H Q I h => ?_⟩
  refine wpAny_Call_Name_kw (ld_blt I hgl hm boot_all ?_)
  refine PyProof.Rows.callWith_builtin1 ?_ h1 (by rfl)
  rw [h1]
  show wpAny _ _ (spliced ((false, eval (.GeneratorExp elt [⟨tg, iter, [], 0⟩] scope gpos) X.env) :: backTo pos (starEach [] X.env))) _ _ s
  refine Calls.spliced_cons (gen_mk hr TB hcode S ok hi hs I h fun J H1 H2 it fp tn s4 s5 C a code gi x y q M => ?_)
  refine Calls.spliced_nil ?_
  obtain ⟨W, ⟨m0, w0⟩, turn⟩ := q H2 M.tab
  have hX : X.A.handled = none := M.inv.ok.hd hc
  have I5 : Inv (gcx X (gA X elt tg iter scope gpos it C code) s4 H2 (gEnv X scope C code) fp [(a, genObj gi x y)]) [] (wipe σ (own.map (·.2))) H2 s5 :=
    gen_inv M.inv ok hN S M.fp M.c hX (gA_frames M.inv.ok.frames) M.kp M.ns M.os M.bare fun p hp => by
      rw [List.mem_singleton.mp hp]
      exact ⟨M.obj, M.lt, fun v e => by cases e⟩
  have pg := hg (gA X elt tg iter scope gpos it C code) s4 H2 C code fp [(a, genObj gi x y)]
  have pe := he (gA X elt tg iter scope gpos it C code) s4 H2 C code fp [(a, genObj gi x y)] (gA_room hr)
  have T := M.tu
  generalize hY : gcx X (gA X elt tg iter scope gpos it C code) s4 H2 (gEnv X scope C code) fp [(a, genObj gi x y)] = Y at I5 pg pe
  have stat : ∀ {σ' : L2.St} {H' : Hp} {s' : Shared}, Inv Y [] σ' H' s' → (∀ b ∈ fp, H' b = none) → ∀ b ∈ fp, FpOk Y [] H' b := fun {σ' H' s'} I' hn b hb => by
    subst hY
    refine ⟨hn b hb, (I'.ok.exf b hb).1, I'.ok.exfs b hb, .inl hb, fun x c e => (I'.ok.exf b hb).2 x c e, fun p hp => ?_⟩
    have hp : p ∈ [(a, genObj gi x y)] ++ ([] : List (Addr × Obj)) := hp
    rw [List.append_nil] at hp
    rw [List.mem_singleton.mp hp]
    have h2 := (M.fp b hb).2
    have h3 := M.lt
    exact Nat.ne_of_gt (Nat.lt_trans h2 h3)
  have obj : ∀ {σ' : L2.St} {H' : Hp} {s' : Shared}, Inv Y [] σ' H' s' → s'.heap.IsGen a gi := fun {σ' H' s'} I' => by
    subst hY
    exact ⟨_, x, y, (I'.pin (a, genObj gi x y) (List.mem_append_left _ (List.mem_singleton.mpr rfl))).1, rfl, rfl, rfl⟩
  have back : ∀ {σ' : L2.St} {H' : Hp} {s' : Shared}, Inv Y [] σ' H' s' → Inv X pins σ H' s' := fun {σ' H' s'} I' => by
    subst hY
    exact M.inv.call' (ch := fp) I'.os I'.base I'.hok I'.bare fun b hb => ⟨(M.fp b hb).1.2.2.2.1, (M.fp b hb).1.2.1, (M.fp b hb).1.2.2.2.2.1, (M.fp b hb).1.2.2.2.2.2⟩
  have seg := seg_loopG (prog := X.prog) (w := X.w) (A := X.A.in1.in1) (elt := elt) (tg := tg) (iter := iter) (scope := scope) (pos := gpos) (it := it) (cenv := gEnv X scope C code) S.co
    (fun m s => ∃ i H', Inv Y [] (wipe σ (own.map (·.2))) H' s ∧ tn i s.heap ∧ (∀ b ∈ fp, H' b = none) ∧ W i m H')
    (fun s => ∃ H', Inv Y [] (wipe σ (own.map (·.2))) H' s ∧ Q (.bl true) H')
    (fun m v s => ∃ i H' b, v = .bool b ∧ Inv Y [] (wipe σ (own.map (·.2))) H' s ∧ tn i s.heap ∧ (∀ b ∈ fp, H' b = none) ∧ if b = true then ∃ m', m' < m ∧ W i m' H' else Q (.bl false) H') ?_
  · have hl5 : s5.heap.NoLimit := I5.nolimit
    refine call_function_tree F.kind_all F.plain_all F.entry_all (F.args_all1 _) ?_
    unfold Builtin.«all»
    refine wpAny_bind (m := oneArg "all" _) (wpAny_pure ?_)
    refine wpAny_bind (wpAny_pyIter_gen (obj I5) ?_)
    refine wpAny_pure ⟨plainId_quiet F.plain_all_loop _, ?_⟩
    refine allG_loop (g := gi) (n := m0 + 1) (St := fun m s => ∃ i H', Inv Y [] (wipe σ (own.map (·.2))) H' s ∧ tn i s.heap ∧ (∀ b ∈ fp, H' b = none) ∧ W i m H')
      (En := fun s => ∃ H', Inv Y [] (wipe σ (own.map (·.2))) H' s ∧ Q (.bl true) H')
      (Yl := fun m v s => ∃ i H' b, v = .bool b ∧ Inv Y [] (wipe σ (own.map (·.2))) H' s ∧ tn i s.heap ∧ (∀ b ∈ fp, H' b = none) ∧ if b = true then ∃ m', m' < m ∧ W i m' H' else Q (.bl false) H')
      hX (by have := hr.dp; show X.A.depth < _; omega) ?_ ?_ s5 hl5 (obj I5) ⟨_, M.gs, rfl, ?_⟩
    · rintro s₁ h' ⟨H', I', qq⟩ hk
      have I6 := inv_setGen (g := gi) (x := .finished) I' rfl
      have I7 := (back I6).kept (t' := s₁.toks) hk
      exact ⟨.bl true, H', I7, rfl, qq⟩
    · rintro m v s₁ gs' hb ⟨i, H', b, rfl, I', st', n', q'⟩
      have I6 := inv_setGen (g := gi) I' hb
      cases b with
      | false => exact .inl ⟨rfl, .bl false, H', back I6, rfl, q'⟩
      | true =>
        obtain ⟨m', hm', w'⟩ : ∃ m', m' < m ∧ W i m' H' := q'
        exact .inr ⟨rfl, I6.nolimit, obj I6, m', hm', i, H', inv_setGen I6 rfl, st', n', w'⟩
    · -- the start
      have I6 : Inv Y [] (wipe σ (own.map (·.2))) H2 (s5.setGen gi .running) := inv_setGen I5 rfl
      have st5 : tn 0 (s5.setGen gi .running).heap := T.keep _ _ _ M.st fun b _ o e => M.kp b o e
      have loop := seg (m0 + 1) m0 (s5.setGen gi .running) (s5.setGen gi .running) (Nat.lt_succ_self _) ⟨0, H2, I6, st5, fun b hb => (M.fp b hb).1.1, w0⟩
      show Seg _ X.A.in1.in1 _ _ _ _ _ ((compStart (.GeneratorExp elt [⟨tg, iter, [], 0⟩] scope gpos) 0 (.ref it) .none (gEnv X scope C code)).onRaise (leaving (gEnv X scope C code))) [] _
      unfold compStart
      rw [Sem.onRaise_eq_wrap]
      show Seg _ X.A.in1.in1 _ _ _ _ _ ((ask >>= _).wrap _ _ _ _) [] _
      refine seg_bind_wrap (wpAny_askSetting ?_)
      split
      · exact seg_again rfl loop
      · refine seg_bind_wrap (wpAny_rule ?_)
        show Seg _ X.A.in1.in1 _ _ _ _ _ ((standAt iter.pos >>= _).wrap _ _ _ _) [] _
        exact seg_bind_wrap (wpAny_standAt (seg_bind_wrap (T.self _ 0 _ _ _ st5 (seg_again rfl loop))))
  · rintro m s6 ⟨i, H', I', st', n', w'⟩
    rcases turn i m H' w' with ⟨stop, qq⟩ | ⟨go, Nx, hNx, step⟩
    · have td := T.done Y (by subst hY; rfl) (by subst hY; rfl) (by subst hY; rfl) (by subst hY; rfl) i [] s6 _ H' (fun _ _ => False) I' (stat I' n') st' stop
      subst hY
      refine wpAny_mono td (fun r s7 ⟨hr7, I7⟩ => ?_) fun _ _ e => e
      subst hr7
      exact ⟨H', I7, qq⟩
    · have ti := T.item Y (by subst hY; rfl) (by subst hY; rfl) (by subst hY; rfl) (by subst hY; rfl) i [] s6 _ H' (fun _ _ => False) I' (stat I' n') st' go
      subst hY
      refine wpAny_mono ti (fun r s7 ⟨u, hr7, h7⟩ => ?_) fun _ _ e => e
      subst hr7
      refine wpAny_mono h7 (fun _ s8 ⟨xv, H8, I8, r8, y8, st8, n8⟩ => ?_) fun _ _ e => e
      have I8' := I8.pinned (stat I8 n8) (T.obj _ _ st8)
      refine wpAny_mono (pg.run _ s8 _ H8 xv u _ I8' r8 (step xv H8 y8)) (fun _ s9 ⟨σ9, H9, I9, hw9, q9⟩ => ?_) fun _ _ e => e
      refine wpAny_mono (pe.run _ s9 σ9 H9 _ I9 q9) (fun v s10 ⟨yv, H10, I10, r10, b, eb, q10⟩ => ?_) fun _ _ e => e
      subst eb
      cases r10
      have pin' : ∀ b ∈ fp, ∀ o, s8.heap.get? b = some o → s10.heap.get? b = some o ∧ H10 b = none := fun b hb o e =>
        let z := I10.pin (b, o) (List.mem_append_right _ (List.mem_append_right _ (mem_pinsAt hb e)))
        ⟨z.1, z.2.1⟩
      have hl : (wipe σ (own.map (·.2))).length = σ9.length := by rw [← hw9, wipe_length]
      refine ⟨i + 1, H10, b, rfl, (I10.unpinned (pins := [])).weak hl (fun j v e => ?_), T.keep _ _ _ st8 fun b hb o e => (pin' b hb o e).1, fun b hb => ?_, ?_⟩
      · rw [← hw9] at e
        exact (wipe_some e).1
      · obtain ⟨o, e, _⟩ := T.obj _ _ st8 b hb
        exact (pin' b hb o e).2
      · cases b with
        | true => exact hNx H10 q10
        | false => exact q10
end
end My

set_option Elab.async false
set_option linter.all false
set_option maxRecDepth 100000
namespace My
open PySem PySem.Spec PyProof.Rows L2 GxR

/-! ### a def whose code object is known -/
section
variable {P : Program} {w : World} {K : PySem.W.Frag} {mg : Str → Option Value} {base : Heap}
theorem okC {x qual : Str} {st : Stmt} {f c : Addr} {fd : FuncData} {N ps : List Str} {k : Nat} {sp : Sp} (F : Fun K x qual st f fd) (hc : fd.code = .ref c) (S : FnScope N ps (defScope st))
    (len : ∀ vs H Q E, sp vs H Q E → vs.length = ps.length)
    (hbody : ∀ (A : Around) (outer : List Env) (s : Shared) (H : Hp) (vs : List V) (Q : VK) (E : XK), Room k (A.deeper (envOfC qual (defScope st) s.heap.objs.size f (.ref c))) → sp vs H Q E →
      ∃ t, PSs (cxOf CX0 P w K mg base N qual (defScope st) f (.ref c) A outer s H E).nox (defBody st) t ∧ t { nx := fun _ H' => Q .non H', rt := Q } (start N vs) H) : FnOk P w K mg base CX0 (k + 1) f fd ps sp := by
  obtain ⟨oc, od, kV, doc, pm, an, cdv, ct, osl, rfl, lk, hcd⟩ := F.ex
  have e : cdv = .ref c := hc
  subst e
  refine fn_of lk hcd S len fun A outer s H vs Q E hr hsp => ?_
  obtain ⟨t, h, q⟩ := hbody A outer s H vs Q E hr hsp
  exact ⟨t, h.nox, q⟩
theorem fun_of {x qual : Str} {st : Stmt} {f : Addr} {fd : FuncData} {kws : List (Str × V)} (F : FunD K x qual (defArgs st) (defBody st) (defScope st) [] kws f fd) : Fun K x qual st f fd := by
  obtain ⟨oc, od, dV, kV, doc, pm, an, cdv, ct, osl, rfl, lk, hcd, hD, _⟩ := F.ex
  rcases hD with ⟨_, rfl⟩ | ⟨e, _⟩
  · exact ⟨⟨oc, od, kV, doc, pm, an, cdv, ct, osl, rfl, lk, hcd⟩, F.kp⟩
  · exact absurd rfl e
end

/-! ### a < b < c < d -/
section
variable {X : Cx} {a b c d : Expr} {ta tb tc td : TE} {pos : Pos}
def tChain3 (r1 r2 r3 : R2) (ta tb tc td : TE) : TE := fun σ H Q => ta σ H fun x H1 => tb σ H1 fun y H2 => r1 x y H2 fun z H3 => ∃ k, z = .bl k ∧
  (if k = true then tc σ H3 fun v H4 => r2 y v H4 fun z H5 => ∃ k, z = .bl k ∧ (if k = true then td σ H5 fun u H6 => r3 v u H6 Q else Q (.bl false) H5) else Q (.bl false) H3)
theorem pe_chain3 {o1 o2 o3 : CmpOp} {r1 r2 r3 : R2} (h1 : OpR X (compareOp o1) r1) (h2 : OpR X (compareOp o2) r2) (h3 : OpR X (compareOp o3) r3) (ha : PE X a ta) (hb : PE X b tb) (hc : PE X c tc) (hd : PE X d td)
    (hm : lastMarks [o1, o2, o3] [b, c, d] = false := by with_unfolding_all rfl) : PE X (.Compare a [o1, o2, o3] [b, c, d] pos) (tChain3 r1 r2 r3 ta tb tc td) := by
  refine ⟨fun pins s σ H Q I h => ?_⟩
  refine Compare_chain (thn (ha.run pins s σ H _ I h) fun v s1 ⟨x, H1, I1, q1, p1⟩ => chain_link (thn (hb.run pins s1 σ H1 _ I1 p1) fun u s2 ⟨y, H2, I2, q2, p2⟩ =>
    thn (h1 pins s2 σ H2 x y v u _ I2 q1 q2 p2) fun e s3 ⟨z, H3, I3, q3, k, ek, p3⟩ => ?_)) hm
  subst ek
  cases q3
  refine wpAny_truthy_bool ?_
  cases k with
  | false => exact ite_ff ⟨.bl false, H3, I3, rfl, p3⟩
  | true =>
    refine ite_tt (chain_link (thn (hc.run pins s3 σ H3 _ I3 p3) fun u4 s4 ⟨y4, H4, I4, q4, p4⟩ => thn (h2 pins s4 σ H4 y y4 u u4 _ I4 q2 q4 p4) fun e5 s5 ⟨z5, H5, I5, q5, k5, ek5, p5⟩ => ?_))
    subst ek5
    cases q5
    refine wpAny_truthy_bool ?_
    cases k5 with
    | false => exact ite_ff ⟨.bl false, H5, I5, rfl, p5⟩
    | true => exact ite_tt (chain_last (thn (hd.run pins s5 σ H5 _ I5 p5) fun u6 s6 ⟨y6, H6, I6, q6, p6⟩ => h3 pins s6 σ H6 y4 y6 u4 u6 Q I6 q4 q6 p6))
end

/-! ### all over what is walked -/
theorem allG_it {J : It} {n : Nat} {G : Hp → Prop} {Y : Nat → Hp → V → Hp → Prop} (w : Walk J n G Y) {g : TG} {te : TE} {vs : List Nat} {σ : L2.St} {H0 : Hp} {QT QF : Hp → Prop} (Pv : Nat → Hp → Prop) (h0 : Pv 0 H0) (hG : ∀ i H, i ≤ n → Pv i H → G H)
    (hs : ∀ i x H H', i < n → Pv i H → Y i H x H' → g x (wipe σ vs) H' fun σ2 H2 => wipe σ2 vs = wipe σ vs ∧ te σ2 H2 fun y H3 => ∃ b, y = .bl b ∧ if b = true then Pv (i + 1) H3 else QF H3)
    (hd : ∀ H, Pv n H → QT H) :
    ∃ W : Nat → Nat → Hp → Prop, (∃ m, W 0 m H0) ∧ ∀ i m H, W i m H → (J.stop i H ∧ QT H) ∨
      (J.go i H ∧ ∃ Nx : Hp → Prop, (∀ H', Nx H' → ∃ m', m' < m ∧ W (i + 1) m' H') ∧ ∀ x H', J.yld i H x H' → g x (wipe σ vs) H' fun σ2 H2 => wipe σ2 vs = wipe σ vs ∧
        te σ2 H2 fun y H3 => ∃ b, y = .bl b ∧ if b = true then Nx H3 else QF H3) := by
  refine ⟨fun i m H => m = n - i ∧ i ≤ n ∧ Pv i H, ⟨n, rfl, Nat.zero_le _, h0⟩, ?_⟩
  rintro i m H ⟨rfl, hi, p⟩
  have q := hG i H hi p
  by_cases hlt : i < n
  · exact .inr ⟨w.goes i H hlt q, Pv (i + 1), fun H' p' => ⟨n - (i + 1), by omega, rfl, hlt, p'⟩, fun x H' y => hs i x H H' hlt p (w.yields i H x H' hlt q y)⟩
  · have e : i = n := by omega
    subst e
    exact .inl ⟨w.stops H q, hd H p⟩
theorem walk_zipT {K : PySem.W.Frag} {a b : Addr} {xs ys : List V} {n : Nat} (hn : n = min xs.length ys.length) :
    Walk (RZ.ItzT K a b) n (fun H => SqT K H a xs ∧ SqT K H b ys) (YPair (fun i => xs[i]?) (fun i => ys[i]?)) := by
  subst hn
  refine ⟨fun i _ hi q => ?_, fun _ q => ⟨xs, ys, q.1, q.2, by omega⟩, fun i H v H' _ q y => ?_⟩
  · have h1 : i < xs.length := by omega
    have h2 : i < ys.length := by omega
    exact ⟨xs, ys, xs[i], ys[i], q.1, q.2, List.getElem?_eq_getElem h1, List.getElem?_eq_getElem h2⟩
  · obtain ⟨T, x, z, h1, h2, h3, h4, h5⟩ := y
    exact ⟨T, x, z, h1, h2, h3, h4 xs q.1, h5 ys q.2⟩
theorem cut1 (xs : List V) : cutV xs (some 1) none = xs.drop 1 := by
  unfold cutV
  rw [show HT.sIx xs.length 0 (some 1) = min 1 xs.length from HT.sIx_nat xs.length 0 1, HT.sIx_none]
  cases xs with
  | nil => rfl
  | cons x r =>
    rw [show min 1 (x :: r).length = 1 by rw [List.length_cons]; omega]
    show (List.take ((x :: r).length - 1) r) = r
    rw [List.length_cons, Nat.add_sub_cancel]
    exact List.take_length
theorem lex_of {s t : Int × Int} (h : ltT s t) : HT.lexLt [s.1, s.2] [t.1, t.2] = true := by
  rw [HT.lexLt_cons]
  rcases h with h | ⟨h, k⟩
  · rw [if_neg (by omega)]; exact decide_eq_true h
  · rw [if_pos h, HT.lexLt_cons, if_neg (by omega)]; exact decide_eq_true k
end My

set_option Elab.async false
set_option linter.all false
set_option maxRecDepth 100000
namespace My
open PySem PySem.Spec PyProof.Rows L2
def topS (i : Nat) : Stmt := PySem.Challenge.pw_pointedties_k16_ways_shown.main.body.getD i (.Pass ⟨0, 0, 0, 0⟩)
section
variable {P : Program} {w : World} {K : PySem.W.Frag} {mg : Str → Option Value} {base : Heap}

/-! ### _law_mix -/
abbrev s__law_mix : Stmt := topS 14
abbrev N__law_mix : List Str := ["_law_cell", "_law_k", "_law_m"]
theorem sc__law_mix : FnScope N__law_mix ["_law_cell", "_law_k"] (defScope s__law_mix) := ⟨rfl, rfl, rfl, by decide +kernel, rfl, by decide +kernel, by decide +kernel⟩
def sp_mix : Sp := fun vs H Q _ => ∃ c k : Int, vs = [.int c, .int k] ∧ -(2 ^ 60) < k ∧ k < 2 ^ 60 ∧
  ∀ r : Int, 0 ≤ r → Q (.int r) H
theorem ok_mix {f : Addr} {fd : FuncData} (F : Fun K "_law_mix" "_law_mix" s__law_mix f fd) :
    FnOk P w K mg base CX0 1 f fd ["_law_cell", "_law_k"] sp_mix := by
  refine F.ok sc__law_mix (fun vs H Q E h => ?_) (fun cdv A outer s H vs Q E hr h => ?_)
  · obtain ⟨c, k, rfl, _⟩ := h; rfl
  · obtain ⟨c, k, rfl, h1, h2, q⟩ := h
    refine ⟨_, (pss_cons (ps_set (i := 2) sc__law_mix.nd rfl (by first | exact Or.inl rfl | exact Or.inr rfl) (pe_op op_mod (pe_op op_mul (pe_op op_add (pe_op op_add (pe_op op_mod (pv 0) pe_int) (pe_op op_mul (pe_op op_mul (pv 1) (pv 1)) pe_int)) pe_int) pe_int) pe_int))
    (pss_one (ps_ret (pe_op op_mod (pe_op op_mul (pv 2) (pv 2)) pe_int)))), ?_⟩
    refine ⟨_, rfl, _, _, rfl, rfl, (by decide : (0 : Int) < 2147483629), ?_⟩
    refine ⟨_, rfl, _, rfl, _, _, rfl, rfl, .inl ⟨by omega, by omega⟩, ?_⟩
    refine ⟨_, _, rfl, rfl, .inr ⟨by decide, by decide⟩, ?_⟩
    refine ⟨_, _, rfl, rfl, ?_⟩
    refine ⟨_, _, rfl, rfl, ?_⟩
    refine ⟨_, _, rfl, rfl, .inr ⟨by decide, by decide⟩, ?_⟩
    refine ⟨_, _, rfl, rfl, (by decide : (0 : Int) < 2147483647), ?_⟩
    have b1 : ∀ x : Int, 0 ≤ x % 2147483647 := fun x => Int.emod_nonneg _ (by decide)
    have b2 : ∀ x : Int, x % 2147483647 < 2147483647 := fun x => Int.emod_lt_of_pos _ (by decide)
    refine ⟨_, rfl, _, rfl, _, _, rfl, rfl, .inl ⟨by have := b1 (((c % 2147483629 + k * k * 7919) + 11) * 48271); omega, by have := b2 (((c % 2147483629 + k * k * 7919) + 11) * 48271); omega⟩, ?_⟩
    refine ⟨_, _, rfl, rfl, (by decide : (0 : Int) < 1999999973), ?_⟩
    exact q _ (Int.emod_nonneg _ (by decide))

/-! ### _law_left -/
abbrev s__law_left : Stmt := topS 15
abbrev N__law_left : List Str := ["_law_script", "_law_k", "_law_cell"]
theorem sc__law_left : FnScope N__law_left ["_law_script", "_law_k"] (defScope s__law_left) := ⟨rfl, rfl, rfl, by decide +kernel, rfl, by decide +kernel, by decide +kernel⟩
def sp_left (K : PySem.W.Frag) : Sp := fun vs H Q _ => ∃ (a : Addr) (ns : List Int) (k : Int), vs = [.ref a, .int k] ∧ SqL K H a (ns.map V.int) ∧ 0 ≤ k ∧ k < 2 ^ 60 ∧
  ∀ L H', H L = none → Same H H' → Lf H' L 0 → Q (.ref L) H'
theorem ok_left {f : Addr} {fd : FuncData} (B : Bts mg) (F : Fun K "_law_left" "_law_left" s__law_left f fd) :
    FnOk P w K mg base CX0 1 f fd ["_law_script", "_law_k"] (sp_left K) := by
  refine F.ok sc__law_left (fun vs H Q E h => ?_) (fun cdv A outer s H vs Q E hr h => ?_)
  · obtain ⟨c, k, _, rfl, _⟩ := h; rfl
  · obtain ⟨a, ns, k, rfl, hS, h1, h2, q⟩ := h
    refine ⟨_, (pss_cons (ps_set (i := 2) sc__law_left.nd rfl (by first | exact Or.inl rfl | exact Or.inr rfl) (pe_ifExp (pt_cmpR op_lt (pv 1) (pe_callB call_len_seq (by rfl) B.len (by decide +kernel) (pa_cons (pv 0) pa_nil)) (nomark _)) (pe_ix ix_list (pv 0) (pv 1) (fun _ _ => rfl)) pe_int))
    (pss_one (ps_ret (pe_lst (pa_cons (pe_op op_mul (pe_callB call_abs (by rfl) B.abs (by decide +kernel) (pa_cons (pv 2) pa_nil)) (pe_callTy call_int1 (by rfl) B.int (by decide +kernel) (pa_cons (pe_cmpR op_ge (pe_callB call_abs (by rfl) B.abs (by decide +kernel) (pa_cons (pv 2) pa_nil)) (pe_op op_pow pe_int pe_int) (nomark _)) pa_nil))) (pa_cons (pe_op op_add (pv 2) (pe_op op_mul pe_int (pv 1))) (pa_cons pe_int pa_nil))))))), ?_⟩
    have rest : ∀ x : Int, (tRet (tLst (tCons (tOp (rI CMul fun i j => .int (i * j)) (tCB (fun xs H Q => ∃ i, xs = [.int i] ∧ Q (.int (if i < 0 then -i else i)) H) (tCons (tVar 2) tNil)) (tCB (fun xs H Q => (∃ i, xs = [.int i] ∧ Q (.int i) H) ∨ ∃ k, xs = [.bl k] ∧ Q (.int (if k then 1 else 0)) H) (tCons (tOp (rI0 fun i j => .bl (decide (j ≤ i))) (tCB (fun xs H Q => ∃ i, xs = [.int i] ∧ Q (.int (if i < 0 then -i else i)) H) (tCons (tVar 2) tNil)) (tOp (rI CPow fun i j => .int (i ^ j.toNat)) (tC (.int 10)) (tC (.int 18)))) tNil))) (tCons (tOp (rI0 fun i j => .int (i + j)) (tVar 2) (tOp (rI CMul fun i j => .int (i * j)) (tC (.int 1000003)) (tVar 1))) (tCons (tC (.int 0)) tNil))))) { nx := fun _ H' => Q .non H', rt := Q } ((start N__law_left [.ref a, .int k]).set 2 (some (.int x))) H := by
      intro x
      refine ⟨_, rfl, _, rfl, ?_⟩
      refine ⟨_, rfl, _, rfl, ?_⟩
      refine ⟨_, _, rfl, rfl, ⟨by decide, by decide, by decide⟩, ?_⟩
      refine ⟨_, _, rfl, rfl, .inr ⟨_, rfl, ?_⟩⟩
      refine ⟨_, _, rfl, rfl, .inr ⟨?_, ?_⟩, ?_⟩
      · exact (bi _).1
      · exact (bi _).2.1
      refine ⟨_, rfl, _, rfl, _, _, rfl, rfl, .inl ⟨by decide, by decide⟩, ?_⟩
      refine ⟨_, _, rfl, rfl, ?_⟩
      refine ⟨by show 3 ≤ sizeLine; decide, fun p np => ?_⟩
      refine q p _ np (same_new np) ⟨_, _, _, upd_same, ?_, Int.le_refl _, Int.le_refl _⟩
      refine Int.mul_nonneg ?_ ?_
      · split <;> omega
      · exact (bi _).2.2
    refine ⟨_, rfl, _, rfl, a, _, rfl, .inl hS, _, _, rfl, rfl, _, rfl, ite2 (fun e => ?_) (fun e => ?_)⟩
    · have e := of_decide_eq_true e
      rw [List.length_map] at e
      have hk : k.toNat < ns.length := by omega
      have g : (ns.map V.int)[k.toNat]? = some (.int ns[k.toNat]) := by
        rw [List.getElem?_map, List.getElem?_eq_getElem hk]; rfl
      have g2 := atI_nat g
      rw [Int.toNat_of_nonneg h1] at g2
      refine ⟨_, rfl, _, rfl, a, _, k, _, rfl, rfl, hS, g2, ?_⟩
      exact rest _
    · exact rest 0

/-! ### _law_pick -/
abbrev s__law_pick : Stmt := topS 16
abbrev N__law_pick : List Str := ["_law_left_here", "_law_many", "_law_digit"]
theorem sc__law_pick : FnScope N__law_pick ["_law_left_here", "_law_many"] (defScope s__law_pick) := ⟨rfl, rfl, rfl, by decide +kernel, rfl, by decide +kernel, by decide +kernel⟩
def sp_pick : Sp := fun vs H Q _ => ∃ (L : Addr) (m c : Int), vs = [.ref L, .int m] ∧ Lf H L c ∧ 0 < m ∧ m < 1000000 ∧ c < 2 ^ 50 ∧
  ∀ (r : Int) (H' : Hp), 0 ≤ r → r < m → Fr L H H' → Lf H' L (c + 1) → Q (.int r) H'
theorem ok_pick {f : Addr} {fd : FuncData} (F : Fun K "_law_pick" "_law_pick" s__law_pick f fd) (c__law_mix : Cl P w K mg base 1 "_law_mix" sp_mix) :
    FnOk P w K mg base CX0 2 f fd ["_law_left_here", "_law_many"] sp_pick := by
  refine F.ok sc__law_pick (fun vs H Q E h => ?_) (fun cdv A outer s H vs Q E hr h => ?_)
  · obtain ⟨c, k, _, rfl, _⟩ := h; rfl
  · obtain ⟨L, m, c, rfl, ⟨x, y, z, hL, hx, hz, hzc⟩, h1, h2, h3, q⟩ := h
    refine ⟨_, (pss_cons (ps_asg (pe_op op_add (pe_ix ix_list (pv 0) pe_int (fun _ _ => rfl)) pe_int) (pg_sub (pv 0) pe_int set_list))
    (pss_cons (ps_if (pt_cmpR op_gt (pe_ix ix_list (pv 0) pe_int (fun _ _ => rfl)) pe_int (nomark _)) (pss_cons (ps_set (i := 2) sc__law_pick.nd rfl (by first | exact Or.inl rfl | exact Or.inr rfl) (pe_op op_mod (pe_ix ix_list (pv 0) pe_int (fun _ _ => rfl)) (pv 1)))
      (pss_cons (ps_asg (pe_op op_fdiv (pe_ix ix_list (pv 0) pe_int (fun _ _ => rfl)) (pv 1)) (pg_sub (pv 0) pe_int set_list))
      (pss_one (ps_ret (pv 2))))) pss_nil)
    (pss_one (ps_ret (pe_op op_mod (pe_op op_fdiv (pe_c c__law_mix hr (by decide) (by rfl) (pa_cons (pe_c c__law_mix hr (by decide) (by rfl) (pa_cons (pe_ix ix_list (pv 0) pe_int (fun _ _ => rfl)) (pa_cons (pe_ix ix_list (pv 0) pe_int (fun _ _ => rfl)) pa_nil))) (pa_cons (pe_op op_add (pe_ix ix_list (pv 0) pe_int (fun _ _ => rfl)) pe_int) pa_nil))) pe_int) (pv 1)))))), ?_⟩
    refine ⟨_, rfl, L, _, _, _, rfl, rfl, SqL.of hL, rfl, _, _, rfl, rfl, ?_⟩
    refine ⟨_, rfl, L, _, _, _, rfl, rfl, hL, rfl, ?_⟩
    refine ⟨_, rfl, L, _, _, _, rfl, rfl, SqL.of upd_same, rfl, _, _, rfl, rfl, _, rfl, ite2 (fun e => ?_) (fun e => ?_)⟩
    · refine ⟨_, rfl, L, _, _, _, rfl, rfl, SqL.of upd_same, rfl, _, rfl, _, _, rfl, rfl, h1, ?_⟩
      refine ⟨_, rfl, L, _, _, _, rfl, rfl, SqL.of upd_same, rfl, _, rfl, _, _, rfl, rfl, ⟨h1, by omega⟩, ?_⟩
      refine ⟨_, rfl, L, _, _, _, rfl, rfl, upd_same, rfl, ?_⟩
      refine ⟨_, rfl, ?_⟩
      refine q _ _ (Int.emod_nonneg _ (by omega)) (Int.emod_lt_of_pos _ h1) ((Fr.refl L H).putL.putL) ⟨_, _, _, upd_same, ?_, ?_, ?_⟩
      · exact Int.ediv_nonneg hx (Int.le_of_lt h1)
      · omega
      · omega
    · refine ⟨_, rfl, L, _, _, _, rfl, rfl, SqL.of upd_same, rfl, ?_⟩
      refine ⟨_, rfl, L, _, _, _, rfl, rfl, SqL.of upd_same, rfl, ?_⟩
      refine ⟨_, _, rfl, by omega, by omega, fun r hr0 => ?_⟩
      refine ⟨_, rfl, L, _, _, _, rfl, rfl, SqL.of upd_same, rfl, _, _, rfl, rfl, ?_⟩
      refine ⟨_, _, rfl, by omega, by omega, fun r2 hr2 => ?_⟩
      refine ⟨_, _, rfl, rfl, ⟨by decide, by decide⟩, ?_⟩
      refine ⟨_, rfl, _, _, rfl, rfl, h1, ?_⟩
      exact q _ _ (Int.emod_nonneg _ (by omega)) (Int.emod_lt_of_pos _ h1) (Fr.refl L H).putL ⟨_, _, _, upd_same, hx, by omega, by omega⟩
end
end My

set_option Elab.async false
set_option linter.all false
set_option maxRecDepth 100000
namespace My
open PySem PySem.Spec PyProof.Rows L2
section
variable {P : Program} {w : World} {K : PySem.W.Frag} {mg : Str → Option Value} {base : Heap}

/-! ### _law_pairs -/
abbrev s__law_pairs : Stmt := topS 17
abbrev N__law_pairs : List Str := ["_law_many", "_law_found", "_law_a", "_law_b"]
theorem sc__law_pairs : FnScope N__law_pairs ["_law_many"] (defScope s__law_pairs) := ⟨rfl, rfl, rfl, by decide +kernel, rfl, by decide +kernel, by decide +kernel⟩
def sp_pairs : Sp := fun vs H Q _ => ∃ n : Nat, vs = [.int (n : Int)] ∧ n ≤ 100 ∧
  ∀ p vs H', H p = none → Same H H' → H' p = some (.lst vs) → Ties H' vs (pup n n) → Q (.ref p) H'
theorem ok_pairs {f : Addr} {fd : FuncData} (B : Bts mg) (F : Fun K "_law_pairs" "_law_pairs" s__law_pairs f fd) :
    FnOk P w K mg base CX0 1 f fd ["_law_many"] sp_pairs := by
  refine F.ok sc__law_pairs (fun vs H Q E h => ?_) (fun cdv A outer s H vs Q E hr h => ?_)
  · obtain ⟨n, rfl, _⟩ := h; rfl
  · obtain ⟨n, rfl, hn, q⟩ := h
    refine ⟨_, (pss_cons (ps_set (i := 1) sc__law_pairs.nd rfl (by first | exact Or.inl rfl | exact Or.inr rfl) (pe_lst pa_nil))
    (pss_cons (ps_for PassesOwn.never rfl (pi_range1 (by rfl) B.range (pa_cons (pv 0) pa_nil)) (pg_name (i := 2) sc__law_pairs.nd rfl (by first | exact Or.inl rfl | exact Or.inr rfl))
      (pss_one (ps_expr (pe_bm PySem.F.plainAttrs_list PySem.F.slot_list_extend PySem.F.type_list_extend mt_extend (pv 1) (pa_cons (pe_lc (own := [("_law_b", 3)]) (g := (gName 3)) (tt := tYes) rfl sc__law_pairs.nd (pi_range2 (by rfl) B.range (pa_cons (pe_op op_add (pv 2) pe_int) (pa_cons (pv 0) pa_nil))) (blkOk_by (own := [("_law_b", 3)]) (N := N__law_pairs) (sc := defScope s__law_pairs) (by decide +kernel)) (fun _ _ _ _ _ => (pg_name (i := 3) sc__law_pairs.nd rfl (by first | exact Or.inl rfl | exact Or.inr rfl))) (fun _ _ _ _ _ => pts_nil) (fun _ _ _ _ _ => (pe_tup (pa_cons (pv 2) (pa_cons (pv 3) pa_nil))))) pa_nil)))))
    (pss_one (ps_ret (pv 1))))), ?_⟩
    refine ⟨Nat.zero_le _, fun o no => ?_⟩
    refine ⟨_, rfl, _, rfl, by omega, by omega, ?_⟩
    refine for_range (fun i σ H1 => ∃ vs y2 y3, σ = [some (.int (n : Int)), some (.ref o), y2, y3] ∧ Same H H1 ∧ H1 o = some (.lst vs) ∧ Ties H1 vs (pup n i)) ⟨[], none, none, rfl, same_new no, upd_same, trivial⟩ ?_ ?_
    · rintro i σ H1 hi ⟨vs, y2, y3, rfl, sm, eo, hT⟩
      have hi : i < n := by omega
      refine ⟨_, rfl, .inl ⟨rfl, _, SqL.of eo⟩, ?_⟩
      refine ⟨_, rfl, _, _, rfl, rfl, _, rfl, _, _, rfl, ⟨by omega, by omega, by omega, by omega⟩, fun D nD => ?_⟩
      refine lc_range (fun j H2 => ∃ us, Same H1 H2 ∧ H2 D = some (.lst us) ∧ Ties H2 us (prow i j)) ⟨[], same_new nD, upd_same, trivial⟩ ?_ ?_
      · rintro j H2 hj ⟨us, sm2, eD, hU⟩
        refine ⟨rfl, yes ?_⟩
        refine ⟨_, rfl, _, rfl, by show 2 ≤ sizeLine; decide, fun t nt => ?_⟩
        have nDt : D ≠ t := ne_of_none eD nt
        refine ⟨us, by rw [upd_ne nDt]; exact eD, sz' (by rw [hU.len, prow_len]; omega), us ++ [.ref t], ?_, upd_same, ?_⟩
        · exact Same.put (sm2.trans (same_new nt)) nD
        · rw [prow_succ]
          have a1 : Tst (upd H2 t (.tup [.int (0 + (i : Int)), .int (0 + (i : Int) + 1 + (j : Int))])) (upd (upd H2 t (.tup [.int (0 + (i : Int)), .int (0 + (i : Int) + 1 + (j : Int))])) D (.lst (us ++ [.ref t]))) := tst_put (by rw [upd_ne nDt]; exact eD)
          refine ((hU.mono (tst_new nt)).mono a1).app (Ties.one ?_)
          rw [Int.zero_add] at a1 ⊢
          exact Tie.new.mono a1
      · rintro H2 ⟨us, sm2, eD, hU⟩
        have e : ((n : Int) - (0 + (i : Int) + 1)).toNat = n - (i + 1) := by omega
        rw [e] at hU
        have eo2 := sm2 _ _ eo
        have l1 := pup_len' hn (Nat.le_of_lt hi)
        refine ⟨o, D, vs, us, rfl, rfl, eo2, eD, sz (by rw [hT.len, hU.len, prow_len]; omega), ?_⟩
        refine ⟨vs ++ us, _, y3, rfl, Same.put (sm.trans sm2) no, upd_same, ?_⟩
        rw [pup_succ]
        exact ((hT.mono (Same.tst sm2)).app hU).mono (tst_put eo2)
    · rintro σ H1 ⟨vs, y2, y3, rfl, sm, eo, hT⟩
      rw [Int.toNat_natCast] at hT
      exact ⟨_, rfl, q o vs H1 no sm eo hT⟩

/-! ### _law_row -/
abbrev s__law_row : Stmt := topS 19
abbrev N__law_row : List Str := ["_law_left_here", "_law_many", "_law_row_here", "_law_k"]
theorem sc__law_row : FnScope N__law_row ["_law_left_here", "_law_many"] (defScope s__law_row) := ⟨rfl, rfl, rfl, by decide +kernel, rfl, by decide +kernel, by decide +kernel⟩
def sp_row : Sp := fun vs H Q _ => ∃ (L : Addr) (n : Nat) (c : Int), vs = [.ref L, .int (n : Int)] ∧ Lf H L c ∧ n ≤ 100 ∧ c < 2 ^ 49 ∧
  ∀ (p : Addr) (ns : List Int) (H' : Hp), H p = none → Fr L H H' → Lf H' L (c + n) → H' p = some (.lst (ns.map V.int)) → ns.Perm (up n) → Q (.ref p) H'
theorem ok_row {f : Addr} {fd : FuncData} (B : Bts mg) (F : Fun K "_law_row" "_law_row" s__law_row f fd) (c__law_pick : Cl P w K mg base 2 "_law_pick" sp_pick) :
    FnOk P w K mg base CX0 3 f fd ["_law_left_here", "_law_many"] sp_row := by
  refine F.ok sc__law_row (fun vs H Q E h => ?_) (fun cdv A outer s H vs Q E hr h => ?_)
  · obtain ⟨L, n, c, rfl, _⟩ := h; rfl
  · obtain ⟨L, n, c, rfl, hL, hn, hc, q⟩ := h
    refine ⟨_, (pss_cons (ps_set (i := 2) sc__law_row.nd rfl (by first | exact Or.inl rfl | exact Or.inr rfl) (pe_lst pa_nil))
    (pss_cons (ps_for PassesOwn.never rfl (pi_range1 (by rfl) B.range (pa_cons (pv 1) pa_nil)) (pg_name (i := 3) sc__law_row.nd rfl (by first | exact Or.inl rfl | exact Or.inr rfl))
      (pss_one (ps_expr (pe_bm PySem.F.plainAttrs_list PySem.F.slot_list_insert PySem.F.type_list_insert mt_insert (pv 2) (pa_cons (pe_c c__law_pick hr (by decide) (by rfl) (pa_cons (pv 0) (pa_cons (pe_op op_add (pv 3) pe_int) pa_nil))) (pa_cons (pv 3) pa_nil))))))
    (pss_one (ps_ret (pv 2))))), ?_⟩
    refine ⟨Nat.zero_le _, fun o no => ?_⟩
    refine ⟨_, rfl, _, rfl, by omega, by omega, ?_⟩
    refine for_range (fun i σ H1 => ∃ (ns : List Int) (y3 : Option V), σ = [some (.ref L), some (.int (n : Int)), some (.ref o), y3] ∧ Fr L H H1 ∧ Lf H1 L (c + i) ∧ H1 o = some (.lst (ns.map V.int)) ∧ ns.Perm (up i)) ⟨[], none, rfl, Fr.new no, (hL.new no).mono (by omega), upd_same, .refl _⟩ ?_ ?_
    · rintro i σ H1 hi ⟨ns, y3, rfl, fr, lf, eo, hp⟩
      have hi : i < n := by omega
      have no' : o ≠ L := hL.ne no
      refine ⟨_, rfl, .inl ⟨rfl, _, SqL.of eo⟩, ?_⟩
      refine ⟨_, rfl, _, rfl, _, _, rfl, rfl, ?_⟩
      refine ⟨L, _, c + i, rfl, lf, by omega, by omega, by omega, fun r H2 r0 r1 fr2 lf2 => ?_⟩
      refine ⟨_, rfl, ?_⟩
      have eo2 := fr2 _ _ no' eo
      refine ⟨o, _, _, _, rfl, rfl, eo2, sz' ?_, r0, by omega, ?_⟩
      · rw [List.length_map, hp.length_eq, up_len]; omega
      · refine ⟨ns.take r.toNat ++ [(i : Int)] ++ ns.drop r.toNat, _, rfl, ?_, ?_, ?_, ?_⟩
        · exact (fr.trans fr2).put no
        · exact (lf2.mono (by omega)).put no'
        · rw [upd_same, List.map_append, List.map_append, List.map_take, List.map_drop, Int.zero_add]; rfl
        · rw [up_succ]
          exact (ins_perm _ _ _).trans (hp.append_right _)
    · rintro σ H1 ⟨ns, y3, rfl, fr, lf, eo, hp⟩
      rw [Int.toNat_natCast] at lf hp
      exact ⟨_, rfl, q o ns H1 no fr lf eo hp⟩
end
end My

set_option Elab.async false
set_option linter.all false
set_option maxRecDepth 100000
namespace My
open PySem PySem.Spec PyProof.Rows L2
section
variable {P : Program} {w : World} {K : PySem.W.Frag} {mg : Str → Option Value} {base : Heap}

def sp_gen : Sp := fun vs H Q _ => ∃ (L : Addr) (n : Nat) (c : Int), vs = [.ref L, .int (n : Int)] ∧ Lf H L c ∧ n ≤ 12 ∧ c < 2 ^ 48 ∧
  ∀ (v : V) (H' : Hp) (ts : List (Int × Int)), Fr L H H' → Lf H' L (c + 100000) → Web H' v n ts → WOk n ts → Q v H'

/-! ### _law_any_web -/
abbrev s__law_any_web : Stmt := topS 18
abbrev N__law_any_web : List Str := ["_law_left_here", "_law_many", "_law_often", "_law_tie"]
theorem sc__law_any_web : FnScope N__law_any_web ["_law_left_here", "_law_many"] (defScope s__law_any_web) := ⟨rfl, rfl, rfl, by decide +kernel, rfl, by decide +kernel, by decide +kernel⟩
theorem often4 {r : Int} (h0 : 0 ≤ r) (h1 : r < 4) : ∃ o : Int, atI [V.int 2, V.int 3, V.int 5, V.int 8] r = some (.int o) ∧ 0 < o ∧ o < 100 := by
  have : r = 0 ∨ r = 1 ∨ r = 2 ∨ r = 3 := by omega
  rcases this with rfl | rfl | rfl | rfl
  · exact ⟨2, rfl, by decide, by decide⟩
  · exact ⟨3, rfl, by decide, by decide⟩
  · exact ⟨5, rfl, by decide, by decide⟩
  · exact ⟨8, rfl, by decide, by decide⟩
theorem ok_any_web {f : Addr} {fd : FuncData} (B : Bts mg) (F : Fun K "_law_any_web" "_law_any_web" s__law_any_web f fd) (c__law_pick : Cl P w K mg base 2 "_law_pick" sp_pick) (c__law_pairs : Cl P w K mg base 1 "_law_pairs" sp_pairs) :
    FnOk P w K mg base CX0 3 f fd ["_law_left_here", "_law_many"] sp_gen := by
  refine F.ok sc__law_any_web (fun vs H Q E h => ?_) (fun cdv A outer s H vs Q E hr h => ?_)
  · obtain ⟨L, n, c, rfl, _⟩ := h; rfl
  · obtain ⟨L, n, c, rfl, hL, hn, hc, q⟩ := h
    refine ⟨_, (pss_cons (ps_set (i := 2) sc__law_any_web.nd rfl (by first | exact Or.inl rfl | exact Or.inr rfl) (pe_ix ix_list (pe_lst (pa_cons pe_int (pa_cons pe_int (pa_cons pe_int (pa_cons pe_int pa_nil))))) (pe_c c__law_pick hr (by decide) (by rfl) (pa_cons (pv 0) (pa_cons pe_int pa_nil))) (fun _ _ => rfl)))
    (pss_one (ps_ret (pe_tup (pa_cons (pv 1) (pa_cons (pe_callTy call_tuple_of (by rfl) B.tuple (by decide +kernel) (pa_cons (pe_lc (own := [("_law_tie", 3)]) (g := (gName 3)) rfl sc__law_any_web.nd (pi_list (pe_c c__law_pairs hr (by decide) (by rfl) (pa_cons (pv 1) pa_nil))) (blkOk_by (own := [("_law_tie", 3)]) (N := N__law_any_web) (sc := defScope s__law_any_web) (by decide +kernel)) (fun _ _ _ _ _ => (pg_name (i := 3) sc__law_any_web.nd rfl (by first | exact Or.inl rfl | exact Or.inr rfl))) (fun _ _ _ _ _ => (pts_one (pt_cmpR op_eq (pe_cmpR op_eq (pe_c c__law_pick hr (by decide) (by rfl) (pa_cons (pv 0) (pa_cons (pv 2) pa_nil))) pe_int (nomark _)) (pe_cmpR op_lt (pv 2) pe_int (nomark _)) (nomark _)))) (fun _ _ _ _ _ => (pv 3))) pa_nil)) pa_nil)))))), ?_⟩
    refine ⟨by show 4 ≤ sizeLine; decide, fun o no => ?_⟩
    refine ⟨_, rfl, L, _, c, rfl, hL.new no, by decide, by decide, by omega, fun r H1 r0 r1 fr1 lf1 => ?_⟩
    obtain ⟨oft, e1, o1, o2⟩ := often4 r0 r1
    have eo : H1 o = some (.lst [V.int 2, V.int 3, V.int 5, V.int 8]) := fr1 _ _ (hL.ne no) upd_same
    refine ⟨o, _, _, _, rfl, rfl, SqL.of eo, e1, ?_⟩
    have frA : Fr L H H1 := (Fr.new no).trans fr1
    refine ⟨_, rfl, ?_⟩
    refine ⟨_, rfl, n, rfl, by omega, fun p vs H2 np sm2 ep hT => ?_⟩
    refine ⟨p, rfl, ⟨_, SqL.of ep⟩, fun D nD => ?_⟩
    have lf2 := lf1.same sm2
    have npL : p ≠ L := lf1.ne np
    have nDL : D ≠ L := lf2.ne nD
    refine lc_list (K := K) (a := p) (xs := vs) (fun i H3 => ∃ us sub, Fr L H2 H3 ∧ Lf H3 L (c + 1 + i) ∧ H3 D = some (.lst us) ∧ Ties H3 us sub ∧ sub.Sublist ((pup n n).take i)) ⟨[], [], Fr.new nD, (lf2.new nD).mono (by omega), upd_same, trivial, List.nil_sublist _⟩ ?_ ?_ ?_
    · rintro i H3 hi ⟨us, sub, fr3, lf3, eD, hU, hs⟩
      exact SqL.of (fr3 _ _ npL ep)
    · rintro i x H3 hx ⟨us, sub, fr3, lf3, eD, hU, hs⟩
      obtain ⟨t, ht, hxt⟩ := hT.at hx
      have hi : i < vs.length := (List.getElem?_eq_some_iff.mp hx).1
      have l1 := pup_len' (n := n) (i := n) (by omega) (Nat.le_refl n)
      have l2 := hT.len
      have tk : (pup n n).take (i + 1) = (pup n n).take i ++ [t] := by rw [List.take_add_one, ht]; rfl
      refine ⟨rfl, ?_⟩
      refine ⟨_, rfl, _, rfl, ?_⟩
      refine ⟨L, _, c + 1 + i, rfl, lf3, by omega, by omega, by omega, fun r H4 r0 r1 fr4 lf4 => ?_⟩
      have eD4 := fr4 _ _ nDL eD
      have a4 : Tst H3 H4 := lf3.tst fr4
      refine ⟨rfl, _, rfl, _, _, rfl, rfl, rfl, _, rfl, ite2 (fun e => ?_) (fun e => ?_)⟩
      · refine ⟨x, rfl, us, eD4, sz' (by rw [hU.len]; have := hs.length_le; rw [List.length_take] at this; omega), us ++ [x], sub ++ [t], ?_, ?_, upd_same, ?_, ?_⟩
        · exact (fr3.trans fr4).put nD
        · exact (lf4.mono (by omega)).put nDL
        · refine Ties.mono (tst_put eD4) ((hU.mono a4).app (Ties.one ?_))
          exact (hxt.mono (lf2.tst fr3)).mono a4
        · rw [tk]; exact hs.append (List.Sublist.refl _)
      · refine ⟨us, sub, fr3.trans fr4, lf4.mono (by omega), eD4, hU.mono a4, ?_⟩
        rw [tk]; exact hs.trans (List.sublist_append_left _ _)
    · rintro H3 ⟨us, sub, fr3, lf3, eD, hU, hs⟩
      have l1 := pup_len' (n := n) (i := n) (by omega) (Nat.le_refl n)
      have l2 := hT.len
      refine ⟨D, us, rfl, .inl ⟨SqL.of eD, fun t nt => ?_⟩⟩
      refine ⟨by show 2 ≤ sizeLine; decide, fun u nu => ?_⟩
      refine q _ _ sub ?_ ?_ ⟨u, t, us, rfl, upd_same, ?_, ?_⟩ ?_
      · exact (frA.trans ((Fr.of sm2).trans fr3)).trans ((Fr.new nt).trans (Fr.new nu))
      · exact ((lf3.mono (by omega)).new nt).new nu
      · rw [upd_ne (ne_of_none upd_same nu)]; exact upd_same
      · exact (hU.mono (tst_new nt)).mono (tst_new nu)
      · exact wok_sub (hs.trans (List.take_sublist _ _))
end
end My

set_option Elab.async false
set_option linter.all false
set_option maxRecDepth 100000
namespace My
open PySem PySem.Spec PyProof.Rows L2
section
variable {P : Program} {w : World} {K : PySem.W.Frag} {mg : Str → Option Value} {base : Heap}

/-- rows of all places, each a list of its own, none of them at one of two places -/
def Rws (H : Hp) (n : Nat) (L D : Addr) (vs : List V) : Prop :=
  ∀ v ∈ vs, ∃ (p : Addr) (ns : List Int), v = .ref p ∧ p ≠ L ∧ p ≠ D ∧ H p = some (.lst (ns.map V.int)) ∧ ns.Perm (up n)

/-! ### _law_row_web -/
abbrev s__law_row_web : Stmt := topS 20
abbrev N__law_row_web : List Str := ["_law_left_here", "_law_many", "_law_rows", "_law_k", "_law_ties", "_law_a", "_law_b", "_law_ahead", "_law_row_here"]
theorem sc__law_row_web : FnScope N__law_row_web ["_law_left_here", "_law_many"] (defScope s__law_row_web) := ⟨rfl, rfl, rfl, by decide +kernel, rfl, by decide +kernel, by decide +kernel⟩
theorem ok_row_web {f : Addr} {fd : FuncData} (B : Bts mg) (F : Fun K "_law_row_web" "_law_row_web" s__law_row_web f fd) (c__law_pick : Cl P w K mg base 2 "_law_pick" sp_pick) (c__law_row : Cl P w K mg base 3 "_law_row" sp_row) :
    FnOk P w K mg base CX0 4 f fd ["_law_left_here", "_law_many"] sp_gen := by
  refine F.ok sc__law_row_web (fun vs H Q E h => ?_) (fun cdv A outer s H vs Q E hr h => ?_)
  · obtain ⟨L, n, c, rfl, _⟩ := h; rfl
  · obtain ⟨L, n, c, rfl, hL, hn, hc, q⟩ := h
    refine ⟨_, (pss_cons (ps_setLc (i := 2) (own := [("_law_k", 3)]) (g := (gName 3)) (tt := tYes) rfl sc__law_row_web.nd rfl rfl (sw_true rfl rfl rfl (by decide +kernel)) (pi_range1 (by rfl) B.range (pa_cons (pe_op op_add pe_int (pe_c c__law_pick hr (by decide) (by rfl) (pa_cons (pv 0) (pa_cons pe_int pa_nil)))) pa_nil)) (blkOk_by (own := [("_law_k", 3)]) (N := N__law_row_web) (sc := defScope s__law_row_web) (by decide +kernel)) (fun _ _ _ _ _ => (pg_name (i := 3) sc__law_row_web.nd rfl (by first | exact Or.inl rfl | exact Or.inr rfl))) (fun _ _ _ _ _ => pts_nil) (fun _ _ _ _ _ => (pe_c c__law_row hr (by decide) (by rfl) (pa_cons (pv 0) (pa_cons (pv 1) pa_nil)))))
    (pss_cons (ps_set (i := 4) sc__law_row_web.nd rfl (by first | exact Or.inl rfl | exact Or.inr rfl) (pe_lst pa_nil))
    (pss_cons (ps_for PassesOwn.never rfl (pi_range1 (by rfl) B.range (pa_cons (pv 1) pa_nil)) (pg_name (i := 5) sc__law_row_web.nd rfl (by first | exact Or.inl rfl | exact Or.inr rfl))
      (pss_one (ps_for PassesOwn.never rfl (pi_range2 (by rfl) B.range (pa_cons (pe_op op_add (pv 5) pe_int) (pa_cons (pv 1) pa_nil))) (pg_name (i := 6) sc__law_row_web.nd rfl (by first | exact Or.inl rfl | exact Or.inr rfl))
        (pss_cons (ps_setLc (i := 7) (own := [("_law_row_here", 8)]) (g := (gName 8)) (tt := tYes) (te := (tOp _ (tBM K "list" (rIndex K) _ _) (tBM K "list" (rIndex K) _ _))) rfl sc__law_row_web.nd rfl rfl (sw_true rfl rfl rfl (by decide +kernel)) (pi_list (pv 2)) (blkOk_by (own := [("_law_row_here", 8)]) (N := N__law_row_web) (sc := defScope s__law_row_web) (by decide +kernel)) (fun _ _ _ _ _ => (pg_name (i := 8) sc__law_row_web.nd rfl (by first | exact Or.inl rfl | exact Or.inr rfl))) (fun _ _ _ _ _ => pts_nil) (fun _ _ _ _ _ => (pe_cmpR op_lt (pe_bm PySem.F.plainAttrs_list PySem.F.slot_list_index PySem.F.type_list_index mt_index (pv 8) (pa_cons (pv 5) pa_nil)) (pe_bm PySem.F.plainAttrs_list PySem.F.slot_list_index PySem.F.type_list_index mt_index (pv 8) (pa_cons (pv 6) pa_nil)) (nomark _))))
        (pss_one (ps_if (PW.pt (pw_or (pt_val (pe_callB (cr_all rfl) (by rfl) B.all (by decide +kernel) (pa_cons (pv 7) pa_nil))) (pw_or1 (pt_not (pt_val (pe_callB (cr_any rfl) (by rfl) B.any (by decide +kernel) (pa_cons (pv 7) pa_nil))))))) (pss_one (ps_expr (pe_bm PySem.F.plainAttrs_list PySem.F.slot_list_append PySem.F.type_list_append mt_append (pv 4) (pa_cons (pe_tup (pa_cons (pv 5) (pa_cons (pv 6) pa_nil))) pa_nil)))) pss_nil))))))
    (pss_one (ps_ret (pe_tup (pa_cons (pv 1) (pa_cons (pe_callTy call_tuple_of (by rfl) B.tuple (by decide +kernel) (pa_cons (pv 4) pa_nil)) pa_nil)))))))), ?_⟩
    refine ⟨_, rfl, L, _, c, rfl, hL, by decide, by decide, by omega, fun r H1 r0 r1 fr1 lf1 => ?_⟩
    refine ⟨_, _, rfl, rfl, _, rfl, by omega, by omega, fun D nD => ?_⟩
    have nDL : D ≠ L := lf1.ne nD
    refine lc_range (fun i H2 => ∃ vs, Fr L H1 H2 ∧ Lf H2 L (c + 1 + 12 * i) ∧ H2 D = some (.lst vs) ∧ vs.length = i ∧ Rws H2 n L D vs) ⟨[], Fr.new nD, (lf1.new nD).mono (by omega), upd_same, rfl, fun v hv => by cases hv⟩ ?_ ?_
    · rintro i H2 hi ⟨vs, fr2, lf2, eD, hl, hR⟩
      refine ⟨rfl, yes ?_⟩
      refine ⟨_, rfl, _, rfl, ?_⟩
      refine ⟨L, n, _, rfl, lf2, by omega, by omega, fun p ns H3 np fr3 lf3 ep hp => ?_⟩
      have eD3 := fr3 _ _ nDL eD
      refine ⟨vs, eD3, sz' (by omega), vs ++ [.ref p], (fr2.trans fr3).put nD, (lf3.mono (by omega)).put nDL, upd_same, by rw [List.length_append, hl]; rfl, ?_⟩
      intro v hv
      rcases List.mem_append.mp hv with hv | hv
      · obtain ⟨p', ns', e, h1, h2, h3, h4⟩ := hR v hv
        exact ⟨p', ns', e, h1, h2, by rw [upd_ne h2]; exact fr3 _ _ h1 h3, h4⟩
      · rw [List.mem_singleton] at hv
        have npD : p ≠ D := fun e => by rw [e, eD] at np; cases np
        exact ⟨p, ns, hv, lf2.ne np, npD, by rw [upd_ne npD]; exact ep, hp⟩
    · rintro H2 ⟨rows, fr2, lf2, eD, hl, hR⟩
      have lf2' : Lf H2 L (c + 1000) := lf2.mono (by omega)
      have frA : Fr L H H2 := fr1.trans fr2
      refine ⟨Nat.zero_le _, fun o no => ?_⟩
      refine ⟨_, rfl, _, rfl, by omega, by omega, ?_⟩
      refine for_range (fun i σ H3 => ∃ (vs : List V) (sub : List (Int × Int)) (y3 y5 y6 y7 y8 : Option V), σ = [some (.ref L), some (.int (n : Int)), some (.ref D), y3, some (.ref o), y5, y6, y7, y8] ∧ Same H2 H3 ∧ H3 o = some (.lst vs) ∧ Ties H3 vs sub ∧ sub.Sublist (pup n i))
        ⟨[], [], none, none, none, none, none, rfl, same_new no, upd_same, trivial, List.nil_sublist _⟩ ?_ ?_
      · rintro i σ H3 hi ⟨vs, sub, y3, y5, y6, y7, y8, rfl, sm3, eo, hT, hS⟩
        have hi : i < n := by omega
        refine ⟨_, rfl, _, _, rfl, rfl, _, rfl, _, _, rfl, ⟨by omega, by omega, by omega, by omega⟩, ?_⟩
        refine for_range (fun j σ H4 => ∃ (vs : List V) (sub : List (Int × Int)) (y3 y6 y7 y8 : Option V), σ = [some (.ref L), some (.int (n : Int)), some (.ref D), y3, some (.ref o), some (.int (i : Int)), y6, y7, y8] ∧ Same H2 H4 ∧ H4 o = some (.lst vs) ∧ Ties H4 vs sub ∧ sub.Sublist (pup n i ++ prow i j))
          ⟨vs, sub, y3, y6, y7, y8, by rw [Int.zero_add]; rfl, sm3, eo, hT, by exact (List.append_nil (pup n i)).symm ▸ hS⟩ ?_ ?_
        · rintro j σ H4 hj ⟨vs, sub, y3, y6, y7, y8, rfl, sm4, eo4, hT4, hS4⟩
          have hj : j < n - (i + 1) := by omega
          refine ⟨_, rfl, D, rfl, ⟨_, SqL.of (sm4 _ _ eD)⟩, fun D2 nD2 => ?_⟩
          refine lc_list (K := K) (a := D) (xs := rows) (fun m H5 => ∃ bs : List Bool, Same H4 H5 ∧ H5 D2 = some (.lst (bs.map V.bl)) ∧ bs.length = m) ⟨[], same_new nD2, upd_same, rfl⟩ ?_ ?_ ?_
          · rintro m H5 _ ⟨bs, sm5, _⟩
            exact SqL.of (sm5 _ _ (sm4 _ _ eD))
          · rintro m x H5 hx ⟨bs, sm5, eD2, hb⟩
            have hm : m < rows.length := (List.getElem?_eq_some_iff.mp hx).1
            have hxm : x ∈ rows := List.mem_of_getElem? hx
            obtain ⟨p, ns, rfl, h1, h2, h3, h4⟩ := hR x hxm
            have ep := sm5 _ _ (sm4 _ _ h3)
            have ha : (i : Int) ∈ ns := h4.mem_iff.mpr (mem_up.mpr ⟨by omega, by omega⟩)
            have hb2 : (0 + (i : Int) + 1 + (j : Int)) ∈ ns := h4.mem_iff.mpr (mem_up.mpr ⟨by omega, by omega⟩)
            refine ⟨rfl, yes ?_⟩
            refine ⟨_, rfl, .inl ⟨rfl, _, SqL.of ep⟩, _, rfl, ?_⟩
            refine ⟨p, _, _, _, _, rfl, rfl, SqL.of ep, rfl, all_flat ns, idx_at ha, by simp [eqV], idx_first, ?_⟩
            refine ⟨_, rfl, .inl ⟨rfl, _, SqL.of ep⟩, _, rfl, ?_⟩
            refine ⟨p, _, _, _, _, rfl, rfl, SqL.of ep, rfl, all_flat ns, idx_at hb2, by simp [eqV], idx_first, ?_⟩
            refine ⟨_, _, rfl, rfl, ?_⟩
            refine ⟨_, eD2, sz' (by rw [List.length_map, hb]; omega), bs ++ [decide (((ns.idxOf (i : Int) : Nat) : Int) < ((ns.idxOf (0 + (i : Int) + 1 + (j : Int)) : Nat) : Int))], Same.put sm5 nD2, ?_, by rw [List.length_append, hb]; rfl⟩
            rw [upd_same, List.map_append]; rfl
          · rintro H5 ⟨bs, sm5, eD2, hb⟩
            have eo5 := sm5 _ _ eo4
            have sm25 : Same H2 H5 := sm4.trans sm5
            have skip : ∃ (vs : List V) (sub : List (Int × Int)) (z3 z6 z7 z8 : Option V), ((([some (V.ref L), some (.int (n : Int)), some (.ref D), y3, some (.ref o), some (.int (i : Int)), y6, y7, y8]).set 6 (some (.int (0 + (i : Int) + 1 + (j : Int))))).set 7 (some (.ref D2))) = [some (.ref L), some (.int (n : Int)), some (.ref D), z3, some (.ref o), some (.int (i : Int)), z6, z7, z8] ∧ Same H2 H5 ∧ H5 o = some (.lst vs) ∧ Ties H5 vs sub ∧ sub.Sublist (pup n i ++ prow i (j + 1)) :=
              ⟨vs, sub, y3, _, _, y8, rfl, sm25, eo5, hT4.mono (Same.tst sm5), by
                rw [prow_succ, ← List.append_assoc]; exact hS4.trans (List.sublist_append_left _ _)⟩
            have l1 := pup_len' (n := n) (i := i) (by omega) (by omega)
            have l2 := hS4.length_le
            rw [List.length_append, prow_len] at l2
            have take : tDrop (tBM K "list" rAppend (tVar 4) (tCons (tTup (tCons (tVar 5) (tCons (tVar 6) tNil))) tNil)) { nx := fun σ H5 => ∃ (vs : List V) (sub : List (Int × Int)) (y3 y6 y7 y8 : Option V), σ = [some (.ref L), some (.int (n : Int)), some (.ref D), y3, some (.ref o), some (.int (i : Int)), y6, y7, y8] ∧ Same H2 H5 ∧ H5 o = some (.lst vs) ∧ Ties H5 vs sub ∧ sub.Sublist (pup n i ++ prow i (j + 1)), rt := Q } ((([some (V.ref L), some (.int (n : Int)), some (.ref D), y3, some (.ref o), some (.int (i : Int)), y6, y7, y8]).set 6 (some (.int (0 + (i : Int) + 1 + (j : Int))))).set 7 (some (.ref D2))) H5 := by
              refine ⟨_, rfl, .inl ⟨rfl, _, SqL.of eo5⟩, ?_⟩
              refine ⟨_, rfl, _, rfl, by show 2 ≤ sizeLine; decide, fun t nt => ?_⟩
              have eo6 : (upd H5 t (.tup [.int (i : Int), .int (0 + (i : Int) + 1 + (j : Int))])) o = some (.lst vs) := by
                rw [upd_ne (ne_of_none eo5 nt)]; exact eo5
              refine ⟨o, _, _, rfl, rfl, eo6, sz' (by rw [hT4.len]; omega), ?_⟩
              refine ⟨vs ++ [.ref t], sub ++ [((i : Int), (i : Int) + 1 + (j : Int))], y3, _, _, y8, rfl, Same.put (sm25.trans (same_new nt)) no, upd_same, ?_, ?_⟩
              · have a5 := Same.tst sm5
                refine Ties.mono (tst_put eo6) (((hT4.mono a5).mono (tst_new nt)).app (Ties.one ?_))
                rw [Int.zero_add]
                exact Tie.new
              · rw [prow_succ, ← List.append_assoc]; exact hS4.append (List.Sublist.refl _)
            refine ⟨_, rfl, D2, bs, rfl, SqL.of eD2, _, rfl, ite2 (fun e => ?_) (fun e => ?_)⟩
            · exact iteT take
            · refine ⟨_, rfl, D2, bs, rfl, SqL.of eD2, _, rfl, ite2 (fun e => ?_) (fun e => ?_)⟩
              · exact take
              · exact skip
        · rintro σ H4 ⟨vs, sub, y3, y6, y7, y8, rfl, sm4, eo4, hT4, hS4⟩
          have e : ((n : Int) - (0 + (i : Int) + 1)).toNat = n - (i + 1) := by omega
          rw [e, ← pup_succ] at hS4
          exact ⟨vs, sub, y3, _, y6, y7, y8, rfl, sm4, eo4, hT4, hS4⟩
      · rintro σ H3 ⟨vs, sub, y3, y5, y6, y7, y8, rfl, sm3, eo, hT, hS⟩
        rw [Int.toNat_natCast] at hS
        refine ⟨_, rfl, _, rfl, o, vs, rfl, .inl ⟨SqL.of eo, fun t nt => ?_⟩⟩
        refine ⟨by show 2 ≤ sizeLine; decide, fun u nu => ?_⟩
        refine q _ _ sub ?_ ?_ ⟨u, t, vs, rfl, upd_same, ?_, ?_⟩ (wok_sub hS)
        · exact (frA.trans (Fr.of sm3)).trans ((Fr.new nt).trans (Fr.new nu))
        · exact ((((lf2'.same sm3)).mono (by omega)).new nt).new nu
        · rw [upd_ne (ne_of_none upd_same nu)]; exact upd_same
        · exact (hT.mono (tst_new nt)).mono (tst_new nu)
end
end My

set_option Elab.async false
set_option linter.all false
set_option maxRecDepth 100000
namespace My
open PySem PySem.Spec PyProof.Rows L2
section
variable {P : Program} {w : World} {K : PySem.W.Frag} {mg : Str → Option Value} {base : Heap}

/-! ### _law_ring_web -/
abbrev s__law_ring_web : Stmt := topS 21
abbrev N__law_ring_web : List Str := ["_law_left_here", "_law_many", "_law_row_here", "_law_ties", "_law_k", "_law_tie"]
theorem sc__law_ring_web : FnScope N__law_ring_web ["_law_left_here", "_law_many"] (defScope s__law_ring_web) := ⟨rfl, rfl, rfl, by decide +kernel, rfl, by decide +kernel, by decide +kernel⟩
theorem ok_ring_web {f : Addr} {fd : FuncData} (B : Bts mg) (F : Fun K "_law_ring_web" "_law_ring_web" s__law_ring_web f fd) (c__law_pick : Cl P w K mg base 2 "_law_pick" sp_pick) (c__law_row : Cl P w K mg base 3 "_law_row" sp_row) (c__law_pairs : Cl P w K mg base 1 "_law_pairs" sp_pairs) :
    FnOk P w K mg base CX0 4 f fd ["_law_left_here", "_law_many"] sp_gen := by
  refine F.ok sc__law_ring_web (fun vs H Q E h => ?_) (fun cdv A outer s H vs Q E hr h => ?_)
  · obtain ⟨L, n, c, rfl, _⟩ := h; rfl
  · obtain ⟨L, n, c, rfl, hL, hn, hc, q⟩ := h
    refine ⟨_, (pss_cons (ps_set (i := 2) sc__law_ring_web.nd rfl (by first | exact Or.inl rfl | exact Or.inr rfl) (pe_c c__law_row hr (by decide) (by rfl) (pa_cons (pv 0) (pa_cons (pv 1) pa_nil))))
    (pss_cons (ps_set (i := 3) sc__law_ring_web.nd rfl (by first | exact Or.inl rfl | exact Or.inr rfl) (pe_callB cr_sortedPO (by rfl) B.sorted (by decide +kernel) (pa_cons (pe_lc (own := [("_law_k", 4)]) (g := (gName 4)) (tt := tYes) (te := (tCB (rTupK K) (tCons (tCB (rSortedI K) (tCons (tLst (tCons (tOp (rIxL K) _ _) (tCons (tOp (rIxL K) _ _) tNil))) tNil)) tNil))) rfl sc__law_ring_web.nd (pi_range1 (by rfl) B.range (pa_cons (pv 1) pa_nil)) (blkOk_by (own := [("_law_k", 4)]) (N := N__law_ring_web) (sc := defScope s__law_ring_web) (by decide +kernel)) (fun _ _ _ _ _ => (pg_name (i := 4) sc__law_ring_web.nd rfl (by first | exact Or.inl rfl | exact Or.inr rfl))) (fun _ _ _ _ _ => pts_nil) (fun _ _ _ _ _ => (pe_callTy call_tuple_of (by rfl) B.tuple (by decide +kernel) (pa_cons (pe_callB cr_sortedI (by rfl) B.sorted (by decide +kernel) (pa_cons (pe_lst (pa_cons (pe_ix ix_list (pv 2) (pe_op op_sub (pv 4) pe_int) (fun _ _ => rfl)) (pa_cons (pe_ix ix_list (pv 2) (pv 4) (fun _ _ => rfl)) pa_nil))) pa_nil)) pa_nil)))) pa_nil)))
    (pss_cons (ps_if (PW.pt (pw_or (pt_cmpR op_lt (pv 1) pe_int (nomark _)) (pw_or1 (pt_cmpR op_gt (pe_c c__law_pick hr (by decide) (by rfl) (pa_cons (pv 0) (pa_cons pe_int pa_nil))) pe_int (nomark _))))) (pss_one (ps_ret (pe_tup (pa_cons (pv 1) (pa_cons (pe_callTy call_tuple_of (by rfl) B.tuple (by decide +kernel) (pa_cons (pe_callB (cr_sortedT rfl) (by rfl) B.sorted (by decide +kernel) (pa_cons (pe_callTy (cr_setOfT rfl hr.units) (by rfl) B.set (by decide +kernel) (pa_cons (pe_lc (own := [("_law_tie", 5)]) (g := (gName 5)) (tt := (tTest (tOp _ (tOp (rIxT K) _ _) (tOp (rIxT K) _ _)))) rfl sc__law_ring_web.nd (pi_list (pv 3)) (blkOk_by (own := [("_law_tie", 5)]) (N := N__law_ring_web) (sc := defScope s__law_ring_web) (by decide +kernel)) (fun _ _ _ _ _ => (pg_name (i := 5) sc__law_ring_web.nd rfl (by first | exact Or.inl rfl | exact Or.inr rfl))) (fun _ _ _ _ _ => (pts_one (pt_cmpR op_lt (pe_ix ix_tup (pv 5) pe_int (fun _ _ => rfl)) (pe_ix ix_tup (pv 5) pe_int (fun _ _ => rfl)) (nomark _)))) (fun _ _ _ _ _ => (pv 5))) pa_nil)) pa_nil)) pa_nil)) pa_nil))))) pss_nil)
    (pss_one (ps_ret (pe_tup (pa_cons (pv 1) (pa_cons (pe_callTy call_tuple_of (by rfl) B.tuple (by decide +kernel) (pa_cons (pe_lc (own := [("_law_tie", 5)]) (g := (gName 5)) (tt := (tTest (tOp (rNotInD K) _ _))) rfl sc__law_ring_web.nd (pi_list (pe_c c__law_pairs hr (by decide) (by rfl) (pa_cons (pv 1) pa_nil))) (blkOk_by (own := [("_law_tie", 5)]) (N := N__law_ring_web) (sc := defScope s__law_ring_web) (by decide +kernel)) (fun _ _ _ _ _ => (pg_name (i := 5) sc__law_ring_web.nd rfl (by first | exact Or.inl rfl | exact Or.inr rfl))) (fun _ _ _ _ _ => (pts_one (pt_cmpR (op_notInD (u65 hr)) (pv 5) (pv 3) (by rfl)))) (fun _ _ _ _ _ => (pv 5))) pa_nil)) pa_nil)))))))), ?_⟩
    refine ⟨_, rfl, _, rfl, L, n, c, rfl, hL, by omega, by omega, fun rw ns H1 nrw fr1 lf1 erw hp => ?_⟩
    have hnl : ns.length = n := by rw [hp.length_eq, up_len]
    refine ⟨_, rfl, _, rfl, by omega, by omega, fun D nD => ?_⟩
    refine lc_range (fun i H2 => ∃ us ts, Same H1 H2 ∧ H2 D = some (.lst us) ∧ Ties H2 us ts ∧ ts.length = i ∧ ∀ t ∈ ts, 0 ≤ t.1 ∧ t.1 ≤ t.2 ∧ t.2 < (n : Int)) ⟨[], [], same_new nD, upd_same, trivial, rfl, fun _ h => by cases h⟩ ?_ ?_
    · rintro i H2 hi ⟨us, ts, sm2, eD, hT, hl, hb⟩
      have hi : i < n := by omega
      have er2 := sm2 _ _ erw
      obtain ⟨x, ex, mx⟩ := at_mem (ns := ns) (j := 0 + (i : Int) - 1) (by omega) (by omega)
      obtain ⟨y, ey, my⟩ := at_mem (ns := ns) (j := 0 + (i : Int)) (by omega) (by omega)
      have bx := mem_up.mp (hp.mem_iff.mp mx)
      have bY := mem_up.mp (hp.mem_iff.mp my)
      refine ⟨rfl, yes ?_⟩
      refine ⟨_, rfl, _, rfl, _, _, rfl, rfl, rw, _, _, _, rfl, rfl, SqL.of er2, ex, ?_⟩
      refine ⟨_, rfl, _, rfl, rw, _, _, _, rfl, rfl, SqL.of er2, ey, ?_⟩
      refine ⟨by show 2 ≤ sizeLine; decide, fun l nl => ?_⟩
      refine ⟨l, [x, y], rfl, SqL.of upd_same, fun ns' p2 pm srt np2 => ?_⟩
      have e2 := perm2 pm srt
      subst e2
      refine ⟨p2, _, rfl, .inl ⟨SqL.of upd_same, fun t nt => ?_⟩⟩
      have s1 : Same H2 (upd H2 l (.lst [.int x, .int y])) := same_new nl
      have s2 := s1.trans (same_new (o := .lst (([if x ≤ y then x else y, if x ≤ y then y else x]).map V.int)) np2)
      have s3 := s2.trans (same_new (o := .tup (([if x ≤ y then x else y, if x ≤ y then y else x]).map V.int)) nt)
      refine ⟨us, s3 _ _ eD, sz' (by rw [hT.len]; omega), us ++ [.ref t], ts ++ [(if x ≤ y then x else y, if x ≤ y then y else x)], ?_, upd_same, ?_, by rw [List.length_append, hl]; rfl, ?_⟩
      · exact Same.put (sm2.trans s3) nD
      · refine Ties.mono (tst_put (s3 _ _ eD)) ((hT.mono (Same.tst s3)).app (Ties.one ?_))
        exact Tie.new
      · intro t' ht'
        rcases List.mem_append.mp ht' with h | h
        · exact hb t' h
        · rw [List.mem_singleton.mp h]
          dsimp only
          split <;> omega
    · rintro H2 ⟨us, ts, sm2, eD, hT, hl, hb⟩
      rw [Int.toNat_natCast] at hl
      refine ⟨D, us, My.key H2, rfl, SqL.of eD, hT.all, fun ys p hs hst np => ?_⟩
      obtain ⟨ts', hT', pm', _⟩ := srt_ties hs hst.perm hT
      have s3 : Same H2 (upd H2 p (.lst ys)) := same_new np
      have hT3 := hT'.mono (Same.tst s3)
      have ep : (upd H2 p (.lst ys)) p = some (.lst ys) := upd_same
      have hb' : ∀ t ∈ ts', 0 ≤ t.1 ∧ t.1 ≤ t.2 ∧ t.2 < (n : Int) := fun t ht => hb t (pm'.mem_iff.mp ht)
      have hl' : ts'.length = n := by rw [pm'.length_eq, hl]
      have fr3 : Fr L H (upd H2 p (.lst ys)) := fr1.trans ((Fr.of sm2).trans (Fr.of s3))
      have lf3 : Lf (upd H2 p (.lst ys)) L (c + 100) := ((lf1.same sm2).same s3).mono (by omega)
      have npL : p ≠ L := (lf1.same sm2).ne np
      generalize upd H2 p (.lst ys) = H3 at *
      apply two (fun H4 => Fr L H3 H4 ∧ Lf H4 L (c + 200))
      · intro ret
        refine ⟨_, rfl, _, _, rfl, rfl, _, rfl, ite2 (fun e => iteT (ret H3 ⟨Fr.refl _ _, lf3.mono (by omega)⟩)) (fun e => ?_)⟩
        refine ⟨_, rfl, L, _, c + 100, rfl, lf3, by decide, by decide, by omega, fun r H4 r0 r1 fr4 lf4 => ?_⟩
        refine ⟨_, _, rfl, rfl, _, rfl, ite2 (fun e => ret H4 ⟨fr4, lf4.mono (by omega)⟩) (fun e => ?_)⟩
        -- all pairs but those
        have ep4 := fr4 _ _ npL ep
        have hT4 := hT3.mono (lf3.tst fr4)
        refine ⟨_, rfl, ?_⟩
        refine ⟨_, rfl, n, rfl, by omega, fun p5 vs H5 np5 sm5 ep5 hV => ?_⟩
        refine ⟨p5, rfl, ⟨_, SqL.of ep5⟩, fun D5 nD5 => ?_⟩
        refine lc_list (K := K) (a := p5) (xs := vs) (fun i H6 => ∃ us sub, Same H5 H6 ∧ H6 D5 = some (.lst us) ∧ Ties H6 us sub ∧ sub.Sublist ((pup n n).take i)) ⟨[], [], same_new nD5, upd_same, trivial, List.nil_sublist _⟩ ?_ ?_ ?_
        · rintro i H6 hi ⟨us, sub, sm6, _⟩
          exact SqL.of (sm6 _ _ ep5)
        · rintro i x H6 hx ⟨us, sub, sm6, eD6, hU, hsub⟩
          obtain ⟨t, ht, hxt⟩ := hV.at hx
          have l1 := pup_len' (n := n) (i := n) (by omega) (Nat.le_refl n)
          have tk : (pup n n).take (i + 1) = (pup n n).take i ++ [t] := by rw [List.take_add_one, ht]; rfl
          have x6 := hxt.mono (Same.tst sm6)
          have hT6 := hT4.mono (Same.tst (sm5.trans sm6))
          have ep6 := sm6 _ _ (sm5 _ _ ep4)
          refine ⟨rfl, ?_⟩
          refine ⟨_, rfl, _, rfl, dT t, ts'.map dT, x6.dp, .lst (SqL.of ep6) hT6.dp, shaped_dT t, shaped_ties ts', _, rfl, ite2 (fun e => ?_) (fun e => ?_)⟩
          · refine ⟨x, rfl, us, eD6, sz' (by rw [hU.len]; have := hsub.length_le; rw [List.length_take] at this; omega), us ++ [x], sub ++ [t], Same.put sm6 nD5, upd_same, ?_, ?_⟩
            · exact Ties.mono (tst_put eD6) (hU.app (Ties.one x6))
            · rw [tk]; exact hsub.append (List.Sublist.refl _)
          · refine ⟨us, sub, sm6, eD6, hU, ?_⟩
            rw [tk]; exact hsub.trans (List.sublist_append_left _ _)
        · rintro H6 ⟨us, sub, sm6, eD6, hU, hsub⟩
          refine ⟨D5, us, rfl, .inl ⟨SqL.of eD6, fun t nt => ?_⟩⟩
          refine ⟨by show 2 ≤ sizeLine; decide, fun u nu => ?_⟩
          refine q _ _ sub ?_ ?_ ⟨u, t, us, rfl, upd_same, ?_, ?_⟩ ?_
          · exact ((fr3.trans fr4).trans (Fr.of (sm5.trans sm6))).trans ((Fr.new nt).trans (Fr.new nu))
          · exact ((((lf4.same (sm5.trans sm6))).mono (by omega)).new nt).new nu
          · rw [upd_ne (ne_of_none upd_same nu)]; exact upd_same
          · exact (hU.mono (tst_new nt)).mono (tst_new nu)
          · exact wok_sub (hsub.trans (List.take_sublist _ _))
      · rintro H4 ⟨fr4, lf4⟩
        have ep4 := fr4 _ _ npL ep
        have hT4 := hT3.mono (lf3.tst fr4)
        refine ⟨_, rfl, ?_⟩
        refine ⟨_, rfl, p, rfl, ⟨_, SqL.of ep4⟩, fun D5 nD5 => ?_⟩
        refine lc_list (K := K) (a := p) (xs := ys) (fun i H6 => ∃ us sub, Same H4 H6 ∧ H6 D5 = some (.lst us) ∧ Ties H6 us sub ∧ sub.length ≤ i ∧ ∀ t ∈ sub, 0 ≤ t.1 ∧ t.1 < t.2 ∧ t.2 < (n : Int)) ⟨[], [], same_new nD5, upd_same, trivial, Nat.le_refl _, fun _ h => by cases h⟩ ?_ ?_ ?_
        · rintro i H6 hi ⟨us, sub, sm6, _⟩
          exact SqL.of (sm6 _ _ ep4)
        · rintro i x H6 hx ⟨us, sub, sm6, eD6, hU, hsl, hsub⟩
          obtain ⟨t, ht, hxt⟩ := hT4.at hx
          have bt := hb' t (List.mem_of_getElem? ht)
          have hi : i < ys.length := (List.getElem?_eq_some_iff.mp hx).1
          have hyl := hT4.len
          have x6 := hxt.mono (Same.tst sm6)
          obtain ⟨px, rfl, epx⟩ := x6
          refine ⟨rfl, ?_⟩
          refine ⟨_, rfl, px, _, _, _, rfl, rfl, SqT.of epx, rfl, ?_⟩
          refine ⟨_, rfl, px, _, _, _, rfl, rfl, SqT.of epx, rfl, ?_⟩
          refine ⟨_, _, rfl, rfl, _, rfl, ite2 (fun e => ?_) (fun e => ?_)⟩
          · have e := of_decide_eq_true e
            refine ⟨_, rfl, us, eD6, sz' (by rw [hU.len]; omega), us ++ [.ref px], sub ++ [t], Same.put sm6 nD5, upd_same, ?_, ?_, ?_⟩
            · exact Ties.mono (tst_put eD6) (hU.app (Ties.one ⟨px, rfl, epx⟩))
            · rw [List.length_append]; exact Nat.succ_le_succ hsl
            · intro t' h'
              rcases List.mem_append.mp h' with h' | h'
              · exact hsub t' h'
              · rw [List.mem_singleton.mp h']; omega
          · exact ⟨us, sub, sm6, eD6, hU, by omega, hsub⟩
        · rintro H6 ⟨us, sub, sm6, eD6, hU, hsl, hsub⟩
          have hyl := hT4.len
          obtain ⟨ks, e1, e2, e3⟩ := hU.addr
          subst e1
          have kl : ks.length < 64 := by
            have := congrArg List.length e3
            rw [List.length_map] at this
            omega
          refine ⟨D5, ks, rfl, SqL.of eD6, fun p hp => SqT.of (e2 p hp).1, kl, fun a S na hS1 hS2 => ?_⟩
          have s7 : Same H6 (upd H6 a (SetTO P w a S)) := same_new na
          refine ⟨a, S, 2, 64, rfl, upd_same, fun p hp => SqT.of (s7 _ _ (e2 p (hS1 p hp)).1), by decide, fun p hp => ?_, fun L' p8 pm nd lt64 cd np8 => ?_⟩
          · obtain ⟨_, t, ht, et⟩ := e2 p (hS1 p hp)
            have := hsub t ht
            rw [et]
            refine ⟨rfl, fun m hm => ?_⟩
            simp only [List.mem_cons, List.not_mem_nil, or_false] at hm
            omega
          · have s8 := s7.trans (same_new (o := .lst (L'.map fun (q : Addr × List Int) => V.ref q.1)) np8)
            have hk : ∀ p ∈ L', p ∈ ks := fun p hp => hS1 p (pm.mem_iff.mp hp)
            refine ⟨p8, _, rfl, .inl ⟨SqL.of upd_same, fun t nt => ?_⟩⟩
            refine ⟨by show 2 ≤ sizeLine; decide, fun u nu => ?_⟩
            have s9 := (s8.trans (same_new (o := .tup (L'.map fun (q : Addr × List Int) => V.ref q.1)) nt)).trans (same_new (o := .tup [.int (n : Int), .ref t]) nu)
            refine q _ _ (L'.map prT) ?_ ?_ ⟨u, t, L'.map fun (q : Addr × List Int) => V.ref q.1, rfl, upd_same, ?_, ?_⟩ ⟨?_, ?_⟩
            · exact (fr3.trans fr4).trans (Fr.of (sm6.trans s9))
            · exact (lf4.mono (by omega)).same (sm6.trans s9)
            · rw [upd_ne (ne_of_none upd_same nu)]; exact upd_same
            · refine ties_addr fun p hp => ?_
              obtain ⟨g1, t', _, g3⟩ := e2 p (hk p hp)
              exact ⟨s9 _ _ g1, t', g3⟩
            · rw [List.pairwise_map]
              rw [List.nodup_iff_pairwise_ne, List.pairwise_map] at nd
              refine (cd.and nd).imp_of_mem fun {x y} hx hy h => ?_
              obtain ⟨_, t1, m1, g1⟩ := e2 x (hk x hx)
              obtain ⟨_, t2, m2, g2⟩ := e2 y (hk y hy)
              have b1 := hsub t1 m1
              have b2 := hsub t2 m2
              unfold prT
              rw [g1, g2] at h ⊢
              show ltT (t1.1, t1.2) (t2.1, t2.2)
              exact pair_lt h.1 h.2 (by omega) (by omega) (by omega) (by omega)
            · intro t' h'
              obtain ⟨x, hx, rfl⟩ := List.mem_map.mp h'
              obtain ⟨_, t1, m1, g1⟩ := e2 x (hk x hx)
              have b1 := hsub t1 m1
              unfold prT
              rw [g1]
              exact b1
end
end My

set_option Elab.async false
set_option linter.all false
set_option maxRecDepth 100000
namespace My
open PySem PySem.Spec PyProof.Rows L2

/-! ### heaps: all stays but what stands at some places -/
def FrM (M : List Addr) (H H' : Hp) : Prop := ∀ b o, b ∉ M → H b = some o → H' b = some o
theorem FrM.refl (M : List Addr) (H : Hp) : FrM M H H := fun _ _ _ h => h
theorem FrM.trans {M : List Addr} {H H1 H2 : Hp} (a : FrM M H H1) (b : FrM M H1 H2) : FrM M H H2 := fun c o n h => b c o n (a c o n h)
theorem FrM.same {M : List Addr} {H H' : Hp} (a : Same H H') : FrM M H H' := fun b o _ h => a b o h
theorem FrM.wk {M N : List Addr} {H H' : Hp} (a : FrM M H H') (h : ∀ x ∈ M, x ∈ N) : FrM N H H' := fun b o n e => a b o (fun m => n (h b m)) e
theorem FrM.put {M : List Addr} {H H' : Hp} {p : Addr} {o : HO} (a : FrM M H H') (h : p ∈ M) : FrM M H (upd H' p o) := fun b x n e => by
  rw [upd_ne (fun z => n (by rw [z]; exact h))]; exact a b x n e
theorem FrM.putN {M : List Addr} {H H' : Hp} {p : Addr} {o : HO} (a : FrM M H H') (h : H p = none) : FrM M H (upd H' p o) := fun b x n e => by
  rw [upd_ne (ne_of_none e h)]; exact a b x n e
theorem FrM.tst {M : List Addr} {H H' : Hp} (a : FrM M H H') (h : ∀ x ∈ M, ∃ xs, H x = some (.lst xs)) : Tst H H' := fun b xs e => by
  refine a b _ (fun m => ?_) e
  obtain ⟨ys, z⟩ := h b m
  rw [z] at e; cases e
theorem Fr.m {L : Addr} {M : List Addr} {H H' : Hp} (a : Fr L H H') (h : L ∈ M) : FrM M H H' := fun b o n e => a b o (fun z => n (by rw [z]; exact h)) e

/-- a list of numbers that stands at none of some places -/
def Gp (M : List Addr) (H : Hp) (v : V) (g : List Int) : Prop := ∃ p, v = .ref p ∧ p ∉ M ∧ H p = some (.lst (g.map V.int))
theorem Gp.mono {M N : List Addr} {H H' : Hp} {v : V} {g : List Int} (h : Gp M H v g) (a : FrM M H H') (s : ∀ x ∈ N, x ∈ M) : Gp N H' v g := by
  obtain ⟨p, e, n, h⟩ := h
  exact ⟨p, e, fun m => n (s p m), a p _ n h⟩
theorem Gp.new {M : List Addr} {H : Hp} {v : V} {g : List Int} {D : Addr} {o : HO} (h : Gp M H v g) (nD : H D = none) : Gp (D :: M) (upd H D o) v g := by
  obtain ⟨p, e, n, h⟩ := h
  have ne := ne_of_none h nD
  refine ⟨p, e, fun m => ?_, by rw [upd_ne ne]; exact h⟩
  rcases List.mem_cons.mp m with m | m
  · exact ne m
  · exact n m
theorem ixN_in {n : Nat} {i : Int} (h0 : 0 ≤ i) (h1 : i < n) : ixN n i = some i.toNat := by unfold ixN; rw [if_pos h0, if_pos h1]

section
variable {P : Program} {w : World} {K : PySem.W.Frag} {mg : Str → Option Value} {base : Heap}

/-! ### _law_put_together -/
abbrev s__law_put_together : Stmt := topS 22
abbrev N__law_put_together : List Str := ["_law_left_here", "_law_many", "_law_groups", "_law_p", "_law_ties", "_law_some", "_law_k", "_law_way", "_law_one", "_law_j", "_law_a", "_law_b", "_law_whole"]
theorem sc__law_put_together : FnScope N__law_put_together ["_law_left_here", "_law_many"] (defScope s__law_put_together) := ⟨rfl, rfl, rfl, by decide +kernel, rfl, by decide +kernel, by decide +kernel⟩
def cdb (way : Int) (k j : Nat) : Bool := decide (way < 2) || (decide (way = 2) && decide ((k : Int) - j = 1))
theorem cd_read {σ : L2.St} {H : Hp} {Q : VK} {way : Int} {k j : Nat} (h7 : σ[7]? = some (some (.int way))) (h6 : σ[6]? = some (some (.int (k : Int)))) (h9 : σ[9]? = some (some (.int (0 + (j : Int)))))
    (q : Q (.bl (cdb way k j)) H) : tOrV (tOp (rI0 fun i j => .bl (decide (i < j))) (tVar 7) (tC (.int 2))) (tAndV (tOp rEq (tVar 7) (tC (.int 2))) (tOp rEq (tOp (rI0 fun i j => .int (i - j)) (tVar 6) (tVar 9)) (tC (.int 1)))) σ H Q := by
  unfold cdb at q
  refine ⟨_, h7, _, _, rfl, rfl, _, rfl, ite2 (fun e => ?_) (fun e => ?_)⟩
  · have e := of_decide_eq_true e
    rw [decide_eq_true e, Bool.true_or] at q
    exact q
  · have e' : ¬ way < 2 := fun z => e (decide_eq_true z)
    rw [decide_eq_false e', Bool.false_or] at q
    refine ⟨_, h7, rfl, _, rfl, ite2 (fun e => ?_) (fun e => ?_)⟩
    · have e := V.int.inj (of_decide_eq_true e)
      rw [decide_eq_true e, Bool.true_and] at q
      refine ⟨_, h6, _, h9, _, _, rfl, rfl, rfl, ?_⟩
      have z : decide (V.int ((k : Int) - (0 + (j : Int))) = V.int 1) = decide ((k : Int) - (j : Int) = 1) := by
        rw [Int.zero_add]
        exact decide_eq_decide.mpr ⟨fun h => V.int.inj h, fun h => congrArg V.int h⟩
      rw [z]
      exact q
    · have e' : ¬ way = 2 := fun z => e (decide_eq_true (congrArg V.int z))
      rw [decide_eq_false e', Bool.false_and] at q
      exact q
theorem rep_b (b : Bool) (g : List Int) : (List.replicate (if b = true then (1 : Int) else 0).toNat (g.map V.int)).flatten = (if b = true then g else []).map V.int := by
  cases b
  · rfl
  · show (List.replicate 1 (g.map V.int)).flatten = _
    simp

theorem ok_put_together {f : Addr} {fd : FuncData} (B : Bts mg) (F : Fun K "_law_put_together" "_law_put_together" s__law_put_together f fd) (c__law_pick : Cl P w K mg base 2 "_law_pick" sp_pick) (c__law_row : Cl P w K mg base 3 "_law_row" sp_row) :
    FnOk P w K mg base CX0 4 f fd ["_law_left_here", "_law_many"] sp_gen := by
  refine F.ok sc__law_put_together (fun vs H Q E h => ?_) (fun cdv A outer s H vs Q E hr h => ?_)
  · obtain ⟨L, n, c, rfl, _⟩ := h; rfl
  · obtain ⟨L, n, c, rfl, hL, hn, hc, q⟩ := h
    refine ⟨_, (pss_cons (ps_set (i := 2) sc__law_put_together.nd rfl (by first | exact Or.inl rfl | exact Or.inr rfl) (pe_lc (own := [("_law_p", 3)]) (g := (gName 3)) (tt := tYes) rfl sc__law_put_together.nd (pi_list (pe_c c__law_row hr (by decide) (by rfl) (pa_cons (pv 0) (pa_cons (pv 1) pa_nil)))) (blkOk_by (own := [("_law_p", 3)]) (N := N__law_put_together) (sc := defScope s__law_put_together) (by decide +kernel)) (fun _ _ _ _ _ => (pg_name (i := 3) sc__law_put_together.nd rfl (by first | exact Or.inl rfl | exact Or.inr rfl))) (fun _ _ _ _ _ => pts_nil) (fun _ _ _ _ _ => (pe_lst (pa_cons (pv 3) pa_nil)))))
    (pss_cons (ps_set (i := 4) sc__law_put_together.nd rfl (by first | exact Or.inl rfl | exact Or.inr rfl) (pe_lst pa_nil))
    (pss_cons (ps_while PassesOwn.never (pt_cmpR op_gt (pe_callB call_len_seq (by rfl) B.len (by decide +kernel) (pa_cons (pv 2) pa_nil)) pe_int (nomark _))
      (pss_cons (ps_setLc (i := 5) (own := [("_law_k", 6)]) (g := (gName 6)) (tt := tYes) (te := (tBM K "list" rPopAt _ (tCons (tCall _ _ _ (tCons _ (tCons (tCB (rLenK K) _) tNil))) tNil))) rfl sc__law_put_together.nd rfl rfl (sw_true rfl rfl rfl (by decide +kernel)) (pi_range1 (by rfl) B.range (pa_cons (pe_callB (call_min2 rfl) (by rfl) B.min (by decide +kernel) (pa_cons (pe_callB call_len_seq (by rfl) B.len (by decide +kernel) (pa_cons (pv 2) pa_nil)) (pa_cons (pe_op op_add pe_int (pe_c c__law_pick hr (by decide) (by rfl) (pa_cons (pv 0) (pa_cons pe_int pa_nil)))) pa_nil))) pa_nil)) (blkOk_by (own := [("_law_k", 6)]) (N := N__law_put_together) (sc := defScope s__law_put_together) (by decide +kernel)) (fun _ _ _ _ _ => (pg_name (i := 6) sc__law_put_together.nd rfl (by first | exact Or.inl rfl | exact Or.inr rfl))) (fun _ _ _ _ _ => pts_nil) (fun _ _ _ _ _ => (pe_bm PySem.F.plainAttrs_list PySem.F.slot_list_pop PySem.F.type_list_pop mt_popAt (pv 2) (pa_cons (pe_c c__law_pick hr (by decide) (by rfl) (pa_cons (pv 0) (pa_cons (pe_callB call_len_seq (by rfl) B.len (by decide +kernel) (pa_cons (pv 2) pa_nil)) pa_nil))) pa_nil))))
      (pss_cons (ps_set (i := 7) sc__law_put_together.nd rfl (by first | exact Or.inl rfl | exact Or.inr rfl) (pe_c c__law_pick hr (by decide) (by rfl) (pa_cons (pv 0) (pa_cons pe_int pa_nil))))
      (pss_cons (ps_for PassesOwn.never rfl (pi_enum (by rfl) B.enumerate (pa_cons (pv 5) pa_nil)) (pg_tup rfl (pgs_cons (pg_name (i := 6) sc__law_put_together.nd rfl (by first | exact Or.inl rfl | exact Or.inr rfl)) (pgs_cons (pg_name (i := 8) sc__law_put_together.nd rfl (by first | exact Or.inl rfl | exact Or.inr rfl)) pgs_nil)))
        (pss_one (ps_for PassesOwn.never rfl (pi_range1 (by rfl) B.range (pa_cons (pv 6) pa_nil)) (pg_name (i := 9) sc__law_put_together.nd rfl (by first | exact Or.inl rfl | exact Or.inr rfl))
          (pss_one (ps_for PassesOwn.never rfl (pi_list (pe_op op_rep (pv 8) (pe_callTy call_int1 (by rfl) B.int (by decide +kernel) (pa_cons (pe_or (pe_cmpR op_lt (pv 7) pe_int (nomark _)) (pe_one (pe_and (pe_cmpR op_eq (pv 7) pe_int (nomark _)) (pe_one (pe_cmpR op_eq (pe_op op_sub (pv 6) (pv 9)) pe_int (nomark _)))))) pa_nil)))) (pg_name (i := 10) sc__law_put_together.nd rfl (by first | exact Or.inl rfl | exact Or.inr rfl))
            (pss_one (ps_expr (pe_bm PySem.F.plainAttrs_list PySem.F.slot_list_extend PySem.F.type_list_extend mt_extend (pv 4) (pa_cons (pe_lc (own := [("_law_b", 11)]) (g := (gName 11)) (tt := tYes) (te := (tCB (rTupK K) (tCons (tCB (rSortedI K) _) tNil))) rfl sc__law_put_together.nd (pi_list (pe_ix ix_list (pv 5) (pv 9) (fun _ _ => rfl))) (blkOk_by (own := [("_law_b", 11)]) (N := N__law_put_together) (sc := defScope s__law_put_together) (by decide +kernel)) (fun _ _ _ _ _ => (pg_name (i := 11) sc__law_put_together.nd rfl (by first | exact Or.inl rfl | exact Or.inr rfl))) (fun _ _ _ _ _ => pts_nil) (fun _ _ _ _ _ => (pe_callTy call_tuple_of (by rfl) B.tuple (by decide +kernel) (pa_cons (pe_callB cr_sortedI (by rfl) B.sorted (by decide +kernel) (pa_cons (pe_lst (pa_cons (pv 10) (pa_cons (pv 11) pa_nil))) pa_nil)) pa_nil)))) pa_nil)))))))))
      (pss_cons (ps_set (i := 12) sc__law_put_together.nd rfl (by first | exact Or.inl rfl | exact Or.inr rfl) (pe_lst pa_nil))
      (pss_cons (ps_for PassesOwn.never rfl (pi_list (pv 5)) (pg_name (i := 8) sc__law_put_together.nd rfl (by first | exact Or.inl rfl | exact Or.inr rfl))
        (pss_one (ps_expr (pe_bm PySem.F.plainAttrs_list PySem.F.slot_list_extend PySem.F.type_list_extend mt_extend (pv 12) (pa_cons (pv 8) pa_nil)))))
      (pss_one (ps_expr (pe_bm PySem.F.plainAttrs_list PySem.F.slot_list_append PySem.F.type_list_append mt_append (pv 2) (pa_cons (pv 12) pa_nil))))))))))
    (pss_one (ps_ret (pe_tup (pa_cons (pv 1) (pa_cons (pe_callTy call_tuple_of (by rfl) B.tuple (by decide +kernel) (pa_cons (pe_callB cr_sortedPO (by rfl) B.sorted (by decide +kernel) (pa_cons (pv 4) pa_nil)) pa_nil)) pa_nil)))))))), ?_⟩
    -- groups = [[p] for p in row]
    refine ⟨_, rfl, _, rfl, L, n, c, rfl, hL, by omega, by omega, fun rw ns H1 nrw fr1 lf1 erw hp => ?_⟩
    have hnl : ns.length = n := by rw [hp.length_eq, up_len]
    have nrwL : rw ≠ L := hL.ne nrw
    refine ⟨rw, rfl, ⟨_, SqL.of erw⟩, fun G nG => ?_⟩
    have nGL : G ≠ L := lf1.ne nG
    refine lc_list (K := K) (a := rw) (xs := ns.map V.int) (fun i H2 => ∃ vs, Same H1 H2 ∧ H2 G = some (.lst vs) ∧ All2 (Gp [L, G] H2) vs ((ns.take i).map fun x => [x])) ⟨[], same_new nG, upd_same, by exact trivial⟩ ?_ ?_ ?_
    · rintro i H2 _ ⟨vs, sm, _⟩
      exact SqL.of (sm _ _ erw)
    · rintro i x H2 hx ⟨vs, sm, eG, hV⟩
      have hil : i < ns.length := by
        have := (List.getElem?_eq_some_iff.mp hx).1
        rw [List.length_map] at this; exact this
      have ex : x = .int ns[i] := by
        rw [List.getElem?_map, List.getElem?_eq_getElem hil] at hx
        cases hx; rfl
      subst ex
      refine ⟨rfl, yes ?_⟩
      refine ⟨_, rfl, by show 1 ≤ sizeLine; decide, fun t nt => ?_⟩
      have nGt : G ≠ t := ne_of_none eG nt
      have tL : t ≠ L := (lf1.same sm).ne nt
      have eG2 : (upd H2 t (.lst [.int ns[i]])) G = some (.lst vs) := by rw [upd_ne nGt]; exact eG
      refine ⟨vs, eG2, sz' (by rw [hV.len, List.length_map, List.length_take]; omega), vs ++ [.ref t], Same.put (sm.trans (same_new nt)) nG, upd_same, ?_⟩
      rw [List.take_add_one, List.getElem?_eq_getElem hil]
      show All2 _ _ (((ns.take i) ++ [ns[i]]).map fun x => [x])
      rw [List.map_append]
      refine All2.app (hV.imp fun v g h => (h.mono (FrM.same (same_new nt)) (fun x hx => hx)).mono (FrM.put (FrM.refl _ _) (by simp)) (fun x hx => hx)) ⟨⟨t, rfl, by simp [tL, nGt.symm], ?_⟩, trivial⟩
      rw [upd_ne nGt.symm, upd_same]; rfl
    · rintro H2 ⟨vs0, sm2, eG, hV0⟩
      rw [List.length_map, List.take_length] at hV0
      have lf2 := lf1.same sm2
      -- ties = []
      refine ⟨Nat.zero_le _, fun O nO => ?_⟩
      have nGO : G ≠ O := ne_of_none eG nO
      have nOL : O ≠ L := lf2.ne nO
      have frH2 : Fr L H H2 := fr1.trans (Fr.of sm2)
      have HG : H G = none := Lf.free fr1 lf1 nG
      have HO' : H O = none := Lf.free frH2 lf2 nO
      have memL : L ∈ [L, G, O] := by simp
      have memG : G ∈ [L, G, O] := by simp
      have memO : O ∈ [L, G, O] := by simp
      -- the while
      refine while_by (fun σ H3 => ∃ (vs : List V) (gs : List (List Int)) (us : List V) (ts : List (Int × Int)) (y3 y5 y6 y7 y8 y9 y10 y11 y12 : Option V), σ = [some (.ref L), some (.int (n : Int)), some (.ref G), y3, some (.ref O), y5, y6, y7, y8, y9, y10, y11, y12] ∧
          Fr L H H3 ∧ Lf H3 L (c + 200 - 6 * gs.length) ∧ H3 G = some (.lst vs) ∧ All2 (Gp [L, G, O] H3) vs gs ∧ H3 O = some (.lst us) ∧ Ties H3 us ts ∧ PInv n gs ts ∧ gs.length ≤ 12)
        (fun _ H3 => match H3 G with | some (.lst vs) => vs.length | _ => 0) ?_ ?_ ?_
      · refine ⟨vs0, ns.map fun x => [x], [], [], none, none, none, none, none, none, none, none, none, rfl, frH2.trans (Fr.new nO), ?_, ?_, ?_, upd_same, trivial, ⟨?_, List.nodup_nil, (fun _ h => by cases h), (fun _ h => by cases h)⟩, ?_⟩
        · rw [List.length_map, hnl]; exact (lf2.new nO).mono (by omega)
        · rw [upd_ne nGO]; exact eG
        · refine hV0.imp fun v g h => (h.new nO).mono (FrM.refl _ _) (fun x hx => ?_)
          simp only [List.mem_cons, List.not_mem_nil, or_false] at hx ⊢
          rcases hx with h | h | h
          · exact .inr (.inl h)
          · exact .inr (.inr h)
          · exact .inl h
        · rw [flat_one]; exact hp
        · rw [List.length_map, hnl]; exact hn
      · rintro σ H3 ⟨vs, gs, us, ts, y3, y5, y6, y7, y8, y9, y10, y11, y12, rfl, fr3, lf3, eG3, hV, eO3, hT, hI, hg12⟩
        have hvl := hV.len
        have lts := hI.len (by omega)
        refine ⟨_, rfl, G, vs, rfl, .inl (SqL.of eG3), _, _, rfl, rfl, _, rfl, ite2 (fun e => ?_) (fun e => ?_)⟩
        · have hlen : 1 < vs.length := by have := of_decide_eq_true e; omega
          -- how many
          refine ⟨_, rfl, G, vs, rfl, .inl (SqL.of eG3), ?_⟩
          refine ⟨_, rfl, L, _, _, rfl, lf3, by decide, by decide, by omega, fun r0 Ha ra rb fra lfa => ?_⟩
          refine ⟨_, _, rfl, rfl, _, _, rfl, ?_⟩
          have hm : ∃ m : Nat, (if 2 + r0 < (vs.length : Int) then 2 + r0 else (vs.length : Int)) = (m : Int) ∧ 2 ≤ m ∧ m ≤ 4 ∧ m ≤ vs.length := by
            by_cases z : 2 + r0 < (vs.length : Int)
            · rw [if_pos z]; exact ⟨(2 + r0).toNat, by omega, by omega, by omega, by omega⟩
            · rw [if_neg z]; exact ⟨vs.length, rfl, by omega, by omega, Nat.le_refl _⟩
          obtain ⟨m, em, m2, m4, mv⟩ := hm
          rw [em]
          refine ⟨_, rfl, by omega, by omega, fun D nD => ?_⟩
          have eGa := fra _ _ nGL eG3
          have eOa := fra _ _ nOL eO3
          have nGD : G ≠ D := ne_of_none eGa nD
          have nOD : O ≠ D := ne_of_none eOa nD
          have nDL : D ≠ L := lfa.ne nD
          have hVa : All2 (Gp [L, G, O] Ha) vs gs := hV.imp fun v g h => h.mono (fra.m memL) fun x hx => hx
          have hTa : Ties Ha us ts := hT.mono (lf3.tst fra)
          refine lc_range (fun i Hb => ∃ (vs' : List V) (gs' : List (List Int)) (ss : List V) (sg : List (List Int)), FrM [L, G, D] Ha Hb ∧ Lf Hb L (c + 200 - 6 * gs.length + 1 + i) ∧ Hb G = some (.lst vs') ∧ Hb D = some (.lst ss) ∧ All2 (Gp [D, L, G, O] Hb) vs' gs' ∧ All2 (Gp [D, L, G, O] Hb) ss sg ∧ gs.Perm (sg ++ gs') ∧ sg.length = i)
            ⟨vs, gs, [], [], (FrM.refl _ _).putN nD, (lfa.new nD).mono (by omega), by rw [upd_ne nGD]; exact eGa, upd_same, hVa.imp fun v g h => h.new nD, trivial, .refl _, rfl⟩ ?_ ?_
          · rintro i Hb hi ⟨vs', gs', ss, sg, frb, lfb, eGb, eDb, hVb, hSb, pm, hsl⟩
            have hi : i < m := by omega
            have l1 := hVb.len
            have l2 := hSb.len
            have l3 := pm.length_eq
            rw [List.length_append] at l3
            refine ⟨rfl, yes ?_⟩
            refine ⟨_, rfl, .inl ⟨rfl, _, SqL.of eGb⟩, ?_⟩
            refine ⟨_, rfl, _, rfl, G, vs', rfl, .inl (SqL.of eGb), ?_⟩
            refine ⟨L, _, _, rfl, lfb, by omega, by omega, by omega, fun r Hc rc0 rc1 frc lfc => ?_⟩
            have eGc := frc _ _ nGL eGb
            have eDc := frc _ _ nDL eDb
            have hk : r.toNat < vs'.length := by omega
            have hk2 : r.toNat < gs'.length := by omega
            obtain ⟨g, eg, hg⟩ := hVb.at (List.getElem?_eq_getElem hk)
            have eg' : gs'[r.toNat] = g := by rw [List.getElem?_eq_getElem hk2] at eg; cases eg; rfl
            refine ⟨G, vs', r, r.toNat, vs'[r.toNat], rfl, rfl, eGc, by omega, by omega, (ixN_seq (ixN_in rc0 rc1)).1, List.getElem?_eq_getElem hk, ?_⟩
            have eDd : (upd Hc G (.lst (vs'.eraseIdx r.toNat))) D = some (.lst ss) := by rw [upd_ne nGD.symm]; exact eDc
            have frd : FrM [D, L, G, O] Hb (upd (upd Hc G (.lst (vs'.eraseIdx r.toNat))) D (.lst (ss ++ [vs'[r.toNat]]))) := ((frc.m (by simp)).put (by simp)).put (by simp)
            refine ⟨ss, eDd, sz' (by omega), vs'.eraseIdx r.toNat, gs'.eraseIdx r.toNat, ss ++ [vs'[r.toNat]], sg ++ [g], ?_, ?_, ?_, upd_same, ?_, ?_, ?_, ?_⟩
            · exact ((frb.trans (frc.m (by simp))).put (by simp)).put (by simp)
            · exact ((lfc.mono (by omega)).put nGL).put nDL
            · rw [upd_ne nGD, upd_same]
            · exact (hVb.imp fun v g h => h.mono frd fun x hx => hx).erase _
            · exact (hSb.imp fun v g h => h.mono frd fun x hx => hx).app ⟨hg.mono frd fun x hx => hx, trivial⟩
            · refine pm.trans ?_
              rw [List.append_assoc]
              refine List.Perm.append_left _ ?_
              have := erase_perm hk2
              rw [eg'] at this
              exact this.symm
            · rw [List.length_append, hsl]; rfl
          · rintro Hb ⟨vs', gs', ss, sg, frb, lfb, eGb, eDb, hVb, hSb, pm, hsl⟩
            rw [Int.toNat_natCast] at hsl lfb
            have l1 := hVb.len
            have l2 := hSb.len
            have l3 := pm.length_eq
            rw [List.length_append] at l3
            have eOb : Hb O = some (.lst us) := frb _ _ (by simp [nOL, nGO.symm, nOD]) eOa
            obtain ⟨xa, ya, za, eLa, _⟩ := id lfa
            have tab : Tst Ha Hb := fun b xs e => by
              refine frb b _ (fun mm => ?_) e
              simp only [List.mem_cons, List.not_mem_nil, or_false] at mm
              rcases mm with z | z | z
              · rw [z, eLa] at e; cases e
              · rw [z, eGa] at e; cases e
              · rw [z, nD] at e; cases e
            have hTb : Ties Hb us ts := hTa.mono tab
            have frHb : Fr L H Hb := fun b o nb e => by
              have e3 := fra b o nb (fr3 b o nb e)
              refine frb b o (fun mm => ?_) e3
              simp only [List.mem_cons, List.not_mem_nil, or_false] at mm
              rcases mm with z | z | z
              · exact nb z
              · rw [z, HG] at e; cases e
              · rw [z, nD] at e3; cases e3
            have HD : H D = none := by
              cases z : H D with
              | none => rfl
              | some o => rw [fra D o nDL (fr3 D o nDL z)] at nD; cases nD
            -- way
            refine ⟨_, rfl, L, _, _, rfl, lfb, by decide, by decide, by omega, fun way Hc wa wb frc lfc => ?_⟩
            have eGc := frc _ _ nGL eGb
            have eDc := frc _ _ nDL eDb
            have eOc := frc _ _ nOL eOb
            have hVc : All2 (Gp [D, L, G, O] Hc) vs' gs' := hVb.imp fun v g h => h.mono (frc.m (by simp)) fun x hx => hx
            have hSc : All2 (Gp [D, L, G, O] Hc) ss sg := hSb.imp fun v g h => h.mono (frc.m (by simp)) fun x hx => hx
            have hTc : Ties Hc us ts := hTb.mono (lfb.tst frc)
            have frHc : Fr L H Hc := frHb.trans frc
            have pf : (sg ++ gs').flatten.Perm (up n) := pm.flatten.symm.trans hI.fl
            have gl : ∀ i, (sg.getD i []).length ≤ 12 := fun i => Nat.le_trans (grp_len pf i) hn
            -- for k, one in enumerate(some)
            refine ⟨_, rfl, D, ss, rfl, SqL.of eDc, ?_⟩
            refine for_it (walk_enum (K := K) (a := D) (xs := ss)) (fun k σ H4 => ∃ (us4 : List V) (y6 y8 y9 y10 y11 y12 : Option V), σ = [some (.ref L), some (.int (n : Int)), some (.ref G), y3, some (.ref O), some (.ref D), y6, some (.int way), y8, y9, y10, y11, y12] ∧ FrM [O] Hc H4 ∧ H4 O = some (.lst us4) ∧ Ties H4 us4 (ts ++ news sg (cdb way) k))
              ⟨us, y6, y8, y9, y10, y11, y12, rfl, FrM.refl _ _, eOc, by exact (List.append_nil ts).symm ▸ hTc⟩ ?_ ?_ ?_
            · rintro k σ H4 _ ⟨us4, _, _, _, _, _, _, _, fr4, _⟩
              exact SqL.of (fr4 _ _ (by simp [nOD.symm]) eDc)
            · rintro k x σ H4 H4' hk ⟨us4, y6, y8, y9, y10, y11, y12, rfl, fr4, eO4, hT4⟩ ⟨T, x1, x2, rfl, nT, rfl, ex1, ex2⟩
              cases ex1
              obtain ⟨gk, egk, hgk⟩ := hSc.at ex2
              have hk5 : k < 4 := by omega
              have gdk : sg.getD k [] = gk := by rw [List.getD_eq_getElem?_getD, egk]; rfl
              have ln1 := news_len (cd := cdb way) gl k (by omega)
              refine ⟨T, _, rfl, SqT.of upd_same, rfl, _, _, rfl, _, _, rfl, rfl, ?_⟩
              -- for j in range(k)
              refine ⟨_, rfl, _, rfl, by omega, by omega, ?_⟩
              refine for_range (fun j σ H5 => ∃ (us5 : List V) (y9 y10 y11 y12 : Option V), σ = [some (.ref L), some (.int (n : Int)), some (.ref G), y3, some (.ref O), some (.ref D), some (.int (k : Int)), some (.int way), some x2, y9, y10, y11, y12] ∧ FrM [O] Hc H5 ∧ H5 O = some (.lst us5) ∧ Ties H5 us5 (ts ++ news sg (cdb way) k ++ newK sg (cdb way) k j))
                ⟨us4, y9, y10, y11, y12, rfl, fr4.trans (FrM.same (same_new nT)), by rw [upd_ne (ne_of_none eO4 nT)]; exact eO4, by exact (List.append_nil (ts ++ news sg (cdb way) k)).symm ▸ (hT4.mono (tst_new nT))⟩ ?_ ?_
              · rintro j σ H5 hj ⟨us5, y9, y10, y11, y12, rfl, fr5, eO5, hT5⟩
                have hj : j < k := by omega
                have ln2 := newK_len (cd := cdb way) (k := k) gl j
                obtain ⟨pk, rfl, npk, epk⟩ := hgk
                have epk5 := fr5 _ _ (fun z => npk (by simp at z; simp [z])) epk
                have hjs : j < ss.length := by omega
                obtain ⟨gj, egj, hgj⟩ := hSc.at (List.getElem?_eq_getElem hjs)
                have gdj : sg.getD j [] = gj := by rw [List.getD_eq_getElem?_getD, egj]; rfl
                -- for a in one * int(..)
                refine ⟨_, rfl, cd_read rfl rfl rfl (.inr ⟨_, rfl, ?_⟩)⟩
                have gkl : gk.length ≤ 12 := by rw [← gdk]; exact gl k
                have gjl : gj.length ≤ 12 := by rw [← gdj]; exact gl j
                refine ⟨pk, _, _, rfl, rfl, epk5, by have := (bi (cdb way k j)).2.2; omega, by have := (bi (cdb way k j)).2.1; omega, ?_, fun pr npr => ?_⟩
                · rw [List.length_map]
                  have : (if cdb way k j = true then (1 : Int) else 0).toNat ≤ 1 := by cases cdb way k j <;> decide
                  exact sz (Nat.le_trans (Nat.mul_le_mul gkl this) (by decide))
                rw [rep_b]
                generalize hg' : (if cdb way k j = true then gk else []) = g'
                have g'l : g'.length ≤ 12 := by rw [← hg']; split; exact gkl; exact Nat.zero_le _
                have nprO : pr ≠ O := fun z => by rw [z, eO5] at npr; cases npr
                refine ⟨pr, rfl, ⟨_, SqL.of upd_same⟩, ?_⟩
                refine for_list (K := K) (a := pr) (xs := g'.map V.int) (fun i σ H6 => ∃ (us6 : List V) (y10 y11 y12 : Option V), σ = [some (.ref L), some (.int (n : Int)), some (.ref G), y3, some (.ref O), some (.ref D), some (.int (k : Int)), some (.int way), some (.ref pk), some (.int (0 + (j : Int))), y10, y11, y12] ∧ FrM [O] Hc H6 ∧ H6 pr = some (.lst (g'.map V.int)) ∧ H6 O = some (.lst us6) ∧ Ties H6 us6 (ts ++ news sg (cdb way) k ++ newK sg (cdb way) k j ++ newA (g'.take i) gj))
                  ⟨us5, y10, y11, y12, rfl, fr5.trans (FrM.same (same_new npr)), upd_same, by rw [upd_ne nprO.symm]; exact eO5, ?_⟩ ?_ ?_ ?_
                · have : newA (g'.take 0) gj = [] := rfl
                  rw [this, List.append_nil]
                  exact hT5.mono (tst_new npr)
                · rintro i σ H6 _ ⟨_, _, _, _, _, _, epr, _⟩
                  exact SqL.of epr
                · rintro i x σ H6 hx ⟨us6, y10, y11, y12, rfl, fr6, epr, eO6, hT6⟩
                  have hil : i < g'.length := by
                    have := (List.getElem?_eq_some_iff.mp hx).1
                    rw [List.length_map] at this; exact this
                  have ex : x = .int g'[i] := by
                    rw [List.getElem?_map, List.getElem?_eq_getElem hil] at hx
                    cases hx; rfl
                  subst ex
                  have eD6 := fr6 _ _ (by simp [nOD.symm]) eDc
                  obtain ⟨pj, ej, npj, epj⟩ := id hgj
                  have epj6 := fr6 _ _ (fun z => npj (by simp at z; simp [z])) epj
                  have ln3 := newA_len (g := g'.take i) (h := gj) (x := 12) (y := 12) (by rw [List.length_take]; omega) gjl
                  refine ⟨_, rfl, .inl ⟨rfl, _, SqL.of eO6⟩, ?_⟩
                  refine ⟨_, rfl, _, rfl, D, ss, _, ss[j], rfl, rfl, SqL.of eD6, by rw [Int.zero_add]; exact atI_nat (List.getElem?_eq_getElem hjs), ?_⟩
                  rw [ej]
                  refine ⟨pj, rfl, ⟨_, SqL.of epj6⟩, fun E2 nE2 => ?_⟩
                  refine lc_list (K := K) (a := pj) (xs := gj.map V.int) (fun b H7 => ∃ us7 : List V, Same H6 H7 ∧ H7 E2 = some (.lst us7) ∧ Ties H7 us7 ((gj.take b).map fun y => norm g'[i] y)) ⟨[], same_new nE2, upd_same, by exact trivial⟩ ?_ ?_ ?_
                  · rintro b H7 _ ⟨_, sm7, _⟩
                    exact SqL.of (sm7 _ _ epj6)
                  · rintro b y H7 hy ⟨us7, sm7, eE7, hT7⟩
                    have hbl : b < gj.length := by
                      have := (List.getElem?_eq_some_iff.mp hy).1
                      rw [List.length_map] at this; exact this
                    have ey : y = .int gj[b] := by
                      rw [List.getElem?_map, List.getElem?_eq_getElem hbl] at hy
                      cases hy; rfl
                    subst ey
                    refine ⟨rfl, yes ?_⟩
                    refine ⟨_, rfl, _, rfl, by show 2 ≤ sizeLine; decide, fun l nl => ?_⟩
                    refine ⟨l, [g'[i], gj[b]], rfl, SqL.of upd_same, fun ns' p2 pm2 srt np2 => ?_⟩
                    have e2 := perm2 pm2 srt
                    subst e2
                    refine ⟨p2, _, rfl, .inl ⟨SqL.of upd_same, fun t nt => ?_⟩⟩
                    have s1 : Same H7 (upd H7 l (.lst [.int g'[i], .int gj[b]])) := same_new nl
                    have s2 := s1.trans (same_new (o := .lst (([(norm g'[i] gj[b]).1, (norm g'[i] gj[b]).2]).map V.int)) np2)
                    have s3 := s2.trans (same_new (o := .tup (([(norm g'[i] gj[b]).1, (norm g'[i] gj[b]).2]).map V.int)) nt)
                    refine ⟨us7, s3 _ _ eE7, sz' (by rw [hT7.len, List.length_map, List.length_take]; omega), us7 ++ [.ref t], ?_, upd_same, ?_⟩
                    · exact Same.put (sm7.trans s3) nE2
                    · rw [List.take_add_one, List.getElem?_eq_getElem hbl]
                      show Ties _ _ (((gj.take b) ++ [gj[b]]).map fun y => norm g'[i] y)
                      rw [List.map_append]
                      refine Ties.mono (tst_put (s3 _ _ eE7)) ((hT7.mono (Same.tst s3)).app (Ties.one ?_))
                      exact Tie.new
                  · rintro H7 ⟨us7, sm7, eE7, hT7⟩
                    rw [List.length_map, List.take_length] at hT7
                    have eO7 := sm7 _ _ eO6
                    refine ⟨O, E2, us6, us7, rfl, rfl, eO7, eE7, ?_, ?_⟩
                    · refine sz ?_
                      rw [hT6.len, hT7.len, List.length_map]
                      simp only [List.length_append]
                      omega
                    · refine ⟨us6 ++ us7, _, y11, y12, rfl, (fr6.trans (FrM.same sm7)).put (by simp), by rw [upd_ne nprO]; exact sm7 _ _ epr, upd_same, ?_⟩
                      rw [List.take_add_one, List.getElem?_eq_getElem hil]
                      show Ties _ _ (_ ++ newA (g'.take i ++ [g'[i]]) gj)
                      rw [newA_app, newA_one, ← List.append_assoc]
                      exact Ties.mono (tst_put eO7) ((hT6.mono (Same.tst sm7)).app hT7)
                · rintro σ H6 ⟨us6, y10, y11, y12, rfl, fr6, epr, eO6, hT6⟩
                  refine ⟨us6, _, y10, y11, y12, rfl, fr6, eO6, ?_⟩
                  rw [List.length_map, List.take_length] at hT6
                  rw [newK_succ, gdk, gdj, hg', ← List.append_assoc]
                  exact hT6
              · rintro σ H5 ⟨us5, y9, y10, y11, y12, rfl, fr5, eO5, hT5⟩
                refine ⟨us5, _, _, y9, y10, y11, y12, rfl, fr5, eO5, ?_⟩
                rw [Int.toNat_natCast] at hT5
                rw [news_succ, ← List.append_assoc]
                exact hT5
            · rintro σ H4 ⟨us4, y6, y8, y9, y10, y11, y12, rfl, fr4, eO4, hT4⟩
              rw [l2] at hT4
              -- whole
              refine ⟨Nat.zero_le _, fun W nW => ?_⟩
              have eD4 := fr4 _ _ (by simp [nOD.symm]) eDc
              have eG4 := fr4 _ _ (by simp [nGO]) eGc
              have lf4 : Lf H4 L (c + 200 - 6 * gs.length + 1 + m + 1) := by
                obtain ⟨x, y, z, h1, h2⟩ := lfc
                exact ⟨x, y, z, fr4 _ _ (by simp [nOL.symm]) h1, h2⟩
              have nWL : W ≠ L := lf4.ne nW
              have nWG : W ≠ G := fun z => by rw [z, eG4] at nW; cases nW
              have nWO : W ≠ O := fun z => by rw [z, eO4] at nW; cases nW
              have nWD : W ≠ D := fun z => by rw [z, eD4] at nW; cases nW
              refine ⟨_, rfl, D, rfl, ⟨_, SqL.of (by rw [upd_ne nWD.symm]; exact eD4)⟩, ?_⟩
              refine for_list (K := K) (a := D) (xs := ss) (fun i σ H5 => ∃ (y8 : Option V), σ = [some (.ref L), some (.int (n : Int)), some (.ref G), y3, some (.ref O), some (.ref D), y6, some (.int way), y8, y9, y10, y11, some (.ref W)] ∧ Same H4 H5 ∧ H5 W = some (.lst ((sg.take i).flatten.map V.int)))
                ⟨y8, rfl, same_new nW, upd_same⟩ ?_ ?_ ?_
              · rintro i σ H5 _ ⟨_, _, sm5, _⟩
                exact SqL.of (sm5 _ _ eD4)
              · rintro i x σ H5 hx ⟨y8, rfl, sm5, eW⟩
                obtain ⟨gi, egi, hgi⟩ := hSc.at hx
                obtain ⟨pi, rfl, npi, epi⟩ := hgi
                have epi5 := sm5 _ _ (fr4 _ _ (fun z => npi (by simp at z; simp [z])) epi)
                have fl : ((sg.take i).flatten).length ≤ n := by
                  have e1 := pf.length_eq
                  rw [up_len, List.flatten_append, List.length_append] at e1
                  have e2 : (sg.flatten).length = ((sg.take i).flatten).length + ((sg.drop i).flatten).length := by
                    rw [← List.length_append, ← List.flatten_append, List.take_append_drop]
                  omega
                have gil : gi.length ≤ 12 := by
                  have := gl i
                  rw [List.getD_eq_getElem?_getD, egi] at this
                  exact this
                refine ⟨_, rfl, .inl ⟨rfl, _, SqL.of eW⟩, _, rfl, ?_⟩
                refine ⟨W, pi, _, _, rfl, rfl, eW, epi5, sz (by rw [List.length_map, List.length_map]; omega), ?_⟩
                refine ⟨_, rfl, Same.put sm5 nW, ?_⟩
                rw [upd_same, List.take_add_one, egi]
                show some (HO.lst _) = some (.lst ((sg.take i ++ [gi]).flatten.map V.int))
                rw [List.flatten_append, List.map_append]
                simp
              · rintro σ H5 ⟨y8, rfl, sm5, eW⟩
                rw [l2, List.take_length] at eW
                have eG5 := sm5 _ _ eG4
                refine ⟨_, rfl, .inl ⟨rfl, _, SqL.of eG5⟩, _, rfl, ?_⟩
                refine ⟨G, vs', _, rfl, rfl, eG5, sz' (by omega), ?_⟩
                have nI := hI.next pm (cdb way)
                have all : ∀ v g, Gp [D, L, G, O] Hc v g → Gp [L, G, O] (upd H5 G (.lst (vs' ++ [.ref W]))) v g := fun v g h => by
                  obtain ⟨p, e, np, hh⟩ := h
                  refine ⟨p, e, fun z => np (List.mem_cons_of_mem _ z), ?_⟩
                  have : p ≠ G := fun z => np (by simp [z])
                  rw [upd_ne this]
                  exact sm5 _ _ (fr4 _ _ (fun z => np (by simp at z; simp [z])) hh)
                refine ⟨⟨vs' ++ [.ref W], gs' ++ [sg.flatten], us4, ts ++ news sg (cdb way) sg.length, y3, _, y6, _, y8, y9, y10, y11, _, rfl, ?_, ?_, upd_same, ?_, ?_, ?_, nI, ?_⟩, ?_⟩
                · refine Fr.put (fun b o nb e => sm5 _ _ (fr4 b o (fun z => ?_) (frHc b o nb e))) HG
                  simp only [List.mem_cons, List.not_mem_nil, or_false] at z
                  rw [z, HO'] at e; cases e
                · refine Lf.put ((lf4.same sm5).mono ?_) nGL
                  rw [List.length_append]
                  show _ ≤ c + 200 - 6 * ((gs'.length + 1 : Nat) : Int)
                  omega
                · refine (hVc.imp all).app ⟨⟨W, rfl, by simp [nWL, nWG, nWO], ?_⟩, trivial⟩
                  rw [upd_ne nWG]; exact eW
                · rw [upd_ne nGO.symm]; exact sm5 _ _ eO4
                · exact (hT4.mono (Same.tst sm5)).mono (tst_put eG5)
                · rw [List.length_append]
                  show gs'.length + 1 ≤ 12
                  omega
                · rw [upd_same, eG3]
                  show (vs' ++ [V.ref W]).length < vs.length
                  rw [List.length_append]
                  show vs'.length + 1 < vs.length
                  omega
        · -- the end: sorted
          refine ⟨_, rfl, _, rfl, O, us, My.key H3, rfl, SqL.of eO3, hT.all, fun ys p hs hst np => ?_⟩
          obtain ⟨ts', hT', pm', pw⟩ := srt_ties hs hst.perm hT
          refine ⟨p, ys, rfl, .inl ⟨SqL.of upd_same, fun t nt => ?_⟩⟩
          refine ⟨by show 2 ≤ sizeLine; decide, fun u nu => ?_⟩
          have s9 := ((same_new (H := H3) (o := .lst ys) np).trans (same_new (o := .tup ys) nt)).trans (same_new (o := .tup [.int (n : Int), .ref t]) nu)
          refine q _ _ ts' ?_ ?_ ⟨u, t, ys, rfl, upd_same, ?_, ?_⟩ ⟨?_, ?_⟩
          · exact fr3.trans (Fr.of s9)
          · exact (lf3.mono (by omega)).same s9
          · rw [upd_ne (ne_of_none upd_same nu)]; exact upd_same
          · exact hT'.mono (Same.tst s9)
          · exact pw_lt pw (pm'.nodup_iff.mpr hI.nd)
          · exact fun t' h' => hI.bd t' (pm'.mem_iff.mp h')
      · rintro σ H3 Q1 Q2 hQ ⟨v, hv, p, ys, e, hs, i, j, e1, e2, b, e3, qq⟩
        exact ⟨v, hv, p, ys, e, hs, i, j, e1, e2, b, e3, hQ _ _ qq⟩
end
end My

set_option Elab.async false
set_option linter.all false
set_option maxRecDepth 100000
namespace My
open PySem PySem.Spec PyProof.Rows L2
section
variable {P : Program} {w : World} {K : PySem.W.Frag} {mg : Str → Option Value} {base : Heap}

/-! ### _law_web -/
abbrev s__law_web : Stmt := topS 23
abbrev N__law_web : List Str := ["_law_left_here", "_law_most", "_law_many", "_law_way"]
theorem sc__law_web : FnScope N__law_web ["_law_left_here", "_law_most"] (defScope s__law_web) := ⟨rfl, rfl, rfl, by decide +kernel, rfl, by decide +kernel, by decide +kernel⟩
def sp_web : Sp := fun vs H Q _ => ∃ (L : Addr) (most : Nat) (c : Int), vs = [.ref L, .int (most : Int)] ∧ Lf H L c ∧ most ≤ 12 ∧ c < 2 ^ 47 ∧
  ∀ (v : V) (H' : Hp) (n : Nat) (ts : List (Int × Int)), n ≤ most → Fr L H H' → Lf H' L (c + 200000) → Web H' v n ts → WOk n ts → Q v H'
theorem ok_web {f : Addr} {fd : FuncData} (B : Bts mg) (F : Fun K "_law_web" "_law_web" s__law_web f fd) (c__law_pick : Cl P w K mg base 2 "_law_pick" sp_pick) (c__law_any_web : Cl P w K mg base 3 "_law_any_web" sp_gen)
    (c__law_row_web : Cl P w K mg base 4 "_law_row_web" sp_gen) (c__law_put_together : Cl P w K mg base 4 "_law_put_together" sp_gen) (c__law_ring_web : Cl P w K mg base 4 "_law_ring_web" sp_gen) :
    FnOk P w K mg base CX0 5 f fd ["_law_left_here", "_law_most"] sp_web := by
  refine F.ok sc__law_web (fun vs H Q E h => ?_) (fun cdv A outer s H vs Q E hr h => ?_)
  · obtain ⟨L, n, c, rfl, _⟩ := h; rfl
  · obtain ⟨L, most, c, rfl, hL, hm, hc, q⟩ := h
    refine ⟨_, (pss_cons (ps_set (i := 2) sc__law_web.nd rfl (by first | exact Or.inl rfl | exact Or.inr rfl) (pe_callB (call_min2 rfl) (by rfl) B.min (by decide +kernel) (pa_cons (pv 1) (pa_cons (pe_ix ix_list (pe_lst (pa_cons pe_int (pa_cons pe_int (pa_cons pe_int (pa_cons pe_int (pa_cons pe_int (pa_cons pe_int (pa_cons pe_int (pa_cons pe_int (pa_cons pe_int (pa_cons pe_int (pa_cons pe_int (pa_cons (pe_op op_add pe_int (pe_c c__law_pick hr (by decide) (by rfl) (pa_cons (pv 0) (pa_cons pe_int pa_nil)))) pa_nil))))))))))))) (pe_c c__law_pick hr (by decide) (by rfl) (pa_cons (pv 0) (pa_cons pe_int pa_nil))) (fun _ _ => rfl)) pa_nil))))
    (pss_cons (ps_set (i := 3) sc__law_web.nd rfl (by first | exact Or.inl rfl | exact Or.inr rfl) (pe_c c__law_pick hr (by decide) (by rfl) (pa_cons (pv 0) (pa_cons pe_int pa_nil))))
    (pss_cons (ps_if (pt_cmpR op_lt (pv 3) pe_int (nomark _)) (pss_one (ps_ret (pe_c c__law_any_web hr (by decide) (by rfl) (pa_cons (pv 0) (pa_cons (pv 2) pa_nil))))) pss_nil)
    (pss_cons (ps_if (pt_cmpR op_lt (pv 3) pe_int (nomark _)) (pss_one (ps_ret (pe_c c__law_row_web hr (by decide) (by rfl) (pa_cons (pv 0) (pa_cons (pv 2) pa_nil))))) pss_nil)
    (pss_cons (ps_if (pt_cmpR op_lt (pv 3) pe_int (nomark _)) (pss_one (ps_ret (pe_c c__law_put_together hr (by decide) (by rfl) (pa_cons (pv 0) (pa_cons (pv 2) pa_nil))))) pss_nil)
    (pss_one (ps_ret (pe_c c__law_ring_web hr (by decide) (by rfl) (pa_cons (pv 0) (pa_cons (pv 2) pa_nil)))))))))), ?_⟩
    refine ⟨_, rfl, ?_⟩
    refine ⟨_, rfl, L, _, c, rfl, hL, by decide, by decide, by omega, fun r0 H1 r00 r01 fr1 lf1 => ?_⟩
    refine ⟨_, _, rfl, rfl, by show 12 ≤ sizeLine; decide, fun p np => ?_⟩
    refine ⟨_, rfl, L, _, c + 1, rfl, lf1.new np, by decide, by decide, by omega, fun r1 H2 r10 r11 fr2 lf2 => ?_⟩
    have ep : H2 p = some (.lst (([0, 1, 2, 3, 4, 5, 6, 4, 5, 6, 5, 7 + r0] : List Int).map V.int)) := fr2 _ _ (lf1.ne np) upd_same
    obtain ⟨x, ex, mx⟩ := at_mem (ns := [0, 1, 2, 3, 4, 5, 6, 4, 5, 6, 5, 7 + r0]) (j := r1) (by show -(12 : Int) ≤ r1; omega) (by show r1 < (12 : Int); omega)
    have bx : 0 ≤ x ∧ x ≤ 12 := by
      simp only [List.mem_cons, List.not_mem_nil, or_false] at mx
      omega
    refine ⟨p, _, r1, _, rfl, rfl, SqL.of ep, ex, _, _, rfl, ?_⟩
    have hn : ∃ n : Nat, (if x < (most : Int) then x else (most : Int)) = (n : Int) ∧ n ≤ most := by
      by_cases z : x < (most : Int)
      · rw [if_pos z]; exact ⟨x.toNat, by omega, by omega⟩
      · rw [if_neg z]; exact ⟨most, rfl, Nat.le_refl _⟩
    obtain ⟨n, en, hn⟩ := hn
    rw [en]
    refine ⟨_, rfl, L, _, c + 1 + 1, rfl, lf2, by decide, by decide, by omega, fun way H3 wa wb fr3 lf3 => ?_⟩
    have frA : Fr L H H3 := ((fr1.trans (Fr.new np)).trans fr2).trans fr3
    have fin : ∀ (v : V) (H' : Hp) (ts : List (Int × Int)), Fr L H3 H' → Lf H' L (c + 1 + 1 + 1 + 100000) → Web H' v n ts → WOk n ts → Q v H' :=
      fun v H' ts a b c d => q v H' n ts hn (frA.trans a) (b.mono (by omega)) c d
    refine ⟨_, rfl, _, _, rfl, rfl, _, rfl, ite2 (fun e => ?_) (fun e => ?_)⟩
    · exact ⟨_, rfl, _, rfl, L, n, _, rfl, lf3, by omega, by omega, fin⟩
    refine ⟨_, rfl, _, _, rfl, rfl, _, rfl, ite2 (fun e => ?_) (fun e => ?_)⟩
    · exact ⟨_, rfl, _, rfl, L, n, _, rfl, lf3, by omega, by omega, fin⟩
    refine ⟨_, rfl, _, _, rfl, rfl, _, rfl, ite2 (fun e => ?_) (fun e => ?_)⟩
    · exact ⟨_, rfl, _, rfl, L, n, _, rfl, lf3, by omega, by omega, fin⟩
    · exact ⟨_, rfl, _, rfl, L, n, _, rfl, lf3, by omega, by omega, fin⟩
end
end My

set_option Elab.async false
set_option linter.all false
set_option maxRecDepth 100000
namespace My
open PySem PySem.Spec PyProof.Rows L2 GxR
/-! ### tables -/
theorem tabG_new {H : Hp} {P p : Addr} {o : HO} (h : TabG H P) (e : H p = none) : TabG (upd H p o) P := by
  obtain ⟨ps, h1, h2⟩ := h
  exact ⟨ps, by rw [upd_ne (ne_of_none h1 e)]; exact h1, h2⟩
theorem tb_frM {H H' : Hp} {P : Addr} (h : Tabbed P H H') : FrM [P] H H' := fun b o n e => by
  rw [h.2 b (fun z => n (by rw [z]; exact List.mem_singleton.mpr rfl))]; exact e
theorem tb_tst {H H' : Hp} {P : Addr} (h : Tabbed P H H') (hP : TabG H P) : Tst H H' := fun b xs e => by
  refine tb_frM h b _ (fun z => ?_) e
  obtain ⟨ps, h1, _⟩ := hP
  rw [List.mem_singleton.mp z, h1] at e; cases e
section
variable {P : Program} {w : World} {K : PySem.W.Frag} {mg : Str → Option Value} {base : Heap}

/-! ### is_number -/
abbrev s_is_number : Stmt := topS 1
abbrev N_is_number : List Str := ["thing"]
theorem sc_is_number : FnScope N_is_number ["thing"] (defScope s_is_number) := ⟨rfl, rfl, rfl, by decide +kernel, rfl, by decide +kernel, by decide +kernel⟩
def sp_num : Sp := fun vs H Q _ => ∃ i : Int, vs = [.int i] ∧ Q (.bl true) H
theorem ok_number {f : Addr} {fd : FuncData} (B : Bts mg) (F : Fun K "is_number" "is_number" s_is_number f fd) : FnOk P w K mg base CX0 1 f fd ["thing"] sp_num := by
  refine F.ok sc_is_number (fun vs H Q E h => ?_) (fun cdv A outer s H vs Q E hr h => ?_)
  · obtain ⟨i, rfl, _⟩ := h; rfl
  · obtain ⟨i, rfl, q⟩ := h
    refine ⟨_, (pss_one (ps_ret (pe_and (pe_callB call_isi (by rfl) B.isinstance (by decide +kernel) (pa_cons (pv 0) (pa_cons (pe_bltn (v := .ty "int") (by rfl) B.int (by decide +kernel) rfl) pa_nil))) (pe_one (pe_not (pe_callB call_isi (by rfl) B.isinstance (by decide +kernel) (pa_cons (pv 0) (pa_cons (pe_bltn (v := .ty "bool") (by rfl) B.bool (by decide +kernel) rfl) pa_nil)))))))), ?_⟩
    refine ⟨_, rfl, _, _, _, _, true, rfl, .ty _, .base (.int i), kit_ty (by decide +kernel), true, rfl, iteT ?_⟩
    exact ⟨_, rfl, _, _, _, _, false, rfl, .ty _, .base (.int i), kit_ty (by decide +kernel), false, rfl, q⟩
/-! ### is_pair -/
abbrev s_is_pair : Stmt := topS 2
abbrev N_is_pair : List Str := ["thing"]
theorem sc_is_pair : FnScope N_is_pair ["thing"] (defScope s_is_pair) := ⟨rfl, rfl, rfl, by decide +kernel, rfl, by decide +kernel, by decide +kernel⟩
def sp_pair : Sp := fun vs H Q _ => ∃ v t, vs = [v] ∧ Tie H v t ∧ Q (.bl true) H
theorem ok_pair {f : Addr} {fd : FuncData} (B : Bts mg) (F : Fun K "is_pair" "is_pair" s_is_pair f fd) (c_is_number : Cl P w K mg base 1 "is_number" sp_num) : FnOk P w K mg base CX0 2 f fd ["thing"] sp_pair := by
  refine F.ok sc_is_pair (fun vs H Q E h => ?_) (fun cdv A outer s H vs Q E hr h => ?_)
  · obtain ⟨v, t, rfl, _⟩ := h; rfl
  · obtain ⟨v, t, rfl, ⟨p, rfl, ep⟩, q⟩ := h
    refine ⟨_, (pss_one (ps_ret (pe_and (pe_callB call_isi (by rfl) B.isinstance (by decide +kernel) (pa_cons (pv 0) (pa_cons (pe_bltn (v := .ty "tuple") (by rfl) B.tuple (by decide +kernel) rfl) pa_nil))) (pe_and (pe_cmpR op_eq (pe_callB call_len_seq (by rfl) B.len (by decide +kernel) (pa_cons (pv 0) pa_nil)) pe_int (nomark _)) (pe_and (pe_c c_is_number hr (by decide) (by rfl) (pa_cons (pe_ix ix_tup (pv 0) pe_int (fun _ _ => rfl)) pa_nil)) (pe_one (pe_c c_is_number hr (by decide) (by rfl) (pa_cons (pe_ix ix_tup (pv 0) pe_int (fun _ _ => rfl)) pa_nil)))))))), ?_⟩
    refine ⟨_, rfl, _, _, _, _, true, rfl, .ty _, .base (.tup ep), kit_ty (by decide +kernel), true, rfl, iteT ?_⟩
    refine ⟨_, rfl, p, _, rfl, .inr (SqT.of ep), rfl, true, rfl, iteT ?_⟩
    refine ⟨_, rfl, p, _, _, _, rfl, rfl, SqT.of ep, rfl, _, rfl, true, rfl, iteT ?_⟩
    exact ⟨_, rfl, p, _, _, _, rfl, rfl, SqT.of ep, rfl, _, rfl, q⟩
end
end My

set_option Elab.async false
set_option linter.all false
set_option maxRecDepth 100000
namespace My
open PySem PySem.Spec PyProof.Rows L2 GxR

/-! ### things alike -/
def Atom (x : V) : Prop := x = .non ∨ (∃ b, x = .bl b) ∨ (∃ i, x = .int i) ∨ ∃ z, x = .str z
def Eqd : Nat → Hp → V → V → Prop
  | 0, _, x, y => x = y ∧ Atom x
  | m + 1, H, x, y => (x = y ∧ Atom x) ∨ ∃ a b xs ys, x = .ref a ∧ y = .ref b ∧ ((H a = some (.tup xs) ∧ H b = some (.tup ys)) ∨ (H a = some (.lst xs) ∧ H b = some (.lst ys))) ∧
      xs.length = ys.length ∧ xs.length ≤ 10000 ∧ ∀ (i : Nat) (v u : V), xs[i]? = some v → ys[i]? = some u → Eqd m H v u
theorem Eqd.mono : ∀ {m : Nat} {H H' : Hp} {x y : V}, Same H H' → Eqd m H x y → Eqd m H' x y
  | 0, _, _, _, _, _, h => h
  | m + 1, H, H', _, _, s, .inl h => .inl h
  | m + 1, H, H', _, _, s, .inr ⟨a, b, xs, ys, e1, e2, h, l, l2, k⟩ => .inr ⟨a, b, xs, ys, e1, e2, h.imp (fun z => ⟨s _ _ z.1, s _ _ z.2⟩) (fun z => ⟨s _ _ z.1, s _ _ z.2⟩), l, l2, fun i v u e f => Eqd.mono s (k i v u e f)⟩
theorem Eqd.int {m : Nat} {H : Hp} {i : Int} : Eqd m H (.int i) (.int i) := by
  cases m with
  | zero => exact ⟨rfl, .inr (.inr (.inl ⟨i, rfl⟩))⟩
  | succ m => exact .inl ⟨rfl, .inr (.inr (.inl ⟨i, rfl⟩))⟩
theorem Eqd.up : ∀ {m : Nat} {H : Hp} {x y : V}, Eqd m H x y → Eqd (m + 1) H x y
  | 0, _, _, _, h => .inl h
  | m + 1, _, _, _, .inl h => .inl h
  | m + 1, _, _, _, .inr ⟨a, b, xs, ys, e1, e2, h, l, l2, k⟩ => .inr ⟨a, b, xs, ys, e1, e2, h, l, l2, fun i v u e f => (k i v u e f).up⟩
theorem tie_eqd {H : Hp} {v u : V} {t : Int × Int} (h : Tie H v t) (k : Tie H u t) : Eqd 1 H v u := by
  obtain ⟨p, rfl, h⟩ := h
  obtain ⟨q, rfl, k⟩ := k
  refine .inr ⟨p, q, _, _, rfl, rfl, .inl ⟨h, k⟩, rfl, by show 2 ≤ 10000; decide, fun i v u e f => ?_⟩
  match i, e, f with
  | 0, e, f => cases e; cases f; exact Eqd.int
  | 1, e, f => cases e; cases f; exact Eqd.int
theorem tup_eqd {H : Hp} {p q : Addr} {vs us : List V} {ts : List (Int × Int)} (hp : H p = some (.tup vs)) (hq : H q = some (.tup us)) (h : Ties H vs ts) (k : Ties H us ts) (l : ts.length ≤ 10000) : Eqd 2 H (.ref p) (.ref q) := by
  refine .inr ⟨p, q, vs, us, rfl, rfl, .inl ⟨hp, hq⟩, by rw [h.len, k.len], by rw [h.len]; exact l, fun i v u e f => ?_⟩
  obtain ⟨t1, e1, h1⟩ := h.at e
  obtain ⟨t2, e2, h2⟩ := k.at f
  rw [e1] at e2; cases e2
  exact tie_eqd h1 h2
theorem web_eqd {H : Hp} {v u : V} {n : Nat} {ts : List (Int × Int)} (h : Web H v n ts) (k : Web H u n ts) (l : ts.length ≤ 10000) : Eqd 3 H v u := by
  obtain ⟨p, q, vs, rfl, h1, h2, h3⟩ := h
  obtain ⟨p', q', us, rfl, k1, k2, k3⟩ := k
  refine .inr ⟨p, p', _, _, rfl, rfl, .inl ⟨h1, k1⟩, rfl, by show 2 ≤ 10000; decide, fun i v u e f => ?_⟩
  match i, e, f with
  | 0, e, f => cases e; cases f; exact Eqd.int
  | 1, e, f => cases e; cases f; exact tup_eqd h2 k2 h3 k3 l

section
variable {P : Program} {w : World} {K : PySem.W.Frag} {mg : Str → Option Value} {base : Heap}
end
end My

set_option Elab.async false
set_option linter.all false
set_option maxRecDepth 100000
namespace My
open PySem PySem.Spec PyProof.Rows L2 GxR

/-! ### dict comprehensions over what is walked -/
theorem dc_it {J : It} {n : Nat} {G : Hp → Prop} {Y : Nat → Hp → V → Hp → Prop} (w : Walk J n G Y) {g : TG} {tt : TT} {tk tv : TE} {vs : List Nat} {σ : L2.St} {H1 : Hp} {D : Addr} {Qd : Hp → Prop} (Pv : Nat → Hp → Prop)
    (h0 : Pv 0 (upd H1 D (.dK []))) (hG : ∀ i H, i ≤ n → Pv i H → G H)
    (hs : ∀ i x H H', i < n → Pv i H → Y i H x H' → g x (wipe σ vs) H' fun σ2 H2 => wipe σ2 vs = wipe σ vs ∧ tt σ2 H2 fun b H3 =>
      if b = true then tk σ2 H3 fun y H4 => tv σ2 H4 fun z H5 => ∃ kvs k, y = kV k ∧ H5 D = some (.dK kvs) ∧ kvs.length < sizeLine ∧ Pv (i + 1) (upd H5 D (.dK (putK kvs k z))) else Pv (i + 1) H3)
    (hd : ∀ H, Pv n H → Qd H) :
    ∃ W : Nat → Nat → Hp → Prop, (∃ m, W 0 m (upd H1 D (.dK []))) ∧ ∀ i m H, W i m H → (J.stop i H ∧ Qd H) ∨
      (J.go i H ∧ ∃ Nx : Hp → Prop, (∀ H', Nx H' → ∃ m', m' < m ∧ W (i + 1) m' H') ∧ ∀ x H', J.yld i H x H' → g x (wipe σ vs) H' fun σ2 H2 => wipe σ2 vs = wipe σ vs ∧ tt σ2 H2 fun b H3 =>
        if b = true then tk σ2 H3 fun y H4 => tv σ2 H4 fun z H5 => ∃ kvs k, y = kV k ∧ H5 D = some (.dK kvs) ∧ kvs.length < sizeLine ∧ Nx (upd H5 D (.dK (putK kvs k z))) else Nx H3) := by
  refine ⟨fun i m H => m = n - i ∧ i ≤ n ∧ Pv i H, ⟨n, rfl, Nat.zero_le _, h0⟩, ?_⟩
  rintro i m H ⟨rfl, hi, p⟩
  have q := hG i H hi p
  by_cases hlt : i < n
  · exact .inr ⟨w.goes i H hlt q, Pv (i + 1), fun H' p' => ⟨n - (i + 1), by omega, rfl, hlt, p'⟩, fun x H' y => hs i x H H' hlt p (w.yields i H x H' hlt q y)⟩
  · have e : i = n := by omega
    subst e
    exact .inl ⟨w.stops H q, hd H p⟩

/-! ### what a dict tells behind a store -/
theorem valV_put {κ : Type} [DecidableEq κ] (kvs : List (κ × V)) (k : κ) (v : V) (j : κ) : valV (putK kvs k v) j = if j = k then some v else valV kvs j := by
  unfold putK
  by_cases h : (kvs.any fun kv => decide (kv.1 = k)) = true
  · rw [if_pos h]
    induction kvs with
    | nil => cases h
    | cons p r ih =>
      rw [List.map_cons]
      by_cases hp : p.1 = k
      · rw [if_pos hp]
        by_cases hj : j = k
        · rw [if_pos hj, valV_pos (by rw [hj]; exact hp)]
        · rw [if_neg hj, valV_neg (fun z => hj (by rw [← z]; exact hp)), valV_neg (fun z => hj (by rw [← z]; exact hp))]
          by_cases hr : (r.any fun kv => decide (kv.1 = k)) = true
          · have := ih hr
            rw [if_neg hj] at this
            exact this
          · have : (r.map fun kv => if kv.1 = k then (kv.1, v) else kv) = r := by
              clear ih h
              induction r with
              | nil => rfl
              | cons q s ih2 =>
                rw [List.any_cons, Bool.or_eq_true] at hr
                have h1 : ¬ q.1 = k := fun z => hr (.inl (decide_eq_true z))
                have h2 : ¬ (s.any fun kv => decide (kv.1 = k)) = true := fun z => hr (.inr z)
                rw [List.map_cons, if_neg h1, ih2 h2]
            rw [this]
      · rw [if_neg hp]
        rw [List.any_cons, decide_eq_false hp, Bool.false_or] at h
        have := ih h
        by_cases hj : p.1 = j
        · rw [valV_pos hj, valV_pos hj, if_neg (fun z => hp (by rw [hj]; exact z))]
        · rw [valV_neg hj, valV_neg hj]; exact this
  · rw [if_neg h]
    induction kvs with
    | nil =>
      rw [List.nil_append]
      by_cases hj : j = k
      · rw [if_pos hj, valV_pos hj.symm]
      · rw [if_neg hj, valV_neg (fun z => hj z.symm)]
    | cons p r ih =>
      rw [List.any_cons, Bool.or_eq_true] at h
      have h1 : ¬ p.1 = k := fun z => h (.inl (decide_eq_true z))
      have h2 : ¬ (r.any fun kv => decide (kv.1 = k)) = true := fun z => h (.inr z)
      rw [List.cons_append]
      by_cases hj : p.1 = j
      · rw [valV_pos hj, valV_pos hj, if_neg (fun z => h1 (by rw [hj]; exact z))]
      · rw [valV_neg hj, valV_neg hj]; exact ih h2
theorem len_put {κ : Type} [DecidableEq κ] (kvs : List (κ × V)) (k : κ) (v : V) : (putK kvs k v).length ≤ kvs.length + 1 := by
  unfold putK
  split
  · rw [List.length_map]; exact Nat.le_succ _
  · rw [List.length_append]; exact Nat.le_refl _

/-! ### rising lists of places, parts of webs -/
def Ris (n : Nat) (pl : List Int) : Prop := pl.Pairwise (· < ·) ∧ ∀ p ∈ pl, 0 ≤ p ∧ p < (n : Int)
theorem Ris.nodup {n : Nat} {pl : List Int} (h : Ris n pl) : pl.Nodup := List.nodup_iff_pairwise_ne.mpr (h.1.imp fun {a b} z e => by omega)
theorem Ris.len {n : Nat} {pl : List Int} (h : Ris n pl) : pl.length ≤ n := by
  have := nd_len (m := up n) h.nodup fun x hx => mem_up.mpr (h.2 x hx)
  rwa [up_len] at this
theorem idx_get {pl : List Int} {a : Int} (h : a ∈ pl) : pl[pl.idxOf a]? = some a := by
  have hl := List.idxOf_lt_length_of_mem h
  rw [List.getElem?_eq_getElem hl, List.getElem_idxOf hl]
theorem idx_of {pl : List Int} (nd : pl.Nodup) {i : Nat} {a : Int} (h : pl[i]? = some a) : pl.idxOf a = i := by
  obtain ⟨hi, e⟩ := List.getElem?_eq_some_iff.mp h
  have hm : a ∈ pl := List.mem_of_getElem? h
  have hl := List.idxOf_lt_length_of_mem hm
  have e2 := List.getElem_idxOf hl
  have pw := List.pairwise_iff_getElem.mp (List.nodup_iff_pairwise_ne.mp nd)
  rcases Nat.lt_trichotomy (pl.idxOf a) i with z | z | z
  · exact absurd (e2.trans e.symm) (pw _ _ hl hi z)
  · exact z
  · exact absurd (e.trans e2.symm) (pw _ _ hi hl z)
theorem ris_lt {n : Nat} {pl : List Int} (h : Ris n pl) {i j : Nat} {a b : Int} (hi : pl[i]? = some a) (hj : pl[j]? = some b) : i < j ↔ a < b := by
  obtain ⟨li, ei⟩ := List.getElem?_eq_some_iff.mp hi
  obtain ⟨lj, ej⟩ := List.getElem?_eq_some_iff.mp hj
  have pw := List.pairwise_iff_getElem.mp h.1
  constructor
  · intro z
    have := pw i j li lj z
    omega
  · intro z
    rcases Nat.lt_trichotomy i j with c | c | c
    · exact c
    · subst c; omega
    · have := pw j i lj li c
      omega
def partL (ts : List (Int × Int)) (pl : List Int) : List (Int × Int) :=
  (ts.filter fun t => decide (t.1 ∈ pl) && decide (t.2 ∈ pl)).map fun t => ((pl.idxOf t.1 : Int), (pl.idxOf t.2 : Int))
theorem mem_part {ts : List (Int × Int)} {pl : List Int} (nd : pl.Nodup) {t : Int × Int} : t ∈ partL ts pl ↔
    ∃ (i j : Nat) (a b : Int), t = ((i : Int), (j : Int)) ∧ pl[i]? = some a ∧ pl[j]? = some b ∧ (a, b) ∈ ts := by
  unfold partL
  rw [List.mem_map]
  constructor
  · rintro ⟨s, hs, rfl⟩
    obtain ⟨h1, h2⟩ := List.mem_filter.mp hs
    rw [Bool.and_eq_true, decide_eq_true_eq, decide_eq_true_eq] at h2
    exact ⟨_, _, s.1, s.2, rfl, idx_get h2.1, idx_get h2.2, h1⟩
  · rintro ⟨i, j, a, b, rfl, hi, hj, h⟩
    refine ⟨(a, b), List.mem_filter.mpr ⟨h, ?_⟩, ?_⟩
    · rw [Bool.and_eq_true, decide_eq_true_eq, decide_eq_true_eq]
      exact ⟨List.mem_of_getElem? hi, List.mem_of_getElem? hj⟩
    · dsimp only
      rw [idx_of nd hi, idx_of nd hj]
theorem part_pw {n : Nat} {ts : List (Int × Int)} {pl : List Int} (hp : Ris n pl) (hw : ts.Pairwise ltT) : (partL ts pl).Pairwise ltT := by
  unfold partL
  rw [List.pairwise_map]
  refine (hw.sublist List.filter_sublist).imp_of_mem fun {s t} hs ht h => ?_
  have h1 := (List.mem_filter.mp hs).2
  have h2 := (List.mem_filter.mp ht).2
  rw [Bool.and_eq_true, decide_eq_true_eq, decide_eq_true_eq] at h1 h2
  have l1 := ris_lt hp (idx_get h1.1) (idx_get h2.1)
  have l2 := ris_lt hp (idx_get h1.2) (idx_get h2.2)
  rcases h with h | ⟨h, k⟩
  · exact .inl (by have := l1.mpr h; dsimp only; omega)
  · refine .inr ⟨by dsimp only; rw [h], ?_⟩
    have := l2.mpr k
    dsimp only; omega
theorem part_wok {n : Nat} {ts : List (Int × Int)} {pl : List Int} (hp : Ris n pl) (hw : WOk n ts) : WOk pl.length (partL ts pl) := by
  refine ⟨part_pw hp hw.1, fun t ht => ?_⟩
  obtain ⟨i, j, a, b, rfl, hi, hj, h⟩ := (mem_part hp.nodup).mp ht
  have hb := hw.2 _ h
  have l := ris_lt hp hi hj
  have := l.mpr hb.2.1
  have := (List.getElem?_eq_some_iff.mp hj).1
  dsimp only
  omega
theorem part_len {ts : List (Int × Int)} {pl : List Int} : (partL ts pl).length ≤ ts.length := by
  unfold partL; rw [List.length_map]; exact List.length_filter_le _ _
theorem ris_up (n : Nat) : Ris n (up n) := by
  refine ⟨?_, fun p hp => mem_up.mp hp⟩
  unfold up
  rw [List.pairwise_map]
  exact List.pairwise_lt_range.imp fun h => by omega
theorem up_get {n i : Nat} (h : i < n) : (up n)[i]? = some (i : Int) := by
  unfold up
  rw [List.getElem?_map, List.getElem?_range h]; rfl
theorem part_up {n : Nat} {ts : List (Int × Int)} (hw : WOk n ts) : partL ts (up n) = ts := by
  refine pw_eq (part_pw (ris_up n) hw.1) hw.1 fun t => ?_
  rw [mem_part (ris_up n).nodup]
  constructor
  · rintro ⟨i, j, a, b, rfl, hi, hj, h⟩
    have li : i < n := by have := (List.getElem?_eq_some_iff.mp hi).1; rwa [up_len] at this
    have lj : j < n := by have := (List.getElem?_eq_some_iff.mp hj).1; rwa [up_len] at this
    rw [up_get li] at hi
    rw [up_get lj] at hj
    cases hi; cases hj
    exact h
  · intro h
    have b := hw.2 t h
    refine ⟨t.1.toNat, t.2.toNat, t.1, t.2, ?_, ?_, ?_, h⟩
    · cases t with | mk x y => dsimp only at b ⊢; congr 1 <;> omega
    · rw [up_get (by omega)]; congr 1; omega
    · rw [up_get (by omega)]; congr 1; omega
theorem part_nil (ts : List (Int × Int)) : partL ts [] = [] := by
  unfold partL
  have : (ts.filter fun t => decide (t.1 ∈ ([] : List Int)) && decide (t.2 ∈ ([] : List Int))) = [] := by
    rw [List.filter_eq_nil_iff]; intro a _; simp
  rw [this]; rfl
/-- some of the places -/
def pick (pl inn : List Int) : List Int := inn.map fun p => pl.getD p.toNat 0
theorem pick_get {pl inn : List Int} {n : Nat} (hi : Ris pl.length inn) {i : Nat} {p : Int} (h : inn[i]? = some p) : ∃ a, pl[p.toNat]? = some a ∧ (pick pl inn)[i]? = some a := by
  have b := hi.2 p (List.mem_of_getElem? h)
  have hl : p.toNat < pl.length := by omega
  refine ⟨pl[p.toNat], List.getElem?_eq_getElem hl, ?_⟩
  unfold pick
  rw [List.getElem?_map, h]
  show some (pl.getD p.toNat 0) = _
  rw [List.getD_eq_getElem?_getD, List.getElem?_eq_getElem hl]; rfl
theorem pick_ris {n : Nat} {pl inn : List Int} (hp : Ris n pl) (hi : Ris pl.length inn) : Ris n (pick pl inn) := by
  refine ⟨?_, fun x hx => ?_⟩
  · rw [List.pairwise_iff_getElem]
    intro i j li lj hij
    have li' : i < inn.length := by unfold pick at li; rwa [List.length_map] at li
    have lj' : j < inn.length := by unfold pick at lj; rwa [List.length_map] at lj
    obtain ⟨a, ha, ga⟩ := pick_get (n := n) hi (List.getElem?_eq_getElem li')
    obtain ⟨b, hb, gb⟩ := pick_get (n := n) hi (List.getElem?_eq_getElem lj')
    rw [List.getElem?_eq_getElem li] at ga
    rw [List.getElem?_eq_getElem lj] at gb
    have e1 := Option.some.inj ga
    have e2 := Option.some.inj gb
    rw [e1, e2]
    have := (List.pairwise_iff_getElem.mp hi.1) i j li' lj' hij
    have b1 := hi.2 _ (List.getElem_mem li')
    have b2 := hi.2 _ (List.getElem_mem lj')
    exact (ris_lt hp ha hb).mp (by omega)
  · unfold pick at hx
    obtain ⟨p, hp', rfl⟩ := List.mem_map.mp hx
    have b := hi.2 p hp'
    have hl : p.toNat < pl.length := by omega
    rw [List.getD_eq_getElem?_getD, List.getElem?_eq_getElem hl]
    exact hp.2 _ (List.getElem_mem hl)
theorem part_part {n : Nat} {ts : List (Int × Int)} {pl inn : List Int} (hw : ts.Pairwise ltT) (hp : Ris n pl) (hi : Ris pl.length inn) :
    partL (partL ts pl) inn = partL ts (pick pl inn) := by
  have hq := pick_ris hp hi
  refine pw_eq (part_pw hi (part_pw hp hw)) (part_pw hq hw) fun t => ?_
  rw [mem_part hi.nodup, mem_part hq.nodup]
  constructor
  · rintro ⟨i, j, a, b, rfl, h1, h2, h3⟩
    obtain ⟨i', j', a', b', e, k1, k2, k3⟩ := (mem_part hp.nodup).mp h3
    cases e
    obtain ⟨x, hx, gx⟩ := pick_get (n := n) hi h1
    obtain ⟨y, hy, gy⟩ := pick_get (n := n) hi h2
    rw [Int.toNat_natCast, k1] at hx
    rw [Int.toNat_natCast, k2] at hy
    cases hx; cases hy
    exact ⟨i, j, _, _, rfl, gx, gy, k3⟩
  · rintro ⟨i, j, a, b, rfl, h1, h2, h3⟩
    have li : i < inn.length := by have := (List.getElem?_eq_some_iff.mp h1).1; unfold pick at this; rwa [List.length_map] at this
    have lj : j < inn.length := by have := (List.getElem?_eq_some_iff.mp h2).1; unfold pick at this; rwa [List.length_map] at this
    obtain ⟨x, hx, gx⟩ := pick_get (n := n) hi (List.getElem?_eq_getElem li)
    obtain ⟨y, hy, gy⟩ := pick_get (n := n) hi (List.getElem?_eq_getElem lj)
    rw [h1] at gx
    rw [h2] at gy
    cases gx; cases gy
    have b1 := hi.2 _ (List.getElem_mem li)
    have b2 := hi.2 _ (List.getElem_mem lj)
    refine ⟨i, j, inn[i], inn[j], rfl, List.getElem?_eq_getElem li, List.getElem?_eq_getElem lj, (mem_part hp.nodup).mpr ⟨inn[i].toNat, inn[j].toNat, a, b, ?_, hx, hy, h3⟩⟩
    congr 1 <;> omega
end My

set_option Elab.async false
set_option linter.all false
set_option maxRecDepth 100000
namespace My
open PySem PySem.Spec PyProof.Rows L2 GxR

/-! ### dict comprehensions with keys of any kind (DPut) -/
section
variable {X : Cx}
theorem d_dictPut {pins : List (Addr × Obj)} {σ : L2.St} {H H' : Hp} {s : Shared} {E : Value → Shared → Prop} {D : Addr} {y v : V} {u r : Value} {Q : Unit → Shared → Prop} (hu : X.A.units + 1 < cLine) (I : Inv X pins σ H s) (g : DPut H D y v H')
    (ry : RelV y u) (rv : RelV v r) (h : ∀ s', Inv X pins σ H' s' → Q () s') : wpAny (model X.prog X.w) X.A (dictSet D u r) Q E s := by
  rcases g with ⟨kvs, k, e, rfl, l, rfl⟩ | ⟨kvs, k, b, e, rfl, eb, l, rfl⟩
  · exact d_dictSet I e l ry rv h
  · cases (show u = Value.ref b from ry)
    obtain ⟨z, hd, xs, rel, dd⟩ := dt_of I.hok e
    have hz : xs.length ≤ sizeLine := by
      rw [← Paired.length rel]; exact z
    have hp := length_putK kvs k v
    refine wpAny_dictSet_heap (hsz := hz) (show X.A.units < cLine from Nat.lt_of_succ_lt hu) (L2.key_of I.hok eb) dd fun h' dd' hs => h _ ?_
    obtain ⟨q, es, ep, hq, h2, h3, h4, _, h5⟩ := dd'
    refine d_write I (by rw [e]; exact True.intro) hs ⟨q, hq⟩ ⟨by omega, hd, _, (rel.put k eb rv).keeps fun c ys ec => ?_, q, es, ep, hq, h2, h3, h4, h5⟩
    rw [upd_ne (ne_of ec e (fun z => nomatch z))]; exact ec
/-- the turn behind what is yielded -/
def dcStep (g : TG) (tt : TT) (tk tv : TE) (vs : List Nat) (σ : L2.St) (D : Addr) (Nx : Hp → Prop) (x : V) (H' : Hp) : Prop :=
  g x (wipe σ vs) H' fun σ2 H2 => wipe σ2 vs = wipe σ vs ∧ tt σ2 H2 fun b H3 => if b = true then tk σ2 H3 fun y H4 => tv σ2 H4 fun z H5 => ∃ H6, DPut H5 D y z H6 ∧ Nx H6 else Nx H3
def tDcP (o0 : HO) (wi : TI) (g : TG) (tt : TT) (tk tv : TE) (vs : List Nat) : TE := fun σ H Q => wi σ H fun J H1 => ∀ D, H1 D = none → ∃ W : Nat → Nat → Hp → Prop, (∃ m, W 0 m (upd H1 D o0)) ∧ ∀ i m H, W i m H →
  (J.stop i H ∧ Q (.ref D) H) ∨ (J.go i H ∧ ∃ Nx : Hp → Prop, (∀ H', Nx H' → ∃ m', m' < m ∧ W (i + 1) m' H') ∧ ∀ x H', J.yld i H x H' → dcStep g tt tk tv vs σ D Nx x H')
/-- a new empty dict may be read so -/
def Empt (o0 : HO) : Prop := ∀ (P : Program) (w : World) (H : Hp) (h : Heap), sysModules < h.objs.size → ObjOk P w H (h.push { cls := .type "dict", data := .dict #[] }) h.objs.size o0
theorem empt_dK : Empt (.dK []) := fun _ _ _ h hb => dk_empty h hb
theorem empt_dT : Empt (.dT []) := fun _ _ _ h hb => dt_empty h hb
abbrev inCell (X : Cx) (s : Shared) (scope : Scope) : Env := compEnvC scope (cellsFrom (s.heap.objs.size + 1) scope.names (cloFrom X.env.cells scope.names [])) s.heap.objs.size X.env
theorem pe_dcP {o0 : HO} {kx vx tg iter : Expr} {ifs : List Expr} {scope : Scope} {own : List (Str × Nat)} {pos : Pos} {wi : TI} {g : TG} {tt : TT} {tk tv : TE} (em : Empt o0) (hu : X.A.units + 1 < cLine) (hc : X.calm = true) (hN : X.N.Nodup) (hi : PI X tg iter wi) (ok : BlkOk X.N X.env.scope scope own)
    (hg : ∀ (s : Shared) (H : Hp) (C : Addr) (cl : List (Str × Addr)) (fp : List Addr), PG (X.blk s H scope (compEnvC scope cl C X.env) fp) tg g)
    (ht : ∀ (s : Shared) (H : Hp) (C : Addr) (cl : List (Str × Addr)) (fp : List Addr), PTs (X.blk s H scope (compEnvC scope cl C X.env) fp) ifs tt)
    (hk : ∀ (s : Shared) (H : Hp) (C : Addr) (cl : List (Str × Addr)) (fp : List Addr), PE (X.blk s H scope (compEnvC scope cl C X.env) fp) kx tk)
    (he : ∀ (s : Shared) (H : Hp) (C : Addr) (cl : List (Str × Addr)) (fp : List Addr), PE (X.blk s H scope (compEnvC scope cl C X.env) fp) vx tv) (hs : ∀ x, foldedSetIterable iter X.env x = pure x := by intro _; rfl) :
    PE X (.DictComp kx vx [⟨tg, iter, ifs, 0⟩] scope pos) (tDcP o0 wi g tt tk tv (own.map (·.2))) := by
  refine ⟨fun pins s σ H Q I h => ?_⟩
  rw [arm_eval_DictComp]
  have fr : ∀ y ∈ scope.names, y.2 = .free → ∃ c, X.env.cells.lookup y.1 = some c := fun y hy e => (ok.free y hy e).elim (fun k => I.ok.has _ (.inl k)) fun k => I.ok.has _ (.inr k)
  refine wpAny_comprehension_free rfl hs (closure_ok fr) ok.kind (fun y hy e => by rw [ok.uniq y hy, e]) ?_
  refine thn (hi.run pins s σ H _ I h) fun _ _ hx => thn hx fun _ s2 h2 => ?_
  obtain ⟨it, fp, tn, J, H2, rfl, I2, T, st2, f2, q⟩ := h2
  refine wpAny_newObj_type (newEnv_comp ?_)
  generalize hD : s2.heap.objs.size = D
  obtain ⟨W, ⟨m0, w0⟩, turn⟩ := q D (I2.hok.fresh (Nat.le_of_eq hD))
  generalize hs3 : (⟨s2.heap.push { cls := .type "dict", data := .dict #[] }, s2.gens, s2.drawn, s2.toks, s2.os⟩ : Shared) = s3
  have I3 : Inv X pins σ (upd H2 D o0) s3 := by
    rw [← hs3]
    refine I2.laid (t' := s2.toks) (fun b o e => Heap.get?_push_of_some _ e) (Nat.le_of_eq hD) ?_
    rw [← hD]; exact em _ _ _ _ I2.big
  have h3 : s3.heap = s2.heap.push { cls := .type "dict", data := .dict #[] } := by rw [← hs3]
  have f3 : ∀ b ∈ fp, FpOk X pins (upd H2 D o0) b ∧ b < s3.heap.objs.size := fun b hb => by
    obtain ⟨o, e, _⟩ := T.obj _ _ st2 b hb
    have hlt := Heap.lt_size e
    refine ⟨⟨?_, (f2 b hb).2⟩, by rw [h3, Heap.size_push]; exact Nat.lt_succ_of_lt hlt⟩
    rw [upd_ne (by rw [← hD]; exact Nat.ne_of_lt hlt)]; exact (f2 b hb).1
  have st3 : tn 0 s3.heap := T.keep _ _ _ st2 fun b _ o e => by rw [h3]; exact Heap.get?_push_of_some _ e
  have I4 := block_start I3 ok hN f3
  have pg := hg s3 (upd H2 D o0) s3.heap.objs.size (cellsFrom (s3.heap.objs.size + 1) scope.names (cloFrom X.env.cells scope.names [])) fp
  have pt := ht s3 (upd H2 D o0) s3.heap.objs.size (cellsFrom (s3.heap.objs.size + 1) scope.names (cloFrom X.env.cells scope.names [])) fp
  have pk := hk s3 (upd H2 D o0) s3.heap.objs.size (cellsFrom (s3.heap.objs.size + 1) scope.names (cloFrom X.env.cells scope.names [])) fp
  have pe := he s3 (upd H2 D o0) s3.heap.objs.size (cellsFrom (s3.heap.objs.size + 1) scope.names (cloFrom X.env.cells scope.names [])) fp
  refine (?_ : codeAny _ _ (.compStart (.DictComp kx vx [⟨tg, iter, ifs, 0⟩] scope pos) 0 (.ref it) (.ref D) (inCell X s3 scope)) (compPost (model X.prog X.w) X.A X.xe none (fun v s' => ∃ x H', Inv X pins σ H' s' ∧ RelV x v ∧ Q x H') (.ref D) s3.heap.objs.size) { s3 with heap := pushCells (s3.heap.push { cls := .type "dict", data := .dict #[] }) scope.names })
  have nfp : ∀ b ∈ fp, (upd H2 D o0) b = none := fun b hb => (f3 b hb).1.1
  obtain ⟨ce, hce⟩ : ∃ ce, inCell X s3 scope = ce := ⟨_, rfl⟩
  have cL : ce.locals = s3.heap.objs.size := by rw [← hce]; rfl
  rw [show compEnvC scope (cellsFrom (s3.heap.objs.size + 1) scope.names (cloFrom X.env.cells scope.names [])) s3.heap.objs.size X.env = ce from hce] at I4 pg pt pk pe
  rw [hce]
  generalize upd H2 D o0 = H3 at I3 I4 pg pt pk pe w0 nfp f3
  obtain ⟨s4, hs4⟩ : ∃ s4 : Shared, { s3 with heap := pushCells (s3.heap.push { cls := .type "dict", data := .dict #[] }) scope.names } = s4 := ⟨_, rfl⟩
  rw [hs4] at I4 ⊢
  have st4 : tn 0 s4.heap := T.keep _ _ _ st3 fun b _ o e => by
    rw [← hs4]; exact pushCells_keeps _ _ _ _ (Heap.get?_push_of_some _ e)
  let Y := X.blk s3 H3 scope ce fp
  have stat : ∀ {σ' : L2.St} {H' : Hp} {s' : Shared}, Inv Y [] σ' H' s' → (∀ b ∈ fp, H' b = none) → ∀ b ∈ fp, FpOk Y [] H' b := fun {σ' H' s'} I' hn b hb =>
    ⟨hn b hb, (I'.ok.exf b hb).1, I'.ok.exfs b hb, .inl hb, fun x c e => (I'.ok.exf b hb).2 x c e, fun p hp => absurd (show p ∈ ([] : List (Addr × Obj)) ++ [] from hp) (by simp)⟩
  let Z : Nat → Shared → Prop := fun n s' => ∃ i H', Inv Y [] (wipe σ (own.map (·.2))) H' s' ∧ tn i s'.heap ∧ (∀ b ∈ fp, H' b = none) ∧ W i n H'
  have loop : codeAny (model X.prog X.w) X.A (.compLoop (.DictComp kx vx [⟨tg, iter, ifs, 0⟩] scope pos) 0 (.ref it) (.ref D) ce) (compPost (model X.prog X.w) X.A X.xe none (fun v s' => ∃ x H', Inv X pins σ H' s' ∧ RelV x v ∧ Q x H') (.ref D) s3.heap.objs.size) s4 := by
    refine compLoop_anyD Z ?_ m0 ⟨0, H3, I4, st4, nfp, w0⟩
    rintro n s5 ⟨i, H5, I5, st5, n5, w5⟩
    rcases turn i n H5 w5 with ⟨stop, qq⟩ | ⟨go, Nx, hNx, step⟩
    · refine thnF (T.done Y rfl rfl rfl hc i [] s5 _ H5 (fun _ _ => False) I5 (stat I5 n5) st5 stop) fun r s6 ⟨hr, I6⟩ => ?_
      subst hr
      have I7 : Inv X pins σ H5 s6 := I3.call' (ch := fp) I6.os I6.base I6.hok I6.bare fun b hb => (fun (z : FpOk X pins H3 b) => ⟨z.2.2.2.1, z.2.1, z.2.2.2.2.1, z.2.2.2.2.2⟩) (f3 b hb).1
      have nC : H5 s3.heap.objs.size = none := by
        rw [← cL]; exact I6.free
      obtain ⟨m, hn, _⟩ := I6.loc
      have hn' : s6.heap.Ns s3.heap.objs.size m := by
        rw [← cL]; exact hn
      obtain ⟨e0, e1, e2, e3, e4, e5⟩ : FpOk X pins H5 s3.heap.objs.size := I3.fpOk (Nat.le_refl _) nC
      exact ⟨m, hn', fun h'' sb => ⟨.ref D, H5, I7.turned (t' := s6.toks) (fun b o hb e => (sb.2 b hb).trans e) e0 e1 e3 e4 e5, rfl, qq⟩⟩
    · refine thnF (T.item Y rfl rfl rfl hc i [] s5 _ H5 (fun _ _ => False) I5 (stat I5 n5) st5 go) fun r s6 ⟨u, hr, h6⟩ => ?_
      subst hr
      refine thnF h6 fun _ s7 ⟨x, H7, I7, r7, y7, st7, n7⟩ => ?_
      refine thnF (pg.run _ s7 _ H7 x u _ (I7.pinned (stat I7 n7) (T.obj _ _ st7)) r7 (step x H7 y7)) fun _ s8 ⟨σ8, H8, I8, hw8, q8⟩ => ?_
      refine thnF (pt.run _ s8 σ8 H8 _ I8 q8) fun b s9 ⟨H9, I9, q9⟩ => ?_
      have fin : ∀ {s' : Shared} {H' : Hp}, Inv Y ([] ++ pinsAt fp s7.heap) σ8 H' s' → Nx H' → ∃ m, m < n ∧ Z m s' := fun {s' H'} I' nx => by
        obtain ⟨m', hm, w'⟩ := hNx H' nx
        have pin' : ∀ b ∈ fp, ∀ o, s7.heap.get? b = some o → s'.heap.get? b = some o ∧ H' b = none := fun b hb o e =>
          (fun z => ⟨z.1, z.2.1⟩) (I'.pin (b, o) (List.mem_append_right _ (List.mem_append_right _ (mem_pinsAt hb e))))
        have hl : (wipe σ (own.map (·.2))).length = σ8.length := by rw [← hw8, wipe_length]
        refine ⟨m', hm, i + 1, H', (I'.unpinned (pins := [])).weak hl (fun j v e => by rw [← hw8] at e; exact (wipe_some e).1), T.keep _ _ _ st7 fun b hb o e => (pin' b hb o e).1, fun b hb => ?_, w'⟩
        obtain ⟨o, e, _⟩ := T.obj _ _ st7 b hb
        exact (pin' b hb o e).2
      cases b with
      | false => exact fin I9 q9
      | true =>
        refine thnF (pk.run _ s9 σ8 H9 _ I9 q9) fun z s10 ⟨yk, H10, I10, r10, q10⟩ => ?_
        refine thnF (pe.run _ s10 σ8 H10 _ I10 q10) fun z2 s11 ⟨yv, H11, I11, r11, H12, pu, nx⟩ => ?_
        exact d_dictPut (X := Y) hu I11 pu r10 r11 fun s12 I12 => fin I12 nx
  exact codeAny_compStart_dict loop (T.self X.A 0 _ _ _ st4 loop)
end
theorem dcP_it {o0 : HO} {J : It} {n : Nat} {G : Hp → Prop} {Y : Nat → Hp → V → Hp → Prop} (w : Walk J n G Y) {g : TG} {tt : TT} {tk tv : TE} {vs : List Nat} {σ : L2.St} {H1 : Hp} {D : Addr} {Qd : Hp → Prop} (Pv : Nat → Hp → Prop)
    (h0 : Pv 0 (upd H1 D o0)) (hG : ∀ i H, i ≤ n → Pv i H → G H) (hs : ∀ i x H H', i < n → Pv i H → Y i H x H' → dcStep g tt tk tv vs σ D (Pv (i + 1)) x H') (hd : ∀ H, Pv n H → Qd H) :
    ∃ W : Nat → Nat → Hp → Prop, (∃ m, W 0 m (upd H1 D o0)) ∧ ∀ i m H, W i m H → (J.stop i H ∧ Qd H) ∨
      (J.go i H ∧ ∃ Nx : Hp → Prop, (∀ H', Nx H' → ∃ m', m' < m ∧ W (i + 1) m' H') ∧ ∀ x H', J.yld i H x H' → dcStep g tt tk tv vs σ D Nx x H') := by
  refine ⟨fun i m H => m = n - i ∧ i ≤ n ∧ Pv i H, ⟨n, rfl, Nat.zero_le _, h0⟩, ?_⟩
  rintro i m H ⟨rfl, hi, p⟩
  have q := hG i H hi p
  by_cases hlt : i < n
  · exact .inr ⟨w.goes i H hlt q, Pv (i + 1), fun H' p' => ⟨n - (i + 1), by omega, rfl, hlt, p'⟩, fun x H' y => hs i x H H' hlt p (w.yields i H x H' hlt q y)⟩
  · have e : i = n := by omega
    subst e
    exact .inl ⟨w.stops H q, hd H p⟩
/-! ### one walker for all -/
theorem wk {J : It} {n : Nat} {G : Hp → Prop} {Y : Nat → Hp → V → Hp → Prop} (w : Walk J n G Y) {S : (Hp → Prop) → V → Hp → Prop} {H1 : Hp} {Qd : Hp → Prop} (Pv : Nat → Hp → Prop)
    (h0 : Pv 0 H1) (hG : ∀ i H, i ≤ n → Pv i H → G H) (hs : ∀ i x H H', i < n → Pv i H → Y i H x H' → S (Pv (i + 1)) x H') (hd : ∀ H, Pv n H → Qd H) :
    ∃ W : Nat → Nat → Hp → Prop, (∃ m, W 0 m H1) ∧ ∀ i m H, W i m H → (J.stop i H ∧ Qd H) ∨
      (J.go i H ∧ ∃ Nx : Hp → Prop, (∀ H', Nx H' → ∃ m', m' < m ∧ W (i + 1) m' H') ∧ ∀ x H', J.yld i H x H' → S Nx x H') := by
  refine ⟨fun i m H => m = n - i ∧ i ≤ n ∧ Pv i H, ⟨n, rfl, Nat.zero_le _, h0⟩, ?_⟩
  rintro i m H ⟨rfl, hi, p⟩
  have q := hG i H hi p
  by_cases hlt : i < n
  · exact .inr ⟨w.goes i H hlt q, Pv (i + 1), fun H' p' => ⟨n - (i + 1), by omega, rfl, hlt, p'⟩, fun x H' y => hs i x H H' hlt p (w.yields i H x H' hlt q y)⟩
  · have e : i = n := by omega
    subst e
    exact .inl ⟨w.stops H q, hd H p⟩

end My

set_option Elab.async false
set_option linter.all false
set_option maxRecDepth 100000
namespace My
open PySem PySem.Spec PyProof.Rows L2 GxR

/-! ### name = {k: v for ..}, the name a plain local -/
section
variable {X : Cx}
theorem dc_coreP {o0 : HO} {pins : List (Addr × Obj)} {s : Shared} {σ : L2.St} {H : Hp} {Q : VK} {kx vx tg iter : Expr} {ifs : List Expr} {scope : Scope} {own : List (Str × Nat)} {pos pos' : Pos} {wi : TI} {g : TG} {tt : TT} {tk tv : TE} {use : Option (Value → Sem Unit)} {Qf : Value → Shared → Prop} (em : Empt o0) (hu : X.A.units + 1 < cLine) (hc : X.calm = true) (hN : X.N.Nodup) (I : Inv X pins σ H s) (hi : PI X tg iter wi) (ok : BlkOk X.N X.env.scope scope own)
    (hg : ∀ (s : Shared) (H : Hp) (C : Addr) (cl : List (Str × Addr)) (fp : List Addr), PG (X.blk s H scope (compEnvC scope cl C X.env) fp) tg g)
    (ht : ∀ (s : Shared) (H : Hp) (C : Addr) (cl : List (Str × Addr)) (fp : List Addr), PTs (X.blk s H scope (compEnvC scope cl C X.env) fp) ifs tt)
    (hk : ∀ (s : Shared) (H : Hp) (C : Addr) (cl : List (Str × Addr)) (fp : List Addr), PE (X.blk s H scope (compEnvC scope cl C X.env) fp) kx tk)
    (he : ∀ (s : Shared) (H : Hp) (C : Addr) (cl : List (Str × Addr)) (fp : List Addr), PE (X.blk s H scope (compEnvC scope cl C X.env) fp) vx tv) (hs : ∀ x, foldedSetIterable iter X.env x = pure x)
    (h : tDcP o0 wi g tt tk tv (own.map (·.2)) σ H Q)
    (hRR : ∀ D C s' m H', Inv X pins σ H' s' → Q (.ref D) H' → s'.heap.Ns C m → FpOk X pins H' C → compPost (model X.prog X.w) X.A X.xe use Qf (.ref D) C (.ok .next) s') :
    wpAny (model X.prog X.w) X.A (comprehension (.DictComp kx vx [⟨tg, iter, ifs, 0⟩] scope pos) scope X.env pos' (newObj (.type "dict") (.dict #[])) false (eval iter X.env) use) Qf X.xe s := by
  have fr : ∀ y ∈ scope.names, y.2 = .free → ∃ c, X.env.cells.lookup y.1 = some c := fun y hy e => (ok.free y hy e).elim (fun k => I.ok.has _ (.inl k)) fun k => I.ok.has _ (.inr k)
  refine wpAny_comprehension_free (use := use) rfl hs (closure_ok fr) ok.kind (fun y hy e => by rw [ok.uniq y hy, e]) ?_
  refine thn (hi.run pins s σ H _ I h) fun _ _ hx => thn hx fun _ s2 h2 => ?_
  obtain ⟨it, fp, tn, J, H2, rfl, I2, T, st2, f2, q⟩ := h2
  refine wpAny_newObj_type (newEnv_comp ?_)
  generalize hD : s2.heap.objs.size = D
  obtain ⟨W, ⟨m0, w0⟩, turn⟩ := q D (I2.hok.fresh (Nat.le_of_eq hD))
  generalize hs3 : (⟨s2.heap.push { cls := .type "dict", data := .dict #[] }, s2.gens, s2.drawn, s2.toks, s2.os⟩ : Shared) = s3
  have I3 : Inv X pins σ (upd H2 D o0) s3 := by
    rw [← hs3]
    refine I2.laid (t' := s2.toks) (fun b o e => Heap.get?_push_of_some _ e) (Nat.le_of_eq hD) ?_
    rw [← hD]; exact em _ _ _ _ I2.big
  have h3 : s3.heap = s2.heap.push { cls := .type "dict", data := .dict #[] } := by rw [← hs3]
  have f3 : ∀ b ∈ fp, FpOk X pins (upd H2 D o0) b ∧ b < s3.heap.objs.size := fun b hb => by
    obtain ⟨o, e, _⟩ := T.obj _ _ st2 b hb
    have hlt := Heap.lt_size e
    refine ⟨⟨?_, (f2 b hb).2⟩, by rw [h3, Heap.size_push]; exact Nat.lt_succ_of_lt hlt⟩
    rw [upd_ne (by rw [← hD]; exact Nat.ne_of_lt hlt)]; exact (f2 b hb).1
  have st3 : tn 0 s3.heap := T.keep _ _ _ st2 fun b _ o e => by rw [h3]; exact Heap.get?_push_of_some _ e
  have I4 := block_start I3 ok hN f3
  have pg := hg s3 (upd H2 D o0) s3.heap.objs.size (cellsFrom (s3.heap.objs.size + 1) scope.names (cloFrom X.env.cells scope.names [])) fp
  have pt := ht s3 (upd H2 D o0) s3.heap.objs.size (cellsFrom (s3.heap.objs.size + 1) scope.names (cloFrom X.env.cells scope.names [])) fp
  have pk := hk s3 (upd H2 D o0) s3.heap.objs.size (cellsFrom (s3.heap.objs.size + 1) scope.names (cloFrom X.env.cells scope.names [])) fp
  have pe := he s3 (upd H2 D o0) s3.heap.objs.size (cellsFrom (s3.heap.objs.size + 1) scope.names (cloFrom X.env.cells scope.names [])) fp
  refine (?_ : codeAny _ _ (.compStart (.DictComp kx vx [⟨tg, iter, ifs, 0⟩] scope pos) 0 (.ref it) (.ref D) (inCell X s3 scope)) (compPost (model X.prog X.w) X.A X.xe use Qf (.ref D) s3.heap.objs.size) { s3 with heap := pushCells (s3.heap.push { cls := .type "dict", data := .dict #[] }) scope.names })
  have nfp : ∀ b ∈ fp, (upd H2 D o0) b = none := fun b hb => (f3 b hb).1.1
  obtain ⟨ce, hce⟩ : ∃ ce, inCell X s3 scope = ce := ⟨_, rfl⟩
  have cL : ce.locals = s3.heap.objs.size := by rw [← hce]; rfl
  rw [show compEnvC scope (cellsFrom (s3.heap.objs.size + 1) scope.names (cloFrom X.env.cells scope.names [])) s3.heap.objs.size X.env = ce from hce] at I4 pg pt pk pe
  rw [hce]
  generalize upd H2 D o0 = H3 at I3 I4 pg pt pk pe w0 nfp f3
  obtain ⟨s4, hs4⟩ : ∃ s4 : Shared, { s3 with heap := pushCells (s3.heap.push { cls := .type "dict", data := .dict #[] }) scope.names } = s4 := ⟨_, rfl⟩
  rw [hs4] at I4 ⊢
  have st4 : tn 0 s4.heap := T.keep _ _ _ st3 fun b _ o e => by
    rw [← hs4]; exact pushCells_keeps _ _ _ _ (Heap.get?_push_of_some _ e)
  let Y := X.blk s3 H3 scope ce fp
  have stat : ∀ {σ' : L2.St} {H' : Hp} {s' : Shared}, Inv Y [] σ' H' s' → (∀ b ∈ fp, H' b = none) → ∀ b ∈ fp, FpOk Y [] H' b := fun {σ' H' s'} I' hn b hb =>
    ⟨hn b hb, (I'.ok.exf b hb).1, I'.ok.exfs b hb, .inl hb, fun x c e => (I'.ok.exf b hb).2 x c e, fun p hp => absurd (show p ∈ ([] : List (Addr × Obj)) ++ [] from hp) (by simp)⟩
  let Z : Nat → Shared → Prop := fun n s' => ∃ i H', Inv Y [] (wipe σ (own.map (·.2))) H' s' ∧ tn i s'.heap ∧ (∀ b ∈ fp, H' b = none) ∧ W i n H'
  have loop : codeAny (model X.prog X.w) X.A (.compLoop (.DictComp kx vx [⟨tg, iter, ifs, 0⟩] scope pos) 0 (.ref it) (.ref D) ce) (compPost (model X.prog X.w) X.A X.xe use Qf (.ref D) s3.heap.objs.size) s4 := by
    refine compLoop_anyD Z ?_ m0 ⟨0, H3, I4, st4, nfp, w0⟩
    rintro n s5 ⟨i, H5, I5, st5, n5, w5⟩
    rcases turn i n H5 w5 with ⟨stop, qq⟩ | ⟨go, Nx, hNx, step⟩
    · refine thnF (T.done Y rfl rfl rfl hc i [] s5 _ H5 (fun _ _ => False) I5 (stat I5 n5) st5 stop) fun r s6 ⟨hr, I6⟩ => ?_
      subst hr
      have I7 : Inv X pins σ H5 s6 := I3.call' (ch := fp) I6.os I6.base I6.hok I6.bare fun b hb => (fun (z : FpOk X pins H3 b) => ⟨z.2.2.2.1, z.2.1, z.2.2.2.2.1, z.2.2.2.2.2⟩) (f3 b hb).1
      have nC : H5 s3.heap.objs.size = none := by
        rw [← cL]; exact I6.free
      obtain ⟨m, hn, _⟩ := I6.loc
      have hn' : s6.heap.Ns s3.heap.objs.size m := by
        rw [← cL]; exact hn
      have fpo : FpOk X pins H5 s3.heap.objs.size := I3.fpOk (Nat.le_refl _) nC
      exact hRR D _ s6 m H5 I7 qq hn' fpo
    · refine thnF (T.item Y rfl rfl rfl hc i [] s5 _ H5 (fun _ _ => False) I5 (stat I5 n5) st5 go) fun r s6 ⟨u, hr, h6⟩ => ?_
      subst hr
      refine thnF h6 fun _ s7 ⟨x, H7, I7, r7, y7, st7, n7⟩ => ?_
      refine thnF (pg.run _ s7 _ H7 x u _ (I7.pinned (stat I7 n7) (T.obj _ _ st7)) r7 (step x H7 y7)) fun _ s8 ⟨σ8, H8, I8, hw8, q8⟩ => ?_
      refine thnF (pt.run _ s8 σ8 H8 _ I8 q8) fun b s9 ⟨H9, I9, q9⟩ => ?_
      have fin : ∀ {s' : Shared} {H' : Hp}, Inv Y ([] ++ pinsAt fp s7.heap) σ8 H' s' → Nx H' → ∃ m, m < n ∧ Z m s' := fun {s' H'} I' nx => by
        obtain ⟨m', hm, w'⟩ := hNx H' nx
        have pin' : ∀ b ∈ fp, ∀ o, s7.heap.get? b = some o → s'.heap.get? b = some o ∧ H' b = none := fun b hb o e =>
          (fun z => ⟨z.1, z.2.1⟩) (I'.pin (b, o) (List.mem_append_right _ (List.mem_append_right _ (mem_pinsAt hb e))))
        have hl : (wipe σ (own.map (·.2))).length = σ8.length := by rw [← hw8, wipe_length]
        refine ⟨m', hm, i + 1, H', (I'.unpinned (pins := [])).weak hl (fun j v e => by rw [← hw8] at e; exact (wipe_some e).1), T.keep _ _ _ st7 fun b hb o e => (pin' b hb o e).1, fun b hb => ?_, w'⟩
        obtain ⟨o, e, _⟩ := T.obj _ _ st7 b hb
        exact (pin' b hb o e).2
      cases b with
      | false => exact fin I9 q9
      | true =>
        refine thnF (pk.run _ s9 σ8 H9 _ I9 q9) fun z s10 ⟨yk, H10, I10, r10, q10⟩ => ?_
        refine thnF (pe.run _ s10 σ8 H10 _ I10 q10) fun z2 s11 ⟨yv, H11, I11, r11, H12, pu, nx⟩ => ?_
        exact d_dictPut (X := Y) hu I11 pu r10 r11 fun s12 I12 => fin I12 nx
  exact codeAny_compStart_dict loop (T.self X.A 0 _ _ _ st4 loop)
theorem ps_setDcP {o0 : HO} {i : Nat} {y : Str} {py : Pos} {kx vx tg iter : Expr} {ifs : List Expr} {scope : Scope} {own : List (Str × Nat)} {pos spos : Pos} {wi : TI} {g : TG} {tt : TT} {tk tv : TE} (em : Empt o0) (hu : X.A.units + 1 < cLine) (hc : X.calm = true) (hN : X.N.Nodup) (hy : X.N[i]? = some y) (hyl : X.env.scope.names.lookup y = some .local)
    (hsw : swapsWith (.DictComp kx vx [⟨tg, iter, ifs, 0⟩] scope pos) (some (.Name y py)) spos.line X.env = pure true) (hi : PI X tg iter wi) (ok : BlkOk X.N X.env.scope scope own)
    (hg : ∀ (s : Shared) (H : Hp) (C : Addr) (cl : List (Str × Addr)) (fp : List Addr), PG (X.blk s H scope (compEnvC scope cl C X.env) fp) tg g)
    (ht : ∀ (s : Shared) (H : Hp) (C : Addr) (cl : List (Str × Addr)) (fp : List Addr), PTs (X.blk s H scope (compEnvC scope cl C X.env) fp) ifs tt)
    (hk : ∀ (s : Shared) (H : Hp) (C : Addr) (cl : List (Str × Addr)) (fp : List Addr), PE (X.blk s H scope (compEnvC scope cl C X.env) fp) kx tk)
    (he : ∀ (s : Shared) (H : Hp) (C : Addr) (cl : List (Str × Addr)) (fp : List Addr), PE (X.blk s H scope (compEnvC scope cl C X.env) fp) vx tv) (hs : ∀ x, foldedSetIterable iter X.env x = pure x := by intro _; rfl) :
    PS X (.Assign [.Name y py] (.DictComp kx vx [⟨tg, iter, ifs, 0⟩] scope pos) spos) (tAsg (tDcP o0 wi g tt tk tv (own.map (·.2))) (gName i)) := by
  refine ⟨fun pins s σ H D I h => ?_⟩
  rw [exec_Assign_Name_used _ _ _ _ hsw]
  have h' : tDcP o0 wi g tt tk tv (own.map (·.2)) σ H (fun x H1 => gName i x σ H1 D.nx) := h
  refine wpAny_bind (wpAny_standAt (wpAny_bind (?_ : wpAny _ X.A (do let _ ← comprehension (.DictComp kx vx [⟨tg, iter, ifs, 0⟩] scope pos) scope X.env (firstIterPos [⟨tg, iter, ifs, 0⟩] pos) (newObj (.type "dict") (.dict #[])) false (eval iter X.env) (some (assign (.Name y py) X.env))) _ _ s)))
  refine wpAny_bind (wpAny_mono (dc_coreP (Qf := fun _ s' => SP X pins D .next s') em hu hc hN I hi ok hg ht hk he hs h' fun L C s' m H' I' q hn f => ?_) (fun _ s' hq => wpAny_pure (wpAny_pure hq)) fun _ _ z => z)
  refine (?_ : wpAny _ _ (assign (.Name y py) X.env (.ref L)) _ _ _)
  refine wpAny_assign_Name (store_ok2 (v := V.ref L) I' hN hy (.inl hyl) rfl (fun s2 I2 ⟨a, sb, ha⟩ => ?_) (.inr hyl))
  obtain ⟨f0, f1, f2, f3, f4, f5⟩ := f
  have haC : C ≠ a := by
    rcases ha with z | z
    · rw [z]; exact f1
    · exact fun e => f4 y a z e.symm
  exact ⟨m, hn.sameBut sb haC, fun h3 sb3 => ⟨_, H', I2.turned (t' := s2.toks) (fun b o hb e => (sb3.2 b hb).trans e) f0 f1 f3 f4 f5, q⟩⟩
theorem sw_trueD {kx vx : Expr} {gs : List Comprehension} {scope : Scope} {pos py : Pos} {y : Str} {l : Nat} {env : Env} (hk : env.scope.kind = .function) (hy : env.scope.names.lookup y = some .local) (hl : (py.line == pos.line) = true)
    (ha : (scope.names.any fun (n, k) => n == y && (k == .local || k == .cell)) = false) : swapsWith (.DictComp kx vx gs scope pos) (some (.Name y py)) l env = pure true := by
  have ky : env.kindOf y = some .local := hy
  have hb : env.blockKind = .function := by unfold Env.blockKind; rw [hk]; rfl
  unfold swapsWith
  simp only [hb, ky, ha, Expr.pos, hl]; rfl
end
end My

set_option Elab.async false
set_option linter.all false
set_option maxRecDepth 100000
namespace My
open PySem PySem.Spec PyProof.Rows L2 GxR

/-! ### dicts with tuple keys: update, dict(pairs) -/
def mergeT (kvs more : List (List Key × V)) : List (List Key × V) := more.foldl (fun acc kv => putK acc kv.1 kv.2) kvs
theorem kt_merge {H : Hp} : ∀ {more : List (List Key × V)} {ys : List (List Key × Addr × Value)} {kvs : List (List Key × V)} {xs : List (List Key × Addr × Value)}, KT H more ys → KT H kvs xs → KT H (mergeT kvs more) (storedAllH xs ys)
  | _, _, _, _, .nil, q => q
  | _, _, kvs, xs, .cons (a := p) (b := q) (l₁ := l) (l₂ := m) h t, r => by
    obtain ⟨h1, h2, h3⟩ := h
    have z := KT.put r p.1 (b := q.2.1) h2 h3
    rw [show storedH xs p.1 q.2.1 q.2.2 = storedH xs q.1 q.2.1 q.2.2 from by rw [h1]] at z
    have w : KT H (mergeT (putK kvs p.1 p.2) l) (storedAllH (storedH xs q.1 q.2.1 q.2.2) m) := kt_merge t z
    exact w
theorem len_mergeT : ∀ (more kvs : List (List Key × V)), (mergeT kvs more).length ≤ kvs.length + more.length
  | [], _ => Nat.le_refl _
  | p :: m, kvs => by
    have h1 := len_mergeT m (putK kvs p.1 p.2)
    have h2 := length_putK kvs p.1 p.2
    rw [List.length_cons]
    show (mergeT (putK kvs p.1 p.2) m).length ≤ _
    omega
theorem valV_mergeT (j : List Key) : ∀ (more kvs : List (List Key × V)), (valV (mergeT kvs more) j).isSome = ((valV kvs j).isSome || (valV more j).isSome)
  | [], kvs => by rw [show valV ([] : List (List Key × V)) j = none from rfl]; exact (Bool.or_false _).symm
  | p :: m, kvs => by
    show (valV (mergeT (putK kvs p.1 p.2) m) j).isSome = _
    rw [valV_mergeT j m, valV_put]
    by_cases h : j = p.1
    · rw [if_pos h, valV_pos h.symm]; simp
    · rw [if_neg h, valV_neg (fun z => h z.symm)]
/-- the keys' hashes differ -/
def Apart (w : World) (more : List (List Key × V)) : Prop := (more.map fun kv => reduceHash (Builtin.Tuple.tupleHashOf (kv.1.map (keyH w)))).Nodup
theorem kt_hash {P : Program} {w : World} {H : Hp} : ∀ {more : List (List Key × V)} {ys : List (List Key × Addr × Value)}, KT H more ys → (ys.map fun x => (tupleKind (mixKind P w)).hash x.1) = more.map fun kv => reduceHash (Builtin.Tuple.tupleHashOf (kv.1.map (keyH w)))
  | _, _, .nil => rfl
  | _, _, .cons (a := p) (b := q) h t => by
    rw [List.map_cons, List.map_cons, kt_hash t]
    have e : q.1 = p.1 := h.1.symm
    rw [e]; rfl
section
variable {X : Cx}
def rUpdT (w : World) : V → List V → Hp → VK → Prop := fun x xs H Q => ∃ a b kvs ms, x = .ref a ∧ xs = [.ref b] ∧ H a = some (.dT kvs) ∧ H b = some (.dT ms) ∧ a ≠ b ∧ kvs.length + ms.length ≤ sizeLine ∧ (kvs ≠ [] ∨ Apart w ms) ∧ Q .non (upd H a (.dT (mergeT kvs ms)))
theorem mt_updT (hu : X.A.units + 65 < cLine) : MtR X "dict.update" (rUpdT X.w) := by
  intro pins s σ H x xs v us Q I rx rs h
  obtain ⟨a, b, kvs, ms, rfl, rfl, ea, eb, hab, hz, hap, q⟩ := h
  cases rx
  obtain ⟨u, rfl, ru⟩ := vals1 rs
  cases ru
  obtain ⟨za, ha, xa, ra, da⟩ := dt_of I.hok ea
  obtain ⟨zb, hb, xb, rb, db⟩ := dt_of I.hok eb
  have la : xa.length = kvs.length := (Paired.length ra).symm
  have lb : xb.length = ms.length := (Paired.length rb).symm
  have hl : (mergeT kvs ms).length ≤ sizeLine := Nat.le_trans (len_mergeT ms kvs) hz
  refine call_update_dictH (tupleKind_room_in1 (by omega : X.A.units + 1 < cLine)) hab hb da db ?_ (by omega) fun h' dd' _ hs => ?_
  · rcases hap with hap | hap
    · refine .inl fun z => hap ?_
      rw [z] at la
      exact List.eq_nil_of_length_eq_zero la.symm
    · refine .inr ⟨fun y hy => ?_, by rw [kt_hash rb]; exact hap⟩
      obtain ⟨o, es, ep, _, _, _, _, his, _⟩ := db
      obtain ⟨o', items, n, e1, e2, _⟩ := his y hy
      exact ⟨o', e1, e2⟩
  · obtain ⟨q', es, ep, hq, h2, h3, h4, _, h5⟩ := dd'
    refine ⟨.non, upd H a (.dT (mergeT kvs ms)), d_write (t' := s.toks) I (by rw [ea]; exact True.intro) hs ⟨q', hq⟩ ⟨hl, ha, _, (kt_merge rb ra).keeps fun c ys ec => ?_, q', es, ep, hq, h2, h3, h4, h5⟩, rfl, q⟩
    rw [upd_ne (ne_of ec ea (fun z => nomatch z))]; exact ec

/-- dict(xs) of a list of pairs (tuple, value) -/
def rDictPT (K : PySem.W.Frag) : List V → Hp → VK → Prop := fun xs H Q => ∃ (a : Addr) (ps : List Addr) (kvs : List (List Key × V)), xs = [.ref a] ∧ SqL K H a (ps.map V.ref) ∧ Paired (fun p kv => ∃ b, H p = some (.tup [.ref b, kv.2]) ∧ H b = some (.tup (kv.1.map kV))) ps kvs ∧
  ∀ p, H p = none → Q (.ref p) (upd H p (.dT (mergeT [] kvs)))
theorem pairsT_of {pins : List (Addr × Obj)} {σ : L2.St} {H : Hp} {s : Shared} (I : Inv X pins σ H s) : ∀ {ps : List Addr} {kvs : List (List Key × V)}, Paired (fun p kv => ∃ b, H p = some (.tup [.ref b, kv.2]) ∧ H b = some (.tup (kv.1.map kV))) ps kvs →
    ∃ prs : List (List Key × Addr × Value), KT H kvs prs ∧ prs.length = ps.length ∧ ∀ (j : Nat) (q : List Key × Addr × Value), prs[j]? = some q → ∃ p, ps[j]? = some p ∧ IsTup s.heap p #[.ref q.2.1, q.2.2]
  | _, _, .nil => ⟨[], .nil, rfl, fun j q e => by simp at e⟩
  | _, _, .cons (a := p) (b := kv) h t => by
    obtain ⟨prs, r, hl, hp⟩ := pairsT_of I t
    obtain ⟨b, h1, h2⟩ := h
    obtain ⟨its, rv, ht, _⟩ := I.tuple (SqT.of (K := X.K) h1)
    obtain ⟨u, y, rfl, ru, ry⟩ := vals2 rv
    cases ru
    refine ⟨(kv.1, b, y) :: prs, .cons ⟨rfl, h2, ry⟩ r, by rw [List.length_cons, List.length_cons, hl], fun j q e => ?_⟩
    cases j with
    | zero =>
      have e' : (kv.1, b, y) = q := Option.some.inj e
      subst e'
      exact ⟨p, rfl, ht⟩
    | succ j =>
      obtain ⟨b', e1, e2⟩ := hp j q (by simpa using e)
      exact ⟨b', by simpa using e1, e2⟩
theorem call_dictPT (hcalm : X.calm = true) (hu : X.A.units + 65 < cLine) : CallR X (.type "dict") (rDictPT X.K) := by
  intro pins s σ H xs us Q I r q
  obtain ⟨a, ps, kvs, rfl, hq, hp, q⟩ := q
  obtain ⟨u, rfl, rx⟩ := vals1 r
  cases rx
  obtain ⟨its, rv, pl, hz⟩ := I.list hq
  have ei := refs_at rv
  subst ei
  rw [List.length_map] at hz
  obtain ⟨prs, rel, hl, hpr⟩ := pairsT_of I hp
  have keyed : ∀ x ∈ prs, (tupleKind (mixKind X.prog X.w)).is s.heap x.1 x.2.1 := by
    intro x hx
    have all : ∀ {l : List (List Key × V)} {m : List (List Key × Addr × Value)}, KT H l m → ∀ x ∈ m, H x.2.1 = some (.tup (x.1.map kV)) := by
      intro l m q
      induction q with
      | nil => intro x hx; exact nomatch hx
      | @cons p q ps qs hq t ih =>
        intro x hx
        rcases List.mem_cons.mp hx with e | hx
        · subst e
          rw [← hq.1]; exact hq.2.1
        · exact ih x hx
    exact L2.key_of I.hok (all rel x hx)
  refine call_dict_pairsH (knd := tupleKind (mixKind X.prog X.w)) (ps := prs) (PairArg.list a (ps.map Value.ref).toArray (fun j => ps.getD j 0) (prs.map fun x => (Value.ref x.2.1, x.2.2))) (I.ok.hd hcalm) (show X.A.units + 1 + 1 < cLine by omega) ⟨pl, ?_, fun j k v e => ?_⟩ ⟨by rw [List.length_map], fun i key v e => ?_⟩ (fun h' hk x hx => ?_) (by rw [List.length_map, hl]; exact hz) fun h' tk dd' hk => ?_
  · rw [List.size_toArray, List.length_map, List.length_map, hl]
  · rw [List.getElem?_map] at e
    obtain ⟨q0, e0, e1⟩ := Option.map_eq_some_iff.mp e
    cases e1
    obtain ⟨p, ep, ht⟩ := hpr j q0 e0
    have ed : ps.getD j 0 = p := by rw [List.getD_eq_getElem?_getD, ep]; rfl
    refine ⟨?_, .inl ?_⟩
    · show _ = some (Value.ref (ps.getD j 0))
      rw [ed, List.getElem?_toArray, List.getElem?_map, ep]; rfl
    · show s.heap.IsTuple (ps.getD j 0) _
      rw [ed]; obtain ⟨o, h1, h2, n, h3⟩ := ht; exact ⟨o, h1, h2, n, h3⟩
  · rw [show PairRel (prs.map fun x => (Value.ref x.2.1, x.2.2)) i key v = ((prs.map fun x => (Value.ref x.2.1, x.2.2))[i]? = some (key, v)) from rfl, List.getElem?_map] at e
    obtain ⟨q0, e0, e1⟩ := Option.map_eq_some_iff.mp e
    cases e1
    exact ⟨q0.1, q0.2.1, e0, rfl⟩
  · obtain ⟨o, items, n, e1, e2, e3, e4⟩ := keyed x hx
    exact ⟨o, items, n, hk _ _ (Nat.ne_of_lt (Heap.lt_size e1)) (fun z => nomatch z) e1, e2, e3, e4⟩
  · have hm : (s.heap.objs.size == sysModules) = false := beq_eq_false_iff_ne.mpr (Nat.ne_of_gt I.big)
    have hlen : (mergeT [] kvs).length ≤ sizeLine := by
      refine Nat.le_trans (len_mergeT kvs []) ?_
      rw [List.length_nil, Nat.zero_add, Paired.length rel, hl]
      exact hz
    obtain ⟨q', es, ep, hq', h2, h3, h4, _, h5⟩ := dd'
    refine ⟨.ref s.heap.objs.size, upd H s.heap.objs.size (.dT (mergeT [] kvs)), I.laid (t' := tk) (fun b o e => hk b o (fun z => nomatch z) e) (Nat.le_refl _) ⟨hlen, hm, _, (kt_merge rel .nil).keeps fun c ys ec => ?_, q', es, ep, hq', h2, h3, h4, h5⟩, rfl, q _ (I.hok.fresh (Nat.le_refl _))⟩
    rw [upd_ne (ne_of_none ec (I.hok.fresh (Nat.le_refl _)))]; exact ec

/-! ### a pair the other way about -/
theorem cut2 {s : Shared} {A : Around} {E : Value → Shared → Prop} {sl : Addr} {vs : Value} {Q : Int × Int × Nat → Shared → Prop} (hs : s.heap.IsSliceOf sl .none .none vs) (ps : IsPart vs (some (-1))) (h : Q (1, -1, 2) s) :
    wpAny (model X.prog X.w) A (Builtin.Slice.sliceApplied (.ref sl) (pure (2 : Int))) Q E s := by
  obtain ⟨os, hos, hcs, hds⟩ := id hs
  unfold Builtin.Slice.sliceApplied Builtin.Slice.sliceFields
  refine wpAny_bind (wpAny_bind (wpAny_field hos hds (x := .none) rfl (wpAny_bind (wpAny_field hos hds (x := .none) rfl (wpAny_bind (wpAny_field hos hds (x := vs) rfl (wpAny_pure ?_)))))))
  refine wpAny_bind (HT.slicePart_ ps ?_)
  show wpAny _ _ (if ((-1 : Int) == 0) = true then _ else _) _ _ s
  rw [if_neg (by decide)]
  refine wpAny_bind (HT.slicePart_ .none (wpAny_bind (HT.slicePart_ .none (wpAny_bind (wpAny_pure ?_)))))
  exact wpAny_pure h
theorem pick2 (x y : Value) : ((List.range 2).filterMap fun (m : Nat) => (#[x, y] : Array Value)[((1 : Int) + (m : Int) * -1).toNat]?).toArray = #[y, x] := rfl
theorem rev2 {s : Shared} {A : Around} {E : Value → Shared → Prop} {t sl : Addr} {x y vs : Value} {Q : Value → Shared → Prop} (ht : IsTup s.heap t #[x, y]) (hs : s.heap.IsSliceOf sl .none .none vs) (ps : IsPart vs (some (-1)))
    (h : Q (.ref s.heap.objs.size) { s with heap := s.heap.push { cls := .type "tuple", data := .seq #[y, x] } }) : wpAny (model X.prog X.w) A (getItem (.ref t) (.ref sl)) Q E s := by
  obtain ⟨os, hos, hcs, hds⟩ := id hs
  have hTs : s.TypeIs (.ref sl) "slice" := ⟨os, hos, hcs⟩
  have hz : sizeOk (.seq #[y, x]) := by show 2 ≤ sizeLine; decide
  unfold getItem
  try with_reducible refine wpAny_holding ?_
  first | refine wpAny_bind (wpAny_pure ?_) | skip
  refine wpAny_bind (wpAny_sequenceKey ht.typeIs (by decide) ?_)
  refine wpAny_bind (wpAny_callSpecial?_slot (name := Str.ofString "__getitem__") ht.typeIs PyProof.Rows.slot_tuple_getitem (wpAny_call_entry PyProof.Rows.slot_tuple_getitem ht.typeIs entry_tuple_getitem ?_ (args_tuple_getitem _ _)))
  show wpAny _ _ (Builtin.Tuple.tupleItemsOf (.ref t) >>= _) _ _ s
  refine wpAny_bind (tupleItemsOf_ ht (wpAny_bind (wpAny_typeOf hTs ?_)))
  rw [if_pos (by decide)]
  refine wpAny_bind (cut2 hs ps ?_)
  show wpAny _ _ (if ((1 : Int) == 0 && (-1 : Int) == 1 && (2 : Nat) == 2) = true then _ else _) _ _ s
  rw [if_neg (by decide), pick2]
  first
    | exact wpAny_bind (m := Builtin.Tuple.tupleExact _) (wpAny_newObj_type (wpAny_pure ⟨_, rfl, wpAny_pure h⟩) hz)
    | exact wpAny_bind (m := Builtin.Tuple.tupleExact _) (wpAny_newObj_type (wpAny_bind (wpAny_pure (wpAny_pure ⟨_, rfl, wpAny_pure h⟩))) hz)
    | exact wpAny_bind (wpAny_bind (m := Builtin.Tuple.tupleExact _) (wpAny_newObj_type (wpAny_pure (wpAny_pure ⟨_, rfl, wpAny_pure h⟩)) hz))
    | exact wpAny_bind (wpAny_bind (m := Builtin.Tuple.tupleExact _) (wpAny_newObj_type (wpAny_pure ⟨_, rfl, wpAny_pure h⟩) hz))
def tRev2 (te : TE) : TE := fun σ H Q => te σ H fun x H1 => ∃ a u v, x = .ref a ∧ H1 a = some (.tup [u, v]) ∧ ∀ p, H1 p = none → Q (.ref p) (upd H1 p (.tup [v, u]))
theorem pe_rev2 {e : Expr} {te : TE} {k : Nat} {p1 p2 p3 pos : Pos} (he : PE X e te) : PE X (.Subscript e (.Slice none none (some (.UnaryOp .USub (.Constant (.int 1) k p1) p2)) p3) pos) (tRev2 te) := by
  refine ⟨fun pins s σ H Q I h => Subscript_ (thn (he.run pins s σ H _ I h) fun v s1 ⟨x, H1, I1, r1, a, x0, x1, ex, hx, q⟩ => ?_)⟩
  subst ex; cases r1
  have hst : PO X (some (.UnaryOp .USub (.Constant (.int 1) k p1) p2)) (tPart (tUn (rU fun i => .int (-i)) (tC (.int 1)))) := po_some (pe_un un_neg pe_int)
  refine wpAny_Slice (thn (po_none.run pins s1 σ H1 (fun o H2 => o = none ∧ H2 = H1) I1 ⟨rfl, rfl⟩) fun vl s2 ⟨l, H2, I2, pl, el, e2⟩ => ?_); subst el e2
  refine thn (po_none.run pins s2 σ H2 (fun o H3 => o = none ∧ H3 = H2) I2 ⟨rfl, rfl⟩) fun vu s3 ⟨u, H3, I3, pu, eu, e3⟩ => ?_; subst eu e3
  refine thn (hst.run pins s3 σ H3 (fun o H4 => o = some (-1) ∧ H4 = H3) I3 ⟨1, rfl, -1, rfl, rfl, rfl⟩) fun vs s4 ⟨o, H4, I4, ps, eo, e4⟩ => ?_; subst eo e4
  cases pl; cases pu
  generalize hs5 : ({ s4 with heap := s4.heap.push { cls := .type "slice", data := .fields #[.none, .none, vs] } } : Shared) = s5
  have I5 : Inv X pins σ H4 s5 := by
    rw [← hs5]
    exact I4.kept (t' := s4.toks) fun b ob q => Heap.get?_push_of_some _ q
  obtain ⟨its, r, ht, hz⟩ := I5.tuple (SqT.of (K := X.K) hx)
  obtain ⟨u0, u1, rfl, r0, r1⟩ := vals2 r
  have hsl : s5.heap.IsSliceOf s4.heap.objs.size .none .none vs := by rw [← hs5]; exact Heap.IsSliceOf.new _ _ _ _
  refine (?_ : wpAny (model X.prog X.w) X.A (subscriptTail e (.Slice none none (some (.UnaryOp .USub (.Constant (.int 1) k p1) p2)) p3) (.ref a) (.ref s4.heap.objs.size)) (EP X pins σ Q) X.xe s5)
  refine tail_any (ops := [.ref a, .ref s4.heap.objs.size]) ht.typeIs (PyProof.Rows.slot_tuple_getitem.lookup) ?_ (by with_unfolding_all rfl)
  refine rev2 ht hsl ps ⟨.ref _, _, I5.laid (t' := s5.toks) (o := .tup [x1, x0]) (fun b ob q => Heap.get?_push_of_some _ q) (Nat.le_refl _) ?_, rfl, q _ (I5.hok.fresh (Nat.le_refl _))⟩
  exact ⟨by show 2 ≤ sizeLine; decide, [u1, u0], .cons r1 (.cons r0 .nil), IsTup.new _ _⟩

/-! ### {k: v} -/
def tDisp1 (o0 : HO) (tk tv : TE) : TE := fun σ H Q => ∀ p, H p = none → tk σ (upd H p o0) fun x H1 => tv σ H1 fun y H2 => ∃ H3, DPut H2 p x y H3 ∧ Q (.ref p) H3
theorem pe_disp1 {o0 : HO} {k v : Expr} {tk tv : TE} {pos : Pos} (em : Empt o0) (hu : X.A.units + 1 < cLine) (hk : PE X k tk) (hv : PE X v tv) : PE X (.Dict [some k] [v] pos) (tDisp1 o0 tk tv) := by
  refine ⟨fun pins s σ H Q I q => ?_⟩
  have hn := I.hok.fresh (Nat.le_refl s.heap.objs.size)
  have I1 := I.laid (a := s.heap.objs.size) (o := o0) (h' := s.heap.push { cls := .type "dict", data := .dict #[] }) (t' := s.toks) (fun _ _ q => Heap.get?_push_of_some _ q) (Nat.le_refl _) (em _ _ _ _ I.big)
  refine wpAny_Dict_any rfl rfl (by exact fun z => nomatch z) (by show 1 ≤ 15; decide) ?_
  refine pairTrees_cons_walk (thn (hk.run pins _ σ _ _ I1 (q _ hn)) fun u s1 ⟨x, H1, J1, rx, q1⟩ => thn (hv.run pins s1 σ H1 _ J1 q1) fun w2 s2 ⟨y, H2, J2, ry, H3, pu, q2⟩ => ?_)
  refine pairTrees_nil_walk ?_
  unfold storeAll
  rw [List.forIn_cons]
  refine wpAny_bind (wpAny_bind (d_dictPut hu J2 pu rx ry fun s3 J3 => wpAny_pure ?_))
  show wpAny _ _ (forIn [] PUnit.unit _) _ _ s3
  rw [List.forIn_nil]
  exact wpAny_pure ⟨.ref s.heap.objs.size, H3, J3, rfl, q2⟩
end
/-! ### hashes of pairs of places -/
def hv (a b : Nat) : Int := reduceHash (Builtin.Tuple.tupleHashOf [hashInt (a : Int), hashInt (b : Int)])
theorem hv_nd : ((List.range 144).map fun k => hv (k / 12) (k % 12)).Nodup := by decide +kernel
def pk (t : Int × Int) : List Key := [Sum.inl t.1, Sum.inl t.2]
theorem pk_inj {s t : Int × Int} (h : pk s = pk t) : s = t := by
  cases s; cases t; cases h; rfl
theorem hv_inj {a b c d : Nat} (ha : a < 12) (hb : b < 12) (hc : c < 12) (hd : d < 12) (h : hv a b = hv c d) : a = c ∧ b = d := by
  have pw := List.pairwise_iff_getElem.mp (List.nodup_iff_pairwise_ne.mp hv_nd)
  have l : ((List.range 144).map fun k => hv (k / 12) (k % 12)).length = 144 := by rw [List.length_map, List.length_range]
  have g : ∀ k (hk : k < ((List.range 144).map fun k => hv (k / 12) (k % 12)).length), ((List.range 144).map fun k => hv (k / 12) (k % 12))[k] = hv (k / 12) (k % 12) := fun k hk => by
    rw [List.getElem_map, List.getElem_range]
  have e1 : (12 * a + b) / 12 = a := by omega
  have e2 : (12 * a + b) % 12 = b := by omega
  have e3 : (12 * c + d) / 12 = c := by omega
  have e4 : (12 * c + d) % 12 = d := by omega
  have hi : 12 * a + b < ((List.range 144).map fun k => hv (k / 12) (k % 12)).length := by omega
  have hj : 12 * c + d < ((List.range 144).map fun k => hv (k / 12) (k % 12)).length := by omega
  rcases Nat.lt_trichotomy (12 * a + b) (12 * c + d) with z | z | z
  · have := pw _ _ hi hj z
    rw [g, g, e1, e2, e3, e4] at this
    exact absurd h this
  · omega
  · have := pw _ _ hj hi z
    rw [g, g, e1, e2, e3, e4] at this
    exact absurd h.symm this
/-- keys that are pairs of places below twelve -/
theorem apart_pk {w : World} {ms : List (List Key × V)} {cs : List (Int × Int)} (hk : ms.map (·.1) = cs.map pk) (nd : cs.Nodup) (hr : ∀ t ∈ cs, 0 ≤ t.1 ∧ t.1 < 12 ∧ 0 ≤ t.2 ∧ t.2 < 12) : Apart w ms := by
  unfold Apart
  have e : (ms.map fun kv => reduceHash (Builtin.Tuple.tupleHashOf (kv.1.map (keyH w)))) = cs.map fun t => reduceHash (Builtin.Tuple.tupleHashOf ((pk t).map (keyH w))) := by
    have := congrArg (List.map fun k => reduceHash (Builtin.Tuple.tupleHashOf (k.map (keyH w)))) hk
    rw [List.map_map, List.map_map] at this
    exact this
  rw [e, List.nodup_iff_pairwise_ne, List.pairwise_map]
  refine (List.nodup_iff_pairwise_ne.mp nd).imp_of_mem fun {s t} hs ht ne h => ne ?_
  have bs := hr s hs
  have bt := hr t ht
  have hh : ∀ t : Int × Int, 0 ≤ t.1 → 0 ≤ t.2 → reduceHash (Builtin.Tuple.tupleHashOf ((pk t).map (keyH w))) = hv t.1.toNat t.2.toNat := fun t h1 h2 => by
    unfold hv
    rw [Int.toNat_of_nonneg h1, Int.toNat_of_nonneg h2]; rfl
  rw [hh s bs.1 bs.2.2.1, hh t bt.1 bt.2.2.1] at h
  obtain ⟨h1, h2⟩ := hv_inj (by omega) (by omega) (by omega) (by omega) h
  exact Prod.ext (by omega) (by omega)
def JoinA (kvs : List (List Key × V)) (C : List (Int × Int)) : Prop := ∀ o : Int × Int, (valV kvs (pk o)).isSome = decide (o ∈ C)
theorem joinA_put {kvs : List (List Key × V)} {C : List (Int × Int)} (h : JoinA kvs C) (t : Int × Int) (v : V) : JoinA (putK kvs (pk t) v) (C ++ [t]) := fun o => by
  rw [valV_put]
  by_cases e : o = t
  · subst e
    rw [if_pos rfl]
    exact (decide_eq_true (List.mem_append_right _ (List.mem_singleton.mpr rfl))).symm
  · rw [if_neg (fun z => e (pk_inj z)), h o]
    refine decide_eq_decide.mpr ?_
    rw [List.mem_append, List.mem_singleton]
    exact ⟨.inl, fun z => z.elim id fun z => absurd z e⟩
end My

set_option Elab.async false
set_option linter.all false
set_option maxRecDepth 100000
namespace My
open PySem PySem.Spec PyProof.Rows L2 GxR

/-! ### in, of tuples -/
def rInDT (K : PySem.W.Frag) : R2 := fun x y H Q => ∃ d ds, Dp K H x d ∧ Dp K H y (.tuple ds) ∧ SeqAt.shaped d = true ∧ SeqAt.shaped (.tuple ds) = true ∧ Q (.bl (ds.any fun z => PyData.eqv z d)) H
theorem op_inDT {X : Cx} (hu : X.A.units + 65 < cLine) : OpR X (compareOp .In) (rInDT X.K) := fun pins s σ H x y v u Q I rx ry ⟨d, ds, hd, he, sd, se, q⟩ => by
  obtain ⟨as, r1⟩ := Dp.reads I d x v hd rx
  obtain ⟨bs, r2⟩ := Dp.reads I (.tuple ds) y u he ry
  exact SeqAt.in_tuple_reads r2 r1 (SeqAt.canLay_of_shaped se) (SeqAt.canLay_of_shaped sd) (room_in_shaped sd hu) ⟨.bl _, H, I, rfl, q⟩
theorem shaped_tup (ts : List (Int × Int)) : SeqAt.shaped (.tuple (ts.map dT)) = true := by
  unfold SeqAt.shaped
  rw [Bool.and_eq_true, decide_eq_true_eq]
  refine ⟨can_ties ts, ?_⟩
  show PyData.depthAll _ + 1 ≤ 64
  have := dep_ties ts
  omega
theorem any_dT (ts : List (Int × Int)) (t : Int × Int) : ((ts.map dT).any fun z => PyData.eqv z (dT t)) = decide (t ∈ ts) := by
  induction ts with
  | nil => rfl
  | cons a l ih =>
    rw [List.map_cons, List.any_cons, ih, eqv_dT]
    by_cases h : a = t
    · subst h; simp
    · have h' : ¬ t = a := fun e => h e.symm
      simp [h, h']

/-! ### ties of two places, gaps -/
def tieO (a b : Int) : Int × Int := if a < b then (a, b) else (b, a)
theorem tieO_tied {n : Nat} {ts : List (Int × Int)} (hw : WOk n ts) (a b : Int) : tieO a b ∈ ts ↔ ((a, b) ∈ ts ∨ (b, a) ∈ ts) := by
  unfold tieO
  split
  · rename_i h
    constructor
    · exact .inl
    · rintro (z | z)
      · exact z
      · have := hw.2 _ z; dsimp only at this; omega
  · rename_i h
    constructor
    · exact .inr
    · rintro (z | z)
      · have := hw.2 _ z; dsimp only at this; omega
      · exact z
def gapsF (ts : List (Int × Int)) (l : List (Int × Int)) : List (Int × Int) := l.filter fun t => !decide (t ∈ ts)
theorem gaps_app (ts l m : List (Int × Int)) : gapsF ts (l ++ m) = gapsF ts l ++ gapsF ts m := List.filter_append ..
theorem gaps_one (ts : List (Int × Int)) (t : Int × Int) : gapsF ts [t] = if t ∈ ts then [] else [t] := by
  unfold gapsF
  by_cases h : t ∈ ts <;> simp [h]
theorem gaps_sub (ts l : List (Int × Int)) : (gapsF ts l).Sublist l := List.filter_sublist
theorem gaps_len {n : Nat} {ts : List (Int × Int)} (hn : n ≤ 100) : (gapsF ts (pup n n)).length ≤ 10000 := Nat.le_trans (gaps_sub _ _).length_le (pup_len' hn (Nat.le_refl n))
theorem gaps_wok {n : Nat} (ts : List (Int × Int)) : WOk n (gapsF ts (pup n n)) := wok_sub (gaps_sub _ _)
theorem pw_ext {l m : List (Int × Int)} (hl : l.Pairwise ltT) (hm : m.Pairwise ltT) (h : ∀ t, t ∈ l ↔ t ∈ m) : l = m := by
  have nd : ∀ {k : List (Int × Int)}, k.Pairwise ltT → k.Nodup := fun hk => List.nodup_iff_pairwise_ne.mpr (hk.imp fun {s t} h e => by subst e; exact ltT_irr h)
  refine List.Perm.eq_of_pairwise (le := ltT) (fun a b _ _ h1 h2 => by rcases h1 with z | ⟨z, y⟩ <;> rcases h2 with u | ⟨u, v⟩ <;> omega) hl hm ((List.perm_ext_iff_of_nodup (nd hl) (nd hm)).mpr h)
theorem gaps_gaps {n : Nat} {ts : List (Int × Int)} (hw : WOk n ts) : gapsF (gapsF ts (pup n n)) (pup n n) = ts := by
  refine pw_ext (gaps_wok _).1 hw.1 fun t => ?_
  unfold gapsF
  rw [List.mem_filter, Bool.not_eq_true', decide_eq_false_iff_not, List.mem_filter, Bool.not_eq_true', decide_eq_false_iff_not]
  constructor
  · rintro ⟨h1, h2⟩
    exact Classical.byContradiction fun z => h2 ⟨h1, z⟩
  · intro h
    refine ⟨(mem_pup (Nat.le_refl n)).mpr ?_, fun z => z.2 h⟩
    have := hw.2 t h
    omega
def JoinD (kvs : List (List Key × V)) (ts : List (Int × Int)) : Prop := ∀ a b : Int, (valV kvs [Sum.inl a, Sum.inl b]).isSome = decide ((a, b) ∈ ts)
theorem join_put {kvs : List (List Key × V)} {ts : List (Int × Int)} (h : JoinD kvs ts) (t : Int × Int) (v : V) : JoinD (putK kvs [Sum.inl t.1, Sum.inl t.2] v) (ts ++ [t]) := fun a b => by
  rw [valV_put]
  cases t with | mk x y =>
  dsimp only
  by_cases h2 : a = x ∧ b = y
  · obtain ⟨rfl, rfl⟩ := h2
    rw [if_pos rfl]
    exact (decide_eq_true (List.mem_append_right _ (List.mem_singleton.mpr rfl))).symm
  · have n2 : ¬ ([Sum.inl a, Sum.inl b] : List Key) = [Sum.inl x, Sum.inl y] := fun e => by
      cases e; exact h2 ⟨rfl, rfl⟩
    rw [if_neg n2, h a b]
    refine decide_eq_decide.mpr ?_
    rw [List.mem_append, List.mem_singleton]
    constructor
    · exact .inl
    · rintro (z | z)
      · exact z
      · cases z; exact absurd ⟨rfl, rfl⟩ h2

end My

set_option Elab.async false
set_option linter.all false
set_option maxRecDepth 100000
namespace My
open PySem PySem.Spec PyProof.Rows L2 GxR

def NearD (kvs : List (List Key × V)) (ts : List (Int × Int)) : Prop := ∀ a b : Int, (valV kvs [Sum.inl a, Sum.inl b]).isSome = decide ((a, b) ∈ ts ∨ (b, a) ∈ ts)
theorem near_put {kvs : List (List Key × V)} {ts : List (Int × Int)} (h : NearD kvs ts) (t : Int × Int) (u v : V) :
    NearD (putK (putK kvs [Sum.inl t.1, Sum.inl t.2] v) [Sum.inl t.2, Sum.inl t.1] u) (ts ++ [t]) := fun a b => by
  rw [valV_put, valV_put]
  cases t with | mk x y =>
  dsimp only
  by_cases h1 : a = y ∧ b = x
  · obtain ⟨rfl, rfl⟩ := h1
    rw [if_pos rfl]
    exact (decide_eq_true (.inr (List.mem_append_right _ (List.mem_singleton.mpr rfl)))).symm
  · have n1 : ¬ ([Sum.inl a, Sum.inl b] : List Key) = [Sum.inl y, Sum.inl x] := fun e => by
      cases e; exact h1 ⟨rfl, rfl⟩
    rw [if_neg n1]
    by_cases h2 : a = x ∧ b = y
    · obtain ⟨rfl, rfl⟩ := h2
      rw [if_pos rfl]
      exact (decide_eq_true (.inl (List.mem_append_right _ (List.mem_singleton.mpr rfl)))).symm
    · have n2 : ¬ ([Sum.inl a, Sum.inl b] : List Key) = [Sum.inl x, Sum.inl y] := fun e => by
        cases e; exact h2 ⟨rfl, rfl⟩
      rw [if_neg n2, h a b]
      refine decide_eq_decide.mpr ?_
      rw [List.mem_append, List.mem_append, List.mem_singleton, List.mem_singleton]
      constructor
      · rintro (z | z)
        · exact .inl (.inl z)
        · exact .inr (.inl z)
      · rintro ((z | z) | (z | z))
        · exact .inl z
        · cases z; exact absurd ⟨rfl, rfl⟩ h2
        · exact .inr z
        · cases z; exact absurd ⟨rfl, rfl⟩ h1

section
variable {P : Program} {w : World} {K : PySem.W.Frag} {mg : Str → Option Value} {base : Heap}
/-! ### _law_near -/
abbrev s__law_near : Stmt := topS 24
abbrev N__law_near : List Str := ["_law_web_here", "_law_found", "_law_a", "_law_b"]
theorem sc__law_near : FnScope N__law_near ["_law_web_here"] (defScope s__law_near) := ⟨rfl, rfl, rfl, by decide +kernel, rfl, by decide +kernel, by decide +kernel⟩
def sp_near : Sp := fun vs H Q _ => ∃ (v : V) (n : Nat) (ts : List (Int × Int)), vs = [v] ∧ Web H v n ts ∧ ts.length ≤ 10000 ∧
  ∀ D kvs H', H D = none → Same H H' → H' D = some (.dT kvs) → NearD kvs ts → Q (.ref D) H'
theorem ok_near {f : Addr} {fd : FuncData} (B : Bts mg) (F : Fun K "_law_near" "_law_near" s__law_near f fd) : FnOk P w K mg base CX0 1 f fd ["_law_web_here"] sp_near := by
  refine F.ok sc__law_near (fun vs H Q E h => ?_) (fun cdv A outer s H vs Q E hr h => ?_)
  · obtain ⟨v, n, t, rfl, _⟩ := h; rfl
  · obtain ⟨v, n, ts, rfl, ⟨p, q', us, rfl, ep, eq, hT⟩, hl, q⟩ := h
    refine ⟨_, (pss_cons (ps_set (i := 1) sc__law_near.nd rfl (by first | exact Or.inl rfl | exact Or.inr rfl) pe_dnewT)
    (pss_cons (ps_for PassesOwn.never rfl (pi_tup (pe_ix ix_tup (pv 0) pe_int (fun _ _ => rfl))) (pg_tup rfl (pgs_cons (pg_name (i := 2) sc__law_near.nd rfl (by first | exact Or.inl rfl | exact Or.inr rfl)) (pgs_cons (pg_name (i := 3) sc__law_near.nd rfl (by first | exact Or.inl rfl | exact Or.inr rfl)) pgs_nil)))
      (pss_cons (ps_dput (hu_of hr) (pv 1) (pe_tup (pa_cons (pv 2) (pa_cons (pv 3) pa_nil))) pe_bl rfl)
      (pss_one (ps_dput (hu_of hr) (pv 1) (pe_tup (pa_cons (pv 3) (pa_cons (pv 2) pa_nil))) pe_bl rfl))))
    (pss_one (ps_ret (pv 1))))), fun D nD => ?_⟩
    have s1 := same_new (o := .dT []) nD
    refine ⟨_, rfl, p, _, _, _, rfl, rfl, SqT.of (s1 _ _ ep), rfl, q', rfl, ⟨_, SqT.of (s1 _ _ eq)⟩, ?_⟩
    refine for_tup (K := K) (a := q') (xs := us) (fun i σ H1 => ∃ kvs y2 y3, σ = [some (.ref p), some (.ref D), y2, y3] ∧ Same H H1 ∧ H1 D = some (.dT kvs) ∧ kvs.length ≤ 2 * i ∧ NearD kvs (ts.take i))
      ⟨[], none, none, rfl, s1, upd_same, Nat.zero_le _, fun a b => by exact (decide_eq_false (by simp)).symm⟩ ?_ ?_ ?_
    · rintro i σ H1 _ ⟨_, _, _, _, sm, _⟩
      exact SqT.of (sm _ _ eq)
    · rintro i x σ H1 hx ⟨kvs, y2, y3, rfl, sm, eD, kl, hN⟩
      obtain ⟨t, et, ht⟩ := hT.at hx
      have hi : i < us.length := (List.getElem?_eq_some_iff.mp hx).1
      have hu := hT.len
      obtain ⟨pt, rfl, ept⟩ := ht.mono (Same.tst sm)
      refine ⟨pt, _, rfl, SqT.of ept, rfl, _, _, rfl, _, _, rfl, rfl, ?_⟩
      refine ⟨_, rfl, _, rfl, _, rfl, by show 2 ≤ sizeLine; decide, fun k1 n1 => ?_⟩
      have e1 : (upd H1 k1 (.tup [.int t.1, .int t.2])) D = some (.dT kvs) := (same_new n1) _ _ eD
      refine ⟨D, _, rfl, DPut.t (k := [Sum.inl t.1, Sum.inl t.2]) e1 upd_same (sz' (by omega)), ?_⟩
      refine ⟨_, rfl, _, rfl, _, rfl, by show 2 ≤ sizeLine; decide, fun k2 n2 => ?_⟩
      have e2 : (upd (upd (upd H1 k1 (.tup [.int t.1, .int t.2])) D (.dT (putK kvs [Sum.inl t.1, Sum.inl t.2] (.bl true)))) k2 (.tup [.int t.2, .int t.1])) D = some (.dT (putK kvs [Sum.inl t.1, Sum.inl t.2] (.bl true))) := (same_new n2) _ _ upd_same
      have l2 := len_put kvs [Sum.inl t.1, Sum.inl t.2] (.bl true)
      refine ⟨D, _, rfl, DPut.t (k := [Sum.inl t.2, Sum.inl t.1]) e2 upd_same (sz' (by omega)), ?_⟩
      have l3 := len_put (putK kvs [Sum.inl t.1, Sum.inl t.2] (.bl true)) [Sum.inl t.2, Sum.inl t.1] (.bl true)
      refine ⟨_, _, _, rfl, ?_, upd_same, by omega, ?_⟩
      · exact Same.put ((Same.put (sm.trans (same_new n1)) nD).trans (same_new n2)) nD
      · rw [List.take_add_one, et]
        exact near_put hN t _ _
    · rintro σ H1 ⟨kvs, y2, y3, rfl, sm, eD, kl, hN⟩
      rw [hT.len, List.take_length] at hN
      exact ⟨_, rfl, q D kvs H1 nD sm eD hN⟩

end
end My

set_option Elab.async false
set_option linter.all false
set_option maxRecDepth 100000
namespace My
open PySem PySem.Spec PyProof.Rows L2 GxR

/-! ### forcings: what the law's own going on makes -/
abbrev Ar := Int × Int
def sw (t : Ar) : Ar := (t.2, t.1)
theorem sw_sw (t : Ar) : sw (sw t) = t := rfl
def InR (n : Nat) (t : Ar) : Prop := 0 ≤ t.1 ∧ t.1 < (n : Int) ∧ 0 ≤ t.2 ∧ t.2 < (n : Int)
def allP (n : Nat) : List Ar := (up n).flatMap fun a => (up n).map fun b => (a, b)
theorem mem_allP {n : Nat} {t : Ar} : t ∈ allP n ↔ InR n t := by
  unfold allP InR
  rw [List.mem_flatMap]
  constructor
  · rintro ⟨a, ha, h⟩
    obtain ⟨b, hb, rfl⟩ := List.mem_map.mp h
    have h1 := mem_up.mp ha
    have h2 := mem_up.mp hb
    exact ⟨h1.1, h1.2, h2.1, h2.2⟩
  · rintro ⟨h1, h2, h3, h4⟩
    exact ⟨t.1, mem_up.mpr ⟨h1, h2⟩, List.mem_map.mpr ⟨t.2, mem_up.mpr ⟨h3, h4⟩, rfl⟩⟩
theorem up_pw' (n : Nat) : (up n).Pairwise (· < ·) := by
  unfold up
  rw [List.pairwise_map]
  exact List.pairwise_lt_range.imp fun {x y} h => Int.ofNat_lt.mpr h
theorem allP_pw (n : Nat) : (allP n).Pairwise ltT := by
  unfold allP
  rw [List.pairwise_flatMap]
  refine ⟨fun a _ => ?_, (up_pw' n).imp fun {a b} h x hx y hy => ?_⟩
  · rw [List.pairwise_map]
    exact (up_pw' n).imp fun h => .inr ⟨rfl, h⟩
  · obtain ⟨_, _, rfl⟩ := List.mem_map.mp hx
    obtain ⟨_, _, rfl⟩ := List.mem_map.mp hy
    exact .inl h
theorem allP_len (n : Nat) : (allP n).length = n * n := by
  unfold allP
  have : ∀ l : List Int, (l.flatMap fun a => (up n).map fun b => (a, b)).length = l.length * n := by
    intro l
    induction l with
    | nil => exact (Nat.zero_mul _).symm
    | cons a l ih => rw [List.flatMap_cons, List.length_append, ih, List.length_map, up_len, List.length_cons, Nat.succ_mul, Nat.add_comm]
  rw [this, up_len]
theorem nd_pw {l : List Ar} (h : l.Pairwise ltT) : l.Nodup := List.nodup_iff_pairwise_ne.mpr (h.imp fun {s t} h e => by subst e; exact ltT_irr h)
def nrB (ts : List Ar) (a b : Int) : Bool := decide ((a, b) ∈ ts ∨ (b, a) ∈ ts)
def tA (ts : List Ar) (a b c : Int) : Bool := !decide (c = b) && (nrB ts a c && !nrB ts b c)
def tB' (ts : List Ar) (a b c : Int) : Bool := !decide (c = a) && (nrB ts c b && !nrB ts a c)
def frcA (ts : List Ar) (a b : Int) (l : List Int) : List Ar := (l.filter (tA ts a b)).map fun c => (a, c)
def frcB (ts : List Ar) (a b : Int) (l : List Int) : List Ar := (l.filter (tB' ts a b)).map fun c => (c, b)
def frcL (n : Nat) (ts : List Ar) (t : Ar) : List Ar := frcA ts t.1 t.2 (up n) ++ frcB ts t.1 t.2 (up n)
theorem frcA_step (ts : List Ar) (a b : Int) (l : List Int) (c : Int) : frcA ts a b (l ++ [c]) = frcA ts a b l ++ (if tA ts a b c = true then [(a, c)] else []) := by
  unfold frcA
  rw [List.filter_append, List.map_append]
  by_cases h : tA ts a b c = true
  · rw [if_pos h, List.filter_cons_of_pos h]; rfl
  · rw [if_neg h, List.filter_cons_of_neg h]; rfl
theorem frcB_step (ts : List Ar) (a b : Int) (l : List Int) (c : Int) : frcB ts a b (l ++ [c]) = frcB ts a b l ++ (if tB' ts a b c = true then [(c, b)] else []) := by
  unfold frcB
  rw [List.filter_append, List.map_append]
  by_cases h : tB' ts a b c = true
  · rw [if_pos h, List.filter_cons_of_pos h]; rfl
  · rw [if_neg h, List.filter_cons_of_neg h]; rfl
theorem frcA_len (ts : List Ar) (a b : Int) (l : List Int) : (frcA ts a b l).length ≤ l.length := by
  unfold frcA; rw [List.length_map]; exact List.length_filter_le _ _
theorem frcB_len (ts : List Ar) (a b : Int) (l : List Int) : (frcB ts a b l).length ≤ l.length := by
  unfold frcB; rw [List.length_map]; exact List.length_filter_le _ _
theorem mem_frc {n : Nat} {ts : List Ar} {t x : Ar} : x ∈ frcL n ts t ↔
    (x.1 = t.1 ∧ 0 ≤ x.2 ∧ x.2 < (n : Int) ∧ tA ts t.1 t.2 x.2 = true) ∨ (x.2 = t.2 ∧ 0 ≤ x.1 ∧ x.1 < (n : Int) ∧ tB' ts t.1 t.2 x.1 = true) := by
  unfold frcL frcA frcB
  rw [List.mem_append, List.mem_map, List.mem_map]
  constructor
  · rintro (⟨c, hc, rfl⟩ | ⟨c, hc, rfl⟩)
    · obtain ⟨h1, h2⟩ := List.mem_filter.mp hc
      have := mem_up.mp h1
      exact .inl ⟨rfl, this.1, this.2, h2⟩
    · obtain ⟨h1, h2⟩ := List.mem_filter.mp hc
      have := mem_up.mp h1
      exact .inr ⟨rfl, this.1, this.2, h2⟩
  · rintro (⟨h1, h2, h3, h4⟩ | ⟨h1, h2, h3, h4⟩)
    · exact .inl ⟨x.2, List.mem_filter.mpr ⟨mem_up.mpr ⟨h2, h3⟩, h4⟩, Prod.ext h1.symm rfl⟩
    · exact .inr ⟨x.1, List.mem_filter.mpr ⟨mem_up.mpr ⟨h2, h3⟩, h4⟩, Prod.ext rfl h1.symm⟩
theorem frc_nd (n : Nat) (ts : List Ar) (t : Ar) : (frcL n ts t).Nodup := by
  unfold frcL frcA frcB
  rw [List.nodup_append]
  refine ⟨?_, ?_, fun x hx y hy e => ?_⟩
  · rw [List.nodup_iff_pairwise_ne, List.pairwise_map]
    exact ((List.nodup_iff_pairwise_ne.mp (up_nodup n)).sublist List.filter_sublist).imp fun h e => h (Prod.ext_iff.mp e).2
  · rw [List.nodup_iff_pairwise_ne, List.pairwise_map]
    exact ((List.nodup_iff_pairwise_ne.mp (up_nodup n)).sublist List.filter_sublist).imp fun h e => h (Prod.ext_iff.mp e).1
  · subst e
    obtain ⟨c, hc, rfl⟩ := List.mem_map.mp hx
    obtain ⟨d, hd, e⟩ := List.mem_map.mp hy
    have h1 := (List.mem_filter.mp hc).2
    have e2 := (Prod.ext_iff.mp e).2
    unfold tA at h1
    rw [Bool.and_eq_true, Bool.not_eq_true', decide_eq_false_iff_not] at h1
    exact h1.1 e2.symm
theorem frc_rng {n : Nat} {ts : List Ar} {t x : Ar} (ht : InR n t) (h : x ∈ frcL n ts t) : InR n x := by
  obtain ⟨a1, a2, a3, a4⟩ := ht
  rcases mem_frc.mp h with ⟨h1, h2, h3, _⟩ | ⟨h1, h2, h3, _⟩
  · exact ⟨by omega, by omega, h2, h3⟩
  · exact ⟨h2, h3, by omega, by omega⟩
/-- the forced ones, rising -/
def frcS (n : Nat) (ts : List Ar) (t : Ar) : List Ar := (allP n).filter fun x => decide (x ∈ frcL n ts t)
theorem mem_frcS {n : Nat} {ts : List Ar} {t x : Ar} (ht : InR n t) : x ∈ frcS n ts t ↔ x ∈ frcL n ts t := by
  unfold frcS
  rw [List.mem_filter, decide_eq_true_eq, mem_allP]
  exact ⟨fun h => h.2, fun h => ⟨frc_rng ht h, h⟩⟩
theorem frcS_pw (n : Nat) (ts : List Ar) (t : Ar) : (frcS n ts t).Pairwise ltT := (allP_pw n).sublist List.filter_sublist
theorem frcS_eq {n : Nat} {ts fs : List Ar} {t : Ar} (ht : InR n t) (hp : fs.Perm (frcL n ts t)) (hs : fs.Pairwise (fun s t => ¬ ltT t s)) : fs = frcS n ts t :=
  pw_eq (pw_lt hs (hp.nodup_iff.mpr (frc_nd n ts t))) (frcS_pw n ts t) fun x => hp.mem_iff.trans (mem_frcS ht).symm
/-- what is found and what waits, behind the forced ones fs -/
def grow (fs : List Ar) (fw : List Ar × List Ar) : List Ar × List Ar := fs.foldl (fun fw o => if o ∈ fw.1 then fw else (fw.1 ++ [o], fw.2 ++ [o])) fw
theorem grow_step (fs : List Ar) (o : Ar) (fw : List Ar × List Ar) : grow (fs ++ [o]) fw = if o ∈ (grow fs fw).1 then grow fs fw else ((grow fs fw).1 ++ [o], (grow fs fw).2 ++ [o]) := by
  unfold grow; rw [List.foldl_append]; rfl
def comeR (n : Nat) (ts : List Ar) : Nat → List Ar × List Ar → List Ar
  | 0, fw => fw.1
  | k + 1, fw => match fw.2.getLast? with
    | none => fw.1
    | some x => comeR n ts k (grow (frcS n ts x) (fw.1, fw.2.dropLast))
def comeF (n : Nat) (ts : List Ar) (t : Ar) : List Ar := comeR n ts (2 * (n * n) + 1) ([t], [t])
theorem comeR_nil (n : Nat) (ts cs : List Ar) : ∀ k, comeR n ts k (cs, []) = cs
  | 0 => rfl
  | _ + 1 => rfl
structure GrowI (n : Nat) (fw : List Ar × List Ar) : Prop where
  nd : fw.1.Nodup
  rng : ∀ t ∈ fw.1, InR n t
  sub : ∀ t ∈ fw.2, InR n t
theorem grow_all {n : Nat} : ∀ {fs : List Ar} {fw : List Ar × List Ar}, GrowI n fw → (∀ t ∈ fs, InR n t) → GrowI n (grow fs fw) ∧ ∃ k, (grow fs fw).1.length = fw.1.length + k ∧ (grow fs fw).2.length = fw.2.length + k
  | [], fw, h, _ => ⟨h, 0, rfl, rfl⟩
  | o :: fs, fw, h, hr => by
    show GrowI n (grow fs (if o ∈ fw.1 then fw else (fw.1 ++ [o], fw.2 ++ [o]))) ∧ _
    have ho := hr o List.mem_cons_self
    by_cases hm : o ∈ fw.1
    · have e : grow (o :: fs) fw = grow fs fw := by
        show grow fs (if o ∈ fw.1 then fw else _) = _
        rw [if_pos hm]
      rw [if_pos hm, e]
      exact grow_all h fun t ht => hr t (List.mem_cons_of_mem _ ht)
    · have e : grow (o :: fs) fw = grow fs (fw.1 ++ [o], fw.2 ++ [o]) := by
        show grow fs (if o ∈ fw.1 then fw else _) = _
        rw [if_neg hm]
      have h' : GrowI n (fw.1 ++ [o], fw.2 ++ [o]) := by
        refine ⟨?_, fun t ht => ?_, fun t ht => ?_⟩
        · rw [List.nodup_append]
          refine ⟨h.nd, List.nodup_cons.mpr ⟨List.not_mem_nil, List.nodup_nil⟩, fun a ha b hb e => ?_⟩
          rw [List.mem_singleton.mp hb] at e
          subst e; exact hm ha
        · rcases List.mem_append.mp ht with z | z
          · exact h.rng t z
          · rw [List.mem_singleton.mp z]; exact ho
        · rcases List.mem_append.mp ht with z | z
          · exact h.sub t z
          · rw [List.mem_singleton.mp z]; exact ho
      rw [if_neg hm, e]
      obtain ⟨i1, k, l1, l2⟩ := grow_all h' fun t ht => hr t (List.mem_cons_of_mem _ ht)
      rw [List.length_append] at l1 l2
      exact ⟨i1, k + 1, by rw [l1]; show _ + 1 + k = _; omega, by rw [l2]; show _ + 1 + k = _; omega⟩
theorem cs_len {n : Nat} {cs : List Ar} (nd : cs.Nodup) (h : ∀ t ∈ cs, InR n t) : cs.length ≤ n * n := by
  rw [← allP_len n]
  exact nd_len nd fun t ht => mem_allP.mpr (h t ht)

/-! ### the first pointing, as the law's own way makes it -/
def firstG (n : Nat) (ts : List Ar) : List Ar → List Ar → Option (List Ar)
  | [], C => some C
  | t :: r, C => if t ∈ C ∨ sw t ∈ C then firstG n ts r C else if sw t ∈ comeF n ts t then none else firstG n ts r (C ++ comeF n ts t)
def firstF (n : Nat) (ts : List Ar) : Option (List Ar) := (firstG n ts ts []).map fun C => ts.map fun t => if t ∈ C then t else sw t
/-- arrows for the ties, in their order -/
def nrm (p : Ar) : Ar := if p.1 < p.2 then p else sw p
def Pts (ts ps : List Ar) : Prop := ps.map nrm = ts
theorem nrm_t {t : Ar} (h : t.1 < t.2) : nrm t = t := if_pos h
theorem nrm_sw {t : Ar} (h : t.1 < t.2) : nrm (sw t) = t := by
  unfold nrm sw
  dsimp only
  rw [if_neg (by omega)]
theorem first_pts {n : Nat} {ts ps : List Ar} (hw : WOk n ts) (h : firstF n ts = some ps) : Pts ts ps := by
  unfold firstF at h
  obtain ⟨C, _, rfl⟩ := Option.map_eq_some_iff.mp h
  unfold Pts
  rw [List.map_map]
  have : ∀ t ∈ ts, (nrm ∘ fun t => if t ∈ C then t else sw t) t = id t := fun t ht => by
    have b := hw.2 t ht
    show nrm (if t ∈ C then t else sw t) = t
    split
    · exact nrm_t b.2.1
    · exact nrm_sw b.2.1
  rw [List.map_congr_left this, List.map_id]
end My

set_option Elab.async false
set_option linter.all false
set_option maxRecDepth 100000
namespace My
open PySem PySem.Spec PyProof.Rows L2 GxR

theorem inV_int (ns : List Int) (x : Int) : inV (.int x) (ns.map V.int) = decide (x ∈ ns) := by
  unfold inV
  induction ns with
  | nil => rfl
  | cons a l ih =>
    rw [List.map_cons, List.any_cons, ih]
    by_cases h : a = x
    · subst h; simp [eqV]
    · have h' : ¬ x = a := fun e => h e.symm
      simp [eqV, h, h']
/-! ### the places that each place is tied to -/
def nearT (p : Int) (t : Ar) : Option Int := if t.1 = p then some t.2 else if t.2 = p then some t.1 else none
def nearL (ts : List Ar) (p : Int) : List Int := ts.filterMap (nearT p)
theorem nearL_step (ts : List Ar) (t : Ar) (p : Int) : nearL (ts ++ [t]) p = nearL ts p ++ (if t.1 = p then [t.2] else if t.2 = p then [t.1] else []) := by
  unfold nearL
  rw [List.filterMap_append]
  congr 1
  rw [List.filterMap_cons, List.filterMap_nil]
  unfold nearT
  by_cases h1 : t.1 = p
  · rw [if_pos h1, if_pos h1]
  · rw [if_neg h1, if_neg h1]
    by_cases h2 : t.2 = p
    · rw [if_pos h2, if_pos h2]
    · rw [if_neg h2, if_neg h2]
theorem nearL_len (ts : List Ar) (p : Int) : (nearL ts p).length ≤ ts.length := List.length_filterMap_le _ _
theorem mem_nearL {ts : List Ar} {p c : Int} : c ∈ nearL ts p ↔ ((p, c) ∈ ts ∨ (c, p) ∈ ts) := by
  unfold nearL
  rw [List.mem_filterMap]
  constructor
  · rintro ⟨⟨x, y⟩, ht, e⟩
    unfold nearT at e
    dsimp only at e
    by_cases h1 : x = p
    · rw [if_pos h1] at e; cases e; subst h1; exact .inl ht
    · rw [if_neg h1] at e
      by_cases h2 : y = p
      · rw [if_pos h2] at e; cases e; subst h2; exact .inr ht
      · rw [if_neg h2] at e; cases e
  · rintro (h | h)
    · exact ⟨_, h, if_pos rfl⟩
    · refine ⟨_, h, ?_⟩
      unfold nearT
      dsimp only
      by_cases h1 : c = p
      · rw [if_pos h1, h1]
      · rw [if_neg h1, if_pos rfl]
theorem nearL_nrB {ts : List Ar} {p c : Int} : decide (c ∈ nearL ts p) = nrB ts p c := by
  unfold nrB
  exact decide_eq_decide.mpr mem_nearL
theorem nrB_comm (ts : List Ar) (a b : Int) : nrB ts a b = nrB ts b a := decide_eq_decide.mpr Or.comm
theorem nearL_nd {n : Nat} {ts : List Ar} (hw : WOk n ts) (p : Int) : (nearL ts p).Nodup := by
  unfold nearL
  rw [List.nodup_iff_pairwise_ne, List.pairwise_filterMap]
  refine hw.1.imp_of_mem fun {s t} hs ht h c hc d hd e => ?_
  have bs := hw.2 s hs
  have bt := hw.2 t ht
  subst e
  cases s with | mk s1 s2 =>
  cases t with | mk t1 t2 =>
  unfold nearT at hc hd
  unfold ltT at h
  dsimp only at *
  split at hc
  · split at hd
    · cases hc; cases hd; omega
    · split at hd
      · cases hc; cases hd; omega
      · cases hd
  · split at hc
    · split at hd
      · cases hc; cases hd; omega
      · split at hd
        · cases hc; cases hd; omega
        · cases hd
    · cases hc
/-! ### what a forced_by makes -/
def tE (ts : List Ar) (a b : Int) (c : Int) : Bool := !decide (c = b) && !decide (c ∈ nearL ts b)
def endsL (ts : List Ar) (a b : Int) (l : List Int) : List Ar := (l.filter (tE ts a b)).map fun c => (a, c)
def begL (ts : List Ar) (a b : Int) (l : List Int) : List Ar := (l.filter (tE ts b a)).map fun c => (c, b)
theorem endsL_step (ts : List Ar) (a b : Int) (l : List Int) (c : Int) : endsL ts a b (l ++ [c]) = endsL ts a b l ++ (if tE ts a b c = true then [(a, c)] else []) := by
  unfold endsL
  rw [List.filter_append, List.map_append]
  by_cases h : tE ts a b c = true
  · rw [if_pos h, List.filter_cons_of_pos h]; rfl
  · rw [if_neg h, List.filter_cons_of_neg h]; rfl
theorem begL_step (ts : List Ar) (a b : Int) (l : List Int) (c : Int) : begL ts a b (l ++ [c]) = begL ts a b l ++ (if tE ts b a c = true then [(c, b)] else []) := by
  unfold begL
  rw [List.filter_append, List.map_append]
  by_cases h : tE ts b a c = true
  · rw [if_pos h, List.filter_cons_of_pos h]; rfl
  · rw [if_neg h, List.filter_cons_of_neg h]; rfl
theorem endsL_len (ts : List Ar) (a b : Int) (l : List Int) : (endsL ts a b l).length ≤ l.length := by
  unfold endsL; rw [List.length_map]; exact List.length_filter_le _ _
theorem begL_len (ts : List Ar) (a b : Int) (l : List Int) : (begL ts a b l).length ≤ l.length := by
  unfold begL; rw [List.length_map]; exact List.length_filter_le _ _
def fbL (ts : List Ar) (t : Ar) : List Ar := endsL ts t.1 t.2 (nearL ts t.1) ++ begL ts t.1 t.2 (nearL ts t.2)
theorem near_rng {n : Nat} {ts : List Ar} (hw : WOk n ts) {p c : Int} (h : nrB ts p c = true) : 0 ≤ c ∧ c < (n : Int) := by
  rcases of_decide_eq_true h with z | z
  · have := hw.2 _ z; dsimp only at this; omega
  · have := hw.2 _ z; dsimp only at this; omega
theorem mem_fb {n : Nat} {ts : List Ar} (hw : WOk n ts) {t x : Ar} : x ∈ fbL ts t ↔ x ∈ frcL n ts t := by
  have tE' : ∀ a b c, tE ts a b c = (!decide (c = b) && !nrB ts b c) := fun a b c => by unfold tE; rw [nearL_nrB]
  rw [mem_frc]
  unfold fbL endsL begL
  rw [List.mem_append, List.mem_map, List.mem_map]
  constructor
  · rintro (⟨c, hc, rfl⟩ | ⟨c, hc, rfl⟩)
    · obtain ⟨h1, h2⟩ := List.mem_filter.mp hc
      have h1' : nrB ts t.1 c = true := by rw [← nearL_nrB]; exact decide_eq_true h1
      have r := near_rng hw h1'
      refine .inl ⟨rfl, r.1, r.2, ?_⟩
      rw [tE', Bool.and_eq_true] at h2
      unfold tA
      rw [h2.1, h1', h2.2]; rfl
    · obtain ⟨h1, h2⟩ := List.mem_filter.mp hc
      have h1' : nrB ts t.2 c = true := by rw [← nearL_nrB]; exact decide_eq_true h1
      have r := near_rng hw h1'
      refine .inr ⟨rfl, r.1, r.2, ?_⟩
      rw [tE', Bool.and_eq_true] at h2
      unfold tB'
      rw [h2.1, nrB_comm, h1', h2.2]; rfl
  · rintro (⟨h1, h2, h3, h4⟩ | ⟨h1, h2, h3, h4⟩)
    · unfold tA at h4
      rw [Bool.and_eq_true, Bool.and_eq_true] at h4
      refine .inl ⟨x.2, List.mem_filter.mpr ⟨?_, ?_⟩, Prod.ext h1.symm rfl⟩
      · exact of_decide_eq_true (nearL_nrB.trans h4.2.1)
      · rw [tE', h4.1, h4.2.2]; rfl
    · unfold tB' at h4
      rw [Bool.and_eq_true, Bool.and_eq_true, nrB_comm] at h4
      refine .inr ⟨x.1, List.mem_filter.mpr ⟨?_, ?_⟩, Prod.ext rfl h1.symm⟩
      · exact of_decide_eq_true (nearL_nrB.trans h4.2.1)
      · rw [tE', h4.1, h4.2.2]; rfl
theorem fb_nd {n : Nat} {ts : List Ar} (hw : WOk n ts) (t : Ar) : (fbL ts t).Nodup := by
  unfold fbL endsL begL
  rw [List.nodup_append]
  refine ⟨?_, ?_, fun x hx y hy e => ?_⟩
  · rw [List.nodup_iff_pairwise_ne, List.pairwise_map]
    exact ((List.nodup_iff_pairwise_ne.mp (nearL_nd hw _)).sublist List.filter_sublist).imp fun h e => h (Prod.ext_iff.mp e).2
  · rw [List.nodup_iff_pairwise_ne, List.pairwise_map]
    exact ((List.nodup_iff_pairwise_ne.mp (nearL_nd hw _)).sublist List.filter_sublist).imp fun h e => h (Prod.ext_iff.mp e).1
  · subst e
    obtain ⟨c, hc, rfl⟩ := List.mem_map.mp hx
    obtain ⟨d, hd, e⟩ := List.mem_map.mp hy
    have h1 := (List.mem_filter.mp hc).2
    have e2 := (Prod.ext_iff.mp e).2
    unfold tE at h1
    rw [Bool.and_eq_true, Bool.not_eq_true', decide_eq_false_iff_not] at h1
    exact h1.1 e2.symm
theorem srt_eq {l m fs : List Ar} (hp : fs.Perm l) (nd : l.Nodup) (hs : fs.Pairwise (fun s t => ¬ ltT t s)) (hm : m.Pairwise ltT) (h : ∀ x, x ∈ l ↔ x ∈ m) : fs = m :=
  pw_eq (pw_lt hs (hp.nodup_iff.mpr nd)) hm fun x => hp.mem_iff.trans (h x)
theorem fb_eq {n : Nat} {ts fs : List Ar} {t : Ar} (hw : WOk n ts) (ht : InR n t) (hp : fs.Perm (fbL ts t)) (hs : fs.Pairwise (fun s t => ¬ ltT t s)) : fs = frcS n ts t :=
  srt_eq hp (fb_nd hw t) hs (frcS_pw n ts t) fun x => (mem_fb hw).trans (mem_frcS ht).symm
/-! ### all arrows, rising -/
def arS (n : Nat) (ts : List Ar) : List Ar := (allP n).filter fun x => nrB ts x.1 x.2
theorem arS_pw (n : Nat) (ts : List Ar) : (arS n ts).Pairwise ltT := (allP_pw n).sublist List.filter_sublist
theorem nrB_lt {n : Nat} {ts : List Ar} (hw : WOk n ts) {a b : Int} (h : nrB ts a b = true) : 0 ≤ a ∧ a < (n : Int) ∧ 0 ≤ b ∧ b < (n : Int) ∧ a ≠ b := by
  rcases of_decide_eq_true h with z | z
  · have := hw.2 _ z; dsimp only at this; omega
  · have := hw.2 _ z; dsimp only at this; omega
theorem mem_arS {n : Nat} {ts : List Ar} (hw : WOk n ts) {x : Ar} : x ∈ arS n ts ↔ (x ∈ ts ∨ sw x ∈ ts) := by
  unfold arS
  rw [List.mem_filter, mem_allP]
  constructor
  · rintro ⟨_, h⟩
    exact of_decide_eq_true h
  · intro h
    have h' : nrB ts x.1 x.2 = true := decide_eq_true h
    have b := nrB_lt hw h'
    exact ⟨⟨b.1, b.2.1, b.2.2.1, b.2.2.2.1⟩, h'⟩
theorem ar_nd {n : Nat} {ts : List Ar} (hw : WOk n ts) : (ts ++ ts.map sw).Nodup := by
  have nd := nd_pw hw.1
  rw [List.nodup_append]
  refine ⟨nd, ?_, fun x hx y hy e => ?_⟩
  · rw [List.nodup_iff_pairwise_ne, List.pairwise_map]
    refine (List.nodup_iff_pairwise_ne.mp nd).imp fun {s t} h e => h ?_
    rw [← sw_sw s, e, sw_sw]
  · subst e
    obtain ⟨z, hz, rfl⟩ := List.mem_map.mp hy
    have b1 := hw.2 _ hx
    have b2 := hw.2 _ hz
    unfold sw at b1
    dsimp only at b1
    omega
theorem ar_eq {n : Nat} {ts fs : List Ar} (hw : WOk n ts) (hp : fs.Perm (ts ++ ts.map sw)) (hs : fs.Pairwise (fun s t => ¬ ltT t s)) : fs = arS n ts := by
  refine srt_eq hp (ar_nd hw) hs (arS_pw n ts) fun x => ?_
  rw [mem_arS hw, List.mem_append, List.mem_map]
  constructor
  · rintro (z | ⟨y, hy, rfl⟩)
    · exact .inl z
    · exact .inr hy
  · rintro (z | z)
    · exact .inl z
    · exact .inr ⟨_, z, sw_sw x⟩
theorem arS_inR {n : Nat} {ts : List Ar} {x : Ar} (h : x ∈ arS n ts) : InR n x := mem_allP.mp (List.mem_filter.mp h).1
theorem arS_len {n : Nat} {ts : List Ar} : (arS n ts).length ≤ n * n := by
  rw [← allP_len n]; exact List.length_filter_le _ _
theorem frcS_len {n : Nat} {ts : List Ar} {t : Ar} : (frcS n ts t).length ≤ n * n := by
  rw [← allP_len n]; exact List.length_filter_le _ _
theorem frc_ar {n : Nat} {ts : List Ar} {t x : Ar} (h : x ∈ frcL n ts t) : nrB ts x.1 x.2 = true := by
  rcases mem_frc.mp h with ⟨h1, h2, h3, h4⟩ | ⟨h1, h2, h3, h4⟩
  · unfold tA at h4
    rw [Bool.and_eq_true, Bool.and_eq_true] at h4
    rw [h1]; exact h4.2.1
  · unfold tB' at h4
    rw [Bool.and_eq_true, Bool.and_eq_true] at h4
    rw [h1]; exact h4.2.1
theorem frcS_ar {n : Nat} {ts : List Ar} {t x : Ar} (ht : InR n t) (h : x ∈ frcS n ts t) : x ∈ arS n ts := by
  have h' := (mem_frcS ht).mp h
  exact List.mem_filter.mpr ⟨mem_allP.mpr (frc_rng ht h'), frc_ar h'⟩
theorem frc_sw {n : Nat} {ts : List Ar} {t x : Ar} : x ∈ frcL n ts (sw t) ↔ sw x ∈ frcL n ts t := by
  rw [mem_frc, mem_frc]
  unfold sw tA tB'
  dsimp only
  rw [nrB_comm ts t.2 x.2, nrB_comm ts x.1 t.1]
  constructor
  · rintro (h | h)
    · first | exact .inr h | exact .inl h
    · first | exact .inr h | exact .inl h
  · rintro (h | h)
    · first | exact .inr h | exact .inl h
    · first | exact .inr h | exact .inl h
theorem frc_symm {n : Nat} {ts : List Ar} {t x : Ar} (ht : InR n t) (ha : nrB ts t.1 t.2 = true) (h : x ∈ frcL n ts t) : t ∈ frcL n ts x := by
  obtain ⟨r1, r2, r3, r4⟩ := ht
  rw [mem_frc] at h ⊢
  rcases h with ⟨h1, h2, h3, h4⟩ | ⟨h1, h2, h3, h4⟩
  · unfold tA at h4 ⊢
    rw [Bool.and_eq_true, Bool.and_eq_true, Bool.not_eq_true', decide_eq_false_iff_not] at h4
    refine .inl ⟨h1.symm, r3, r4, ?_⟩
    rw [h1, ha, nrB_comm, h4.2.2, decide_eq_false (fun e => h4.1 e.symm)]; rfl
  · unfold tB' at h4 ⊢
    rw [Bool.and_eq_true, Bool.and_eq_true, Bool.not_eq_true', decide_eq_false_iff_not] at h4
    refine .inr ⟨h1.symm, r1, r2, ?_⟩
    rw [h1, ha, nrB_comm, h4.2.2, decide_eq_false (fun e => h4.1 e.symm)]; rfl
/-! ### forced, turned -/
theorem frcS_sw {n : Nat} {ts fs : List Ar} {t : Ar} (ht : InR n t) (hp : fs.Perm ((frcS n ts t).map sw)) (hs : fs.Pairwise (fun s t => ¬ ltT t s)) : fs = frcS n ts (sw t) := by
  have ht' : InR n (sw t) := ⟨ht.2.2.1, ht.2.2.2, ht.1, ht.2.1⟩
  refine srt_eq hp ?_ hs (frcS_pw n ts _) fun x => ?_
  · rw [List.nodup_iff_pairwise_ne, List.pairwise_map]
    refine (List.nodup_iff_pairwise_ne.mp (nd_pw (frcS_pw n ts t))).imp fun {s t} h e => h ?_
    rw [← sw_sw s, e, sw_sw]
  · rw [mem_frcS ht', frc_sw, List.mem_map]
    constructor
    · rintro ⟨y, hy, rfl⟩
      exact (mem_frcS ht).mp hy
    · intro h
      exact ⟨_, (mem_frcS ht).mpr h, sw_sw x⟩
end My

set_option Elab.async false
set_option linter.all false
set_option maxRecDepth 100000
namespace My
open PySem PySem.Spec PyProof.Rows L2

/-! ### str of data, where no text is being made of anything yet -/
def rStrD (K : PySem.W.Frag) : List V → Hp → VK → Prop := fun xs H Q => ∃ a d, xs = [.ref a] ∧ Dp K H (.ref a) d ∧ d.showable = true ∧ d.hasDict = false ∧ d.depth ≤ 50 ∧ d.shown.length ≤ sizeLine ∧ Q (.str d.shown) H
theorem call_strD {X : Cx} (hg : X.A.guards = some []) (hu : X.A.units + 65 < cLine) : CallR X (.type "str") (rStrD X.K) := by
  rintro pins s σ H xs us Q I r ⟨a, d, rfl, hd, h1, h2, h3, h4, q⟩
  obtain ⟨u, rfl, r1⟩ := vals1 r
  obtain rfl : u = Value.ref a := r1
  obtain ⟨as, rr⟩ := Dp.reads I d _ _ hd rfl
  exact str_of_reads rr h1 (fun z => by rw [h2] at z; cases z) hg (by omega) (fun _ _ e => e) (fun h' t tk k => ⟨.str _, H, I.kept k, ⟨_, rfl⟩, q⟩) h4

/-! ### cuts: what holds behind a piece is named, and the rest is shown from that alone -/
section
variable {X : Cx} {st : Stmt} {rest : List Stmt} {t u : TS} {e : Expr} {te : TE} {tt : TT}
def tCut (t u : TS) : TS := fun D σ H => ∃ M : L2.St → Hp → Prop, t { D with nx := M } σ H ∧ ∀ σ' H', M σ' H' → u D σ' H'
theorem pss_cut (h1 : PS X st t) (h2 : PSs X rest u) : PSs X (st :: rest) (tCut t u) := by
  constructor
  rintro pins s σ H D I ⟨M, h, hM⟩
  refine wpAny_execs_cons (wpAny_mono (h1.run pins s σ H { D with nx := M } I h) (fun f s1 z => ?_) fun _ _ z => z)
  match f, z with
  | .next, ⟨σ', H', I', m⟩ => exact h2.run pins s1 σ' H' D I' (hM _ _ m)
  | .ret _, z => exact z
  | .brk, z => exact z
  | .cont, z => exact z
def tCutE (t : TE) : TE := fun σ H Q => ∃ M : VK, t σ H M ∧ ∀ v H', M v H' → Q v H'
theorem pe_cut (h : PE X e te) : PE X e (tCutE te) := by
  constructor
  rintro pins s σ H Q I ⟨M, m, hM⟩
  refine wpAny_mono (h.run pins s σ H M I m) (fun v s1 z => ?_) fun _ _ z => z
  obtain ⟨x, H', I', r, z⟩ := z
  exact ⟨x, H', I', r, hM _ _ z⟩
def tCutT (t : TT) : TT := fun σ H Q => ∃ M : Bool → Hp → Prop, t σ H M ∧ ∀ v H', M v H' → Q v H'
theorem pt_cut (h : PT X e tt) : PT X e (tCutT tt) := by
  constructor
  rintro pins s σ H Q I ⟨M, m, hM⟩
  refine wpAny_mono (h.run pins s σ H M I m) (fun v s1 z => ?_) fun _ _ z => z
  obtain ⟨H', I', z⟩ := z
  exact ⟨H', I', hM _ _ z⟩
end
/-! ### a def run at the top -/
section
variable {P : Program} {w : World} {K : PySem.W.Frag} {mg : Str → Option Value} {base : Heap}
/-- a call of a def with one argument from the law's own caller -/
def TopRun (P : Program) (w : World) (K : PySem.W.Frag) (mg : Str → Option Value) (base : Heap) (f : Addr) (fd : FuncData) (y : Str) (sp : Sp) : Prop :=
  ∀ (s : Shared) (H : Hp) (u : Value) (v : V) (Q : VK) (E : XK), Env0 P w K mg base callerA [] s H → BindsTo s fd ⟨[u], []⟩ [(y, u)] → RelV v u → sp [v] H Q E →
    codeAny (model P w) callerA (.call (.ref f) ⟨[u], []⟩) (CR CX0 [] P w H s Q E) s
theorem top_run {x y : Str} {st : Stmt} {f : Addr} {fd : FuncData} {N : List Str} {k : Nat} {sp : Sp} (F : Fun K x x st f fd) (S : FnScope N [y] (defScope st)) (room : Room (k + 1) callerA)
    (body : ∀ (cdv : Value) (s : Shared) (H : Hp) (v : V) (Q : VK) (E : XK), Room k (callerA.deeper (envOfC x (defScope st) s.heap.objs.size f cdv)) → sp [v] H Q E →
      ∃ t, PSs (cxOf CX0 P w K mg base N x (defScope st) f cdv callerA [] s H E).nox (defBody st) t ∧ t { nx := fun _ H' => Q .non H', rt := Q } (start N [v]) H) :
    TopRun P w K mg base f fd y sp := by
  intro s H u v Q E e0 hb rv hsp
  obtain ⟨oc, od, kV, doc, pm, an, cdv, ct, osl, rfl, lk, hcd⟩ := F.ex
  have here : K.In s.heap := e0.mod.kin.keeps fun b o z => (e0.bs b o z).1
  have free := e0.mod.nolimit.keeps fun b o z => (e0.bs b o z).1
  refine codeAny_call_function room.depth (here _ _ lk) rfl S.co S.gen rfl (PySem.W.codeRec_of here hcd) (hb _ _ _ _ ?_)
  refine wpAny_newFunctionEnv_cells S.kind ?_ fun env he s1 inn => ?_
  · rintro ⟨n, z⟩ hz
    rcases S.par n (List.of_mem_zip (l₁ := [y]) (l₂ := [u]) hz).1 with loc | cel
    · exact Or.inl loc
    · exact Or.inr ⟨cel, PySem.W.cellsFrom_some _ _ _ (Or.inl cel)⟩
  subst he
  refine ⟨free.keeps inn.toInCall.keep, codeAny_func ?_⟩
  obtain ⟨t, ht, hq⟩ := body cdv s H v Q E (room.deeper _) hsp
  have I0 := inv_start (CX := CX0) (E := E) (vs := [v]) (us := [u]) S room.hd e0 rfl (.cons rv .nil) inn
  refine wpAny_mono (ht.nox.run [] s1 (start N [v]) H _ I0 hq) (fun fl s' out => ?_) fun _ _ z => z
  cases fl with
  | ret z =>
    obtain ⟨v', σ', H', J, r', q'⟩ := out
    exact ⟨v', H', J.os, J.bare, J.base, J.hok, r', q'⟩
  | next =>
    obtain ⟨σ', H', J, q'⟩ := out
    exact ⟨V.non, H', J.os, J.bare, J.base, J.hok, rfl, q'⟩
  | brk => obtain ⟨_, _, _, no⟩ := out; exact no.elim
  | cont => obtain ⟨_, _, _, no⟩ := out; exact no.elim
end
end My

set_option Elab.async false
set_option linter.all false
set_option maxRecDepth 100000
namespace My
open PySem PySem.Spec PyProof.Rows L2

/-! ### the law's call, from what its def does when it is called from the top -/
/-- what the heap tracks when the law is called: the tables, empty, and the script where it is none of the fixed part -/
structure Trk (K : PySem.W.Frag) (s : Shared) (cs : List (Addr × Addr)) (a : Addr) (xs : Array Value) (ys : List V) (H : Hp) : Prop where
  tab : ∀ p ∈ cs, H p.2 = some (.tbl #[])
  scr : SqL K H a ys
  any : ∀ b u, H b = some u → (∃ p ∈ cs, p.2 = b) ∨ (b = a ∧ K.lookup a = none ∧ u = .frz { cls := .type "list", data := .seq xs } (.lst ys))
section
variable {P : Program} {w : World} {K : PySem.W.Frag} {mg mb : Str → Option Value} {fa a : Addr} {cs : List (Addr × Addr)} {fd : FuncData} {y : Str} {sp : Sp} {s : Shared} {vs : List Value} {ns : List Int} {H : Hp}
theorem trk_out (hT : ∀ p ∈ cs, s.heap.get? p.2 = some ⟨.none, none, .fields #[], #[]⟩) (ha : s.heap.get? a = some { cls := .type "list", data := .seq vs.toArray }) {ys : List V} (t : Trk K s cs a vs.toArray ys H) {b : Addr} {o : Obj} (e : s.heap.get? b = some o) (h1 : ∀ us n, o.data = .seq us n → False) (h2 : o.data = .fields #[] → False) : H b = none := by
  cases z : H b with
  | none => rfl
  | some u =>
    exfalso
    rcases t.any b u z with ⟨p, hp, rfl⟩ | ⟨rfl, _, _⟩
    · rw [hT p hp] at e; cases e; exact h2 rfl
    · rw [ha] at e; cases e; exact h1 _ _ rfl
theorem trk_call (KX : K.In s.heap) (g1 : s.heap.Ns mainGlobals mg) (g2 : s.heap.Ns builtinsNs mb) (g3 : ∀ x : Str, x ≠ "__name__" → mb x = bootBuiltins x) (g4 : s.heap.NoLimit) (g5 : s.gens = #[])
    (hT : ∀ p ∈ cs, s.heap.get? p.2 = some ⟨.none, none, .fields #[], #[]⟩) (nT : ∀ p ∈ cs, K.lookup p.2 = none) (hC : ∀ p ∈ cs, PySem.W.CodeHd s.heap p.1 p.2)
    (g6 : ∃ (bm : Addr) (ob : Obj), mg "__builtins__" = some (.ref bm) ∧ bm ≠ builtinsNs ∧ s.heap.get? bm = some ob ∧ ob.cls = .type "module" ∧ ob.dict = some builtinsNs ∧ ob.data = .plain)
    (ha : s.heap.get? a = some { cls := .type "list", data := .seq vs.toArray })
    (R : ∀ base : Heap, K.In base → base.Ns mainGlobals mg → (∀ p ∈ cs, LamX.TabB base mg p.1 p.2) → TopRun P w K mg base fa fd y sp) (hbind : ∀ (s : Shared) (u : Value), BindsTo s fd ⟨[u], []⟩ [(y, u)])
    (t : Trk K s cs a vs.toArray (ns.map V.int) H) (ok : HOk P w H s.heap) (hsp : sp [.ref a] H (fun v _ => v = .bl true) fun _ _ _ => False) :
    codeAny (model P w) callerA (.call (.ref fa) ⟨[.ref a], []⟩) (fun r s' => r = .ok (.ret (.bool true)) ∧ OldK s.heap s'.heap ∧ s'.os = s.os ∧ AllBare s'.gens) s := by
  have up : ∀ {b : Addr} {o : Obj}, s.heap.get? b = some o → (∀ us n, o.data = .seq us n → False) → (o.data = .fields #[] → False) → (hidT s.heap H).get? b = some o := fun e h1 h2 => hidT_get e (trk_out hT ha t e h1 h2)
  have upN : ∀ {b : Addr} {m : Str → Option Value}, s.heap.Ns b m → (hidT s.heap H).Ns b m := by
    rintro b m ⟨o, es, ep, e, d, r⟩
    exact ⟨o, es, ep, up e (fun us n z => by rw [d] at z; cases z) (fun z => by rw [d] at z; cases z), d, r⟩
  have upK : K.In (hidT s.heap H) := by
    intro b o e
    refine hidT_get (KX b o e) ?_
    cases z : H b with
    | none => rfl
    | some u =>
      exfalso
      rcases t.any b u z with ⟨p, hp, rfl⟩ | ⟨rfl, nk, _⟩
      · rw [nT p hp] at e; cases e
      · rw [nk] at e; cases e
  have upM : L2.Mod K mg (hidT s.heap H) := by
    obtain ⟨mc, k1, k2⟩ := g4
    exact ⟨upK, upN g1, ⟨mb, upN g2, g3⟩, ⟨mc, upN k1, k2⟩⟩
  have upT : ∀ p ∈ cs, LamX.TabB (hidT s.heap H) mg p.1 p.2 := by
    intro p hp
    have hp2 := hT p hp
    constructor
    · obtain ⟨o, us, file, tf, flags, tg, inF, text, tt, e1, r1, r2, r3, more⟩ := hC p hp
      refine ⟨o, us, file, tf, flags, tg, inF, text, tt, up e1 (fun z n k => by rw [r2] at k; cases k) (fun k => ?_), r1, r2, r3, more⟩
      rw [r2] at k; cases k; simp at r3
    · obtain ⟨bm, ob, b1, b2, b3, b4, b5, b6⟩ := g6
      refine ⟨bm, ob, b1, b2, fun z => ?_, fun z => ?_, up b3 (fun us n k => by rw [b6] at k; cases k) (fun k => by rw [b6] at k; cases k), b4, b5, b6⟩
      · obtain ⟨o, es, ep, e, hd, _⟩ := g1
        rw [z, e] at b3; cases b3; rw [hd] at b6; cases b6
      · rw [z, hp2] at b3; cases b3; cases b6
    · intro z
      obtain ⟨o, es, ep, e, hd, _⟩ := g1
      rw [z, hp2] at e; cases e; cases hd
  have e0 : Env0 P w K mg (hidT s.heap H) callerA [] s H := by
    refine ⟨rfl, upM, fun b o e => of_hidT e, Nat.le_of_eq (hidT_size _ _), trivial, fun b hb => ?_, ok, .of_eq g5⟩
    exact absurd (show b ∈ ([] : List Addr) from hb) List.not_mem_nil
  refine codeAny_mono (R _ upK (upN g1) upT s H (.ref a) (.ref a) _ _ e0 (hbind s _) rfl hsp) fun r s' h => ?_
  match r, h with
  | .error e, h => exact h.elim
  | .ok .next, h => exact h.elim
  | .ok .brk, h => exact h.elim
  | .ok .cont, h => exact h.elim
  | .ok (.ret u), ⟨v, H', os, bare, un, ok', rv, hv⟩ =>
    obtain rfl : v = .bl true := hv
    obtain rfl : u = Value.bool true := rv
    have key : ∀ b o, s.heap.get? b = some o → (¬ ∃ p ∈ cs, p.2 = b) → s'.heap.get? b = some o := by
      intro b o e nb
      cases z : H b with
      | none => exact un.keep b o e z (fun k => absurd (show b ∈ ([] : List Addr) from k) List.not_mem_nil) List.not_mem_nil
      | some u =>
        rcases t.any b u z with k | ⟨rfl, _, rfl⟩
        · exact absurd k nb
        · have z2 := ok' _ _ (un.frzs _ _ _ z)
          rw [ha] at e; cases e
          exact z2.1
    have tabs : ∀ p ∈ cs, ∃ more : Array Value, s'.heap.get? p.2 = some ⟨.none, none, .fields more, #[]⟩ := by
      intro p hp
      obtain ⟨more, z⟩ := un.tbls p.2 #[] (t.tab p hp)
      exact ⟨_, ok' _ _ z⟩
    refine ⟨rfl, ⟨fun b o e => ?_, fun b o e => ?_⟩, os, bare⟩
    · by_cases hb : ∃ p ∈ cs, p.2 = b
      · obtain ⟨p, hp, rfl⟩ := hb
        obtain ⟨more, hm⟩ := tabs p hp
        rw [hT p hp] at e; cases e
        refine Or.inr (Or.inl ⟨((hC p hp).tab (hT p hp)).isCodeTable, rfl, #[], more, rfl, ?_⟩)
        rw [Array.empty_append]; exact hm
      · exact Or.inl (key b o e hb)
    · by_cases hb : ∃ p ∈ cs, p.2 = b
      · obtain ⟨p, hp, rfl⟩ := hb
        obtain ⟨more, hm⟩ := tabs p hp
        exact ⟨_, hm⟩
      · exact ⟨o, key b o e hb⟩
end
section
open Classical
variable {K : PySem.W.Frag} {a : Addr} {cs : List (Addr × Addr)} {s : Shared} {vs : List Value} {ns : List Int}
noncomputable def trkH (K : PySem.W.Frag) (cs : List (Addr × Addr)) (a : Addr) (xs : Array Value) (ys : List V) : Hp := fun b =>
  if ∃ p ∈ cs, p.2 = b then some (.tbl #[]) else if b = a ∧ K.lookup a = none then some (.frz { cls := .type "list", data := .seq xs } (.lst ys)) else none
theorem trkH_ok {P : Program} {w : World} (KX : K.In s.heap) (hT : ∀ p ∈ cs, s.heap.get? p.2 = some ⟨.none, none, .fields #[], #[]⟩) (ha : s.heap.get? a = some { cls := .type "list", data := .seq vs.toArray }) (hi : IntsAre vs ns) (hl : ns.length ≤ sizeLine) :
    Trk K s cs a vs.toArray (ns.map V.int) (trkH K cs a vs.toArray (ns.map V.int)) ∧ HOk P w (trkH K cs a vs.toArray (ns.map V.int)) s.heap := by
  have na : ¬ ∃ p ∈ cs, p.2 = a := by
    rintro ⟨p, hp, rfl⟩
    rw [hT p hp] at ha; cases ha
  have rv := vals_ints hi
  refine ⟨⟨fun p hp => if_pos ⟨p, hp, rfl⟩, ?_, fun b u e => ?_⟩, fun b u e => ?_⟩
  · cases hk : K.lookup a with
    | some o =>
      have e := KX a o hk
      rw [ha] at e; cases e
      exact Or.inr ⟨_, vs.toArray, _, hk, rfl, rfl, rfl, by rw [List.size_toArray, hi.length]; exact hl, by simpa using rv⟩
    | none => exact Or.inl (Or.inr ⟨_, (if_neg na).trans (if_pos ⟨rfl, hk⟩)⟩)
  · by_cases hb : ∃ p ∈ cs, p.2 = b
    · exact Or.inl hb
    · have e1 := (if_neg hb).symm.trans e
      by_cases hb2 : b = a ∧ K.lookup a = none
      · have e2 := (if_pos hb2).symm.trans e1
        cases e2
        exact Or.inr ⟨hb2.1, hb2.2, rfl⟩
      · have e2 := (if_neg hb2).symm.trans e1
        cases e2
  · by_cases hb : ∃ p ∈ cs, p.2 = b
    · have e1 := (if_pos hb).symm.trans e
      cases e1
      obtain ⟨p, hp, rfl⟩ := hb
      exact hT p hp
    · have e1 := (if_neg hb).symm.trans e
      by_cases hb2 : b = a ∧ K.lookup a = none
      · have e2 := (if_pos hb2).symm.trans e1
        cases e2
        obtain ⟨rfl, _⟩ := hb2
        exact ⟨ha, by rw [List.length_map]; exact hl, vs, _, rv, ha⟩
      · have e2 := (if_neg hb2).symm.trans e1
        cases e2
end
/-- what is known of a law's def at the head's heap -/
def TopAt (l : PySem.W.OpenLaw) (w : World) (K : PySem.W.Frag) (n : Nat) (y : Str) (mg : Str → Option Value) (fa : Addr) (h : Heap) : Prop :=
  ∃ (fd : FuncData) (cs : List (Addr × Addr)) (sp : Sp), (∀ p ∈ cs, h.get? p.2 = some ⟨.none, none, .fields #[], #[]⟩) ∧ (∀ p ∈ cs, K.lookup p.2 = none) ∧ (∀ p ∈ cs, PySem.W.CodeHd h p.1 p.2) ∧ (∀ (s : Shared) (u : Value), BindsTo s fd ⟨[u], []⟩ [(y, u)]) ∧
    (∀ (H : Hp) (a : Addr) (ns : List Int), ns.length ≤ n → (∀ z ∈ ns, Builtin.Int.intBits z ≤ 1048576) → (∀ p ∈ cs, H p.2 = some (.tbl #[])) → SqL K H a (ns.map V.int) → sp [.ref a] H (fun v _ => v = .bl true) fun _ _ _ => False) ∧
    ∀ base : Heap, K.In base → base.Ns mainGlobals mg → (∀ p ∈ cs, LamX.TabB base mg p.1 p.2) → TopRun l.prog w K mg base fa fd y sp
theorem walk_top {l : PySem.W.OpenLaw} {n : Nat} {q : Program} {loose : List Str} {XP : (Str → Option Value) → Heap → Prop} {YP : World → Heap → Prop} {d : DefRec} {y : Str} (hn : l.most = some n) (hn2 : n ≤ sizeLine) (hdf : d.params.defaults = [])
    (F : ∀ (w : World) (mg : Str → Option Value) (fa : Addr) (h : Heap), YP w h → h.Ns mainGlobals mg → mg d.name = some (.ref fa) → ∃ K : PySem.W.Frag, K.In h ∧ TopAt l w K n y mg fa h) :
    PySem.W.WalkO q loose XP YP l.row.toRowW d [] (fun f vs => PySem.call f vs) := by
  apply Att.attach_callB hn hdf
  intro w s0 s1 mg mb fa o pm cd doc a vs ns G Y _ _ _ hm hobj hints hlen hbits hgens
  obtain ⟨K, KX, fd, cs, sp, hT, nT, hC, hb, hsp, hF⟩ := F w mg fa _ Y G.T.g hm
  obtain ⟨tr, ok⟩ := trkH_ok (P := l.prog) (w := w) (cs := cs) KX hT hobj hints (Nat.le_trans hlen hn2)
  exact trk_call KX G.T.g G.T.b G.T.builtins G.T.nolimit hgens hT nT hC G.T.bmain hobj hF hb tr ok (hsp _ a ns hlen hbits tr.tab tr.scr)
end My

set_option Elab.async false
set_option linter.all false
set_option maxRecDepth 100000
namespace My
open PySem PySem.Spec PyProof.Rows L2 GxR

/-! ### what stays while a law goes on -/
theorem same_fr {L : Addr} {H0 H H' : Hp} (s : Same H0 H) (n0 : H0 L = none) (f : Fr L H H') : Same H0 H' := fun b o e =>
  f b o (fun z => by rw [z, n0] at e; cases e) (s b o e)
theorem sq_same {K : PySem.W.Frag} {H H' : Hp} {a : Addr} {xs : List V} (s : Same H H') (h : SqL K H a xs) : SqL K H' a xs := by
  rcases h with (h | ⟨o, h⟩) | h
  · exact .inl (.inl (s _ _ h))
  · exact .inl (.inr ⟨o, s _ _ h⟩)
  · exact .inr h
theorem same_refl (H : Hp) : Same H H := fun _ _ e => e
theorem wok_len {n : Nat} {ts : List Ar} (hW : WOk n ts) (hn : n ≤ 100) : ts.length ≤ 10000 :=
  Nat.le_trans (nd_len (m := pup n n) (nd_pw hW.1) fun t ht => (mem_pup (Nat.le_refl n)).mpr (by have := hW.2 t ht; omega)) (pup_len' hn (Nat.le_refl n))
theorem Eqd.bl {m : Nat} {H : Hp} {i : Bool} : Eqd m H (.bl i) (.bl i) := by
  cases m with
  | zero => exact ⟨rfl, .inr (.inl ⟨i, rfl⟩)⟩
  | succ m => exact .inl ⟨rfl, .inr (.inl ⟨i, rfl⟩)⟩
theorem Eqd.non {m : Nat} {H : Hp} : Eqd m H .non .non := by
  cases m with
  | zero => exact ⟨rfl, .inl rfl⟩
  | succ m => exact .inl ⟨rfl, .inl rfl⟩
theorem lst_eqd {H : Hp} {p q : Addr} {vs us : List V} {ts : List Ar} (hp : H p = some (.lst vs)) (hq : H q = some (.lst us)) (h : Ties H vs ts) (k : Ties H us ts) (l : ts.length ≤ 10000) : Eqd 2 H (.ref p) (.ref q) := by
  refine .inr ⟨p, q, vs, us, rfl, rfl, .inr ⟨hp, hq⟩, by rw [h.len, k.len], by rw [h.len]; exact l, fun i v u e f => ?_⟩
  obtain ⟨t1, e1, h1⟩ := h.at e
  obtain ⟨t2, e2, h2⟩ := k.at f
  rw [e1] at e2; cases e2
  exact tie_eqd h1 h2
theorem Eqd.up2 {m : Nat} {H : Hp} {x y : V} (h : Eqd m H x y) : Eqd (m + 2) H x y := h.up.up
theorem eqv_ties (ts : List Ar) : PyData.eqv (.list (ts.map dT)) (.list (ts.map dT)) = true := SeqAt.eqv_refl _ (can_ties ts)
theorem eqv_tiesT (ts : List Ar) : PyData.eqv (.tuple (ts.map dT)) (.tuple (ts.map dT)) = true := SeqAt.eqv_refl _ (can_ties ts)
theorem cutTo (xs : List V) (j : Nat) : cutV xs none (some (j : Int)) = xs.take j := by
  unfold cutV
  rw [HT.sIx_nat, HT.sIx_none, List.drop_zero, Nat.sub_zero]
  by_cases h : j ≤ xs.length
  · rw [Nat.min_eq_left h]
  · rw [Nat.min_eq_right (by omega), List.take_length, List.take_of_length_le (by omega)]
theorem Ties.take {H : Hp} : ∀ {vs : List V} {ts : List Ar} (j : Nat), Ties H vs ts → Ties H (vs.take j) (ts.take j)
  | _, _, 0, _ => by simp only [List.take_zero]; exact trivial
  | [], [], _ + 1, _ => trivial
  | _ :: _, _ :: _, j + 1, h => ⟨h.1, Ties.take j h.2⟩
  | [], _ :: _, _ + 1, h => h.elim
  | _ :: _, [], _ + 1, h => h.elim
theorem Ties.mem {H : Hp} {vs : List V} {ts : List Ar} {i : Nat} {v : V} (h : Ties H vs ts) (e : vs[i]? = some v) : ∃ t, t ∈ ts ∧ Tie H v t := by
  obtain ⟨t, e1, h1⟩ := h.at e
  exact ⟨t, List.mem_of_getElem? e1, h1⟩

theorem nd_get {qs : List Addr} (nd : qs.Nodup) {i j : Nat} {q : Addr} (h1 : qs[i]? = some q) (h2 : qs[j]? = some q) : i = j := by
  obtain ⟨li, ei⟩ := List.getElem?_eq_some_iff.mp h1
  obtain ⟨lj, ej⟩ := List.getElem?_eq_some_iff.mp h2
  have pw := List.pairwise_iff_getElem.mp (List.nodup_iff_pairwise_ne.mp nd)
  rcases Nat.lt_trichotomy i j with z | z | z
  · exact absurd (ei.trans ej.symm) (pw _ _ li lj z)
  · exact z
  · exact absurd (ej.trans ei.symm) (pw _ _ lj li z)
theorem same_free {H H' : Hp} {p : Addr} (s : Same H H') (h : H' p = none) : H p = none := by
  cases z : H p with
  | none => rfl
  | some o => rw [s _ _ z] at h; cases h
theorem neI (a b : Int) : (!decide (V.int a = V.int b)) = !decide (a = b) := congrArg (! ·) (decide_eq_decide.mpr ⟨fun e => V.int.inj e, fun e => congrArg V.int e⟩)
theorem natOf {a : Int} (h : 0 ≤ a) : ∃ k : Nat, a = (k : Int) := ⟨a.toNat, (Int.toNat_of_nonneg h).symm⟩
/-! ### a web as a text -/
def dW (n : Nat) (ts : List Ar) : PyData := .tuple [.int (n : Int), .tuple (ts.map dT)]
theorem Web.dp {K : PySem.W.Frag} {H : Hp} {v : V} {n : Nat} {ts : List Ar} (h : Web H v n ts) : Dp K H v (dW n ts) := by
  obtain ⟨p, q, vs, rfl, h1, h2, h3⟩ := h
  exact .tup (SqT.of h1) (.cons (.int _) (.cons (.tup (SqT.of h2) h3.dp) .nil))
theorem log_small {i : Int} (h0 : 0 ≤ i) (h : i < 100) : decide (i.natAbs.log2 < 1920) = true := by
  refine decide_eq_true ?_
  have : i.natAbs.log2 ≤ i.natAbs := Nat.log2_le_self _
  omega
theorem show_ties {n : Nat} {ts : List Ar} (hn : n ≤ 100) (hR : ∀ t ∈ ts, InR n t) : PyData.showableAll (ts.map dT) = true ∧ PyData.hasDictAll (ts.map dT) = false := by
  induction ts with
  | nil => exact ⟨rfl, rfl⟩
  | cons t l ih =>
    obtain ⟨i1, i2⟩ := ih fun x hx => hR x (List.mem_cons_of_mem _ hx)
    obtain ⟨a1, a2, a3, a4⟩ := hR t List.mem_cons_self
    rw [List.map_cons, PyData.showableAll, PyData.hasDictAll, i1, i2]
    constructor
    · show (PyData.showableAll [.int t.1, .int t.2] && true) = true
      rw [PyData.showableAll, PyData.showableAll, PyData.showableAll, PyData.showable, PyData.showable, log_small a1 (by omega), log_small a3 (by omega)]; rfl
    · rfl
theorem txt_small : ∀ k : Nat, k < 100 → ((toString ((k : Nat) : Int) : String) : Str).length ≤ 2 := by decide +kernel
theorem txt_len {i : Int} (h0 : 0 ≤ i) (h : i < 100) : ((toString i : String) : Str).length ≤ 2 := by
  obtain ⟨k, rfl⟩ : ∃ k : Nat, i = (k : Int) := ⟨i.toNat, (Int.toNat_of_nonneg h0).symm⟩
  exact txt_small k (by omega)
theorem tupleText_len (l : List Str) : (tupleText l).length ≤ piled l + 3 := by
  unfold tupleText
  rw [strLen_append, strLen_append]
  have e1 : ((("(" : String) : Str)).length = 1 := rfl
  have e3 : (((if l.length == 1 then ",)" else ")" : String) : Str)).length ≤ 2 := by split <;> decide
  rw [e1]
  by_cases h : l = []
  · subst h
    have : (Str.join ", " []).length = 0 := rfl
    omega
  · have := join_length_add l h
    omega
theorem shown_ties {n : Nat} {ts : List Ar} (hn : n ≤ 100) (hR : ∀ t ∈ ts, InR n t) : piled (PyData.shownAll (ts.map dT)) ≤ 13 * ts.length := by
  induction ts with
  | nil => exact Nat.le_refl _
  | cons t l ih =>
    have i1 := ih fun x hx => hR x (List.mem_cons_of_mem _ hx)
    obtain ⟨a1, a2, a3, a4⟩ := hR t List.mem_cons_self
    rw [List.map_cons, PyData.shownAll, piled_cons, List.length_cons]
    have h1 := tupleText_len (PyData.shownAll [.int t.1, .int t.2])
    rw [PyData.shownAll, PyData.shownAll, PyData.shownAll, piled_cons, piled_cons, piled_nil, PyData.shown, PyData.shown] at h1
    have h2 := txt_len a1 (by omega)
    have h3 := txt_len a3 (by omega)
    have h4 : (dT t).shown = tupleText [((toString t.1 : String) : Str), ((toString t.2 : String) : Str)] := by
      unfold dT
      rw [PyData.shown, PyData.shownAll, PyData.shownAll, PyData.shownAll, PyData.shown, PyData.shown]
    rw [h4]
    omega
theorem web_show {n : Nat} {ts : List Ar} (hW : WOk n ts) (hn : n ≤ 12) (hl : ts.length ≤ 10000) : (dW n ts).showable = true ∧ (dW n ts).hasDict = false ∧ (dW n ts).depth ≤ 50 ∧ (dW n ts).shown.length ≤ sizeLine := by
  have hR : ∀ t ∈ ts, InR n t := fun t ht => by
    have := hW.2 t ht
    exact ⟨this.1, by omega, by omega, this.2.2⟩
  obtain ⟨s1, s2⟩ := show_ties (n := n) (by omega) hR
  have s3 := shown_ties (n := n) (by omega) hR
  have s4 := dep_ties ts
  refine ⟨?_, ?_, ?_, ?_⟩
  · unfold dW
    rw [PyData.showable, PyData.showableAll, PyData.showableAll, PyData.showableAll, PyData.showable, PyData.showable, s1, log_small (by omega) (by omega)]; rfl
  · unfold dW
    rw [PyData.hasDict, PyData.hasDictAll, PyData.hasDictAll, PyData.hasDictAll, PyData.hasDict, PyData.hasDict, s2]; rfl
  · unfold dW
    rw [PyData.depth, PyData.depthAll, PyData.depthAll, PyData.depthAll, PyData.depth, PyData.depth]
    omega
  · unfold dW
    rw [PyData.shown, PyData.shownAll, PyData.shownAll, PyData.shownAll, PyData.shown, PyData.shown]
    have h1 := tupleText_len [((toString (n : Int) : String) : Str), tupleText (PyData.shownAll (ts.map dT))]
    rw [piled_cons, piled_cons, piled_nil] at h1
    have h2 := tupleText_len (PyData.shownAll (ts.map dT))
    have h3 := txt_len (i := (n : Int)) (by omega) (by omega)
    have h4 : 200000 ≤ sizeLine := by decide
    omega
/-- what str tells of a web -/
theorem web_str {K : PySem.W.Frag} {H : Hp} {v : V} {n : Nat} {ts : List Ar} {Q : VK} (h : Web H v n ts) (hW : WOk n ts) (hn : n ≤ 12) (hl : ts.length ≤ 10000) (q : Q (.str (dW n ts).shown) H) : rStrD K [v] H Q := by
  obtain ⟨s1, s2, s3, s4⟩ := web_show hW hn hl
  have hd := h.dp (K := K)
  obtain ⟨p, q', vs, rfl, _⟩ := h
  exact ⟨p, _, rfl, hd, s1, s2, s3, s4, q⟩
end My

set_option Elab.async false
set_option linter.all false
set_option maxRecDepth 100000
namespace My
open PySem PySem.Spec PyProof.Rows L2 GxR

/-! ### sorted(d), d a dict whose keys are pairs -/
theorem kt_ties {H : Hp} {kvs : List (List Key × V)} {xs : List (List Key × Addr × Value)} (r : KT H kvs xs) : ∀ {cs : List (Int × Int)}, kvs.map (·.1) = cs.map pk → Ties H (xs.map fun x => V.ref x.2.1) cs := by
  induction r with
  | nil =>
    intro cs e
    cases cs with
    | nil => exact trivial
    | cons c cs => cases e
  | cons h t ih =>
    rename_i p q l m
    intro cs e
    cases cs with
    | nil => cases e
    | cons c cs =>
      rw [List.map_cons, List.map_cons] at e
      obtain ⟨e1, e2⟩ := List.cons.inj e
      refine ⟨⟨q.2.1, rfl, ?_⟩, ih e2⟩
      rw [h.2.1, e1]; rfl
section
variable {X : Cx}
/-- what sorted does behind the collecting -/
theorem sort_rest {pins : List (Addr × Obj)} {σ : L2.St} {H : Hp} {s : Shared} {L : List Value} {cs : List (Int × Int)} {R : PySem.Fin → Shared → Prop} {E : Value → Shared → Prop} (I1 : Inv X pins σ H s) (hT : Ties H (L.map backV) cs) (rf : ∀ v ∈ L, ∃ b, v = Value.ref b) (hLz : L.length ≤ sizeLine)
    (hR : ∀ (p : Addr) (s' : Shared) (ys : List V) (ts : List (Int × Int)), Ties H ys ts → ts.Perm cs → ts.Pairwise (fun s t => ¬ ltT t s) → H p = none → Inv X pins σ (upd H p (.lst ys)) s' → R (.done (.ret (.ref p))) s') :
    wpAny (model X.prog X.w) X.A.in1 (newList L >>= fun l => holding [l] (call (.builtin "list.sort") [l]) >>= fun _ => ret l) R E s := by
  refine wpAny_bind (wpAny_newList ?_ hLz)
  have at0 : (s.heap.push (seqObj "list" L.toArray 0)).get? s.heap.objs.size = some (seqObj "list" L.toArray 0) := Heap.get?_push_size _ rfl
  have pr : ∀ v ∈ L, Srt.IsPair s.heap v (My.key H (backV v)).1 (My.key H (backV v)).2 := fun v hv => by
    have hb := hT.all (backV v) (List.mem_map.mpr ⟨v, hv, rfl⟩)
    obtain ⟨b, rfl⟩ := rf v hv
    obtain ⟨b', e, hb⟩ := hb
    cases e
    obtain ⟨_, its, r2, o2, ho2, hc2, n2, hd2⟩ := I1.hok _ _ hb
    obtain ⟨u1, u2, rfl, ⟨t1, rfl⟩, ⟨t2, rfl⟩⟩ := vals2 r2
    exact ⟨b, o2, t1, t2, n2, rfl, ho2, hc2, hd2⟩
  show wpAny _ _ _ _ _ { s with heap := s.heap.push (seqObj "list" L.toArray 0) }
  refine wpAny_bind (wpAny_holding (wpAny_call_entry PyProof.Rows.slot_list_sort ⟨_, at0, rfl⟩ PyProof.Rows.entry_list_sort (SrtO.list_sort_ord (s := { s with heap := s.heap.push (seqObj "list" L.toArray 0) }) (SrtO.swo_lex fun v => My.key H (backV v)) at0 hLz (fun h2 => ?_) fun out hs hb => ⟨_, rfl, ?_⟩) (PyProof.Rows.args_list_sort _)))
  · refine SrtO.pairs_sortableO (s := { s with heap := s.heap.push (seqObj "list" L.toArray 0) }) (k := fun v => My.key H (backV v)) (by omega) (fun v hv => (pr v hv).keeps fun b o e _ => Heap.get?_push_of_some _ e) fun o e => ?_
    have e' := e.symm.trans at0
    cases e'
    intro c
    exact absurd (Value.type.inj c) (by decide)
  · obtain ⟨e', he'⟩ := PyProof.Rows.sortedHeap_at (vs := L) (out := out.toArray) at0
    have ro : ∀ v ∈ out, ∃ b, v = Value.ref b := fun v hv => rf v (hb.perm.mem_iff.mp hv)
    have hs' : SrtO.Srtd (ltP (My.key H)) (out.map backV) := SrtO.srtd_map hs
    obtain ⟨ts, h1, h2, h3⟩ := srt_ties hs' (hb.perm.map backV) hT
    refine wpAny_pure (hR s.heap.objs.size _ _ ts h1 h2 h3 (I1.hok.fresh (Nat.le_refl _)) (I1.laid (t' := s.toks) (fun b ob e => ?_) (Nat.le_refl _) ⟨?_, out, e', vals_back ro, he'⟩))
    · have hlt : b < s.heap.objs.size := Heap.lt_size e
      rw [PyProof.Rows.sortedHeap_old (Nat.ne_of_lt hlt) (by rw [Heap.size_push]; exact Nat.lt_succ_of_lt hlt)]
      exact Heap.get?_push_of_some _ e
    · rw [List.length_map, hb.perm.length_eq]; exact hLz
end
def rSortedDT : List V → Hp → VK → Prop := fun vs H Q => ∃ (a : Addr) (kvs : List (List Key × V)) (cs : List (Int × Int)), vs = [.ref a] ∧ H a = some (.dT kvs) ∧ kvs.map (·.1) = cs.map pk ∧
  ∀ ys p ts, Ties H ys ts → ts.Perm cs → ts.Pairwise (fun s t => ¬ ltT t s) → H p = none → Q (.ref p) (upd H p (.lst ys))
def rSortedTT (K : PySem.W.Frag) : List V → Hp → VK → Prop := fun vs H Q => ∃ (a : Addr) (us : List V) (cs : List (Int × Int)), vs = [.ref a] ∧ SqT K H a us ∧ Ties H us cs ∧
  ∀ ys p ts, Ties H ys ts → ts.Perm cs → ts.Pairwise (fun s t => ¬ ltT t s) → H p = none → Q (.ref p) (upd H p (.lst ys))
section
variable {X : Cx}
theorem call_sortedDT (hc : X.calm = true) : CallR X (.builtin "sorted") rSortedDT := by
  rintro pins s σ H vs us Q I r ⟨a, kvs, cs, rfl, ha, hk, q⟩
  obtain ⟨u, rfl, ru⟩ := vals1 r
  obtain rfl : u = Value.ref a := ru
  obtain ⟨z, lo, xs, rel, o, es, ep, ho, hex, hdat, hes, his, hnd⟩ := dt_of I.hok ha
  have hsz : es.size = xs.length := size_of_entries hes
  have hlen : kvs.length = xs.length := Paired.length rel
  obtain ⟨L, hL⟩ : ∃ L : List Value, L = xs.map fun x => Value.ref x.2.1 := ⟨_, rfl⟩
  have hLl : L.length = xs.length := by rw [hL, List.length_map]
  have hback : L.map backV = xs.map fun x => V.ref x.2.1 := by
    rw [hL, List.map_map]; rfl
  have hT : Ties H (L.map backV) cs := by rw [hback]; exact kt_ties rel hk
  refine Calls.call_function_entry PyProof.Rows.kind_sorted PyProof.Rows.plain_sorted PyProof.Rows.entry_sorted (PyProof.Rows.args_sorted1 _) (?_ : wpAny _ _ (Builtin.«sorted» ⟨[.ref a], []⟩) _ _ s)
  unfold Builtin.«sorted»
  refine wpAny_bind (m := checkCount "sorted" 1 1 _) (wpAny_pure (wpAny_bind (PySem.W.kdu_collect (A := X.A.in1) (PySem.KdlSrc.rawDict (es := es) (ep := ep) lo) (I.ok.hd hc) ⟨o, ho, hex, hdat⟩ (by rw [hsz, ← hlen]; exact z) fun h' tk acc kp hacc => ?_)))
  have hA : acc.toList = L := by
    refine List.ext_getElem? fun j => ?_
    rw [hL, List.getElem?_map]
    by_cases hj : j < xs.length
    · have hj2 : j < acc.size := by rw [hacc.1, hsz]; exact hj
      obtain ⟨hi, e⟩ := hacc.2 j acc[j] (Array.getElem?_eq_getElem hj2)
      have e1 := entry_at hes j
      rw [Array.getElem?_eq_getElem hi, List.getElem?_eq_getElem hj] at e1
      have e2 := Option.some.inj e1
      rw [Array.getElem?_toList, Array.getElem?_eq_getElem hj2, e, e2, List.getElem?_eq_getElem hj]; rfl
    · rw [List.getElem?_eq_none (l := acc.toList) (by rw [Array.length_toList, hacc.1, hsz]; omega), List.getElem?_eq_none (l := xs) (by omega)]; rfl
  rw [hA]
  refine sort_rest (I.kept kp) hT (fun v hv => ?_) (by rw [hLl, ← hlen]; exact z) fun p s' ys ts h1 h2 h3 np J => ⟨_, rfl, .ref p, _, J, rfl, q ys p ts h1 h2 h3 np⟩
  rw [hL] at hv
  obtain ⟨x, _, rfl⟩ := List.mem_map.mp hv
  exact ⟨_, rfl⟩
theorem collect_tup {prog : Program} {w : World} {A : Around} {E : Value → Shared → Prop} {s : Shared} {l : Addr} {vs : List Value} {Q : List Value → Shared → Prop} (hl : IsTup s.heap l vs.toArray) (hsz : vs.length ≤ sizeLine)
    (h : ∀ h', (∀ b o, s.heap.get? b = some o → h'.get? b = some o) → Q vs { s with heap := h' }) : wpAny (model prog w) A (collect (.ref l)) Q E s := by
  obtain ⟨o, ho, hc, n, hd⟩ := id hl
  have up : (s.heap.push (seqObj "list" #[] 0)).get? l = some o := Heap.get?_push_of_some _ ho
  have me : (s.heap.push (seqObj "list" #[] 0)).get? s.heap.objs.size = some (seqObj "list" #[] 0) := Heap.get?_push_size _ rfl
  unfold collect
  refine wpAny_bind (wpAny_runValue (codeAny_builtin entry_proto_collect' (?_ : wpAny _ _ (do again (.builtin "list.__iadd__" ⟨[← newList [], .ref l], []⟩)) _ _ s)))
  refine wpAny_bind (wpAny_newList (wpAny_pure ⟨Code.quiet_builtin _ (by decide +kernel), codeAny_builtin entry_list_iadd' (?_ : wpAny _ _ (Builtin.List.listExtendWith (.ref s.heap.objs.size) (.ref l) (.ref s.heap.objs.size)) _ _ { s with heap := s.heap.push (seqObj "list" #[] 0) })⟩))
  unfold Builtin.List.listExtendWith
  refine wpAny_bind (wpAny_typeOf (T := "tuple") ⟨o, up, hc⟩ ?_)
  have tt : (Value.type "tuple" == Value.type "tuple") = true := rfl
  rw [if_pos (by rw [tt]; simp)]
  refine wpAny_bind (listItems_at up hd (wpAny_bind (listItems_at me rfl ?_)))
  rw [if_neg (by simp)]
  refine wpAny_bind (listUpdate_at me rfl (wpAny_pure ?_) (Nat.zero_le _) (by show (#[] ++ vs.toArray).size ≤ sizeLine + 1; simp only [Array.size_append, List.size_toArray, List.length_nil]; omega))
  show wpAny (model prog w) A (load s.heap.objs.size >>= fun o => match o.data with | .seq xs _ => pure xs.toList | _ => unsupported "internal:collect") Q E { s with heap := (s.heap.push (seqObj "list" #[] 0)).update s.heap.objs.size (Obj.mapSeq (· ++ vs.toArray)) }
  refine wpAny_bind (wpAny_load (get?_update_seq me _) (?_ : wpAny _ _ (pure ((#[] : Array Value) ++ vs.toArray).toList) Q E _))
  rw [show ((#[] : Array Value) ++ vs.toArray).toList = vs by simp]
  refine wpAny_pure (h _ fun b ob e => ?_)
  rw [Heap.get?_update_ne _ _ _ _ (Nat.ne_of_lt (Heap.lt_size e))]
  exact Heap.get?_push_of_some _ e
theorem back_refs {H : Hp} : ∀ {us : List V} {its : List Value} {cs : List (Int × Int)}, Vals us its → Ties H us cs → its.map backV = us ∧ ∀ v ∈ its, ∃ b, v = Value.ref b
  | _, _, _, .nil, _ => ⟨rfl, fun v hv => absurd hv List.not_mem_nil⟩
  | _ :: _, _ :: _, [], .cons _ _, h => h.elim
  | _ :: _, _ :: _, _ :: _, .cons r t, h => by
    obtain ⟨i1, i2⟩ := back_refs t h.2
    obtain ⟨p, rfl, _⟩ := h.1
    cases r
    refine ⟨by rw [List.map_cons, i1]; rfl, fun v hv => ?_⟩
    rcases List.mem_cons.mp hv with rfl | hv
    · exact ⟨_, rfl⟩
    · exact i2 v hv
theorem call_sortedTT : CallR X (.builtin "sorted") (rSortedTT X.K) := by
  rintro pins s σ H vs us Q I r ⟨a, ws, cs, rfl, ha, hT, q⟩
  obtain ⟨u, rfl, ru⟩ := vals1 r
  obtain rfl : u = Value.ref a := ru
  obtain ⟨its, rv, ht, hz⟩ := I.tuple ha
  obtain ⟨b1, b2⟩ := back_refs rv hT
  refine Calls.call_function_entry PyProof.Rows.kind_sorted PyProof.Rows.plain_sorted PyProof.Rows.entry_sorted (PyProof.Rows.args_sorted1 _) (?_ : wpAny _ _ (Builtin.«sorted» ⟨[.ref a], []⟩) _ _ s)
  unfold Builtin.«sorted»
  have hz' : its.length ≤ sizeLine := by rw [← rv.length]; exact hz
  refine wpAny_bind (m := checkCount "sorted" 1 1 _) (wpAny_pure (wpAny_bind (collect_tup ht hz' fun h' kp => ?_)))
  exact sort_rest (I.kept (t' := s.toks) kp) (by rw [b1]; exact hT) b2 hz' fun p s' ys ts h1 h2 h3 np J => ⟨_, rfl, .ref p, _, J, rfl, q ys p ts h1 h2 h3 np⟩
end
end My

set_option Elab.async false
set_option linter.all false
set_option maxRecDepth 100000
namespace My
open PySem PySem.Spec PyProof.Rows L2 GxR
open PySem.W (dataLt keyToks lex_atom lex_one minD alike min_list_data)

/-! ### min of a list of pairs -/
theorem dlt_dT (s t : Int × Int) : dataLt (dT s) (dT t) = true ↔ ltT s t := by
  obtain ⟨a, b⟩ := s
  obtain ⟨c, d⟩ := t
  have e1 : keyToks (dT (a, b)) = [.inl 1, .inl a, .inl 1, .inl b, .inl 0] := rfl
  have e2 : keyToks (dT (c, d)) = [.inl 1, .inl c, .inl 1, .inl d, .inl 0] := rfl
  have one : ∀ x y : Int, PyProof.Rows.lexLt itemOrd [.inl x] [.inl y] = decide (x < y) := fun x y => lex_one _ _
  unfold dataLt ltT
  rw [e1, e2, lex_self]
  by_cases h1 : a = c
  · subst h1
    rw [lex_self, lex_self]
    by_cases h2 : b = d
    · subst h2
      rw [lex_self, lex_self]
      simp [PyProof.Rows.lexLt]
    · rw [lex_atom (fun z => h2 (Sum.inl.inj z)), one]
      simp
  · rw [lex_atom (fun z => h1 (Sum.inl.inj z)), one]
    simp [h1]
theorem minD_dT : ∀ (cs : List (Int × Int)) (c : Int × Int), ∃ m, minD (dT c) (cs.map dT) = dT m ∧ m ∈ c :: cs ∧ ∀ y ∈ c :: cs, ¬ ltT y m
  | [], c => ⟨c, rfl, List.mem_cons_self, fun y hy => by rw [List.mem_singleton.mp hy]; exact ltT_irr⟩
  | d :: cs, c => by
    by_cases h : ltT d c
    · obtain ⟨m, e, h1, h2⟩ := minD_dT cs d
      refine ⟨m, ?_, List.mem_cons_of_mem _ h1, fun y hy => ?_⟩
      · rw [← e]
        show List.foldl _ (if dataLt (dT d) (dT c) then dT d else dT c) _ = _
        rw [if_pos ((dlt_dT d c).mpr h)]; rfl
      · rcases List.mem_cons.mp hy with rfl | hy
        · intro k
          exact h2 d List.mem_cons_self (by unfold ltT at *; omega)
        · exact h2 y hy
    · obtain ⟨m, e, h1, h2⟩ := minD_dT cs c
      refine ⟨m, ?_, ?_, fun y hy => ?_⟩
      · rw [← e]
        show List.foldl _ (if dataLt (dT d) (dT c) then dT d else dT c) _ = _
        rw [if_neg (fun z => h ((dlt_dT d c).mp z))]; rfl
      · rcases List.mem_cons.mp h1 with rfl | h1
        · exact List.mem_cons_self
        · exact List.mem_cons_of_mem _ (List.mem_cons_of_mem _ h1)
      · rcases List.mem_cons.mp hy with rfl | hy
        · exact h2 _ List.mem_cons_self
        · rcases List.mem_cons.mp hy with rfl | hy
          · intro k
            have := h2 c List.mem_cons_self
            unfold ltT at *; omega
          · exact h2 y (List.mem_cons_of_mem _ hy)
def rMinT (K : PySem.W.Frag) : List V → Hp → VK → Prop := fun vs H Q => ∃ (a : Addr) (us : List V) (cs : List (Int × Int)), vs = [.ref a] ∧ SqL K H a us ∧ Ties H us cs ∧ cs ≠ [] ∧
  ∀ x m, m ∈ cs → (∀ y ∈ cs, ¬ ltT y m) → Tie H x m → Q x H
theorem vals_at : ∀ {xs : List V} {us : List Value} {i : Nat} {u : Value}, Vals xs us → us[i]? = some u → ∃ x, xs[i]? = some x ∧ RelV x u
  | _, _, _, _, .nil, h => by cases h
  | _, _, 0, _, .cons r _, h => by cases h; exact ⟨_, rfl, r⟩
  | _, _, i + 1, _, .cons _ t, h => vals_at (i := i) t h
theorem alike_dT (s t : Int × Int) : alike (dT s) (dT t) = true := rfl
section
variable {X : Cx}
theorem cr_minT (hc : X.calm = true) (hu : X.A.units + 65 < cLine) : CallR X (.builtin "min") (rMinT X.K) := by
  rintro pins s σ H vs us Q I r ⟨a, ws, cs, rfl, ha, hT, hne, q⟩
  obtain ⟨u, rfl, ru⟩ := vals1 r
  obtain rfl : u = Value.ref a := ru
  obtain ⟨its, rv, hl, hz⟩ := I.list ha
  obtain ⟨as, hr⟩ := Dp.readsAll I (cs.map dT) ws its hT.dp rv
  cases cs with
  | nil => exact absurd rfl hne
  | cons c cs =>
    obtain ⟨m, em, h1, h2⟩ := minD_dT cs c
    have hd := dep_ties (c :: cs)
    refine min_list_data (x := dT c) (xs := cs.map dT) (I.ok.hd hc) hl.isList (by simpa using hr) ⟨fun x hx y hy => ?_, fun x hx => ?_⟩ (by rw [← List.map_cons]; omega) fun i v h' tk bs hv hrd kp => ?_
    · rw [← List.map_cons] at hx hy
      obtain ⟨s, _, rfl⟩ := List.mem_map.mp hx
      obtain ⟨t, _, rfl⟩ := List.mem_map.mp hy
      exact alike_dT s t
    · rw [← List.map_cons] at hx
      obtain ⟨s, _, rfl⟩ := List.mem_map.mp hx
      exact fun z => by cases z
    · rw [em] at hrd
      have hi : i < its.length := by
        have := (Array.getElem?_eq_some_iff.mp hv).1
        simpa using this
      have hv' : its[i]? = some v := by simpa using hv
      obtain ⟨x, hx, rx⟩ := vals_at rv hv'
      obtain ⟨t, tm, ht⟩ := hT.at hx
      have I1 : Inv X pins σ H { s with heap := h', toks := tk } := I.kept kp
      obtain ⟨b, rfl, eb⟩ := id ht
      obtain rfl : v = Value.ref b := rx
      obtain ⟨_, its2, r2, o2, ho2, hc2, n2, hd2⟩ := I1.hok _ _ eb
      obtain ⟨u1, u2, rfl, ⟨t1, rfl⟩, ⟨t2, rfl⟩⟩ := vals2 r2
      obtain ⟨ta, tb⟩ := t
      obtain ⟨ma, mb⟩ := m
      have e : (ta, tb) = (ma, mb) := by
        cases hrd with
        | tuple g1 g2 g3 g4 =>
          have g1' := g1.symm.trans ho2
          cases g1'
          rw [hd2] at g3
          cases g3
          cases g4 with
          | cons a1 b1 =>
            cases b1 with
            | cons a2 b2 =>
              cases a1; cases a2
              rfl
      exact ⟨.ref b, H, I1, rfl, q _ _ h1 h2 (e ▸ ht)⟩
end
end My

set_option Elab.async false
set_option linter.all false
set_option maxRecDepth 100000
namespace My
open PySem PySem.Spec PyProof.Rows L2 GxR
open PySem.W (dataLt keyToks lex_atom lex_one minD alike min_list_data)

/-! ### not in, of tuples -/
def rNotInDT (K : PySem.W.Frag) : R2 := fun x y H Q => ∃ d ds, Dp K H x d ∧ Dp K H y (.tuple ds) ∧ SeqAt.shaped d = true ∧ SeqAt.shaped (.tuple ds) = true ∧ Q (.bl (!(ds.any fun z => PyData.eqv z d))) H
theorem op_notInDT {X : Cx} (hu : X.A.units + 65 < cLine) : OpR X (compareOp .NotIn) (rNotInDT X.K) := fun pins s σ H x y v u Q I rx ry ⟨d, ds, hd, he, sd, se, q⟩ => by
  obtain ⟨as, r1⟩ := Dp.reads I d x v hd rx
  obtain ⟨bs, r2⟩ := Dp.reads I (.tuple ds) y u he ry
  exact SeqAt.notIn_tuple_reads r2 r1 (SeqAt.canLay_of_shaped se) (SeqAt.canLay_of_shaped sd) (room_in_shaped sd hu) ⟨.bl _, H, I, rfl, q⟩
/-! ### threes -/
abbrev Th := Int × Int × Int
def T3 (H : Hp) (v : V) (t : Th) : Prop := ∃ p, v = .ref p ∧ H p = some (.tup [.int t.1, .int t.2.1, .int t.2.2])
def T3s (H : Hp) : List V → List Th → Prop
  | [], [] => True
  | v :: vs, t :: ts => T3 H v t ∧ T3s H vs ts
  | _, _ => False
theorem T3.mono {H H' : Hp} {v : V} {t : Th} (a : Tst H H') (h : T3 H v t) : T3 H' v t := by
  obtain ⟨p, e, h⟩ := h
  exact ⟨p, e, a _ _ h⟩
theorem T3s.mono {H H' : Hp} (a : Tst H H') : ∀ {vs : List V} {ts : List Th}, T3s H vs ts → T3s H' vs ts
  | [], [], _ => trivial
  | _ :: _, _ :: _, h => ⟨h.1.mono a, T3s.mono a h.2⟩
  | [], _ :: _, h => h.elim
  | _ :: _, [], h => h.elim
theorem T3s.app {H : Hp} : ∀ {vs : List V} {ts : List Th} {us : List V} {rs : List Th}, T3s H vs ts → T3s H us rs → T3s H (vs ++ us) (ts ++ rs)
  | [], [], _, _, _, k => k
  | _ :: _, _ :: _, _, _, h, k => ⟨h.1, T3s.app h.2 k⟩
  | [], _ :: _, _, _, h, _ => h.elim
  | _ :: _, [], _, _, h, _ => h.elim
theorem T3s.len {H : Hp} : ∀ {vs : List V} {ts : List Th}, T3s H vs ts → vs.length = ts.length
  | [], [], _ => rfl
  | _ :: _, _ :: _, h => congrArg (· + 1) (T3s.len h.2)
  | [], _ :: _, h => h.elim
  | _ :: _, [], h => h.elim
theorem T3s.at {H : Hp} : ∀ {vs : List V} {ts : List Th} {i : Nat} {v : V}, T3s H vs ts → vs[i]? = some v → ∃ t, ts[i]? = some t ∧ T3 H v t
  | [], [], _, _, _, e => by cases e
  | _ :: _, t :: _, 0, _, h, e => by cases e; exact ⟨t, rfl, h.1⟩
  | _ :: _, _ :: _, i + 1, _, h, e => T3s.at (i := i) h.2 e
  | [], _ :: _, _, _, h, _ => h.elim
  | _ :: _, [], _, _, h, _ => h.elim
def d3 (t : Th) : PyData := .tuple [.int t.1, .int t.2.1, .int t.2.2]
theorem T3.dp {K : PySem.W.Frag} {H : Hp} {v : V} {t : Th} (h : T3 H v t) : Dp K H v (d3 t) := by
  obtain ⟨p, rfl, h⟩ := h
  exact .tup (SqT.of h) (.cons (.int _) (.cons (.int _) (.cons (.int _) .nil)))
theorem T3s.dp {K : PySem.W.Frag} {H : Hp} : ∀ {vs : List V} {ts : List Th}, T3s H vs ts → DpAll K H vs (ts.map d3)
  | [], [], _ => .nil
  | _ :: _, _ :: _, h => .cons h.1.dp (T3s.dp h.2)
  | [], _ :: _, h => h.elim
  | _ :: _, [], h => h.elim
theorem can_d3 (ts : List Th) : PyData.canLayAll0 (ts.map d3) = true := by
  induction ts with
  | nil => rfl
  | cons a l ih => rw [List.map_cons, PyData.canLayAll0, ih]; rfl
theorem dep_d3 (ts : List Th) : PyData.depthAll (ts.map d3) ≤ 1 := by
  induction ts with
  | nil => exact Nat.zero_le _
  | cons a l ih =>
    rw [List.map_cons, PyData.depthAll]
    have : (d3 a).depth = 1 := rfl
    omega
theorem shaped_d3s (ts : List Th) : SeqAt.shaped (.list (ts.map d3)) = true := by
  unfold SeqAt.shaped
  rw [Bool.and_eq_true, decide_eq_true_eq]
  refine ⟨can_d3 ts, ?_⟩
  show PyData.depthAll _ + 1 ≤ 64
  have := dep_d3 ts
  omega
theorem eqv_nil3 (wl : List Th) : PyData.eqv (.list (wl.map d3)) (.list []) = decide (wl = []) := by
  cases wl with
  | nil => rfl
  | cons a l => rfl
def lt3 (s t : Th) : Prop := s.1 < t.1 ∨ (s.1 = t.1 ∧ (s.2.1 < t.2.1 ∨ (s.2.1 = t.2.1 ∧ s.2.2 < t.2.2)))
theorem dlt_d3 (s t : Th) : dataLt (d3 s) (d3 t) = true ↔ lt3 s t := by
  obtain ⟨a, b, c⟩ := s
  obtain ⟨d, e, f⟩ := t
  have e1 : keyToks (d3 (a, b, c)) = [.inl 1, .inl a, .inl 1, .inl b, .inl 1, .inl c, .inl 0] := rfl
  have e2 : keyToks (d3 (d, e, f)) = [.inl 1, .inl d, .inl 1, .inl e, .inl 1, .inl f, .inl 0] := rfl
  have one : ∀ x y : Int, PyProof.Rows.lexLt itemOrd [.inl x] [.inl y] = decide (x < y) := fun x y => lex_one _ _
  unfold dataLt lt3
  rw [e1, e2, lex_self]
  by_cases h1 : a = d
  · subst h1
    rw [lex_self, lex_self]
    by_cases h2 : b = e
    · subst h2
      rw [lex_self, lex_self]
      by_cases h3 : c = f
      · subst h3
        rw [lex_self, lex_self]
        simp [PyProof.Rows.lexLt]
      · rw [lex_atom (fun z => h3 (Sum.inl.inj z)), one]
        simp
    · rw [lex_atom (fun z => h2 (Sum.inl.inj z)), one]
      simp [h2]
  · rw [lex_atom (fun z => h1 (Sum.inl.inj z)), one]
    simp [h1]
theorem lt3_irr {t : Th} : ¬ lt3 t t := by unfold lt3; omega
theorem minD_d3 : ∀ (cs : List Th) (c : Th), ∃ m, minD (d3 c) (cs.map d3) = d3 m ∧ m ∈ c :: cs ∧ ∀ y ∈ c :: cs, ¬ lt3 y m
  | [], c => ⟨c, rfl, List.mem_cons_self, fun y hy => by rw [List.mem_singleton.mp hy]; exact lt3_irr⟩
  | d :: cs, c => by
    by_cases h : lt3 d c
    · obtain ⟨m, e, h1, h2⟩ := minD_d3 cs d
      refine ⟨m, ?_, List.mem_cons_of_mem _ h1, fun y hy => ?_⟩
      · rw [← e]
        show List.foldl _ (if dataLt (d3 d) (d3 c) then d3 d else d3 c) _ = _
        rw [if_pos ((dlt_d3 d c).mpr h)]; rfl
      · rcases List.mem_cons.mp hy with rfl | hy
        · intro k
          exact h2 d List.mem_cons_self (by unfold lt3 at *; omega)
        · exact h2 y hy
    · obtain ⟨m, e, h1, h2⟩ := minD_d3 cs c
      refine ⟨m, ?_, ?_, fun y hy => ?_⟩
      · rw [← e]
        show List.foldl _ (if dataLt (d3 d) (d3 c) then d3 d else d3 c) _ = _
        rw [if_neg (fun z => h ((dlt_d3 d c).mp z))]; rfl
      · rcases List.mem_cons.mp h1 with rfl | h1
        · exact List.mem_cons_self
        · exact List.mem_cons_of_mem _ (List.mem_cons_of_mem _ h1)
      · rcases List.mem_cons.mp hy with rfl | hy
        · exact h2 _ List.mem_cons_self
        · rcases List.mem_cons.mp hy with rfl | hy
          · intro k
            have := h2 c List.mem_cons_self
            unfold lt3 at *; omega
          · exact h2 y (List.mem_cons_of_mem _ hy)
def rMinT3 (K : PySem.W.Frag) : List V → Hp → VK → Prop := fun vs H Q => ∃ (a : Addr) (us : List V) (cs : List Th), vs = [.ref a] ∧ SqL K H a us ∧ T3s H us cs ∧ cs ≠ [] ∧
  ∀ x m, m ∈ cs → (∀ y ∈ cs, ¬ lt3 y m) → T3 H x m → Q x H
theorem alike_d3 (s t : Th) : alike (d3 s) (d3 t) = true := rfl
theorem vals3 {x y z : V} {us : List Value} (r : Vals [x, y, z] us) : ∃ a b c, us = [a, b, c] ∧ RelV x a ∧ RelV y b ∧ RelV z c := by
  cases r with
  | cons r1 t =>
    cases t with
    | cons r2 t =>
      cases t with
      | cons r3 t => cases t; exact ⟨_, _, _, rfl, r1, r2, r3⟩
section
variable {X : Cx}
theorem cr_minT3 (hc : X.calm = true) (hu : X.A.units + 65 < cLine) : CallR X (.builtin "min") (rMinT3 X.K) := by
  rintro pins s σ H vs us Q I r ⟨a, ws, cs, rfl, ha, hT, hne, q⟩
  obtain ⟨u, rfl, ru⟩ := vals1 r
  obtain rfl : u = Value.ref a := ru
  obtain ⟨its, rv, hl, hz⟩ := I.list ha
  obtain ⟨as, hr⟩ := Dp.readsAll I (cs.map d3) ws its hT.dp rv
  cases cs with
  | nil => exact absurd rfl hne
  | cons c cs =>
    obtain ⟨m, em, h1, h2⟩ := minD_d3 cs c
    have hd := dep_d3 (c :: cs)
    refine min_list_data (x := d3 c) (xs := cs.map d3) (I.ok.hd hc) hl.isList (by simpa using hr) ⟨fun x hx y hy => ?_, fun x hx => ?_⟩ (by rw [← List.map_cons]; omega) fun i v h' tk bs hv hrd kp => ?_
    · rw [← List.map_cons] at hx hy
      obtain ⟨s, _, rfl⟩ := List.mem_map.mp hx
      obtain ⟨t, _, rfl⟩ := List.mem_map.mp hy
      exact alike_d3 s t
    · rw [← List.map_cons] at hx
      obtain ⟨s, _, rfl⟩ := List.mem_map.mp hx
      exact fun z => by cases z
    · rw [em] at hrd
      have hv' : its[i]? = some v := by simpa using hv
      obtain ⟨x, hx, rx⟩ := vals_at rv hv'
      obtain ⟨t, tm, ht⟩ := hT.at hx
      have I1 : Inv X pins σ H { s with heap := h', toks := tk } := I.kept kp
      obtain ⟨b, rfl, eb⟩ := id ht
      obtain rfl : v = Value.ref b := rx
      obtain ⟨_, its2, r2, o2, ho2, hc2, n2, hd2⟩ := I1.hok _ _ eb
      obtain ⟨u1, u2, u3, rfl, ⟨t1, rfl⟩, ⟨t2, rfl⟩, ⟨t3, rfl⟩⟩ := vals3 r2
      obtain ⟨ta, tb, tc⟩ := t
      obtain ⟨ma, mb, mc⟩ := m
      have e : (ta, tb, tc) = (ma, mb, mc) := by
        cases hrd with
        | tuple g1 g2 g3 g4 =>
          have g1' := g1.symm.trans ho2
          cases g1'
          rw [hd2] at g3
          cases g3
          cases g4 with
          | cons a1 b1 =>
            cases b1 with
            | cons a2 b2 =>
              cases b2 with
              | cons a3 b3 =>
                cases a1; cases a2; cases a3
                rfl
      exact ⟨.ref b, H, I1, rfl, q _ _ h1 h2 (e ▸ ht)⟩
end
theorem t3_eqd {H : Hp} {v u : V} {t : Th} (h : T3 H v t) (k : T3 H u t) : Eqd 1 H v u := by
  obtain ⟨p, rfl, h⟩ := h
  obtain ⟨q, rfl, k⟩ := k
  refine .inr ⟨p, q, _, _, rfl, rfl, .inl ⟨h, k⟩, rfl, by show 3 ≤ 10000; decide, fun i v u e f => ?_⟩
  match i, e, f with
  | 0, e, f => cases e; cases f; exact Eqd.int
  | 1, e, f => cases e; cases f; exact Eqd.int
  | 2, e, f => cases e; cases f; exact Eqd.int
end My

set_option Elab.async false
set_option linter.all false
set_option maxRecDepth 100000
namespace My
open PySem PySem.Spec PyProof.Rows L2 GxR
open PySem.W (dataLt keyToks keyToksAll lex_atom lex_one lex_pre minD alike alikeAll AlikeAll min_list_data)

/-! ### min of a list of data -/
theorem dp_at {K : PySem.W.Frag} {H : Hp} : ∀ {us : List V} {ds : List PyData} {i : Nat} {x : V}, DpAll K H us ds → us[i]? = some x → ∃ d, ds[i]? = some d ∧ Dp K H x d
  | _, _, _, _, .nil, h => by cases h
  | _, _, 0, _, .cons r _, h => by cases h; exact ⟨_, rfl, r⟩
  | _, _, i + 1, _, .cons _ t, h => dp_at (i := i) t h
def rMinD (K : PySem.W.Frag) : List V → Hp → VK → Prop := fun vs H Q => ∃ (a : Addr) (us : List V) (d : PyData) (ds : List PyData), vs = [.ref a] ∧ SqL K H a us ∧ DpAll K H us (d :: ds) ∧ AlikeAll (d :: ds) ∧ PyData.depthAll (d :: ds) ≤ 60 ∧
  ∀ (x : V) (i : Nat), us[i]? = some x → (d :: ds)[i]? = some (minD d ds) → Q x H
section
variable {X : Cx}
theorem cr_minD (hc : X.calm = true) (hu : X.A.units + 65 < cLine) : CallR X (.builtin "min") (rMinD X.K) := by
  rintro pins s σ H vs us Q I r ⟨a, ws, d, ds, rfl, ha, hT, al, dep, q⟩
  obtain ⟨u, rfl, ru⟩ := vals1 r
  obtain rfl : u = Value.ref a := ru
  obtain ⟨its, rv, hl, hz⟩ := I.list ha
  obtain ⟨as, hr⟩ := Dp.readsAll I (d :: ds) ws its hT rv
  refine min_list_data (x := d) (xs := ds) (I.ok.hd hc) hl.isList (by simpa using hr) al (by omega) fun i v h' tk bs hv hrd kp => ?_
  have hv' : its[i]? = some v := by simpa using hv
  obtain ⟨x, hx, rx⟩ := vals_at rv hv'
  obtain ⟨e, he, dx⟩ := dp_at hT hx
  obtain ⟨bs2, r2⟩ := Dp.reads I e x v dx rx
  have ee : minD d ds = e := (reads_det (fun b o h _ => kp b o h) r2 hrd).1
  exact ⟨x, H, I.kept kp, rx, q x i hx (by rw [ee]; exact he)⟩
end
theorem minD_one {u : PyData} : ∀ {ds : List PyData} {d : PyData}, u ∈ d :: ds → (∀ q ∈ d :: ds, q ≠ u → dataLt u q = true ∧ dataLt q u = false) → dataLt u u = false → minD d ds = u
  | [], d, h, _, _ => (List.mem_singleton.mp h).symm
  | y :: ds, d, h, hq, ir => by
    show minD (if dataLt y d then y else d) ds = u
    by_cases e : d = u
    · subst e
      have : dataLt y d = false := by
        by_cases z : y = d
        · rw [z]; exact ir
        · exact (hq y (List.mem_cons_of_mem _ List.mem_cons_self) z).2
      rw [this]
      exact minD_one (d := d) List.mem_cons_self (fun q hq' ne => hq q (by rcases List.mem_cons.mp hq' with z | z; exact absurd z ne; exact List.mem_cons_of_mem _ (List.mem_cons_of_mem _ z)) ne) ir
    · by_cases z : y = u
      · subst z
        rw [(hq d List.mem_cons_self e).1]
        exact minD_one (d := y) List.mem_cons_self (fun q hq' ne => hq q (by rcases List.mem_cons.mp hq' with z | z; exact absurd z ne; exact List.mem_cons_of_mem _ (List.mem_cons_of_mem _ z)) ne) ir
      · have um : u ∈ ds := by
          rcases List.mem_cons.mp h with k | k
          · exact absurd k.symm e
          · rcases List.mem_cons.mp k with k | k
            · exact absurd k.symm z
            · exact k
        refine minD_one (d := if dataLt y d then y else d) (List.mem_cons_of_mem _ um) (fun q hq' ne => hq q ?_ ne) ir
        rcases List.mem_cons.mp hq' with k | k
        · rw [k]
          split
          · exact List.mem_cons_of_mem _ List.mem_cons_self
          · exact List.mem_cons_self
        · exact List.mem_cons_of_mem _ (List.mem_cons_of_mem _ k)
/-! ### tuples of pairs -/
def dP (ps : List (Int × Int)) : PyData := .tuple (ps.map dT)
theorem toks_dP (ps : List (Int × Int)) : keyToks (dP ps) = keyToksAll (ps.map dT) := rfl
theorem lex_dT (s t : Int × Int) (l m : List (Int ⊕ List Nat)) (h : ltT s t) : PyProof.Rows.lexLt itemOrd (keyToks (dT s) ++ l) (keyToks (dT t) ++ m) = true := by
  obtain ⟨a, b⟩ := s
  obtain ⟨c, d⟩ := t
  have one : ∀ x y : Int, PyProof.Rows.lexLt itemOrd [.inl x] [.inl y] = decide (x < y) := fun x y => lex_one _ _
  show PyProof.Rows.lexLt itemOrd (.inl 1 :: .inl a :: .inl 1 :: .inl b :: .inl 0 :: l) (.inl 1 :: .inl c :: .inl 1 :: .inl d :: .inl 0 :: m) = true
  rw [lex_self]
  by_cases h1 : a = c
  · subst h1
    rw [lex_self, lex_self]
    have h2 : b < d := by unfold ltT at h; dsimp only at h; omega
    rw [lex_atom (fun z => by have := Sum.inl.inj z; omega), one]
    exact decide_eq_true h2
  · rw [lex_atom (fun z => h1 (Sum.inl.inj z)), one]
    exact decide_eq_true (by unfold ltT at h; dsimp only at h; omega)
theorem lex_dT' (s t : Int × Int) (l m : List (Int ⊕ List Nat)) (h : ltT s t) : PyProof.Rows.lexLt itemOrd (keyToks (dT t) ++ m) (keyToks (dT s) ++ l) = false := by
  obtain ⟨a, b⟩ := s
  obtain ⟨c, d⟩ := t
  have one : ∀ x y : Int, PyProof.Rows.lexLt itemOrd [.inl x] [.inl y] = decide (x < y) := fun x y => lex_one _ _
  show PyProof.Rows.lexLt itemOrd (.inl 1 :: .inl c :: .inl 1 :: .inl d :: .inl 0 :: m) (.inl 1 :: .inl a :: .inl 1 :: .inl b :: .inl 0 :: l) = false
  rw [lex_self]
  by_cases h1 : a = c
  · subst h1
    rw [lex_self, lex_self]
    have h2 : b < d := by unfold ltT at h; dsimp only at h; omega
    rw [lex_atom (fun z => by have := Sum.inl.inj z; omega), one]
    exact decide_eq_false (by omega)
  · rw [lex_atom (fun z => h1 (Sum.inl.inj z).symm), one]
    exact decide_eq_false (by unfold ltT at h; dsimp only at h; omega)
/-- the first that differ -/
def ltLs : List (Int × Int) → List (Int × Int) → Prop
  | s :: l, t :: m => ltT s t ∨ (s = t ∧ ltLs l m)
  | _, _ => False
theorem dlt_dP : ∀ {ps qs : List (Int × Int)}, ltLs ps qs → dataLt (dP ps) (dP qs) = true ∧ dataLt (dP qs) (dP ps) = false
  | s :: l, t :: m, h => by
    unfold dataLt
    rw [toks_dP, toks_dP]
    show PyProof.Rows.lexLt itemOrd (.inl 1 :: (keyToks (dT s) ++ keyToksAll (l.map dT))) (.inl 1 :: (keyToks (dT t) ++ keyToksAll (m.map dT))) = true ∧ PyProof.Rows.lexLt itemOrd (.inl 1 :: (keyToks (dT t) ++ keyToksAll (m.map dT))) (.inl 1 :: (keyToks (dT s) ++ keyToksAll (l.map dT))) = false
    rw [lex_self, lex_self]
    rcases h with h | ⟨rfl, h⟩
    · exact ⟨lex_dT _ _ _ _ h, lex_dT' _ _ _ _ h⟩
    · rw [lex_pre, lex_pre]
      exact dlt_dP h
theorem dlt_irr (ps : List (Int × Int)) : dataLt (dP ps) (dP ps) = false := lex_irrefl _
theorem dP_inj : ∀ {ps qs : List (Int × Int)}, dP ps = dP qs → ps = qs := fun {ps qs} h => by
  have h' : ps.map dT = qs.map dT := PyData.tuple.inj h
  have key : ∀ (l m : List (Int × Int)), l.map dT = m.map dT → l = m := by
    intro l
    induction l with
    | nil => intro m h; cases m with | nil => rfl | cons _ _ => cases h
    | cons a l ih =>
      intro m h
      cases m with
      | nil => cases h
      | cons b m =>
        rw [List.map_cons, List.map_cons] at h
        have h1 := (List.cons.inj h).1
        have h2 := ih m (List.cons.inj h).2
        obtain ⟨x, y⟩ := a
        obtain ⟨z, w⟩ := b
        unfold dT at h1
        simp at h1
        rw [h2, h1.1, h1.2]
  exact key _ _ h'
theorem alike_dP : ∀ {ps qs : List (Int × Int)}, ps.length = qs.length → alike (dP ps) (dP qs) = true := fun {ps qs} h => by
  show alikeAll (ps.map dT) (qs.map dT) = true
  induction ps generalizing qs with
  | nil => cases qs with | nil => rfl | cons _ _ => cases h
  | cons a l ih =>
    cases qs with
    | nil => cases h
    | cons b m =>
      rw [List.map_cons, List.map_cons, alikeAll, ih (Nat.succ.inj h), alike_dT]; rfl
end My

set_option Elab.async false
set_option linter.all false
set_option maxRecDepth 100000
namespace My
open PySem PySem.Spec PyProof.Rows L2 GxR
/-- the lists of places that each place is tied to -/
def NearsAt (H : Hp) (p : Addr) (n : Nat) (ts : List Ar) : Prop := ∃ qs : List Addr, H p = some (.lst (qs.map V.ref)) ∧ qs.length = n ∧ qs.Nodup ∧ p ∉ qs ∧ ∀ (i : Nat) (q : Addr), qs[i]? = some q → H q = some (.lst ((nearL ts (i : Int)).map V.int))
theorem NearsAt.mono {H H' : Hp} {p : Addr} {n : Nat} {ts : List Ar} (h : NearsAt H p n ts) (s : Same H H') : NearsAt H' p n ts := by
  obtain ⟨qs, h1, h2, h3, h4, h5⟩ := h
  exact ⟨qs, s _ _ h1, h2, h3, h4, fun i q e => s _ _ (h5 i q e)⟩
section
variable {P : Program} {w : World} {K : PySem.W.Frag} {mg : Str → Option Value} {base : Heap}
end
end My

set_option Elab.async false
set_option linter.all false
set_option maxRecDepth 100000
namespace My
open PySem PySem.Spec PyProof.Rows L2 GxR
section
variable {P : Program} {w : World} {K : PySem.W.Frag} {mg : Str → Option Value} {base : Heap}
/-! ### _law_forced -/
abbrev s__law_forced : Stmt := topS 25
abbrev N__law_forced : List Str := ["_law_web_here", "_law_near_here", "_law_arrow_here", "_law_a", "_law_b", "_law_some", "_law_c"]
theorem sc__law_forced : FnScope N__law_forced ["_law_web_here", "_law_near_here", "_law_arrow_here"] (defScope s__law_forced) := ⟨rfl, rfl, rfl, by decide +kernel, rfl, by decide +kernel, by decide +kernel⟩
def sp_forced : Sp := fun vs H Q _ => ∃ (v x : V) (D : Addr) (kvs : List (List Key × V)) (n : Nat) (ts : List Ar) (t : Ar), vs = [v, .ref D, x] ∧ Web H v n ts ∧ n ≤ 100 ∧ H D = some (.dT kvs) ∧ NearD kvs ts ∧ Tie H x t ∧ InR n t ∧
  ∀ p us H', H p = none → Same H H' → H' p = some (.lst us) → Ties H' us (frcS n ts t) → Q (.ref p) H'
theorem ok_forced {f : Addr} {fd : FuncData} (B : Bts mg) (F : Fun K "_law_forced" "_law_forced" s__law_forced f fd) : FnOk P w K mg base CX0 1 f fd ["_law_web_here", "_law_near_here", "_law_arrow_here"] sp_forced := by
  refine F.ok sc__law_forced (fun vs H Q E h => ?_) (fun cdv A outer s H vs Q E hr h => ?_)
  · obtain ⟨v, x, D, kvs, n, ts, t, rfl, _⟩ := h; rfl
  · obtain ⟨v, x, D, kvs, n, ts, t, rfl, ⟨p, q', us, rfl, ep, eq, hT⟩, hn, eD, hN, ⟨px, rfl, epx⟩, hR, q⟩ := h
    refine ⟨_, (pss_cons (ps_asg (pv 2) (pg_tup rfl (pgs_cons (pg_name (i := 3) sc__law_forced.nd rfl (by first | exact Or.inl rfl | exact Or.inr rfl)) (pgs_cons (pg_name (i := 4) sc__law_forced.nd rfl (by first | exact Or.inl rfl | exact Or.inr rfl)) pgs_nil))))
    (pss_cons (ps_setLc (i := 5) (own := [("_law_c", 6)]) (g := (gName 6)) rfl sc__law_forced.nd rfl rfl (sw_true rfl rfl rfl (by decide +kernel)) (pi_range1 (by rfl) B.range (pa_cons (pe_ix ix_tup (pv 0) pe_int (fun _ _ => rfl)) pa_nil)) (blkOk_by (own := [("_law_c", 6)]) (N := N__law_forced) (sc := defScope s__law_forced) (by decide +kernel)) (fun _ _ _ _ _ => (pg_name (i := 6) sc__law_forced.nd rfl (by first | exact Or.inl rfl | exact Or.inr rfl))) (fun _ _ _ _ _ => (pts_one (PW.pt (pw_and (pt_cmpR op_ne (pv 6) (pv 4) (nomark _)) (pw_and (pt_cmp (pc_din (hu_of hr) (pe_tup (pa_cons (pv 3) (pa_cons (pv 6) pa_nil))) (pv 1))) (pw_and1 (pt_cmp (pc_dnotin (hu_of hr) (pe_tup (pa_cons (pv 4) (pa_cons (pv 6) pa_nil))) (pv 1))))))))) (fun _ _ _ _ _ => (pe_tup (pa_cons (pv 3) (pa_cons (pv 6) pa_nil)))))
    (pss_cons (ps_set (i := 5) sc__law_forced.nd rfl (by first | exact Or.inl rfl | exact Or.inr rfl) (pe_op op_cat (pv 5) (pe_lc (own := [("_law_c", 6)]) (g := (gName 6)) rfl sc__law_forced.nd (pi_range1 (by rfl) B.range (pa_cons (pe_ix ix_tup (pv 0) pe_int (fun _ _ => rfl)) pa_nil)) (blkOk_by (own := [("_law_c", 6)]) (N := N__law_forced) (sc := defScope s__law_forced) (by decide +kernel)) (fun _ _ _ _ _ => (pg_name (i := 6) sc__law_forced.nd rfl (by first | exact Or.inl rfl | exact Or.inr rfl))) (fun _ _ _ _ _ => (pts_one (PW.pt (pw_and (pt_cmpR op_ne (pv 6) (pv 3) (nomark _)) (pw_and (pt_cmp (pc_din (hu_of hr) (pe_tup (pa_cons (pv 6) (pa_cons (pv 4) pa_nil))) (pv 1))) (pw_and1 (pt_cmp (pc_dnotin (hu_of hr) (pe_tup (pa_cons (pv 3) (pa_cons (pv 6) pa_nil))) (pv 1))))))))) (fun _ _ _ _ _ => (pe_tup (pa_cons (pv 6) (pa_cons (pv 4) pa_nil)))))))
    (pss_one (ps_ret (pe_callB cr_sortedPO (by rfl) B.sorted (by decide +kernel) (pa_cons (pv 5) pa_nil))))))), ?_⟩
    have en : ((n : Int)).toNat = n := Int.toNat_natCast n
    have ne : ∀ a b : Int, (!decide (V.int a = V.int b)) = !decide (a = b) := fun a b => congrArg (! ·) (decide_eq_decide.mpr ⟨fun e => V.int.inj e, fun e => congrArg V.int e⟩)
    refine ⟨_, rfl, px, _, rfl, SqT.of epx, rfl, _, _, rfl, _, _, rfl, rfl, ?_⟩
    -- the first row
    refine ⟨_, rfl, p, _, _, _, rfl, rfl, SqT.of ep, rfl, _, rfl, by omega, by omega, fun E1 nE1 => ?_⟩
    refine wk (walk_range (lo := 0)) (fun i H1 => ∃ ws, Same H H1 ∧ H1 E1 = some (.lst ws) ∧ Ties H1 ws (frcA ts t.1 t.2 (up i))) ⟨[], same_new nE1, upd_same, by exact trivial⟩ (fun _ _ _ _ => trivial) ?_ ?_
    · rintro i x H1 H2 hi ⟨ws, sm, eE, hW⟩ ⟨rfl, hx⟩
      obtain rfl : x = .int (i : Int) := hx.trans (congrArg V.int (Int.zero_add _))
      rw [en] at hi
      have wl := hW.len
      have wl2 := frcA_len ts t.1 t.2 (up i)
      rw [up_len] at wl2
      have st := frcA_step ts t.1 t.2 (up i) (i : Int)
      rw [← up_succ] at st
      have skip : ∀ H3, Same H2 H3 → tA ts t.1 t.2 (i : Int) = false → ∃ ws, Same H H3 ∧ H3 E1 = some (.lst ws) ∧ Ties H3 ws (frcA ts t.1 t.2 (up (i + 1))) := fun H3 s3 e => by
        refine ⟨ws, sm.trans s3, s3 _ _ eE, ?_⟩
        rw [st, e]
        exact (List.append_nil (frcA ts t.1 t.2 (up i))).symm ▸ hW.mono (Same.tst s3)
      refine ⟨rfl, ?_⟩
      refine ⟨_, rfl, _, rfl, rfl, _, rfl, ?_⟩
      rw [ne]
      by_cases h1 : (i : Int) = t.2
      · rw [decide_eq_true h1]
        refine iteF (iteF (skip _ (fun _ _ e => e) ?_))
        unfold tA; rw [decide_eq_true h1]; rfl
      · rw [decide_eq_false h1]
        refine iteT ⟨_, rfl, _, rfl, by show 2 ≤ sizeLine; decide, fun k1 nk1 => ?_⟩
        have sk1 := same_new (o := .tup [.int t.1, .int (i : Int)]) nk1
        refine ⟨_, rfl, D, _, rfl, DGet.t (k := [Sum.inl t.1, Sum.inl (i : Int)]) (sk1 _ _ (sm _ _ eD)) upd_same, _, rfl, ?_⟩
        rw [hN]
        by_cases h2 : nrB ts t.1 (i : Int) = true
        · rw [show decide ((t.1, (i : Int)) ∈ ts ∨ ((i : Int), t.1) ∈ ts) = true from h2]
          refine iteT ⟨_, rfl, _, rfl, by show 2 ≤ sizeLine; decide, fun k2 nk2 => ?_⟩
          have sk2 := same_new (o := .tup [.int t.2, .int (i : Int)]) nk2
          refine ⟨_, rfl, D, _, rfl, DGet.t (k := [Sum.inl t.2, Sum.inl (i : Int)]) (sk2 _ _ (sk1 _ _ (sm _ _ eD))) upd_same, _, rfl, ?_⟩
          rw [hN]
          have s12 := sk1.trans sk2
          by_cases h3 : nrB ts t.2 (i : Int) = true
          · rw [show decide ((t.2, (i : Int)) ∈ ts ∨ ((i : Int), t.2) ∈ ts) = true from h3]
            refine iteF (skip _ s12 ?_)
            unfold tA; rw [decide_eq_false h1, h2, h3]; rfl
          · have h3' : nrB ts t.2 (i : Int) = false := Bool.eq_false_iff.mpr h3
            rw [show decide ((t.2, (i : Int)) ∈ ts ∨ ((i : Int), t.2) ∈ ts) = false from h3']
            refine iteT ⟨_, rfl, _, rfl, by show 2 ≤ sizeLine; decide, fun k3 nk3 => ?_⟩
            have sk3 := same_new (o := .tup [.int t.1, .int (i : Int)]) nk3
            have e3 := sk3 _ _ (s12 _ _ eE)
            have tt : tA ts t.1 t.2 (i : Int) = true := by unfold tA; rw [decide_eq_false h1, h2, h3']; rfl
            refine ⟨ws, e3, sz' (by omega), ws ++ [.ref k3], Same.put (sm.trans (s12.trans sk3)) nE1, upd_same, ?_⟩
            rw [st, if_pos tt]
            exact Ties.mono (tst_put e3) ((hW.mono (Same.tst (s12.trans sk3))).app (Ties.one Tie.new))
        · have h2' : nrB ts t.1 (i : Int) = false := Bool.eq_false_iff.mpr h2
          rw [show decide ((t.1, (i : Int)) ∈ ts ∨ ((i : Int), t.1) ∈ ts) = false from h2']
          refine iteF (iteF (skip _ sk1 ?_))
          unfold tA; rw [decide_eq_false h1, h2']; rfl
    · rintro H1 ⟨ws, sm, eE, hW⟩
      rw [en] at hW
      have wl := hW.len
      have wl2 := frcA_len ts t.1 t.2 (up n)
      rw [up_len] at wl2
      -- the second row
      refine ⟨_, rfl, _, rfl, p, _, _, _, rfl, rfl, SqT.of (sm _ _ ep), rfl, _, rfl, by omega, by omega, fun E2 nE2 => ?_⟩
      refine wk (walk_range (lo := 0)) (fun i H2 => ∃ vs, Same H1 H2 ∧ H2 E2 = some (.lst vs) ∧ Ties H2 vs (frcB ts t.1 t.2 (up i))) ⟨[], same_new nE2, upd_same, by exact trivial⟩ (fun _ _ _ _ => trivial) ?_ ?_
      · rintro i x H2 H3 hi ⟨vs, s2, eE2, hV⟩ ⟨rfl, hx⟩
        obtain rfl : x = .int (i : Int) := hx.trans (congrArg V.int (Int.zero_add _))
        rw [en] at hi
        have vl := hV.len
        have vl2 := frcB_len ts t.1 t.2 (up i)
        rw [up_len] at vl2
        have st := frcB_step ts t.1 t.2 (up i) (i : Int)
        rw [← up_succ] at st
        have eD2 := s2 _ _ (sm _ _ eD)
        have skip : ∀ H4, Same H3 H4 → tB' ts t.1 t.2 (i : Int) = false → ∃ vs, Same H1 H4 ∧ H4 E2 = some (.lst vs) ∧ Ties H4 vs (frcB ts t.1 t.2 (up (i + 1))) := fun H4 s4 e => by
          refine ⟨vs, s2.trans s4, s4 _ _ eE2, ?_⟩
          rw [st, e]
          exact (List.append_nil (frcB ts t.1 t.2 (up i))).symm ▸ hV.mono (Same.tst s4)
        refine ⟨rfl, ?_⟩
        refine ⟨_, rfl, _, rfl, rfl, _, rfl, ?_⟩
        rw [ne]
        by_cases h1 : (i : Int) = t.1
        · rw [decide_eq_true h1]
          refine iteF (iteF (skip _ (fun _ _ e => e) ?_))
          unfold tB'; rw [decide_eq_true h1]; rfl
        · rw [decide_eq_false h1]
          refine iteT ⟨_, rfl, _, rfl, by show 2 ≤ sizeLine; decide, fun k1 nk1 => ?_⟩
          have sk1 := same_new (o := .tup [.int (i : Int), .int t.2]) nk1
          refine ⟨_, rfl, D, _, rfl, DGet.t (k := [Sum.inl (i : Int), Sum.inl t.2]) (sk1 _ _ eD2) upd_same, _, rfl, ?_⟩
          rw [hN]
          by_cases h2 : nrB ts (i : Int) t.2 = true
          · rw [show decide (((i : Int), t.2) ∈ ts ∨ (t.2, (i : Int)) ∈ ts) = true from h2]
            refine iteT ⟨_, rfl, _, rfl, by show 2 ≤ sizeLine; decide, fun k2 nk2 => ?_⟩
            have sk2 := same_new (o := .tup [.int t.1, .int (i : Int)]) nk2
            refine ⟨_, rfl, D, _, rfl, DGet.t (k := [Sum.inl t.1, Sum.inl (i : Int)]) (sk2 _ _ (sk1 _ _ eD2)) upd_same, _, rfl, ?_⟩
            rw [hN]
            have s12 := sk1.trans sk2
            by_cases h3 : nrB ts t.1 (i : Int) = true
            · rw [show decide ((t.1, (i : Int)) ∈ ts ∨ ((i : Int), t.1) ∈ ts) = true from h3]
              refine iteF (skip _ s12 ?_)
              unfold tB'; rw [decide_eq_false h1, h2, h3]; rfl
            · have h3' : nrB ts t.1 (i : Int) = false := Bool.eq_false_iff.mpr h3
              rw [show decide ((t.1, (i : Int)) ∈ ts ∨ ((i : Int), t.1) ∈ ts) = false from h3']
              refine iteT ⟨_, rfl, _, rfl, by show 2 ≤ sizeLine; decide, fun k3 nk3 => ?_⟩
              have sk3 := same_new (o := .tup [.int (i : Int), .int t.2]) nk3
              have e3 := sk3 _ _ (s12 _ _ eE2)
              have tt : tB' ts t.1 t.2 (i : Int) = true := by unfold tB'; rw [decide_eq_false h1, h2, h3']; rfl
              refine ⟨vs, e3, sz' (by omega), vs ++ [.ref k3], Same.put (s2.trans (s12.trans sk3)) nE2, upd_same, ?_⟩
              rw [st, if_pos tt]
              exact Ties.mono (tst_put e3) ((hV.mono (Same.tst (s12.trans sk3))).app (Ties.one Tie.new))
          · have h2' : nrB ts (i : Int) t.2 = false := Bool.eq_false_iff.mpr h2
            rw [show decide (((i : Int), t.2) ∈ ts ∨ (t.2, (i : Int)) ∈ ts) = false from h2']
            refine iteF (iteF (skip _ sk1 ?_))
            unfold tB'; rw [decide_eq_false h1, h2']; rfl
      · rintro H2 ⟨vs, s2, eE2, hV⟩
        rw [en] at hV
        have vl := hV.len
        have vl2 := frcB_len ts t.1 t.2 (up n)
        rw [up_len] at vl2
        refine ⟨E1, E2, ws, vs, rfl, rfl, s2 _ _ eE, eE2, sz (by omega), fun O nO => ?_⟩
        have sO := same_new (o := .lst (ws ++ vs)) nO
        have hC : Ties (upd H2 O (.lst (ws ++ vs))) (ws ++ vs) (frcL n ts t) := ((hW.mono (Same.tst s2)).mono (Same.tst sO)).app (hV.mono (Same.tst sO))
        refine ⟨_, rfl, O, ws ++ vs, My.key (upd H2 O (.lst (ws ++ vs))), rfl, SqL.of upd_same, hC.all, fun ys y hs hst ny => ?_⟩
        obtain ⟨fs, hT', pm', pw⟩ := srt_ties hs hst.perm hC
        have ef := frcS_eq hR pm' pw
        subst ef
        have sy := same_new (H := upd H2 O (.lst (ws ++ vs))) (o := .lst ys) ny
        have sA := ((sm.trans s2).trans sO)
        have ny0 : H y = none := by
          cases z : H y with
          | none => rfl
          | some o => rw [sA _ _ z] at ny; cases ny
        exact q y ys _ ny0 (sA.trans sy) upd_same (hT'.mono (Same.tst sy))
end
end My

set_option Elab.async false
set_option linter.all false
set_option maxRecDepth 100000
namespace My
open PySem PySem.Spec PyProof.Rows L2 GxR
theorem valV_keys {o : Ar} : ∀ {ms : List (List Key × V)} {cs : List Ar}, ms.map (·.1) = cs.map pk → (valV ms (pk o)).isSome = decide (o ∈ cs)
  | [], [], _ => rfl
  | [], _ :: _, h => by cases h
  | _ :: _, [], h => by cases h
  | m :: ms, c :: cs, h => by
    rw [List.map_cons, List.map_cons] at h
    have h1 : m.1 = pk c := (List.cons.inj h).1
    have ih := valV_keys (o := o) (List.cons.inj h).2
    by_cases e : c = o
    · subst e
      rw [valV_pos h1]
      exact (decide_eq_true List.mem_cons_self).symm
    · rw [valV_neg (fun z => e (pk_inj (h1.symm.trans z))), ih]
      refine decide_eq_decide.mpr ?_
      rw [List.mem_cons]
      exact ⟨.inr, fun z => z.elim (fun z => absurd z.symm e) id⟩
theorem keys_put {ms : List (List Key × V)} {cs : List Ar} {o : Ar} {v : V} (h : ms.map (·.1) = cs.map pk) (hn : ¬ o ∈ cs) : (putK ms (pk o) v).map (·.1) = (cs ++ [o]).map pk := by
  have e : (ms.any fun kv => decide (kv.1 = pk o)) = false := by
    rw [valV_any, valV_keys h]; exact decide_eq_false hn
  unfold putK
  rw [e]
  show (ms ++ [(pk o, v)]).map (·.1) = _
  rw [List.map_append, List.map_append, h]; rfl
theorem Ties.dropLast {H : Hp} : ∀ {vs : List V} {ts : List Ar}, Ties H vs ts → Ties H vs.dropLast ts.dropLast
  | [], [], _ => trivial
  | [_], [_], _ => trivial
  | _ :: _ :: _, _ :: _ :: _, h => ⟨h.1, Ties.dropLast h.2⟩
  | [], _ :: _, h => h.elim
  | _ :: _, [], h => h.elim
  | [_], _ :: _ :: _, h => h.2.elim
  | _ :: _ :: _, [_], h => h.2.elim
theorem comeR_ok {n : Nat} {ts : List Ar} : ∀ (k : Nat) {fw : List Ar × List Ar}, GrowI n fw → (comeR n ts k fw).Nodup ∧ ∀ t ∈ comeR n ts k fw, InR n t
  | 0, fw, h => ⟨h.nd, h.rng⟩
  | k + 1, fw, h => by
    unfold comeR
    cases e : fw.2.getLast? with
    | none => exact ⟨h.nd, h.rng⟩
    | some x =>
      have hx : InR n x := h.sub x (List.mem_of_getLast? e)
      exact comeR_ok k (grow_all (fs := frcS n ts x) (fw := (fw.1, fw.2.dropLast)) ⟨h.nd, h.rng, fun t ht => h.sub t ((List.dropLast_sublist _).subset ht)⟩ fun t ht => frc_rng hx ((mem_frcS hx).mp ht)).1
theorem growI_one {n : Nat} {t : Ar} (h : InR n t) : GrowI n ([t], [t]) :=
  ⟨List.nodup_cons.mpr ⟨List.not_mem_nil, List.nodup_nil⟩, fun s hs => by rw [List.mem_singleton.mp hs]; exact h, fun s hs => by rw [List.mem_singleton.mp hs]; exact h⟩
theorem come_ok {n : Nat} {ts : List Ar} {t : Ar} (h : InR n t) : (comeF n ts t).Nodup ∧ ∀ x ∈ comeF n ts t, InR n x := comeR_ok _ (growI_one h)
theorem eqv_nil (wl : List Ar) : PyData.eqv (.list (wl.map dT)) (.list []) = decide (wl = []) := by
  cases wl with
  | nil => rfl
  | cons a l => rfl
section
variable {P : Program} {w : World} {K : PySem.W.Frag} {mg : Str → Option Value} {base : Heap}
end
end My

set_option Elab.async false
set_option linter.all false
set_option maxRecDepth 100000
namespace My
open PySem PySem.Spec PyProof.Rows L2 GxR
theorem joinA_merge {kvs ms : List (List Key × V)} {C D : List Ar} (h : JoinA kvs C) (k : ms.map (·.1) = D.map pk) : JoinA (mergeT kvs ms) (C ++ D) := fun o => by
  rw [valV_mergeT, h o, valV_keys k, Bool.or_comm]
  by_cases a : o ∈ C <;> by_cases b : o ∈ D <;> simp [a, b]
theorem inR_of {n : Nat} {ts : List Ar} (hw : WOk n ts) {t : Ar} (h : t ∈ ts) : InR n t := by
  have := hw.2 t h
  exact ⟨this.1, by omega, by omega, this.2.2⟩
section
variable {P : Program} {w : World} {K : PySem.W.Frag} {mg : Str → Option Value} {base : Heap}
end
end My

set_option Elab.async false
set_option linter.all false
set_option maxRecDepth 100000
namespace My
open PySem PySem.Spec PyProof.Rows L2 GxR

/-! ### where forcings lead -/
inductive Rch (n : Nat) (ts : List Ar) (t : Ar) : Ar → Prop
  | refl : Rch n ts t t
  | step {x y : Ar} : Rch n ts t x → y ∈ frcS n ts x → Rch n ts t y
theorem Rch.trans {n : Nat} {ts : List Ar} {a b c : Ar} (h : Rch n ts a b) (k : Rch n ts b c) : Rch n ts a c := by
  induction k with
  | refl => exact h
  | step _ m ih => exact .step ih m
theorem Rch.inR {n : Nat} {ts : List Ar} {a b : Ar} (ha : InR n a) (h : Rch n ts a b) : InR n b := by
  induction h with
  | refl => exact ha
  | step _ m ih => exact frc_rng ih ((mem_frcS ih).mp m)
theorem Rch.ar {n : Nat} {ts : List Ar} {a b : Ar} (ha : a ∈ arS n ts) (h : Rch n ts a b) : b ∈ arS n ts := by
  induction h with
  | refl => exact ha
  | step _ m ih => exact frcS_ar (arS_inR ih) m
theorem arS_nr {n : Nat} {ts : List Ar} {x : Ar} (h : x ∈ arS n ts) : nrB ts x.1 x.2 = true := (List.mem_filter.mp h).2
theorem frcS_symm {n : Nat} {ts : List Ar} {x y : Ar} (hx : x ∈ arS n ts) (h : y ∈ frcS n ts x) : x ∈ frcS n ts y := by
  have hR := arS_inR hx
  have hL := (mem_frcS hR).mp h
  exact (mem_frcS (frc_rng hR hL)).mpr (frc_symm hR (arS_nr hx) hL)
theorem Rch.symm {n : Nat} {ts : List Ar} {a b : Ar} (ha : a ∈ arS n ts) (h : Rch n ts a b) : Rch n ts b a := by
  induction h with
  | refl => exact .refl
  | step k m ih => exact Rch.trans (.step .refl (frcS_symm (k.ar ha) m)) ih
theorem inR_sw {n : Nat} {t : Ar} (h : InR n t) : InR n (sw t) := ⟨h.2.2.1, h.2.2.2, h.1, h.2.1⟩
theorem Rch.sw {n : Nat} {ts : List Ar} {a b : Ar} (ha : InR n a) (h : Rch n ts a b) : Rch n ts (sw a) (sw b) := by
  induction h with
  | refl => exact .refl
  | step k m ih =>
    have hx := k.inR ha
    refine .step ih ((mem_frcS (inR_sw hx)).mpr (frc_sw.mpr ?_))
    exact (mem_frcS hx).mp m
theorem Rch.closed {n : Nat} {ts : List Ar} {a b : Ar} {P : Ar → Prop} (h0 : P a) (hc : ∀ x, P x → ∀ y ∈ frcS n ts x, P y) (h : Rch n ts a b) : P b := by
  induction h with
  | refl => exact h0
  | step _ m ih => exact hc _ ih _ m
/-! ### what the law's own going on finds -/
theorem grow_mem {fs : List Ar} : ∀ {fw : List Ar × List Ar}, (∀ x ∈ fw.1, x ∈ (grow fs fw).1) ∧ (∀ x ∈ fs, x ∈ (grow fs fw).1) ∧ (∀ x ∈ fw.2, x ∈ (grow fs fw).2) ∧ (∀ x ∈ (grow fs fw).1, x ∈ fw.1 ∨ (x ∈ fs ∧ x ∈ (grow fs fw).2)) ∧ (∀ x ∈ (grow fs fw).2, x ∈ fw.2 ∨ x ∈ (grow fs fw).1) := by
  induction fs with
  | nil => exact fun {fw} => ⟨fun _ h => h, fun _ h => absurd h List.not_mem_nil, fun _ h => h, fun _ h => .inl h, fun _ h => .inl h⟩
  | cons o fs ih =>
    intro fw
    by_cases hm : o ∈ fw.1
    · have e : grow (o :: fs) fw = grow fs fw := by
        show grow fs (if o ∈ fw.1 then fw else _) = _
        rw [if_pos hm]
      obtain ⟨i1, i2, i3, i4, i5⟩ := ih (fw := fw)
      rw [e]
      refine ⟨i1, fun x hx => ?_, i3, fun x hx => (i4 x hx).imp id fun z => ⟨List.mem_cons_of_mem _ z.1, z.2⟩, i5⟩
      rcases List.mem_cons.mp hx with rfl | hx
      · exact i1 _ hm
      · exact i2 x hx
    · have e : grow (o :: fs) fw = grow fs (fw.1 ++ [o], fw.2 ++ [o]) := by
        show grow fs (if o ∈ fw.1 then fw else _) = _
        rw [if_neg hm]
      obtain ⟨i1, i2, i3, i4, i5⟩ := ih (fw := (fw.1 ++ [o], fw.2 ++ [o]))
      rw [e]
      refine ⟨fun x hx => i1 x (List.mem_append_left _ hx), fun x hx => ?_, fun x hx => i3 x (List.mem_append_left _ hx), fun x hx => ?_, fun x hx => ?_⟩
      · rcases List.mem_cons.mp hx with rfl | hx
        · exact i1 _ (List.mem_append_right _ (List.mem_singleton.mpr rfl))
        · exact i2 x hx
      · rcases i4 x hx with z | z
        · rcases List.mem_append.mp z with z | z
          · exact .inl z
          · rw [List.mem_singleton.mp z]
            exact .inr ⟨List.mem_cons_self, i3 _ (List.mem_append_right _ (List.mem_singleton.mpr rfl))⟩
        · exact .inr ⟨List.mem_cons_of_mem _ z.1, z.2⟩
      · rcases i5 x hx with z | z
        · rcases List.mem_append.mp z with z | z
          · exact .inl z
          · rw [List.mem_singleton.mp z]
            exact .inr (i1 _ (List.mem_append_right _ (List.mem_singleton.mpr rfl)))
        · exact .inr z
theorem come_run {n : Nat} {ts : List Ar} {t : Ar} : ∀ (m : Nat) (cs wl : List Ar), GrowI n (cs, wl) → (∀ x ∈ cs, Rch n ts t x) → (∀ x ∈ wl, x ∈ cs) → (∀ x ∈ cs, x ∉ wl → ∀ y ∈ frcS n ts x, y ∈ cs) → 2 * (n * n - cs.length) + wl.length ≤ m →
    (∀ x ∈ cs, x ∈ comeR n ts m (cs, wl)) ∧ (∀ x ∈ comeR n ts m (cs, wl), Rch n ts t x) ∧ ∀ x ∈ comeR n ts m (cs, wl), ∀ y ∈ frcS n ts x, y ∈ comeR n ts m (cs, wl)
  | 0, cs, wl, gi, hr, hs, hc, hm => by
    have e : wl = [] := List.length_eq_zero_iff.mp (by omega)
    subst e
    exact ⟨fun x h => h, hr, fun x h => hc x h List.not_mem_nil⟩
  | m + 1, cs, wl, gi, hr, hs, hc, hm => by
    unfold comeR
    dsimp only
    cases e : wl.getLast? with
    | none =>
      have e' := List.getLast?_eq_none_iff.mp e
      subst e'
      exact ⟨fun x h => h, hr, fun x h => hc x h List.not_mem_nil⟩
    | some o =>
      dsimp only
      have om := List.mem_of_getLast? e
      have oR : InR n o := gi.sub o om
      have fr : ∀ z ∈ frcS n ts o, InR n z := fun z hz => frc_rng oR ((mem_frcS oR).mp hz)
      have gi0 : GrowI n (cs, wl.dropLast) := ⟨gi.nd, gi.rng, fun t ht => gi.sub t ((List.dropLast_sublist _).subset ht)⟩
      obtain ⟨gi1, k, l1, l2⟩ := grow_all (fs := frcS n ts o) gi0 fr
      obtain ⟨m1, m2, m3, m4, m5⟩ := grow_mem (fs := frcS n ts o) (fw := (cs, wl.dropLast))
      have wpos : 0 < wl.length := List.length_pos_iff.mpr (fun z => by rw [z] at om; exact List.not_mem_nil om)
      have wd : wl.dropLast.length = wl.length - 1 := List.length_dropLast
      have cl := cs_len gi1.nd gi1.rng
      have ew : wl = wl.dropLast ++ [o] := by
        have ne : wl ≠ [] := fun z => by rw [z] at om; exact List.not_mem_nil om
        rw [List.getLast?_eq_some_getLast ne] at e
        have := List.dropLast_concat_getLast ne
        rw [Option.some.inj e] at this
        exact this.symm
      have r := come_run (n := n) (ts := ts) (t := t) m (grow (frcS n ts o) (cs, wl.dropLast)).1 (grow (frcS n ts o) (cs, wl.dropLast)).2 gi1 (fun x hx => ?_) (fun x hx => ?_) (fun x hx nx y hy => ?_) (by dsimp only at l1 l2; omega)
      · exact ⟨fun x h => r.1 x (m1 x h), r.2.1, r.2.2⟩
      · rcases m4 x hx with z | z
        · exact hr x z
        · exact .step (hr o (hs o om)) z.1
      · rcases m5 x hx with z | z
        · exact m1 x (hs x ((List.dropLast_sublist _).subset z))
        · exact z
      · by_cases hxo : x = o
        · subst hxo
          exact m2 y hy
        · rcases m4 x hx with z | z
          · refine m1 y (hc x z (fun w => ?_) y hy)
            rw [ew] at w
            rcases List.mem_append.mp w with w | w
            · exact nx (m3 x w)
            · exact hxo (List.mem_singleton.mp w)
          · exact absurd z.2 nx
theorem mem_come {n : Nat} {ts : List Ar} {t x : Ar} (ht : InR n t) : x ∈ comeF n ts t ↔ Rch n ts t x := by
  have r := come_run (n := n) (ts := ts) (t := t) (2 * (n * n) + 1) [t] [t] (growI_one ht) (fun y hy => by rw [List.mem_singleton.mp hy]; exact .refl) (fun y hy => hy) (fun y hy ny => absurd hy ny) (by show 2 * (n * n - 1) + 1 ≤ _; omega)
  exact ⟨r.2.1 x, fun h => h.closed (P := fun x => x ∈ comeF n ts t) (r.1 t (List.mem_singleton.mpr rfl)) r.2.2⟩
/-- a class, rising -/
def clsS (n : Nat) (ts : List Ar) (t : Ar) : List Ar := (allP n).filter fun x => decide (x ∈ comeF n ts t)
theorem clsS_pw (n : Nat) (ts : List Ar) (t : Ar) : (clsS n ts t).Pairwise ltT := (allP_pw n).sublist List.filter_sublist
theorem mem_cls {n : Nat} {ts : List Ar} {t x : Ar} (ht : InR n t) : x ∈ clsS n ts t ↔ Rch n ts t x := by
  unfold clsS
  rw [List.mem_filter, decide_eq_true_eq, mem_allP, mem_come ht]
  exact ⟨fun h => h.2, fun h => ⟨h.inR ht, h⟩⟩
theorem clsS_len {n : Nat} {ts : List Ar} {t : Ar} : (clsS n ts t).length ≤ n * n := by
  rw [← allP_len n]; exact List.length_filter_le _ _
theorem cls_eq {n : Nat} {ts l fs : List Ar} {t : Ar} (ht : InR n t) (hp : fs.Perm l) (nd : l.Nodup) (hs : fs.Pairwise (fun s t => ¬ ltT t s)) (hm : ∀ x, x ∈ l ↔ Rch n ts t x) : fs = clsS n ts t :=
  srt_eq hp nd hs (clsS_pw n ts t) fun x => (hm x).trans (mem_cls ht).symm
theorem cls_ext {n : Nat} {ts : List Ar} {s t : Ar} (hs : s ∈ arS n ts) (h : Rch n ts s t) : clsS n ts t = clsS n ts s := by
  refine pw_eq (clsS_pw n ts t) (clsS_pw n ts s) fun x => ?_
  rw [mem_cls (h.inR (arS_inR hs)), mem_cls (arS_inR hs)]
  exact ⟨fun k => h.trans k, fun k => (h.symm hs).trans k⟩
theorem cls_sw {n : Nat} {ts fs : List Ar} {t : Ar} (ht : InR n t) (hp : fs.Perm ((clsS n ts t).map sw)) (hs : fs.Pairwise (fun s t => ¬ ltT t s)) : fs = clsS n ts (sw t) := by
  refine cls_eq (inR_sw ht) hp ?_ hs fun x => ?_
  · rw [List.nodup_iff_pairwise_ne, List.pairwise_map]
    refine (List.nodup_iff_pairwise_ne.mp (nd_pw (clsS_pw n ts t))).imp fun {s t} h e => h ?_
    rw [← sw_sw s, e, sw_sw]
  · rw [List.mem_map]
    constructor
    · rintro ⟨y, hy, rfl⟩
      exact ((mem_cls ht).mp hy).sw ht
    · intro h
      exact ⟨sw x, (mem_cls ht).mpr (by have := h.sw (inR_sw ht); exact this), rfl⟩
/-! ### steps, level by level -/
abbrev SN := List (Ar × Nat)
def lay (c : Nat) (fs : List Ar) (SF : SN × List Ar) : SN × List Ar := fs.foldl (fun SF o => if o ∈ SF.1.map (·.1) then SF else (SF.1 ++ [(o, c + 1)], SF.2 ++ [o])) SF
theorem lay_step (c : Nat) (fs : List Ar) (o : Ar) (SF : SN × List Ar) : lay c (fs ++ [o]) SF = if o ∈ (lay c fs SF).1.map (·.1) then lay c fs SF else ((lay c fs SF).1 ++ [(o, c + 1)], (lay c fs SF).2 ++ [o]) := by
  unfold lay; rw [List.foldl_append]; rfl
def lvl (n : Nat) (ts : List Ar) (c : Nat) (news : List Ar) (SF : SN × List Ar) : SN × List Ar := news.foldl (fun SF one => lay c (frcS n ts one) SF) SF
theorem lvl_step (n : Nat) (ts : List Ar) (c : Nat) (news : List Ar) (one : Ar) (SF : SN × List Ar) : lvl n ts c (news ++ [one]) SF = lay c (frcS n ts one) (lvl n ts c news SF) := by
  unfold lvl; rw [List.foldl_append]; rfl
def bfsR (n : Nat) (ts : List Ar) : Nat → Nat → SN × List Ar → SN
  | 0, _, SW => SW.1
  | k + 1, c, SW => match SW.2 with
    | [] => SW.1
    | _ :: _ => bfsR n ts k (c + 1) (lvl n ts c SW.2 (SW.1, []))
def stepsF (n : Nat) (ts : List Ar) (t : Ar) : SN := bfsR n ts (2 * (n * n) + 1) 0 ([(t, 0)], [t])
theorem bfsR_nil (n : Nat) (ts : List Ar) (c : Nat) (S : SN) : ∀ k, bfsR n ts k c (S, []) = S
  | 0 => rfl
  | _ + 1 => rfl
/-- what a layer adds -/
structure Adds (c : Nat) (S : SN) (F : List Ar) (R : SN × List Ar) (Q : Ar → Prop) (xs : List Ar) : Prop where
  eq : R = (S ++ xs.map fun x => (x, c + 1), F ++ xs)
  new : ∀ x ∈ xs, Q x ∧ x ∉ S.map (·.1)
  nd : (S.map (·.1)).Nodup → (S.map (·.1) ++ xs).Nodup
theorem keysA (c : Nat) (S : SN) (xs : List Ar) : (S ++ xs.map fun x => (x, c + 1)).map (·.1) = S.map (·.1) ++ xs := by
  rw [List.map_append, List.map_map]
  congr 1
  exact (List.map_congr_left fun _ _ => rfl).trans (List.map_id xs)
theorem nd_add {l : List Ar} {o : Ar} (h : l.Nodup) (n : o ∉ l) : (l ++ [o]).Nodup := by
  rw [List.nodup_append]
  refine ⟨h, List.nodup_cons.mpr ⟨List.not_mem_nil, List.nodup_nil⟩, fun a ha b hb e => ?_⟩
  rw [List.mem_singleton.mp hb] at e
  subst e; exact n ha
theorem lay_adds (c : Nat) : ∀ (fs : List Ar) (S : SN) (F : List Ar), ∃ xs, Adds c S F (lay c fs (S, F)) (fun x => x ∈ fs) xs ∧ ∀ o ∈ fs, o ∈ S.map (·.1) ∨ o ∈ xs
  | [], S, F => ⟨[], ⟨by show (S, F) = _; rw [List.map_nil, List.append_nil, List.append_nil], fun _ h => absurd h List.not_mem_nil, fun h => by rw [List.append_nil]; exact h⟩, fun _ h => absurd h List.not_mem_nil⟩
  | o :: fs, S, F => by
    by_cases hm : o ∈ S.map (·.1)
    · obtain ⟨xs, ⟨e, nw, nd⟩, al⟩ := lay_adds c fs S F
      refine ⟨xs, ⟨?_, fun x hx => ⟨List.mem_cons_of_mem _ (nw x hx).1, (nw x hx).2⟩, nd⟩, fun z hz => ?_⟩
      · rw [← e]
        show lay c fs (if o ∈ S.map (·.1) then (S, F) else _) = _
        rw [if_pos hm]
      · rcases List.mem_cons.mp hz with rfl | hz
        · exact .inl hm
        · exact al z hz
    · obtain ⟨xs, ⟨e, nw, nd⟩, al⟩ := lay_adds c fs (S ++ [(o, c + 1)]) (F ++ [o])
      have ek : (S ++ [(o, c + 1)]).map (·.1) = S.map (·.1) ++ [o] := by rw [List.map_append]; rfl
      rw [ek] at nw nd al
      refine ⟨o :: xs, ⟨?_, fun x hx => ?_, fun h => ?_⟩, fun z hz => ?_⟩
      · have e2 : lay c (o :: fs) (S, F) = lay c fs (S ++ [(o, c + 1)], F ++ [o]) := by
          show lay c fs (if o ∈ S.map (·.1) then (S, F) else _) = _
          rw [if_neg hm]
        rw [e2, e, List.map_cons, List.append_assoc, List.append_assoc]; rfl
      · rcases List.mem_cons.mp hx with rfl | hx
        · exact ⟨List.mem_cons_self, hm⟩
        · exact ⟨List.mem_cons_of_mem _ (nw x hx).1, fun z => (nw x hx).2 (List.mem_append_left _ z)⟩
      · have := nd (nd_add h hm)
        rwa [List.append_assoc] at this
      · rcases List.mem_cons.mp hz with rfl | hz
        · exact .inr List.mem_cons_self
        · rcases al z hz with w | w
          · rcases List.mem_append.mp w with w | w
            · exact .inl w
            · rw [List.mem_singleton.mp w]; exact .inr List.mem_cons_self
          · exact .inr (List.mem_cons_of_mem _ w)
theorem lvl_adds (n : Nat) (ts : List Ar) (c : Nat) : ∀ (news : List Ar) (S : SN) (F : List Ar), ∃ xs, Adds c S F (lvl n ts c news (S, F)) (fun x => ∃ one ∈ news, x ∈ frcS n ts one) xs ∧ ∀ one ∈ news, ∀ o ∈ frcS n ts one, o ∈ S.map (·.1) ∨ o ∈ xs
  | [], S, F => ⟨[], ⟨by show (S, F) = _; rw [List.map_nil, List.append_nil, List.append_nil], fun _ h => absurd h List.not_mem_nil, fun h => by rw [List.append_nil]; exact h⟩, fun _ h => absurd h List.not_mem_nil⟩
  | one :: news, S, F => by
    obtain ⟨xs, ⟨e, nw, nd⟩, al⟩ := lay_adds c (frcS n ts one) S F
    obtain ⟨ys, ⟨e2, nw2, nd2⟩, al2⟩ := lvl_adds n ts c news (S ++ xs.map fun x => (x, c + 1)) (F ++ xs)
    rw [keysA] at nw2 nd2 al2
    refine ⟨xs ++ ys, ⟨?_, fun x hx => ?_, fun h => ?_⟩, fun a ha o ho => ?_⟩
    · show lvl n ts c news (lay c (frcS n ts one) (S, F)) = _
      rw [e, e2, List.map_append, List.append_assoc, List.append_assoc]
    · rcases List.mem_append.mp hx with hx | hx
      · exact ⟨⟨one, List.mem_cons_self, (nw x hx).1⟩, (nw x hx).2⟩
      · obtain ⟨⟨a, ha, h1⟩, h2⟩ := nw2 x hx
        exact ⟨⟨a, List.mem_cons_of_mem _ ha, h1⟩, fun z => h2 (List.mem_append_left _ z)⟩
    · have := nd2 (nd h)
      rwa [List.append_assoc] at this
    · rcases List.mem_cons.mp ha with rfl | ha
      · rcases al o ho with z | z
        · exact .inl z
        · exact .inr (List.mem_append_left _ z)
      · rcases al2 a ha o ho with z | z
        · rcases List.mem_append.mp z with z | z
          · exact .inl z
          · exact .inr (List.mem_append_left _ z)
        · exact .inr (List.mem_append_right _ z)
structure BInv (n : Nat) (ts : List Ar) (t : Ar) (c : Nat) (S : SN) (W : List Ar) : Prop where
  nd : (S.map (·.1)).Nodup
  rch : ∀ p ∈ S, Rch n ts t p.1
  low : ∀ p ∈ S, p.2 ≤ c
  cur : ∀ x ∈ W, (x, c) ∈ S
  top : ∀ p ∈ S, p.2 = c → p.1 ∈ W
  cls : ∀ p ∈ S, p.2 < c → ∀ y ∈ frcS n ts p.1, y ∈ S.map (·.1)
  ori : (t, 0) ∈ S
  zer : ∀ p ∈ S, p.2 = 0 → p.1 = t
  pre : ∀ p ∈ S, 0 < p.2 → ∃ q ∈ S, q.2 + 1 = p.2 ∧ p.1 ∈ frcS n ts q.1
theorem binv_one (n : Nat) (ts : List Ar) (t : Ar) : BInv n ts t 0 [(t, 0)] [t] := by
  refine ⟨List.nodup_cons.mpr ⟨List.not_mem_nil, List.nodup_nil⟩, fun p hp => ?_, fun p hp => ?_, fun x hx => ?_, fun p hp _ => ?_, fun p hp h => ?_, List.mem_singleton.mpr rfl, fun p hp _ => ?_, fun p hp h => ?_⟩
  · rw [List.mem_singleton.mp hp]; exact .refl
  · rw [List.mem_singleton.mp hp]; exact Nat.le_refl _
  · rw [List.mem_singleton.mp hx]; exact List.mem_singleton.mpr rfl
  · rw [List.mem_singleton.mp hp]; exact List.mem_singleton.mpr rfl
  · exact absurd h (Nat.not_lt_zero _)
  · rw [List.mem_singleton.mp hp]
  · rw [List.mem_singleton.mp hp] at h; exact absurd h (Nat.lt_irrefl _)
theorem binv_step {n : Nat} {ts : List Ar} {t : Ar} {c : Nat} {S : SN} {W : List Ar} (b : BInv n ts t c S W) : ∃ xs, lvl n ts c W (S, []) = (S ++ xs.map fun x => (x, c + 1), xs) ∧ BInv n ts t (c + 1) (S ++ xs.map fun x => (x, c + 1)) xs := by
  obtain ⟨xs, ⟨e, nw, nd⟩, al⟩ := lvl_adds n ts c W S []
  rw [List.nil_append] at e
  have inn : ∀ {p : Ar × Nat}, p ∈ S ++ xs.map (fun x => (x, c + 1)) → p ∈ S ∨ (p.1 ∈ xs ∧ p.2 = c + 1) := fun {p} hp => by
    rcases List.mem_append.mp hp with z | z
    · exact .inl z
    · obtain ⟨x, hx, rfl⟩ := List.mem_map.mp z
      exact .inr ⟨hx, rfl⟩
  have put : ∀ {x : Ar}, x ∈ xs → (x, c + 1) ∈ S ++ xs.map (fun x => (x, c + 1)) := fun hx => List.mem_append_right _ (List.mem_map.mpr ⟨_, hx, rfl⟩)
  refine ⟨xs, e, ?_, fun p hp => ?_, fun p hp => ?_, fun x hx => put hx, fun p hp h => ?_, fun p hp h y hy => ?_, List.mem_append_left _ b.ori, fun p hp h => ?_, fun p hp h => ?_⟩
  · rw [keysA]; exact nd b.nd
  · rcases inn hp with z | z
    · exact b.rch p z
    · obtain ⟨⟨one, ho, h1⟩, _⟩ := nw _ z.1
      exact .step (b.rch _ (b.cur one ho)) h1
  · rcases inn hp with z | z
    · exact Nat.le_succ_of_le (b.low p z)
    · exact Nat.le_of_eq z.2
  · rcases inn hp with z | z
    · have := b.low p z; omega
    · exact z.1
  · rw [keysA]
    rcases inn hp with z | z
    · by_cases hc : p.2 = c
      · rcases al p.1 (b.top p z hc) y hy with w | w
        · exact List.mem_append_left _ w
        · exact List.mem_append_right _ w
      · exact List.mem_append_left _ (b.cls p z (by have := b.low p z; omega) y hy)
    · omega
  · rcases inn hp with z | z
    · exact b.zer p z h
    · omega
  · rcases inn hp with z | z
    · obtain ⟨q, hq, h1, h2⟩ := b.pre p z h
      exact ⟨q, List.mem_append_left _ hq, h1, h2⟩
    · obtain ⟨⟨one, ho, h1⟩, _⟩ := nw _ z.1
      exact ⟨(one, c), List.mem_append_left _ (b.cur one ho), z.2.symm, h1⟩
theorem binv_len {n : Nat} {ts : List Ar} {t : Ar} {c : Nat} {S : SN} {W : List Ar} (ht : InR n t) (b : BInv n ts t c S W) : S.length ≤ n * n := by
  have := cs_len (n := n) b.nd fun x hx => by
    obtain ⟨p, hp, rfl⟩ := List.mem_map.mp hx
    exact (b.rch p hp).inR ht
  rwa [List.length_map] at this
theorem bfs_ok {n : Nat} {ts : List Ar} {t : Ar} (ht : InR n t) : ∀ (k c : Nat) (S : SN) (W : List Ar), BInv n ts t c S W → 2 * (n * n - S.length) + min W.length 1 ≤ k → ∃ c', BInv n ts t c' (bfsR n ts k c (S, W)) []
  | 0, c, S, W, b, h => by
    have e : W = [] := List.length_eq_zero_iff.mp (by omega)
    subst e; exact ⟨c, b⟩
  | k + 1, c, S, [], b, h => ⟨c, b⟩
  | k + 1, c, S, x :: W, b, h => by
    obtain ⟨xs, e, b2⟩ := binv_step b
    show ∃ c', BInv n ts t c' (bfsR n ts k (c + 1) (lvl n ts c (x :: W) (S, []))) []
    rw [e]
    refine bfs_ok ht k (c + 1) _ _ b2 ?_
    have l := binv_len ht b2
    rw [List.length_append, List.length_map] at l ⊢
    rw [List.length_cons] at h
    omega
theorem bfs_low {n : Nat} {ts : List Ar} {t : Ar} : ∀ (k c : Nat) (S : SN) (W : List Ar), BInv n ts t c S W → ∀ p ∈ bfsR n ts k c (S, W), p.2 ≤ c + k
  | 0, c, S, W, b, p, hp => b.low p hp
  | k + 1, c, S, [], b, p, hp => Nat.le_trans (b.low p hp) (Nat.le_add_right _ _)
  | k + 1, c, S, x :: W, b, p, hp => by
    obtain ⟨xs, e, b2⟩ := binv_step b
    have hp' : p ∈ bfsR n ts k (c + 1) (lvl n ts c (x :: W) (S, [])) := hp
    rw [e] at hp'
    have := bfs_low k (c + 1) _ _ b2 p hp'
    omega
theorem steps_ok {n : Nat} {ts : List Ar} {t : Ar} (ht : InR n t) : ∃ c, BInv n ts t c (stepsF n ts t) [] :=
  bfs_ok ht _ 0 _ _ (binv_one n ts t) (by show 2 * (n * n - 1) + 1 ≤ _; omega)
theorem mem_steps {n : Nat} {ts : List Ar} {t x : Ar} (ht : InR n t) : x ∈ (stepsF n ts t).map (·.1) ↔ Rch n ts t x := by
  obtain ⟨c, b⟩ := steps_ok (ts := ts) ht
  constructor
  · intro h
    obtain ⟨p, hp, rfl⟩ := List.mem_map.mp h
    exact b.rch p hp
  · intro h
    refine h.closed (P := fun x => x ∈ (stepsF n ts t).map (·.1)) (List.mem_map.mpr ⟨_, b.ori, rfl⟩) fun z hz y hy => ?_
    obtain ⟨p, hp, rfl⟩ := List.mem_map.mp hz
    refine b.cls p hp ?_ y hy
    rcases Nat.lt_or_ge p.2 c with z | z
    · exact z
    · exact absurd (b.top p hp (Nat.le_antisymm (b.low p hp) z)) List.not_mem_nil
theorem steps_nd {n : Nat} {ts : List Ar} {t : Ar} (ht : InR n t) : ((stepsF n ts t).map (·.1)).Nodup := (steps_ok (ts := ts) ht).elim fun _ b => b.nd
end My

set_option Elab.async false
set_option linter.all false
set_option maxRecDepth 100000
namespace My
open PySem PySem.Spec PyProof.Rows L2 GxR

/-! ### all classes, each by its least arrow -/
abbrev LL := List (List Ar)
def inAny (acc : LL) (x : Ar) : Bool := decide (x ∈ acc.flatten)
def clsL (n : Nat) (ts : List Ar) (l : List Ar) : LL := l.foldl (fun acc x => if inAny acc x = true then acc else acc ++ [clsS n ts x]) []
theorem clsL_step (n : Nat) (ts : List Ar) (l : List Ar) (x : Ar) : clsL n ts (l ++ [x]) = if inAny (clsL n ts l) x = true then clsL n ts l else clsL n ts l ++ [clsS n ts x] := by
  unfold clsL; rw [List.foldl_append]; rfl
def clsA (n : Nat) (ts : List Ar) : LL := clsL n ts (arS n ts)
theorem snoc_ind {α : Type} {P : List α → Prop} (h0 : P []) (hs : ∀ l x, P l → P (l ++ [x])) (l : List α) : P l := by
  have : ∀ m : List α, P m.reverse := fun m => by
    induction m with
    | nil => exact h0
    | cons a m ih => rw [List.reverse_cons]; exact hs _ _ ih
  have h := this l.reverse
  rwa [List.reverse_reverse] at h
theorem clsL_of {n : Nat} {ts l : List Ar} : ∀ c ∈ clsL n ts l, ∃ x ∈ l, c = clsS n ts x := by
  induction l using snoc_ind with
  | h0 => exact fun c h => absurd h List.not_mem_nil
  | hs l x ih =>
    intro c hc
    rw [clsL_step] at hc
    split at hc
    · obtain ⟨y, hy, e⟩ := ih c hc
      exact ⟨y, List.mem_append_left _ hy, e⟩
    · rcases List.mem_append.mp hc with z | z
      · obtain ⟨y, hy, e⟩ := ih c z
        exact ⟨y, List.mem_append_left _ hy, e⟩
      · exact ⟨x, List.mem_append_right _ (List.mem_singleton.mpr rfl), List.mem_singleton.mp z⟩
theorem clsL_len {n : Nat} {ts l : List Ar} : (clsL n ts l).length ≤ l.length := by
  induction l using snoc_ind with
  | h0 => exact Nat.le_refl _
  | hs l x ih =>
    rw [clsL_step, List.length_append]
    split
    · exact Nat.le_add_right_of_le ih
    · rw [List.length_append]
      exact Nat.add_le_add_right ih 1
theorem clsL_in {n : Nat} {ts l : List Ar} (hl : ∀ x ∈ l, x ∈ arS n ts) : ∀ x ∈ l, ∃ c ∈ clsL n ts l, x ∈ c := by
  induction l using snoc_ind with
  | h0 => exact fun c h => absurd h List.not_mem_nil
  | hs l x ih =>
    intro y hy
    have ih' := ih fun z hz => hl z (List.mem_append_left _ hz)
    have xA := hl x (List.mem_append_right _ (List.mem_singleton.mpr rfl))
    rw [clsL_step]
    split
    · rename_i hi
      rcases List.mem_append.mp hy with z | z
      · exact ih' y z
      · rw [List.mem_singleton.mp z]
        obtain ⟨c, hc, hx⟩ := List.mem_flatten.mp (of_decide_eq_true hi)
        exact ⟨c, hc, hx⟩
    · rcases List.mem_append.mp hy with z | z
      · obtain ⟨c, hc, h⟩ := ih' y z
        exact ⟨c, List.mem_append_left _ hc, h⟩
      · rw [List.mem_singleton.mp z]
        exact ⟨_, List.mem_append_right _ (List.mem_singleton.mpr rfl), (mem_cls (arS_inR xA)).mpr .refl⟩
theorem clsA_sw {n : Nat} {ts : List Ar} (hW : WOk n ts) {x : Ar} (hx : x ∈ arS n ts) : clsS n ts (sw x) ∈ clsA n ts := by
  have hs : sw x ∈ arS n ts := (mem_arS hW).mpr (((mem_arS hW).mp hx).symm)
  obtain ⟨c, hc, h⟩ := clsL_in (fun _ z => z) (sw x) hs
  obtain ⟨y, hy, rfl⟩ := clsL_of c hc
  have r := (mem_cls (arS_inR hy)).mp h
  rw [cls_ext hy r]; exact hc
theorem flat_add (acc : LL) (c : List Ar) : (acc ++ [c]).flatten = acc.flatten ++ c := by
  rw [List.flatten_append, List.flatten_cons, List.flatten_nil, List.append_nil]
theorem clsL_sum {n : Nat} {ts l : List Ar} : (clsL n ts l).flatten.length ≤ l.length * (n * n) := by
  induction l using snoc_ind with
  | h0 => exact Nat.zero_le _
  | hs l x ih =>
    rw [clsL_step, List.length_append]
    have e : [x].length = 1 := rfl
    rw [e, Nat.succ_mul]
    split
    · exact Nat.le_add_right_of_le ih
    · rw [flat_add, List.length_append]
      have := clsS_len (n := n) (ts := ts) (t := x)
      omega
end My

set_option Elab.async false
set_option linter.all false
set_option maxRecDepth 100000
namespace My
open PySem PySem.Spec PyProof.Rows L2 GxR

/-! ### the ties of a class -/
theorem nrm_tieO (t : Ar) : tieO t.1 t.2 = nrm t := rfl
theorem nrm_inR {n : Nat} {t : Ar} (h : InR n t) : InR n (nrm t) := by
  unfold nrm; split
  · exact h
  · exact inR_sw h
theorem nrm_or (t : Ar) : nrm t = t ∨ nrm t = sw t := by unfold nrm; split <;> simp
/-- the rising list of the ties of a list of arrows -/
def tiesL (n : Nat) (c : List Ar) : List Ar := (allP n).filter fun x => decide (x ∈ c.map nrm)
theorem tiesL_pw (n : Nat) (c : List Ar) : (tiesL n c).Pairwise ltT := (allP_pw n).sublist List.filter_sublist
theorem mem_tiesL {n : Nat} {c : List Ar} (hc : ∀ x ∈ c, InR n x) {t : Ar} : t ∈ tiesL n c ↔ ∃ x ∈ c, nrm x = t := by
  unfold tiesL
  rw [List.mem_filter, decide_eq_true_eq, List.mem_map]
  constructor
  · exact fun h => h.2
  · rintro ⟨x, hx, rfl⟩
    exact ⟨mem_allP.mpr (nrm_inR (hc x hx)), x, hx, rfl⟩
theorem tiesL_len {n : Nat} {c : List Ar} : (tiesL n c).length ≤ n * n := by
  rw [← allP_len n]; exact (List.filter_sublist).length_le
theorem cls_inR {n : Nat} {ts : List Ar} {t x : Ar} (ht : InR n t) (h : x ∈ clsS n ts t) : InR n x := ((mem_cls ht).mp h).inR ht
/-- the bundle of an arrow -/
def bunT (n : Nat) (ts : List Ar) (t : Ar) : List Ar := tiesL n (clsS n ts t)
theorem mem_bun {n : Nat} {ts : List Ar} {t x : Ar} (ht : InR n t) : x ∈ bunT n ts t ↔ ∃ y, Rch n ts t y ∧ nrm y = x := by
  unfold bunT
  rw [mem_tiesL fun y hy => cls_inR ht hy]
  constructor
  · rintro ⟨y, hy, e⟩; exact ⟨y, (mem_cls ht).mp hy, e⟩
  · rintro ⟨y, hy, e⟩; exact ⟨y, (mem_cls ht).mpr hy, e⟩
theorem nrm_nrm_sw (t : Ar) (h : t.1 ≠ t.2) : nrm (sw t) = nrm t := by
  unfold nrm sw
  by_cases k : t.1 < t.2
  · rw [if_pos k, if_neg (by dsimp only; omega)]
  · rw [if_neg k, if_pos (by dsimp only; omega)]
theorem ar_ne {n : Nat} {ts : List Ar} (hW : WOk n ts) {x : Ar} (h : x ∈ arS n ts) : x.1 ≠ x.2 := (nrB_lt hW (arS_nr h)).2.2.2.2
theorem nrm_ts {n : Nat} {ts : List Ar} (hW : WOk n ts) {x : Ar} (h : x ∈ arS n ts) : nrm x ∈ ts := by
  rcases (mem_arS hW).mp h with k | k
  · rw [nrm_t (hW.2 x k).2.1]; exact k
  · have e := nrm_sw (hW.2 _ k).2.1
    rw [sw_sw] at e
    rw [e]; exact k
theorem bun_sw {n : Nat} {ts : List Ar} (hW : WOk n ts) {x : Ar} (h : x ∈ arS n ts) : bunT n ts (sw x) = bunT n ts x := by
  have hi := arS_inR h
  have one : ∀ {y : Ar}, y ∈ arS n ts → ∀ t, t ∈ bunT n ts y → t ∈ bunT n ts (sw y) := fun {y} hy t ht => by
    have hi := arS_inR hy
    obtain ⟨z, hz, e⟩ := (mem_bun hi).mp ht
    refine (mem_bun (inR_sw hi)).mpr ⟨sw z, hz.sw hi, ?_⟩
    rw [nrm_nrm_sw z (ar_ne hW (hz.ar hy))]; exact e
  have hs : sw x ∈ arS n ts := (mem_arS hW).mpr (((mem_arS hW).mp h).symm)
  refine pw_ext (tiesL_pw _ _) (tiesL_pw _ _) fun t => ⟨fun k => ?_, one h t⟩
  have := one hs t k
  rwa [sw_sw] at this
theorem bun_nrm {n : Nat} {ts : List Ar} (hW : WOk n ts) {x : Ar} (h : x ∈ arS n ts) : bunT n ts (nrm x) = bunT n ts x := by
  rcases nrm_or x with e | e
  · rw [e]
  · rw [e]; exact bun_sw hW h
theorem bts_ar {n : Nat} {ts : List Ar} (hW : WOk n ts) {t : Ar} (h : t ∈ ts) : t ∈ arS n ts := (mem_arS hW).mpr (.inl h)
theorem bts_inR {n : Nat} {ts : List Ar} (hW : WOk n ts) {t : Ar} (h : t ∈ ts) : InR n t := arS_inR (bts_ar hW h)
theorem bun_sub {n : Nat} {ts : List Ar} (hW : WOk n ts) {x t : Ar} (h : x ∈ arS n ts) (ht : t ∈ bunT n ts x) : t ∈ ts := by
  obtain ⟨y, hy, rfl⟩ := (mem_bun (arS_inR h)).mp ht
  exact nrm_ts hW (hy.ar h)
theorem bun_self {n : Nat} {ts : List Ar} (hW : WOk n ts) {t : Ar} (h : t ∈ ts) : t ∈ bunT n ts t :=
  (mem_bun (bts_inR hW h)).mpr ⟨t, .refl, nrm_t (hW.2 t h).2.1⟩
/-- two ties of one bundle have it both -/
theorem bun_ext {n : Nat} {ts : List Ar} (hW : WOk n ts) {s t : Ar} (hs : s ∈ ts) (h : t ∈ bunT n ts s) : bunT n ts t = bunT n ts s := by
  have sA := bts_ar hW hs
  obtain ⟨y, hy, rfl⟩ := (mem_bun (arS_inR sA)).mp h
  rw [bun_nrm hW (hy.ar sA)]
  unfold bunT
  rw [cls_ext sA hy]
/-! ### all bundles, each by its least tie -/
def bunL (n : Nat) (ts : List Ar) (l : List Ar) : LL := l.foldl (fun acc x => if inAny acc x = true then acc else acc ++ [bunT n ts x]) []
theorem bunL_step (n : Nat) (ts : List Ar) (l : List Ar) (x : Ar) : bunL n ts (l ++ [x]) = if inAny (bunL n ts l) x = true then bunL n ts l else bunL n ts l ++ [bunT n ts x] := by
  unfold bunL; rw [List.foldl_append]; rfl
def bunA (n : Nat) (ts : List Ar) : LL := bunL n ts ts
theorem bunL_of {n : Nat} {ts l : List Ar} : ∀ c ∈ bunL n ts l, ∃ x ∈ l, c = bunT n ts x := by
  induction l using snoc_ind with
  | h0 => exact fun c h => absurd h List.not_mem_nil
  | hs l x ih =>
    intro c hc
    rw [bunL_step] at hc
    split at hc
    · obtain ⟨y, hy, e⟩ := ih c hc
      exact ⟨y, List.mem_append_left _ hy, e⟩
    · rcases List.mem_append.mp hc with z | z
      · obtain ⟨y, hy, e⟩ := ih c z
        exact ⟨y, List.mem_append_left _ hy, e⟩
      · exact ⟨x, List.mem_append_right _ (List.mem_singleton.mpr rfl), List.mem_singleton.mp z⟩
theorem bunL_len {n : Nat} {ts l : List Ar} : (bunL n ts l).length ≤ l.length := by
  induction l using snoc_ind with
  | h0 => exact Nat.le_refl _
  | hs l x ih =>
    rw [bunL_step, List.length_append]
    split
    · exact Nat.le_add_right_of_le ih
    · rw [List.length_append]
      exact Nat.add_le_add_right ih 1
theorem bunL_in {n : Nat} {ts l : List Ar} (hW : WOk n ts) (hl : ∀ x ∈ l, x ∈ ts) : ∀ x ∈ l, bunT n ts x ∈ bunL n ts l := by
  induction l using snoc_ind with
  | h0 => exact fun c h => absurd h List.not_mem_nil
  | hs l x ih =>
    intro y hy
    have hl' : ∀ z ∈ l, z ∈ ts := fun z hz => hl z (List.mem_append_left _ hz)
    have ih' := ih hl'
    have xA := hl x (List.mem_append_right _ (List.mem_singleton.mpr rfl))
    rw [bunL_step]
    split
    · rename_i hi
      rcases List.mem_append.mp hy with z | z
      · exact ih' y z
      · rw [List.mem_singleton.mp z]
        obtain ⟨c, hc, hx⟩ := List.mem_flatten.mp (of_decide_eq_true hi)
        obtain ⟨s, hs, rfl⟩ := bunL_of c hc
        rw [bun_ext hW (hl' s hs) hx]; exact hc
    · rcases List.mem_append.mp hy with z | z
      · exact List.mem_append_left _ (ih' y z)
      · rw [List.mem_singleton.mp z]
        exact List.mem_append_right _ (List.mem_singleton.mpr rfl)
/-- one below another: by their first members -/
def hdLt (c d : List Ar) : Prop := ∃ x l y m, c = x :: l ∧ d = y :: m ∧ ltT x y
theorem pw_head {x : Ar} {l : List Ar} (h : (x :: l).Pairwise ltT) : ∀ y ∈ x :: l, x = y ∨ ltT x y := fun y hy => by
  rcases List.mem_cons.mp hy with e | e
  · exact .inl e.symm
  · exact .inr ((List.pairwise_cons.mp h).1 y e)
/-- the least tie of the bundle of the least tie that is in none so far -/
theorem bunL_heads {n : Nat} {ts l : List Ar} (hW : WOk n ts) (r : List Ar) (e : ts = l ++ r) : (bunL n ts l).Pairwise hdLt ∧ ∀ c ∈ bunL n ts l, ∃ x m, c = x :: m ∧ x ∈ l := by
  induction l using snoc_ind generalizing r with
  | h0 => exact ⟨List.Pairwise.nil, fun c h => absurd h List.not_mem_nil⟩
  | hs l x ih =>
    have e' : ts = l ++ (x :: r) := by rw [e, List.append_assoc]; rfl
    obtain ⟨p, hd⟩ := ih (x :: r) e'
    have hd' : ∀ c ∈ bunL n ts l, ∃ y m, c = y :: m ∧ y ∈ l ++ [x] := fun c hc => by
      obtain ⟨y, m, e1, e2⟩ := hd c hc
      exact ⟨y, m, e1, List.mem_append_left _ e2⟩
    rw [bunL_step]
    split
    · exact ⟨p, hd'⟩
    · rename_i hi
      have hlt : ∀ z ∈ l, z ∈ ts := fun z hz => by rw [e']; exact List.mem_append_left _ hz
      have xT : x ∈ ts := by rw [e']; exact List.mem_append_right _ List.mem_cons_self
      have xs := bun_self hW xT
      -- x is the least of its bundle
      have lo : ∀ y ∈ bunT n ts x, x = y ∨ ltT x y := fun y hy => by
        have yT := bun_sub hW (bts_ar hW xT) hy
        rw [e'] at yT
        rcases List.mem_append.mp yT with k | k
        · exfalso
          refine hi (decide_eq_true (List.mem_flatten.mpr ⟨bunT n ts y, bunL_in hW hlt y k, ?_⟩))
          rw [bun_ext hW xT hy]; exact xs
        · have pw := hW.1
          rw [e', List.pairwise_append] at pw
          exact pw_head pw.2.1 y k
      have hb : ∃ m, bunT n ts x = x :: m := by
        have pw := tiesL_pw n (clsS n ts x)
        cases hq : bunT n ts x with
        | nil => rw [hq] at xs; cases xs
        | cons y m =>
          rw [hq] at xs lo
          have pw' : (y :: m).Pairwise ltT := by rw [← hq]; exact pw
          rcases pw_head pw' x xs with k | k
          · exact ⟨m, by rw [k]⟩
          · rcases lo y List.mem_cons_self with z | z
            · exact ⟨m, by rw [z]⟩
            · exact absurd (ltT_tr k z) ltT_irr
      obtain ⟨m, hm⟩ := hb
      refine ⟨?_, fun c hc => ?_⟩
      · rw [List.pairwise_append]
        refine ⟨p, List.pairwise_singleton _ _, fun c hc d hd2 => ?_⟩
        rw [List.mem_singleton.mp hd2]
        obtain ⟨y, k, e1, e2⟩ := hd c hc
        refine ⟨y, k, x, m, e1, hm, ?_⟩
        have pw := hW.1
        rw [e', List.pairwise_append] at pw
        exact pw.2.2 y e2 x List.mem_cons_self
      · rcases List.mem_append.mp hc with z | z
        · exact hd' c z
        · rw [List.mem_singleton.mp z]
          exact ⟨x, m, hm, List.mem_append_right _ (List.mem_singleton.mpr rfl)⟩
theorem bunA_pw {n : Nat} {ts : List Ar} (hW : WOk n ts) : (bunA n ts).Pairwise hdLt := (bunL_heads hW [] (List.append_nil _).symm).1
theorem bunA_hd {n : Nat} {ts : List Ar} (hW : WOk n ts) : ∀ c ∈ bunA n ts, ∃ x m, c = x :: m ∧ x ∈ ts := (bunL_heads hW [] (List.append_nil _).symm).2
theorem mem_bunA {n : Nat} {ts : List Ar} (hW : WOk n ts) {c : List Ar} : c ∈ bunA n ts ↔ ∃ x ∈ ts, c = bunT n ts x := by
  constructor
  · exact bunL_of c
  · rintro ⟨x, hx, rfl⟩
    exact bunL_in hW (fun _ z => z) x hx
/-- what the classes' ties are -/
theorem cls_buns {n : Nat} {ts : List Ar} (hW : WOk n ts) {c : List Ar} : c ∈ bunA n ts ↔ ∃ d ∈ clsA n ts, c = tiesL n d := by
  rw [mem_bunA hW]
  constructor
  · rintro ⟨x, hx, rfl⟩
    have xA := bts_ar hW hx
    obtain ⟨d, hd, h⟩ := clsL_in (n := n) (ts := ts) (l := arS n ts) (fun _ z => z) x xA
    refine ⟨d, hd, ?_⟩
    obtain ⟨y, hy, rfl⟩ := clsL_of d hd
    unfold bunT
    rw [cls_ext hy ((mem_cls (arS_inR hy)).mp h)]
  · rintro ⟨d, hd, rfl⟩
    obtain ⟨y, hy, rfl⟩ := clsL_of d hd
    refine ⟨nrm y, nrm_ts hW hy, ?_⟩
    show bunT n ts y = _
    rw [bun_nrm hW hy]
/-! ### a bundle has not all ties -/
def GapAt (n : Nat) (ts : List Ar) (p : Int) : Prop := ∃ q : Int, 0 ≤ q ∧ q < (n : Int) ∧ q ≠ p ∧ nrB ts q p = false
theorem frc_gap {n : Nat} {ts : List Ar} {t x : Ar} (h : x ∈ frcL n ts t) : GapAt n ts t.1 ∨ GapAt n ts t.2 := by
  rcases mem_frc.mp h with ⟨_, k1, k2, k⟩ | ⟨_, k1, k2, k⟩
  · unfold tA at k
    simp only [Bool.and_eq_true, Bool.not_eq_true', decide_eq_false_iff_not] at k
    exact .inr ⟨x.2, k1, k2, k.1, by rw [nrB_comm]; exact k.2.2⟩
  · unfold tB' at k
    simp only [Bool.and_eq_true, Bool.not_eq_true', decide_eq_false_iff_not] at k
    exact .inl ⟨x.1, k1, k2, k.1, by rw [nrB_comm]; exact k.2.2⟩
theorem lone {n : Nat} {ts : List Ar} {t y : Ar} (ht : InR n t) (h1 : ¬ GapAt n ts t.1) (h2 : ¬ GapAt n ts t.2) (h : Rch n ts t y) : y = t :=
  h.closed (P := fun z => z = t) rfl fun x hx y hy => by
    subst hx
    exact absurd (frc_gap ((mem_frcS ht).mp hy)) (fun z => z.elim h1 h2)
theorem part_two {α : Type} (p : α → Bool) : ∀ l : List α, (l.filter p).length + (l.filter fun x => !p x).length = l.length
  | [] => rfl
  | x :: l => by
    have ih := part_two p l
    rw [List.filter_cons, List.filter_cons]
    cases p x
    · show (l.filter p).length + (x :: l.filter fun x => !p x).length = _
      rw [List.length_cons, List.length_cons]; omega
    · show (x :: l.filter p).length + (l.filter fun x => !p x).length = _
      rw [List.length_cons, List.length_cons]; omega
theorem pup_small : ∀ n : Nat, n < 12 → (pup n n).length ≤ 55 := by decide +kernel
theorem pup_12 : (pup 12 12).length = 66 := by decide +kernel
theorem nrm_pup {n : Nat} {p q : Int} (hp : 0 ≤ p ∧ p < (n : Int)) (hq : 0 ≤ q ∧ q < (n : Int)) (ne : q ≠ p) : nrm (p, q) ∈ pup n n := by
  refine (mem_pup (Nat.le_refl n)).mpr ?_
  unfold nrm sw
  split <;> dsimp only at * <;> omega
theorem nrm_nrB {n : Nat} {ts : List Ar} (hW : WOk n ts) {p q : Int} : nrm (p, q) ∈ ts ↔ nrB ts p q = true := by
  show tieO p q ∈ ts ↔ _
  rw [tieO_tied hW]
  unfold nrB
  rw [decide_eq_true_eq]
theorem bun_few {n : Nat} {ts : List Ar} {x : Ar} (hn : n ≤ 12) (hW : WOk n ts) (hx : x ∈ ts) : (bunT n ts x).length ≤ 60 := by
  have nd : (bunT n ts x).Nodup := nd_pw (tiesL_pw _ _)
  have sub : ∀ t ∈ bunT n ts x, t ∈ pup n n := fun t ht => by
    have := hW.2 t (bun_sub hW (bts_ar hW hx) ht)
    exact (mem_pup (Nat.le_refl n)).mpr (by omega)
  by_cases hone : ∃ t ∈ bunT n ts x, ¬ GapAt n ts t.1 ∧ ¬ GapAt n ts t.2
  · obtain ⟨t, ht, g1, g2⟩ := hone
    have tT := bun_sub hW (bts_ar hW hx) ht
    have e := bun_ext hW hx ht
    have : (bunT n ts x).length ≤ [t].length := nd_len nd fun u hu => by
      rw [← e] at hu
      obtain ⟨y, hy, rfl⟩ := (mem_bun (bts_inR hW tT)).mp hu
      rw [lone (bts_inR hW tT) g1 g2 hy, nrm_t (hW.2 t tT).2.1]
      exact List.mem_singleton.mpr rfl
    exact Nat.le_trans this (by show 1 ≤ 60; decide)
  · have hall : ∀ t ∈ bunT n ts x, GapAt n ts t.1 ∨ GapAt n ts t.2 := fun t ht => Classical.byContradiction fun k => hone ⟨t, ht, fun z => k (.inl z), fun z => k (.inr z)⟩
    by_cases h12 : n < 12
    · exact Nat.le_trans (Nat.le_trans (nd_len nd sub) (pup_small n h12)) (by decide)
    have e12 : n = 12 := by omega
    subst e12
    let E : List Ar := (pup 12 12).filter fun e => !decide (e ∈ bunT 12 ts x)
    have mE : ∀ e, e ∈ E ↔ e ∈ pup 12 12 ∧ e ∉ bunT 12 ts x := fun e => by
      show e ∈ (pup 12 12).filter _ ↔ _
      rw [List.mem_filter, Bool.not_eq_true', decide_eq_false_iff_not]
    have l1 : (bunT 12 ts x ++ E).length ≤ (pup 12 12).length := nd_len (by
      rw [List.nodup_append]
      refine ⟨nd, (nd_pw (pup_pw 12 12 (Nat.le_refl _))).sublist List.filter_sublist, fun a ha b hb e => ?_⟩
      subst e
      exact ((mE a).mp hb).2 ha) fun t ht => (List.mem_append.mp ht).elim (sub t) fun z => ((mE t).mp z).1
    rw [List.length_append, pup_12] at l1
    -- nearly all places have a pair that is left out
    have cov : ∀ p ∈ up 12, GapAt 12 ts p → p ∈ E.flatMap fun e => [e.1, e.2] := fun p hp ⟨q, q1, q2, q3, q4⟩ => by
      have hp' := mem_up.mp hp
      refine List.mem_flatMap.mpr ⟨nrm (p, q), (mE _).mpr ⟨nrm_pup hp' ⟨q1, q2⟩ q3, fun z => ?_⟩, ?_⟩
      · have := (nrm_nrB hW).mp (bun_sub hW (bts_ar hW hx) z)
        rw [nrB_comm, q4] at this; cases this
      · unfold nrm sw
        split <;> simp
    have cov2 : ∀ p ∈ up 12, ∀ q ∈ up 12, p ≠ q → ¬ GapAt 12 ts p → ¬ GapAt 12 ts q → p ∈ E.flatMap fun e => [e.1, e.2] := fun p hp q hq ne g1 g2 => by
      have hp' := mem_up.mp hp
      have hq' := mem_up.mp hq
      refine List.mem_flatMap.mpr ⟨nrm (p, q), (mE _).mpr ⟨nrm_pup hp' hq' (Ne.symm ne), fun z => ?_⟩, ?_⟩
      · have := hall _ z
        revert this
        unfold nrm sw
        split <;> intro k <;> rcases k with k | k
        · exact g1 k
        · exact g2 k
        · exact g2 k
        · exact g1 k
      · unfold nrm sw
        split <;> simp
    let M : List Int := E.flatMap fun e => [e.1, e.2]
    have lM : M.length = 2 * E.length := by
      show (E.flatMap fun e => [e.1, e.2]).length = _
      generalize E = F
      induction F with
      | nil => rfl
      | cons a F ih =>
        rw [List.flatMap_cons, List.length_append, ih, List.length_cons]
        show 2 + 2 * F.length = 2 * (F.length + 1)
        omega
    have l2 : ((up 12).filter fun p => decide (p ∈ M)).length ≤ M.length := nd_len ((up_nodup 12).sublist List.filter_sublist) fun p hp => of_decide_eq_true (List.mem_filter.mp hp).2
    have l3 : ((up 12).filter fun p => !decide (p ∈ M)).length ≤ 1 := by
      have one : ∀ p ∈ (up 12).filter (fun p => !decide (p ∈ M)), ∀ q ∈ (up 12).filter (fun p => !decide (p ∈ M)), p = q := fun p hp q hq => Classical.byContradiction fun ne => by
        obtain ⟨p1, p2⟩ := List.mem_filter.mp hp
        obtain ⟨q1, q2⟩ := List.mem_filter.mp hq
        rw [Bool.not_eq_true', decide_eq_false_iff_not] at p2 q2
        exact p2 (cov2 p p1 q q1 ne (fun g => p2 (cov p p1 g)) (fun g => q2 (cov q q1 g)))
      have ndf := (up_nodup 12).sublist (List.filter_sublist (p := fun p => !decide (p ∈ M)))
      generalize (up 12).filter (fun p => !decide (p ∈ M)) = F at one ndf ⊢
      match F, one, ndf with
      | [], _, _ => exact Nat.zero_le _
      | [a], _, _ => exact Nat.le_refl _
      | a :: b :: F, one, ndf =>
        exfalso
        exact (List.nodup_cons.mp ndf).1 (by rw [one a List.mem_cons_self b (List.mem_cons_of_mem _ List.mem_cons_self)]; exact List.mem_cons_self)
    have l4 : ((up 12).filter fun p => decide (p ∈ M)).length + ((up 12).filter fun p => !decide (p ∈ M)).length = 12 := by
      rw [part_two]
      exact up_len 12
    omega
end My

set_option Elab.async false
set_option linter.all false
set_option maxRecDepth 100000
namespace My
open PySem PySem.Spec PyProof.Rows L2 GxR

/-! ### ways, by the steps that are left -/
def dOf (S : SN) (x : Ar) : Nat := ((S.find? fun p => decide (p.1 = x)).map (·.2)).getD 0
theorem dOf_mem : ∀ {S : SN} {x : Ar} {c : Nat}, (S.map (·.1)).Nodup → (x, c) ∈ S → dOf S x = c
  | [], _, _, _, h => absurd h List.not_mem_nil
  | p :: S, x, c, nd, h => by
    rw [List.map_cons, List.nodup_cons] at nd
    unfold dOf
    rcases List.mem_cons.mp h with rfl | h
    · rw [List.find?_cons_of_pos (by simp)]; rfl
    · have ne : ¬ p.1 = x := fun e => nd.1 (by rw [e]; exact List.mem_map.mpr ⟨_, h, rfl⟩)
      rw [List.find?_cons_of_neg (by simpa using ne)]
      exact dOf_mem nd.2 h
theorem mem_dOf {S : SN} {x : Ar} (nd : (S.map (·.1)).Nodup) (h : x ∈ S.map (·.1)) : (x, dOf S x) ∈ S := by
  obtain ⟨p, hp, rfl⟩ := List.mem_map.mp h
  rw [dOf_mem nd (show (p.1, p.2) ∈ S from hp)]; exact hp
def lessL (S : SN) (x : Ar) (l : List Ar) : List Ar := l.filter fun y => decide (dOf S y < dOf S x)
theorem lessL_step (S : SN) (x : Ar) (l : List Ar) (y : Ar) : lessL S x (l ++ [y]) = lessL S x l ++ (if dOf S y < dOf S x then [y] else []) := by
  unfold lessL
  rw [List.filter_append]
  by_cases h : dOf S y < dOf S x
  · rw [if_pos h, List.filter_cons_of_pos (p := fun y => decide (dOf S y < dOf S x)) (decide_eq_true h)]; rfl
  · rw [if_neg h, List.filter_cons_of_neg (p := fun y => decide (dOf S y < dOf S x)) (by simpa using h)]; rfl
theorem lessL_len (S : SN) (x : Ar) (l : List Ar) : (lessL S x l).length ≤ l.length := List.length_filter_le _ _
def nxt (n : Nat) (ts : List Ar) (S : SN) (x : Ar) : Option Ar := (lessL S x (frcS n ts x)).head?
theorem nxt_min {n : Nat} {ts : List Ar} {S : SN} {x m : Ar} (h1 : m ∈ lessL S x (frcS n ts x)) (h2 : ∀ y ∈ lessL S x (frcS n ts x), ¬ ltT y m) : nxt n ts S x = some m := by
  unfold nxt
  have pw : (lessL S x (frcS n ts x)).Pairwise ltT := (frcS_pw n ts x).sublist List.filter_sublist
  generalize lessL S x (frcS n ts x) = l at *
  cases l with
  | nil => exact absurd h1 List.not_mem_nil
  | cons a l =>
    show some a = some m
    rcases List.mem_cons.mp h1 with rfl | h
    · rfl
    · exact absurd ((List.pairwise_cons.mp pw).1 m h) (h2 a List.mem_cons_self)
theorem nxt_some {n : Nat} {ts : List Ar} {S : SN} {x y : Ar} (h : nxt n ts S x = some y) : y ∈ frcS n ts x ∧ dOf S y < dOf S x := by
  have := List.mem_of_head? h
  obtain ⟨h1, h2⟩ := List.mem_filter.mp this
  exact ⟨h1, of_decide_eq_true h2⟩
def wayR (n : Nat) (ts : List Ar) (S : SN) : Nat → Ar → List Ar → List Ar
  | 0, _, acc => acc
  | k + 1, x, acc => if dOf S x = 0 then acc else match nxt n ts S x with
    | none => acc
    | some y => wayR n ts S k y (acc ++ [y])
def wayF (n : Nat) (ts : List Ar) (S : SN) (x : Ar) : List Ar := wayR n ts S (dOf S x + 1) x [x]
def wayO (n : Nat) (ts : List Ar) (one other : Ar) : Option (List Ar) := if one ∈ (stepsF n ts other).map (·.1) then some (wayF n ts (stepsF n ts other) one) else none
theorem wayR_end {n : Nat} {ts : List Ar} {S : SN} {k : Nat} {x : Ar} {acc : List Ar} (h : dOf S x = 0) : wayR n ts S k x acc = acc := by
  cases k with
  | zero => rfl
  | succ k => rw [wayR, if_pos h]
theorem wayR_next {n : Nat} {ts : List Ar} {S : SN} {k : Nat} {x y : Ar} {acc : List Ar} (h : ¬ dOf S x = 0) (hy : nxt n ts S x = some y) : wayR n ts S (k + 1) x acc = wayR n ts S k y (acc ++ [y]) := by
  rw [wayR, if_neg h, hy]
structure Stp (n : Nat) (ts : List Ar) (t : Ar) (S : SN) : Prop where
  nd : (S.map (·.1)).Nodup
  rch : ∀ x, x ∈ S.map (·.1) ↔ Rch n ts t x
  zer : ∀ x ∈ S.map (·.1), (dOf S x = 0 ↔ x = t)
  pre : ∀ x ∈ S.map (·.1), 0 < dOf S x → ∃ y ∈ S.map (·.1), dOf S y < dOf S x ∧ x ∈ frcS n ts y
  len : S.length ≤ n * n
  low : ∀ x ∈ S.map (·.1), dOf S x ≤ 2 * (n * n) + 1
theorem steps_stp {n : Nat} {ts : List Ar} {t : Ar} (ht : InR n t) : Stp n ts t (stepsF n ts t) := by
  obtain ⟨c, b⟩ := steps_ok (ts := ts) ht
  refine ⟨b.nd, fun x => mem_steps ht, fun x hx => ⟨fun h => ?_, fun h => ?_⟩, fun x hx h => ?_, binv_len ht b, fun x hx => ?_⟩
  · exact b.zer _ (mem_dOf b.nd hx) h
  · subst h; exact dOf_mem b.nd b.ori
  · obtain ⟨q, hq, h1, h2⟩ := b.pre _ (mem_dOf b.nd hx) h
    refine ⟨q.1, List.mem_map.mpr ⟨q, hq, rfl⟩, ?_, h2⟩
    rw [dOf_mem b.nd (show (q.1, q.2) ∈ _ from hq)]
    omega
  · have := bfs_low _ 0 _ _ (binv_one n ts t) _ (mem_dOf b.nd hx)
    rw [Nat.zero_add] at this
    exact this
theorem Stp.fwd {n : Nat} {ts : List Ar} {t : Ar} {S : SN} (s : Stp n ts t S) {x y : Ar} (hx : x ∈ S.map (·.1)) (hy : y ∈ frcS n ts x) : y ∈ S.map (·.1) := (s.rch y).mpr (.step ((s.rch x).mp hx) hy)
theorem Stp.less {n : Nat} {ts : List Ar} {t : Ar} {S : SN} (s : Stp n ts t S) (ht : t ∈ arS n ts) {x : Ar} (hx : x ∈ S.map (·.1)) (h : ¬ dOf S x = 0) : lessL S x (frcS n ts x) ≠ [] := by
  obtain ⟨y, hy, h1, h2⟩ := s.pre x hx (Nat.pos_of_ne_zero h)
  have yA := ((s.rch y).mp hy).ar ht
  have : y ∈ lessL S x (frcS n ts x) := List.mem_filter.mpr ⟨frcS_symm yA h2, decide_eq_true h1⟩
  exact fun z => by rw [z] at this; exact List.not_mem_nil this
theorem wayR_len {n : Nat} {ts : List Ar} {S : SN} : ∀ (k : Nat) (x : Ar) (acc : List Ar), (wayR n ts S k x acc).length ≤ acc.length + k
  | 0, _, acc => Nat.le_refl _
  | k + 1, x, acc => by
    rw [wayR]
    split
    · omega
    · split
      · omega
      · rename_i y _
        have := wayR_len (n := n) (ts := ts) (S := S) k y (acc ++ [y])
        rw [List.length_append] at this
        have e : [y].length = 1 := rfl
        omega
end My

set_option Elab.async false
set_option linter.all false
set_option maxRecDepth 100000
namespace My
open PySem PySem.Spec PyProof.Rows L2 GxR
/-- for each arrow the list of those that it forces -/
def ForcD (H : Hp) (D : Addr) (n : Nat) (ts : List Ar) : Prop := ∃ kvs : List (List Key × V), Rd H D (.dT kvs) ∧ kvs.map (·.1) = (arS n ts).map pk ∧ ∀ x ∈ arS n ts, ∃ q us, valV kvs (pk x) = some (.ref q) ∧ H q = some (.lst us) ∧ Ties H us (frcS n ts x)
theorem rd_same {H H' : Hp} {a : Addr} {o : HO} (h : Rd H a o) (s : Same H H') : Rd H' a o := h.imp (fun e => s _ _ e) fun ⟨ob, e⟩ => ⟨ob, s _ _ e⟩
theorem dget_rd {H : Hp} {a b : Addr} {kvs : List (List Key × V)} {k : List Key} (e : Rd H a (.dT kvs)) (eb : H b = some (.tup (k.map kV))) : DGet H a (.ref b) (valV kvs k) := .inr ⟨kvs, k, b, e, rfl, eb, rfl⟩
theorem ForcD.mono {H H' : Hp} {D : Addr} {n : Nat} {ts : List Ar} (h : ForcD H D n ts) (s : Same H H') : ForcD H' D n ts := by
  obtain ⟨kvs, h1, h2, h3⟩ := h
  refine ⟨kvs, rd_same h1 s, h2, fun x hx => ?_⟩
  obtain ⟨q, us, a, b, c⟩ := h3 x hx
  exact ⟨q, us, a, s _ _ b, c.mono (Same.tst s)⟩
def dS (S : SN) : List (List Key × V) := S.map fun p => (pk p.1, V.int (p.2 : Int))
theorem dS_keys (S : SN) : (dS S).map (·.1) = (S.map (·.1)).map pk := by
  unfold dS; rw [List.map_map, List.map_map]; rfl
theorem dS_put {S : SN} {o : Ar} {c : Nat} (h : o ∉ S.map (·.1)) : putK (dS S) (pk o) (.int (c : Int)) = dS (S ++ [(o, c)]) := by
  have e : ((dS S).any fun kv => decide (kv.1 = pk o)) = false := by
    rw [valV_any, valV_keys (dS_keys S)]; exact decide_eq_false h
  unfold putK
  rw [e]
  unfold dS
  rw [List.map_append]; rfl
theorem dS_get : ∀ {S : SN} {x : Ar} {c : Nat}, (S.map (·.1)).Nodup → (x, c) ∈ S → valV (dS S) (pk x) = some (.int (c : Int))
  | [], _, _, _, h => absurd h List.not_mem_nil
  | p :: S, x, c, nd, h => by
    rw [List.map_cons, List.nodup_cons] at nd
    rcases List.mem_cons.mp h with rfl | h
    · exact valV_pos rfl
    · have ne : ¬ p.1 = x := fun e => nd.1 (by rw [e]; exact List.mem_map.mpr ⟨_, h, rfl⟩)
      exact (valV_neg (fun z => ne (pk_inj z))).trans (dS_get nd.2 h)
theorem lvl_part {n : Nat} {ts : List Ar} {t : Ar} {c : Nat} {S : SN} {wl : List Ar} (ht : InR n t) (b : BInv n ts t c S wl) (i : Nat) (fs : List Ar) (hf : ∀ x ∈ fs, InR n x) :
    ∃ xs, lay c fs (lvl n ts c (wl.take i) (S, [])) = (S ++ xs.map fun x => (x, c + 1), xs) ∧ (S.map (·.1) ++ xs).Nodup ∧ S.length + xs.length ≤ n * n := by
  obtain ⟨xs, ⟨e, nw, nd⟩, _⟩ := lvl_adds n ts c (wl.take i) S []
  obtain ⟨ys, ⟨e2, nw2, nd2⟩, _⟩ := lay_adds c fs (S ++ xs.map fun x => (x, c + 1)) xs
  rw [keysA] at nd2
  have nn := nd2 (nd b.nd)
  rw [List.append_assoc] at nn
  refine ⟨xs ++ ys, ?_, nn, ?_⟩
  · rw [e, List.nil_append, e2, List.map_append, List.append_assoc]
  · have := cs_len (n := n) nn fun x hx => ?_
    · rw [List.length_append, List.length_map] at this
      exact this
    · rcases List.mem_append.mp hx with z | z
      · obtain ⟨p, hp, rfl⟩ := List.mem_map.mp z
        exact (b.rch p hp).inR ht
      · rcases List.mem_append.mp z with z | z
        · obtain ⟨⟨one, ho, h1⟩, _⟩ := nw x z
          have oR := (b.rch _ (b.cur one (List.mem_of_mem_take ho))).inR ht
          exact frc_rng oR ((mem_frcS oR).mp h1)
        · exact hf x (nw2 x z).1
section
variable {P : Program} {w : World} {K : PySem.W.Frag} {mg : Str → Option Value} {base : Heap}
end
end My

set_option Elab.async false
set_option linter.all false
set_option maxRecDepth 100000
namespace My
open PySem PySem.Spec PyProof.Rows L2 GxR
/-! ### lists of numbers as data -/
def dI (ns : List Int) : PyData := .list (ns.map PyData.int)
theorem dpI {K : PySem.W.Frag} {H : Hp} : ∀ ns : List Int, DpAll K H (ns.map V.int) (ns.map PyData.int)
  | [] => .nil
  | _ :: ns => .cons (.int _) (dpI ns)
theorem shaped_dI (ns : List Int) : SeqAt.shaped (dI ns) = true := by
  unfold SeqAt.shaped dI
  rw [Bool.and_eq_true, decide_eq_true_eq]
  constructor
  · show PyData.canLayAll0 _ = true
    induction ns with
    | nil => rfl
    | cons a l ih => rw [List.map_cons, PyData.canLayAll0, ih]; rfl
  · show PyData.depthAll _ + 1 ≤ 64
    have : PyData.depthAll (ns.map PyData.int) = 0 := by
      induction ns with
      | nil => rfl
      | cons a l ih => rw [List.map_cons, PyData.depthAll, ih]; rfl
    omega
theorem eqv_dI (ns : List Int) : PyData.eqv (dI ns) (dI ns) = true := by
  show PyData.eqvAll (ns.map PyData.int) (ns.map PyData.int) = true
  induction ns with
  | nil => rfl
  | cons a l ih =>
    rw [List.map_cons]
    show ((a == a) && PyData.eqvAll (l.map PyData.int) (l.map PyData.int)) = true
    rw [ih, beq_self_eq_true]; rfl
theorem cutFrom (xs : List V) (j : Nat) : cutV xs (some (j : Int)) none = xs.drop j := by
  unfold cutV
  rw [HT.sIx_nat, HT.sIx_none]
  by_cases h : j ≤ xs.length
  · rw [Nat.min_eq_left h, ← List.length_drop, List.take_length]
  · rw [Nat.min_eq_right (by omega), Nat.sub_self, List.take_zero, List.drop_eq_nil_of_le (by omega)]
/-! ### lists of lists of arrows as data -/
def dL (c : List Ar) : PyData := .list (c.map dT)
theorem can_lists (cls : List (List Ar)) : PyData.canLayAll0 (cls.map dL) = true := by
  induction cls with
  | nil => rfl
  | cons a l ih =>
    rw [List.map_cons, PyData.canLayAll0, ih]
    have : (dL a).canLay0 = true := can_ties a
    rw [this]; rfl
theorem dep_lists (cls : List (List Ar)) : PyData.depthAll (cls.map dL) ≤ 2 := by
  induction cls with
  | nil => exact Nat.zero_le _
  | cons a l ih =>
    rw [List.map_cons, PyData.depthAll]
    have : (dL a).depth ≤ 2 := by
      show PyData.depthAll (a.map dT) + 1 ≤ 2
      have := dep_ties a
      omega
    omega
theorem shaped_lists (cls : List (List Ar)) : SeqAt.shaped (.list (cls.map dL)) = true := by
  unfold SeqAt.shaped
  rw [Bool.and_eq_true, decide_eq_true_eq]
  refine ⟨can_lists cls, ?_⟩
  show PyData.depthAll _ + 1 ≤ 64
  have := dep_lists cls
  omega
theorem any_dL {cls : List (List Ar)} {c : List Ar} (h : c ∈ cls) : ((cls.map dL).any fun z => PyData.eqv z (dL c)) = true :=
  List.any_eq_true.mpr ⟨dL c, List.mem_map.mpr ⟨c, h, rfl⟩, eqv_ties c⟩
end My

set_option Elab.async false
set_option linter.all false
set_option maxRecDepth 100000
namespace My
open PySem PySem.Spec PyProof.Rows L2 GxR
section
variable {P : Program} {w : World} {K : PySem.W.Frag} {mg : Str → Option Value} {base : Heap}
end
end My

set_option Elab.async false
set_option linter.all false
set_option maxRecDepth 100000
namespace My
open PySem PySem.Spec PyProof.Rows L2 GxR
/-- a list of lists of arrows, no two of them one and the same, all new to H0 -/
structure LsAt (H0 H : Hp) (p : Addr) (qs : List Addr) (cls : LL) : Prop where
  here : H p = some (.lst (qs.map V.ref))
  len : qs.length = cls.length
  nd : qs.Nodup
  out : p ∉ qs
  new : ∀ q ∈ qs, H0 q = none
  at_ : ∀ (i : Nat) (q : Addr), qs[i]? = some q → ∃ us c, cls[i]? = some c ∧ H q = some (.lst us) ∧ Ties H us c
theorem LsAt.mono {H0 H H' : Hp} {p : Addr} {qs : List Addr} {cls : LL} (h : LsAt H0 H p qs cls) (s : Same H H') : LsAt H0 H' p qs cls :=
  ⟨s _ _ h.here, h.len, h.nd, h.out, h.new, fun i q e => by obtain ⟨us, c, a, b, d⟩ := h.at_ i q e; exact ⟨us, c, a, s _ _ b, d.mono (Same.tst s)⟩⟩
theorem LsAt.older {H0 H1 H : Hp} {p : Addr} {qs : List Addr} {cls : LL} (h : LsAt H1 H p qs cls) (s : Same H0 H1) : LsAt H0 H p qs cls := ⟨h.here, h.len, h.nd, h.out, fun q hq => same_free s (h.new q hq), h.at_⟩
theorem LsAt.nil {H0 H : Hp} {p : Addr} (e : H p = some (.lst [])) : LsAt H0 H p [] [] := ⟨e, rfl, List.nodup_nil, List.not_mem_nil, fun _ h => absurd h List.not_mem_nil, fun i q h => by cases h⟩
theorem LsAt.add {H0 H : Hp} {p d : Addr} {qs : List Addr} {cls : LL} {us : List V} {c : List Ar} (h : LsAt H0 H p qs cls) (ed : H d = some (.lst us)) (hT : Ties H us c) (dp : d ≠ p) (dq : d ∉ qs) (nd : H0 d = none) : LsAt H0 (upd H p (.lst (qs.map V.ref ++ [.ref d]))) p (qs ++ [d]) (cls ++ [c]) := by
  have tp := tst_put (o := .lst (qs.map V.ref ++ [.ref d])) h.here
  refine ⟨by rw [upd_same, List.map_append]; rfl, by rw [List.length_append, List.length_append, h.len]; rfl, ?_, ?_, fun q hq => ?_, fun i q e => ?_⟩
  · rw [List.nodup_append]
    refine ⟨h.nd, List.nodup_cons.mpr ⟨List.not_mem_nil, List.nodup_nil⟩, fun a ha b hb e => ?_⟩
    rw [List.mem_singleton.mp hb] at e
    subst e; exact dq ha
  · intro z
    rcases List.mem_append.mp z with z | z
    · exact h.out z
    · exact dp (List.mem_singleton.mp z).symm
  · rcases List.mem_append.mp hq with z | z
    · exact h.new q z
    · rw [List.mem_singleton.mp z]; exact nd
  · have hl := h.len
    by_cases hi : i < qs.length
    · rw [List.getElem?_append_left hi] at e
      obtain ⟨vs, c', e1, e2, e3⟩ := h.at_ i q e
      have nq : q ≠ p := fun z => h.out (z ▸ List.mem_of_getElem? e)
      refine ⟨vs, c', by rw [List.getElem?_append_left (by omega)]; exact e1, by rw [upd_ne nq]; exact e2, e3.mono tp⟩
    · rw [List.getElem?_append_right (by omega)] at e
      have h0 : i - qs.length = 0 := by
        cases hh : i - qs.length with
        | zero => rfl
        | succ k => rw [hh] at e; cases e
      rw [h0] at e
      cases e
      refine ⟨us, c, ?_, by rw [upd_ne dp]; exact ed, hT.mono tp⟩
      rw [List.getElem?_append_right (by omega), show i - cls.length = 0 from by omega]; rfl
theorem same_unlock {H H' : Hp} {d : Addr} {u : HO} {od : Obj} (e : H d = some u) (s : Same (upd H d (.frz od u)) H') : Same H (upd H' d u) := fun b o h => by
  by_cases hb : b = d
  · subst hb; rw [upd_same]; rw [e] at h; exact h
  · rw [upd_ne hb]; exact s b o (by rw [upd_ne hb]; exact h)
theorem forc_lock {H : Hp} {D : Addr} {n : Nat} {ts : List Ar} {kvs : List (List Key × V)} {od : Obj} (h : ForcD H D n ts) (e : H D = some (.dT kvs)) : ForcD (upd H D (.frz od (.dT kvs))) D n ts := by
  obtain ⟨k, h1, h2, h3⟩ := h
  have ek : k = kvs := by
    rcases h1 with z | ⟨o, z⟩
    · rw [e] at z; cases z; rfl
    · rw [e] at z; cases z
  subst ek
  have td : Tst H (upd H D (.frz od (.dT k))) := fun b xs z => by rw [upd_ne (fun w => by rw [w, e] at z; cases z)]; exact z
  refine ⟨k, .inr ⟨od, upd_same⟩, h2, fun x hx => ?_⟩
  obtain ⟨q, us, a, b, c⟩ := h3 x hx
  exact ⟨q, us, a, by rw [upd_ne (fun w => by rw [w, e] at b; cases b)]; exact b, c.mono td⟩
section
variable {P : Program} {w : World} {K : PySem.W.Frag} {mg : Str → Option Value} {base : Heap}
end
end My

set_option Elab.async false
set_option linter.all false
set_option maxRecDepth 100000
namespace My
open PySem PySem.Spec PyProof.Rows L2 GxR
theorem ts_ar {n : Nat} {ts : List Ar} (hW : WOk n ts) {t : Ar} (h : t ∈ ts) : t ∈ arS n ts := (mem_arS hW).mpr (.inl h)
theorem ts_arS {n : Nat} {ts : List Ar} (hW : WOk n ts) {t : Ar} (h : t ∈ ts) : sw t ∈ arS n ts := (mem_arS hW).mpr (.inr h)
theorem arS_sw {n : Nat} {ts : List Ar} (hW : WOk n ts) {t : Ar} (h : t ∈ arS n ts) : sw t ∈ arS n ts := (mem_arS hW).mpr (((mem_arS hW).mp h).symm)
section
variable {P : Program} {w : World} {K : PySem.W.Frag} {mg : Str → Option Value} {base : Heap}
/-! ### an arrow drawn -/
abbrev s__law_arrow : Stmt := topS 28
abbrev N__law_arrow : List Str := ["_law_left_here", "_law_web_here", "_law_tie"]
theorem sc__law_arrow : FnScope N__law_arrow ["_law_left_here", "_law_web_here"] (defScope s__law_arrow) := ⟨rfl, rfl, rfl, by decide +kernel, rfl, by decide +kernel, by decide +kernel⟩
def sp_larrow : Sp := fun vs H Q _ => ∃ (L : Addr) (v : V) (c : Int) (n : Nat) (ts : List Ar), vs = [.ref L, v] ∧ Lf H L c ∧ c < 2 ^ 49 ∧ Web H v n ts ∧ WOk n ts ∧ ts.length ≤ 10000 ∧ ts ≠ [] ∧
  ∀ x H' t, t ∈ arS n ts → Fr L H H' → Lf H' L (c + 2) → Tie H' x t → Q x H'
theorem ok_larrow {f : Addr} {fd : FuncData} (B : Bts mg) (F : Fun K "_law_arrow" "_law_arrow" s__law_arrow f fd) (c__law_pick : Cl P w K mg base 2 "_law_pick" sp_pick) : FnOk P w K mg base CX0 3 f fd ["_law_left_here", "_law_web_here"] sp_larrow := by
  refine F.ok sc__law_arrow (fun vs H Q E h => ?_) (fun cdv A outer s H vs Q E hr h => ?_)
  · obtain ⟨L, v, c, n, ts, rfl, _⟩ := h; rfl
  · obtain ⟨L, v, c, n, ts, rfl, lf, hc, ⟨p, q', us, rfl, ep, eq, hT⟩, hW, hl, hne, q⟩ := h
    refine ⟨_, (pss_cons (ps_set (i := 2) sc__law_arrow.nd rfl (by first | exact Or.inl rfl | exact Or.inr rfl) (pe_ix ix_tup (pe_ix ix_tup (pv 1) pe_int (fun _ _ => rfl)) (pe_c c__law_pick hr (by decide) (by rfl) (pa_cons (pv 0) (pa_cons (pe_callB call_len_seq (by rfl) B.len (by decide +kernel) (pa_cons (pe_ix ix_tup (pv 1) pe_int (fun _ _ => rfl)) pa_nil)) pa_nil))) (fun _ _ => rfl)))
    (pss_one (ps_ret (pe_ix ix_list (pe_lst (pa_cons (pv 2) (pa_cons (pe_rev2 (pv 2)) pa_nil))) (pe_c c__law_pick hr (by decide) (by rfl) (pa_cons (pv 0) (pa_cons pe_int pa_nil))) (fun _ _ => rfl))))), ?_⟩
    have ul := hT.len
    have tpos : 0 < ts.length := List.length_pos_iff.mpr hne
    refine ⟨_, rfl, p, _, _, _, rfl, rfl, SqT.of ep, rfl, ?_⟩
    refine ⟨_, rfl, _, rfl, p, _, _, _, rfl, rfl, SqT.of ep, rfl, q', us, rfl, .inr (SqT.of eq), L, _, c, rfl, lf, by omega, by omega, by omega, fun r H1 r0 r1 fr1 lf1 => ?_⟩
    obtain ⟨j, ej⟩ := natOf r0
    have hj : j < us.length := by omega
    have gj : us[j]? = some us[j] := List.getElem?_eq_getElem hj
    generalize us[j] = z at gj
    obtain ⟨t, tm, ht⟩ := hT.mem gj
    have st1 := lf.tst fr1
    obtain ⟨pt, rfl, ept⟩ := ht.mono st1
    refine ⟨q', _, _, .ref pt, rfl, rfl, SqT.of (st1 _ _ eq), by rw [ej]; exact atI_nat gj, ?_⟩
    refine ⟨_, rfl, _, rfl, pt, _, _, rfl, ept, fun k nk => ?_⟩
    have sk := same_new (o := .tup [.int t.2, .int t.1]) nk
    refine ⟨by show 2 ≤ sizeLine; decide, fun g ng => ?_⟩
    have sg := same_new (o := .lst [.ref pt, .ref k]) ng
    have skg := sk.trans sg
    have gL : g ≠ L := (lf1.same sk).ne ng
    refine ⟨_, rfl, L, 2, _, rfl, lf1.same skg, by omega, by omega, by omega, fun r2 H2 r20 r21 fr2 lf2 => ?_⟩
    have eg2 := fr2 g _ gL upd_same
    have fr := (fr1.trans (Fr.of skg)).trans fr2
    have st2 := (Same.tst skg).trans ((lf1.same skg).tst fr2)
    have hR2 : r2 = 0 ∨ r2 = 1 := by omega
    rcases hR2 with rfl | rfl
    · refine ⟨g, _, _, .ref pt, rfl, rfl, SqL.of eg2, atI_nat (j := 0) rfl, ?_⟩
      exact q _ H2 t (ts_ar hW tm) fr (lf2.mono (by omega)) ⟨pt, rfl, st2 _ _ ept⟩
    · refine ⟨g, _, _, .ref k, rfl, rfl, SqL.of eg2, atI_nat (j := 1) rfl, ?_⟩
      exact q _ H2 (sw t) (ts_arS hW tm) fr (lf2.mono (by omega)) ⟨k, rfl, ((lf1.same skg).tst fr2) _ _ (sg _ _ upd_same)⟩
end
end My

set_option Elab.async false
set_option linter.all false
set_option maxRecDepth 100000
namespace My
open PySem PySem.Spec PyProof.Rows L2 GxR
theorem dget_dS {H : Hp} {F b : Addr} {S : SN} {x : Ar} (nd : (S.map (·.1)).Nodup) (hx : x ∈ S.map (·.1)) (e : H F = some (.dT (dS S))) (eb : H b = some (.tup [.int x.1, .int x.2])) : DGet H F (.ref b) (some (.int (dOf S x : Int))) := by
  have := DGet.t (k := pk x) e eb
  rw [dS_get nd (mem_dOf nd hx)] at this
  exact this
def wayQ (n : Nat) (ts : List Ar) (one other : Ar) (H : Hp) (Q : VK) : Prop := (wayO n ts one other = none → ∀ H', Same H H' → Q .non H') ∧ ∀ l, wayO n ts one other = some l → ∀ p us H', H p = none → Same H H' → H' p = some (.lst us) → Ties H' us l → Q (.ref p) H'
section
variable {P : Program} {w : World} {K : PySem.W.Frag} {mg : Str → Option Value} {base : Heap}
/-! ### _law_far -/
abbrev s__law_far : Stmt := topS 29
abbrev N__law_far : List Str := ["_law_web_here", "_law_near_here", "_law_goal", "_law_found", "_law_ring", "_law_further", "_law_one", "_law_other"]
theorem sc__law_far : FnScope N__law_far ["_law_web_here", "_law_near_here", "_law_goal"] (defScope s__law_far) := ⟨rfl, rfl, rfl, by decide +kernel, rfl, by decide +kernel, by decide +kernel⟩
def sp_far : Sp := fun vs H Q _ => ∃ (v x : V) (N : Addr) (kvs : List (List Key × V)) (n : Nat) (ts : List Ar) (t : Ar), vs = [v, .ref N, x] ∧ Web H v n ts ∧ n ≤ 12 ∧ H N = some (.dT kvs) ∧ NearD kvs ts ∧ Tie H x t ∧ t ∈ arS n ts ∧ ∀ F H', H F = none → Same H H' → H' F = some (.dT (dS (stepsF n ts t))) → Q (.ref F) H'
theorem ok_far {f : Addr} {fd : FuncData} (B : Bts mg) (F : Fun K "_law_far" "_law_far" s__law_far f fd) (c__law_forced : Cl P w K mg base 1 "_law_forced" sp_forced) : FnOk P w K mg base CX0 2 f fd ["_law_web_here", "_law_near_here", "_law_goal"] sp_far := by
  refine F.ok sc__law_far (fun vs H Q E h => ?_) (fun cdv A outer s H vs Q E hr h => ?_)
  · obtain ⟨v, x, N, kvs, n, ts, t, rfl, _⟩ := h; rfl
  · obtain ⟨v, x, N, kvs, n, ts, t, rfl, hWeb, hn, eN, hN, hx, hA, q⟩ := h
    refine ⟨_, (pss_cons (ps_set (i := 3) sc__law_far.nd rfl (by first | exact Or.inl rfl | exact Or.inr rfl) (pe_disp1 empt_dT (hu_of hr) (pv 2) pe_int))
    (pss_cons (ps_set (i := 4) sc__law_far.nd rfl (by first | exact Or.inl rfl | exact Or.inr rfl) (pe_lst (pa_cons (pv 2) pa_nil)))
    (pss_cons (ps_while PassesOwn.never (pt_cmpR (op_neD hr.units) (pv 4) (pe_lst pa_nil) (nomark _))
      (pss_cons (ps_set (i := 5) sc__law_far.nd rfl (by first | exact Or.inl rfl | exact Or.inr rfl) (pe_lst pa_nil))
      (pss_cons (ps_for PassesOwn.never rfl (pi_list (pv 4)) (pg_name (i := 6) sc__law_far.nd rfl (by first | exact Or.inl rfl | exact Or.inr rfl))
        (pss_one (ps_for PassesOwn.never rfl (pi_list (pe_c c__law_forced hr (by decide) (by rfl) (pa_cons (pv 0) (pa_cons (pv 1) (pa_cons (pv 6) pa_nil))))) (pg_name (i := 7) sc__law_far.nd rfl (by first | exact Or.inl rfl | exact Or.inr rfl))
          (pss_one (ps_if (pt_cmp (pc_dnotin (hu_of hr) (pv 7) (pv 3))) (pss_cons (ps_dput (hu_of hr) (pv 3) (pv 7) (pe_op op_add (pe_dget (hu_of hr) (pv 3) (pv 6) (fun _ _ => rfl)) pe_int) rfl)
            (pss_one (ps_expr (pe_bm PySem.F.plainAttrs_list PySem.F.slot_list_append PySem.F.type_list_append mt_append (pv 5) (pa_cons (pv 7) pa_nil))))) pss_nil)))))
      (pss_one (ps_set (i := 4) sc__law_far.nd rfl (by first | exact Or.inl rfl | exact Or.inr rfl) (pv 5))))))
    (pss_one (ps_ret (pv 3)))))), ?_⟩
    obtain ⟨px, rfl, epx⟩ := id hx
    have hR := arS_inR hA
    have nn : n * n ≤ 144 := Nat.mul_le_mul hn hn
    refine fun Fd nF => ⟨_, rfl, _, DPut.t (k := pk t) upd_same ((same_new nF) _ _ epx) (by show 0 < sizeLine; decide), ?_⟩
    have s1 : Same H (upd (upd H Fd (.dT [])) Fd (.dT (putK [] (pk t) (.int 0)))) := Same.put (same_new nF) nF
    have eF1 : (upd (upd H Fd (.dT [])) Fd (.dT (putK [] (pk t) (.int 0)))) Fd = some (.dT (dS [(t, 0)])) := upd_same
    generalize upd (upd H Fd (.dT [])) Fd (.dT (putK [] (pk t) (.int 0))) = H1 at s1 eF1 ⊢
    refine ⟨_, rfl, by show 1 ≤ sizeLine; decide, fun Wt nW => ?_⟩
    have sW := same_new (o := .lst [.ref px]) nW
    let W : Nat → L2.St → Hp → Prop := fun m σ H1 => ∃ Wt ws wl S c y4 y5 y6, σ = [some v, some (.ref N), some (.ref px), some (.ref Fd), some (.ref Wt), y4, y5, y6] ∧ Same H H1 ∧ H1 Fd = some (.dT (dS S)) ∧ H1 Wt = some (.lst ws) ∧ Ties H1 ws wl ∧ BInv n ts t c S wl ∧ bfsR n ts m c (S, wl) = stepsF n ts t ∧ 2 * (n * n - S.length) + min wl.length 1 ≤ m
    refine ⟨W, ⟨2 * (n * n) + 1, Wt, [.ref px], [t], [(t, 0)], 0, none, none, none, rfl, s1.trans sW, sW _ _ eF1, upd_same, Ties.one (hx.mono (Same.tst (s1.trans sW))), binv_one n ts t, rfl, by show 2 * (n * n - 1) + 1 ≤ _; omega⟩, ?_⟩
    rintro m σ H2 ⟨Wt, ws, wl, S, c, y4, y5, y6, rfl, s2, eF, eW, hT, bi, hc, hm⟩
    have wlen := hT.len
    refine ⟨_, rfl, Nat.zero_le _, fun EE nEE => ?_⟩
    have sEE := same_new (o := .lst []) nEE
    refine ⟨.list (wl.map dT), .list [], .lst (SqL.of (sEE _ _ eW)) (hT.mono (Same.tst sEE)).dp, .lst (SqL.of upd_same) .nil, shaped_ties wl, rfl, _, rfl, ?_⟩
    rw [eqv_nil]
    replace s2 := s2.trans sEE
    replace eF := sEE _ _ eF
    replace eW := sEE _ _ eW
    replace hT := hT.mono (Same.tst sEE)
    generalize upd H2 EE (.lst []) = H2 at s2 eF eW hT ⊢
    cases wl with
    | nil =>
      rw [bfsR_nil] at hc
      subst hc
      exact iteF ⟨_, rfl, q Fd H2 nF s2 eF⟩
    | cons w0 wl0 =>
      rw [decide_eq_false (by simp)]
      refine iteT ⟨W (m - 1), fun σ' H' hh => ⟨m - 1, by rw [List.length_cons] at hm; omega, hh⟩, ?_⟩
      obtain ⟨m', rfl⟩ : ∃ m', m = m' + 1 := ⟨m - 1, by rw [List.length_cons] at hm; omega⟩
      generalize hwl : w0 :: wl0 = wl at *
      have wpos : 0 < wl.length := by rw [← hwl]; exact Nat.succ_pos _
      refine ⟨Nat.zero_le _, fun G nG => ?_⟩
      have sG := same_new (o := .lst []) nG
      have nG0 : H G = none := same_free s2 nG
      have nFG : Fd ≠ G := ne_of_none eF nG
      have nWG : Wt ≠ G := ne_of_none eW nG
      have nWF : Wt ≠ Fd := fun z => by rw [z, eF] at eW; cases eW
      refine ⟨_, rfl, Wt, rfl, ⟨_, SqL.of (sG _ _ eW)⟩, ?_⟩
      refine for_it (walk_list (K := K) (a := Wt) (xs := ws)) (fun i σ H3 => ∃ us y5 y6, σ = [some v, some (.ref N), some (.ref px), some (.ref Fd), some (.ref Wt), some (.ref G), y5, y6] ∧ Same H H3 ∧ Tst H2 H3 ∧ H3 Wt = some (.lst ws) ∧ H3 Fd = some (.dT (dS (lvl n ts c (wl.take i) (S, [])).1)) ∧ H3 G = some (.lst us) ∧ Ties H3 us (lvl n ts c (wl.take i) (S, [])).2)
        ⟨[], y5, y6, rfl, s2.trans sG, Same.tst sG, sG _ _ eW, sG _ _ eF, upd_same, by exact trivial⟩ ?_ ?_ ?_
      · rintro i σ H3 _ ⟨_, _, _, _, _, _, eW3, _⟩
        exact SqL.of eW3
      · rintro i z σ H3 H4 hi ⟨us, y5, y6, rfl, s3, t3, eW3, eF3, eG3, hU⟩ ⟨rfl, hz⟩
        obtain ⟨o, eo, ho⟩ := hT.at hz
        have om := List.mem_of_getElem? eo
        have oS := bi.cur o om
        have oA := (bi.rch _ oS).ar hA
        have oR := arS_inR oA
        obtain ⟨po, rfl, epo⟩ := ho.mono t3
        have fr : ∀ z ∈ frcS n ts o, InR n z := fun z hz => frc_rng oR ((mem_frcS oR).mp hz)
        refine ⟨_, rfl, _, rfl, _, rfl, v, .ref po, N, kvs, n, ts, o, rfl, hWeb.mono (Same.tst s3), by omega, s3 _ _ eN, hN, ⟨po, rfl, epo⟩, oR, fun qo uo HX nqo sX eqo hTo => ?_⟩
        refine ⟨qo, rfl, ⟨_, SqL.of eqo⟩, ?_⟩
        have qoF : qo ≠ Fd := fun z => by rw [z, eF3] at nqo; cases nqo
        have qoG : qo ≠ G := fun z => by rw [z, eG3] at nqo; cases nqo
        replace s3 := s3.trans sX
        replace t3 := t3.trans (Same.tst sX)
        replace eW3 := sX _ _ eW3
        replace eF3 := sX _ _ eF3
        replace eG3 := sX _ _ eG3
        replace hU := hU.mono (Same.tst sX)
        have l0 : lvl n ts c (wl.take i) (S, []) = lay c ((frcS n ts o).take 0) (lvl n ts c (wl.take i) (S, [])) := rfl
        refine for_it (walk_list (K := K) (a := qo) (xs := uo)) (fun j σ H5 => ∃ us y6, σ = [some v, some (.ref N), some (.ref px), some (.ref Fd), some (.ref Wt), some (.ref G), some (.ref po), y6] ∧ Same H H5 ∧ Tst H2 H5 ∧ Tst HX H5 ∧ H5 qo = some (.lst uo) ∧ H5 Wt = some (.lst ws) ∧ H5 Fd = some (.dT (dS (lay c ((frcS n ts o).take j) (lvl n ts c (wl.take i) (S, []))).1)) ∧ H5 G = some (.lst us) ∧ Ties H5 us (lay c ((frcS n ts o).take j) (lvl n ts c (wl.take i) (S, []))).2)
          ⟨us, y6, rfl, s3, t3, Tst.refl _, eqo, eW3, eF3, eG3, hU⟩ ?_ ?_ ?_
        · rintro j σ H5 _ ⟨_, _, _, _, _, _, eq5, _⟩
          exact SqL.of eq5
        · rintro j z σ H5 H6 hj ⟨us, y6, rfl, s5, t5, tX5, eq5, eW5, eF5, eG5, hU5⟩ ⟨rfl, hz⟩
          obtain ⟨r, er, hr'⟩ := hTo.at hz
          obtain ⟨pr, rfl, epr⟩ := hr'.mono tX5
          have st := lay_step c ((frcS n ts o).take j) r (lvl n ts c (wl.take i) (S, []))
          rw [show (frcS n ts o).take j ++ [r] = (frcS n ts o).take (j + 1) from by rw [List.take_add_one, er]; rfl] at st
          obtain ⟨xs, ex, nd5, le5⟩ := lvl_part hR bi i ((frcS n ts o).take j) fun x hx => fr x (List.mem_of_mem_take hx)
          rw [ex] at eF5 hU5 st
          dsimp only at eF5 hU5 st
          have epo5 : H6 po = some (.tup [.int o.1, .int o.2]) := by
            obtain ⟨po', e', epo'⟩ := ho.mono t5
            cases e'; exact epo'
          refine ⟨_, rfl, _, rfl, Fd, _, rfl, DGet.t (k := pk r) eF5 epr, _, rfl, ?_⟩
          rw [valV_keys (dS_keys _)]
          by_cases hm : r ∈ (S ++ xs.map fun x => (x, c + 1)).map (·.1)
          · rw [if_pos hm] at st
            rw [decide_eq_true hm]
            refine iteF ⟨us, _, rfl, s5, t5, tX5, eq5, eW5, ?_, eG5, ?_⟩
            · rw [st]; exact eF5
            · rw [st]; exact hU5
          · rw [if_neg hm] at st
            rw [decide_eq_false hm]
            have g2 : DGet H6 Fd (.ref po) (some (.int (c : Int))) := by
              have := DGet.t (k := pk o) eF5 epo5
              rw [dS_get (by rw [keysA]; exact nd5) (List.mem_append_left _ oS)] at this
              exact this
            have ul := hU5.len
            refine iteT ⟨_, rfl, _, rfl, Fd, _, rfl, g2, _, _, rfl, rfl, _, rfl, _, rfl, Fd, _, rfl, DPut.t (k := pk r) eF5 epr (sz' (by unfold dS; rw [List.length_map, List.length_append, List.length_map]; omega)), ?_⟩
            rw [show putK (dS (S ++ xs.map fun x => (x, c + 1))) (pk r) (.int ((c : Int) + 1)) = dS (S ++ xs.map (fun x => (x, c + 1)) ++ [(r, c + 1)]) from dS_put (c := c + 1) hm]
            have eG6 : (upd H6 Fd (.dT (dS (S ++ xs.map (fun x => (x, c + 1)) ++ [(r, c + 1)])))) G = some (.lst us) := by rw [upd_ne (Ne.symm nFG)]; exact eG5
            have t6 : Tst H6 (upd H6 Fd (.dT (dS (S ++ xs.map (fun x => (x, c + 1)) ++ [(r, c + 1)])))) := fun b xs e => by
              rw [upd_ne (fun z => by rw [z, eF5] at e; cases e)]; exact e
            refine ⟨_, rfl, .inl ⟨rfl, _, SqL.of eG6⟩, _, rfl, G, _, _, rfl, rfl, eG6, sz' (by omega), us ++ [.ref pr], _, rfl, Same.put (Same.put s5 nF) nG0, (t5.trans t6).trans (tst_put eG6), (tX5.trans t6).trans (tst_put eG6), ?_, ?_, ?_, upd_same, ?_⟩
            · rw [upd_ne qoG, upd_ne qoF]; exact eq5
            · rw [upd_ne nWG, upd_ne nWF]; exact eW5
            · rw [upd_ne nFG, upd_same, st]
            · rw [st]
              exact Ties.mono (tst_put eG6) ((hU5.mono t6).app (Ties.one ((show Tie H6 (.ref pr) r from ⟨pr, rfl, epr⟩).mono t6)))
        · rintro σ H5 ⟨us, y6, rfl, s5, t5, tX5, eq5, eW5, eF5, eG5, hU5⟩
          rw [hTo.len, List.take_length, ← lvl_step, show wl.take i ++ [o] = wl.take (i + 1) from by rw [List.take_add_one, eo]; rfl] at eF5 hU5
          exact ⟨us, _, _, rfl, s5, t5, eW5, eF5, eG5, hU5⟩
      · rintro σ H3 ⟨us, y5, y6, rfl, s3, t3, eW3, eF3, eG3, hU⟩
        rw [wlen, List.take_length] at eF3 hU
        obtain ⟨xs, ex, bi2⟩ := binv_step bi
        rw [ex] at eF3 hU
        have l := binv_len hR bi2
        rw [List.length_append, List.length_map] at l
        refine ⟨_, rfl, G, us, xs, _, c + 1, _, _, _, rfl, s3, eF3, eG3, hU, bi2, ?_, ?_⟩
        · rw [← hc, ← ex, ← hwl]; rfl
        · rw [List.length_append, List.length_map]; omega
/-! ### _law_way_due -/
abbrev s__law_way_due : Stmt := topS 30
abbrev N__law_way_due : List Str := ["_law_web_here", "_law_near_here", "_law_one", "_law_other", "_law_far_here", "_law_found", "_law_arrow_here"]
theorem sc__law_way_due : FnScope N__law_way_due ["_law_web_here", "_law_near_here", "_law_one", "_law_other"] (defScope s__law_way_due) := ⟨rfl, rfl, rfl, by decide +kernel, rfl, by decide +kernel, by decide +kernel⟩
def sp_waydue : Sp := fun vs H Q _ => ∃ (v x y : V) (N : Addr) (kvs : List (List Key × V)) (n : Nat) (ts : List Ar) (s t : Ar), vs = [v, .ref N, x, y] ∧ Web H v n ts ∧ n ≤ 12 ∧ H N = some (.dT kvs) ∧ NearD kvs ts ∧ Tie H x s ∧ s ∈ arS n ts ∧ Tie H y t ∧ t ∈ arS n ts ∧ wayQ n ts s t H Q
theorem ok_waydue {f : Addr} {fd : FuncData} (B : Bts mg) (F : Fun K "_law_way_due" "_law_way_due" s__law_way_due f fd) (c__law_far : Cl P w K mg base 2 "_law_far" sp_far) (c__law_forced : Cl P w K mg base 1 "_law_forced" sp_forced) : FnOk P w K mg base CX0 3 f fd ["_law_web_here", "_law_near_here", "_law_one", "_law_other"] sp_waydue := by
  refine F.ok sc__law_way_due (fun vs H Q E h => ?_) (fun cdv A outer s H vs Q E hr h => ?_)
  · obtain ⟨v, x, y, N, kvs, n, ts, a, t, rfl, _⟩ := h; rfl
  · obtain ⟨v, x, y, N, kvs, n, ts, a, t, rfl, hWeb, hn, eN, hN, hx, aA, hy, tA, q0, q1⟩ := h
    refine ⟨_, (pss_cons (ps_set (i := 4) sc__law_way_due.nd rfl (by first | exact Or.inl rfl | exact Or.inr rfl) (pe_c c__law_far hr (by decide) (by rfl) (pa_cons (pv 0) (pa_cons (pv 1) (pa_cons (pv 3) pa_nil)))))
    (pss_cons (ps_if (pt_cmp (pc_dnotin (hu_of hr) (pv 2) (pv 4))) (pss_one (ps_ret pe_non)) pss_nil)
    (pss_cons (ps_set (i := 5) sc__law_way_due.nd rfl (by first | exact Or.inl rfl | exact Or.inr rfl) (pe_lst (pa_cons (pv 2) pa_nil)))
    (pss_cons (ps_while PassesOwn.never (pt_cmpR op_gt (pe_dget (hu_of hr) (pv 4) (pe_ix ix_list (pv 5) (pe_un un_neg pe_int) (fun _ _ => rfl)) (fun _ _ => rfl)) pe_int (nomark _))
      (pss_one (ps_expr (pe_bm PySem.F.plainAttrs_list PySem.F.slot_list_append PySem.F.type_list_append mt_append (pv 5) (pa_cons (pe_callB (cr_minT rfl (u65 hr)) (by rfl) B.min (by decide +kernel) (pa_cons (pe_lc (own := [("_law_arrow_here", 6)]) (g := (gName 6)) (tt := (tTest (tOp _ _ (tDGet _ (tOp (rIxL K) _ _))))) rfl sc__law_way_due.nd (pi_list (pe_c c__law_forced hr (by decide) (by rfl) (pa_cons (pv 0) (pa_cons (pv 1) (pa_cons (pe_ix ix_list (pv 5) (pe_un un_neg pe_int) (fun _ _ => rfl)) pa_nil))))) (blkOk_by (own := [("_law_arrow_here", 6)]) (N := N__law_way_due) (sc := defScope s__law_way_due) (by decide +kernel)) (fun _ _ _ _ _ => (pg_name (i := 6) sc__law_way_due.nd rfl (by first | exact Or.inl rfl | exact Or.inr rfl))) (fun _ _ _ _ _ => (pts_one (pt_cmpR op_lt (pe_dget (hu_of hr) (pv 4) (pv 6) (fun _ _ => rfl)) (pe_dget (hu_of hr) (pv 4) (pe_ix ix_list (pv 5) (pe_un un_neg pe_int) (fun _ _ => rfl)) (fun _ _ => rfl)) (nomark _)))) (fun _ _ _ _ _ => (pv 6))) pa_nil)) pa_nil)))))
    (pss_one (ps_ret (pv 5))))))), ?_⟩
    have nn : n * n ≤ 144 := Nat.mul_le_mul hn hn
    have tR := arS_inR tA
    have S0 := steps_stp (ts := ts) tR
    refine ⟨_, rfl, _, rfl, _, rfl, v, y, N, kvs, n, ts, t, rfl, hWeb, hn, eN, hN, hy, tA, fun Fd H1 nF s1 eF => ?_⟩
    obtain ⟨px, rfl, epx⟩ := id hx
    refine ⟨_, rfl, _, rfl, Fd, _, rfl, DGet.t (k := pk a) eF (s1 _ _ epx), _, rfl, ?_⟩
    rw [valV_keys (dS_keys _)]
    by_cases hm : a ∈ (stepsF n ts t).map (·.1)
    · rw [decide_eq_true hm]
      refine iteF ⟨_, rfl, by show 1 ≤ sizeLine; decide, fun Wt nW => ?_⟩
      have hw : wayO n ts a t = some (wayF n ts (stepsF n ts t) a) := if_pos hm
      generalize stepsF n ts t = S at S0 eF hm hw
      have sW := same_new (o := .lst [.ref px]) nW
      have nW0 := same_free s1 nW
      have nWF : Wt ≠ Fd := fun z => by rw [z, eF] at nW; cases nW
      have da := S0.low a hm
      let W : Nat → L2.St → Hp → Prop := fun m σ H2 => ∃ (pl : Addr) (ws : List V) (x : Ar) (acc : List Ar) (y6 : Option V), σ = [some v, some (.ref N), some (.ref px), some y, some (.ref Fd), some (.ref Wt), y6] ∧ Same H H2 ∧ H2 Fd = some (.dT (dS S)) ∧ H2 Wt = some (.lst (ws ++ [.ref pl])) ∧ Ties H2 (ws ++ [.ref pl]) acc ∧ Tie H2 (.ref pl) x ∧ x ∈ S.map (·.1) ∧ dOf S x < m ∧ acc.length + m ≤ dOf S a + 2 ∧ wayR n ts S m x acc = wayF n ts S a
      have sW2 := s1.trans sW
      refine ⟨W, ⟨dOf S a + 1, px, [], a, [a], none, rfl, sW2, sW _ _ eF, upd_same, Ties.one (hx.mono (Same.tst sW2)), hx.mono (Same.tst sW2), hm, Nat.lt_succ_self _, by show 1 + _ ≤ _; omega, rfl⟩, ?_⟩
      rintro m σ H2 ⟨pl, ws, x, acc, y6, rfl, s2, eF2, eW2, hT, hl, xm, hdm, hal, hwr⟩
      obtain ⟨_, e', epl⟩ := id hl
      cases e'
      refine ⟨_, rfl, _, rfl, 1, rfl, Wt, _, _, .ref pl, rfl, rfl, SqL.of eW2, atI_last ws (.ref pl), Fd, _, rfl, dget_dS S0.nd xm eF2 epl, _, _, rfl, rfl, _, rfl, ?_⟩
      by_cases hd0 : dOf S x = 0
      · rw [decide_eq_false (by omega)]
        rw [wayR_end hd0] at hwr
        exact iteF ⟨_, rfl, q1 _ hw Wt _ H2 nW0 s2 eW2 (hwr ▸ hT)⟩
      · rw [decide_eq_true (by omega)]
        have xA := ((S0.rch x).mp xm).ar tA
        have xR := arS_inR xA
        obtain ⟨m', rfl⟩ : ∃ m', m = m' + 1 := ⟨m - 1, by omega⟩
        refine iteT ⟨W m', fun σ' H' hh => ⟨m', by omega, hh⟩, ?_⟩
        refine ⟨_, rfl, .inl ⟨rfl, _, SqL.of eW2⟩, ?_⟩
        refine ⟨_, rfl, _, rfl, _, rfl, 1, rfl, Wt, _, _, .ref pl, rfl, rfl, SqL.of eW2, atI_last ws (.ref pl), v, .ref pl, N, kvs, n, ts, x, rfl, hWeb.mono (Same.tst s2), by omega, s2 _ _ eN, hN, hl, xR, fun qo uo HX nqo sX eqo hTo => ?_⟩
        refine ⟨qo, rfl, ⟨_, SqL.of eqo⟩, fun E1 nE1 => ?_⟩
        have fl := frcS_len (n := n) (ts := ts) (t := x)
        have eFX := sX _ _ eF2
        have eWX := sX _ _ eW2
        refine wk (walk_list (K := K) (a := qo) (xs := uo)) (fun i H3 => ∃ zs, Same HX H3 ∧ H3 E1 = some (.lst zs) ∧ Ties H3 zs (lessL S x ((frcS n ts x).take i))) ⟨[], same_new nE1, upd_same, by exact trivial⟩ ?_ ?_ ?_
        · rintro i H3 _ ⟨_, s3, _⟩
          exact SqL.of (s3 _ _ eqo)
        · rintro i z H3 H4 hi ⟨zs, s3, eE, hZ⟩ ⟨rfl, hz⟩
          obtain ⟨y, ey, hy'⟩ := hTo.at hz
          have hy3 := hy'.mono (Same.tst s3)
          obtain ⟨pz, rfl, epz⟩ := id hy3
          have ym := S0.fwd xm (List.mem_of_getElem? ey)
          have st := lessL_step S x ((frcS n ts x).take i) y
          rw [show (frcS n ts x).take i ++ [y] = (frcS n ts x).take (i + 1) from by rw [List.take_add_one, ey]; rfl] at st
          have zl := hZ.len
          have zl2 := lessL_len S x ((frcS n ts x).take i)
          rw [List.length_take] at zl2
          refine ⟨rfl, ?_⟩
          refine ⟨_, rfl, _, rfl, Fd, _, rfl, dget_dS S0.nd ym (s3 _ _ eFX) epz, _, rfl, _, rfl, 1, rfl, Wt, _, _, .ref pl, rfl, rfl, SqL.of (s3 _ _ eWX), atI_last ws (.ref pl), Fd, _, rfl, dget_dS S0.nd xm (s3 _ _ eFX) (s3 _ _ (sX _ _ epl)), _, _, rfl, rfl, _, rfl, ?_⟩
          by_cases h : dOf S y < dOf S x
          · rw [decide_eq_true (Int.ofNat_lt.mpr h)]
            refine iteT ⟨_, rfl, zs, eE, sz' (by omega), zs ++ [.ref pz], Same.put s3 nE1, upd_same, ?_⟩
            rw [st, if_pos h]
            exact Ties.mono (tst_put eE) (hZ.app (Ties.one hy3))
          · rw [decide_eq_false (fun z => h (Int.ofNat_lt.mp z))]
            refine iteF ⟨zs, s3, eE, ?_⟩
            rw [st, if_neg h, List.append_nil]; exact hZ
        · rintro H3 ⟨zs, s3, eE, hZ⟩
          rw [hTo.len, List.take_length] at hZ
          refine ⟨E1, zs, _, rfl, SqL.of eE, hZ, S0.less tA xm hd0, fun z y ym ymin hz => ?_⟩
          have hnx := nxt_min ym ymin
          have hn2 := nxt_some hnx
          have y2 := S0.fwd xm hn2.1
          have eW3 := s3 _ _ eWX
          obtain ⟨pz, rfl, epz⟩ := id hz
          have tl := hT.len
          have tp := tst_put (o := .lst (ws ++ [.ref pl] ++ [.ref pz])) eW3
          refine ⟨Wt, _, _, rfl, rfl, eW3, sz' (by omega), pz, ws ++ [.ref pl], y, acc ++ [y], _, rfl, Same.put (s2.trans (sX.trans s3)) nW0, ?_, upd_same, Ties.mono tp ((hT.mono (Same.tst (sX.trans s3))).app (Ties.one hz)), hz.mono tp, y2, by omega, ?_, ?_⟩
          · rw [upd_ne (Ne.symm nWF)]; exact s3 _ _ eFX
          · rw [List.length_append]; show acc.length + 1 + m' ≤ _; omega
          · rw [← hwr, wayR_next hd0 hnx]
    · rw [decide_eq_false hm]
      exact iteT (q0 (if_neg hm) _ s1)
end
end My

set_option Elab.async false
set_option linter.all false
set_option maxRecDepth 100000
namespace My
open PySem PySem.Spec PyProof.Rows L2 GxR
def okB (ps : List Ar) (s t : Ar) : Bool := !decide (s.2 = t.1) || decide ((s.1, t.2) ∈ ps)
def ledB (ps : List Ar) : Bool := ps.all fun s => ps.all fun t => okB ps s t
theorem all_take {α : Type} {f : α → Bool} {l : List α} {i : Nat} {x : α} (h : (l.take i).all f = true) (e : l[i]? = some x) (hx : f x = true) : (l.take (i + 1)).all f = true := by
  rw [List.take_add_one, e, List.all_append, h]
  show (true && (f x && true)) = true
  rw [hx]; rfl
theorem all_no {α : Type} {f : α → Bool} {l : List α} {i : Nat} {x : α} (e : l[i]? = some x) (hx : f x = false) : l.all f = false := by
  rw [List.all_eq_false]
  exact ⟨x, List.mem_of_getElem? e, by rw [hx]; exact Bool.false_ne_true⟩
theorem eqI' (a b : Int) : decide (V.int a = V.int b) = decide (a = b) := decide_eq_decide.mpr ⟨fun e => V.int.inj e, fun e => congrArg V.int e⟩
def kTrue (ps : List Ar) : List (List Key × V) := ps.map fun t => (pk t, V.bl true)
theorem kTrue_keys (ps : List Ar) : (kTrue ps).map (·.1) = ps.map pk := by unfold kTrue; rw [List.map_map]; rfl
theorem joinA_true (ps : List Ar) : JoinA (mergeT [] (kTrue ps)) ps := fun o => by
  rw [valV_mergeT, valV_keys (kTrue_keys ps)]; exact Bool.false_or _
theorem paired_app {α β : Type} {R : α → β → Prop} : ∀ {l : List α} {m : List β} {a : α} {b : β}, Paired R l m → R a b → Paired R (l ++ [a]) (m ++ [b])
  | _, _, _, _, .nil, h => .cons h .nil
  | _, _, _, _, .cons h t, k => .cons h (paired_app t k)
theorem paired_mono {α β : Type} {R S : α → β → Prop} (f : ∀ a b, R a b → S a b) : ∀ {l : List α} {m : List β}, Paired R l m → Paired S l m
  | _, _, .nil => .nil
  | _, _, .cons h t => .cons (f _ _ h) (paired_mono f t)
theorem pts_len {ts ps : List Ar} (h : Pts ts ps) : ps.length = ts.length := by rw [← h, List.length_map]
theorem pts_step {n : Nat} {ts ps : List Ar} (hw : WOk n ts) {i : Nat} {t : Ar} (h : Pts (ts.take i) ps) (e : ts[i]? = some t) (b : Bool) : Pts (ts.take (i + 1)) (ps ++ [if b = true then t else sw t]) := by
  unfold Pts at *
  have hb := hw.2 t (List.mem_of_getElem? e)
  rw [List.take_add_one, e, List.map_append, h]
  congr 1
  cases b with
  | true => exact congrArg (fun z => [z]) (nrm_t hb.2.1)
  | false => exact congrArg (fun z => [z]) (nrm_sw hb.2.1)
theorem nrm_sw' (p : Ar) (h : p.1 ≠ p.2) : nrm (sw p) = nrm p := by
  unfold nrm sw
  dsimp only
  by_cases h1 : p.1 < p.2
  · rw [if_neg (by omega), if_pos h1]
  · rw [if_pos (by omega), if_neg h1]
theorem pts_ne {n : Nat} {ts ps : List Ar} (hw : WOk n ts) (h : Pts ts ps) {p : Ar} (hp : p ∈ ps) : p.1 ≠ p.2 := fun e => by
  have : nrm p ∈ ts := by rw [← h]; exact List.mem_map.mpr ⟨p, hp, rfl⟩
  have hb := hw.2 _ this
  unfold nrm sw at hb
  split at hb <;> omega
theorem pts_set {n : Nat} {ts ps : List Ar} (hw : WOk n ts) (h : Pts ts ps) {j : Nat} {p : Ar} (e : ps[j]? = some p) : Pts ts (ps.set j (sw p)) := by
  have hne := pts_ne hw h (List.mem_of_getElem? e)
  unfold Pts at *
  rw [← h]
  refine List.ext_getElem? fun i => ?_
  rw [List.getElem?_map, List.getElem?_map]
  by_cases hij : j = i
  · subst hij
    rw [List.getElem?_set_self (List.getElem?_eq_some_iff.mp e).1, e]
    exact congrArg some (nrm_sw' p hne)
  · rw [List.getElem?_set_ne hij]
theorem Ties.set {H : Hp} : ∀ {vs : List V} {ts : List Ar} {j : Nat} {v : V} {t : Ar}, Ties H vs ts → Tie H v t → Ties H (vs.set j v) (ts.set j t)
  | [], [], _, _, _, _, _ => trivial
  | _ :: _, _ :: _, 0, _, _, h, k => ⟨k, h.2⟩
  | _ :: _, _ :: _, j + 1, _, _, h, k => ⟨h.1, Ties.set (j := j) h.2 k⟩
  | [], _ :: _, _, _, _, h, _ => h.elim
  | _ :: _, [], _, _, _, h, _ => h.elim
section
variable {P : Program} {w : World} {K : PySem.W.Frag} {mg : Str → Option Value} {base : Heap}
end
end My

set_option Elab.async false
set_option linter.all false
set_option maxRecDepth 100000
namespace My
open PySem PySem.Spec PyProof.Rows L2 GxR

section
variable {P : Program} {w : World} {K : PySem.W.Frag} {mg : Str → Option Value} {base : Heap}
/-! ### tie_of -/
abbrev s_tie_of : Stmt := topS 5
abbrev N_tie_of : List Str := ["a", "b"]
theorem sc_tie_of : FnScope N_tie_of ["a", "b"] (defScope s_tie_of) := ⟨rfl, rfl, rfl, by decide +kernel, rfl, by decide +kernel, by decide +kernel⟩
def sp_tie_of : Sp := fun vs H Q _ => ∃ a b : Int, vs = [.int a, .int b] ∧ ∀ p, H p = none → Q (.ref p) (upd H p (.tup [.int (tieO a b).1, .int (tieO a b).2]))
theorem ok_tie_of {f : Addr} {fd : FuncData} (B : Bts mg) (F : Fun K "tie_of" "tie_of" s_tie_of f fd) : FnOk P w K mg base CX0 1 f fd ["a", "b"] sp_tie_of := by
  refine F.ok sc_tie_of (fun vs H Q E h => ?_) (fun cdv A outer s H vs Q E hr h => ?_)
  · obtain ⟨a, b, rfl, _⟩ := h; rfl
  · obtain ⟨a, b, rfl, q⟩ := h
    refine ⟨_, (pss_one (ps_ret (pe_ifExp (pt_cmpR op_lt (pv 0) (pv 1) (nomark _)) (pe_tup (pa_cons (pv 0) (pa_cons (pv 1) pa_nil))) (pe_tup (pa_cons (pv 1) (pa_cons (pv 0) pa_nil)))))), ?_⟩
    unfold tieO at q
    refine ⟨_, rfl, _, rfl, _, _, rfl, rfl, _, rfl, ite2 (fun e => ?_) (fun e => ?_)⟩
    · rw [if_pos (of_decide_eq_true e)] at q
      exact ⟨_, rfl, _, rfl, by show 2 ≤ sizeLine; decide, q⟩
    · rw [if_neg (fun z => e (decide_eq_true z))] at q
      exact ⟨_, rfl, _, rfl, by show 2 ≤ sizeLine; decide, q⟩
/-! ### tied -/
abbrev s_tied : Stmt := topS 4
abbrev N_tied : List Str := ["web", "a", "b"]
theorem sc_tied : FnScope N_tied ["web", "a", "b"] (defScope s_tied) := ⟨rfl, rfl, rfl, by decide +kernel, rfl, by decide +kernel, by decide +kernel⟩
def sp_tied : Sp := fun vs H Q _ => ∃ (v : V) (n : Nat) (ts : List (Int × Int)) (a b : Int), vs = [v, .int a, .int b] ∧ Web H v n ts ∧ ∀ H', Same H H' → Q (.bl (decide (tieO a b ∈ ts))) H'
theorem ok_tied {f : Addr} {fd : FuncData} (B : Bts mg) (F : Fun K "tied" "tied" s_tied f fd) (c_tie_of : Cl P w K mg base 1 "tie_of" sp_tie_of) : FnOk P w K mg base CX0 2 f fd ["web", "a", "b"] sp_tied := by
  refine F.ok sc_tied (fun vs H Q E h => ?_) (fun cdv A outer s H vs Q E hr h => ?_)
  · obtain ⟨v, n, ts, a, b, rfl, _⟩ := h; rfl
  · obtain ⟨v, n, ts, a, b, rfl, ⟨p, q', us, rfl, ep, eq, hT⟩, q⟩ := h
    refine ⟨_, (pss_one (ps_ret (pe_cmpR (op_inDT (u65 hr)) (pe_c c_tie_of hr (by decide) (by rfl) (pa_cons (pv 1) (pa_cons (pv 2) pa_nil))) (pe_ix ix_tup (pv 0) pe_int (fun _ _ => rfl)) (by rfl)))), ?_⟩
    refine ⟨_, rfl, _, rfl, a, b, rfl, fun t nt => ?_⟩
    have s1 := same_new (o := .tup [.int (tieO a b).1, .int (tieO a b).2]) nt
    refine ⟨_, rfl, p, _, _, _, rfl, rfl, SqT.of (s1 _ _ ep), rfl, ?_⟩
    refine ⟨dT (tieO a b), ts.map dT, (show Tie _ (.ref t) (tieO a b) from ⟨t, rfl, upd_same⟩).dp, .tup (SqT.of (s1 _ _ eq)) (hT.mono (Same.tst s1)).dp, shaped_dT _, shaped_tup ts, ?_⟩
    rw [any_dT]
    exact q _ s1

end
end My

set_option Elab.async false
set_option linter.all false
set_option maxRecDepth 100000
namespace My
open PySem PySem.Spec PyProof.Rows L2 GxR
/-! ### two in a row without a third -/
def Br (ps : List Ar) (t : Th) : Prop := (t.1, t.2.1) ∈ ps ∧ (t.2.1, t.2.2) ∈ ps ∧ (t.1, t.2.2) ∉ ps
def Lst (ps : List Ar) (t : Th) : Prop := Br ps t ∧ ∀ y, Br ps y → ¬ lt3 y t
theorem lst_uni {ps : List Ar} {s t : Th} (hs : Lst ps s) (ht : Lst ps t) : s = t := by
  have h1 := hs.2 t ht.1
  have h2 := ht.2 s hs.1
  obtain ⟨a, b, c⟩ := s
  obtain ⟨d, e, f⟩ := t
  unfold lt3 at h1 h2
  dsimp only at h1 h2
  have e1 : a = d := by omega
  subst e1
  have e2 : b = e := by omega
  subst e2
  have e3 : c = f := by omega
  subst e3
  rfl
theorem led_br {ps : List Ar} : ledB ps = true ↔ ∀ t, ¬ Br ps t := by
  unfold ledB
  rw [List.all_eq_true]
  constructor
  · rintro h ⟨a, b, c⟩ ⟨h1, h2, h3⟩
    have := h _ h1
    rw [List.all_eq_true] at this
    have := this _ h2
    unfold okB at this
    rw [decide_eq_false h3, decide_eq_true rfl] at this
    cases this
  · intro h s hs
    rw [List.all_eq_true]
    intro t ht
    unfold okB
    by_cases e : s.2 = t.1
    · by_cases m : (s.1, t.2) ∈ ps
      · rw [decide_eq_true m, Bool.or_true]
      · refine absurd ⟨hs, ?_, m⟩ (h (s.1, s.2, t.2))
        show (s.2, t.2) ∈ ps
        rw [e]; exact ht
    · rw [decide_eq_false e]; rfl
def endsF (fs : List Ar) (a : Int) : List Int := (fs.filter fun (t : Ar) => decide (t.1 = a)).map (·.2)
theorem endsF_step (fs : List Ar) (t : Ar) (a : Int) : endsF (fs ++ [t]) a = endsF fs a ++ (if t.1 = a then [t.2] else []) := by
  unfold endsF
  rw [List.filter_append, List.map_append]
  by_cases h : t.1 = a
  · rw [if_pos h, List.filter_cons_of_pos (p := fun (t : Ar) => decide (t.1 = a)) (decide_eq_true h)]; rfl
  · rw [if_neg h, List.filter_cons_of_neg (p := fun (t : Ar) => decide (t.1 = a)) (by simpa using h)]; rfl
theorem mem_ends {fs : List Ar} {a b : Int} : b ∈ endsF fs a ↔ (a, b) ∈ fs := by
  unfold endsF
  rw [List.mem_map]
  constructor
  · rintro ⟨t, ht, rfl⟩
    obtain ⟨h1, h2⟩ := List.mem_filter.mp ht
    rw [← of_decide_eq_true h2]; exact h1
  · intro h
    exact ⟨_, List.mem_filter.mpr ⟨h, decide_eq_true rfl⟩, rfl⟩
theorem ends_pw {fs : List Ar} (h : fs.Pairwise ltT) (a : Int) : (endsF fs a).Pairwise (· < ·) := by
  unfold endsF
  rw [List.pairwise_map]
  refine (h.sublist List.filter_sublist).imp_of_mem fun {s t} hs ht l => ?_
  have h1 := of_decide_eq_true (List.mem_filter.mp hs).2
  have h2 := of_decide_eq_true (List.mem_filter.mp ht).2
  unfold ltT at l
  omega
theorem ends_len (fs : List Ar) (a : Int) : (endsF fs a).length ≤ fs.length := by
  unfold endsF; rw [List.length_map]; exact List.length_filter_le _ _
theorem take_of_lt {l : List Int} (pw : l.Pairwise (· < ·)) {j : Nat} {b x : Int} (e : l[j]? = some b) (hx : x ∈ l) (h : x < b) : x ∈ l.take j := by
  obtain ⟨i, hi⟩ := List.mem_iff_getElem?.mp hx
  obtain ⟨l1, e1⟩ := List.getElem?_eq_some_iff.mp hi
  obtain ⟨l2, e2⟩ := List.getElem?_eq_some_iff.mp e
  have hij : i < j := by
    rcases Nat.lt_or_ge i j with z | z
    · exact z
    · rcases Nat.eq_or_lt_of_le z with z | z
      · subst z; omega
      · have := (List.pairwise_iff_getElem.mp pw) j i l2 l1 z
        omega
  exact List.mem_iff_getElem?.mpr ⟨i, by rw [List.getElem?_take_of_lt hij]; exact hi⟩
theorem pts_nd {n : Nat} {ts ps : List Ar} (hW : WOk n ts) (h : Pts ts ps) : ps.Nodup := by
  have : (ps.map nrm).Nodup := by rw [h]; exact nd_pw hW.1
  rw [List.nodup_iff_pairwise_ne] at this ⊢
  rw [List.pairwise_map] at this
  exact this.imp fun h e => h (congrArg nrm e)
theorem pts_inR {n : Nat} {ts ps : List Ar} (hW : WOk n ts) (h : Pts ts ps) {p : Ar} (hp : p ∈ ps) : InR n p := by
  have : nrm p ∈ ts := by rw [← h]; exact List.mem_map.mpr ⟨p, hp, rfl⟩
  have hb := hW.2 _ this
  unfold nrm sw at hb
  split at hb
  · exact ⟨hb.1, by omega, by omega, hb.2.2⟩
  · dsimp only at hb; exact ⟨by omega, by omega, by omega, by omega⟩
theorem pts_sw {n : Nat} {ts ps : List Ar} (hW : WOk n ts) (h : Pts ts ps) : Pts ts (ps.map sw) := by
  unfold Pts
  rw [List.map_map, ← h]
  exact List.map_congr_left fun p hp => nrm_sw' p (pts_ne hW h hp)
def EndsAt (H : Hp) (p : Addr) (n : Nat) (fs : List Ar) : Prop := ∃ qs : List Addr, H p = some (.lst (qs.map V.ref)) ∧ qs.length = n ∧ ∀ (i : Nat) (q : Addr), qs[i]? = some q → H q = some (.lst ((endsF fs (i : Int)).map V.int))
section
variable {P : Program} {w : World} {K : PySem.W.Frag} {mg : Str → Option Value} {base : Heap}
end
end My

set_option Elab.async false
set_option linter.all false
set_option maxRecDepth 100000
set_option maxHeartbeats 4000000
set_option pp.maxSteps 400
namespace My
open PySem PySem.Spec PyProof.Rows L2 GxR
/-! ### arrows that force one another, as the checkers ask -/
theorem tied_nr {n : Nat} {ts : List Ar} (hW : WOk n ts) (a b : Int) : decide (tieO a b ∈ ts) = nrB ts a b := by
  unfold nrB tieO
  refine decide_eq_decide.mpr ?_
  by_cases h : a < b
  · rw [if_pos h]
    exact ⟨.inl, fun z => z.elim id fun z => by have := hW.2 _ z; dsimp only at this; omega⟩
  · rw [if_neg h]
    exact ⟨.inr, fun z => z.elim (fun z => by have := hW.2 _ z; dsimp only at this; omega) id⟩
def gpB (ts : List Ar) (a b : Int) : Bool := !decide (a = b) && !nrB ts a b
def fcB (ts : List Ar) (x y : Ar) : Bool := if x.1 = y.1 then gpB ts x.2 y.2 else decide (x.2 = y.2) && gpB ts x.1 y.1
def arB (ts : List Ar) (x : Ar) : Bool := nrB ts x.1 x.2
def stB (ts : List Ar) : List Ar → Bool
  | x :: y :: l => fcB ts x y && stB ts (y :: l)
  | _ => true
def wkB (ts l : List Ar) : Bool := !l.isEmpty && l.all (arB ts) && stB ts l
theorem stB_iff {ts : List Ar} : ∀ {l : List Ar}, stB ts l = true ↔ ∀ (i : Nat) (x y : Ar), l[i]? = some x → l[i + 1]? = some y → fcB ts x y = true
  | [] => ⟨fun _ i x y e => by simp at e, fun _ => rfl⟩
  | [a] => ⟨fun _ i x y _ e => by simp at e, fun _ => rfl⟩
  | a :: b :: l => by
    rw [stB, Bool.and_eq_true, stB_iff (l := b :: l)]
    constructor
    · rintro ⟨h1, h2⟩ i x y ex ey
      cases i with
      | zero =>
        cases ex
        have ey' : some b = some y := ey
        cases ey'; exact h1
      | succ i => exact h2 i x y ex ey
    · intro h
      exact ⟨h 0 a b rfl rfl, fun i x y ex ey => h (i + 1) x y ex ey⟩
theorem atI_last {us : List V} {z : V} (h : us[us.length - 1]? = some z) (hp : 0 < us.length) : atI us (-1) = some z := by
  unfold atI ixN
  rw [if_neg (by decide), if_pos (by omega)]
  show us[((-1 : Int) + (us.length : Int)).toNat]? = _
  rw [show ((-1 : Int) + (us.length : Int)).toNat = us.length - 1 from by omega]; exact h
theorem tabG_same {H H' : Hp} {P : Addr} (h : TabG H P) (s : Same H H') : TabG H' P := by
  obtain ⟨ps, h1, h2⟩ := h
  exact ⟨ps, s _ _ h1, h2⟩
theorem tab_lst' {H H' : Hp} {P d : Addr} {xs : List V} (tb : Tabbed P H H') (tg : TabG H P) (e : H d = some (.lst xs)) : H' d = some (.lst xs) := by
  obtain ⟨ps, h1, _⟩ := tg
  rw [tb.2 d (fun z => by rw [z, h1] at e; cases e)]; exact e
section
variable {P : Program} {w : World} {K : PySem.W.Frag} {mg : Str → Option Value} {base : Heap}
/-! ### is_arrow -/
abbrev s_is_arrow : Stmt := topS 10
abbrev N_is_arrow : List Str := ["web", "thing"]
theorem sc_is_arrow : FnScope N_is_arrow ["web", "thing"] (defScope s_is_arrow) := ⟨rfl, rfl, rfl, by decide +kernel, rfl, by decide +kernel, by decide +kernel⟩
def sp_isar : Sp := fun vs H Q _ => ∃ (v x : V) (n : Nat) (ts : List Ar) (t : Ar), vs = [v, x] ∧ Web H v n ts ∧ WOk n ts ∧ Tie H x t ∧ ∀ H', Same H H' → Q (.bl (arB ts t)) H'
theorem ok_isar {f : Addr} {fd : FuncData} (B : Bts mg) (F : Fun K "is_arrow" "is_arrow" s_is_arrow f fd) (c_is_pair : Cl P w K mg base 2 "is_pair" sp_pair) (c_tied : Cl P w K mg base 2 "tied" sp_tied) : FnOk P w K mg base CX0 3 f fd ["web", "thing"] sp_isar := by
  refine F.ok sc_is_arrow (fun vs H Q E h => ?_) (fun cdv A outer s H vs Q E hr h => ?_)
  · obtain ⟨v, x, n, ts, t, rfl, _⟩ := h; rfl
  · obtain ⟨v, x, n, ts, t, rfl, hWeb, hW, hx, q⟩ := h
    refine ⟨_, (pss_one (ps_ret (pe_and (pe_c c_is_pair hr (by decide) (by rfl) (pa_cons (pv 1) pa_nil)) (pe_one (pe_c c_tied hr (by decide) (by rfl) (pa_cons (pv 0) (pa_cons (pe_ix ix_tup (pv 1) pe_int (fun _ _ => rfl)) (pa_cons (pe_ix ix_tup (pv 1) pe_int (fun _ _ => rfl)) pa_nil)))))))), ?_⟩
    obtain ⟨px, rfl, epx⟩ := id hx
    refine ⟨_, rfl, .ref px, t, rfl, hx, true, rfl, iteT ?_⟩
    refine ⟨_, rfl, _, rfl, px, _, _, _, rfl, rfl, SqT.of epx, rfl, _, rfl, px, _, _, _, rfl, rfl, SqT.of epx, rfl, v, n, ts, t.1, t.2, rfl, hWeb, fun H' s' => ?_⟩
    rw [tied_nr hW]
    exact q H' s'
/-! ### has_gap -/
abbrev s_has_gap : Stmt := topS 12
abbrev N_has_gap : List Str := ["web", "a", "b"]
theorem sc_has_gap : FnScope N_has_gap ["web", "a", "b"] (defScope s_has_gap) := ⟨rfl, rfl, rfl, by decide +kernel, rfl, by decide +kernel, by decide +kernel⟩
def sp_hgap : Sp := fun vs H Q _ => ∃ (v : V) (n : Nat) (ts : List Ar) (a b : Int), vs = [v, .int a, .int b] ∧ Web H v n ts ∧ WOk n ts ∧ ∀ H', Same H H' → Q (.bl (gpB ts a b)) H'
theorem ok_hgap {f : Addr} {fd : FuncData} (B : Bts mg) (F : Fun K "has_gap" "has_gap" s_has_gap f fd) (c_tied : Cl P w K mg base 2 "tied" sp_tied) : FnOk P w K mg base CX0 3 f fd ["web", "a", "b"] sp_hgap := by
  refine F.ok sc_has_gap (fun vs H Q E h => ?_) (fun cdv A outer s H vs Q E hr h => ?_)
  · obtain ⟨v, n, ts, a, b, rfl, _⟩ := h; rfl
  · obtain ⟨v, n, ts, a, b, rfl, hWeb, hW, q⟩ := h
    refine ⟨_, (pss_one (ps_ret (pe_and (pe_cmpR op_ne (pv 1) (pv 2) (nomark _)) (pe_one (pe_not (pe_c c_tied hr (by decide) (by rfl) (pa_cons (pv 0) (pa_cons (pv 1) (pa_cons (pv 2) pa_nil))))))))), ?_⟩
    unfold gpB at q
    refine ⟨_, rfl, _, rfl, rfl, _, rfl, ?_⟩
    rw [neI]
    by_cases e : a = b
    · rw [decide_eq_true e] at q ⊢
      exact iteF (q H (same_refl H))
    · rw [decide_eq_false e] at q ⊢
      refine iteT ⟨_, rfl, _, rfl, _, rfl, v, n, ts, a, b, rfl, hWeb, fun H' s' => ?_⟩
      rw [tied_nr hW]
      exact ⟨_, rfl, q H' s'⟩
/-! ### force -/
abbrev s_force : Stmt := topS 11
abbrev N_force : List Str := ["web", "one", "other"]
theorem sc_force : FnScope N_force ["web", "one", "other"] (defScope s_force) := ⟨rfl, rfl, rfl, by decide +kernel, rfl, by decide +kernel, by decide +kernel⟩
def sp_force : Sp := fun vs H Q _ => ∃ (v x y : V) (n : Nat) (ts : List Ar) (s t : Ar), vs = [v, x, y] ∧ Web H v n ts ∧ WOk n ts ∧ Tie H x s ∧ Tie H y t ∧ ∀ H', Same H H' → Q (.bl (fcB ts s t)) H'
theorem ok_force {f : Addr} {fd : FuncData} (B : Bts mg) (F : Fun K "force" "force" s_force f fd) (c_has_gap : Cl P w K mg base 3 "has_gap" sp_hgap) : FnOk P w K mg base CX0 4 f fd ["web", "one", "other"] sp_force := by
  refine F.ok sc_force (fun vs H Q E h => ?_) (fun cdv A outer s H vs Q E hr h => ?_)
  · obtain ⟨v, x, y, n, ts, s, t, rfl, _⟩ := h; rfl
  · obtain ⟨v, x, y, n, ts, s, t, rfl, hWeb, hW, ⟨px, rfl, epx⟩, ⟨py, rfl, epy⟩, q⟩ := h
    refine ⟨_, (pss_cons (ps_if (pt_cmpR op_eq (pe_ix ix_tup (pv 1) pe_int (fun _ _ => rfl)) (pe_ix ix_tup (pv 2) pe_int (fun _ _ => rfl)) (nomark _)) (pss_one (ps_ret (pe_c c_has_gap hr (by decide) (by rfl) (pa_cons (pv 0) (pa_cons (pe_ix ix_tup (pv 1) pe_int (fun _ _ => rfl)) (pa_cons (pe_ix ix_tup (pv 2) pe_int (fun _ _ => rfl)) pa_nil)))))) pss_nil)
    (pss_one (ps_ret (pe_and (pe_cmpR op_eq (pe_ix ix_tup (pv 1) pe_int (fun _ _ => rfl)) (pe_ix ix_tup (pv 2) pe_int (fun _ _ => rfl)) (nomark _)) (pe_one (pe_c c_has_gap hr (by decide) (by rfl) (pa_cons (pv 0) (pa_cons (pe_ix ix_tup (pv 1) pe_int (fun _ _ => rfl)) (pa_cons (pe_ix ix_tup (pv 2) pe_int (fun _ _ => rfl)) pa_nil))))))))), ?_⟩
    unfold fcB at q
    refine ⟨_, rfl, px, _, _, _, rfl, rfl, SqT.of epx, rfl, _, rfl, py, _, _, _, rfl, rfl, SqT.of epy, rfl, rfl, _, rfl, ?_⟩
    rw [eqI']
    by_cases e : s.1 = t.1
    · rw [if_pos e] at q
      rw [decide_eq_true e]
      exact iteT ⟨_, rfl, _, rfl, px, _, _, _, rfl, rfl, SqT.of epx, rfl, _, rfl, py, _, _, _, rfl, rfl, SqT.of epy, rfl, v, n, ts, s.2, t.2, rfl, hWeb, hW, q⟩
    · rw [if_neg e] at q
      rw [decide_eq_false e]
      refine iteF ⟨_, rfl, px, _, _, _, rfl, rfl, SqT.of epx, rfl, _, rfl, py, _, _, _, rfl, rfl, SqT.of epy, rfl, rfl, _, rfl, ?_⟩
      rw [eqI']
      by_cases e2 : s.2 = t.2
      · rw [decide_eq_true e2] at q ⊢
        exact iteT ⟨_, rfl, _, rfl, px, _, _, _, rfl, rfl, SqT.of epx, rfl, _, rfl, py, _, _, _, rfl, rfl, SqT.of epy, rfl, v, n, ts, s.1, t.1, rfl, hWeb, hW, q⟩
      · rw [decide_eq_false e2] at q ⊢
        exact iteF (q H (same_refl H))
/-! ### is_walk -/
abbrev s_is_walk : Stmt := topS 9
abbrev N_is_walk : List Str := ["web", "thing", "arrow", "later"]
theorem sc_is_walk : FnScope N_is_walk ["web", "thing"] (defScope s_is_walk) := ⟨rfl, rfl, rfl, by decide +kernel, rfl, by decide +kernel, by decide +kernel⟩
def sp_walk (PT : Addr) : Sp := fun vs H Q _ => ∃ (v : V) (A : Addr) (n : Nat) (ts l : List Ar) (us : List V), vs = [v, .ref A] ∧ Web H v n ts ∧ WOk n ts ∧ H A = some (.lst us) ∧ Ties H us l ∧ l.length ≤ 10000 ∧ TabG H PT ∧
  ∀ H', FrM [PT] H H' → TabG H' PT → Q (.bl (wkB ts l)) H'
theorem ok_walk {f c PT : Addr} {fd : FuncData} (B : Bts mg) (F : Fun K "is_walk" "is_walk" s_is_walk f fd) (hc : fd.code = .ref c) (TB : TabB base mg c PT) (c_is_arrow : Cl P w K mg base 3 "is_arrow" sp_isar) (c_force : Cl P w K mg base 4 "force" sp_force) :
    FnOk P w K mg base CX0 6 f fd ["web", "thing"] (sp_walk PT) := by
  refine okC F hc sc_is_walk (fun vs H Q E h => ?_) (fun A outer s H vs Q E hr h => ?_)
  · obtain ⟨v, A, n, ts, l, us, rfl, _⟩ := h; rfl
  · obtain ⟨v, Al, n, ts, l, us, rfl, hWeb, hW, eA, hT, hl, tg, q⟩ := h
    refine ⟨_, (pss_cons (ps_if (PW.pt (pw_or (pt_not (pt_val (pe_callB call_isi (by rfl) B.isinstance (by decide +kernel) (pa_cons (pv 1) (pa_cons (pe_bltn (v := .ty "list") (by rfl) B.list (by decide +kernel) rfl) pa_nil))))) (pw_or1 (pt_not (pt_truth (pv 1) (by intro _; rfl)))))) (pss_one (ps_ret pe_bl)) pss_nil)
    (pss_cons (ps_if (pt_not (pt_val (pe_allG (own := [("arrow", 2)]) (g := (gName 2)) rfl sc_is_walk.nd hr (by rfl) B.all TB rfl ⟨rfl, by decide +kernel, rfl⟩ (blkOk_by (own := [("arrow", 2)]) (N := N_is_walk) (sc := defScope s_is_walk) (by decide +kernel)) (pi_list (pv 1)) (fun _ _ _ _ _ _ _ => (pg_name (i := 2) sc_is_walk.nd rfl (by first | exact Or.inl rfl | exact Or.inr rfl))) (fun _ _ _ _ _ _ _ hr => (pe_c c_is_arrow hr (by decide) (by rfl) (pa_cons (pv 0) (pa_cons (pv 2) pa_nil))))))) (pss_one (ps_ret pe_bl)) pss_nil)
    (pss_one (ps_ret (pe_allG (own := [("arrow", 2), ("later", 3)]) (g := (gTup K 2 (gCons (gName 2) (gCons (gName 3) gNil)))) rfl sc_is_walk.nd hr (by rfl) B.all TB rfl ⟨rfl, by decide +kernel, rfl⟩ (blkOk_by (own := [("arrow", 2), ("later", 3)]) (N := N_is_walk) (sc := defScope s_is_walk) (by decide +kernel)) (RZ.pi_zipA (by rfl) B.zip (pa_cons (pv 1) (pa_cons (pe_slice sl_list (pv 1) (po_some pe_int) po_none) pa_nil))) (fun _ _ _ _ _ _ _ => (pg_tup rfl (pgs_cons (pg_name (i := 2) sc_is_walk.nd rfl (by first | exact Or.inl rfl | exact Or.inr rfl)) (pgs_cons (pg_name (i := 3) sc_is_walk.nd rfl (by first | exact Or.inl rfl | exact Or.inr rfl)) pgs_nil)))) (fun _ _ _ _ _ _ _ hr => (pe_c c_force hr (by decide) (by rfl) (pa_cons (pv 0) (pa_cons (pv 2) (pa_cons (pv 3) pa_nil)))))))))), ?_⟩
    have ul := hT.len
    refine ⟨_, rfl, _, _, _, _, true, rfl, .ty _, .base (.lst eA), kit_ty (by decide +kernel), true, rfl, iteF ?_⟩
    refine ⟨_, rfl, !us.isEmpty, .inl ⟨_, SqL.of eA, rfl⟩, ?_⟩
    by_cases e0 : us = []
    · have l0 : l = [] := List.length_eq_zero_iff.mp (by rw [← ul, e0]; rfl)
      subst e0; subst l0
      exact iteT (q H (FrM.same (same_refl H)) tg)
    · have l0 : l ≠ [] := fun z => e0 (List.length_eq_zero_iff.mp (by rw [ul, z]; rfl))
      have em : (!us.isEmpty) = true := by
        cases us with
        | nil => exact absurd rfl e0
        | cons a b => rfl
      have eml : (!l.isEmpty) = true := by
        cases l with
        | nil => exact absurd rfl l0
        | cons a b => rfl
      rw [em]
      refine iteF ?_
      unfold wkB at q
      rw [eml, Bool.true_and] at q
      -- arrows
      refine ⟨_, rfl, Al, rfl, ⟨_, SqL.of eA⟩, tg, fun H2 tb => ?_⟩
      have t2 := tb_tst tb tg
      have eA2 := tab_lst' tb tg eA
      refine allG_it (walk_list (K := K) (a := Al) (xs := us)) (fun i H3 => FrM [PT] H H3 ∧ TabG H3 PT ∧ Tst H H3 ∧ H3 Al = some (.lst us) ∧ (l.take i).all (arB ts) = true) ⟨tb_frM tb, tb.1, t2, eA2, rfl⟩ ?_ ?_ ?_
      · rintro i H3 _ ⟨_, _, _, e3, _⟩
        exact SqL.of e3
      · rintro i x H3 H4 hi ⟨fr3, tg3, t3, eA3, al3⟩ ⟨rfl, hx⟩
        obtain ⟨t, et, ht⟩ := hT.at hx
        refine ⟨rfl, _, rfl, _, rfl, v, x, n, ts, t, rfl, hWeb.mono t3, hW, ht.mono t3, fun H5 s5 => ⟨_, rfl, ?_⟩⟩
        refine ite2 (fun e => ?_) (fun e => ?_)
        · exact ⟨fr3.trans (FrM.same s5), tabG_same tg3 s5, t3.trans (Same.tst s5), s5 _ _ eA3, all_take al3 et e⟩
        · refine ⟨false, rfl, iteT ?_⟩
          have hno : l.all (arB ts) = false := by
            refine Bool.eq_false_iff.mpr fun z => e ?_
            exact List.all_eq_true.mp z t (List.mem_of_getElem? et)
          rw [hno, Bool.false_and] at q
          exact q H5 (fr3.trans (FrM.same s5)) (tabG_same tg3 s5)
      · rintro H3 ⟨fr3, tg3, t3, eA3, al3⟩
        rw [ul, List.take_length] at al3
        rw [al3, Bool.true_and] at q
        refine ⟨true, rfl, iteF ?_⟩
        -- steps
        refine ⟨_, rfl, _, rfl, _, rfl, Al, _, rfl, SqL.of eA3, fun A2 nA2 => ?_⟩
        rw [show cutV us (some 1) none = us.drop 1 from cutFrom us 1]
        have s3 := same_new (o := .lst (us.drop 1)) nA2
        have tg4 := tabG_same tg3 s3
        refine ⟨Al, A2, us, us.drop 1, rfl, .inl ⟨SqL.of (s3 _ _ eA3), SqL.of upd_same, tg4, fun H5 tb5 => ?_⟩⟩
        have t5 := tb_tst tb5 tg4
        have eA5 := tab_lst' tb5 tg4 (s3 _ _ eA3)
        have eB5 := tab_lst' tb5 tg4 (upd_same (H := H3) (a := A2) (o := .lst (us.drop 1)))
        have fr5 : FrM [PT] H H5 := (fr3.trans (FrM.same s3)).trans (tb_frM tb5)
        have t05 := (t3.trans (Same.tst s3)).trans t5
        refine allG_it (walk_zip (K := K) (a := Al) (b := A2) (xs := us) (ys := us.drop 1) rfl) (fun i H6 => FrM [PT] H H6 ∧ TabG H6 PT ∧ Tst H H6 ∧ H6 Al = some (.lst us) ∧ H6 A2 = some (.lst (us.drop 1)) ∧ ∀ (j : Nat) (x y : Ar), j < i → l[j]? = some x → l[j + 1]? = some y → fcB ts x y = true) ⟨fr5, tb5.1, t05, eA5, eB5, fun j _ _ h => absurd h (Nat.not_lt_zero _)⟩ ?_ ?_ ?_
        · rintro i H6 _ ⟨_, _, _, e6, e7, _⟩
          exact ⟨SqL.of e6, SqL.of e7⟩
        · rintro i x H6 H7 hi ⟨fr6, tg6, t6, eA6, eB6, ok6⟩ ⟨T, x1, x2, rfl, nT, rfl, ex1, ex2⟩
          dsimp only at ex1 ex2
          rw [List.getElem?_drop, Nat.add_comm] at ex2
          obtain ⟨a1, e1, h1⟩ := (hT.mono t6).at ex1
          obtain ⟨a2, e2, h2⟩ := (hT.mono t6).at ex2
          have sT := same_new (o := .tup [x1, x2]) nT
          refine ⟨T, _, rfl, SqT.of upd_same, rfl, _, _, rfl, _, _, rfl, rfl, rfl, ?_⟩
          refine ⟨_, rfl, _, rfl, _, rfl, v, x1, x2, n, ts, a1, a2, rfl, (hWeb.mono t6).mono (Same.tst sT), hW, h1.mono (Same.tst sT), h2.mono (Same.tst sT), fun H8 s8 => ⟨_, rfl, ?_⟩⟩
          have s6 := sT.trans s8
          refine ite2 (fun e => ?_) (fun e => ?_)
          · refine ⟨fr6.trans (FrM.same s6), tabG_same tg6 s6, t6.trans (Same.tst s6), s6 _ _ eA6, s6 _ _ eB6, fun j x y hj ex ey => ?_⟩
            rcases Nat.lt_or_ge j i with z | z
            · exact ok6 j x y z ex ey
            · have : j = i := by omega
              subst this
              rw [e1] at ex
              rw [e2] at ey
              cases ex; cases ey; exact e
          · have hno : stB ts l = false := Bool.eq_false_iff.mpr fun z => e (stB_iff.mp z i a1 a2 e1 e2)
            rw [hno] at q
            exact q H8 (fr6.trans (FrM.same s6)) (tabG_same tg6 s6)
        · rintro H6 ⟨fr6, tg6, t6, eA6, eB6, ok6⟩
          have hyes : stB ts l = true := stB_iff.mpr fun i x y ex ey => by
            have hi := (List.getElem?_eq_some_iff.mp ey).1
            refine ok6 i x y ?_ ex ey
            rw [List.length_drop, ul]
            omega
          rw [hyes] at q
          exact q H6 fr6 tg6
/-! ### shows_round -/
abbrev s_shows_round : Stmt := topS 8
abbrev N_shows_round : List Str := ["web", "thing"]
theorem sc_shows_round : FnScope N_shows_round ["web", "thing"] (defScope s_shows_round) := ⟨rfl, rfl, rfl, by decide +kernel, rfl, by decide +kernel, by decide +kernel⟩
def rdB (ts l : List Ar) : Bool := wkB ts l && decide (l.getLast? = (l.head?).map sw)
def sp_shr (PT : Addr) : Sp := fun vs H Q _ => ∃ (v : V) (A : Addr) (n : Nat) (ts l : List Ar) (us : List V), vs = [v, .ref A] ∧ Web H v n ts ∧ WOk n ts ∧ H A = some (.lst us) ∧ Ties H us l ∧ l.length ≤ 10000 ∧ TabG H PT ∧
  ∀ H', FrM [PT] H H' → TabG H' PT → Q (.bl (rdB ts l)) H'
theorem ok_shr {f PT : Addr} {fd : FuncData} (B : Bts mg) (F : Fun K "shows_round" "shows_round" s_shows_round f fd) (c_is_walk : Cl P w K mg base 6 "is_walk" (sp_walk PT)) : FnOk P w K mg base CX0 7 f fd ["web", "thing"] (sp_shr PT) := by
  refine F.ok sc_shows_round (fun vs H Q E h => ?_) (fun cdv A outer s H vs Q E hr h => ?_)
  · obtain ⟨v, A, n, ts, l, us, rfl, _⟩ := h; rfl
  · obtain ⟨v, Al, n, ts, l, us, rfl, hWeb, hW, eA, hT, hl, tg, q⟩ := h
    refine ⟨_, (pss_one (ps_ret (pe_and (pe_c c_is_walk hr (by decide) (by rfl) (pa_cons (pv 0) (pa_cons (pv 1) pa_nil))) (pe_one (pe_cmpR (op_eqD hr.units) (pe_ix ix_list (pv 1) (pe_un un_neg pe_int) (fun _ _ => rfl)) (pe_tup (pa_cons (pe_ix ix_tup (pe_ix ix_list (pv 1) pe_int (fun _ _ => rfl)) pe_int (fun _ _ => rfl)) (pa_cons (pe_ix ix_tup (pe_ix ix_list (pv 1) pe_int (fun _ _ => rfl)) pe_int (fun _ _ => rfl)) pa_nil))) (nomark _)))))), ?_⟩
    unfold rdB at q
    refine ⟨_, rfl, _, rfl, v, Al, n, ts, l, us, rfl, hWeb, hW, eA, hT, hl, tg, fun H1 fr1 tg1 => ⟨_, rfl, ?_⟩⟩
    have nAP : Al ∉ [PT] := fun z => by
      obtain ⟨ps, h1, _⟩ := tg
      rw [List.mem_singleton.mp z, h1] at eA; cases eA
    have eA1 := fr1 _ _ nAP eA
    by_cases hw : wkB ts l = true
    · rw [hw] at q ⊢
      refine iteT ?_
      have l0 : l ≠ [] := fun z => by
        rw [z] at hw
        exact absurd hw (by unfold wkB; rw [List.isEmpty_nil]; exact Bool.false_ne_true)
      have lp : 0 < l.length := List.length_pos_iff.mpr l0
      have ul := hT.len
      have t1 : Tst H H1 := fun b xs e => fr1 b _ (fun z => by
        obtain ⟨ps, h1, _⟩ := tg
        rw [List.mem_singleton.mp z, h1] at e; cases e) e
      have hT1 := hT.mono t1
      have g0 : us[0]? = some us[0] := List.getElem?_eq_getElem (by omega)
      have gz : us[us.length - 1]? = some us[us.length - 1] := List.getElem?_eq_getElem (by omega)
      generalize us[0] = v0 at g0
      generalize us[us.length - 1] = vz at gz
      obtain ⟨a0, e0, h0⟩ := hT1.at g0
      obtain ⟨az, ez, hz⟩ := hT1.at gz
      obtain ⟨p0, rfl, ep0⟩ := h0
      refine ⟨_, rfl, _, rfl, Al, _, _, _, rfl, rfl, SqL.of eA1, atI_last gz (by omega), ?_⟩
      refine ⟨_, rfl, Al, _, _, _, rfl, rfl, SqL.of eA1, atI_nat (j := 0) g0, p0, _, _, _, rfl, rfl, SqT.of ep0, rfl, _, rfl, Al, _, _, _, rfl, rfl, SqL.of eA1, atI_nat (j := 0) g0, p0, _, _, _, rfl, rfl, SqT.of ep0, rfl, by show 2 ≤ sizeLine; decide, fun g ng => ?_⟩
      have sg := same_new (o := .tup [.int a0.2, .int a0.1]) ng
      refine ⟨dT az, dT (sw a0), (hz.mono (Same.tst sg)).dp, (show Tie _ (.ref g) (sw a0) from ⟨g, rfl, upd_same⟩).dp, shaped_dT _, shaped_dT _, ?_⟩
      rw [eqv_dT]
      have el : l.getLast? = some az := by rw [List.getLast?_eq_getElem?, ← ul]; exact ez
      have eh : l.head? = some a0 := by rw [List.head?_eq_getElem?]; exact e0
      rw [el, eh, Bool.true_and] at q
      rw [show decide (az = sw a0) = decide (some az = Option.map sw (some a0)) from decide_eq_decide.mpr ⟨fun e => congrArg some e, fun e => Option.some.inj e⟩]
      exact q _ (fr1.trans (FrM.same sg)) (tabG_same tg1 sg)
    · rw [Bool.eq_false_iff.mpr hw] at q ⊢
      exact iteF (q H1 fr1 tg1)
end
end My

set_option Elab.async false
set_option linter.all false
set_option maxRecDepth 100000
namespace My
open PySem PySem.Spec PyProof.Rows L2 GxR
/-! ### one table -/
theorem frm_tst {PT : Addr} {H H' : Hp} (s : FrM [PT] H H') (tg : TabG H PT) : Tst H H' := fun b xs e => by
  refine s b _ (fun z => ?_) e
  obtain ⟨ps, h1, _⟩ := tg
  rw [List.mem_singleton.mp z, h1] at e; cases e
theorem frm_lst {PT p : Addr} {H H' : Hp} {xs : List V} (s : FrM [PT] H H') (tg : TabG H PT) (e : H p = some (.lst xs)) : H' p = some (.lst xs) := by
  refine s p _ (fun z => ?_) e
  obtain ⟨ps, h1, _⟩ := tg
  rw [List.mem_singleton.mp z, h1] at e; cases e
theorem tab_same {H H' : Hp} {PT : Addr} (h : TabG H PT) (s : Same H H') : TabG H' PT := by
  obtain ⟨ps, h1, h2⟩ := h
  exact ⟨ps, s _ _ h1, h2⟩
structure St1 (PT : Addr) (H0 H : Hp) : Prop where
  fr : FrM [PT] H0 H
  tg : TabG H PT
theorem St1.same {PT : Addr} {H0 H H' : Hp} (h : St1 PT H0 H) (s : Same H H') : St1 PT H0 H' := ⟨h.fr.trans (FrM.same s), tab_same h.tg s⟩
theorem St1.tab {PT : Addr} {H0 H H' : Hp} (h : St1 PT H0 H) (s : FrM [PT] H H') (t : TabG H' PT) : St1 PT H0 H' := ⟨h.fr.trans s, t⟩
theorem St1.free {PT p : Addr} {H0 H : Hp} (h : St1 PT H0 H) (e : H p = none) : H0 p = none := by
  cases z : H0 p with
  | none => rfl
  | some o =>
    exfalso
    by_cases hp : p = PT
    · obtain ⟨ps, h1, _⟩ := h.tg
      rw [hp, h1] at e; cases e
    · rw [h.fr p o (fun w => hp (List.mem_singleton.mp w)) z] at e; cases e
theorem St1.frL {PT L : Addr} {H0 H H' : Hp} {c : Int} (h : St1 PT H0 H) (lf : Lf H L c) (n0 : H0 L = none) (f : Fr L H H') : St1 PT H0 H' := by
  obtain ⟨x, y, z, e, _⟩ := lf
  obtain ⟨ps, h1, h2⟩ := h.tg
  have nP : PT ≠ L := fun w => by rw [w, e] at h1; cases h1
  exact ⟨fun b o nb eb => f b o (fun w => by rw [w, n0] at eb; cases eb) (h.fr b o nb eb), ⟨ps, f _ _ nP h1, h2⟩⟩
theorem St1.sq {K : PySem.W.Frag} {PT a : Addr} {H0 H : Hp} {xs : List V} (h0 : TabG H0 PT) (h : St1 PT H0 H) (e : SqL K H0 a xs) : SqL K H a xs := by
  obtain ⟨ps, p1, _⟩ := h0
  have k : ∀ {o : HO}, H0 a = some o → (∀ ps, o ≠ .tbl ps) → H a = some o := fun {o} ea nb => by
    refine h.fr a o (fun z => ?_) ea
    rw [List.mem_singleton.mp z, p1] at ea; cases ea; exact nb _ rfl
  rcases e with (e | ⟨o, e⟩) | e
  · exact .inl (.inl (k e fun _ z => by cases z))
  · exact .inl (.inr ⟨o, k e fun _ z => by cases z⟩)
  · exact .inr e
theorem lf_tab {PT L : Addr} {H H' : Hp} {c : Int} (lf : Lf H L c) (s : FrM [PT] H H') (tg : TabG H PT) : Lf H' L c := by
  obtain ⟨x, y, z, e, h⟩ := lf
  obtain ⟨ps, h1, _⟩ := tg
  refine ⟨x, y, z, s _ _ (fun w => ?_) e, h⟩
  rw [List.mem_singleton.mp w, h1] at e; cases e
section
variable {P : Program} {w : World} {K : PySem.W.Frag} {mg : Str → Option Value} {base : Heap}
end
end My

set_option Elab.async false
set_option linter.all false
set_option maxRecDepth 100000
set_option pp.maxSteps 400
set_option maxHeartbeats 4000000
namespace My
open PySem PySem.Spec PyProof.Rows L2 GxR
/-! ### turned bundles -/
def tnA (B : List Ar) (x : Ar) : Ar := if nrm x ∈ B then sw x else x
def turnP (ps B : List Ar) : List Ar := ps.map (tnA B)
theorem nrm_tnA {B : List Ar} {x : Ar} (h : x.1 ≠ x.2) : nrm (tnA B x) = nrm x := by
  unfold tnA
  split
  · exact nrm_nrm_sw x h
  · rfl
theorem turn_pts {n : Nat} {ts ps B : List Ar} (hW : WOk n ts) (h : Pts ts ps) : Pts ts (turnP ps B) := by
  unfold Pts turnP
  rw [List.map_map]
  refine Eq.trans (List.map_congr_left fun x hx => ?_) h
  exact nrm_tnA (pts_ne hW h hx)
theorem turn_turn {n : Nat} {ts ps B : List Ar} (hW : WOk n ts) (h : Pts ts ps) : turnP (turnP ps B) B = ps := by
  unfold turnP
  rw [List.map_map]
  conv => rhs; rw [← List.map_id ps]
  refine List.map_congr_left fun x hx => ?_
  have e := nrm_tnA (B := B) (pts_ne hW h hx)
  show tnA B (tnA B x) = x
  by_cases k : nrm x ∈ B
  · have e1 : tnA B x = sw x := if_pos k
    rw [e1] at e ⊢
    unfold tnA
    rw [e, if_pos k, sw_sw]
  · have e1 : tnA B x = x := if_neg k
    rw [e1, e1]
theorem turn_len (ps B : List Ar) : (turnP ps B).length = ps.length := List.length_map _
theorem turn_take (ps B : List Ar) (i : Nat) : turnP (ps.take (i)) B = (turnP ps B).take i := by unfold turnP; rw [List.map_take]
theorem nrm_in {B : List Ar} (up : ∀ t ∈ B, t.1 < t.2) {a b : Int} (ne : a ≠ b) : ((a, b) ∈ B ∨ (b, a) ∈ B) ↔ nrm (a, b) ∈ B := by
  unfold nrm sw
  dsimp only
  by_cases k : a < b
  · rw [if_pos k]
    exact ⟨fun h => h.elim id fun z => absurd (up _ z) (by dsimp only; omega), .inl⟩
  · rw [if_neg k]
    exact ⟨fun h => h.elim (fun z => absurd (up _ z) (by dsimp only; omega)) id, .inr⟩
def inC (F : List Ar) (u : Ar) : Bool := decide (u ∈ F) || decide (sw u ∈ F)
theorem inC_one {F : List Ar} {u : Ar} (h : u ∈ F) : inC F u = true := by unfold inC; rw [decide_eq_true h]; rfl
theorem inC_two {F : List Ar} {u : Ar} (h : sw u ∈ F) : inC F u = true := by unfold inC; rw [decide_eq_true h, Bool.or_true]
theorem inC_no {F : List Ar} {u : Ar} (h : u ∉ F) (k : sw u ∉ F) : inC F u = false := by unfold inC; rw [decide_eq_false h, decide_eq_false k]; rfl
/-- the bundle of a tie, by what forcings come to -/
theorem bun_filter {n : Nat} {ts : List Ar} (hW : WOk n ts) {t : Ar} (ht : t ∈ ts) {F : List Ar} (hF : ∀ y, y ∈ F ↔ Rch n ts t y) : ts.filter (inC F) = bunT n ts t := by
  refine pw_ext (hW.1.sublist List.filter_sublist) (tiesL_pw _ _) fun u => ?_
  have tR := bts_inR hW ht
  unfold inC
  rw [List.mem_filter, Bool.or_eq_true, decide_eq_true_eq, decide_eq_true_eq, mem_bun tR, hF, hF]
  constructor
  · rintro ⟨h1, h2 | h2⟩
    · exact ⟨u, h2, nrm_t (hW.2 u h1).2.1⟩
    · exact ⟨sw u, h2, nrm_sw (hW.2 u h1).2.1⟩
  · rintro ⟨y, hy, rfl⟩
    refine ⟨nrm_ts hW (hy.ar (bts_ar hW ht)), ?_⟩
    rcases nrm_or y with e | e <;> rw [e]
    · exact .inl hy
    · rw [sw_sw]; exact .inr hy
theorem bunA_up {n : Nat} {ts : List Ar} (hW : WOk n ts) {c : List Ar} (h : c ∈ bunA n ts) : ∀ t ∈ c, t.1 < t.2 := fun t ht => by
  obtain ⟨x, hx, rfl⟩ := (mem_bunA hW).mp h
  exact (hW.2 t (bun_sub hW (bts_ar hW hx) ht)).2.1
end My

set_option Elab.async false
set_option linter.all false
set_option maxRecDepth 100000
set_option pp.maxSteps 400
set_option maxHeartbeats 4000000
namespace My
open PySem PySem.Spec PyProof.Rows L2 GxR
/-- a list of ties that stands somewhere -/
def LsT (H : Hp) (v : V) (c : List Ar) : Prop := ∃ q us, v = .ref q ∧ H q = some (.lst us) ∧ Ties H us c
theorem LsT.mono {H H' : Hp} {v : V} {c : List Ar} (h : LsT H v c) (s : Same H H') : LsT H' v c := by
  obtain ⟨q, us, e, h1, h2⟩ := h
  exact ⟨q, us, e, s _ _ h1, h2.mono (Same.tst s)⟩
theorem lsT_at {H0 H : Hp} {S : Addr} {qs : List Addr} {F : LL} (h : LsAt H0 H S qs F) : All2 (LsT H) (qs.map V.ref) F := by
  have : ∀ (qs : List Addr) (F : LL), qs.length = F.length → (∀ (i : Nat) (q : Addr), qs[i]? = some q → ∃ us c, F[i]? = some c ∧ H q = some (.lst us) ∧ Ties H us c) → All2 (LsT H) (qs.map V.ref) F := fun qs => by
    induction qs with
    | nil => intro F l _; cases F with
      | nil => exact trivial
      | cons c F => cases l
    | cons q qs ih => intro F l a; cases F with
      | nil => cases l
      | cons c F =>
        obtain ⟨us, c', e1, e2, e3⟩ := a 0 q rfl
        cases e1
        exact ⟨⟨q, us, rfl, e2, e3⟩, ih F (Nat.succ.inj l) fun i z e => a (i + 1) z e⟩
  exact this qs F h.len h.at_
theorem ties_at0 {H : Hp} {us : List V} {c : List Ar} {x : Ar} {r : List Ar} (h : Ties H us c) (e : c = x :: r) : ∃ v, atI us 0 = some v ∧ Tie H v x := by
  subst e
  cases us with
  | nil => exact h.elim
  | cons v us => exact ⟨v, atI_nat (j := 0) rfl, h.1⟩
/-! one table, and what stands beside it -/
theorem St1.refl {PT : Addr} {H : Hp} (t : TabG H PT) : St1 PT H H := ⟨FrM.refl _ _, t⟩
theorem St1.trans {PT : Addr} {H0 H1 H2 : Hp} (a : St1 PT H0 H1) (b : St1 PT H1 H2) : St1 PT H0 H2 := ⟨a.fr.trans b.fr, b.tg⟩
theorem tab_ne {PT p : Addr} {H : Hp} {xs : List V} (t : TabG H PT) (e : H p = some (.lst xs)) : p ≠ PT := fun z => by
  obtain ⟨ps, h1, _⟩ := t
  rw [z, h1] at e; cases e
theorem St1.put {PT p : Addr} {H0 H : Hp} {o : HO} {xs : List V} (h : St1 PT H0 H) (e : H0 p = none) (e2 : H p = some (.lst xs)) : St1 PT H0 (upd H p o) := by
  obtain ⟨ps, h1, h2⟩ := h.tg
  exact ⟨h.fr.putN e, ps, by rw [upd_ne (Ne.symm (tab_ne h.tg e2))]; exact h1, h2⟩
theorem St1.new {PT p : Addr} {H0 H : Hp} {o : HO} (h : St1 PT H0 H) (e : H p = none) : St1 PT H0 (upd H p o) := h.same (same_new e)
theorem St1.lst {PT p : Addr} {H0 H : Hp} {xs : List V} (h : St1 PT H0 H) (t : TabG H0 PT) (e : H0 p = some (.lst xs)) : H p = some (.lst xs) := frm_lst h.fr t e
theorem St1.tst {PT : Addr} {H0 H : Hp} (h : St1 PT H0 H) (t : TabG H0 PT) : Tst H0 H := frm_tst h.fr t
theorem LsT.st1 {PT : Addr} {H H' : Hp} {v : V} {c : List Ar} (h : LsT H v c) (t : TabG H PT) (s : St1 PT H H') : LsT H' v c := by
  obtain ⟨q, us, e, h1, h2⟩ := h
  exact ⟨q, us, e, s.lst t h1, h2.mono (s.tst t)⟩
theorem LsAt.st1 {PT : Addr} {H0 H H' : Hp} {S : Addr} {qs : List Addr} {F : LL} (h : LsAt H0 H S qs F) (t : TabG H PT) (s : St1 PT H H') : LsAt H0 H' S qs F :=
  ⟨s.lst t h.here, h.len, h.nd, h.out, h.new, fun i z e => by obtain ⟨us, c, e1, e2, e3⟩ := h.at_ i z e; exact ⟨us, c, e1, s.lst t e2, e3.mono (s.tst t)⟩⟩
/-! the bundles whose turn leaves a led one -/
def ledT (ps : List Ar) (F : LL) : LL := F.filter fun c => ledB (turnP ps c)
def hdA (c : List Ar) : Ar := c.headD (0, 0)
theorem ledT_step (ps : List Ar) {F : LL} {i : Nat} {c : List Ar} (e : F[i]? = some c) : ledT ps (F.take (i + 1)) = if ledB (turnP ps c) = true then ledT ps (F.take i) ++ [c] else ledT ps (F.take i) := by
  unfold ledT
  rw [List.take_add_one, e, List.filter_append]
  show _ ++ [c].filter _ = _
  split
  · rename_i h
    rw [show [c].filter (fun c => ledB (turnP ps c)) = [c] from List.filter_cons_of_pos h]
  · rename_i h
    rw [show [c].filter (fun c => ledB (turnP ps c)) = [] from List.filter_cons_of_neg h, List.append_nil]
section
variable {P : Program} {w : World} {K : PySem.W.Frag} {mg : Str → Option Value} {base : Heap}
end
end My

set_option Elab.async false
set_option linter.all false
set_option maxRecDepth 100000
set_option pp.maxSteps 400
set_option maxHeartbeats 4000000
namespace My
open PySem PySem.Spec PyProof.Rows L2 GxR
section
variable {X : Cx}
/-! l.remove(y): a list of data, the first equal one goes -/
def rRemD (K : PySem.W.Frag) : V → List V → Hp → VK → Prop := fun x xs H Q => ∃ (l : Addr) (vs : List V) (y : V) (d : PyData) (ds : List PyData) (j : Nat) (z : PyData), x = .ref l ∧ xs = [y] ∧ H l = some (.lst vs) ∧ DpAll K H vs ds ∧ Dp K H y d ∧
  SeqAt.shaped (.list ds) = true ∧ SeqAt.shaped d = true ∧ ds[j]? = some z ∧ PyData.eqv z d = true ∧ (∀ (m : Nat) (z' : PyData), m < j → ds[m]? = some z' → PyData.eqv z' d = false) ∧ Q .non (upd H l (.lst (vs.eraseIdx j)))
theorem mt_removeD (hu : X.A.units + 65 < cLine) : MtR X "list.remove" (rRemD X.K) := by
  intro pins s σ H x xs v us Q I rx rxs h
  obtain ⟨l, vs, y, d, ds, j, z, rfl, rfl, hH, ha, hy, sl, sd, hz, hzj, hno, q⟩ := h
  cases rx
  obtain ⟨u, rfl, ru⟩ := rxs.one
  obtain ⟨zz, its, n, rv, hl, ho⟩ := I.lstM hH
  obtain ⟨bs, r1⟩ := Dp.reads I d y u hy ru
  have hxs : PyData.canLayAll0 ds = true := SeqAt.canLay_of_shaped sl
  have hroom : X.A.units + 1 + min (PyData.depthAll ds) d.depth < cLine := room_in_shaped sd hu
  obtain ⟨as, h4⟩ := Dp.readsAll I ds _ its ha rv
  have hn : its.length = ds.length := SeqAt.ReadsAll.length ds its as h4
  have hmap : its.map (SeqAt.readOf s.heap) = ds := SeqAt.readsAll_map ds its as hxs h4
  have hvl := rv.length
  have hsl := sizeLine_eq
  obtain ⟨hjd, _⟩ := List.getElem?_eq_some_iff.mp hz
  have hjl : j < its.length := by omega
  have hj : j < its.toArray.size := by simpa using hjl
  have at_ : ∀ (m : Nat) (hm : m < its.toArray.size) (z' : PyData), ds[m]? = some z' → SeqAt.readOf s.heap its.toArray[m] = z' := by
    intro m hm z' hz'
    have hml : m < its.length := by simpa using hm
    rw [← hmap, List.getElem?_map, List.getElem?_eq_getElem hml] at hz'
    have e1 : SeqAt.readOf s.heap its[m] = z' := Option.some.inj (show some (SeqAt.readOf s.heap its[m]) = some z' from hz')
    simpa using e1
  refine call_meets PySem.F.slot_list_remove ⟨_, ho, rfl⟩ PySem.F.entry_list_remove (PySem.F.args_list_remove_2 _ _)
    (SeqAt.list_removeAt l its.toArray n _ _ u (fun u => PyData.eqv (SeqAt.readOf s.heap u) d) j hj ?_ ?_ (by rw [List.size_toArray]; omega)) ⟨ho, SeqAt.items_eqAt (vs := its.toArray) (show ReadsAll s.heap its.toArray.toList ds as from h4) r1 hxs (SeqAt.canLay_of_shaped sd) hroom, ?_⟩
  · show PyData.eqv (SeqAt.readOf s.heap its.toArray[j]) d = true
    rw [at_ j hj z hz]
    exact hzj
  · intro m hm hmj
    have hmd : m < ds.length := by omega
    have hz' : ds[m]? = some ds[m] := List.getElem?_eq_getElem hmd
    show PyData.eqv (SeqAt.readOf s.heap its.toArray[m]) d = false
    rw [at_ m hm _ hz']
    exact hno m _ hmj hz'
  · refine ⟨.non, _, I.lset (its' := its.eraseIdx j) (t' := s.toks) hH ho ?_ (rv.eraseIdx j) ?_, rfl, q⟩
    · show its.toArray.eraseIdxIfInBounds j = (its.eraseIdx j).toArray
      rw [List.eraseIdxIfInBounds_toArray]
    · have z2 := len_erase vs j
      omega
end
end My

set_option Elab.async false
set_option linter.all false
set_option maxRecDepth 100000
set_option pp.maxSteps 400
set_option maxHeartbeats 4000000
namespace My
open PySem PySem.Spec PyProof.Rows L2 GxR
theorem Ties.er {H : Hp} : ∀ {vs : List V} {ts : List Ar} (k : Nat), Ties H vs ts → Ties H (vs.eraseIdx k) (ts.eraseIdx k)
  | [], [], _, _ => trivial
  | _ :: _, _ :: _, 0, h => h.2
  | _ :: _, _ :: _, k + 1, h => ⟨h.1, Ties.er k h.2⟩
  | [], _ :: _, _, h => h.elim
  | _ :: _, [], _, h => h.elim
section
variable {P : Program} {w : World} {K : PySem.W.Frag} {mg : Str → Option Value} {base : Heap}
/-! ### shows_way -/
abbrev s_shows_way : Stmt := topS 7
abbrev N_shows_way : List Str := ["web", "one", "other", "thing"]
theorem sc_shows_way : FnScope N_shows_way ["web", "one", "other", "thing"] (defScope s_shows_way) := ⟨rfl, rfl, rfl, by decide +kernel, rfl, by decide +kernel, by decide +kernel⟩
def sp_shway (PT : Addr) : Sp := fun vs H Q _ => ∃ (v x y : V) (A : Addr) (n : Nat) (ts l : List Ar) (one other : Ar) (us : List V), vs = [v, x, y, .ref A] ∧ Web H v n ts ∧ WOk n ts ∧ Tie H x one ∧ Tie H y other ∧ H A = some (.lst us) ∧ Ties H us l ∧ l.length ≤ 10000 ∧ TabG H PT ∧
  ∀ H', St1 PT H H' → Q (.bl (wkB ts l && (decide (l.head? = some one) && decide (l.getLast? = some other)))) H'
theorem ok_shway {f PT : Addr} {fd : FuncData} (B : Bts mg) (F : Fun K "shows_way" "shows_way" s_shows_way f fd) (c_is_walk : Cl P w K mg base 6 "is_walk" (sp_walk PT)) : FnOk P w K mg base CX0 7 f fd ["web", "one", "other", "thing"] (sp_shway PT) := by
  refine F.ok sc_shows_way (fun vs H Q E h => ?_) (fun cdv A outer s H vs Q E hr h => ?_)
  · obtain ⟨v, x, y, A, n, ts, l, one, other, us, rfl, _⟩ := h; rfl
  · obtain ⟨v, x, y, Al, n, ts, l, one, other, us, rfl, hWeb, hW, hx, hy, eA, hT, hl, tg, q⟩ := h
    refine ⟨_, (pss_one (ps_ret (pe_and (pe_c c_is_walk hr (by decide) (by rfl) (pa_cons (pv 0) (pa_cons (pv 3) pa_nil))) (pe_and (pe_cmpR (op_eqD hr.units) (pe_ix ix_list (pv 3) pe_int (fun _ _ => rfl)) (pv 1) (nomark _)) (pe_one (pe_cmpR (op_eqD hr.units) (pe_ix ix_list (pv 3) (pe_un un_neg pe_int) (fun _ _ => rfl)) (pv 2) (nomark _))))))), ?_⟩
    refine ⟨_, rfl, _, rfl, v, Al, n, ts, l, us, rfl, hWeb, hW, eA, hT, hl, tg, fun H1 fr1 tg1 => ?_⟩
    have S1 : St1 PT H H1 := ⟨fr1, tg1⟩
    have t1 := S1.tst tg
    have fin := q H1 S1
    have ul := hT.len
    by_cases hw : wkB ts l = true
    · rw [hw]
      rw [hw, Bool.true_and] at fin
      refine ⟨true, rfl, iteT ?_⟩
      have ne : l ≠ [] := fun z => by rw [z] at hw; cases hw
      obtain ⟨a, l', rfl⟩ := List.exists_cons_of_ne_nil ne
      obtain ⟨u0, us', rfl, hu0⟩ : ∃ u0 us', us = u0 :: us' ∧ Tie H u0 a := by
        match us, hT with
        | u0 :: us', hT => exact ⟨u0, us', rfl, hT.1⟩
      refine ⟨_, rfl, Al, _, 0, u0, rfl, rfl, SqL.of (S1.lst tg eA), atI_nat (j := 0) rfl, _, rfl, dT a, dT one, (hu0.mono t1).dp, (hx.mono t1).dp, shaped_dT _, shaped_dT _, ?_⟩
      rw [eqv_dT]
      by_cases h1 : a = one
      · rw [decide_eq_true h1]
        rw [List.head?_cons, decide_eq_true (by rw [h1]), Bool.true_and] at fin
        refine ⟨true, rfl, iteT ?_⟩
        have ll : us'.length + 1 = l'.length + 1 := by simpa using ul
        obtain ⟨z, hz⟩ : ∃ z, (u0 :: us')[(u0 :: us').length - 1]? = some z := ⟨_, List.getElem?_eq_getElem (by rw [List.length_cons]; omega)⟩
        obtain ⟨b, eb, hzb⟩ := hT.at hz
        have elast : (a :: l').getLast? = some b := by
          rw [List.getLast?_eq_getElem?, ← eb, List.length_cons, List.length_cons, show us'.length = l'.length by omega]
        rw [elast] at fin
        refine ⟨_, rfl, _, rfl, Al, _, -1, z, rfl, rfl, SqL.of (S1.lst tg eA), atI_last hz (by rw [List.length_cons]; omega), _, rfl, dT b, dT other, (hzb.mono t1).dp, (hy.mono t1).dp, shaped_dT _, shaped_dT _, ?_⟩
        rw [eqv_dT, show decide (b = other) = decide (some b = some other) from decide_eq_decide.mpr ⟨fun z => by rw [z], fun z => Option.some.inj z⟩]
        exact fin
      · rw [decide_eq_false h1]
        rw [List.head?_cons, decide_eq_false (fun z => h1 (Option.some.inj z)), Bool.false_and] at fin
        exact ⟨false, rfl, iteF fin⟩
    · rw [Bool.eq_false_iff.mpr hw]
      rw [Bool.eq_false_iff.mpr hw, Bool.false_and] at fin
      exact ⟨false, rfl, iteF fin⟩
end
end My

set_option Elab.async false
set_option linter.all false
set_option maxRecDepth 100000
set_option pp.maxSteps 400
set_option maxHeartbeats 4000000
namespace My
open PySem PySem.Spec PyProof.Rows L2 GxR
def WayV (H : Hp) (x : V) (o : Option (List Ar)) : Prop := (o = none ∧ x = .non) ∨ ∃ l p us, o = some l ∧ x = .ref p ∧ H p = some (.lst us) ∧ Ties H us l
theorem wayQ_of {n : Nat} {ts : List Ar} {s t : Ar} {H : Hp} {Q : VK} (h : ∀ x H', Same H H' → WayV H' x (wayO n ts s t) → Q x H') : wayQ n ts s t H Q :=
  ⟨fun e H' s => h _ _ s (.inl ⟨e, rfl⟩), fun l e p us H' _ s ep hU => h _ _ s (.inr ⟨l, p, us, e, rfl, ep, hU⟩)⟩
theorem WayV.same {H H' : Hp} {x : V} {o : Option (List Ar)} (h : WayV H x o) (s : Same H H') : WayV H' x o := by
  rcases h with h | ⟨l, p, us, e, ex, ep, hU⟩
  · exact .inl h
  · exact .inr ⟨l, p, us, e, ex, s _ _ ep, hU.mono (Same.tst s)⟩
theorem wayO_len {n : Nat} {ts l : List Ar} {s t : Ar} (hn : n ≤ 12) (bA : t ∈ arS n ts) (hO : wayO n ts s t = some l) : l.length ≤ 10000 := by
  unfold wayO at hO
  split at hO
  · rename_i hm
    cases hO
    have nn : n * n ≤ 144 := Nat.mul_le_mul hn hn
    have := (steps_stp (ts := ts) (arS_inR bA)).low s hm
    have l2 := wayR_len (n := n) (ts := ts) (S := stepsF n ts t) (dOf (stepsF n ts t) s + 1) s [s]
    have e1 : [s].length = 1 := rfl
    unfold wayF
    omega
  · cases hO
theorem WayV.eqd {H : Hp} {x y : V} {o : Option (List Ar)} (h : WayV H x o) (k : WayV H y o) (hl : ∀ l, o = some l → l.length ≤ 10000) : Eqd 2 H x y := by
  rcases h with ⟨e, rfl⟩ | ⟨l, p, us, e, rfl, ep, hU⟩ <;> rcases k with ⟨e2, rfl⟩ | ⟨l2, p2, us2, e2, rfl, ep2, hU2⟩
  · exact Eqd.non
  · rw [e] at e2; cases e2
  · rw [e] at e2; cases e2
  · rw [e] at e2; cases e2
    exact lst_eqd ep ep2 hU hU2 (hl _ e)
theorem fc_frc {n : Nat} {ts : List Ar} {s t : Ar} (hW : WOk n ts) (hs : s ∈ arS n ts) (ht : t ∈ arS n ts) : fcB ts s t = decide (t ∈ frcS n ts s) := by
  have sR := arS_inR hs
  have tR := arS_inR ht
  have h1 : nrB ts t.1 t.2 = true := (List.mem_filter.mp ht).2
  rw [Bool.eq_iff_iff, decide_eq_true_eq, mem_frcS sR, mem_frc]
  obtain ⟨a, b⟩ := s
  obtain ⟨c, d⟩ := t
  unfold fcB gpB tA tB'
  dsimp only at h1 ⊢
  obtain ⟨c0, c1, d0, d1⟩ := tR
  dsimp only at c0 c1 d0 d1
  by_cases k : a = c
  · subst k
    rw [if_pos rfl]
    constructor
    · intro h
      simp only [Bool.and_eq_true, Bool.not_eq_true', decide_eq_false_iff_not] at h
      refine .inl ⟨rfl, d0, d1, ?_⟩
      simp only [Bool.and_eq_true, Bool.not_eq_true', decide_eq_false_iff_not]
      exact ⟨fun z => h.1 z.symm, h1, h.2⟩
    · rintro (⟨_, _, _, h⟩ | ⟨_, _, _, h⟩)
      · simp only [Bool.and_eq_true, Bool.not_eq_true', decide_eq_false_iff_not] at h ⊢
        exact ⟨fun z => h.1 z.symm, h.2.2⟩
      · simp at h
  · rw [if_neg k]
    constructor
    · intro h
      simp only [Bool.and_eq_true, Bool.not_eq_true', decide_eq_true_eq, decide_eq_false_iff_not] at h
      obtain ⟨h2, h3, h4⟩ := h
      subst h2
      refine .inr ⟨rfl, c0, c1, ?_⟩
      simp only [Bool.and_eq_true, Bool.not_eq_true', decide_eq_false_iff_not]
      exact ⟨fun z => k z.symm, h1, h4⟩
    · rintro (⟨h, _⟩ | ⟨h, _, _, h2⟩)
      · exact absurd h.symm k
      · simp only [Bool.and_eq_true, Bool.not_eq_true', decide_eq_true_eq, decide_eq_false_iff_not] at h2 ⊢
        exact ⟨h.symm, k, h2.2.2⟩
section
variable {P : Program} {w : World} {K : PySem.W.Frag} {mg : Str → Option Value} {base : Heap}
end
end My

set_option Elab.async false
set_option linter.all false
set_option maxRecDepth 100000
set_option pp.maxSteps 400
set_option maxHeartbeats 4000000
namespace My
open PySem PySem.Spec PyProof.Rows L2 GxR
/-! how many steps the way has -/
def Lip (n : Nat) (ts : List Ar) (c : Nat) (S : SN) : Prop := ∀ p ∈ S, p.2 < c → ∀ y ∈ frcS n ts p.1, ∃ q ∈ S, q.1 = y ∧ q.2 ≤ p.2 + 1
theorem lip_step {n : Nat} {ts : List Ar} {t : Ar} {c : Nat} {S : SN} {xs : List Ar} (h : Lip n ts c S) (b2 : BInv n ts t (c + 1) (S ++ xs.map fun x => (x, c + 1)) xs) : Lip n ts (c + 1) (S ++ xs.map fun x => (x, c + 1)) := fun p hp pc y hy => by
  obtain ⟨q, hq, e⟩ := List.mem_map.mp (b2.cls p hp pc y hy)
  by_cases pc2 : p.2 < c
  · rcases List.mem_append.mp hp with z | z
    · obtain ⟨q, a1, a2, a3⟩ := h p z pc2 y hy
      exact ⟨q, List.mem_append_left _ a1, a2, a3⟩
    · obtain ⟨x, _, rfl⟩ := List.mem_map.mp z
      exact absurd pc2 (by show ¬ c + 1 < c; omega)
  · exact ⟨q, hq, e, by have := b2.low q hq; omega⟩
theorem bfs_lip {n : Nat} {ts : List Ar} {t : Ar} (ht : InR n t) : ∀ (k c : Nat) (S : SN) (W : List Ar), BInv n ts t c S W → Lip n ts c S → 2 * (n * n - S.length) + min W.length 1 ≤ k → ∃ c', BInv n ts t c' (bfsR n ts k c (S, W)) [] ∧ Lip n ts c' (bfsR n ts k c (S, W))
  | 0, c, S, W, b, l, h => by
    have e : W = [] := List.length_eq_zero_iff.mp (by omega)
    subst e; exact ⟨c, b, l⟩
  | k + 1, c, S, [], b, l, h => ⟨c, b, l⟩
  | k + 1, c, S, x :: W, b, l, h => by
    obtain ⟨xs, e, b2⟩ := binv_step b
    show ∃ c', BInv n ts t c' (bfsR n ts k (c + 1) (lvl n ts c (x :: W) (S, []))) [] ∧ Lip n ts c' (bfsR n ts k (c + 1) (lvl n ts c (x :: W) (S, [])))
    rw [e]
    refine bfs_lip ht k (c + 1) _ _ b2 (lip_step l b2) ?_
    have l := binv_len ht b2
    rw [List.length_append, List.length_map] at l ⊢
    rw [List.length_cons] at h
    omega
theorem steps_lip {n : Nat} {ts : List Ar} {t : Ar} (ht : InR n t) {x y : Ar} (hx : x ∈ (stepsF n ts t).map (·.1)) (hy : y ∈ frcS n ts x) : dOf (stepsF n ts t) y ≤ dOf (stepsF n ts t) x + 1 := by
  obtain ⟨c, b, l⟩ := bfs_lip (ts := ts) ht _ 0 _ _ (binv_one n ts t) (fun p _ h => absurd h (Nat.not_lt_zero _)) (by show 2 * (n * n - 1) + 1 ≤ 2 * (n * n) + 1; omega)
  replace b : BInv n ts t c (stepsF n ts t) [] := b
  replace l : Lip n ts c (stepsF n ts t) := l
  have hm := mem_dOf b.nd hx
  have lt : dOf (stepsF n ts t) x < c := by
    rcases Nat.lt_or_ge (dOf (stepsF n ts t) x) c with z | z
    · exact z
    · exact absurd (b.top _ hm (Nat.le_antisymm (b.low _ hm) z)) List.not_mem_nil
  obtain ⟨q, hq, e, hle⟩ := l _ hm lt y hy
  rw [dOf_mem b.nd (show (y, q.2) ∈ stepsF n ts t from by rw [← e]; exact hq)]
  exact hle
/-- the way: its arrows, its ends, its length -/
structure WayOk (n : Nat) (ts : List Ar) (s t : Ar) (l : List Ar) : Prop where
  hd : l.head? = some s
  lst : l.getLast? = some t
  st : stB ts l = true
  ar : ∀ x ∈ l, x ∈ arS n ts
theorem stB_snoc {ts : List Ar} : ∀ {l : List Ar} {x y : Ar}, l.getLast? = some x → stB ts l = true → fcB ts x y = true → stB ts (l ++ [y]) = true
  | [], _, _, h, _, _ => by cases h
  | [a], x, y, h, _, f => by
    obtain rfl : a = x := Option.some.inj h
    show (fcB ts a y && true) = true
    rw [f]; rfl
  | a :: b :: l, x, y, h, k, f => by
    have k' : (fcB ts a b && stB ts (b :: l)) = true := k
    rw [Bool.and_eq_true] at k'
    show (fcB ts a b && stB ts ((b :: l) ++ [y])) = true
    rw [k'.1, stB_snoc (l := b :: l) (by rw [List.getLast?_cons_cons] at h; exact h) k'.2 f]; rfl
theorem frc_fc {n : Nat} {ts : List Ar} {s t : Ar} (hs : s ∈ arS n ts) (h : t ∈ frcS n ts s) : fcB ts s t = true ∧ t ∈ arS n ts := by
  have sR := arS_inR hs
  have aT : t ∈ arS n ts := Rch.ar hs (.step .refl h)
  refine ⟨?_, aT⟩
  rcases mem_frc.mp ((mem_frcS sR).mp h) with ⟨h1, h2, h3, h4⟩ | ⟨h1, h2, h3, h4⟩
  · unfold fcB gpB
    unfold tA at h4
    rw [if_pos h1.symm]
    simp only [Bool.and_eq_true, Bool.not_eq_true', decide_eq_false_iff_not] at h4 ⊢
    exact ⟨fun z => h4.1 z.symm, h4.2.2⟩
  · unfold fcB gpB
    unfold tB' at h4
    simp only [Bool.and_eq_true, Bool.not_eq_true', decide_eq_false_iff_not] at h4
    rw [if_neg (fun z => h4.1 z.symm), decide_eq_true h1.symm, Bool.true_and]
    simp only [Bool.and_eq_true, Bool.not_eq_true', decide_eq_false_iff_not]
    exact ⟨fun z => h4.1 z.symm, h4.2.2⟩
theorem wayR_ok {n : Nat} {ts : List Ar} {t s : Ar} (tA : t ∈ arS n ts) : ∀ (k : Nat) (x : Ar) (acc : List Ar), x ∈ (stepsF n ts t).map (·.1) → dOf (stepsF n ts t) x < k → acc.getLast? = some x → acc.head? = some s → stB ts acc = true → (∀ y ∈ acc, y ∈ arS n ts) →
    WayOk n ts s t (wayR n ts (stepsF n ts t) k x acc) ∧ (wayR n ts (stepsF n ts t) k x acc).length = acc.length + dOf (stepsF n ts t) x
  | 0, _, _, _, h, _, _, _, _ => absurd h (Nat.not_lt_zero _)
  | k + 1, x, acc, hx, h, hl, hh, hst, har => by
    have sp := steps_stp (ts := ts) (arS_inR tA)
    by_cases d0 : dOf (stepsF n ts t) x = 0
    · rw [wayR_end d0, d0]
      have := (sp.zer x hx).mp d0
      subst this
      exact ⟨⟨hh, hl, hst, har⟩, rfl⟩
    · have ne := sp.less tA hx d0
      obtain ⟨y, r, e⟩ := List.exists_cons_of_ne_nil ne
      have hy : nxt n ts (stepsF n ts t) x = some y := by unfold nxt; rw [e]; rfl
      obtain ⟨yF, yd⟩ := nxt_some hy
      have xA : x ∈ arS n ts := ((sp.rch x).mp hx).ar tA
      obtain ⟨f, yA⟩ := frc_fc xA yF
      have hyS := sp.fwd hx yF
      have lip := steps_lip (arS_inR tA) hyS (frcS_symm xA yF)
      rw [wayR_next d0 hy]
      have hhe : (acc ++ [y]).head? = some s := by
        cases acc with
        | nil => cases hh
        | cons a b => exact hh
      obtain ⟨w1, w2⟩ := wayR_ok tA k y (acc ++ [y]) hyS (by omega) List.getLast?_concat hhe (stB_snoc hl hst f) fun z hz => by
        rcases List.mem_append.mp hz with z1 | z1
        · exact har z z1
        · rw [List.mem_singleton.mp z1]; exact yA
      refine ⟨w1, ?_⟩
      rw [w2, List.length_append, List.length_singleton]
      omega
theorem wayO_ok {n : Nat} {ts l : List Ar} {s t : Ar} (sA : s ∈ arS n ts) (tA : t ∈ arS n ts) (h : wayO n ts s t = some l) : WayOk n ts s t l ∧ l.length = dOf (stepsF n ts t) s + 1 := by
  unfold wayO at h
  split at h
  · rename_i hm
    cases h
    unfold wayF
    obtain ⟨a, b⟩ := wayR_ok (s := s) tA (dOf (stepsF n ts t) s + 1) s [s] hm (Nat.lt_succ_self _) rfl rfl rfl fun y hy => by rw [List.mem_singleton.mp hy]; exact sA
    refine ⟨a, ?_⟩
    rw [b, List.length_singleton]; omega
  · cases h
theorem wayO_ex {n : Nat} {ts : List Ar} {s t : Ar} (tA : t ∈ arS n ts) : (∃ l, wayO n ts s t = some l) ↔ Rch n ts t s := by
  unfold wayO
  rw [← mem_steps (arS_inR tA)]
  constructor
  · rintro ⟨l, h⟩
    split at h
    · rename_i hm; exact hm
    · cases h
  · intro h
    exact ⟨_, if_pos h⟩
theorem WayOk.wk {n : Nat} {ts : List Ar} {s t : Ar} {l : List Ar} (h : WayOk n ts s t l) : wkB ts l = true := by
  unfold wkB
  have ne : l ≠ [] := fun z => by have := h.hd; rw [z] at this; cases this
  have e : (!l.isEmpty) = true := by
    cases l with
    | nil => exact absurd rfl ne
    | cons a b => rfl
  rw [e, h.st, Bool.true_and, Bool.and_true]
  exact List.all_eq_true.mpr fun x hx => (List.mem_filter.mp (h.ar x hx)).2
end My

set_option Elab.async false
set_option linter.all false
set_option maxRecDepth 100000
namespace My
open PySem PySem.Spec PyProof.Rows L2
/-! ### a call of what an expression tells: one of several defs -/
def tCallF (S : Addr → Sp → Prop) (tf : TE) (t : TA) : TE := fun σ H Q => tf σ H fun x H1 => ∃ f sp, x = .ref f ∧ S f sp ∧ t σ H1 fun vs H2 => sp (vs ++ []) H2 Q E0
theorem pe_callF {X : Cx} {k : Nat} {S : Addr → Sp → Prop} {fe e : Expr} {es : List Expr} {tf : TE} {t : TA} {pos : Pos}
    (A : ∀ f sp, S f sp → ∃ (fd : FuncData) (ps : List Str), FnOk X.prog X.w X.K X.mg X.base CX0 k f fd ps sp ∧ PySem.W.keepIn X.K (.ref f) = true ∧ Binds X.K fd ps []) (hr : Room k X.A) (hf : PE X fe tf) (ha : PA X (e :: es) t)
    (ht : eval (.Call fe (e :: es) [] pos) X.env = (do callWith pos (← eval fe X.env) [] (backTo pos (starEach (e :: es) X.env)) (backToKw pos (keywordEach [] X.env))) := by rfl)
    (he : starEach (e :: es) X.env = (false, eval e X.env) :: starEach es X.env := by rfl) (hpl : (backTo pos (starEach es X.env)).any (·.1) = false := by rfl) :
    PE X (.Call fe (e :: es) [] pos) (tCallF S tf t) := by
  refine ⟨fun pins s σ H Q I h => ?_⟩
  refine Call_ (thn (hf.run pins s σ H _ I h) fun u s1 ⟨x, H1, I1, rx, f, sp, ex, hS, q⟩ => ?_) ht
  subst ex
  obtain rfl : u = Value.ref f := rx
  obtain ⟨fd, ps, F, hk, hb⟩ := A f sp hS
  refine PySem.W.callWith_K (h₀ := X.base) I1.ok.mod.kin hk (thn (ha.run pos pins s1 σ _ _ I1 q) fun us s2 ⟨vs, H2, I2, r, q⟩ => ⟨I2.kIn, ?_⟩) he hpl
  exact run_fn F hr hb .nil pass0 I2 r q
end My

set_option Elab.async false
set_option linter.all false
set_option maxRecDepth 100000
set_option pp.maxSteps 400
set_option maxHeartbeats 4000000
namespace My
open PySem PySem.Spec PyProof.Rows L2 GxR
/-! ### defs that are called where no text is being made of anything yet (str and repr of data may be asked for in them) -/
structure FnG (P : Program) (w : World) (K : PySem.W.Frag) (mg : Str → Option Value) (base : Heap) (k : Nat) (f : Addr) (fd : FuncData) (ps : List Str) (sp : Sp) : Prop where
  len : ∀ vs H Q E, sp vs H Q E → vs.length = ps.length
  run : ∀ (A : Around) (outer : List Env) (s : Shared) (H : Hp) (args : Args) (us : List Value) (vs : List V) (Q : VK) (E : XK), A.guards = some [] → Room k A → Env0 P w K mg base A outer s H → BindsTo s fd args (ps.zip us) → Vals vs us → sp vs H Q E →
    codeAny (model P w) A (.call (.ref f) args) (CR CX0 outer P w H s Q E) s
structure ClG (P : Program) (w : World) (K : PySem.W.Frag) (mg : Str → Option Value) (base : Heap) (k : Nat) (x : Str) (sp : Sp) : Prop where
  ex : ∃ (f : Addr) (fd : FuncData) (ps : List Str), FnG P w K mg base k f fd ps sp ∧ mg x = some (.ref f) ∧ PySem.W.keepIn K (.ref f) = true ∧ Binds K fd ps []
section
variable {P : Program} {w : World} {K : PySem.W.Frag} {mg : Str → Option Value} {base : Heap}
theorem ClG.mk' {k : Nat} {x : Str} {sp : Sp} {st : Stmt} {f : Addr} {fd : FuncData} {ps : List Str} (F : Fun K x x st f fd) (hm : mg x = some (.ref f)) (hb : Binds K fd ps []) (ok : FnG P w K mg base k f fd ps sp) : ClG P w K mg base k x sp := ⟨f, fd, ps, ok, hm, F.kp, hb⟩
theorem okG {x qual : Str} {st : Stmt} {f : Addr} {fd : FuncData} {N ps : List Str} {k : Nat} {sp : Sp} (F : Fun K x qual st f fd) (S : FnScope N ps (defScope st)) (len : ∀ vs H Q E, sp vs H Q E → vs.length = ps.length)
    (body : ∀ (cdv : Value) (A : Around) (outer : List Env) (s : Shared) (H : Hp) (vs : List V) (Q : VK) (E : XK), A.guards = some [] → Room k (A.deeper (envOfC qual (defScope st) s.heap.objs.size f cdv)) → sp vs H Q E →
      ∃ t, PSs (cxOf CX0 P w K mg base N qual (defScope st) f cdv A outer s H E).nox (defBody st) t ∧ t { nx := fun _ H' => Q .non H', rt := Q } (start N vs) H) : FnG P w K mg base (k + 1) f fd ps sp := by
  refine ⟨len, fun A outer s H args us vs Q E hgd hr e0 hb rv hsp => ?_⟩
  obtain ⟨oc, od, kV, doc, pm, an, cdv, ct, osl, rfl, lk, hcd⟩ := F.ex
  have hl := len _ _ _ _ hsp
  have here : K.In s.heap := e0.mod.kin.keeps fun b o z => (e0.bs b o z).1
  have free := e0.mod.nolimit.keeps fun b o z => (e0.bs b o z).1
  refine codeAny_call_function hr.depth (here _ _ lk) rfl S.co S.gen rfl (PySem.W.codeRec_of here hcd) (hb _ _ _ _ ?_)
  refine wpAny_newFunctionEnv_cells S.kind ?_ fun env he s1 inn => ?_
  · rintro ⟨n, z⟩ hz
    rcases S.par n (List.of_mem_zip hz).1 with loc | cel
    · exact Or.inl loc
    · exact Or.inr ⟨cel, PySem.W.cellsFrom_some _ _ _ (Or.inl cel)⟩
  subst he
  refine ⟨free.keeps inn.toInCall.keep, codeAny_func ?_⟩
  obtain ⟨t, ht, hq⟩ := body cdv A outer s H vs Q E hgd (hr.deeper _) hsp
  have I0 := inv_start (CX := CX0) (E := E) S hr.hd e0 hl rv inn
  refine wpAny_mono (ht.nox.run [] s1 (start N vs) H _ I0 hq) (fun fl s' out => ?_) fun _ _ z => z
  cases fl with
  | ret z =>
    obtain ⟨v', σ', H', J, r', q'⟩ := out
    exact ⟨v', H', J.os, J.bare, J.base, J.hok, r', q'⟩
  | next =>
    obtain ⟨σ', H', J, q'⟩ := out
    exact ⟨V.non, H', J.os, J.bare, J.base, J.hok, rfl, q'⟩
  | brk => obtain ⟨_, _, _, no⟩ := out; exact no.elim
  | cont => obtain ⟨_, _, _, no⟩ := out; exact no.elim
end
/-- f(..), where no text is being made of anything yet -/
theorem pe_cG {X : Cx} {k j : Nat} {x : Str} {sp : Sp} {p pos : Pos} {e : Expr} {es : List Expr} {t : TA}
    (hgd : X.A.guards = some []) (c : ClG X.prog X.w X.K X.mg X.base k x sp) (hr : Room j X.A) (hk : k ≤ j) (hg : Gl X x) (ha : PA X (e :: es) t)
    (h1 : (x == ("__debug__" : Str)) = false := by decide)
    (h2 : starEach (e :: es) X.env = (false, eval e X.env) :: starEach es X.env := by rfl)
    (h3 : (backTo pos (starEach es X.env)).any (·.1) = false := by rfl) :
    PE X (.Call (.Name x p) (e :: es) [] pos) (tCall sp [] E0 t) := by
  obtain ⟨f, fd, ps, F, hm, kp, hb⟩ := c.ex
  refine ⟨fun pins s σ H Q I h => ?_⟩
  refine wpAny_Call_Name_kw (ld_glob I hg hm ?_ h1)
  refine PySem.W.callWith_K (h₀ := X.base) I.ok.mod.kin kp (thn (ha.run pos pins s σ H _ I h) fun us s1 ⟨vs, H1, I1, r, q⟩ => ⟨I1.kIn, ?_⟩) h2 h3
  have r2 : Vals (vs ++ []) (us ++ []) := r.append .nil
  have hl : (us ++ []).length = ps.length := by rw [← r2.length]; exact F.len _ _ _ _ q
  refine wpAny_call (codeAny_mono (F.run X.A X.stack s1 H1 ⟨us, []⟩ (us ++ []) (vs ++ []) Q E0 hgd (hr.mono hk) I1.env0 (hb s1 us I1.kIn hl) r2 q) fun res s' hq => ?_)
  cases res with
  | error e => exact hq.elim
  | ok fl =>
    cases fl with
    | ret u => exact I1.after hq
    | next => exact False.elim hq
    | brk => exact False.elim hq
    | cont => exact False.elim hq
end My

set_option Elab.async false
set_option linter.all false
set_option maxRecDepth 100000
namespace My
open PySem PySem.Spec PyProof.Rows L2 GxR
open PySem.W (dataLt AllAlike Sortable sorted_data EachIs dataLe sort_pairwise sortLe_total)

/-! ### sorted(xs), xs a list of objects that are data -/
def rSortedD (K : PySem.W.Frag) : List V → Hp → VK → Prop := fun vs H Q => ∃ (a : Addr) (bs : List (V × PyData)), vs = [.ref a] ∧ SqL K H a (bs.map (·.1)) ∧ (∀ b ∈ bs, (∃ p, b.1 = .ref p) ∧ Dp K H b.1 b.2 ∧ b.2.depth ≤ 50) ∧
  AllAlike (bs.map (·.2)) ∧ Sortable (bs.map (·.2)) ∧
  ∀ (ys : List (V × PyData)) (p : Addr), ys.Perm bs → ys.Pairwise (fun x y => dataLt y.2 x.2 = false) → H p = none → Q (.ref p) (upd H p (.lst (ys.map (·.1))))
abbrev BkR : Value → V × PyData → Prop := fun v b => (∃ p, v = Value.ref p) ∧ b.1 = backV v
theorem each_bk : ∀ {bs : List (V × PyData)} {its : List Value}, Vals (bs.map (·.1)) its → (∀ b ∈ bs, ∃ p, b.1 = .ref p) → EachIs BkR its bs
  | [], _, .nil, _ => .nil
  | (x, d) :: bs, _, .cons r t, h => by
    obtain ⟨p, e⟩ := h _ List.mem_cons_self
    dsimp only at e
    subst e
    cases r
    exact .cons ⟨⟨_, rfl⟩, rfl⟩ (each_bk t fun b hb => h b (List.mem_cons_of_mem _ hb))
theorem each_out : ∀ {bs : List (V × PyData)} {out : List Value}, EachIs BkR out bs → bs.map (·.1) = out.map backV ∧ ∀ u ∈ out, ∃ p, u = Value.ref p
  | _, _, .nil => ⟨rfl, fun u hu => absurd hu List.not_mem_nil⟩
  | _, _, .cons h t => by
    obtain ⟨e1, e2⟩ := each_out t
    refine ⟨by rw [List.map_cons, List.map_cons, h.2, e1], fun u hu => ?_⟩
    rcases List.mem_cons.mp hu with rfl | hu
    · exact h.1
    · exact e2 u hu
section
variable {X : Cx}
theorem each_rd {pins : List (Addr × Obj)} {σ : L2.St} {H : Hp} {s : Shared} (I : Inv X pins σ H s) : ∀ {bs : List (V × PyData)} {its : List Value}, Vals (bs.map (·.1)) its → (∀ b ∈ bs, Dp X.K H b.1 b.2) → EachIs (fun v (b : V × PyData) => ∃ as, Reads s.heap v b.2 as) its bs
  | [], _, .nil, _ => .nil
  | b :: bs, _, .cons r t, h => .cons (Dp.reads I b.2 b.1 _ (h b List.mem_cons_self) r) (each_rd I t fun c hc => h c (List.mem_cons_of_mem _ hc))
theorem cr_sortedD (hu : X.A.units + 65 < cLine) : CallR X (.builtin "sorted") (rSortedD X.K) := by
  rintro pins s σ H vs us Q I r ⟨a, bs, rfl, ha, hb, al, so, q⟩
  obtain ⟨u, rfl, ru⟩ := vals1 r
  obtain rfl : u = Value.ref a := ru
  obtain ⟨its, rv, hl, hz⟩ := I.list ha
  have ll : its.length = bs.length := by rw [← rv.length, List.length_map]
  have hz' : bs.length ≤ sizeLine := by rw [List.length_map] at hz; exact hz
  refine sorted_data (enc := Prod.snd) (R := BkR) (bs := bs) hl.isList (each_bk rv fun b z => (hb b z).1) (each_rd I rv fun b z => (hb b z).2.1) al so hz' (fun b z => ?_) fun out ol eo => ?_
  · have := (hb b z).2.2
    omega
  · obtain ⟨e1, e2⟩ := each_out eo
    obtain ⟨ep, he'⟩ := PyProof.Rows.sortedAll_at s.heap its out.toArray
    have hn : H (s.heap.objs.size + 1) = none := I.hok.fresh (Nat.le_succ _)
    refine ⟨.ref _, upd H (s.heap.objs.size + 1) (.lst ((bs.mergeSort (dataLe false Prod.snd)).map (·.1))), I.laid (t' := s.toks) (fun _ _ => PyProof.Rows.sortedAll_old) (Nat.le_succ _) ⟨?_, out, ep, ?_, he'⟩, rfl, q _ _ (List.mergeSort_perm bs _) ?_ hn⟩
    · rw [List.length_map, (List.mergeSort_perm bs _).length_eq]; exact hz'
    · rw [e1]; exact vals_back e2
    · refine (sort_pairwise (sortLe_total _ _ _) bs).imp fun {x y} h => ?_
      have h' : (!dataLt y.2 x.2) = true := h
      simpa using h'
end
end My

set_option Elab.async false
set_option linter.all false
set_option maxRecDepth 100000
namespace My
open PySem PySem.Spec PyProof.Rows L2 GxR
/-! ### sorted(t), t a tuple of numbers -/
def rSortedTI (K : PySem.W.Frag) : List V → Hp → VK → Prop := fun vs H Q => ∃ (a : Addr) (ns : List Int), vs = [V.ref a] ∧ SqT K H a (ns.map V.int) ∧
  ∀ (ns' : List Int) (p : Addr), ns'.Perm ns → ns'.Pairwise (· ≤ ·) → H p = none → Q (.ref p) (upd H p (.lst (ns'.map V.int)))
section
variable {X : Cx}
theorem cr_sortedTI : CallR X (.builtin "sorted") (rSortedTI X.K) := by
  rintro pins s σ H vs us Q I r ⟨a, ns, rfl, ha, q⟩
  obtain ⟨u, rfl, ru⟩ := vals1 r
  obtain rfl : u = Value.ref a := ru
  obtain ⟨its, rv, ht, hz⟩ := I.tuple ha
  have hi := rv.ints
  have hz' : its.length ≤ sizeLine := by rw [← rv.length]; exact hz
  refine Calls.call_function_entry PyProof.Rows.kind_sorted PyProof.Rows.plain_sorted PyProof.Rows.entry_sorted (PyProof.Rows.args_sorted1 _) (?_ : wpAny _ _ (Builtin.«sorted» ⟨[.ref a], []⟩) _ _ s)
  unfold Builtin.«sorted»
  refine wpAny_bind (m := checkCount "sorted" 1 1 _) (wpAny_pure (wpAny_bind (collect_tup ht hz' fun h' kp => ?_)))
  have I1 := I.kept (t' := s.toks) kp
  generalize hs1 : (⟨h', s.gens, s.drawn, s.toks, s.os⟩ : Shared) = s1 at I1
  refine wpAny_bind (wpAny_newList ?_ hz')
  have at0 : (s1.heap.push (seqObj "list" its.toArray 0)).get? s1.heap.objs.size = some (seqObj "list" its.toArray 0) := Heap.get?_push_size _ rfl
  subst hs1
  refine wpAny_bind (wpAny_holding (wpAny_call_entry PyProof.Rows.slot_list_sort ⟨_, at0, rfl⟩ PyProof.Rows.entry_list_sort (SrtO.list_sort_ord (s := { s with heap := h'.push (seqObj "list" its.toArray 0) }) SrtO.swo_int at0 hz' (fun h2 => SrtO.ints_sortable hi h2) fun out hs hb => ⟨_, rfl, ?_⟩) (PyProof.Rows.args_list_sort _)))
  obtain ⟨e', he'⟩ := PyProof.Rows.sortedHeap_at (vs := its) (out := out.toArray) at0
  obtain ⟨k1, k2, k3⟩ := SrtO.ints_out hi hs hb
  refine wpAny_pure ⟨_, rfl, .ref h'.objs.size, upd H h'.objs.size (.lst ((out.map SrtO.iv).map V.int)), I1.laid (t' := s.toks) (fun b ob e => ?_) (Nat.le_refl _) ⟨?_, out, e', vals_of_ints k1, he'⟩, rfl, q _ _ k2 k3 (I1.hok.fresh (Nat.le_refl _))⟩
  · have hlt : b < h'.objs.size := Heap.lt_size e
    rw [PyProof.Rows.sortedHeap_old (Nat.ne_of_lt hlt) (by rw [Heap.size_push]; exact Nat.lt_succ_of_lt hlt)]
    exact Heap.get?_push_of_some _ e
  · rw [List.length_map, k2.length_eq, ← hi.length]; exact hz'
end
end My

set_option Elab.async false
set_option linter.all false
set_option maxRecDepth 100000
namespace My
open PySem PySem.Spec PyProof.Rows L2 GxR
/-! ### a tuple the other way about: t[::-1] -/
section
variable {X : Cx}
theorem places_rv (n : Nat) : Builtin.Slice.slicePlaces ((n : Int) - 1) (-1) (-1) = n := by
  unfold Builtin.Slice.slicePlaces
  rw [if_neg (by decide)]
  by_cases h : (n : Int) - 1 > -1
  · rw [if_pos h, show (-(-1) : Int) = 1 by decide, Int.ediv_one]; omega
  · rw [if_neg h]
    omega
theorem cutRv {s : Shared} {A : Around} {E : Value → Shared → Prop} {sl : Addr} {vs : Value} {n : Nat} {Q : Int × Int × Nat → Shared → Prop} (hs : s.heap.IsSliceOf sl .none .none vs) (ps : IsPart vs (some (-1))) (h : Q ((n : Int) - 1, -1, n) s) :
    wpAny (model X.prog X.w) A (Builtin.Slice.sliceApplied (.ref sl) (pure (n : Int))) Q E s := by
  obtain ⟨os, hos, hcs, hds⟩ := id hs
  unfold Builtin.Slice.sliceApplied Builtin.Slice.sliceFields
  refine wpAny_bind (wpAny_bind (wpAny_field hos hds (x := .none) rfl (wpAny_bind (wpAny_field hos hds (x := .none) rfl (wpAny_bind (wpAny_field hos hds (x := vs) rfl (wpAny_pure ?_)))))))
  refine wpAny_bind (HT.slicePart_ ps ?_)
  show wpAny _ _ (if ((-1 : Int) == 0) = true then _ else _) _ _ s
  rw [if_neg (by decide)]
  refine wpAny_bind (HT.slicePart_ .none (wpAny_bind (HT.slicePart_ .none (wpAny_bind (wpAny_pure ?_)))))
  show wpAny _ _ (match Builtin.Slice.sliceAdjust none none (-1) (n : Int) with | (lo, hi) => pure (lo, (-1 : Int), Builtin.Slice.slicePlaces lo hi (-1))) _ _ s
  show wpAny _ _ (pure ((n : Int) - 1, (-1 : Int), Builtin.Slice.slicePlaces ((n : Int) - 1) (-1) (-1))) _ _ s
  rw [places_rv]
  exact wpAny_pure h
theorem fm_congrR {α β : Type} {f g : α → Option β} : ∀ {l : List α}, (∀ x ∈ l, f x = g x) → l.filterMap f = l.filterMap g
  | [], _ => rfl
  | x :: l, h => by rw [List.filterMap_cons, List.filterMap_cons, h x List.mem_cons_self, fm_congrR fun y hy => h y (List.mem_cons_of_mem _ hy)]
theorem pickRv (xs : Array Value) : ((List.range xs.size).filterMap fun (m : Nat) => xs[(((xs.size : Int) - 1) + (m : Int) * -1).toNat]?).toArray = xs.toList.reverse.toArray := by
  have e : (List.range xs.size).filterMap (fun (m : Nat) => xs[(((xs.size : Int) - 1) + (m : Int) * -1).toNat]?) = (((List.range xs.size).map fun k => xs.size - 1 - k).filterMap (xs[·]?)) := by
    rw [List.filterMap_map]
    refine fm_congrR fun m hm => ?_
    have := List.mem_range.mp hm
    have e : (((xs.size : Int) - 1) + (m : Int) * -1).toNat = xs.size - 1 - m := by omega
    rw [e]; rfl
  rw [e, PySem.W.krv_range, List.filterMap_reverse, PySem.W.krv_all]
theorem revA {s : Shared} {A : Around} {E : Value → Shared → Prop} {t sl : Addr} {items : Array Value} {vs : Value} {Q : Value → Shared → Prop} (ht : IsTup s.heap t items) (hs : s.heap.IsSliceOf sl .none .none vs) (ps : IsPart vs (some (-1))) (hsz : items.size ≤ sizeLine)
    (h : Q (.ref s.heap.objs.size) { s with heap := s.heap.push { cls := .type "tuple", data := .seq items.toList.reverse.toArray } }) : wpAny (model X.prog X.w) A (getItem (.ref t) (.ref sl)) Q E s := by
  obtain ⟨os, hos, hcs, hds⟩ := id hs
  have hTs : s.TypeIs (.ref sl) "slice" := ⟨os, hos, hcs⟩
  have hz : sizeOk (.seq items.toList.reverse.toArray) := by show items.toList.reverse.toArray.size ≤ sizeLine; rw [List.size_toArray, List.length_reverse, Array.length_toList]; exact hsz
  unfold getItem
  try with_reducible refine wpAny_holding ?_
  first | refine wpAny_bind (wpAny_pure ?_) | skip
  refine wpAny_bind (wpAny_sequenceKey ht.typeIs (by decide) ?_)
  refine wpAny_bind (wpAny_callSpecial?_slot (name := Str.ofString "__getitem__") ht.typeIs PyProof.Rows.slot_tuple_getitem (wpAny_call_entry PyProof.Rows.slot_tuple_getitem ht.typeIs entry_tuple_getitem ?_ (args_tuple_getitem _ _)))
  show wpAny _ _ (Builtin.Tuple.tupleItemsOf (.ref t) >>= _) _ _ s
  refine wpAny_bind (tupleItemsOf_ ht (wpAny_bind (wpAny_typeOf hTs ?_)))
  rw [if_pos (by decide)]
  refine wpAny_bind (cutRv hs ps ?_)
  show wpAny _ _ (if (((items.size : Int) - 1) == 0 && (-1 : Int) == 1 && items.size == items.size) = true then _ else _) _ _ s
  rw [if_neg (by rw [show ((-1 : Int) == 1) = false from by decide, Bool.and_false, Bool.false_and]; decide), pickRv]
  first
    | exact wpAny_bind (m := Builtin.Tuple.tupleExact _) (wpAny_newObj_type (wpAny_pure ⟨_, rfl, wpAny_pure h⟩) hz)
    | exact wpAny_bind (m := Builtin.Tuple.tupleExact _) (wpAny_newObj_type (wpAny_bind (wpAny_pure (wpAny_pure ⟨_, rfl, wpAny_pure h⟩))) hz)
    | exact wpAny_bind (wpAny_bind (m := Builtin.Tuple.tupleExact _) (wpAny_newObj_type (wpAny_pure (wpAny_pure ⟨_, rfl, wpAny_pure h⟩)) hz))
    | exact wpAny_bind (wpAny_bind (m := Builtin.Tuple.tupleExact _) (wpAny_newObj_type (wpAny_pure ⟨_, rfl, wpAny_pure h⟩) hz))
def tRevA (K : PySem.W.Frag) (te : TE) : TE := fun σ H Q => te σ H fun x H1 => ∃ a us, x = .ref a ∧ SqT K H1 a us ∧ ∀ p, H1 p = none → Q (.ref p) (upd H1 p (.tup us.reverse))
theorem pe_revA {e : Expr} {te : TE} {k : Nat} {p1 p2 p3 pos : Pos} (he : PE X e te) : PE X (.Subscript e (.Slice none none (some (.UnaryOp .USub (.Constant (.int 1) k p1) p2)) p3) pos) (tRevA X.K te) := by
  refine ⟨fun pins s σ H Q I h => Subscript_ (thn (he.run pins s σ H _ I h) fun v s1 ⟨x, H1, I1, r1, a, us, ex, hx, q⟩ => ?_)⟩
  subst ex; cases r1
  have hst : PO X (some (.UnaryOp .USub (.Constant (.int 1) k p1) p2)) (tPart (tUn (rU fun i => .int (-i)) (tC (.int 1)))) := po_some (pe_un un_neg pe_int)
  refine wpAny_Slice (thn (po_none.run pins s1 σ H1 (fun o H2 => o = none ∧ H2 = H1) I1 ⟨rfl, rfl⟩) fun vl s2 ⟨l, H2, I2, pl, el, e2⟩ => ?_); subst el e2
  refine thn (po_none.run pins s2 σ H2 (fun o H3 => o = none ∧ H3 = H2) I2 ⟨rfl, rfl⟩) fun vu s3 ⟨u, H3, I3, pu, eu, e3⟩ => ?_; subst eu e3
  refine thn (hst.run pins s3 σ H3 (fun o H4 => o = some (-1) ∧ H4 = H3) I3 ⟨1, rfl, -1, rfl, rfl, rfl⟩) fun vs s4 ⟨o, H4, I4, ps, eo, e4⟩ => ?_; subst eo e4
  cases pl; cases pu
  generalize hs5 : ({ s4 with heap := s4.heap.push { cls := .type "slice", data := .fields #[.none, .none, vs] } } : Shared) = s5
  have I5 : Inv X pins σ H4 s5 := by
    rw [← hs5]
    exact I4.kept (t' := s4.toks) fun b ob q => Heap.get?_push_of_some _ q
  obtain ⟨its, r, ht, hz⟩ := I5.tuple hx
  have hlen := r.length
  have hsl : s5.heap.IsSliceOf s4.heap.objs.size .none .none vs := by rw [← hs5]; exact Heap.IsSliceOf.new _ _ _ _
  refine (?_ : wpAny (model X.prog X.w) X.A (subscriptTail e (.Slice none none (some (.UnaryOp .USub (.Constant (.int 1) k p1) p2)) p3) (.ref a) (.ref s4.heap.objs.size)) (EP X pins σ Q) X.xe s5)
  refine tail_any (ops := [.ref a, .ref s4.heap.objs.size]) ht.typeIs (PyProof.Rows.slot_tuple_getitem.lookup) ?_ (by with_unfolding_all rfl)
  refine revA ht hsl ps (by rw [List.size_toArray]; omega) ⟨.ref _, _, I5.laid (t' := s5.toks) (o := .tup us.reverse) (fun b ob q => Heap.get?_push_of_some _ q) (Nat.le_refl _) ?_, rfl, q _ (I5.hok.fresh (Nat.le_refl _))⟩
  exact ⟨by rw [List.length_reverse]; exact hz, its.reverse, r.reverse, by
    have := IsTup.new s5.heap its.reverse.toArray
    exact this⟩
end
end My

set_option Elab.async false
set_option linter.all false
set_option maxRecDepth 100000
namespace My
open PySem PySem.Spec PyProof.Rows L2 GxR
/-! ### xs[-2::-1]: the other way about, without the last -/
theorem krv_pick2 (items : Array Value) : slicePick items (some (-2)) none (some (-1)) = items.toList.dropLast.reverse.toArray := by
  unfold slicePick
  have hb : sliceBounds (some (-2)) none (some (-1)) items.size = (((items.size - 1 : Nat) : Int) - 1, -1, -1) := by
    by_cases h : items.size = 0
    · rw [h]; rfl
    · by_cases h1 : items.size = 1
      · rw [h1]; rfl
      · obtain ⟨n, hn⟩ : ∃ n, items.size = n + 2 := ⟨items.size - 2, by omega⟩
        rw [hn]
        simp [sliceBounds]
        omega
  rw [hb]
  show ((sliceRange (((items.size - 1 : Nat) : Int) - 1) (-1) (-1)).filterMap (items[·]?)).toArray = _
  rw [PySem.W.krv_sliceRange, PySem.W.krv_range, List.filterMap_reverse]
  have e : (List.range (items.size - 1)).filterMap (items[·]?) = items.toList.dropLast := by
    have h := pick_run items 0 (items.size - 1)
    have e0 : (List.range (items.size - 1)).map (0 + ·) = List.range (items.size - 1) := by
      rw [show ((0 + ·) : Nat → Nat) = id from funext fun k => Nat.zero_add k, List.map_id]
    rw [e0, List.drop_zero] at h
    rw [h, List.dropLast_eq_take, Array.length_toList]
  rw [e]
section
variable {X : Cx}
def tRevL2 (K : PySem.W.Frag) (te : TE) : TE := fun σ H Q => te σ H fun x H1 => ∃ a xs, x = .ref a ∧ SqL K H1 a xs ∧ ∀ p, H1 p = none → Q (.ref p) (upd H1 p (.lst xs.dropLast.reverse))
theorem vals_dropLast : ∀ {vs : List V} {us : List Value}, Vals vs us → Vals vs.dropLast us.dropLast
  | _, _, .nil => .nil
  | _, _, .cons h t => by
    cases t with
    | nil => exact .nil
    | cons h2 t2 => exact .cons h (vals_dropLast (.cons h2 t2))
theorem pe_revL2 {e : Expr} {te : TE} {k k2 : Nat} {p1 p2 p3 p4 p5 pos : Pos} (he : PE X e te) : PE X (.Subscript e (.Slice (some (.UnaryOp .USub (.Constant (.int 2) k2 p4) p5)) none (some (.UnaryOp .USub (.Constant (.int 1) k p1) p2)) p3) pos) (tRevL2 X.K te) := by
  refine ⟨fun pins s σ H Q I h => ?_⟩
  refine Subscript_ (thn (he.run pins s σ H _ I h) fun v s1 ⟨x, H1, I1, r1, q1⟩ => ?_)
  obtain ⟨a, xs, ex, hx, q⟩ := q1
  subst ex
  cases r1
  have hst : PO X (some (.UnaryOp .USub (.Constant (.int 1) k p1) p2)) (tPart (tUn (rU fun i => .int (-i)) (tC (.int 1)))) := po_some (pe_un un_neg pe_int)
  have hlo : PO X (some (.UnaryOp .USub (.Constant (.int 2) k2 p4) p5)) (tPart (tUn (rU fun i => .int (-i)) (tC (.int 2)))) := po_some (pe_un un_neg pe_int)
  refine wpAny_Slice (thn (hlo.run pins s1 σ H1 (fun o H2 => o = some (-2) ∧ H2 = H1) I1 ⟨2, rfl, -2, rfl, rfl, rfl⟩) fun vl s2 ⟨l, H2, I2, pl, el, e2⟩ => ?_)
  subst el e2
  refine thn (po_none.run pins s2 σ H2 (fun o H3 => o = none ∧ H3 = H2) I2 ⟨rfl, rfl⟩) fun vu s3 ⟨u, H3, I3, pu, eu, e3⟩ => ?_
  subst eu e3
  refine thn (hst.run pins s3 σ H3 (fun o H4 => o = some (-1) ∧ H4 = H3) I3 ⟨1, rfl, -1, rfl, rfl, rfl⟩) fun vs s4 ⟨o, H4, I4, ps, eo, e4⟩ => ?_
  subst eo e4
  have I5 : Inv X pins σ H4 { s4 with heap := s4.heap.push { cls := .type "slice", data := .fields #[vl, vu, vs] } } := I4.kept (t' := s4.toks) fun b ob q => Heap.get?_push_of_some _ q
  obtain ⟨its, r, ht, hz⟩ := I5.list hx
  have hlen := r.length
  show wpAny (model X.prog X.w) X.A (subscriptTail e (.Slice (some (.UnaryOp .USub (.Constant (.int 2) k2 p4) p5)) none (some (.UnaryOp .USub (.Constant (.int 1) k p1) p2)) p3) (.ref a) (.ref s4.heap.objs.size)) (EP X pins σ Q) X.xe { s4 with heap := s4.heap.push { cls := .type "slice", data := .fields #[vl, vu, vs] } }
  refine tail_any (ops := [.ref a, .ref s4.heap.objs.size]) ht.isList.typeIs (PySem.slot_list_getitem.lookup) ?_ (by with_unfolding_all rfl)
  refine wpAny_getItem_list_slice ht.isList (Heap.IsSliceOf.new _ vl vu vs) pl pu ps (by decide) ?_ (by rw [List.size_toArray]; omega)
  rw [krv_pick2]
  refine ⟨.ref _, _, I5.laid (t' := s4.toks) (o := .lst xs.dropLast.reverse) (fun b ob q => Heap.get?_push_of_some _ q) (Nat.le_refl _) ?_, rfl, q _ (I5.hok.fresh (Nat.le_refl _))⟩
  exact ⟨by rw [List.length_reverse, List.length_dropLast]; omega, _, 0, (vals_dropLast r).reverse, Heap.get?_push_size _ rfl⟩
end
end My

set_option Elab.async false
set_option linter.all false
set_option maxRecDepth 100000
set_option maxHeartbeats 2000000
namespace My
open PySem PySem.Spec PyProof.Rows L2 GxR
/-! ### things: data that stands in the heap, its lists and tuples none of the objects at N -/
mutual
def Da (N : List Addr) (H : Hp) : PyData → V → Prop
  | .none, v => v = .non
  | .bool b, v => v = .bl b
  | .int i, v => v = .int i
  | .str x, v => v = .str x
  | .list ds, v => ∃ p us, v = .ref p ∧ p ∉ N ∧ H p = some (.lst us) ∧ DaAll N H ds us
  | .tuple ds, v => ∃ p us, v = .ref p ∧ p ∉ N ∧ H p = some (.tup us) ∧ DaAll N H ds us
  | .dict _, _ => False
def DaAll (N : List Addr) (H : Hp) : List PyData → List V → Prop
  | [], us => us = []
  | d :: ds, us => ∃ u us', us = u :: us' ∧ Da N H d u ∧ DaAll N H ds us'
end
mutual
theorem Da.dp {K : PySem.W.Frag} {N : List Addr} {H : Hp} : ∀ (d : PyData) (v : V), Da N H d v → Dp K H v d
  | .none, _, h => by rw [Da] at h; subst h; exact .non
  | .bool b, _, h => by rw [Da] at h; subst h; exact .bl b
  | .int i, _, h => by rw [Da] at h; subst h; exact .int i
  | .str x, _, h => by rw [Da] at h; subst h; exact .str x
  | .list ds, _, h => by
    rw [Da] at h
    obtain ⟨p, us, rfl, _, e, k⟩ := h
    exact .lst (SqL.of e) (DaAll.dp ds us k)
  | .tuple ds, _, h => by
    rw [Da] at h
    obtain ⟨p, us, rfl, _, e, k⟩ := h
    exact .tup (SqT.of e) (DaAll.dp ds us k)
  | .dict _, _, h => by rw [Da] at h; exact h.elim
theorem DaAll.dp {K : PySem.W.Frag} {N : List Addr} {H : Hp} : ∀ (ds : List PyData) (us : List V), DaAll N H ds us → DpAll K H us ds
  | [], _, h => by rw [DaAll] at h; subst h; exact .nil
  | d :: ds, _, h => by
    rw [DaAll] at h
    obtain ⟨u, us', rfl, h1, h2⟩ := h
    exact .cons (Da.dp d u h1) (DaAll.dp ds us' h2)
end
mutual
theorem Da.mono {N : List Addr} {H H' : Hp} (f : FrM N H H') : ∀ (d : PyData) (v : V), Da N H d v → Da N H' d v
  | .none, _, h => by rw [Da] at h ⊢; exact h
  | .bool b, _, h => by rw [Da] at h ⊢; exact h
  | .int i, _, h => by rw [Da] at h ⊢; exact h
  | .str x, _, h => by rw [Da] at h ⊢; exact h
  | .list ds, _, h => by
    rw [Da] at h ⊢
    obtain ⟨p, us, e1, n, e, k⟩ := h
    exact ⟨p, us, e1, n, f _ _ n e, DaAll.mono f ds us k⟩
  | .tuple ds, _, h => by
    rw [Da] at h ⊢
    obtain ⟨p, us, e1, n, e, k⟩ := h
    exact ⟨p, us, e1, n, f _ _ n e, DaAll.mono f ds us k⟩
  | .dict _, _, h => by rw [Da] at h; exact h.elim
theorem DaAll.mono {N : List Addr} {H H' : Hp} (f : FrM N H H') : ∀ (ds : List PyData) (us : List V), DaAll N H ds us → DaAll N H' ds us
  | [], _, h => by rw [DaAll] at h ⊢; exact h
  | d :: ds, _, h => by
    rw [DaAll] at h ⊢
    obtain ⟨u, us', e, h1, h2⟩ := h
    exact ⟨u, us', e, Da.mono f d u h1, DaAll.mono f ds us' h2⟩
end
-- one more object that things are none of: one that is new
mutual
theorem Da.more {N : List Addr} {H : Hp} {S : Addr} (nS : (∀ us, H S ≠ some (.lst us)) ∧ ∀ us, H S ≠ some (.tup us)) : ∀ (d : PyData) (v : V), Da N H d v → Da (S :: N) H d v
  | .none, _, h => by rw [Da] at h ⊢; exact h
  | .bool b, _, h => by rw [Da] at h ⊢; exact h
  | .int i, _, h => by rw [Da] at h ⊢; exact h
  | .str x, _, h => by rw [Da] at h ⊢; exact h
  | .list ds, _, h => by
    rw [Da] at h ⊢
    obtain ⟨p, us, e1, n, e, k⟩ := h
    exact ⟨p, us, e1, fun z => (List.mem_cons.mp z).elim (fun w => nS.1 us (by rw [← w]; exact e)) n, e, DaAll.more nS ds us k⟩
  | .tuple ds, _, h => by
    rw [Da] at h ⊢
    obtain ⟨p, us, e1, n, e, k⟩ := h
    exact ⟨p, us, e1, fun z => (List.mem_cons.mp z).elim (fun w => nS.2 us (by rw [← w]; exact e)) n, e, DaAll.more nS ds us k⟩
  | .dict _, _, h => by rw [Da] at h; exact h.elim
theorem DaAll.more {N : List Addr} {H : Hp} {S : Addr} (nS : (∀ us, H S ≠ some (.lst us)) ∧ ∀ us, H S ≠ some (.tup us)) : ∀ (ds : List PyData) (us : List V), DaAll N H ds us → DaAll (S :: N) H ds us
  | [], _, h => by rw [DaAll] at h ⊢; exact h
  | d :: ds, _, h => by
    rw [DaAll] at h ⊢
    obtain ⟨u, us', e, h1, h2⟩ := h
    exact ⟨u, us', e, Da.more nS d u h1, DaAll.more nS ds us' h2⟩
end
-- fewer objects that things are none of
mutual
theorem Da.fewer {N M : List Addr} {H : Hp} (s : ∀ x ∈ M, x ∈ N) : ∀ (d : PyData) (v : V), Da N H d v → Da M H d v
  | .none, _, h => by rw [Da] at h ⊢; exact h
  | .bool b, _, h => by rw [Da] at h ⊢; exact h
  | .int i, _, h => by rw [Da] at h ⊢; exact h
  | .str x, _, h => by rw [Da] at h ⊢; exact h
  | .list ds, _, h => by
    rw [Da] at h ⊢
    obtain ⟨p, us, e1, n, e, k⟩ := h
    exact ⟨p, us, e1, fun z => n (s _ z), e, DaAll.fewer s ds us k⟩
  | .tuple ds, _, h => by
    rw [Da] at h ⊢
    obtain ⟨p, us, e1, n, e, k⟩ := h
    exact ⟨p, us, e1, fun z => n (s _ z), e, DaAll.fewer s ds us k⟩
  | .dict _, _, h => by rw [Da] at h; exact h.elim
theorem DaAll.fewer {N M : List Addr} {H : Hp} (s : ∀ x ∈ M, x ∈ N) : ∀ (ds : List PyData) (us : List V), DaAll N H ds us → DaAll M H ds us
  | [], _, h => by rw [DaAll] at h ⊢; exact h
  | d :: ds, _, h => by
    rw [DaAll] at h ⊢
    obtain ⟨u, us', e, h1, h2⟩ := h
    exact ⟨u, us', e, Da.fewer s d u h1, DaAll.fewer s ds us' h2⟩
end
theorem no_none {H : Hp} {S : Addr} (e : H S = none) : (∀ us, H S ≠ some (.lst us)) ∧ ∀ us, H S ≠ some (.tup us) := ⟨fun us z => (by rw [e] at z; cases z), fun us z => (by rw [e] at z; cases z)⟩
theorem no_tab {H : Hp} {S : Addr} (e : TabG H S) : (∀ us, H S ≠ some (.lst us)) ∧ ∀ us, H S ≠ some (.tup us) := by
  obtain ⟨ps, h, _⟩ := e
  exact ⟨fun us z => (by rw [h] at z; cases z), fun us z => (by rw [h] at z; cases z)⟩
theorem DaAll.nil {N : List Addr} {H : Hp} : DaAll N H [] [] := by rw [DaAll]
theorem DaAll.cons {N : List Addr} {H : Hp} {d : PyData} {ds : List PyData} {u : V} {us : List V} (h : Da N H d u) (k : DaAll N H ds us) : DaAll N H (d :: ds) (u :: us) := by
  rw [DaAll]; exact ⟨u, us, rfl, h, k⟩
theorem DaAll.len {N : List Addr} {H : Hp} : ∀ {ds : List PyData} {us : List V}, DaAll N H ds us → us.length = ds.length
  | [], _, h => by rw [DaAll] at h; subst h; rfl
  | d :: ds, _, h => by
    rw [DaAll] at h
    obtain ⟨u, us', rfl, _, h2⟩ := h
    rw [List.length_cons, List.length_cons, DaAll.len h2]
theorem DaAll.at {N : List Addr} {H : Hp} : ∀ {ds : List PyData} {us : List V} {i : Nat} {u : V}, DaAll N H ds us → us[i]? = some u → ∃ d, ds[i]? = some d ∧ Da N H d u
  | [], _, i, u, h, e => by rw [DaAll] at h; subst h; cases e
  | d :: ds, _, i, u, h, e => by
    rw [DaAll] at h
    obtain ⟨u', us', rfl, h1, h2⟩ := h
    cases i with
    | zero => cases e; exact ⟨d, rfl, h1⟩
    | succ i => exact DaAll.at (i := i) h2 e
theorem DaAll.atD {N : List Addr} {H : Hp} : ∀ {ds : List PyData} {us : List V} {i : Nat} {d : PyData}, DaAll N H ds us → ds[i]? = some d → ∃ u, us[i]? = some u ∧ Da N H d u
  | [], _, i, u, h, e => by cases e
  | d' :: ds, _, i, u, h, e => by
    rw [DaAll] at h
    obtain ⟨u', us', rfl, h1, h2⟩ := h
    cases i with
    | zero => cases e; exact ⟨u', rfl, h1⟩
    | succ i => exact DaAll.atD (i := i) h2 e
theorem DaAll.app {N : List Addr} {H : Hp} : ∀ {ds es : List PyData} {us vs : List V}, DaAll N H ds us → DaAll N H es vs → DaAll N H (ds ++ es) (us ++ vs)
  | [], _, _, _, h, k => by rw [DaAll] at h; subst h; exact k
  | d :: ds, _, _, _, h, k => by
    rw [DaAll] at h
    obtain ⟨u', us', rfl, h1, h2⟩ := h
    exact .cons h1 (DaAll.app h2 k)
theorem DaAll.one {N : List Addr} {H : Hp} {d : PyData} {u : V} (h : Da N H d u) : DaAll N H [d] [u] := .cons h .nil
theorem DaAll.take {N : List Addr} {H : Hp} : ∀ {ds : List PyData} {us : List V} (j : Nat), DaAll N H ds us → DaAll N H (ds.take j) (us.take j)
  | _, _, 0, _ => by rw [List.take_zero, List.take_zero]; exact .nil
  | [], _, j + 1, h => by rw [DaAll] at h; subst h; exact .nil
  | d :: ds, _, j + 1, h => by
    rw [DaAll] at h
    obtain ⟨u', us', rfl, h1, h2⟩ := h
    exact .cons h1 (DaAll.take j h2)
theorem DaAll.drop {N : List Addr} {H : Hp} : ∀ {ds : List PyData} {us : List V} (j : Nat), DaAll N H ds us → DaAll N H (ds.drop j) (us.drop j)
  | _, _, 0, h => h
  | [], _, j + 1, h => by rw [DaAll] at h; subst h; exact .nil
  | d :: ds, _, j + 1, h => by
    rw [DaAll] at h
    obtain ⟨u', us', rfl, h1, h2⟩ := h
    exact DaAll.drop j h2
theorem DaAll.rev {N : List Addr} {H : Hp} : ∀ {ds : List PyData} {us : List V}, DaAll N H ds us → DaAll N H ds.reverse us.reverse
  | [], _, h => by rw [DaAll] at h; subst h; exact .nil
  | d :: ds, _, h => by
    rw [DaAll] at h
    obtain ⟨u', us', rfl, h1, h2⟩ := h
    rw [List.reverse_cons, List.reverse_cons]
    exact (DaAll.rev h2).app (.one h1)
theorem DaAll.mem {N : List Addr} {H : Hp} {ds : List PyData} {us : List V} {u : V} (h : DaAll N H ds us) (k : u ∈ us) : ∃ d, d ∈ ds ∧ Da N H d u := by
  obtain ⟨i, hi⟩ := List.getElem?_of_mem k
  obtain ⟨d, e, hd⟩ := h.at hi
  exact ⟨d, List.mem_of_getElem? e, hd⟩
theorem Da.tup {N : List Addr} {H : Hp} {p : Addr} {us : List V} {ds : List PyData} (n : p ∉ N) (e : H p = some (.tup us)) (h : DaAll N H ds us) : Da N H (.tuple ds) (.ref p) := by rw [Da]; exact ⟨p, us, rfl, n, e, h⟩
theorem Da.lst {N : List Addr} {H : Hp} {p : Addr} {us : List V} {ds : List PyData} (n : p ∉ N) (e : H p = some (.lst us)) (h : DaAll N H ds us) : Da N H (.list ds) (.ref p) := by rw [Da]; exact ⟨p, us, rfl, n, e, h⟩
theorem Da.non {N : List Addr} {H : Hp} : Da N H .none .non := by rw [Da]
theorem Da.bl {N : List Addr} {H : Hp} {b : Bool} : Da N H (.bool b) (.bl b) := by rw [Da]
theorem Da.int {N : List Addr} {H : Hp} {b : Int} : Da N H (.int b) (.int b) := by rw [Da]
theorem Da.str {N : List Addr} {H : Hp} {b : Str} : Da N H (.str b) (.str b) := by rw [Da]
theorem da_tie {N : List Addr} {H : Hp} {v : V} {t : Ar} (h : Tie H v t) (n : ∀ p ∈ N, ∀ xs, H p ≠ some (.tup xs)) : Da N H (dT t) v := by
  obtain ⟨p, rfl, e⟩ := h
  exact .tup (fun z => n p z _ e) e (.cons .int (.cons .int .nil))
theorem da_ties {N : List Addr} {H : Hp} (n : ∀ p ∈ N, ∀ xs, H p ≠ some (.tup xs)) : ∀ {vs : List V} {ts : List Ar}, Ties H vs ts → DaAll N H (ts.map dT) vs
  | [], [], _ => .nil
  | _ :: _, _ :: _, h => .cons (da_tie h.1 n) (da_ties n h.2)
  | [], _ :: _, h => h.elim
  | _ :: _, [], h => h.elim
/-- things stay when new objects are made -/
theorem Da.new {N : List Addr} {H : Hp} {p : Addr} {o : HO} {d : PyData} {v : V} (h : Da N H d v) (e : H p = none) : Da N (upd H p o) d v := h.mono (FrM.same (same_new e))

/-! ### small things -/
structure Sm (k W : Nat) (d : PyData) : Prop where
  sh : d.showable = true
  cl : d.canLay0 = true
  dp : d.depth ≤ k
  ln : d.shown.length ≤ W
theorem Sm.le {k k' W W' : Nat} {d : PyData} (h : Sm k W d) (a : k ≤ k') (b : W ≤ W') : Sm k' W' d := ⟨h.sh, h.cl, Nat.le_trans h.dp a, Nat.le_trans h.ln b⟩
theorem Sm.hd {k W : Nat} {d : PyData} (h : Sm k W d) : d.hasDict = false := PyData.hasDict_of_canLay d h.cl
theorem Sm.shaped {k W : Nat} {d : PyData} (h : Sm k W d) (l : k ≤ 64) : SeqAt.shaped d = true := by
  show (d.canLay0 && decide (d.depth ≤ 64)) = true
  rw [h.cl, decide_eq_true (Nat.le_trans h.dp l)]; rfl
structure SmAll (k W : Nat) (ds : List PyData) : Prop where
  sh : PyData.showableAll ds = true
  cl : PyData.canLayAll0 ds = true
  dp : PyData.depthAll ds ≤ k
  ln : piled (PyData.shownAll ds) ≤ W
theorem SmAll.nil {k W : Nat} : SmAll k W [] := ⟨rfl, rfl, Nat.zero_le _, Nat.zero_le _⟩
theorem SmAll.cons {k W W' : Nat} {d : PyData} {ds : List PyData} (h : Sm k W d) (g : SmAll k W' ds) : SmAll k (W + 2 + W') (d :: ds) := by
  refine ⟨by rw [PyData.showableAll, h.sh, g.sh]; rfl, by rw [PyData.canLayAll0, h.cl, g.cl]; rfl, ?_, ?_⟩
  · rw [PyData.depthAll]
    have := h.dp
    have := g.dp
    omega
  · rw [PyData.shownAll, piled_cons]
    have := h.ln
    have := g.ln
    omega
theorem SmAll.le {k k' W W' : Nat} {ds : List PyData} (h : SmAll k W ds) (a : k ≤ k') (b : W ≤ W') : SmAll k' W' ds := ⟨h.sh, h.cl, Nat.le_trans h.dp a, Nat.le_trans h.ln b⟩
theorem SmAll.app {k W W' : Nat} : ∀ {ds es : List PyData}, SmAll k W ds → SmAll k W' es → SmAll k (W + W') (ds ++ es)
  | [], es, h, g => g.le (Nat.le_refl _) (Nat.le_add_left _ _)
  | d :: ds, es, h, g => by
    have h1 := h.sh
    have h2 := h.cl
    have h3 := h.dp
    have h4 := h.ln
    rw [PyData.showableAll, Bool.and_eq_true] at h1
    rw [PyData.canLayAll0, Bool.and_eq_true] at h2
    rw [PyData.depthAll] at h3
    rw [PyData.shownAll, piled_cons] at h4
    have hd : Sm k d.shown.length d := ⟨h1.1, h2.1, by omega, Nat.le_refl _⟩
    have hds : SmAll k (piled (PyData.shownAll ds)) ds := ⟨h1.2, h2.2, by omega, Nat.le_refl _⟩
    exact (SmAll.cons hd (hds.app g)).le (Nat.le_refl _) (by omega)
theorem SmAll.of {k W : Nat} : ∀ {ds : List PyData}, (∀ d ∈ ds, Sm k W d) → SmAll k (ds.length * (W + 2)) ds
  | [], _ => .nil
  | d :: ds, h => (SmAll.cons (h d List.mem_cons_self) (SmAll.of fun e he => h e (List.mem_cons_of_mem _ he))).le (Nat.le_refl _) (by rw [List.length_cons, Nat.succ_mul]; omega)
theorem SmAll.mem {k W : Nat} : ∀ {ds : List PyData}, SmAll k W ds → ∀ d ∈ ds, Sm k W d
  | d :: ds, h, e, he => by
    have h1 := h.sh
    have h2 := h.cl
    have h3 := h.dp
    have h4 := h.ln
    rw [PyData.showableAll, Bool.and_eq_true] at h1
    rw [PyData.canLayAll0, Bool.and_eq_true] at h2
    rw [PyData.depthAll] at h3
    rw [PyData.shownAll, piled_cons] at h4
    rcases List.mem_cons.mp he with rfl | he
    · exact ⟨h1.1, h2.1, by omega, by omega⟩
    · exact SmAll.mem ⟨h1.2, h2.2, by omega, by omega⟩ e he
theorem listText_lenO (l : List Str) : (listText l).length ≤ piled l + 2 := by
  rw [listText_eq_join, strLen_append, strLen_append]
  have e1 : ((("[" : String) : Str)).length = 1 := rfl
  have e3 : ((("]" : String) : Str)).length = 1 := rfl
  rw [e1, e3]
  by_cases h : l = []
  · subst h
    have : (Str.join ", " []).length = 0 := rfl
    omega
  · have := join_length_add l h
    omega
theorem Sm.tup {k W : Nat} {ds : List PyData} (h : SmAll k W ds) : Sm (k + 1) (W + 3) (.tuple ds) := by
  refine ⟨by rw [PyData.showable]; exact h.sh, by rw [PyData.canLay0]; exact h.cl, by rw [PyData.depth]; have := h.dp; omega, ?_⟩
  rw [PyData.shown]
  have := tupleText_len (PyData.shownAll ds)
  have := h.ln
  omega
theorem Sm.lst {k W : Nat} {ds : List PyData} (h : SmAll k W ds) : Sm (k + 1) (W + 3) (.list ds) := by
  refine ⟨by rw [PyData.showable]; exact h.sh, by rw [PyData.canLay0]; exact h.cl, by rw [PyData.depth]; have := h.dp; omega, ?_⟩
  rw [PyData.shown]
  have := listText_lenO (PyData.shownAll ds)
  have := h.ln
  omega
theorem shownAll_len : ∀ ds : List PyData, (PyData.shownAll ds).length = ds.length
  | [] => rfl
  | d :: ds => by rw [PyData.shownAll, List.length_cons, List.length_cons, shownAll_len ds]
theorem piled_ge : ∀ l : List Str, 2 * l.length ≤ piled l
  | [] => Nat.zero_le _
  | t :: l => by
    have := piled_ge l
    rw [piled_cons, List.length_cons]
    omega
theorem SmAll.len {k W : Nat} {ds : List PyData} (h : SmAll k W ds) : 2 * ds.length ≤ W := by
  have h1 := piled_ge (PyData.shownAll ds)
  have h2 := h.ln
  rw [shownAll_len] at h1
  omega
theorem Sm.tup_inv {k W : Nat} {ds : List PyData} (h : Sm (k + 1) W (.tuple ds)) : SmAll k W ds := by
  have h1 := h.sh
  have h2 := h.cl
  have h3 := h.dp
  have h4 := h.ln
  rw [PyData.showable] at h1
  rw [PyData.canLay0] at h2
  rw [PyData.depth] at h3
  rw [PyData.shown] at h4
  have := piled_le_tupleText (PyData.shownAll ds)
  exact ⟨h1, h2, by omega, by omega⟩
theorem Sm.lst_inv {k W : Nat} {ds : List PyData} (h : Sm (k + 1) W (.list ds)) : SmAll k W ds := by
  have h1 := h.sh
  have h2 := h.cl
  have h3 := h.dp
  have h4 := h.ln
  rw [PyData.showable] at h1
  rw [PyData.canLay0] at h2
  rw [PyData.depth] at h3
  rw [PyData.shown] at h4
  have := piled_le_listText (PyData.shownAll ds)
  exact ⟨h1, h2, by omega, by omega⟩
theorem Sm.non {k W : Nat} (w : 4 ≤ W) : Sm k W .none := ⟨rfl, rfl, Nat.zero_le _, w⟩
theorem Sm.bl {k W : Nat} {b : Bool} (w : 5 ≤ W) : Sm k W (.bool b) := ⟨rfl, rfl, Nat.zero_le _, Nat.le_trans (by cases b <;> decide +kernel) w⟩
theorem txt_ints : ∀ k : Nat, k < 320 → ((toString ((k : Nat) - 20 : Int) : String) : Str).length ≤ 3 := by decide +kernel
theorem Sm.int {k W : Nat} {i : Int} (w : 3 ≤ W) (h0 : -20 ≤ i) (h1 : i < 300) : Sm k W (.int i) := by
  refine ⟨?_, rfl, Nat.zero_le _, ?_⟩
  · rw [PyData.showable]
    refine decide_eq_true ?_
    have : i.natAbs.log2 ≤ i.natAbs := Nat.log2_le_self _
    omega
  · rw [PyData.shown]
    have := txt_ints (i + 20).toNat (by omega)
    rw [show (((i + 20).toNat : Nat) - 20 : Int) = i by omega] at this
    exact Nat.le_trans this w
theorem Sm.str {k W : Nat} {x : Str} (h : (PyData.str x).canLay0 = true) (w : (reprText x).length ≤ W) : Sm k W (.str x) := ⟨rfl, h, Nat.zero_le _, by rw [PyData.shown]; exact w⟩
theorem Sm.tie {k W : Nat} {t : Ar} (w : 13 ≤ W) (h1 : -20 ≤ t.1) (h2 : t.1 < 300) (h3 : -20 ≤ t.2) (h4 : t.2 < 300) : Sm (k + 1) W (dT t) :=
  (Sm.tup (SmAll.cons (Sm.int (Nat.le_refl 3) h1 h2) (SmAll.cons (Sm.int (Nat.le_refl 3) h3 h4) (SmAll.nil (W := 0))))).le (Nat.le_refl _) (by omega)
/-- d as a text: the wish of str -/
theorem Sm.strD {K : PySem.W.Frag} {N : List Addr} {H : Hp} {p : Addr} {d : PyData} {k W : Nat} {Q : VK} (h : Da N H d (.ref p)) (s : Sm k W d) (hk : k ≤ 50) (hW : W ≤ 100000) (q : Q (.str d.shown) H) : rStrD K [.ref p] H Q :=
  ⟨p, d, rfl, h.dp, s.sh, s.hd, Nat.le_trans s.dp hk, Nat.le_trans s.ln (Nat.le_trans hW (by decide)), q⟩
end My

set_option Elab.async false
set_option linter.all false
set_option maxRecDepth 100000
set_option maxHeartbeats 2000000
namespace My
open PySem PySem.Spec PyProof.Rows L2 GxR
/-! ### str of a thing -/
def txtD : PyData → Str
  | .str x => x
  | d => d.shown
def rStrA (K : PySem.W.Frag) : List V → Hp → VK → Prop := fun xs H Q => ∃ v d, xs = [v] ∧ Dp K H v d ∧ d.showable = true ∧ d.hasDict = false ∧ d.depth ≤ 50 ∧ d.shown.length ≤ sizeLine ∧ Q (.str (txtD d)) H
theorem call_strA {X : Cx} (hg : X.A.guards = some []) (hu : X.A.units + 65 < cLine) : CallR X (.type "str") (rStrA X.K) := by
  rintro pins s σ H xs us Q I r ⟨v, d, rfl, hd, h1, h2, h3, h4, q⟩
  obtain ⟨u, rfl, r1⟩ := vals1 r
  cases d with
  | none =>
    cases hd
    cases r1
    exact PySem.P.str_of_none ⟨.str _, H, I.tok _, ⟨_, rfl⟩, q⟩
  | bool b =>
    cases hd
    cases r1
    exact PySem.P.str_of_bool ⟨.str _, H, I.tok _, ⟨_, rfl⟩, q⟩
  | int i =>
    cases hd
    obtain ⟨t, rfl⟩ := r1
    rw [PyData.showable] at h1
    exact PySem.P.str_of_int (of_decide_eq_true h1) ⟨.str _, H, I.tok _, ⟨_, rfl⟩, q⟩
  | str x =>
    cases hd
    obtain ⟨t, rfl⟩ := r1
    exact PySem.P.str_of_str ⟨.str _, H, I, ⟨t, rfl⟩, q⟩
  | list ds =>
    have hd' := hd
    cases hd
    obtain rfl : u = Value.ref _ := r1
    obtain ⟨as, rr⟩ := Dp.reads I _ _ _ hd' rfl
    exact str_of_reads rr h1 (fun z => by rw [h2] at z; cases z) hg (by omega) (fun _ _ e => e) (fun h' t tk k => ⟨.str _, H, I.kept k, ⟨_, rfl⟩, q⟩) h4
  | tuple ds =>
    have hd' := hd
    cases hd
    obtain rfl : u = Value.ref _ := r1
    obtain ⟨as, rr⟩ := Dp.reads I _ _ _ hd' rfl
    exact str_of_reads rr h1 (fun z => by rw [h2] at z; cases z) hg (by omega) (fun _ _ e => e) (fun h' t tk k => ⟨.str _, H, I.kept k, ⟨_, rfl⟩, q⟩) h4
  | dict _ => cases hd
theorem Sm.strA {K : PySem.W.Frag} {N : List Addr} {H : Hp} {v : V} {d : PyData} {k W : Nat} {Q : VK} (h : Da N H d v) (s : Sm k W d) (hk : k ≤ 50) (hW : W ≤ 200000) (q : Q (.str (txtD d)) H) : rStrA K [v] H Q :=
  ⟨v, d, rfl, h.dp, s.sh, s.hd, Nat.le_trans s.dp hk, Nat.le_trans s.ln (Nat.le_trans hW (by decide)), q⟩
/-! ### isinstance of a thing -/
section
variable {K : PySem.W.Frag}
def isTupD : PyData → Bool
  | .tuple _ => true
  | _ => false
def isLstD : PyData → Bool
  | .list _ => true
  | _ => false
def isIntD : PyData → Bool
  | .int _ => true
  | _ => false
def isBlD : PyData → Bool
  | .bool _ => true
  | _ => false
theorem isi_tupA {N : List Addr} {H : Hp} {v : V} {d : PyData} {Q : VK} (h : Da N H d v) (q : Q (.bl (isTupD d)) H) : rIsi K [v, .ty "tuple"] H Q := by
  cases d <;> rw [Da] at h
  · subst h; exact ⟨_, _, _, _, false, rfl, .ty _, .base .non, kit_ty (by decide +kernel), q⟩
  · subst h; exact ⟨_, _, _, _, false, rfl, .ty _, .base (.bl _), kit_ty (by decide +kernel), q⟩
  · subst h; exact ⟨_, _, _, _, false, rfl, .ty _, .base (.int _), kit_ty (by decide +kernel), q⟩
  · subst h; exact ⟨_, _, _, _, false, rfl, .ty _, .base (.str _), kit_ty (by decide +kernel), q⟩
  · obtain ⟨p, us, rfl, _, e, _⟩ := h; exact ⟨_, _, _, _, false, rfl, .ty _, .base (.lst e), kit_ty (by decide +kernel), q⟩
  · obtain ⟨p, us, rfl, _, e, _⟩ := h; exact ⟨_, _, _, _, true, rfl, .ty _, .base (.tup e), kit_ty (by decide +kernel), q⟩
  · exact h.elim
theorem isi_lstA {N : List Addr} {H : Hp} {v : V} {d : PyData} {Q : VK} (h : Da N H d v) (q : Q (.bl (isLstD d)) H) : rIsi K [v, .ty "list"] H Q := by
  cases d <;> rw [Da] at h
  · subst h; exact ⟨_, _, _, _, false, rfl, .ty _, .base .non, kit_ty (by decide +kernel), q⟩
  · subst h; exact ⟨_, _, _, _, false, rfl, .ty _, .base (.bl _), kit_ty (by decide +kernel), q⟩
  · subst h; exact ⟨_, _, _, _, false, rfl, .ty _, .base (.int _), kit_ty (by decide +kernel), q⟩
  · subst h; exact ⟨_, _, _, _, false, rfl, .ty _, .base (.str _), kit_ty (by decide +kernel), q⟩
  · obtain ⟨p, us, rfl, _, e, _⟩ := h; exact ⟨_, _, _, _, true, rfl, .ty _, .base (.lst e), kit_ty (by decide +kernel), q⟩
  · obtain ⟨p, us, rfl, _, e, _⟩ := h; exact ⟨_, _, _, _, false, rfl, .ty _, .base (.tup e), kit_ty (by decide +kernel), q⟩
  · exact h.elim
theorem isi_intA {N : List Addr} {H : Hp} {v : V} {d : PyData} {Q : VK} (h : Da N H d v) (q : Q (.bl (isIntD d || isBlD d)) H) : rIsi K [v, .ty "int"] H Q := by
  cases d <;> rw [Da] at h
  · subst h; exact ⟨_, _, _, _, false, rfl, .ty _, .base .non, kit_ty (by decide +kernel), q⟩
  · subst h; exact ⟨_, _, _, _, true, rfl, .ty _, .base (.bl _), kit_ty (by decide +kernel), q⟩
  · subst h; exact ⟨_, _, _, _, true, rfl, .ty _, .base (.int _), kit_ty (by decide +kernel), q⟩
  · subst h; exact ⟨_, _, _, _, false, rfl, .ty _, .base (.str _), kit_ty (by decide +kernel), q⟩
  · obtain ⟨p, us, rfl, _, e, _⟩ := h; exact ⟨_, _, _, _, false, rfl, .ty _, .base (.lst e), kit_ty (by decide +kernel), q⟩
  · obtain ⟨p, us, rfl, _, e, _⟩ := h; exact ⟨_, _, _, _, false, rfl, .ty _, .base (.tup e), kit_ty (by decide +kernel), q⟩
  · exact h.elim
theorem isi_blA {N : List Addr} {H : Hp} {v : V} {d : PyData} {Q : VK} (h : Da N H d v) (q : Q (.bl (isBlD d)) H) : rIsi K [v, .ty "bool"] H Q := by
  cases d <;> rw [Da] at h
  · subst h; exact ⟨_, _, _, _, false, rfl, .ty _, .base .non, kit_ty (by decide +kernel), q⟩
  · subst h; exact ⟨_, _, _, _, true, rfl, .ty _, .base (.bl _), kit_ty (by decide +kernel), q⟩
  · subst h; exact ⟨_, _, _, _, false, rfl, .ty _, .base (.int _), kit_ty (by decide +kernel), q⟩
  · subst h; exact ⟨_, _, _, _, false, rfl, .ty _, .base (.str _), kit_ty (by decide +kernel), q⟩
  · obtain ⟨p, us, rfl, _, e, _⟩ := h; exact ⟨_, _, _, _, false, rfl, .ty _, .base (.lst e), kit_ty (by decide +kernel), q⟩
  · obtain ⟨p, us, rfl, _, e, _⟩ := h; exact ⟨_, _, _, _, false, rfl, .ty _, .base (.tup e), kit_ty (by decide +kernel), q⟩
  · exact h.elim
end
end My

set_option Elab.async false
set_option linter.all false
set_option maxRecDepth 100000
set_option maxHeartbeats 2000000
namespace My
open PySem PySem.Spec PyProof.Rows L2 GxR
/-! ### things that are made one after another -/
/-- v is a thing of at most this depth and length -/
def Kt (N : List Addr) (H : Hp) (v : V) (k W : Nat) : Prop := ∃ d, Da N H d v ∧ Sm k W d
theorem Kt.mono {N : List Addr} {H H' : Hp} {v : V} {k W : Nat} (h : Kt N H v k W) (f : FrM N H H') : Kt N H' v k W := by
  obtain ⟨d, h1, h2⟩ := h
  exact ⟨d, h1.mono f, h2⟩
theorem Kt.same {N : List Addr} {H H' : Hp} {v : V} {k W : Nat} (h : Kt N H v k W) (f : Same H H') : Kt N H' v k W := h.mono (FrM.same f)
theorem Kt.le {N : List Addr} {H : Hp} {v : V} {k k' W W' : Nat} (h : Kt N H v k W) (a : k ≤ k') (b : W ≤ W') : Kt N H v k' W' := by
  obtain ⟨d, h1, h2⟩ := h
  exact ⟨d, h1, h2.le a b⟩
theorem Kt.more {N : List Addr} {H : Hp} {S : Addr} {v : V} {k W : Nat} (h : Kt N H v k W) (nS : (∀ us, H S ≠ some (.lst us)) ∧ ∀ us, H S ≠ some (.tup us)) : Kt (S :: N) H v k W := by
  obtain ⟨d, h1, h2⟩ := h
  exact ⟨d, h1.more nS, h2⟩
theorem Kt.fewer {N M : List Addr} {H : Hp} {v : V} {k W : Nat} (h : Kt N H v k W) (s : ∀ x ∈ M, x ∈ N) : Kt M H v k W := by
  obtain ⟨d, h1, h2⟩ := h
  exact ⟨d, h1.fewer s, h2⟩
theorem Kt.non {N : List Addr} {H : Hp} {k W : Nat} (w : 4 ≤ W) : Kt N H .non k W := ⟨_, .non, Sm.non w⟩
theorem Kt.bl {N : List Addr} {H : Hp} {k W : Nat} {b : Bool} (w : 5 ≤ W) : Kt N H (.bl b) k W := ⟨_, .bl, Sm.bl w⟩
theorem Kt.int {N : List Addr} {H : Hp} {k W : Nat} {i : Int} (w : 3 ≤ W) (h0 : -20 ≤ i) (h1 : i < 300) : Kt N H (.int i) k W := ⟨_, .int, Sm.int w h0 h1⟩
theorem Kt.str {N : List Addr} {H : Hp} {k W : Nat} {x : Str} (h : (PyData.str x).canLay0 = true) (w : (reprText x).length ≤ W) : Kt N H (.str x) k W := ⟨_, .str, Sm.str h w⟩
theorem kt_all {N : List Addr} {H : Hp} {k W : Nat} : ∀ {us : List V}, (∀ u ∈ us, Kt N H u k W) → ∃ ds, DaAll N H ds us ∧ ∀ d ∈ ds, Sm k W d
  | [], _ => ⟨[], .nil, fun d hd => absurd hd List.not_mem_nil⟩
  | u :: us, h => by
    obtain ⟨d, h1, h2⟩ := h u List.mem_cons_self
    obtain ⟨ds, g1, g2⟩ := kt_all (us := us) fun x hx => h x (List.mem_cons_of_mem _ hx)
    exact ⟨d :: ds, .cons h1 g1, fun e he => (List.mem_cons.mp he).elim (fun z => z ▸ h2) (g2 e)⟩
theorem Kt.tup {N : List Addr} {H : Hp} {p : Addr} {us : List V} {k W : Nat} (n : p ∉ N) (e : H p = some (.tup us)) (h : ∀ u ∈ us, Kt N H u k W) : Kt N H (.ref p) (k + 1) (us.length * (W + 2) + 3) := by
  obtain ⟨ds, g1, g2⟩ := kt_all h
  have := g1.len
  exact ⟨_, .tup n e g1, by rw [this]; exact Sm.tup (SmAll.of g2)⟩
theorem Kt.lst {N : List Addr} {H : Hp} {p : Addr} {us : List V} {k W : Nat} (n : p ∉ N) (e : H p = some (.lst us)) (h : ∀ u ∈ us, Kt N H u k W) : Kt N H (.ref p) (k + 1) (us.length * (W + 2) + 3) := by
  obtain ⟨ds, g1, g2⟩ := kt_all h
  have := g1.len
  exact ⟨_, .lst n e g1, by rw [this]; exact Sm.lst (SmAll.of g2)⟩
abbrev dA : V × Nat × Nat := (.non, 0, 4)
structure KT (N : List Addr) (H0 H : Hp) (A : List (V × Nat × Nat)) : Prop where
  same : Same H0 H
  al : ∀ b ∈ N, H0 b ≠ none
  kn : ∀ x ∈ A, Kt N H x.1 x.2.1 x.2.2
theorem KT.fresh {N : List Addr} {H0 H : Hp} {A : List (V × Nat × Nat)} {p : Addr} (k : KT N H0 H A) (np : H p = none) : p ∉ N := fun z => by
  have h := k.al p z
  cases e : H0 p with
  | none => exact h e
  | some o => rw [k.same p o e] at np; cases np
theorem KT.to {N : List Addr} {H0 H H' : Hp} {A : List (V × Nat × Nat)} (k : KT N H0 H A) (s : Same H H') : KT N H0 H' A := ⟨k.same.trans s, k.al, fun x hx => (k.kn x hx).same s⟩
theorem KT.items {N : List Addr} {H0 H : Hp} {A : List (V × Nat × Nat)} (kt : KT N H0 H A) (js : List Nat) {us : List V} {k W : Nat} (hu : us = js.map fun j => (A.getD j dA).1) (hb : (js.all fun j => Nat.ble (A.getD j dA).2.1 k && Nat.ble (A.getD j dA).2.2 W) = true) (w4 : 4 ≤ W) : ∀ u ∈ us, Kt N H u k W := fun u hm => by
  rw [hu] at hm
  obtain ⟨j, hj, rfl⟩ := List.mem_map.mp hm
  have h := List.all_eq_true.mp hb j hj
  rw [Bool.and_eq_true] at h
  by_cases l : j < A.length
  · have e : A.getD j dA = A[j] := by rw [List.getD_eq_getElem?_getD, List.getElem?_eq_getElem l]; rfl
    rw [e] at h ⊢
    exact (kt.kn _ (List.getElem_mem l)).le (Nat.le_of_ble_eq_true h.1) (Nat.le_of_ble_eq_true h.2)
  · have e : A.getD j dA = dA := by rw [List.getD_eq_getElem?_getD, List.getElem?_eq_none (by omega)]; rfl
    rw [e]
    exact Kt.non w4
theorem KT.newT {N : List Addr} {H0 H : Hp} {A : List (V × Nat × Nat)} {p : Addr} (kt : KT N H0 H A) (js : List Nat) {us : List V} (k W k2 W2 : Nat) (np : H p = none) (hu : us = js.map fun j => (A.getD j dA).1)
    (hb : (js.all fun j => Nat.ble (A.getD j dA).2.1 k && Nat.ble (A.getD j dA).2.2 W) = true) (hk : Nat.ble (k + 1) k2 = true) (hW : Nat.ble (js.length * (W + 2) + 3) W2 = true) (w4 : Nat.ble 4 W = true) : KT N H0 (upd H p (.tup us)) ((.ref p, k2, W2) :: A) := by
  have i1 := kt.items js hu hb (Nat.le_of_ble_eq_true w4)
  have s := same_new (o := .tup us) np
  have l : us.length = js.length := by rw [hu, List.length_map]
  refine ⟨kt.same.trans s, kt.al, fun x hx => ?_⟩
  rcases List.mem_cons.mp hx with rfl | hx
  · exact (Kt.tup (kt.fresh np) upd_same fun u hu' => (i1 u hu').same s).le (Nat.le_of_ble_eq_true hk) (by rw [l]; exact Nat.le_of_ble_eq_true hW)
  · exact (kt.kn x hx).same s
theorem KT.newL {N : List Addr} {H0 H : Hp} {A : List (V × Nat × Nat)} {p : Addr} (kt : KT N H0 H A) (js : List Nat) {us : List V} (k W k2 W2 : Nat) (np : H p = none) (hu : us = js.map fun j => (A.getD j dA).1)
    (hb : (js.all fun j => Nat.ble (A.getD j dA).2.1 k && Nat.ble (A.getD j dA).2.2 W) = true) (hk : Nat.ble (k + 1) k2 = true) (hW : Nat.ble (js.length * (W + 2) + 3) W2 = true) (w4 : Nat.ble 4 W = true) : KT N H0 (upd H p (.lst us)) ((.ref p, k2, W2) :: A) := by
  have i1 := kt.items js hu hb (Nat.le_of_ble_eq_true w4)
  have s := same_new (o := .lst us) np
  have l : us.length = js.length := by rw [hu, List.length_map]
  refine ⟨kt.same.trans s, kt.al, fun x hx => ?_⟩
  rcases List.mem_cons.mp hx with rfl | hx
  · exact (Kt.lst (kt.fresh np) upd_same fun u hu' => (i1 u hu').same s).le (Nat.le_of_ble_eq_true hk) (by rw [l]; exact Nat.le_of_ble_eq_true hW)
  · exact (kt.kn x hx).same s
theorem KT.add {N : List Addr} {H0 H : Hp} {A : List (V × Nat × Nat)} {v : V} {k W : Nat} (kt : KT N H0 H A) (h : Kt N H v k W) : KT N H0 H ((v, k, W) :: A) := ⟨kt.same, kt.al, fun x hx => (List.mem_cons.mp hx).elim (fun z => z ▸ h) (kt.kn x)⟩
theorem KT.nil {N : List Addr} {H : Hp} (al : ∀ b ∈ N, H b ≠ none) : KT N H H [] := ⟨fun _ _ e => e, al, fun x hx => absurd hx List.not_mem_nil⟩
/-- rows of things -/
def KtL (N : List Addr) (H : Hp) (us : List V) (k W : Nat) : Prop := ∀ u ∈ us, Kt N H u k W
theorem KtL.mono {N : List Addr} {H H' : Hp} {us : List V} {k W : Nat} (h : KtL N H us k W) (f : FrM N H H') : KtL N H' us k W := fun u hu => (h u hu).mono f
theorem KtL.app {N : List Addr} {H : Hp} {us vs : List V} {k W : Nat} (h : KtL N H us k W) (g : KtL N H vs k W) : KtL N H (us ++ vs) k W := fun u hu => (List.mem_append.mp hu).elim (h u) (g u)
theorem KtL.sub {N : List Addr} {H : Hp} {us vs : List V} {k W : Nat} (h : KtL N H us k W) (s : ∀ v ∈ vs, v ∈ us) : KtL N H vs k W := fun u hu => h u (s u hu)
/-- a tuple of things: slices and sums of tuples -/
def TpT (N : List Addr) (H0 HX : Hp) (m k W : Nat) (x : V) : Prop := ∃ c us, x = .ref c ∧ c ∉ N ∧ HX c = some (.tup us) ∧ us.length ≤ m ∧ KtL N HX us k W ∧ Same H0 HX
section
variable {K : PySem.W.Frag}
theorem catT {N : List Addr} {H0 HX : Hp} {a b : Addr} {xs ys : List V} {m l k W : Nat} (s0 : Same H0 HX) (al : ∀ b ∈ N, H0 b ≠ none) (na : a ∉ N) (nb : b ∉ N) (ha : HX a = some (.tup xs)) (hb : HX b = some (.tup ys)) (lx : xs.length ≤ m) (ly : ys.length ≤ l) (lm : m + l ≤ 10000) (kx : KtL N HX xs k W) (ky : KtL N HX ys k W) :
    rCatA K (.ref a) (.ref b) HX (fun x H' => TpT N H0 H' (m + l) k W x) := by
  refine ⟨a, b, xs, ys, rfl, rfl, SqT.of ha, SqT.of hb, sz (by omega), fun _ => ?_, fun _ _ => ?_, fun _ _ p np => ?_⟩
  · exact ⟨b, ys, rfl, nb, hb, by omega, ky, s0⟩
  · exact ⟨a, xs, rfl, na, ha, by omega, kx, s0⟩
  · have s := same_new (o := .tup (xs ++ ys)) np
    refine ⟨p, _, rfl, fun z => ?_, upd_same, by rw [List.length_append]; omega, (kx.app ky).mono (FrM.same s), s0.trans s⟩
    have h := al p z
    cases e : H0 p with
    | none => exact h e
    | some o => rw [s0 p o e] at np; cases np
theorem cutT {N : List Addr} {H0 HX : Hp} {a : Addr} {xs : List V} {m k W : Nat} {lo hi : Option Int} (s0 : Same H0 HX) (al : ∀ b ∈ N, H0 b ≠ none) (na : a ∉ N) (ha : HX a = some (.tup xs)) (lx : xs.length ≤ m) (kx : KtL N HX xs k W) :
    rSlA K (.ref a) lo hi HX (fun x H' => TpT N H0 H' m k W x) := by
  refine ⟨a, xs, rfl, SqT.of ha, fun _ => ?_, fun _ p np => ?_⟩
  · exact ⟨a, xs, rfl, na, ha, lx, kx, s0⟩
  · have s := same_new (o := .tup (cutV xs lo hi)) np
    have le := cutV_length xs lo hi
    refine ⟨p, _, rfl, fun z => ?_, upd_same, by omega, (kx.sub fun u hu => List.mem_of_mem_drop (List.mem_of_mem_take hu)).mono (FrM.same s), s0.trans s⟩
    have h := al p z
    cases e : H0 p with
    | none => exact h e
    | some o => rw [s0 p o e] at np; cases np
theorem TpT.kt {N : List Addr} {H0 HX : Hp} {m k W : Nat} {x : V} (h : TpT N H0 HX m k W x) : Kt N HX x (k + 1) (m * (W + 2) + 3) := by
  obtain ⟨c, us, rfl, n, e, l, kt, _⟩ := h
  refine (Kt.tup n e kt).le (Nat.le_refl _) ?_
  have := Nat.mul_le_mul_right (W + 2) l
  omega
end
end My

set_option Elab.async false
set_option linter.all false
set_option maxRecDepth 100000
set_option maxHeartbeats 2000000
namespace My
open PySem PySem.Spec PyProof.Rows L2 GxR
/-- a list of things -/
def LsO (N : List Addr) (H0 HX : Hp) (m k W : Nat) (x : V) : Prop := ∃ S us, x = .ref S ∧ S ∉ N ∧ HX S = some (.lst us) ∧ us.length = m ∧ KtL N HX us k W ∧ Same H0 HX ∧ H0 S = none
theorem LsO.of {N : List Addr} {H0 H HX : Hp} {A : List (V × Nat × Nat)} {S : Addr} {us : List V} {k W : Nat} (kt : KT N H0 H A) (nS : H S = none) (items : ∀ u ∈ us, Kt N H u k W) (eX : HX = upd H S (.lst us)) : LsO N H0 HX us.length k W (.ref S) := by
  subst eX
  have s := same_new (o := .lst us) nS
  refine ⟨S, us, rfl, kt.fresh nS, upd_same, rfl, (show KtL N H us k W from items).mono (FrM.same s), kt.same.trans s, ?_⟩
  exact same_free kt.same nS
section
variable {K : PySem.W.Frag}
theorem LsO.cat {N : List Addr} {H0 H1 HX : Hp} {A : List (V × Nat × Nat)} {S D : Addr} {zs : List V} {m k W : Nat} (h : LsO N H0 H1 m k W (.ref S)) (kt : KT N H1 HX A) (eD : HX D = some (.lst zs)) (items : KtL N HX zs k W) (hm : m + zs.length < 10000) {l : Nat} (hl : zs.length = l) :
    rCat (.ref S) (.ref D) HX (fun x H' => LsO N H0 H' (m + l) k W x) := by
  obtain ⟨S', us, e, nS, eS, ul, kU, s01, nS0⟩ := h
  cases e
  refine ⟨S, D, us, zs, rfl, rfl, kt.same _ _ eS, eD, sz (by omega), fun p np => ?_⟩
  have s := same_new (o := .lst (us ++ zs)) np
  refine ⟨p, us ++ zs, rfl, kt.fresh np, upd_same, by rw [List.length_append]; omega, ((kU.mono (FrM.same kt.same)).app items).mono (FrM.same s), (s01.trans kt.same).trans s, same_free (s01.trans kt.same) np⟩
theorem LsO.pick {N : List Addr} {H0 HX : Hp} {m k W : Nat} {x : V} (h : LsO N H0 HX m k W x) : ∃ S us, x = .ref S ∧ HX S = some (.lst us) ∧ us.length = m ∧ S ∉ N ∧ Same H0 HX ∧ ∀ t : Int, 0 ≤ t → t < (m : Int) → ∃ y, atI us t = some y ∧ Kt N HX y k W := by
  obtain ⟨S, us, rfl, nS, eS, ul, kU, s01, _⟩ := h
  refine ⟨S, us, rfl, eS, ul, nS, s01, fun t t0 t1 => ?_⟩
  obtain ⟨j, rfl⟩ : ∃ j : Nat, t = (j : Int) := ⟨t.toNat, by omega⟩
  have hj : j < us.length := by omega
  exact ⟨_, atI_nat (List.getElem?_eq_getElem hj), kU _ (List.getElem_mem hj)⟩
end
theorem kt_tie {N : List Addr} {H : Hp} {v : V} {t : Ar} (h : Tie H v t) (n : ∀ p ∈ N, ∀ xs, H p ≠ some (.tup xs)) (h1 : -20 ≤ t.1) (h2 : t.1 < 300) (h3 : -20 ≤ t.2) (h4 : t.2 < 300) : Kt N H v 1 13 := ⟨_, da_tie h n, Sm.tie (Nat.le_refl _) h1 h2 h3 h4⟩
theorem ktL_ties {N : List Addr} {H : Hp} (n : ∀ p ∈ N, ∀ xs, H p ≠ some (.tup xs)) : ∀ {vs : List V} {ts : List Ar}, Ties H vs ts → (∀ t ∈ ts, -20 ≤ t.1 ∧ t.1 < 300 ∧ -20 ≤ t.2 ∧ t.2 < 300) → KtL N H vs 1 13
  | [], [], _, _ => fun u hu => absurd hu List.not_mem_nil
  | v :: vs, t :: ts, h, r => fun u hu => by
    rcases List.mem_cons.mp hu with rfl | hu
    · obtain ⟨a, b, c, d⟩ := r t List.mem_cons_self
      exact kt_tie h.1 n a b c d
    · exact ktL_ties n h.2 (fun x hx => r x (List.mem_cons_of_mem _ hx)) u hu
  | [], _ :: _, h, _ => h.elim
  | _ :: _, [], h, _ => h.elim
theorem str_ints : ∀ k : Nat, k < 40 → (PyData.str ((toString ((k : Nat) : Int) : String) : Str)).canLay0 = true ∧ (reprText ((toString ((k : Nat) : Int) : String) : Str)).length ≤ 6 := by decide +kernel
theorem Kt.strI {N : List Addr} {H : Hp} {k W : Nat} {i : Int} (w : 6 ≤ W) (h0 : 0 ≤ i) (h1 : i < 40) : Kt N H (.str (toString i)) k W := by
  have := str_ints i.toNat (by omega)
  rw [show ((i.toNat : Nat) : Int) = i by omega] at this
  exact Kt.str this.1 (Nat.le_trans this.2 w)
theorem lf_noTup {H : Hp} {L : Addr} {c : Int} (h : Lf H L c) : ∀ p ∈ [L], ∀ xs, H p ≠ some (.tup xs) := fun p hp xs z => by
  obtain ⟨_, _, _, e, _⟩ := h
  rw [List.mem_singleton.mp hp, e] at z; cases z
theorem noTup_fr {N : List Addr} {L : Addr} {H H' : Hp} {c : Int} (n : ∀ p ∈ N, ∀ xs, H p ≠ some (.tup xs)) (al : ∀ p ∈ N, H p ≠ none) (f : Fr L H H') (lf : Lf H' L c) : ∀ p ∈ N, ∀ xs, H' p ≠ some (.tup xs) := fun p hp xs z => by
  by_cases hpL : p = L
  · obtain ⟨_, _, _, e, _⟩ := lf
    rw [hpL, e] at z; cases z
  · cases e : H p with
    | none => exact al p hp e
    | some o =>
      rw [f p o hpL e] at z
      cases z
      exact n p hp xs e
end My

set_option Elab.async false
set_option linter.all false
set_option maxRecDepth 100000
set_option maxHeartbeats 2000000
namespace My
open PySem PySem.Spec PyProof.Rows L2 GxR
/-! ### lists of things: slices and sums -/
def LtT (N : List Addr) (H0 HX : Hp) (m k W : Nat) (x : V) : Prop := ∃ c us, x = .ref c ∧ c ∉ N ∧ HX c = some (.lst us) ∧ us.length ≤ m ∧ KtL N HX us k W ∧ Same H0 HX
theorem LtT.same {N : List Addr} {H0 HX : Hp} {m k W : Nat} {x : V} (h : LtT N H0 HX m k W x) : Same H0 HX := h.choose_spec.choose_spec.2.2.2.2.2
theorem TpT.same {N : List Addr} {H0 HX : Hp} {m k W : Nat} {x : V} (h : TpT N H0 HX m k W x) : Same H0 HX := h.choose_spec.choose_spec.2.2.2.2.2
theorem LtT.kt {N : List Addr} {H0 HX : Hp} {m k W : Nat} {x : V} (h : LtT N H0 HX m k W x) : Kt N HX x (k + 1) (m * (W + 2) + 3) := by
  obtain ⟨c, us, rfl, n, e, l, kt, _⟩ := h
  refine (Kt.lst n e kt).le (Nat.le_refl _) ?_
  have := Nat.mul_le_mul_right (W + 2) l
  omega
theorem LtT.le {N : List Addr} {H0 HX : Hp} {m m' k W : Nat} {x : V} (h : LtT N H0 HX m k W x) (l : m ≤ m') : LtT N H0 HX m' k W x := by
  obtain ⟨c, us, e1, e2, e3, e4, e5, e6⟩ := h
  exact ⟨c, us, e1, e2, e3, by omega, e5, e6⟩
theorem TpT.le {N : List Addr} {H0 HX : Hp} {m m' k W : Nat} {x : V} (h : TpT N H0 HX m k W x) (l : m ≤ m') : TpT N H0 HX m' k W x := by
  obtain ⟨c, us, e1, e2, e3, e4, e5, e6⟩ := h
  exact ⟨c, us, e1, e2, e3, by omega, e5, e6⟩
theorem freshS {N : List Addr} {H0 HX : Hp} {p : Addr} (al : ∀ b ∈ N, H0 b ≠ none) (s : Same H0 HX) (np : HX p = none) : p ∉ N := fun z => by
  cases e : H0 p with
  | none => exact al p z e
  | some o => rw [s p o e] at np; cases np
section
variable {K : PySem.W.Frag}
theorem cutL {N : List Addr} {H0 HX : Hp} {a : Addr} {xs : List V} {m k W : Nat} {lo hi : Option Int} (s0 : Same H0 HX) (al : ∀ b ∈ N, H0 b ≠ none) (ha : HX a = some (.lst xs)) (lx : xs.length ≤ m) (kx : KtL N HX xs k W) :
    rSlL K (.ref a) lo hi HX (fun x H' => LtT N H0 H' m k W x) := by
  refine ⟨a, xs, rfl, SqL.of ha, fun p np => ?_⟩
  have s := same_new (o := .lst (cutV xs lo hi)) np
  have le := cutV_length xs lo hi
  exact ⟨p, _, rfl, freshS al s0 np, upd_same, by omega, (kx.sub fun u hu => List.mem_of_mem_drop (List.mem_of_mem_take hu)).mono (FrM.same s), s0.trans s⟩
theorem cutL' {N : List Addr} {H0 HX : Hp} {a : Addr} {xs : List V} {m k W : Nat} {lo hi : Option Int} (s0 : Same H0 HX) (al : ∀ b ∈ N, H0 b ≠ none) (ha : HX a = some (.lst xs)) (lx : (cutV xs lo hi).length ≤ m) (kx : KtL N HX xs k W) :
    rSlL K (.ref a) lo hi HX (fun x H' => LtT N H0 H' m k W x) := by
  refine ⟨a, xs, rfl, SqL.of ha, fun p np => ?_⟩
  have s := same_new (o := .lst (cutV xs lo hi)) np
  exact ⟨p, _, rfl, freshS al s0 np, upd_same, lx, (kx.sub fun u hu => List.mem_of_mem_drop (List.mem_of_mem_take hu)).mono (FrM.same s), s0.trans s⟩
theorem catL {N : List Addr} {H0 HX : Hp} {a b : Addr} {xs ys : List V} {m l k W : Nat} (s0 : Same H0 HX) (al : ∀ b ∈ N, H0 b ≠ none) (ha : HX a = some (.lst xs)) (hb : HX b = some (.lst ys)) (lx : xs.length ≤ m) (ly : ys.length ≤ l) (lm : m + l ≤ 10000) (kx : KtL N HX xs k W) (ky : KtL N HX ys k W) :
    rCat (.ref a) (.ref b) HX (fun x H' => LtT N H0 H' (m + l) k W x) := by
  refine ⟨a, b, xs, ys, rfl, rfl, ha, hb, sz (by omega), fun p np => ?_⟩
  have s := same_new (o := .lst (xs ++ ys)) np
  exact ⟨p, _, rfl, freshS al s0 np, upd_same, by rw [List.length_append]; omega, (kx.app ky).mono (FrM.same s), s0.trans s⟩
end
end My

set_option Elab.async false
set_option linter.all false
set_option maxRecDepth 100000
set_option maxHeartbeats 4000000
set_option pp.maxSteps 900
namespace My
open PySem PySem.Spec PyProof.Rows L2 GxR
def anyC : Nat → Int
  | 0 => 2
  | m + 1 => 4 + 3 * anyC m
def anyW : Nat → Nat
  | 0 => 20
  | m + 1 => 3 * (anyW m + 2) + 3
theorem anyC_nn : ∀ m, 0 ≤ anyC m
  | 0 => by decide
  | m + 1 => by
    have := anyC_nn m
    show 0 ≤ 4 + 3 * anyC m
    omega
theorem anyC_2 : ∀ m, 2 ≤ anyC m
  | 0 => by decide
  | m + 1 => by
    have := anyC_nn m
    show 2 ≤ 4 + 3 * anyC m
    omega
theorem anyW_20 : ∀ m, 20 ≤ anyW m
  | 0 => by decide
  | m + 1 => by
    have := anyW_20 m
    show 20 ≤ 3 * (anyW m + 2) + 3
    omega
/-- all stays but the draws -/
theorem fr_M {N : List Addr} {L : Addr} {H H' : Hp} (f : Fr L H H') (n : L ∈ N) : FrM N H H' := fun b o nb e => f b o (fun z => nb (z ▸ n)) e
theorem al_same {N : List Addr} {H H' : Hp} (al : ∀ b ∈ N, H b ≠ none) (s : Same H H') : ∀ b ∈ N, H' b ≠ none := fun b hb z => by
  cases e : H b with
  | none => exact al b hb e
  | some o => rw [s b o e] at z; cases z
theorem al_fr {N : List Addr} {L : Addr} {H H' : Hp} {c : Int} (al : ∀ b ∈ N, H b ≠ none) (s : Fr L H H') (lf : Lf H' L c) : ∀ b ∈ N, H' b ≠ none := fun b hb z => by
  by_cases hbL : b = L
  · obtain ⟨_, _, _, e, _⟩ := lf
    rw [hbL, e] at z; cases z
  · cases e : H b with
    | none => exact al b hb e
    | some o => rw [s b o hbL e] at z; cases z
section
variable {P : Program} {w : World} {K : PySem.W.Frag} {mg : Str → Option Value} {base : Heap}
/-! ### _law_any -/
abbrev s__law_any : Stmt := topS 26
abbrev N__law_any : List Str := ["_law_left_here", "_law_deep_here", "_law_some", "_law_parts", "_law_k"]
theorem sc__law_any : FnScope N__law_any ["_law_left_here", "_law_deep_here"] (defScope s__law_any) := ⟨rfl, rfl, rfl, by decide +kernel, rfl, by decide +kernel, by decide +kernel⟩
def sp_any : Nat → Sp
  | 0 => fun _ _ _ _ => False
  | m + 1 => fun vs H Q _ => ∃ (L : Addr) (c : Int) (N : List Addr), vs = [.ref L, .int (m : Int)] ∧ Lf H L c ∧ L ∈ N ∧ (∀ b ∈ N, H b ≠ none) ∧ c + anyC m < 2 ^ 50 ∧
    ∀ v H', Fr L H H' → Lf H' L (c + anyC m) → Kt N H' v (2 + m) (anyW m) → Q v H'
theorem ok_any1 {f : Addr} {fd : FuncData} {m : Nat} (B : Bts mg) (F : Fun K "_law_any" "_law_any" s__law_any f fd) (c__law_pick : Cl P w K mg base 2 "_law_pick" sp_pick) (c__law_any : Cl P w K mg base (m + 2) "_law_any" (sp_any m)) :
    FnOk P w K mg base CX0 (m + 3) f fd ["_law_left_here", "_law_deep_here"] (sp_any (m + 1)) := by
  refine F.ok sc__law_any (fun vs H Q E h => ?_) (fun cdv A outer s H vs Q E hr h => ?_)
  · obtain ⟨L, c, N, rfl, _⟩ := h; rfl
  · obtain ⟨L, c, N, rfl, lf, hN, al, hc, q⟩ := h
    refine ⟨_, (pss_cons (ps_set (i := 2) sc__law_any.nd rfl (by first | exact Or.inl rfl | exact Or.inr rfl) (pe_lst (pa_cons pe_non (pa_cons pe_bl (pa_cons pe_bl (pa_cons pe_int (pa_cons pe_int (pa_cons (pe_un un_neg pe_int) (pa_cons pe_int (pa_cons pe_int (pa_cons pe_str (pa_cons pe_str (pa_cons pe_str (pa_cons (pe_tup pa_nil) (pa_cons (pe_lst pa_nil) (pa_cons (pe_tup (pa_cons pe_int (pa_cons pe_int pa_nil))) (pa_cons (pe_lst (pa_cons pe_int (pa_cons pe_int pa_nil))) (pa_cons (pe_tup (pa_cons pe_int (pa_cons pe_int pa_nil))) (pa_cons (pe_tup (pa_cons (pe_tup (pa_cons pe_int (pa_cons pe_int pa_nil))) pa_nil)) (pa_cons (pe_lst (pa_cons (pe_tup (pa_cons pe_int (pa_cons pe_int pa_nil))) pa_nil)) pa_nil))))))))))))))))))))
    (pss_cons (ps_if (PW.pt (pw_or (pt_cmpR op_eq (pv 1) pe_int (nomark _)) (pw_or1 (pt_cmpR op_eq (pe_c c__law_pick hr (by omega) (by rfl) (pa_cons (pv 0) (pa_cons pe_int pa_nil))) pe_int (nomark _))))) (pss_one (ps_ret (pe_ix ix_list (pv 2) (pe_c c__law_pick hr (by omega) (by rfl) (pa_cons (pv 0) (pa_cons pe_int pa_nil))) (fun _ _ => rfl)))) pss_nil)
    (pss_cons (ps_setLc (i := 3) (own := [("_law_k", 4)]) (g := (gName 4)) (tt := tYes) rfl sc__law_any.nd rfl rfl (sw_true rfl rfl rfl (by decide +kernel)) (pi_range1 (by rfl) B.range (pa_cons (pe_c c__law_pick hr (by omega) (by rfl) (pa_cons (pv 0) (pa_cons pe_int pa_nil))) pa_nil)) (blkOk_by (own := [("_law_k", 4)]) (N := N__law_any) (sc := defScope s__law_any) (by decide +kernel)) (fun _ _ _ _ _ => (pg_name (i := 4) sc__law_any.nd rfl (by first | exact Or.inl rfl | exact Or.inr rfl))) (fun _ _ _ _ _ => pts_nil) (fun _ _ _ _ _ => (pe_c c__law_any hr (Nat.le_refl _) (by rfl) (pa_cons (pv 0) (pa_cons (pe_op op_sub (pv 1) pe_int) pa_nil)))))
    (pss_one (ps_ret (pe_ix ix_list (pe_lst (pa_cons (pv 3) (pa_cons (pe_callTy call_tuple_of (by rfl) B.tuple (by decide +kernel) (pa_cons (pv 3) pa_nil)) pa_nil))) (pe_c c__law_pick hr (by omega) (by rfl) (pa_cons (pv 0) (pa_cons pe_int pa_nil))) (fun _ _ => rfl))))))), ?_⟩
    have o0 := anyC_nn m
    have o2 := anyC_2 m
    have w20 := anyW_20 m
    have kt1 : KT _ H H [(.non, 0, 4), (.bl true, 0, 5), (.bl false, 0, 5), (.int 0, 0, 3), (.int 1, 0, 3), (.int (-1), 0, 3), (.int 2, 0, 3), (.int 12, 0, 3), (.str "", 0, 4), (.str "0", 0, 4), (.str "ab", 0, 4)] := (KT.add (KT.add (KT.add (KT.add (KT.add (KT.add (KT.add (KT.add (KT.add (KT.add (KT.add (KT.nil al) (Kt.str (by decide +kernel) (by decide +kernel))) (Kt.str (by decide +kernel) (by decide +kernel))) (Kt.str (by decide +kernel) (by decide +kernel))) (Kt.int (by decide) (by decide) (by decide))) (Kt.int (by decide) (by decide) (by decide))) (Kt.int (by decide) (by decide) (by decide))) (Kt.int (by decide) (by decide) (by decide))) (Kt.int (by decide) (by decide) (by decide))) (Kt.bl (by decide))) (Kt.bl (by decide))) (Kt.non (by decide)))
    refine ⟨_, rfl, Nat.zero_le _, fun a2 na2 => ?_⟩
    have kt2 := KT.newT kt1 [] 0 4 1 3 (us := []) na2 rfl rfl rfl rfl rfl
    have ea2 := upd_same (H := H) (a := a2) (o := HO.tup [])
    have s2 := same_new (o := HO.tup []) na2
    generalize upd H a2 _ = H2 at kt2 ea2 s2 ⊢
    refine ⟨ Nat.zero_le _, fun a3 na3 => ?_⟩
    have kt3 := KT.newL kt2 [] 0 4 1 3 (us := []) na3 rfl rfl rfl rfl rfl
    have ea3 := upd_same (H := H2) (a := a3) (o := HO.lst [])
    have s3 := same_new (o := HO.lst []) na3
    generalize upd H2 a3 _ = H3 at kt3 ea3 s3 ⊢
    refine ⟨ (by show 2 ≤ sizeLine; decide), fun a4 na4 => ?_⟩
    have kt4 := KT.newT kt3 [5, 6] 0 4 1 15 (us := [.int 0, .int 1]) na4 rfl rfl rfl rfl rfl
    have ea4 := upd_same (H := H3) (a := a4) (o := HO.tup [.int 0, .int 1])
    have s4 := same_new (o := HO.tup [.int 0, .int 1]) na4
    generalize upd H3 a4 _ = H4 at kt4 ea4 s4 ⊢
    refine ⟨ (by show 2 ≤ sizeLine; decide), fun a5 na5 => ?_⟩
    have kt5 := KT.newL kt4 [6, 7] 0 4 1 15 (us := [.int 0, .int 1]) na5 rfl rfl rfl rfl rfl
    have ea5 := upd_same (H := H4) (a := a5) (o := HO.lst [.int 0, .int 1])
    have s5 := same_new (o := HO.lst [.int 0, .int 1]) na5
    generalize upd H4 a5 _ = H5 at kt5 ea5 s5 ⊢
    refine ⟨ (by show 2 ≤ sizeLine; decide), fun a6 na6 => ?_⟩
    have kt6 := KT.newT kt5 [8, 7] 0 4 1 15 (us := [.int 1, .int 0]) na6 rfl rfl rfl rfl rfl
    have ea6 := upd_same (H := H5) (a := a6) (o := HO.tup [.int 1, .int 0])
    have s6 := same_new (o := HO.tup [.int 1, .int 0]) na6
    generalize upd H5 a6 _ = H6 at kt6 ea6 s6 ⊢
    refine ⟨ (by show 2 ≤ sizeLine; decide), fun a7 na7 => ?_⟩
    have kt7 := KT.newT kt6 [8, 9] 0 4 1 15 (us := [.int 0, .int 1]) na7 rfl rfl rfl rfl rfl
    have ea7 := upd_same (H := H6) (a := a7) (o := HO.tup [.int 0, .int 1])
    have s7 := same_new (o := HO.tup [.int 0, .int 1]) na7
    generalize upd H6 a7 _ = H7 at kt7 ea7 s7 ⊢
    refine ⟨ (by show 1 ≤ sizeLine; decide), fun a8 na8 => ?_⟩
    have kt8 := KT.newT kt7 [0] 1 15 2 20 (us := [.ref a7]) na8 rfl rfl rfl rfl rfl
    have ea8 := upd_same (H := H7) (a := a8) (o := HO.tup [.ref a7])
    have s8 := same_new (o := HO.tup [.ref a7]) na8
    generalize upd H7 a8 _ = H8 at kt8 ea8 s8 ⊢
    refine ⟨ (by show 2 ≤ sizeLine; decide), fun a9 na9 => ?_⟩
    have kt9 := KT.newT kt8 [10, 11] 0 4 1 15 (us := [.int 0, .int 1]) na9 rfl rfl rfl rfl rfl
    have ea9 := upd_same (H := H8) (a := a9) (o := HO.tup [.int 0, .int 1])
    have s9 := same_new (o := HO.tup [.int 0, .int 1]) na9
    generalize upd H8 a9 _ = H9 at kt9 ea9 s9 ⊢
    refine ⟨ (by show 1 ≤ sizeLine; decide), fun a10 na10 => ?_⟩
    have kt10 := KT.newL kt9 [0] 1 15 2 20 (us := [.ref a9]) na10 rfl rfl rfl rfl rfl
    have ea10 := upd_same (H := H9) (a := a10) (o := HO.lst [.ref a9])
    have s10 := same_new (o := HO.lst [.ref a9]) na10
    generalize upd H9 a10 _ = H10 at kt10 ea10 s10 ⊢
    have items := KT.items kt10 [9, 10, 11, 12, 13, 14, 15, 16, 17, 18, 19, 8, 7, 6, 5, 4, 2, 0] (us := [.non, .bl true, .bl false, .int 0, .int 1, .int (-1), .int 2, .int 12, .str "", .str "0", .str "ab", .ref a2, .ref a3, .ref a4, .ref a5, .ref a6, .ref a8, .ref a10]) (k := 2) (W := 20) rfl rfl (by decide)
    refine ⟨by show 18 ≤ sizeLine; decide, fun S nS => ?_⟩
    have sS := (kt10.to (same_new (o := .lst [.non, .bl true, .bl false, .int 0, .int 1, .int (-1), .int 2, .int 12, .str "", .str "0", .str "ab", .ref a2, .ref a3, .ref a4, .ref a5, .ref a6, .ref a8, .ref a10]) nS)).same
    have items2 : KtL N _ _ 2 20 := (show KtL N _ _ 2 20 from items).mono (FrM.same (same_new (o := .lst [.non, .bl true, .bl false, .int 0, .int 1, .int (-1), .int 2, .int 12, .str "", .str "0", .str "ab", .ref a2, .ref a3, .ref a4, .ref a5, .ref a6, .ref a8, .ref a10]) nS))
    have eS := upd_same (H := H10) (a := S) (o := HO.lst [.non, .bl true, .bl false, .int 0, .int 1, .int (-1), .int 2, .int 12, .str "", .str "0", .str "ab", .ref a2, .ref a3, .ref a4, .ref a5, .ref a6, .ref a8, .ref a10])
    have il : ([.non, .bl true, .bl false, .int 0, .int 1, .int (-1), .int 2, .int 12, .str "", .str "0", .str "ab", .ref a2, .ref a3, .ref a4, .ref a5, .ref a6, .ref a8, .ref a10] : List V).length = 18 := rfl
    have SL : S ≠ L := (lf.same kt10.same).ne nS
    generalize ([.non, .bl true, .bl false, .int 0, .int 1, .int (-1), .int 2, .int 12, .str "", .str "0", .str "ab", .ref a2, .ref a3, .ref a4, .ref a5, .ref a6, .ref a8, .ref a10] : List V) = zs at sS items2 eS il ⊢
    generalize upd H10 S (.lst zs) = HS at sS items2 eS ⊢
    have lfS := lf.same sS
    have alS := al_same al sS
    have pickS : ∀ {HX : Hp} {c' : Int} (t : Int), Fr L HS HX → Lf HX L c' → 0 ≤ t → t < 18 → c' ≤ c + 2 → ∃ x, atI zs t = some x ∧ Q x HX := fun {HX c'} t f l t0 t1 hc' => by
      obtain ⟨j, rfl⟩ : ∃ j : Nat, t = (j : Int) := ⟨t.toNat, by omega⟩
      have hj : j < zs.length := by omega
      have fN := fr_M f hN
      exact ⟨_, atI_nat (List.getElem?_eq_getElem hj), q _ _ ((Fr.of sS).trans f) (l.mono (by omega)) (((items2 _ (List.getElem_mem hj)).mono fN).le (by omega) w20)⟩
    refine ⟨_, rfl, rfl, _, rfl, ?_⟩
    by_cases m0 : m = 0
    · rw [show decide (V.int (m : Int) = V.int 0) = true from decide_eq_true (by rw [m0]; rfl)]
      refine iteT ?_
      refine ⟨_, rfl, _, rfl, L, _, _, rfl, lfS, by decide, by decide, by omega, fun r HX r0 r1 fr lfX => ?_⟩
      obtain ⟨x, hx, qx⟩ := pickS r fr lfX r0 r1 (by omega)
      exact ⟨S, _, _, x, rfl, rfl, SqL.of (fr _ _ SL eS), hx, qx⟩
    rw [show decide (V.int (m : Int) = V.int 0) = false from decide_eq_false (fun z => m0 (by have := V.int.inj z; omega))]
    refine iteF ?_
    refine ⟨_, rfl, L, _, _, rfl, lfS, by decide, by decide, by omega, fun r HX r0 r1 fr lfX => ⟨rfl, _, rfl, ?_⟩⟩
    by_cases h0 : r = 0
    · rw [show decide (V.int r = V.int 0) = true from decide_eq_true (by rw [h0])]
      refine iteT ?_
      refine ⟨_, rfl, _, rfl, L, _, _, rfl, lfX, by decide, by decide, by omega, fun r' HY r0 r1 fr' lfY => ?_⟩
      obtain ⟨x, hx, qx⟩ := pickS r' (fr.trans fr') lfY r0 r1 (by omega)
      exact ⟨S, _, _, x, rfl, rfl, SqL.of ((fr.trans fr') _ _ SL eS), hx, qx⟩
    rw [show decide (V.int r = V.int 0) = false from decide_eq_false (fun z => h0 (V.int.inj z))]
    refine iteF ?_
    clear pickS
    obtain ⟨m, rfl⟩ : ∃ k, m = k + 1 := ⟨m - 1, by omega⟩
    have oc : anyC (m + 1) = 4 + 3 * anyC m := rfl
    have o0' := anyC_nn m
    refine ⟨_, rfl, L, _, _, rfl, lfX, by decide, by decide, by omega, fun g HG g0 g1 frG lfG => ?_⟩
    have frH : Fr L H HG := (Fr.of sS).trans (fr.trans frG)
    have alG := al_fr al frH lfG
    obtain ⟨n, rfl⟩ : ∃ n : Nat, g = (n : Int) := ⟨g.toNat, by omega⟩
    have tn : ((n : Int)).toNat = n := Int.toNat_natCast n
    refine ⟨(n : Int), rfl, by omega, by omega, fun D nD => ?_⟩
    have DL : D ≠ L := lfG.ne nD
    have sD := same_new (o := .lst []) nD
    have nDN : D ∉ N := fun z => alG D z nD
    refine wk (walk_range (lo := 0)) (fun k HM => ∃ us, Fr L HG HM ∧ Lf HM L (c + 2 + k * anyC m) ∧ HM D = some (.lst us) ∧ us.length = k ∧ KtL (D :: N) HM us (2 + m) (anyW m)) ⟨[], Fr.of sD, (lfG.same sD).mono (by rw [Int.natCast_zero, Int.zero_mul]; omega), upd_same, rfl, fun u hu => absurd hu List.not_mem_nil⟩ (fun _ _ _ _ => trivial) ?_ ?_
    · rintro k x HM0 HM hk ⟨us, frM, lfM, eD, ul, kU⟩ ⟨rfl, hx⟩
      rw [tn] at hk
      refine ⟨rfl, yes ?_⟩
      have kk : (k : Int) * anyC m ≤ 2 * anyC m := Int.mul_le_mul_of_nonneg_right (by omega) o0'
      have alM : ∀ b ∈ D :: N, HM b ≠ none := fun b hb => by
        rcases List.mem_cons.mp hb with rfl | hb
        · rw [eD]; exact fun z => by cases z
        · exact al_fr alG frM lfM b hb
      refine ⟨_, rfl, _, rfl, _, _, rfl, rfl, L, _, D :: N, by show [V.ref L, V.int (((m + 1 : Nat) : Int) - 1)] = _; rw [show ((m + 1 : Nat) : Int) - 1 = (m : Int) by omega], lfM, List.mem_cons_of_mem _ hN, alM, by omega, fun v HY frY lfY kY => ?_⟩
      have eDY := frY _ _ DL eD
      have frN : FrM (D :: N) HM HY := fr_M frY (List.mem_cons_of_mem _ hN)
      refine ⟨us, eDY, sz' (by omega), us ++ [v], (frM.trans frY).put (Lf.free (Fr.refl _ _) lfG nD), (lfY.put DL).mono ?_, upd_same, by rw [List.length_append, ul]; rfl, ?_⟩
      · rw [Int.natCast_succ, Int.add_mul, Int.one_mul]
        omega
      · have fp : FrM (D :: N) HY (upd HY D (.lst (us ++ [v]))) := fun b o nb e => by
          rw [upd_ne (fun z => nb (by rw [z]; exact List.mem_cons_self))]; exact e
        exact ((kU.mono frN).app fun u hu => by rw [List.mem_singleton.mp hu]; exact kY).mono fp
    · rintro H5 ⟨us, fr5, lf5, eD, ul, kU⟩
      rw [tn] at ul lf5
      have nn : (n : Int) * anyC m ≤ 3 * anyC m := Int.mul_le_mul_of_nonneg_right (by omega) o0'
      have kU' : KtL N H5 us (2 + m) (anyW m) := fun u hu => (kU u hu).fewer fun x hx => List.mem_cons_of_mem _ hx
      refine ⟨_, rfl, _, rfl, D, us, rfl, .inl ⟨SqL.of eD, fun t nt => ?_⟩⟩
      have st := same_new (o := .tup us) nt
      refine ⟨by show 2 ≤ sizeLine; decide, fun p np => ?_⟩
      have sp := same_new (o := .lst [.ref D, .ref t]) np
      have s57 := st.trans sp
      have ep := upd_same (H := upd H5 t (.tup us)) (a := p) (o := HO.lst [.ref D, .ref t])
      have et := sp _ _ (upd_same (H := H5) (a := t) (o := HO.tup us))
      have al5 := al_fr alG fr5 lf5
      have ntN : t ∉ N := fun z => al5 t z nt
      have pL : p ≠ L := fun z => by
        obtain ⟨_, _, _, e, _⟩ := lf5.same st
        rw [z, e] at np
        cases np
      generalize upd (upd H5 t (.tup us)) p (.lst [.ref D, .ref t]) = H7 at s57 ep et ⊢
      have wle : us.length * (anyW m + 2) + 3 ≤ anyW (m + 1) := by
        show _ ≤ 3 * (anyW m + 2) + 3
        have := Nat.mul_le_mul_right (anyW m + 2) (show us.length ≤ 3 by omega)
        omega
      have kU7 := kU'.mono (FrM.same s57)
      have kD : Kt N H7 (.ref D) (2 + (m + 1)) (anyW (m + 1)) := (Kt.lst nDN (s57 _ _ eD) kU7).le (by omega) wle
      have kt : Kt N H7 (.ref t) (2 + (m + 1)) (anyW (m + 1)) := (Kt.tup ntN et kU7).le (by omega) wle
      have lf7 := lf5.same s57
      refine ⟨_, rfl, L, _, _, rfl, lf7, by decide, by decide, by omega, fun g2 H8 g20 g21 fr8 lf8 => ?_⟩
      have e8 := fr8 _ _ pL ep
      have f8 := fr_M fr8 hN
      have frA := (frH.trans fr5).trans ((Fr.of s57).trans fr8)
      have lfA : Lf H8 L (c + anyC (m + 1)) := lf8.mono (by omega)
      have : g2 = 0 ∨ g2 = 1 := by omega
      rcases this with rfl | rfl
      · exact ⟨p, _, 0, .ref D, rfl, rfl, SqL.of e8, rfl, q _ _ frA lfA (kD.mono f8)⟩
      · exact ⟨p, _, 1, .ref t, rfl, rfl, SqL.of e8, rfl, q _ _ frA lfA (kt.mono f8)⟩
theorem ok_any {f : Addr} {fd : FuncData} (B : Bts mg) (F : Fun K "_law_any" "_law_any" s__law_any f fd) (c__law_pick : Cl P w K mg base 2 "_law_pick" sp_pick) (hm : mg "_law_any" = some (.ref f)) (hb : Binds K fd ["_law_left_here", "_law_deep_here"] []) :
    ∀ m, FnOk P w K mg base CX0 (m + 2) f fd ["_law_left_here", "_law_deep_here"] (sp_any m)
  | 0 => ⟨fun vs H Q E h => h.elim, fun _ _ _ _ _ _ _ _ _ _ _ _ _ h => h.elim⟩
  | m + 1 => ok_any1 B F c__law_pick (Cl.mk' F hm hb (ok_any B F c__law_pick hm hb m))
/-! ### _law_deep -/
abbrev s__law_deep : Stmt := topS 27
abbrev N__law_deep : List Str := ["_law_left_here", "_law_thing", "_law_turn"]
theorem sc__law_deep : FnScope N__law_deep ["_law_left_here"] (defScope s__law_deep) := ⟨rfl, rfl, rfl, by decide +kernel, rfl, by decide +kernel, by decide +kernel⟩
def sp_deep : Sp := fun vs H Q _ => ∃ (L : Addr) (c : Int) (N : List Addr), vs = [.ref L] ∧ Lf H L c ∧ L ∈ N ∧ (∀ b ∈ N, H b ≠ none) ∧ c < 2 ^ 49 ∧
    ∀ v H', Fr L H H' → Lf H' L (c + 2) → Kt N H' v 20 200 → Q v H'
theorem ok_deep {f : Addr} {fd : FuncData} (B : Bts mg) (F : Fun K "_law_deep" "_law_deep" s__law_deep f fd) (c__law_pick : Cl P w K mg base 2 "_law_pick" sp_pick) :
    FnOk P w K mg base CX0 3 f fd ["_law_left_here"] sp_deep := by
  refine F.ok sc__law_deep (fun vs H Q E h => ?_) (fun cdv A outer s H vs Q E hr h => ?_)
  · obtain ⟨L, c, N, rfl, _⟩ := h; rfl
  · obtain ⟨L, c, N, rfl, lf, hN, al, hc, q⟩ := h
    refine ⟨_, (pss_cons (ps_set (i := 1) sc__law_deep.nd rfl (by first | exact Or.inl rfl | exact Or.inr rfl) (pe_ix ix_list (pe_lst (pa_cons (pe_tup (pa_cons pe_int (pa_cons pe_int pa_nil))) (pa_cons pe_int (pa_cons pe_non pa_nil)))) (pe_c c__law_pick hr (by decide) (by rfl) (pa_cons (pv 0) (pa_cons pe_int pa_nil))) (fun _ _ => rfl)))
    (pss_cons (ps_for PassesOwn.never rfl (pi_range1 (by rfl) B.range (pa_cons (pe_c c__law_pick hr (by decide) (by rfl) (pa_cons (pv 0) (pa_cons pe_int pa_nil))) pa_nil)) (pg_name (i := 2) sc__law_deep.nd rfl (by first | exact Or.inl rfl | exact Or.inr rfl))
      (pss_one (ps_set (i := 1) sc__law_deep.nd rfl (by first | exact Or.inl rfl | exact Or.inr rfl) (pe_ix ix_list (pe_lst (pa_cons (pe_lst (pa_cons (pv 1) pa_nil)) (pa_cons (pe_tup (pa_cons (pv 1) pa_nil)) pa_nil))) (pe_op op_mod (pv 2) pe_int) (fun _ _ => rfl)))))
    (pss_one (ps_ret (pv 1))))), ?_⟩
    have ktd : KT _ H H [(.non, 0, 4), (.int 0, 0, 3), (.int 1, 0, 3)] := (KT.add (KT.add (KT.add (KT.nil al) (Kt.int (by decide) (by decide) (by decide))) (Kt.int (by decide) (by decide) (by decide))) (Kt.non (by decide)))
    refine ⟨ (by show 2 ≤ sizeLine; decide), fun a11 na11 => ?_⟩
    have kt11 := KT.newT ktd [1, 2] 0 4 1 15 (us := [.int 0, .int 1]) na11 rfl rfl rfl rfl rfl
    have ea11 := upd_same (H := H) (a := a11) (o := HO.tup [.int 0, .int 1])
    have s11 := same_new (o := HO.tup [.int 0, .int 1]) na11
    generalize upd H a11 _ = H11 at kt11 ea11 s11 ⊢
    have items := KT.items kt11 [0, 2, 1] (us := [.ref a11, .int 0, .non]) (k := 1) (W := 20) rfl rfl (by decide)
    refine ⟨by show 3 ≤ sizeLine; decide, fun S nS => ?_⟩
    have sS := (kt11.to (same_new (o := .lst [.ref a11, .int 0, .non]) nS)).same
    have items2 : KtL N _ _ 1 20 := (show KtL N _ _ 1 20 from items).mono (FrM.same (same_new (o := .lst [.ref a11, .int 0, .non]) nS))
    have eS := upd_same (H := H11) (a := S) (o := HO.lst [.ref a11, .int 0, .non])
    have il : ([.ref a11, .int 0, .non] : List V).length = 3 := rfl
    have SL : S ≠ L := (lf.same kt11.same).ne nS
    generalize ([.ref a11, .int 0, .non] : List V) = zs at sS items2 eS il ⊢
    generalize upd H11 S (.lst zs) = HS at sS items2 eS ⊢
    have lfS := lf.same sS
    refine ⟨_, rfl, L, _, _, rfl, lfS, by decide, by decide, by omega, fun t HX t0 t1 fr lfX => ?_⟩
    obtain ⟨j, rfl⟩ : ∃ j : Nat, t = (j : Int) := ⟨t.toNat, by omega⟩
    have hj : j < zs.length := by omega
    have kv := (items2 _ (List.getElem_mem hj)).mono (fr_M fr hN)
    refine ⟨S, _, _, _, rfl, rfl, SqL.of (fr _ _ SL eS), atI_nat (List.getElem?_eq_getElem hj), ?_⟩
    generalize zs[j] = v at kv
    refine ⟨_, rfl, L, _, _, rfl, lfX, by decide, by decide, by omega, fun g HG g0 g1 frG lfG => ?_⟩
    have frH : Fr L H HG := (Fr.of sS).trans (fr.trans frG)
    have alG := al_fr al frH lfG
    have kG := kv.mono (fr_M frG hN)
    refine ⟨_, rfl, by omega, by omega, ?_⟩
    refine for_range (fun i σ HM => ∃ v y2, σ = [some (.ref L), some v, y2] ∧ Same HG HM ∧ Kt N HM v (1 + i) (20 + 7 * i)) ⟨_, _, rfl, fun _ _ e => e, kG⟩ ?_ ?_
    · rintro i σ HM hi ⟨v, y2, rfl, sM, kM⟩
      have alM := al_same alG sM
      have fresh : ∀ {H' : Hp} {p : Addr}, Same HM H' → H' p = none → p ∉ N := fun s e z => al_same alM s _ z e
      refine ⟨_, rfl, by show 1 ≤ sizeLine; decide, fun p np => ?_⟩
      have s1 := same_new (o := .lst [v]) np
      refine ⟨_, rfl, by show 1 ≤ sizeLine; decide, fun p2 np2 => ?_⟩
      have s2 := same_new (o := .tup [v]) np2
      refine ⟨by show 2 ≤ sizeLine; decide, fun p3 np3 => ?_⟩
      have s3 := same_new (o := .lst [.ref p, .ref p2]) np3
      have e1 := s3 _ _ (s2 _ _ (upd_same (H := HM) (a := p) (o := HO.lst [v])))
      have e2 := s3 _ _ (upd_same (H := upd HM p (.lst [v])) (a := p2) (o := HO.tup [v]))
      have e3 := upd_same (H := upd (upd HM p (.lst [v])) p2 (.tup [v])) (a := p3) (o := HO.lst [.ref p, .ref p2])
      have s13 := s1.trans (s2.trans s3)
      have n1 := fresh (fun _ _ e => e) np
      have n2 := fresh s1 np2
      generalize upd (upd (upd HM p (.lst [v])) p2 (.tup [v])) p3 _ = H3 at e1 e2 e3 s13 ⊢
      have kv3 : KtL N H3 [v] (1 + i) (20 + 7 * i) := fun u hu => by rw [List.mem_singleton.mp hu]; exact kM.same s13
      refine ⟨_, rfl, _, _, rfl, rfl, (show (0 : Int) < 2 by decide), ?_⟩
      have r2 : (0 + (i : Int)) % 2 = 0 ∨ (0 + (i : Int)) % 2 = 1 := by omega
      rcases r2 with r | r
      · have hx : atI [V.ref p, V.ref p2] ((0 + (i : Int)) % 2) = some (.ref p) := by rw [r]; rfl
        exact ⟨p3, _, _, .ref p, rfl, rfl, SqL.of e3, hx, _, _, rfl, sM.trans s13, (Kt.lst n1 e1 kv3).le (by omega) (by simp; omega)⟩
      · have hx : atI [V.ref p, V.ref p2] ((0 + (i : Int)) % 2) = some (.ref p2) := by rw [r]; rfl
        exact ⟨p3, _, _, .ref p2, rfl, rfl, SqL.of e3, hx, _, _, rfl, sM.trans s13, (Kt.tup n2 e2 kv3).le (by omega) (by simp; omega)⟩
    · rintro σ HM ⟨v, y2, rfl, sM, kM⟩
      exact ⟨_, rfl, q _ _ (frH.trans (Fr.of sM)) ((lfG.same sM).mono (by omega)) (kM.le (by omega) (by omega))⟩
/-! ### is_number of things -/
def sp_numA : Sp := fun vs H Q _ => ∃ v d N, vs = [v] ∧ Da N H d v ∧ Q (.bl (isIntD d)) H
theorem ok_numA {f : Addr} {fd : FuncData} (B : Bts mg) (F : Fun K "is_number" "is_number" s_is_number f fd) : FnOk P w K mg base CX0 1 f fd ["thing"] sp_numA := by
  refine F.ok sc_is_number (fun vs H Q E h => ?_) (fun cdv A outer s H vs Q E hr h => ?_)
  · obtain ⟨i, _, _, rfl, _⟩ := h; rfl
  · obtain ⟨v, d, N, rfl, hd, q⟩ := h
    refine ⟨_, (pss_one (ps_ret (pe_and (pe_callB call_isi (by rfl) B.isinstance (by decide +kernel) (pa_cons (pv 0) (pa_cons (pe_bltn (v := .ty "int") (by rfl) B.int (by decide +kernel) rfl) pa_nil))) (pe_one (pe_not (pe_callB call_isi (by rfl) B.isinstance (by decide +kernel) (pa_cons (pv 0) (pa_cons (pe_bltn (v := .ty "bool") (by rfl) B.bool (by decide +kernel) rfl) pa_nil)))))))), ?_⟩
    refine ⟨_, rfl, ?_⟩
    dsimp only [tCons, tC, tNil]
    refine isi_intA hd ⟨_, rfl, ?_⟩
    cases d with
    | int i =>
      refine iteT ⟨_, rfl, ?_⟩
      dsimp only [tCons, tC, tNil]
      exact isi_blA hd ⟨_, rfl, q⟩
    | bool b =>
      refine iteT ⟨_, rfl, ?_⟩
      dsimp only [tCons, tC, tNil]
      exact isi_blA hd ⟨_, rfl, q⟩
    | none => exact iteF q
    | str _ => exact iteF q
    | list _ => exact iteF q
    | tuple _ => exact iteF q
    | dict _ => exact iteF q
/-! ### is_pair of things -/
def isPrD : PyData → Bool
  | .tuple [.int _, .int _] => true
  | _ => false
theorem isPr_iff {d : PyData} : isPrD d = true ↔ ∃ t : Ar, d = dT t := by
  constructor
  · intro h
    unfold isPrD at h
    split at h
    · exact ⟨(_, _), rfl⟩
    · cases h
  · rintro ⟨t, rfl⟩; rfl
def sp_pairA : Sp := fun vs H Q _ => ∃ v d N, vs = [v] ∧ Da N H d v ∧ Q (.bl (isPrD d)) H
theorem ok_pairA {f : Addr} {fd : FuncData} (B : Bts mg) (F : Fun K "is_pair" "is_pair" s_is_pair f fd) (c_is_number : Cl P w K mg base 1 "is_number" sp_numA) : FnOk P w K mg base CX0 2 f fd ["thing"] sp_pairA := by
  refine F.ok sc_is_pair (fun vs H Q E h => ?_) (fun cdv A outer s H vs Q E hr h => ?_)
  · obtain ⟨i, _, _, rfl, _⟩ := h; rfl
  · obtain ⟨v, d, N, rfl, hd, q⟩ := h
    refine ⟨_, (pss_one (ps_ret (pe_and (pe_callB call_isi (by rfl) B.isinstance (by decide +kernel) (pa_cons (pv 0) (pa_cons (pe_bltn (v := .ty "tuple") (by rfl) B.tuple (by decide +kernel) rfl) pa_nil))) (pe_and (pe_cmpR op_eq (pe_callB call_len_seq (by rfl) B.len (by decide +kernel) (pa_cons (pv 0) pa_nil)) pe_int (nomark _)) (pe_and (pe_c c_is_number hr (by decide) (by rfl) (pa_cons (pe_ix ix_tup (pv 0) pe_int (fun _ _ => rfl)) pa_nil)) (pe_one (pe_c c_is_number hr (by decide) (by rfl) (pa_cons (pe_ix ix_tup (pv 0) pe_int (fun _ _ => rfl)) pa_nil)))))))), ?_⟩
    refine ⟨_, rfl, ?_⟩
    dsimp only [tCons, tC, tNil]
    refine isi_tupA hd ⟨_, rfl, ?_⟩
    cases d with
    | int i => exact iteF q
    | bool b => exact iteF q
    | none => exact iteF q
    | str _ => exact iteF q
    | list _ => exact iteF q
    | dict _ => exact iteF q
    | tuple ds =>
      refine iteT ?_
      rw [Da] at hd
      obtain ⟨p, us, rfl, nN, ep, hA⟩ := hd
      have ul := hA.len
      refine ⟨_, rfl, p, _, rfl, .inr (SqT.of ep), rfl, _, rfl, ?_⟩
      by_cases h2 : us.length = 2
      · rw [show decide (V.int (us.length : Int) = V.int 2) = true from decide_eq_true (by rw [h2]; rfl)]
        refine iteT ?_
        obtain ⟨d1, d2, rfl⟩ : ∃ a b, ds = [a, b] := by
          match ds, ul with
          | [a, b], _ => exact ⟨a, b, rfl⟩
          | [], e => exact absurd (e.symm.trans h2) (by decide)
          | [_], e => exact absurd (e.symm.trans h2) (by simp)
          | _ :: _ :: _ :: _, e => rw [h2] at e; simp at e
        rw [DaAll] at hA
        obtain ⟨u1, us1, rfl, k1, hA⟩ := hA
        rw [DaAll] at hA
        obtain ⟨u2, us2, rfl, k2, hA⟩ := hA
        rw [DaAll] at hA
        subst hA
        refine ⟨_, rfl, p, _, _, _, rfl, rfl, SqT.of ep, rfl, u1, d1, N, rfl, k1, _, rfl, ?_⟩
        cases d1 with
        | int i =>
          refine iteT ⟨_, rfl, p, _, _, _, rfl, rfl, SqT.of ep, rfl, u2, d2, N, rfl, k2, ?_⟩
          cases d2 <;> exact q
        | bool b => exact iteF q
        | none => exact iteF q
        | str _ => exact iteF q
        | list _ => exact iteF q
        | dict _ => exact iteF q
        | tuple _ => exact iteF q
      · rw [show decide (V.int (us.length : Int) = V.int 2) = false from decide_eq_false (fun z => h2 (by have := V.int.inj z; omega))]
        have e : isPrD (.tuple ds) = false := by
          unfold isPrD
          split
          · next h => cases h; exact absurd ul h2
          · rfl
        rw [e] at q
        exact iteF q
end
end My

set_option Elab.async false
set_option linter.all false
set_option maxRecDepth 100000
set_option maxHeartbeats 4000000
set_option pp.maxSteps 900
namespace My
open PySem PySem.Spec PyProof.Rows L2 GxR
theorem tup_ofW {N : List Addr} {H : Hp} {d : PyData} {v : V} (h : isTupD d = true) (hd : Da N H d v) : ∃ p us ds, d = .tuple ds ∧ v = .ref p ∧ p ∉ N ∧ H p = some (.tup us) ∧ DaAll N H ds us := by
  cases d <;> try cases h
  rw [Da] at hd
  obtain ⟨p, us, e1, e2, e3, e4⟩ := hd
  exact ⟨p, us, _, rfl, e1, e2, e3, e4⟩
theorem lst_ofW {N : List Addr} {H : Hp} {d : PyData} {v : V} (h : isLstD d = true) (hd : Da N H d v) : ∃ p us ds, d = .list ds ∧ v = .ref p ∧ p ∉ N ∧ H p = some (.lst us) ∧ DaAll N H ds us := by
  cases d <;> try cases h
  rw [Da] at hd
  obtain ⟨p, us, e1, e2, e3, e4⟩ := hd
  exact ⟨p, us, _, rfl, e1, e2, e3, e4⟩
theorem da_tieW {N : List Addr} {H : Hp} {v : V} {t : Ar} (h : Da N H (dT t) v) : Tie H v t := by
  unfold dT at h
  rw [Da] at h
  obtain ⟨p, us, rfl, _, e, k⟩ := h
  rw [DaAll] at k
  obtain ⟨u1, us1, rfl, k1, k⟩ := k
  rw [DaAll] at k
  obtain ⟨u2, us2, rfl, k2, k⟩ := k
  rw [DaAll] at k
  subst k
  rw [Da] at k1 k2
  subst k1 k2
  exact ⟨p, rfl, e⟩
theorem da_tiesW {N : List Addr} {H : Hp} : ∀ {l : List Ar} {us : List V}, DaAll N H (l.map dT) us → Ties H us l
  | [], _, h => by rw [List.map_nil, DaAll] at h; subst h; exact trivial
  | t :: l, _, h => by
    rw [List.map_cons, DaAll] at h
    obtain ⟨u, us', rfl, h1, h2⟩ := h
    exact ⟨da_tieW h1, da_tiesW h2⟩
/-- lists of pairs -/
theorem prs_of {ds : List PyData} (h : ∀ d ∈ ds, isPrD d = true) : ∃ l : List Ar, ds = l.map dT := by
  induction ds with
  | nil => exact ⟨[], rfl⟩
  | cons d ds ih =>
    obtain ⟨t, rfl⟩ := isPr_iff.mp (h d List.mem_cons_self)
    obtain ⟨l, rfl⟩ := ih fun x hx => h x (List.mem_cons_of_mem _ hx)
    exact ⟨t :: l, rfl⟩
def NotP (d : PyData) : Prop := ∀ l : List Ar, d ≠ .list (l.map dT)
theorem prs_dec (d : PyData) : (∃ l : List Ar, d = .list (l.map dT)) ∨ NotP d := by
  cases d with
  | list ds =>
    by_cases h : ∀ d ∈ ds, isPrD d = true
    · obtain ⟨l, rfl⟩ := prs_of h
      exact .inl ⟨l, rfl⟩
    · refine .inr fun l e => h fun d hd => ?_
      injection e with e
      rw [e] at hd
      obtain ⟨t, _, rfl⟩ := List.mem_map.mp hd
      rfl
  | none => exact .inr fun l e => by cases e
  | bool _ => exact .inr fun l e => by cases e
  | int _ => exact .inr fun l e => by cases e
  | str _ => exact .inr fun l e => by cases e
  | tuple _ => exact .inr fun l e => by cases e
  | dict _ => exact .inr fun l e => by cases e
theorem tabG_sameW {H H' : Hp} {P : Addr} (h : TabG H P) (s : Same H H') : TabG H' P := tabG_same h s
theorem map_dT_inj : ∀ {l l' : List Ar}, l.map dT = l'.map dT → l = l'
  | [], [], _ => rfl
  | [], _ :: _, e => by cases e
  | _ :: _, [], e => by cases e
  | t :: l, t' :: l', e => by
    rw [List.map_cons, List.map_cons] at e
    injection e with e1 e2
    rw [map_dT_inj e2]
    unfold dT at e1
    injection e1 with e1
    injection e1 with h1 e1
    injection e1 with h2 _
    injection h1 with h1
    injection h2 with h2
    rw [Prod.ext h1 h2]
section
variable {P : Program} {w : World} {K : PySem.W.Frag} {mg : Str → Option Value} {base : Heap}
theorem FnOk.or {CX : CXT} {k : Nat} {f : Addr} {fd : FuncData} {ps : List Str} {sp1 sp2 : Sp} (a : FnOk P w K mg base CX k f fd ps sp1) (b : FnOk P w K mg base CX k f fd ps sp2) : FnOk P w K mg base CX k f fd ps (fun vs H Q E => sp1 vs H Q E ∨ sp2 vs H Q E) :=
  ⟨fun vs H Q E h => h.elim (a.1 vs H Q E) (b.1 vs H Q E), fun x1 x2 x3 x4 x5 x6 x7 x8 x9 x10 x11 x12 x13 h => h.elim (a.2 x1 x2 x3 x4 x5 x6 x7 x8 x9 x10 x11 x12 x13) (b.2 x1 x2 x3 x4 x5 x6 x7 x8 x9 x10 x11 x12 x13)⟩
theorem Cl.left {k : Nat} {x : Str} {sp1 sp2 : Sp} (c : Cl P w K mg base k x (fun vs H Q E => sp1 vs H Q E ∨ sp2 vs H Q E)) : Cl P w K mg base k x sp1 := by
  obtain ⟨f, fd, ps, F, hm, kp, b⟩ := c.ex
  exact ⟨f, fd, ps, ⟨fun vs H Q E h => F.1 vs H Q E (.inl h), fun x1 x2 x3 x4 x5 x6 x7 x8 x9 x10 x11 x12 x13 h => F.2 x1 x2 x3 x4 x5 x6 x7 x8 x9 x10 x11 x12 x13 (.inl h)⟩, hm, kp, b⟩
/-! ### is_arrow of things -/
def sp_isarA : Sp := fun vs H Q _ => ∃ (v x : V) (n : Nat) (ts : List Ar) (d : PyData) (N : List Addr), vs = [v, x] ∧ Web H v n ts ∧ WOk n ts ∧ Da N H d x ∧ ∀ H', Same H H' → (∀ t, d = dT t → Q (.bl (arB ts t)) H') ∧ (isPrD d = false → Q (.bl false) H')
theorem ok_isarA {f : Addr} {fd : FuncData} (B : Bts mg) (F : Fun K "is_arrow" "is_arrow" s_is_arrow f fd) (c_is_pair : Cl P w K mg base 2 "is_pair" sp_pairA) (c_tied : Cl P w K mg base 2 "tied" sp_tied) : FnOk P w K mg base CX0 3 f fd ["web", "thing"] sp_isarA := by
  refine F.ok sc_is_arrow (fun vs H Q E h => ?_) (fun cdv A outer s H vs Q E hr h => ?_)
  · obtain ⟨v, x, n, ts, d, N, rfl, _⟩ := h; rfl
  · obtain ⟨v, x, n, ts, d, N, rfl, hWeb, hW, hx, q⟩ := h
    refine ⟨_, (pss_one (ps_ret (pe_and (pe_c c_is_pair hr (by decide) (by rfl) (pa_cons (pv 1) pa_nil)) (pe_one (pe_c c_tied hr (by decide) (by rfl) (pa_cons (pv 0) (pa_cons (pe_ix ix_tup (pv 1) pe_int (fun _ _ => rfl)) (pa_cons (pe_ix ix_tup (pv 1) pe_int (fun _ _ => rfl)) pa_nil)))))))), ?_⟩
    refine ⟨_, rfl, x, d, N, rfl, hx, _, rfl, ?_⟩
    cases hp : isPrD d with
    | false => exact iteF ((q H (same_refl H)).2 hp)
    | true =>
      obtain ⟨t, rfl⟩ := isPr_iff.mp hp
      obtain ⟨px, rfl, epx⟩ := da_tieW hx
      refine iteT ?_
      refine ⟨_, rfl, _, rfl, px, _, _, _, rfl, rfl, SqT.of epx, rfl, _, rfl, px, _, _, _, rfl, rfl, SqT.of epx, rfl, v, n, ts, t.1, t.2, rfl, hWeb, fun H' s' => ?_⟩
      rw [tied_nr hW]
      exact (q H' s').1 t rfl
/-! ### is_walk of things that are no lists of pairs -/
def sp_walkN (PT : Addr) : Sp := fun vs H Q _ => ∃ (v x : V) (n : Nat) (ts : List Ar) (d : PyData) (N : List Addr), vs = [v, x] ∧ Web H v n ts ∧ WOk n ts ∧ Da N H d x ∧ NotP d ∧ TabG H PT ∧ ∀ H', FrM [PT] H H' → TabG H' PT → Q (.bl false) H'
theorem ok_walkN {f c PT : Addr} {fd : FuncData} (B : Bts mg) (F : Fun K "is_walk" "is_walk" s_is_walk f fd) (hc : fd.code = .ref c) (TB : TabB base mg c PT) (c_is_arrow : Cl P w K mg base 3 "is_arrow" sp_isarA) (c_force : Cl P w K mg base 4 "force" sp_force) :
    FnOk P w K mg base CX0 6 f fd ["web", "thing"] (sp_walkN PT) := by
  refine okC F hc sc_is_walk (fun vs H Q E h => ?_) (fun A outer s H vs Q E hr h => ?_)
  · obtain ⟨v, x, n, ts, d, N, rfl, _⟩ := h; rfl
  · obtain ⟨v, x, n, ts, d, N, rfl, hWeb, hW, hd, hn, tg, q⟩ := h
    refine ⟨_, (pss_cons (ps_if (PW.pt (pw_or (pt_not (pt_val (pe_callB call_isi (by rfl) B.isinstance (by decide +kernel) (pa_cons (pv 1) (pa_cons (pe_bltn (v := .ty "list") (by rfl) B.list (by decide +kernel) rfl) pa_nil))))) (pw_or1 (pt_not (pt_truth (pv 1) (by intro _; rfl)))))) (pss_one (ps_ret pe_bl)) pss_nil)
    (pss_cons (ps_if (pt_not (pt_val (pe_allG (own := [("arrow", 2)]) (g := (gName 2)) rfl sc_is_walk.nd hr (by rfl) B.all TB rfl ⟨rfl, by decide +kernel, rfl⟩ (blkOk_by (own := [("arrow", 2)]) (N := N_is_walk) (sc := defScope s_is_walk) (by decide +kernel)) (pi_list (pv 1)) (fun _ _ _ _ _ _ _ => (pg_name (i := 2) sc_is_walk.nd rfl (by first | exact Or.inl rfl | exact Or.inr rfl))) (fun _ _ _ _ _ _ _ hr => (pe_c c_is_arrow hr (by decide) (by rfl) (pa_cons (pv 0) (pa_cons (pv 2) pa_nil))))))) (pss_one (ps_ret pe_bl)) pss_nil)
    (pss_one (ps_ret (pe_allG (own := [("arrow", 2), ("later", 3)]) (g := (gTup K 2 (gCons (gName 2) (gCons (gName 3) gNil)))) rfl sc_is_walk.nd hr (by rfl) B.all TB rfl ⟨rfl, by decide +kernel, rfl⟩ (blkOk_by (own := [("arrow", 2), ("later", 3)]) (N := N_is_walk) (sc := defScope s_is_walk) (by decide +kernel)) (RZ.pi_zipA (by rfl) B.zip (pa_cons (pv 1) (pa_cons (pe_slice sl_list (pv 1) (po_some pe_int) po_none) pa_nil))) (fun _ _ _ _ _ _ _ => (pg_tup rfl (pgs_cons (pg_name (i := 2) sc_is_walk.nd rfl (by first | exact Or.inl rfl | exact Or.inr rfl)) (pgs_cons (pg_name (i := 3) sc_is_walk.nd rfl (by first | exact Or.inl rfl | exact Or.inr rfl)) pgs_nil)))) (fun _ _ _ _ _ _ _ hr => (pe_c c_force hr (by decide) (by rfl) (pa_cons (pv 0) (pa_cons (pv 2) (pa_cons (pv 3) pa_nil)))))))))), ?_⟩
    refine ⟨_, rfl, ?_⟩
    dsimp only [tCons, tC, tNil]
    refine isi_lstA hd ⟨_, rfl, ?_⟩
    cases hl : isLstD d with
    | false => exact iteT (q H (FrM.refl _ _) tg)
    | true =>
    obtain ⟨Al, us, ds, rfl, rfl, nN, eA, hA⟩ := lst_ofW hl hd
    have ul := hA.len
    refine iteF ⟨_, rfl, !us.isEmpty, .inl ⟨_, SqL.of eA, rfl⟩, ?_⟩
    have une : us ≠ [] := fun z => hn [] (by rw [z] at ul; rw [List.length_eq_zero_iff.mp ul.symm]; rfl)
    have em : (!us.isEmpty) = true := by
      cases us with
      | nil => exact absurd rfl une
      | cons a b => rfl
    rw [em]
    refine iteF ?_
    refine ⟨_, rfl, Al, rfl, ⟨_, SqL.of eA⟩, tg, fun H2 tb => ?_⟩
    have t2 := tb_tst tb tg
    have eA2 := tab_lst' tb tg eA
    have hA' : DaAll (PT :: N) H ds us := hA.more (no_tab tg)
    have up : ∀ {H'}, FrM [PT] H H' → FrM (PT :: N) H H' := fun fr b o nb e => fr b o (fun z => nb (by rw [List.mem_singleton.mp z]; exact List.mem_cons_self)) e
    refine allG_it (walk_list (K := K) (a := Al) (xs := us)) (fun i H3 => FrM [PT] H H3 ∧ TabG H3 PT ∧ Tst H H3 ∧ H3 Al = some (.lst us) ∧ ∀ j, j < i → ∀ d, ds[j]? = some d → isPrD d = true) ⟨tb_frM tb, tb.1, t2, eA2, fun j hj => absurd hj (Nat.not_lt_zero _)⟩ ?_ ?_ ?_
    · rintro i H3 _ ⟨_, _, _, e3, _⟩
      exact SqL.of e3
    · rintro i x H3 H4 hi ⟨fr3, tg3, t3, eA3, al3⟩ ⟨rfl, hx⟩
      obtain ⟨d, ed, hd1⟩ := (hA'.mono (up fr3)).at hx
      refine ⟨rfl, _, rfl, _, rfl, v, x, n, ts, d, _, rfl, hWeb.mono t3, hW, hd1, fun H5 s5 => ⟨fun t et => ⟨_, rfl, ?_⟩, fun hp => ⟨_, rfl, ?_⟩⟩⟩
      · refine ite2 (fun e => ?_) (fun e => ?_)
        · refine ⟨fr3.trans (FrM.same s5), tabG_same tg3 s5, t3.trans (Same.tst s5), s5 _ _ eA3, fun j hj d' ed' => ?_⟩
          rcases Nat.lt_or_ge j i with z | z
          · exact al3 j z d' ed'
          · obtain rfl : j = i := by omega
            rw [ed] at ed'
            cases ed'
            rw [et]; rfl
        · exact ⟨false, rfl, iteT (q H5 (fr3.trans (FrM.same s5)) (tabG_same tg3 s5))⟩
      · exact iteF ⟨false, rfl, iteT (q H5 (fr3.trans (FrM.same s5)) (tabG_same tg3 s5))⟩
    · rintro H3 ⟨fr3, tg3, t3, eA3, al3⟩
      exfalso
      obtain ⟨l, e⟩ := prs_of (ds := ds) fun d hd => by
        obtain ⟨j, hj⟩ := List.getElem?_of_mem hd
        have := (List.getElem?_eq_some_iff.mp hj).1
        exact al3 j (by omega) d hj
      exact hn l (by rw [e])
/-- is_walk of any thing -/
def sp_walkA (PT : Addr) : Sp := fun vs H Q _ => ∃ (v x : V) (n : Nat) (ts : List Ar) (d : PyData) (N : List Addr) (k W : Nat), vs = [v, x] ∧ Web H v n ts ∧ WOk n ts ∧ Da N H d x ∧ Sm (k + 1) W d ∧ W ≤ 20000 ∧ TabG H PT ∧ ∀ b H', (b = true ↔ ∃ l : List Ar, d = .list (l.map dT) ∧ wkB ts l = true) → FrM [PT] H H' → TabG H' PT → Q (.bl b) H'
theorem walkA_of {PT : Addr} {vs : List V} {H : Hp} {Q : VK} {E : XK} (h : sp_walkA PT vs H Q E) : sp_walk PT vs H Q E ∨ sp_walkN PT vs H Q E := by
  obtain ⟨v, x, n, ts, d, N, k, W, rfl, hWeb, hW, hd, hs, hw, tg, q⟩ := h
  rcases prs_dec d with ⟨l, rfl⟩ | hn
  · refine .inl ?_
    have sA := hs.lst_inv.len
    rw [Da] at hd
    obtain ⟨p, us, rfl, nN, e, hA⟩ := hd
    rw [List.length_map] at sA
    refine ⟨v, p, n, ts, l, us, rfl, hWeb, hW, e, da_tiesW hA, by omega, tg, fun H' f t => q _ H' ⟨fun z => ⟨l, rfl, z⟩, fun ⟨l', e', z⟩ => ?_⟩ f t⟩
    injection e' with e'
    have : l = l' := map_dT_inj e'
    rw [this]; exact z
  · exact .inr ⟨v, x, n, ts, d, N, rfl, hWeb, hW, hd, hn, tg, fun H' f t => q false H' ⟨fun z => (by cases z), fun ⟨l, e, _⟩ => (hn l e).elim⟩ f t⟩
theorem Cl.walkA {k : Nat} {PT : Addr} {x : Str} (c : Cl P w K mg base k x (fun vs H Q E => sp_walk PT vs H Q E ∨ sp_walkN PT vs H Q E)) : Cl P w K mg base k x (sp_walkA PT) := by
  obtain ⟨f, fd, ps, F, hm, kp, b⟩ := c.ex
  exact ⟨f, fd, ps, ⟨fun vs H Q E h => F.1 vs H Q E (walkA_of h), fun x1 x2 x3 x4 x5 x6 x7 x8 x9 x10 x11 x12 x13 h => F.2 x1 x2 x3 x4 x5 x6 x7 x8 x9 x10 x11 x12 x13 (walkA_of h)⟩, hm, kp, b⟩
theorem Cl.right {k : Nat} {x : Str} {sp1 sp2 : Sp} (c : Cl P w K mg base k x (fun vs H Q E => sp1 vs H Q E ∨ sp2 vs H Q E)) : Cl P w K mg base k x sp2 := by
  obtain ⟨f, fd, ps, F, hm, kp, b⟩ := c.ex
  exact ⟨f, fd, ps, ⟨fun vs H Q E h => F.1 vs H Q E (.inr h), fun x1 x2 x3 x4 x5 x6 x7 x8 x9 x10 x11 x12 x13 h => F.2 x1 x2 x3 x4 x5 x6 x7 x8 x9 x10 x11 x12 x13 (.inr h)⟩, hm, kp, b⟩
theorem Cl.conv {k : Nat} {x : Str} {sp1 sp2 : Sp} (c : Cl P w K mg base k x sp1) (h : ∀ vs H Q E, sp2 vs H Q E → sp1 vs H Q E) : Cl P w K mg base k x sp2 := by
  obtain ⟨f, fd, ps, F, hm, kp, b⟩ := c.ex
  exact ⟨f, fd, ps, ⟨fun vs H Q E g => F.1 vs H Q E (h _ _ _ _ g), fun x1 x2 x3 x4 x5 x6 x7 x8 x9 x10 x11 x12 x13 g => F.2 x1 x2 x3 x4 x5 x6 x7 x8 x9 x10 x11 x12 x13 (h _ _ _ _ g)⟩, hm, kp, b⟩
/-! ### shows_way, shows_round of things -/
def sp_shwayN (PT : Addr) : Sp := fun vs H Q _ => ∃ (v y z x : V) (n : Nat) (ts : List Ar) (d : PyData) (N : List Addr), vs = [v, y, z, x] ∧ Web H v n ts ∧ WOk n ts ∧ Da N H d x ∧ NotP d ∧ TabG H PT ∧ ∀ H', FrM [PT] H H' → TabG H' PT → Q (.bl false) H'
theorem ok_shwayN {f PT : Addr} {fd : FuncData} (B : Bts mg) (F : Fun K "shows_way" "shows_way" s_shows_way f fd) (c_is_walk : Cl P w K mg base 6 "is_walk" (sp_walkN PT)) : FnOk P w K mg base CX0 7 f fd ["web", "one", "other", "thing"] (sp_shwayN PT) := by
  refine F.ok sc_shows_way (fun vs H Q E h => ?_) (fun cdv A outer s H vs Q E hr h => ?_)
  · obtain ⟨v, y, z, x, n, ts, d, N, rfl, _⟩ := h; rfl
  · obtain ⟨v, y, z, x, n, ts, d, N, rfl, hWeb, hW, hd, hn, tg, q⟩ := h
    refine ⟨_, (pss_one (ps_ret (pe_and (pe_c c_is_walk hr (by decide) (by rfl) (pa_cons (pv 0) (pa_cons (pv 3) pa_nil))) (pe_and (pe_cmpR (op_eqD hr.units) (pe_ix ix_list (pv 3) pe_int (fun _ _ => rfl)) (pv 1) (nomark _)) (pe_one (pe_cmpR (op_eqD hr.units) (pe_ix ix_list (pv 3) (pe_un un_neg pe_int) (fun _ _ => rfl)) (pv 2) (nomark _))))))), ?_⟩
    exact ⟨_, rfl, _, rfl, v, x, n, ts, d, N, rfl, hWeb, hW, hd, hn, tg, fun H1 fr1 tg1 => ⟨false, rfl, iteF (q H1 fr1 tg1)⟩⟩
def sp_shrN (PT : Addr) : Sp := fun vs H Q _ => ∃ (v x : V) (n : Nat) (ts : List Ar) (d : PyData) (N : List Addr), vs = [v, x] ∧ Web H v n ts ∧ WOk n ts ∧ Da N H d x ∧ NotP d ∧ TabG H PT ∧ ∀ H', FrM [PT] H H' → TabG H' PT → Q (.bl false) H'
theorem ok_shrN {f PT : Addr} {fd : FuncData} (B : Bts mg) (F : Fun K "shows_round" "shows_round" s_shows_round f fd) (c_is_walk : Cl P w K mg base 6 "is_walk" (sp_walkN PT)) : FnOk P w K mg base CX0 7 f fd ["web", "thing"] (sp_shrN PT) := by
  refine F.ok sc_shows_round (fun vs H Q E h => ?_) (fun cdv A outer s H vs Q E hr h => ?_)
  · obtain ⟨v, x, n, ts, d, N, rfl, _⟩ := h; rfl
  · obtain ⟨v, x, n, ts, d, N, rfl, hWeb, hW, hd, hn, tg, q⟩ := h
    refine ⟨_, (pss_one (ps_ret (pe_and (pe_c c_is_walk hr (by decide) (by rfl) (pa_cons (pv 0) (pa_cons (pv 1) pa_nil))) (pe_one (pe_cmpR (op_eqD hr.units) (pe_ix ix_list (pv 1) (pe_un un_neg pe_int) (fun _ _ => rfl)) (pe_tup (pa_cons (pe_ix ix_tup (pe_ix ix_list (pv 1) pe_int (fun _ _ => rfl)) pe_int (fun _ _ => rfl)) (pa_cons (pe_ix ix_tup (pe_ix ix_list (pv 1) pe_int (fun _ _ => rfl)) pe_int (fun _ _ => rfl)) pa_nil))) (nomark _)))))), ?_⟩
    exact ⟨_, rfl, _, rfl, v, x, n, ts, d, N, rfl, hWeb, hW, hd, hn, tg, fun H1 fr1 tg1 => ⟨false, rfl, iteF (q H1 fr1 tg1)⟩⟩
/-- of any thing -/
def sp_shwayA (PT : Addr) : Sp := fun vs H Q _ => ∃ (v y z x : V) (n : Nat) (ts : List Ar) (one other : Ar) (d : PyData) (N : List Addr) (k W : Nat), vs = [v, y, z, x] ∧ Web H v n ts ∧ WOk n ts ∧ Tie H y one ∧ Tie H z other ∧ Da N H d x ∧ Sm (k + 1) W d ∧ W ≤ 20000 ∧ TabG H PT ∧
  ∀ b H', ((∀ l : List Ar, d = .list (l.map dT) → b = (wkB ts l && (decide (l.head? = some one) && decide (l.getLast? = some other)))) ∧ (NotP d → b = false)) → FrM [PT] H H' → TabG H' PT → Q (.bl b) H'
theorem shwayA_of {PT : Addr} {vs : List V} {H : Hp} {Q : VK} {E : XK} (h : sp_shwayA PT vs H Q E) : sp_shway PT vs H Q E ∨ sp_shwayN PT vs H Q E := by
  obtain ⟨v, y, z, x, n, ts, one, other, d, N, k, W, rfl, hWeb, hW, h1, h2, hd, hs, hw, tg, q⟩ := h
  rcases prs_dec d with ⟨l, rfl⟩ | hn
  · refine .inl ?_
    have sA := hs.lst_inv.len
    rw [Da] at hd
    obtain ⟨p, us, rfl, nN, e, hA⟩ := hd
    rw [List.length_map] at sA
    refine ⟨v, y, z, p, n, ts, l, one, other, us, rfl, hWeb, hW, h1, h2, e, da_tiesW hA, by omega, tg, fun H' S => q _ H' ⟨fun l' e' => ?_, fun hn => (hn l rfl).elim⟩ S.fr S.tg⟩
    injection e' with e'
    rw [map_dT_inj e']
  · exact .inr ⟨v, y, z, x, n, ts, d, N, rfl, hWeb, hW, hd, hn, tg, fun H' f t => q false H' ⟨fun l e => (hn l e).elim, fun _ => rfl⟩ f t⟩
def sp_shrA (PT : Addr) : Sp := fun vs H Q _ => ∃ (v x : V) (n : Nat) (ts : List Ar) (d : PyData) (N : List Addr) (k W : Nat), vs = [v, x] ∧ Web H v n ts ∧ WOk n ts ∧ Da N H d x ∧ Sm (k + 1) W d ∧ W ≤ 20000 ∧ TabG H PT ∧
  ∀ b H', ((∀ l : List Ar, d = .list (l.map dT) → b = rdB ts l) ∧ (NotP d → b = false)) → FrM [PT] H H' → TabG H' PT → Q (.bl b) H'
theorem shrA_of {PT : Addr} {vs : List V} {H : Hp} {Q : VK} {E : XK} (h : sp_shrA PT vs H Q E) : sp_shr PT vs H Q E ∨ sp_shrN PT vs H Q E := by
  obtain ⟨v, x, n, ts, d, N, k, W, rfl, hWeb, hW, hd, hs, hw, tg, q⟩ := h
  rcases prs_dec d with ⟨l, rfl⟩ | hn
  · refine .inl ?_
    have sA := hs.lst_inv.len
    rw [Da] at hd
    obtain ⟨p, us, rfl, nN, e, hA⟩ := hd
    rw [List.length_map] at sA
    refine ⟨v, p, n, ts, l, us, rfl, hWeb, hW, e, da_tiesW hA, by omega, tg, fun H' f t => q _ H' ⟨fun l' e' => ?_, fun hn => (hn l rfl).elim⟩ f t⟩
    injection e' with e'
    rw [map_dT_inj e']
  · exact .inr ⟨v, x, n, ts, d, N, rfl, hWeb, hW, hd, hn, tg, fun H' f t => q false H' ⟨fun l e => (hn l e).elim, fun _ => rfl⟩ f t⟩
end
end My

set_option Elab.async false
set_option linter.all false
set_option maxRecDepth 100000
set_option maxHeartbeats 4000000
set_option pp.maxSteps 900
namespace My
open PySem PySem.Spec PyProof.Rows L2 GxR
theorem nrB_arS {n : Nat} {ts : List Ar} (hW : WOk n ts) {t : Ar} : nrB ts t.1 t.2 = true ↔ t ∈ arS n ts := by
  rw [mem_arS hW]
  unfold nrB
  rw [decide_eq_true_eq]
  exact Iff.rfl
theorem wkB_ars {ts l : List Ar} (h : wkB ts l = true) : ∀ t ∈ l, nrB ts t.1 t.2 = true := fun t ht => by
  unfold wkB at h
  rw [Bool.and_eq_true, Bool.and_eq_true] at h
  exact List.all_eq_true.mp h.1.2 t ht
section
variable {P : Program} {w : World} {K : PySem.W.Frag} {mg : Str → Option Value} {base : Heap}
/-! ### _law_numbers -/
abbrev s__law_numbers : Stmt := topS 32
abbrev N__law_numbers : List Str := ["_law_some", "_law_one"]
theorem sc__law_numbers : FnScope N__law_numbers ["_law_some"] (defScope s__law_numbers) := ⟨rfl, rfl, rfl, by decide +kernel, rfl, by decide +kernel, by decide +kernel⟩
def sp_numsA : Sp := fun vs H Q _ => ∃ (p : Addr) (us : List V) (ds : List PyData) (N : List Addr), vs = [.ref p] ∧ H p = some (.tup us) ∧ DaAll N H ds us ∧ us.length ≤ 50000 ∧ ∀ H', Same H H' → Q (.bl (ds.all isIntD)) H'
theorem ok_numsA {f : Addr} {fd : FuncData} (B : Bts mg) (F : Fun K "_law_numbers" "_law_numbers" s__law_numbers f fd) : FnOk P w K mg base CX0 1 f fd ["_law_some"] sp_numsA := by
  refine F.ok sc__law_numbers (fun vs H Q E h => ?_) (fun cdv A outer s H vs Q E hr h => ?_)
  · obtain ⟨p, us, ds, N, rfl, _⟩ := h; rfl
  · obtain ⟨p, us, ds, N, rfl, ep, hA, ll, q⟩ := h
    refine ⟨_, (pss_one (ps_ret (pe_callB (cr_all rfl) (by rfl) B.all (by decide +kernel) (pa_cons (pe_lc (own := [("_law_one", 1)]) (g := (gName 1)) (tt := tYes) (te := (tAndV (tCB (rIsi K) _) (tNotV (tCB (rIsi K) _)))) rfl sc__law_numbers.nd (pi_tup (pv 0)) (blkOk_by (own := [("_law_one", 1)]) (N := N__law_numbers) (sc := defScope s__law_numbers) (by decide +kernel)) (fun _ _ _ _ _ => (pg_name (i := 1) sc__law_numbers.nd rfl (by first | exact Or.inl rfl | exact Or.inr rfl))) (fun _ _ _ _ _ => pts_nil) (fun _ _ _ _ _ => (pe_and (pe_callB call_isi (by rfl) B.isinstance (by decide +kernel) (pa_cons (pv 1) (pa_cons (pe_bltn (v := .ty "int") (by rfl) B.int (by decide +kernel) rfl) pa_nil))) (pe_one (pe_not (pe_callB call_isi (by rfl) B.isinstance (by decide +kernel) (pa_cons (pv 1) (pa_cons (pe_bltn (v := .ty "bool") (by rfl) B.bool (by decide +kernel) rfl) pa_nil)))))))) pa_nil)))), ?_⟩
    have ul := hA.len
    refine ⟨_, rfl, p, rfl, ⟨us, SqT.of ep⟩, fun D nD => ?_⟩
    refine wk (walk_tup (K := K) (a := p) (xs := us)) (fun i HM => Same H HM ∧ HM D = some (.lst (((ds.take i).map isIntD).map V.bl))) ⟨same_new nD, upd_same⟩ ?_ ?_ ?_
    · rintro i HM _ ⟨sM, _⟩
      exact SqT.of (sM _ _ ep)
    · rintro i x HM0 HM hi ⟨sM, eD⟩ ⟨rfl, hx⟩
      obtain ⟨d, ed, hd⟩ := hA.at hx
      have hdM := hd.mono (FrM.same sM)
      have stp : ds.take (i + 1) = ds.take i ++ [d] := by rw [List.take_add_one, ed]; rfl
      have fin : ∀ b, b = isIntD d → ∃ us', HM D = some (.lst us') ∧ us'.length < sizeLine ∧ (Same H (upd HM D (.lst (us' ++ [.bl b]))) ∧ (upd HM D (.lst (us' ++ [.bl b]))) D = some (.lst (((ds.take (i + 1)).map isIntD).map V.bl))) := fun b e => by
        refine ⟨_, eD, sz' (by rw [List.length_map, List.length_map, List.length_take]; omega), Same.put sM nD, ?_⟩
        rw [upd_same, stp, List.map_append, List.map_append, e]; rfl
      refine ⟨rfl, yes ⟨_, rfl, ?_⟩⟩
      dsimp only [tCons, tC, tNil]
      refine isi_intA hdM ⟨_, rfl, ?_⟩
      cases d with
      | int i =>
        refine iteT ⟨_, rfl, ?_⟩
        dsimp only [tCons, tC, tNil]
        exact isi_blA hdM ⟨_, rfl, fin _ rfl⟩
      | bool b =>
        refine iteT ⟨_, rfl, ?_⟩
        dsimp only [tCons, tC, tNil]
        exact isi_blA hdM ⟨_, rfl, fin _ rfl⟩
      | none => exact iteF (fin _ rfl)
      | str _ => exact iteF (fin _ rfl)
      | list _ => exact iteF (fin _ rfl)
      | tuple _ => exact iteF (fin _ rfl)
      | dict _ => exact iteF (fin _ rfl)
    · rintro H5 ⟨s5, eD⟩
      rw [ul, List.take_length] at eD
      refine ⟨D, _, rfl, SqL.of eD, ?_⟩
      have e : (ds.map isIntD).all id = ds.all isIntD := by rw [List.all_map]; rfl
      rw [e]
      exact q _ s5
/-! ### _law_is_way -/
abbrev s__law_is_way : Stmt := topS 31
abbrev N__law_is_way : List Str := ["_law_web_here", "_law_near_here", "_law_thing", "_law_arrow_here", "_law_one", "_law_other"]
theorem sc__law_is_way : FnScope N__law_is_way ["_law_web_here", "_law_near_here", "_law_thing"] (defScope s__law_is_way) := ⟨rfl, rfl, rfl, by decide +kernel, rfl, by decide +kernel, by decide +kernel⟩
def sp_isway : Sp := fun vs H Q _ => ∃ (v x : V) (Dn : Addr) (n : Nat) (ts : List Ar) (kvs : List (List Key × V)) (d : PyData) (N : List Addr) (k W : Nat), vs = [v, .ref Dn, x] ∧ Web H v n ts ∧ WOk n ts ∧ n ≤ 12 ∧ H Dn = some (.dT kvs) ∧ NearD kvs ts ∧ Da N H d x ∧ Sm (k + 2) W d ∧ k ≤ 60 ∧ W ≤ 20000 ∧
  ∀ b H', ((∀ l : List Ar, d = .list (l.map dT) → b = wkB ts l) ∧ (NotP d → b = false)) → Same H H' → Q (.bl b) H'
theorem ok_isway {f : Addr} {fd : FuncData} (B : Bts mg) (F : Fun K "_law_is_way" "_law_is_way" s__law_is_way f fd) (c__law_numbers : Cl P w K mg base 1 "_law_numbers" sp_numsA) (c__law_forced : Cl P w K mg base 1 "_law_forced" sp_forced) : FnOk P w K mg base CX0 2 f fd ["_law_web_here", "_law_near_here", "_law_thing"] sp_isway := by
  refine F.ok sc__law_is_way (fun vs H Q E h => ?_) (fun cdv A outer s H vs Q E hr h => ?_)
  · obtain ⟨v, x, Dn, n, ts, kvs, d, N, k, W, rfl, _⟩ := h; rfl
  · obtain ⟨v, x, Dn, n, ts, kvs, d, N, k, W, rfl, hWeb, hW, hn, eD, hN, hd, hs, hk, hw, q⟩ := h
    refine ⟨_, (pss_cons (ps_if (PW.pt (pw_or (pt_not (pt_val (pe_callB call_isi (by rfl) B.isinstance (by decide +kernel) (pa_cons (pv 2) (pa_cons (pe_bltn (v := .ty "list") (by rfl) B.list (by decide +kernel) rfl) pa_nil))))) (pw_or1 (pt_cmpR (op_eqD hr.units) (pv 2) (pe_lst pa_nil) (nomark _))))) (pss_one (ps_ret pe_bl)) pss_nil)
    (pss_cons (ps_for PassesOwn.never rfl (pi_list (pv 2)) (pg_name (i := 3) sc__law_is_way.nd rfl (by first | exact Or.inl rfl | exact Or.inr rfl))
      (pss_one (ps_if (PW.pt (pw_or (pt_not (pt_val (pe_callB call_isi (by rfl) B.isinstance (by decide +kernel) (pa_cons (pv 3) (pa_cons (pe_bltn (v := .ty "tuple") (by rfl) B.tuple (by decide +kernel) rfl) pa_nil))))) (pw_or (pt_cmpR op_ne (pe_callB call_len_seq (by rfl) B.len (by decide +kernel) (pa_cons (pv 3) pa_nil)) pe_int (nomark _)) (pw_or (pt_not (pt_val (pe_c c__law_numbers hr (by decide) (by rfl) (pa_cons (pv 3) pa_nil)))) (pw_or1 (pt_cmp (pc_dnotin (hu_of hr) (pv 3) (pv 1)))))))) (pss_one (ps_ret pe_bl)) pss_nil)))
    (pss_one (ps_ret (pe_callB (cr_all rfl) (by rfl) B.all (by decide +kernel) (pa_cons (pe_lc (own := [("_law_one", 4), ("_law_other", 5)]) (g := (gTup K 2 (gCons (gName 4) (gCons (gName 5) gNil)))) (tt := tYes) (te := (tOp (rInD K) _ _)) rfl sc__law_is_way.nd (pi_zip (by rfl) B.zip (pa_cons (pv 2) (pa_cons (pe_slice sl_list (pv 2) (po_some pe_int) po_none) pa_nil))) (blkOk_by (own := [("_law_one", 4), ("_law_other", 5)]) (N := N__law_is_way) (sc := defScope s__law_is_way) (by decide +kernel)) (fun _ _ _ _ _ => (pg_tup rfl (pgs_cons (pg_name (i := 4) sc__law_is_way.nd rfl (by first | exact Or.inl rfl | exact Or.inr rfl)) (pgs_cons (pg_name (i := 5) sc__law_is_way.nd rfl (by first | exact Or.inl rfl | exact Or.inr rfl)) pgs_nil)))) (fun _ _ _ _ _ => pts_nil) (fun _ _ _ _ _ => (pe_cmpR (op_inD (u65 hr)) (pv 5) (pe_c c__law_forced hr (by decide) (by rfl) (pa_cons (pv 0) (pa_cons (pv 1) (pa_cons (pv 4) pa_nil)))) (by rfl)))) pa_nil)))))), ?_⟩
    refine ⟨_, rfl, ?_⟩
    dsimp only [tCons, tC, tNil]
    refine isi_lstA hd ⟨_, rfl, ?_⟩
    cases hl : isLstD d with
    | false => exact iteT (q false H ⟨fun l e => (by rw [e] at hl; cases hl), fun _ => rfl⟩ (same_refl H))
    | true =>
    obtain ⟨Al, us, ds, rfl, rfl, nN, eA, hA⟩ := lst_ofW hl hd
    have ul := hA.len
    have sA := hs.lst_inv
    have dl := sA.len
    refine iteF ?_
    refine ⟨_, rfl, Nat.zero_le _, fun e0 ne0 => ?_⟩
    have s1 := same_new (o := .lst []) ne0
    refine ⟨.list ds, .list [], (hd.mono (FrM.same s1)).dp, .lst (SqL.of upd_same) .nil, hs.shaped (by omega), by decide +kernel, ?_⟩
    have es : PyData.eqv (.list ds) (.list []) = ds.isEmpty := by cases ds <;> rfl
    rw [es]
    by_cases h0 : ds = []
    · subst h0
      refine ⟨true, rfl, iteT (q false _ ⟨fun l e => ?_, fun _ => rfl⟩ s1)⟩
      injection e with e
      have : l = [] := by cases l; rfl; cases e
      rw [this]; rfl
    rw [show ds.isEmpty = false from by cases ds; exact absurd rfl h0; rfl]
    refine ⟨false, rfl, iteF ?_⟩
    have bad : ∀ {H' : Hp}, Same H H' → (∃ d ∈ ds, ∀ t : Ar, d = dT t → nrB ts t.1 t.2 ≠ true) → Q (.bl false) H' := fun {H'} s ⟨d, hd, hno⟩ => q false H' ⟨fun l e => by
      injection e with e
      rw [e] at hd
      obtain ⟨t, ht, rfl⟩ := List.mem_map.mp hd
      refine (Bool.eq_false_iff.mpr fun z => hno t rfl (wkB_ars z t ht)).symm, fun _ => rfl⟩ s
    refine ⟨_, rfl, Al, rfl, ⟨us, SqL.of (s1 _ _ eA)⟩, ?_⟩
    refine for_it (walk_list (K := K) (a := Al) (xs := us)) (fun i σ HX => ∃ y3 y4 y5, σ = [some v, some (.ref Dn), some (.ref Al), y3, y4, y5] ∧ Same H HX ∧ ∀ j, j < i → ∃ t : Ar, ds[j]? = some (dT t) ∧ nrB ts t.1 t.2 = true) ⟨_, _, _, rfl, s1, fun j hj => absurd hj (Nat.not_lt_zero _)⟩ ?_ ?_ ?_
    · rintro i σ HX _ ⟨_, _, _, _, sX, _⟩
      exact SqL.of (sX _ _ eA)
    · rintro i x σ HX0 HX hi ⟨y3, y4, y5, rfl, sX, eqs⟩ ⟨rfl, hx⟩
      obtain ⟨d1, ed, hd1⟩ := (hA.mono (FrM.same sX)).at hx
      have hm := List.mem_of_getElem? ed
      have sm1 := sA.mem d1 hm
      refine ⟨_, rfl, ?_⟩
      dsimp only [tCons, tC, tNil]
      refine isi_tupA hd1 ⟨_, rfl, ?_⟩
      cases h1t : isTupD d1 with
      | false => exact iteT (bad sX ⟨d1, hm, fun t e => by rw [e] at h1t; cases h1t⟩)
      | true =>
      obtain ⟨pa, ua, da, rfl, rfl, nA, ea, hAa⟩ := tup_ofW h1t hd1
      have al := hAa.len
      have sl := SmAll.len (Sm.tup_inv sm1)
      refine iteF ?_
      refine ⟨_, rfl, pa, ua, rfl, .inr (SqT.of ea), rfl, _, rfl, ?_⟩
      rw [neI]
      by_cases l2 : (ua.length : Int) = 2
      · rw [decide_eq_true l2]
        refine iteF ?_
        refine ⟨_, rfl, pa, ua, da, _, rfl, ea, hAa, by omega, fun H6 s6 => ⟨_, rfl, ?_⟩⟩
        have sX6 := sX.trans s6
        cases hn : da.all isIntD with
        | false =>
          refine iteT (bad sX6 ⟨_, hm, fun o eo => ?_⟩)
          injection eo with eo
          rw [eo] at hn
          cases hn
        | true =>
        obtain ⟨o, rfl⟩ : ∃ o : Ar, da = [.int o.1, .int o.2] := by
          match da, al, hn with
          | [.int a, .int b], _, _ => exact ⟨(a, b), rfl⟩
          | [], e, _ => rw [List.length_nil] at e; omega
          | [_], e, _ => rw [List.length_singleton] at e; omega
          | _ :: _ :: _ :: _, e, _ => simp at e; omega
          | [.none, _], _, h => cases h
          | [.bool _, _], _, h => cases h
          | [.str _, _], _, h => cases h
          | [.list _, _], _, h => cases h
          | [.tuple _, _], _, h => cases h
          | [.dict _, _], _, h => cases h
          | [.int _, .none], _, h => cases h
          | [.int _, .bool _], _, h => cases h
          | [.int _, .str _], _, h => cases h
          | [.int _, .list _], _, h => cases h
          | [.int _, .tuple _], _, h => cases h
          | [.int _, .dict _], _, h => cases h
        obtain ⟨p3, ho, eo3⟩ : Tie _ (.ref pa) o := da_tieW (N := N) (show Da N _ (dT o) (.ref pa) from hd1)
        cases ho
        refine iteF ?_
        refine ⟨_, rfl, _, rfl, Dn, _, rfl, DGet.t (k := [Sum.inl o.1, Sum.inl o.2]) (sX6 _ _ eD) (s6 _ _ eo3), _, rfl, ?_⟩
        rw [hN]
        by_cases hnr : nrB ts o.1 o.2 = true
        · rw [show decide ((o.1, o.2) ∈ ts ∨ (o.2, o.1) ∈ ts) = true from hnr]
          refine iteF ⟨_, _, _, rfl, sX6, fun j hj => ?_⟩
          rcases Nat.lt_or_ge j i with z | z
          · exact eqs j z
          · obtain rfl : j = i := by omega
            exact ⟨o, ed, hnr⟩
        · rw [show decide ((o.1, o.2) ∈ ts ∨ (o.2, o.1) ∈ ts) = false from Bool.eq_false_iff.mpr hnr]
          refine iteT (bad sX6 ⟨_, hm, fun t e => ?_⟩)
          have : o = t := by
            have := map_dT_inj (l := [o]) (l' := [t]) (by rw [List.map_singleton, List.map_singleton, ← e]; rfl)
            injection this
          rw [← this]; exact hnr
      · rw [decide_eq_false l2]
        refine iteT (bad sX ⟨_, hm, fun o eo => ?_⟩)
        injection eo with eo
        rw [eo] at al
        exact (l2 (by rw [al]; rfl)).elim
    · rintro σ HX ⟨y3, y4, y5, rfl, sX, eqs⟩
      obtain ⟨l, rfl⟩ := prs_of (ds := ds) fun d hd => by
        obtain ⟨j, hj⟩ := List.getElem?_of_mem hd
        have := (List.getElem?_eq_some_iff.mp hj).1
        obtain ⟨t, et, _⟩ := eqs j (by omega)
        rw [hj] at et
        cases et; rfl
      rw [List.length_map] at ul dl
      have hT := da_tiesW hA
      have all : ∀ t ∈ l, nrB ts t.1 t.2 = true := fun t ht => by
        obtain ⟨j, hj⟩ := List.getElem?_of_mem ht
        have := (List.getElem?_eq_some_iff.mp hj).1
        obtain ⟨t', et, hnr⟩ := eqs j (by omega)
        rw [List.getElem?_map, hj] at et
        have := map_dT_inj (l := [t]) (l' := [t']) (by
          rw [List.map_singleton, List.map_singleton]
          exact congrArg (fun z => [z]) (Option.some.inj et))
        injection this with this _
        rw [this]; exact hnr
      have fin : ∀ b H', b = stB ts l → Same H H' → Q (.bl b) H' := fun b H' e s => q b H' ⟨fun l' e' => by
        injection e' with e'
        rw [← map_dT_inj e', e]
        unfold wkB
        rw [show l.all (arB ts) = true from List.all_eq_true.mpr fun t ht => all t ht, show l.isEmpty = false from by
          cases l
          · exact absurd rfl h0
          · rfl]
        rfl, fun hn => (hn l rfl).elim⟩ s
      refine ⟨_, rfl, _, rfl, _, rfl, Al, _, rfl, SqL.of (sX _ _ eA), fun A2 nA2 => ?_⟩
      rw [show cutV us (some 1) none = us.drop 1 from cutFrom us 1]
      have s3 := sX.trans (same_new (o := .lst (us.drop 1)) nA2)
      have eA2 := upd_same (H := HX) (a := A2) (o := HO.lst (us.drop 1))
      generalize upd HX A2 _ = H3 at s3 eA2 ⊢
      refine ⟨Al, A2, us, us.drop 1, rfl, SqL.of (s3 _ _ eA), SqL.of eA2, fun D nD => ?_⟩
      have lp : us.length - 1 = min us.length (us.drop 1).length := by rw [List.length_drop]; omega
      refine wk (walk_zip (K := K) (a := Al) (b := A2) (xs := us) (ys := us.drop 1) rfl) (fun i HM => ∃ bs : List Bool, Same H3 HM ∧ HM D = some (.lst (bs.map V.bl)) ∧ bs.length = i ∧ ∀ (j : Nat) (x y : Ar), j < i → l[j]? = some x → l[j + 1]? = some y → bs[j]? = some (fcB ts x y)) ⟨[], same_new nD, upd_same, rfl, fun j x y hj => absurd hj (Nat.not_lt_zero _)⟩ ?_ ?_ ?_
      · rintro i HM _ ⟨_, sM, _⟩
        exact ⟨SqL.of (sM _ _ (s3 _ _ eA)), SqL.of (sM _ _ eA2)⟩
      · rintro i x HM HM' hi ⟨bs, sM, eDM, bl, ok⟩ ⟨T, x1, x2, rfl, nT, rfl, ex1, ex2⟩
        dsimp only at ex1 ex2
        rw [List.getElem?_drop, Nat.add_comm] at ex2
        have sT := same_new (o := .tup [x1, x2]) nT
        have s4 := (s3.trans sM).trans sT
        obtain ⟨a1, e1, h1⟩ := (hT.mono (Same.tst s4)).at ex1
        obtain ⟨a2, e2, h2⟩ := (hT.mono (Same.tst s4)).at ex2
        have ar1 := (nrB_arS hW).mp (all a1 (List.mem_of_getElem? e1))
        have ar2 := (nrB_arS hW).mp (all a2 (List.mem_of_getElem? e2))
        refine ⟨T, _, rfl, SqT.of upd_same, rfl, _, _, rfl, _, _, rfl, rfl, rfl, yes ?_⟩
        refine ⟨_, rfl, ?_⟩
        refine ⟨_, rfl, ?_⟩
        refine ⟨_, rfl, ?_⟩
        refine ⟨_, rfl, ?_⟩
        refine ⟨v, x1, Dn, kvs, n, ts, a1, rfl, hWeb.mono (Same.tst s4), by omega, s4 _ _ eD, hN, h1, arS_inR ar1, fun p fs H5 np s5 ep hF => ?_⟩
        have s45 := s4.trans s5
        have fl : SeqAt.shaped (.list ((frcS n ts a1).map dT)) = true := shaped_ties _
        refine ⟨dT a2, (frcS n ts a1).map dT, (h2.mono (Same.tst s5)).dp, .lst (SqL.of ep) hF.dp, shaped_dT _, fl, ?_⟩
        rw [any_dT, ← fc_frc hW ar1 ar2]
        have eD5 := s5 _ _ (sT _ _ eDM)
        refine ⟨_, eD5, sz' (by rw [List.length_map]; omega), bs ++ [fcB ts a1 a2], Same.put ((sM.trans sT).trans s5) nD, by rw [upd_same, List.map_append]; rfl, by rw [List.length_append, bl]; rfl, fun j x y hj ex ey => ?_⟩
        rcases Nat.lt_or_ge j i with z | z
        · rw [List.getElem?_append_left (by omega)]
          exact ok j x y z ex ey
        · obtain rfl : j = i := by omega
          rw [e1] at ex
          rw [e2] at ey
          cases ex; cases ey
          rw [List.getElem?_append_right (by omega), bl, Nat.sub_self]; rfl
      · rintro H5 ⟨bs, s5, eD5, bl, ok⟩
        refine ⟨D, bs, rfl, SqL.of eD5, fin _ _ ?_ (s3.trans s5)⟩
        rw [Bool.eq_iff_iff, List.all_eq_true, stB_iff]
        constructor
        · intro h i x y ex ey
          have hi := (List.getElem?_eq_some_iff.mp ey).1
          have := ok i x y (by omega) ex ey
          exact h _ (List.mem_of_getElem? this)
        · intro h b hb
          obtain ⟨j, hj⟩ := List.getElem?_of_mem hb
          have hj' := (List.getElem?_eq_some_iff.mp hj).1
          have e1 : l[j]? = some l[j] := List.getElem?_eq_getElem (by omega)
          have e2 : l[j + 1]? = some l[j + 1] := List.getElem?_eq_getElem (by omega)
          have := ok j _ _ (by omega) e1 e2
          rw [hj] at this
          rw [Option.some.inj this]
          exact h j _ _ e1 e2
end
end My

set_option Elab.async false
set_option linter.all false
set_option maxRecDepth 100000
set_option maxHeartbeats 4000000
set_option pp.maxSteps 900
namespace My
open PySem PySem.Spec PyProof.Rows L2 GxR
theorem stB_snocW {ts : List Ar} : ∀ {l : List Ar} {a x : Ar}, stB ts l = true → l.getLast? = some a → fcB ts a x = true → stB ts (l ++ [x]) = true
  | [], _, _, _, e, _ => by cases e
  | [b], a, x, _, e, h => by
    have e' : b = a := Option.some.inj e
    rw [← e'] at h
    show (fcB ts b x && true) = true
    rw [h]; rfl
  | b :: c :: l, a, x, hs, e, h => by
    rw [stB, Bool.and_eq_true] at hs
    show (fcB ts b c && stB ts (c :: l ++ [x])) = true
    rw [hs.1, stB_snocW (l := c :: l) hs.2 (by rw [← e]; rfl) h]; rfl
section
variable {P : Program} {w : World} {K : PySem.W.Frag} {mg : Str → Option Value} {base : Heap}
/-! ### _law_walk -/
abbrev s__law_walk : Stmt := topS 33
abbrev N__law_walk : List Str := ["_law_left_here", "_law_web_here", "_law_near_here", "_law_arrow_here", "_law_found", "_law_turn", "_law_some"]
theorem sc__law_walk : FnScope N__law_walk ["_law_left_here", "_law_web_here", "_law_near_here", "_law_arrow_here"] (defScope s__law_walk) := ⟨rfl, rfl, rfl, by decide +kernel, rfl, by decide +kernel, by decide +kernel⟩
def sp_walk16 : Sp := fun vs H Q _ => ∃ (L Dn : Addr) (v x : V) (c : Int) (n : Nat) (ts : List Ar) (kvs : List (List Key × V)) (t : Ar), vs = [.ref L, v, .ref Dn, x] ∧ Lf H L c ∧ c < 2 ^ 46 ∧ Web H v n ts ∧ WOk n ts ∧ n ≤ 12 ∧ H Dn = some (.dT kvs) ∧ NearD kvs ts ∧ Tie H x t ∧ t ∈ arS n ts ∧
  ∀ p us (l : List Ar) H', H p = none → Fr L H H' → Lf H' L (c + 10) → H' p = some (.lst us) → Ties H' us l → l.length ≤ 10 → l.head? = some t → (∀ y ∈ l, y ∈ arS n ts) → wkB ts l = true → Q (.ref p) H'
theorem ok_walk16 {f : Addr} {fd : FuncData} (B : Bts mg) (F : Fun K "_law_walk" "_law_walk" s__law_walk f fd) (c__law_pick : Cl P w K mg base 2 "_law_pick" sp_pick) (c__law_forced : Cl P w K mg base 1 "_law_forced" sp_forced) : FnOk P w K mg base CX0 3 f fd ["_law_left_here", "_law_web_here", "_law_near_here", "_law_arrow_here"] sp_walk16 := by
  refine F.ok sc__law_walk (fun vs H Q E h => ?_) (fun cdv A outer s H vs Q E hr h => ?_)
  · obtain ⟨L, Dn, v, x, c, n, ts, kvs, t, rfl, _⟩ := h; rfl
  · obtain ⟨L, Dn, v, x, c, n, ts, kvs, t, rfl, lf, hc, hWeb, hW, hn, eD, hN, hx, ht, q⟩ := h
    refine ⟨_, (pss_cons (ps_set (i := 4) sc__law_walk.nd rfl (by first | exact Or.inl rfl | exact Or.inr rfl) (pe_lst (pa_cons (pv 3) pa_nil)))
    (pss_cons (ps_for PassesOwn.never rfl (pi_range1 (by rfl) B.range (pa_cons (pe_c c__law_pick hr (by decide) (by rfl) (pa_cons (pv 0) (pa_cons pe_int pa_nil))) pa_nil)) (pg_name (i := 5) sc__law_walk.nd rfl (by first | exact Or.inl rfl | exact Or.inr rfl))
      (pss_cons (ps_set (i := 6) sc__law_walk.nd rfl (by first | exact Or.inl rfl | exact Or.inr rfl) (pe_c c__law_forced hr (by decide) (by rfl) (pa_cons (pv 1) (pa_cons (pv 2) (pa_cons (pe_ix ix_list (pv 4) (pe_un un_neg pe_int) (fun _ _ => rfl)) pa_nil)))))
      (pss_one (ps_if (pt_cmpR (op_neD hr.units) (pv 6) (pe_lst pa_nil) (nomark _)) (pss_one (ps_expr (pe_bm PySem.F.plainAttrs_list PySem.F.slot_list_append PySem.F.type_list_append mt_append (pv 4) (pa_cons (pe_ix ix_list (pv 6) (pe_c c__law_pick hr (by decide) (by rfl) (pa_cons (pv 0) (pa_cons (pe_callB call_len_seq (by rfl) B.len (by decide +kernel) (pa_cons (pv 6) pa_nil)) pa_nil))) (fun _ _ => rfl)) pa_nil)))) pss_nil))))
    (pss_one (ps_ret (pv 4))))), ?_⟩
    refine ⟨_, rfl, by show 1 ≤ sizeLine; decide, fun F nF => ?_⟩
    have sF := same_new (o := .lst [x]) nF
    have FL : F ≠ L := lf.ne nF
    have DL : Dn ≠ L := fun z => by
      obtain ⟨_, _, _, e, _⟩ := lf
      rw [z, e] at eD; cases eD
    have DF : Dn ≠ F := ne_of_none eD nF
    have lfF := lf.same sF
    refine ⟨_, rfl, L, _, _, rfl, lfF, by decide, by decide, by omega, fun g HG g0 g1 frG lfG => ?_⟩
    have f0 : FrM [L, F] H HG := fun b o nb e => frG b o (fun z => nb (by rw [z]; exact List.mem_cons_self)) (sF _ _ e)
    have eF0 := frG _ _ FL (upd_same (H := H) (a := F) (o := HO.lst [x]))
    have noT : ∀ p ∈ [L, F], ∀ xs, H p ≠ some (.tup xs) := fun p hp xs z => by
      rcases List.mem_cons.mp hp with rfl | hp
      · obtain ⟨_, _, _, e, _⟩ := lf
        rw [e] at z; cases z
      · rw [List.mem_singleton.mp hp, nF] at z; cases z
    have tst : ∀ {HX : Hp}, FrM [L, F] H HX → Tst H HX := fun fr b xs e => fr b _ (fun z => noT b z _ e) e
    have eDX : ∀ {HX : Hp}, FrM [L, F] H HX → HX Dn = some (.dT kvs) := fun fr => fr _ _ (by simp [DL, DF]) eD
    refine ⟨_, rfl, by omega, by omega, ?_⟩
    refine for_range (fun i σ HX => ∃ y5 y6 us l, σ = [some (.ref L), some v, some (.ref Dn), some x, some (.ref F), y5, y6] ∧ FrM [L, F] H HX ∧ Lf HX L (c + 1 + i) ∧ HX F = some (.lst us) ∧ Ties HX us l ∧ l.length ≤ 1 + i ∧ l.head? = some t ∧ (∀ y ∈ l, y ∈ arS n ts) ∧ stB ts l = true) ⟨_, _, [x], [t], rfl, f0, lfG.mono (by omega), eF0, Ties.one (hx.mono (tst f0)), Nat.le_refl _, rfl, fun y hy => by rw [List.mem_singleton.mp hy]; exact ht, rfl⟩ ?_ ?_
    · rintro i σ HX hi ⟨y5, y6, us, l, rfl, fX, lfX, eF, hT, ll, lh, lA, hst⟩
      have hi9 : i < 9 := by omega
      have tX := tst fX
      have ul := hT.len
      have lne : l ≠ [] := fun z => by rw [z] at lh; cases lh
      have lp : 0 < l.length := List.length_pos_iff.mpr lne
      have gz : us[us.length - 1]? = some us[us.length - 1] := List.getElem?_eq_getElem (by omega)
      generalize us[us.length - 1] = z at gz
      obtain ⟨a, ea, ha⟩ := hT.at gz
      have el : l.getLast? = some a := by rw [List.getLast?_eq_getElem?, ← ul]; exact ea
      have aA := lA a (List.mem_of_getElem? ea)
      refine ⟨_, rfl, _, rfl, _, rfl, _, rfl, F, us, -1, z, rfl, rfl, SqL.of eF, atI_last gz (by omega), ?_⟩
      refine ⟨v, z, Dn, kvs, n, ts, a, rfl, hWeb.mono tX, by omega, eDX fX, hN, ha, arS_inR aA, fun p fs H5 np s5 ep hF => ?_⟩
      have f5 := fX.trans (FrM.same s5)
      have t5 := tst f5
      have lf5 := lfX.same s5
      have eF5 := s5 _ _ eF
      have fl := hF.len
      refine ⟨_, rfl, Nat.zero_le _, fun e ne => ?_⟩
      have se := same_new (o := .lst []) ne
      have es : PyData.eqv (.list ((frcS n ts a).map dT)) (.list []) = (frcS n ts a).isEmpty := by cases frcS n ts a <;> rfl
      refine ⟨_, _, .lst (SqL.of (se _ _ ep)) (hF.mono (Same.tst se)).dp, .lst (SqL.of upd_same) .nil, shaped_ties _, by decide +kernel, ?_⟩
      rw [es]
      have f6 := f5.trans (FrM.same se)
      have lf6 := lf5.same se
      have eF6 := se _ _ eF5
      have ep6 := se _ _ ep
      have hF6 := hF.mono (Same.tst se)
      have hT6 := hT.mono (Same.tst (s5.trans se))
      generalize upd H5 e (.lst []) = H6 at f6 lf6 eF6 ep6 hF6 hT6 ⊢
      by_cases h0 : frcS n ts a = []
      · rw [h0]
        exact ⟨false, rfl, iteF ⟨_, _, us, l, rfl, f6, lf6.mono (by omega), eF6, hT6, by omega, lh, lA, hst⟩⟩
      rw [show (frcS n ts a).isEmpty = false from by cases h : frcS n ts a; exact absurd h h0; rfl]
      refine ⟨true, rfl, iteT ?_⟩
      have fp : 0 < fs.length := by rw [fl]; exact List.length_pos_iff.mpr h0
      have fll : fs.length < 100000 := by
        rw [fl]
        have h1 := frcS_len (n := n) (ts := ts) (t := a)
        have := Nat.mul_le_mul hn hn
        omega
      refine ⟨_, rfl, .inl ⟨rfl, _, SqL.of eF6⟩, ?_⟩
      refine ⟨_, rfl, _, rfl, _, rfl, p, fs, rfl, .inl (SqL.of ep6), L, _, _, rfl, lf6, by omega, by omega, by omega, fun r H7 r0 r1 fr7 lf7 => ?_⟩
      have pL : p ≠ L := fun z => by
        obtain ⟨_, _, _, e', _⟩ := lfX
        rw [z, e'] at np; cases np
      obtain ⟨j, rfl⟩ : ∃ j : Nat, r = (j : Int) := ⟨r.toNat, by omega⟩
      have hj : j < fs.length := by omega
      have t67 := lf6.tst fr7
      obtain ⟨b, eb, hb⟩ := (hF6.mono t67).at (List.getElem?_eq_getElem hj)
      have bm := List.mem_of_getElem? eb
      have bA : b ∈ arS n ts := frcS_ar (arS_inR aA) bm
      have eF7 := fr7 _ _ FL eF6
      refine ⟨p, fs, _, fs[j], rfl, rfl, SqL.of (fr7 _ _ pL ep6), atI_nat (List.getElem?_eq_getElem hj), ?_⟩
      refine ⟨F, us, _, rfl, rfl, eF7, sz' (by omega), ?_⟩
      have tp := tst_put (o := .lst (us ++ [fs[j]])) eF7
      refine ⟨_, _, us ++ [fs[j]], l ++ [b], rfl, ?_, (lf7.put FL).mono (by omega), upd_same, ((hT6.mono t67).mono tp).app (Ties.one (hb.mono tp)), by rw [List.length_append]; simp; omega, ?_, ?_, ?_⟩
      · exact (f6.trans (fun b' o nb e' => fr7 b' o (fun z => nb (by rw [z]; exact List.mem_cons_self)) e')).put (by simp)
      · cases l with
        | nil => exact absurd rfl lne
        | cons a' l' => exact lh
      · intro y hy
        rcases List.mem_append.mp hy with hy | hy
        · exact lA y hy
        · rw [List.mem_singleton.mp hy]; exact bA
      · exact stB_snocW hst el (by rw [fc_frc hW aA bA]; exact decide_eq_true bm)
    · rintro σ HX ⟨y5, y6, us, l, rfl, fX, lfX, eF, hT, ll, lh, lA, hst⟩
      have wk : wkB ts l = true := by
        unfold wkB
        rw [hst, show l.all (arB ts) = true from List.all_eq_true.mpr fun y hy => (nrB_arS hW).mpr (lA y hy), show l.isEmpty = false from by
          cases l
          · cases lh
          · rfl]
        rfl
      refine ⟨_, rfl, q F us l HX nF (fun b o nb e => fX b o (fun z => ?_) e) (lfX.mono (by omega)) eF hT (by omega) lh lA wk⟩
      rcases List.mem_cons.mp z with z | z
      · exact nb z
      · rw [List.mem_singleton.mp z, nF] at e; cases e
/-! ### _law_bent -/
abbrev s__law_bent : Stmt := topS 34
abbrev N__law_bent : List Str := ["_law_left_here", "_law_web_here", "_law_way", "_law_at", "_law_a", "_law_b", "_law_some", "_law_how"]
theorem sc__law_bent : FnScope N__law_bent ["_law_left_here", "_law_web_here", "_law_way"] (defScope s__law_bent) := ⟨rfl, rfl, rfl, by decide +kernel, rfl, by decide +kernel, by decide +kernel⟩
def sp_bent16 : Sp := fun vs H Q _ => ∃ (L p : Addr) (v : V) (us : List V) (c : Int) (n : Nat) (ts l : List Ar) (N : List Addr), vs = [.ref L, v, .ref p] ∧ Lf H L c ∧ L ∈ N ∧ (∀ b ∈ N, H b ≠ none) ∧ (∀ b ∈ N, ∀ xs, H b ≠ some (.tup xs)) ∧ Web H v n ts ∧ WOk n ts ∧ n ≤ 12 ∧ p ≠ L ∧ H p = some (.lst us) ∧ Ties H us l ∧ us ≠ [] ∧ us.length ≤ 300 ∧
    (∀ t ∈ l, t ∈ arS n ts) ∧ c < 2 ^ 46 ∧ ∀ x H', Fr L H H' → Lf H' L (c + 10) → Kt N H' x 3 20000 → Q x H'
theorem ok_bent16 {f : Addr} {fd : FuncData} (B : Bts mg) (F : Fun K "_law_bent" "_law_bent" s__law_bent f fd) (c__law_pick : Cl P w K mg base 2 "_law_pick" sp_pick) (c__law_arrow : Cl P w K mg base 3 "_law_arrow" sp_larrow) :
    FnOk P w K mg base CX0 4 f fd ["_law_left_here", "_law_web_here", "_law_way"] sp_bent16 := by
  refine F.ok sc__law_bent (fun vs H Q E h => ?_) (fun cdv A outer s H vs Q E hr h => ?_)
  · obtain ⟨L, p, v, us, c, n, ts, l, N, rfl, _⟩ := h; rfl
  · obtain ⟨L, p, v, us, c, n, ts, l, N, rfl, lf, hN, al, nt, hWeb, hW, hn, pL, ep, hT, une, ul, hl, hc, q⟩ := h
    refine ⟨_, (pss_cons (ps_set (i := 3) sc__law_bent.nd rfl (by first | exact Or.inl rfl | exact Or.inr rfl) (pe_c c__law_pick hr (by decide) (by rfl) (pa_cons (pv 0) (pa_cons (pe_callB call_len_seq (by rfl) B.len (by decide +kernel) (pa_cons (pv 2) pa_nil)) pa_nil))))
    (pss_cons (ps_asg (pe_ix ix_list (pv 2) (pv 3) (fun _ _ => rfl)) (pg_tup rfl (pgs_cons (pg_name (i := 4) sc__law_bent.nd rfl (by first | exact Or.inl rfl | exact Or.inr rfl)) (pgs_cons (pg_name (i := 5) sc__law_bent.nd rfl (by first | exact Or.inl rfl | exact Or.inr rfl)) pgs_nil))))
    (pss_cons (ps_set (i := 6) sc__law_bent.nd rfl (by first | exact Or.inl rfl | exact Or.inr rfl) (pe_cut (pe_lst (pa_cons (pe_tup (pa_cons (pv 5) (pa_cons (pv 4) pa_nil))) (pa_cons (pe_lst (pa_cons (pv 4) (pa_cons (pv 5) pa_nil))) (pa_cons (pe_tup (pa_cons (pv 4) (pa_cons (pv 5) (pa_cons (pv 4) pa_nil)))) (pa_cons (pe_tup (pa_cons (pv 4) pa_nil)) (pa_cons (pe_tup (pa_cons (pv 4) (pa_cons (pv 4) pa_nil))) (pa_cons (pe_tup (pa_cons (pv 5) (pa_cons (pv 5) pa_nil))) (pa_cons (pe_tup (pa_cons (pv 4) (pa_cons (pe_op op_add (pv 5) pe_int) pa_nil))) (pa_cons (pe_tup (pa_cons (pe_op op_add (pv 4) pe_int) (pa_cons (pv 5) pa_nil))) (pa_cons (pe_tup (pa_cons (pe_cmpR op_eq (pv 4) pe_int (nomark _)) (pa_cons (pv 5) pa_nil))) (pa_cons (pe_tup (pa_cons (pv 4) (pa_cons (pe_cmpR op_eq (pv 5) pe_int (nomark _)) pa_nil))) pa_nil)))))))))))))
    (pss_cons (ps_set (i := 6) sc__law_bent.nd rfl (by first | exact Or.inl rfl | exact Or.inr rfl) (pe_cut (pe_op op_cat (pv 6) (pe_lst (pa_cons pe_non (pa_cons (pe_tup pa_nil) (pa_cons (pe_callTy call_str_int (by rfl) B.str (by decide +kernel) (pa_cons (pv 4) pa_nil)) (pa_cons (pe_c c__law_arrow hr (by decide) (by rfl) (pa_cons (pv 0) (pa_cons (pv 1) pa_nil))) (pa_cons (pe_c c__law_arrow hr (by decide) (by rfl) (pa_cons (pv 0) (pa_cons (pv 1) pa_nil))) (pa_cons (pe_tup (pa_cons (pe_ix ix_tup (pv 1) pe_int (fun _ _ => rfl)) (pa_cons (pv 4) pa_nil))) (pa_cons (pe_tup (pa_cons (pe_un un_neg pe_int) (pa_cons (pv 5) pa_nil))) (pa_cons (pe_tup (pa_cons (pe_tup (pa_cons (pv 4) (pa_cons (pv 5) pa_nil))) pa_nil)) pa_nil))))))))))))
    (pss_cons (ps_set (i := 7) sc__law_bent.nd rfl (by first | exact Or.inl rfl | exact Or.inr rfl) (pe_c c__law_pick hr (by decide) (by rfl) (pa_cons (pv 0) (pa_cons pe_int pa_nil))))
    (pss_cons (ps_if (pt_cmpR op_lt (pv 7) pe_int (nomark _)) (pss_one (ps_ret (pe_cut (pe_op op_cat (pe_cut (pe_op op_cat (pe_cut (pe_slice sl_list (pv 2) po_none (po_some (pv 3)))) (pe_lst (pa_cons (pe_ix ix_list (pv 6) (pe_c c__law_pick hr (by decide) (by rfl) (pa_cons (pv 0) (pa_cons (pe_callB call_len_seq (by rfl) B.len (by decide +kernel) (pa_cons (pv 6) pa_nil)) pa_nil))) (fun _ _ => rfl)) pa_nil)))) (pe_cut (pe_slice sl_list (pv 2) (po_some (pe_op op_add (pv 3) pe_int)) po_none)))))) pss_nil)
    (pss_cons (ps_if (pt_cmpR op_eq (pv 7) pe_int (nomark _)) (pss_one (ps_ret (pe_cut (pe_op op_cat (pe_cut (pe_slice sl_list (pv 2) po_none (po_some (pv 3)))) (pe_cut (pe_slice sl_list (pv 2) (po_some (pe_op op_add (pv 3) pe_int)) po_none)))))) pss_nil)
    (pss_cons (ps_if (pt_cmpR op_eq (pv 7) pe_int (nomark _)) (pss_one (ps_ret (pe_cut (pe_op op_cat (pe_cut (pe_op op_cat (pe_cut (pe_slice sl_list (pv 2) po_none (po_some (pv 3)))) (pe_cut (pe_slice sl_list (pv 2) (po_some (pv 3)) (po_some (pe_op op_add (pv 3) pe_int)))))) (pe_cut (pe_slice sl_list (pv 2) (po_some (pv 3)) po_none)))))) pss_nil)
    (pss_one (ps_ret (pe_ix ix_list (pe_lst (pa_cons (pe_revL (pv 2)) (pa_cons (pe_callTy call_tuple_of (by rfl) B.tuple (by decide +kernel) (pa_cons (pv 2) pa_nil)) pa_nil))) (pe_op op_sub (pv 7) pe_int) (fun _ _ => rfl)))))))))))), ?_⟩
    have lpos : 0 < us.length := List.length_pos_iff.mpr une
    have tl := hT.len
    have hR : ∀ t ∈ l, 0 ≤ t.1 ∧ t.1 < 20 ∧ 0 ≤ t.2 ∧ t.2 < 20 := fun t ht => by
      have := arS_inR (hl t ht)
      obtain ⟨a1, a2, a3, a4⟩ := this
      omega
    have hARr : ∀ t ∈ arS n ts, 0 ≤ t.1 ∧ t.1 < 20 ∧ 0 ≤ t.2 ∧ t.2 < 20 := fun t ht => by
      obtain ⟨a1, a2, a3, a4⟩ := arS_inR ht
      omega
    have tsne : ts ≠ [] := fun z => by
      cases l with
      | nil => rw [List.length_nil] at tl; omega
      | cons t l =>
        have := (mem_arS hW).mp (hl t List.mem_cons_self)
        rw [z] at this
        rcases this with h | h <;> cases h
    have t144 : ts.length ≤ 10000 := wok_len hW (by omega)
    refine ⟨_, rfl, _, rfl, p, us, rfl, .inl (SqL.of ep), L, _, _, rfl, lf, by omega, by omega, by omega, fun at' H1 a0 a1 fr1 lf1 => ?_⟩
    obtain ⟨j, rfl⟩ : ∃ j : Nat, at' = (j : Int) := ⟨at'.toNat, by omega⟩
    have hj : j < us.length := by omega
    have t1 := lf.tst fr1
    have ep1 := fr1 _ _ pL ep
    have hT1 := hT.mono t1
    have al1 := al_fr al fr1 lf1
    have nt1 := noTup_fr nt al fr1 lf1
    have hWeb1 := hWeb.mono t1
    obtain ⟨t, et, ht⟩ := hT1.at (List.getElem?_eq_getElem hj)
    obtain ⟨h1, h2, h3, h4⟩ := hR t (List.mem_of_getElem? et)
    obtain ⟨pt, ept0, ept⟩ := ht
    refine ⟨_, rfl, _, rfl, p, _, _, _, rfl, rfl, SqL.of ep1, atI_nat (List.getElem?_eq_getElem hj), pt, _, ept0, SqT.of ept, rfl, _, _, rfl, _, _, rfl, rfl, ?_⟩
    refine ⟨fun x HX => LsO N H1 HX 10 2 60 x, ?_, ?_⟩
    · have kta : KT _ H1 H1 [(.int t.1, 0, 3), (.int t.2, 0, 3), (.int (t.1 + 1), 0, 3), (.int (t.2 + 1), 0, 3), (.bl (decide (V.int t.1 = V.int 1)), 0, 5), (.bl (decide (V.int t.2 = V.int 1)), 0, 5)] := (KT.add (KT.add (KT.add (KT.add (KT.add (KT.add (KT.nil al1) (Kt.bl (by decide))) (Kt.bl (by decide))) (Kt.int (by decide) (by omega) (by omega))) (Kt.int (by decide) (by omega) (by omega))) (Kt.int (by decide) (by omega) (by omega))) (Kt.int (by decide) (by omega) (by omega)))
      refine ⟨_, rfl, _, rfl, (by show 2 ≤ sizeLine; decide), fun a2 na2 => ?_⟩
      have kt2 := KT.newT kta [1, 0] 0 4 1 15 (us := [.int t.2, .int t.1]) na2 rfl rfl rfl rfl rfl
      have ea2 := upd_same (H := H1) (a := a2) (o := HO.tup [.int t.2, .int t.1])
      have s2 := same_new (o := HO.tup [.int t.2, .int t.1]) na2
      generalize upd H1 a2 _ = H2 at kt2 ea2 s2 ⊢
      refine ⟨_, rfl, _, rfl, (by show 2 ≤ sizeLine; decide), fun a3 na3 => ?_⟩
      have kt3 := KT.newL kt2 [1, 2] 0 4 1 15 (us := [.int t.1, .int t.2]) na3 rfl rfl rfl rfl rfl
      have ea3 := upd_same (H := H2) (a := a3) (o := HO.lst [.int t.1, .int t.2])
      have s3 := same_new (o := HO.lst [.int t.1, .int t.2]) na3
      generalize upd H2 a3 _ = H3 at kt3 ea3 s3 ⊢
      refine ⟨_, rfl, _, rfl, _, rfl, (by show 3 ≤ sizeLine; decide), fun a4 na4 => ?_⟩
      have kt4 := KT.newT kt3 [2, 3, 2] 0 4 1 21 (us := [.int t.1, .int t.2, .int t.1]) na4 rfl rfl rfl rfl rfl
      have ea4 := upd_same (H := H3) (a := a4) (o := HO.tup [.int t.1, .int t.2, .int t.1])
      have s4 := same_new (o := HO.tup [.int t.1, .int t.2, .int t.1]) na4
      generalize upd H3 a4 _ = H4 at kt4 ea4 s4 ⊢
      refine ⟨_, rfl, (by show 1 ≤ sizeLine; decide), fun a5 na5 => ?_⟩
      have kt5 := KT.newT kt4 [3] 0 4 1 9 (us := [.int t.1]) na5 rfl rfl rfl rfl rfl
      have ea5 := upd_same (H := H4) (a := a5) (o := HO.tup [.int t.1])
      have s5 := same_new (o := HO.tup [.int t.1]) na5
      generalize upd H4 a5 _ = H5 at kt5 ea5 s5 ⊢
      refine ⟨_, rfl, _, rfl, (by show 2 ≤ sizeLine; decide), fun a6 na6 => ?_⟩
      have kt6 := KT.newT kt5 [4, 4] 0 4 1 15 (us := [.int t.1, .int t.1]) na6 rfl rfl rfl rfl rfl
      have ea6 := upd_same (H := H5) (a := a6) (o := HO.tup [.int t.1, .int t.1])
      have s6 := same_new (o := HO.tup [.int t.1, .int t.1]) na6
      generalize upd H5 a6 _ = H6 at kt6 ea6 s6 ⊢
      refine ⟨_, rfl, _, rfl, (by show 2 ≤ sizeLine; decide), fun a7 na7 => ?_⟩
      have kt7 := KT.newT kt6 [6, 6] 0 4 1 15 (us := [.int t.2, .int t.2]) na7 rfl rfl rfl rfl rfl
      have ea7 := upd_same (H := H6) (a := a7) (o := HO.tup [.int t.2, .int t.2])
      have s7 := same_new (o := HO.tup [.int t.2, .int t.2]) na7
      generalize upd H6 a7 _ = H7 at kt7 ea7 s7 ⊢
      refine ⟨_, rfl, _, rfl, _, _, rfl, rfl, (by show 2 ≤ sizeLine; decide), fun a8 na8 => ?_⟩
      have kt8 := KT.newT kt7 [6, 9] 0 4 1 15 (us := [.int t.1, .int (t.2 + 1)]) na8 rfl rfl rfl rfl rfl
      have ea8 := upd_same (H := H7) (a := a8) (o := HO.tup [.int t.1, .int (t.2 + 1)])
      have s8 := same_new (o := HO.tup [.int t.1, .int (t.2 + 1)]) na8
      generalize upd H7 a8 _ = H8 at kt8 ea8 s8 ⊢
      refine ⟨_, rfl, _, _, rfl, rfl, _, rfl, (by show 2 ≤ sizeLine; decide), fun a9 na9 => ?_⟩
      have kt9 := KT.newT kt8 [9, 8] 0 4 1 15 (us := [.int (t.1 + 1), .int t.2]) na9 rfl rfl rfl rfl rfl
      have ea9 := upd_same (H := H8) (a := a9) (o := HO.tup [.int (t.1 + 1), .int t.2])
      have s9 := same_new (o := HO.tup [.int (t.1 + 1), .int t.2]) na9
      generalize upd H8 a9 _ = H9 at kt9 ea9 s9 ⊢
      refine ⟨_, rfl, rfl, _, rfl, (by show 2 ≤ sizeLine; decide), fun a10 na10 => ?_⟩
      have kt10 := KT.newT kt9 [12, 9] 0 5 1 17 (us := [.bl (decide (V.int t.1 = V.int 1)), .int t.2]) na10 rfl rfl rfl rfl rfl
      have ea10 := upd_same (H := H9) (a := a10) (o := HO.tup [.bl (decide (V.int t.1 = V.int 1)), .int t.2])
      have s10 := same_new (o := HO.tup [.bl (decide (V.int t.1 = V.int 1)), .int t.2]) na10
      generalize upd H9 a10 _ = H10 at kt10 ea10 s10 ⊢
      refine ⟨_, rfl, _, rfl, rfl, (by show 2 ≤ sizeLine; decide), fun a11 na11 => ?_⟩
      have kt11 := KT.newT kt10 [9, 14] 0 5 1 17 (us := [.int t.1, .bl (decide (V.int t.2 = V.int 1))]) na11 rfl rfl rfl rfl rfl
      have ea11 := upd_same (H := H10) (a := a11) (o := HO.tup [.int t.1, .bl (decide (V.int t.2 = V.int 1))])
      have s11 := same_new (o := HO.tup [.int t.1, .bl (decide (V.int t.2 = V.int 1))]) na11
      generalize upd H10 a11 _ = H11 at kt11 ea11 s11 ⊢
      have items := KT.items kt11 [9, 8, 7, 6, 5, 4, 3, 2, 1, 0] (us := [.ref a2, .ref a3, .ref a4, .ref a5, .ref a6, .ref a7, .ref a8, .ref a9, .ref a10, .ref a11]) (k := 2) (W := 60) rfl rfl (by decide)
      exact ⟨by show 10 ≤ sizeLine; decide, fun S nS => LsO.of kt11 nS items rfl⟩
    rintro x1 H2 hx1
    obtain ⟨S1, us1, rfl, nS1, e1, l1, k1, q12, nS0⟩ := id hx1
    have al2 := al_same al1 q12
    have lf2 := lf1.same q12
    have S1L : S1 ≠ L := fun z => nS1 (z ▸ hN)
    have nt2 : ∀ b ∈ N, ∀ xs, H2 b ≠ some (.tup xs) := noTup_fr nt1 al1 (Fr.of q12) lf2
    have hWeb2 := hWeb1.mono (Same.tst q12)
    refine ⟨fun x HX => ∃ S us, x = .ref S ∧ S ∉ N ∧ S ≠ p ∧ HX S = some (.lst us) ∧ us.length = 18 ∧ KtL N HX us 2 60 ∧ Fr L H2 HX ∧ Lf HX L (c + 5), ?_, ?_⟩
    · have ktb : KT _ H2 H2 [(.non, 0, 4), (.str (toString t.1), 0, 6)] := (KT.add (KT.add (KT.nil al2) (Kt.strI (by decide) (by omega) (by omega))) (Kt.non (by decide)))
      refine ⟨_, rfl, ?_⟩
      refine ⟨ Nat.zero_le _, fun a12 na12 => ?_⟩
      have kt12 := KT.newT ktb [] 0 4 1 3 (us := []) na12 rfl rfl rfl rfl rfl
      have ea12 := upd_same (H := H2) (a := a12) (o := HO.tup [])
      have s12 := same_new (o := HO.tup []) na12
      generalize upd H2 a12 _ = H12 at kt12 ea12 s12 ⊢
      refine ⟨_, rfl, _, rfl, Nat.lt_of_le_of_lt (Nat.log2_le_self _) (by omega), ?_⟩
      refine ⟨_, rfl, _, rfl, L, v, _, n, ts, rfl, lf2.same kt12.same, by omega, hWeb2.mono (Same.tst kt12.same), hW, t144, tsne, fun w1 H3 b1 hb1 fr3 lf3 hw1 => ?_⟩
      refine ⟨_, rfl, _, rfl, L, v, _, n, ts, rfl, lf3, by omega, (hWeb2.mono (Same.tst kt12.same)).mono ((lf2.same kt12.same).tst fr3), hW, t144, tsne, fun w2 H4 b2 hb2 fr4 lf4 hw2 => ?_⟩
      have fr24 : Fr L H2 H4 := (Fr.of kt12.same).trans (fr3.trans fr4)
      have frk : Fr L H12 H4 := fr3.trans fr4
      have al4 := al_fr al2 fr24 lf4
      have nt4 := noTup_fr nt2 al2 fr24 lf4
      have t34 := lf3.tst fr4
      have kw1 : Kt N H4 w1 1 13 := by
        obtain ⟨r1, r2, r3, r4⟩ := hARr b1 hb1
        exact kt_tie (hw1.mono t34) nt4 (by omega) (by omega) (by omega) (by omega)
      have kw2 : Kt N H4 w2 1 13 := by
        obtain ⟨r1, r2, r3, r4⟩ := hARr b2 hb2
        exact kt_tie hw2 nt4 (by omega) (by omega) (by omega) (by omega)
      have kz : Kt N H4 (.ref a12) 1 3 := (kt12.kn (.ref a12, 1, 3) (by simp)).mono (fr_M frk hN)
      obtain ⟨pw, qw, uw, rfl, ew, eqw, hTw⟩ := (hWeb2.mono (lf2.tst fr24))
      have ktc : KT _ H4 H4 [(w1, 1, 13), (w2, 1, 13), (.ref a12, 1, 3), (.non, 0, 4), (.str (toString t.1), 0, 6), (.int (n : Int), 0, 3), (.int t.1, 0, 3), (.int t.2, 0, 3), (.int (-1), 0, 3)] := (KT.add (KT.add (KT.add (KT.add (KT.add (KT.add (KT.add (KT.add (KT.add (KT.nil al4) (Kt.int (by decide) (by decide) (by decide))) (Kt.int (by decide) (by omega) (by omega))) (Kt.int (by decide) (by omega) (by omega))) (Kt.int (by decide) (by omega) (by omega))) (Kt.strI (by decide) (by omega) (by omega))) (Kt.non (by decide))) (kz)) (kw2)) (kw1))
      refine ⟨_, rfl, pw, _, _, _, rfl, rfl, SqT.of ew, rfl, _, rfl, (by show 2 ≤ sizeLine; decide), fun a13 na13 => ?_⟩
      have kt13 := KT.newT ktc [5, 6] 0 4 1 15 (us := [.int (n : Int), .int t.1]) na13 rfl rfl rfl rfl rfl
      have ea13 := upd_same (H := H4) (a := a13) (o := HO.tup [.int (n : Int), .int t.1])
      have s13 := same_new (o := HO.tup [.int (n : Int), .int t.1]) na13
      generalize upd H4 a13 _ = H13 at kt13 ea13 s13 ⊢
      refine ⟨_, rfl, _, rfl, (by show 2 ≤ sizeLine; decide), fun a14 na14 => ?_⟩
      have kt14 := KT.newT kt13 [9, 8] 0 4 1 15 (us := [.int (-1), .int t.2]) na14 rfl rfl rfl rfl rfl
      have ea14 := upd_same (H := H13) (a := a14) (o := HO.tup [.int (-1), .int t.2])
      have s14 := same_new (o := HO.tup [.int (-1), .int t.2]) na14
      generalize upd H13 a14 _ = H14 at kt14 ea14 s14 ⊢
      refine ⟨_, rfl, _, rfl, (by show 2 ≤ sizeLine; decide), fun a15 na15 => ?_⟩
      have kt15 := KT.newT kt14 [8, 9] 0 4 1 15 (us := [.int t.1, .int t.2]) na15 rfl rfl rfl rfl rfl
      have ea15 := upd_same (H := H14) (a := a15) (o := HO.tup [.int t.1, .int t.2])
      have s15 := same_new (o := HO.tup [.int t.1, .int t.2]) na15
      generalize upd H14 a15 _ = H15 at kt15 ea15 s15 ⊢
      refine ⟨ (by show 1 ≤ sizeLine; decide), fun a16 na16 => ?_⟩
      have kt16 := KT.newT kt15 [0] 1 15 2 20 (us := [.ref a15]) na16 rfl rfl rfl rfl rfl
      have ea16 := upd_same (H := H15) (a := a16) (o := HO.tup [.ref a15])
      have s16 := same_new (o := HO.tup [.ref a15]) na16
      generalize upd H15 a16 _ = H16 at kt16 ea16 s16 ⊢
      have items := KT.items kt16 [7, 6, 8, 4, 5, 3, 2, 0] (us := [.non, .ref a12, .str (toString t.1), w1, w2, .ref a13, .ref a14, .ref a16]) (k := 2) (W := 60) rfl rfl (by decide)
      refine ⟨by show 8 ≤ sizeLine; decide, fun D nD => ?_⟩
      have sD := same_new (o := .lst [.non, .ref a12, .str (toString t.1), w1, w2, .ref a13, .ref a14, .ref a16]) nD
      have s4D := (kt16.to sD).same
      have frD : Fr L H2 _ := fr24.trans (Fr.of s4D)
      refine ⟨S1, D, us1, _, rfl, rfl, frD _ _ S1L e1, upd_same, sz (by rw [l1]; show 10 + 8 ≤ 100000; decide), fun r nr => ?_⟩
      have sr := same_new (o := .lst (us1 ++ [.non, .ref a12, .str (toString t.1), w1, w2, .ref a13, .ref a14, .ref a16])) nr
      have ep4 := (fr24.trans (Fr.of (s4D.trans sr))) _ _ pL (q12 _ _ ep1)
      refine ⟨r, _, rfl, freshS al4 s4D nr, fun z => ?_, upd_same, by rw [List.length_append, l1]; rfl, ?_, frD.trans (Fr.of sr), ((lf4.same (s4D.trans sr))).mono (by omega)⟩
      · have := (fr24.trans (Fr.of s4D)) _ _ pL (q12 _ _ ep1)
        rw [z] at nr
        rw [nr] at this; cases this
      · exact ((k1.mono ((fr_M fr24 hN).trans (FrM.same s4D))).app ((show KtL N H16 _ 2 60 from items).mono (FrM.same sD))).mono (FrM.same sr)
    rintro x2 H3 ⟨S2, us2, rfl, nS2, S2p, e2, l2, k2, fr23, lf3⟩
    have fr13 : Fr L H1 H3 := (Fr.of q12).trans fr23
    have fr3 : Fr L H H3 := fr1.trans fr13
    have al3 := al_fr al fr3 lf3
    have S2L : S2 ≠ L := fun z => nS2 (z ▸ hN)
    have ep3 := fr3 _ _ pL ep
    have nt3 := noTup_fr nt al fr3 lf3
    have hT3 := hT.mono (lf.tst fr3)
    have kU : KtL N H3 us 2 60 := fun u hu => (ktL_ties nt3 hT3 (fun t ht => by have := hR t ht; omega) u hu).le (by omega) (by omega)
    refine ⟨_, rfl, L, _, _, rfl, lf3, by decide, by decide, by omega, fun how H4 w0 w1 fr4 lf4 => ?_⟩
    have fr34 := fr3.trans fr4
    have al4 := al_fr al3 fr4 lf4
    have ep4 := fr4 _ _ pL ep3
    have e24 := fr4 _ _ S2L e2
    have kU4 := kU.mono (fr_M fr4 hN)
    have k24 := k2.mono (fr_M fr4 hN)
    have kV : KtL N H4 us 1 13 := (show KtL N H3 us 1 13 from ktL_ties nt3 hT3 (fun t ht => by have := hR t ht; omega)).mono (fr_M fr4 hN)
    have done : ∀ {HX : Hp} {x : V}, LtT N H4 HX 900 1 13 x → Q x HX := fun {HX x} h => q x HX (fr34.trans (Fr.of h.same)) ((lf4.same h.same).mono (by omega)) (h.kt.le (by decide) (by decide))
    have sl0 : ∀ {HX : Hp} (lo hi : Option Int), Same H4 HX → rSlL K (.ref p) lo hi HX (fun y HY => LtT N HX HY 300 1 13 y) := fun lo hi s => cutL (fun _ _ e => e) (al_same al4 s) (s _ _ ep4) ul (kV.mono (FrM.same s))
    have ct1 : ∀ {HX HY : Hp} {x y : V} {m l : Nat}, LtT N H4 HX m 1 13 x → LtT N HX HY l 1 13 y → m + l ≤ 10000 → rCat x y HY (fun z HZ => LtT N H4 HZ (m + l) 1 13 z) := fun {HX HY x y m l} h g hm => by
      obtain ⟨a, xs, rfl, na, ea, la, ka, sa⟩ := h
      obtain ⟨b, ys, rfl, nb, eb, lb, kb, sb⟩ := g
      exact catL (sa.trans sb) al4 (sb _ _ ea) eb la lb hm (ka.mono (FrM.same sb)) kb
    have ct : ∀ {H0 HX HY : Hp} {x y : V} {m l : Nat}, (∀ b ∈ N, H0 b ≠ none) → LtT N H0 HX m 2 60 x → LtT N HX HY l 2 60 y → m + l ≤ 10000 → rCat x y HY (fun z HZ => LtT N H0 HZ (m + l) 2 60 z) := fun {H0 HX HY x y m l} a0 h g hm => by
      obtain ⟨a, xs, rfl, na, ea, la, ka, sa⟩ := h
      obtain ⟨b, ys, rfl, nb, eb, lb, kb, sb⟩ := g
      exact catL (sa.trans sb) a0 (sb _ _ ea) eb la lb hm (ka.mono (FrM.same sb)) kb
    refine ⟨_, rfl, _, _, rfl, rfl, _, rfl, ?_⟩
    by_cases c4 : how < 4
    · rw [decide_eq_true c4]
      refine iteT ?_
      refine ⟨fun x HX => LtT N HX HX 301 2 60 x ∧ Fr L H4 HX ∧ Lf HX L (c + 8), ?_, fun x HX ⟨h, f, l⟩ => q x HX (fr34.trans f) (l.mono (by omega)) (h.kt.le (by decide) (by decide))⟩
      refine ⟨fun x HX => LtT N HX HX (j + 1) 2 60 x ∧ Fr L H4 HX ∧ Lf HX L (c + 8), ?_, ?_⟩
      · refine ⟨fun y HY => LtT N H4 HY j 2 60 y, ⟨_, rfl, _, rfl, _, rfl, cutL' (fun _ _ e => e) al4 ep4 (by rw [cutTo, List.length_take]; omega) kU4⟩, fun y1 G1 h1 => ?_⟩
        obtain ⟨a1, v1, rfl, n1, e1', l1', k1', s1'⟩ := h1
        have lfG := lf4.same s1'
        refine ⟨_, rfl, _, rfl, _, rfl, S2, us2, rfl, .inl (SqL.of (s1' _ _ e24)), L, _, _, rfl, lfG, by rw [l2]; decide, by rw [l2]; decide, by omega, fun r G2 r0 r1 frg lfg => ?_⟩
        rw [l2] at r1
        obtain ⟨i, rfl⟩ : ∃ i : Nat, r = (i : Int) := ⟨r.toNat, by omega⟩
        have hi : i < us2.length := by omega
        have fg4 : Fr L H4 G2 := (Fr.of s1').trans frg
        refine ⟨S2, us2, _, us2[i], rfl, rfl, SqL.of (fg4 _ _ S2L e24), atI_nat (List.getElem?_eq_getElem hi), ?_⟩
        have kx : Kt N G2 us2[i] 2 60 := (k24 _ (List.getElem_mem hi)).mono (fr_M fg4 hN)
        refine ⟨by show 1 ≤ sizeLine; decide, fun o no => ?_⟩
        have so := same_new (o := .lst [us2[i]]) no
        have a1L : a1 ≠ L := fun z => n1 (z ▸ hN)
        have alG := al_fr al4 fg4 lfg
        have h3 := catL (m := j) (l := 1) (k := 2) (W := 60) (N := N) (fun _ _ e => e) (al_same alG so) (so _ _ (frg _ _ a1L e1')) (upd_same (H := G2) (a := o) (o := HO.lst [us2[i]])) l1' (Nat.le_refl _) (by omega) ((k1'.mono (fr_M frg hN)).mono (FrM.same so)) (fun u hu => by rw [List.mem_singleton.mp hu]; exact kx.same so)
        obtain ⟨a, b, xs, ys, ea, eb, r1, r2, r3, r4⟩ := h3
        refine ⟨a, b, xs, ys, ea, eb, r1, r2, r3, fun p' np' => ?_⟩
        have h5 := r4 p' np'
        have f5 : Fr L H4 _ := fg4.trans (Fr.of (so.trans h5.same))
        obtain ⟨c', us', e1, e2, e3, e4, e5, e6⟩ := h5
        exact ⟨⟨c', us', e1, e2, e3, e4, e5, fun _ _ e => e⟩, f5, (lfg.same (so.trans e6)).mono (by omega)⟩
      · rintro y2 G2 ⟨h2, fg, lg⟩
        have alG := al_fr al4 fg lg
        have epG := fg _ _ pL ep4
        have kUG := kU4.mono (fr_M fg hN)
        refine ⟨fun y HY => LtT N G2 HY (300 - (j + 1)) 2 60 y, ⟨_, rfl, _, rfl, _, _, rfl, rfl, _, rfl, cutL' (lo := some ((j : Int) + 1)) (hi := none) (fun _ _ e => e) alG epG (by rw [show ((j : Int) + 1) = ((j + 1 : Nat) : Int) by omega, cutFrom, List.length_drop]; omega) kUG⟩, fun y3 G3 h3 => ?_⟩
        have s3 := h3.same
        have h4 := ct (m := j + 1) (l := 300 - (j + 1)) alG h2 h3 (by omega)
        obtain ⟨a, b, xs, ys, ea, eb, r1, r2, r3, r4⟩ := h4
        refine ⟨a, b, xs, ys, ea, eb, r1, r2, r3, fun p' np' => ?_⟩
        have h5 := r4 p' np'
        have s5 := h5.same
        obtain ⟨c', us', e1, e2, e3, e4, e5, e6⟩ := h5
        exact ⟨⟨c', us', e1, e2, e3, by omega, e5, fun _ _ e => e⟩, fg.trans (Fr.of s5), lg.same s5⟩
    rw [decide_eq_false c4]
    refine iteF ?_
    refine ⟨_, rfl, rfl, _, rfl, ?_⟩
    by_cases c5 : decide (V.int how = V.int 4) = true
    · rw [c5]
      refine iteT ?_
      refine ⟨fun y HY => LtT N H4 HY 600 1 13 y, ?_, fun y HY h => done (h.le (by decide))⟩
      refine ⟨fun y HY => LtT N H4 HY 300 1 13 y, ⟨_, rfl, _, rfl, _, rfl, sl0 _ _ fun _ _ e => e⟩, fun y1 G1 h1 => ?_⟩
      exact ⟨fun y HY => LtT N G1 HY 300 1 13 y, ⟨_, rfl, _, rfl, _, _, rfl, rfl, _, rfl, sl0 _ _ h1.same⟩, fun y2 G2 h2 => ct1 h1 h2 (by decide)⟩
    rw [Bool.not_eq_true _ |>.mp c5]
    refine iteF ?_
    refine ⟨_, rfl, rfl, _, rfl, ?_⟩
    by_cases c6 : decide (V.int how = V.int 5) = true
    · rw [c6]
      refine iteT ?_
      refine ⟨fun y HY => LtT N H4 HY 900 1 13 y, ?_, fun y HY h => done h⟩
      refine ⟨fun y HY => LtT N H4 HY 600 1 13 y, ?_, fun y3 G3 h3 => ?_⟩
      · refine ⟨fun y HY => LtT N H4 HY 300 1 13 y, ⟨_, rfl, _, rfl, _, rfl, sl0 _ _ fun _ _ e => e⟩, fun y1 G1 h1 => ?_⟩
        exact ⟨fun y HY => LtT N G1 HY 300 1 13 y, ⟨_, rfl, _, rfl, _, rfl, _, rfl, _, _, rfl, rfl, _, rfl, sl0 _ _ h1.same⟩, fun y2 G2 h2 => ct1 h1 h2 (by decide)⟩
      · exact ⟨fun y HY => LtT N G3 HY 300 1 13 y, ⟨_, rfl, _, rfl, _, rfl, sl0 _ _ h3.same⟩, fun y2 G2 h2 => ct1 h3 h2 (by decide)⟩
    rw [Bool.not_eq_true _ |>.mp c6]
    refine iteF ?_
    have c5' : how ≠ 4 := fun z => c5 (decide_eq_true (by rw [z]))
    have c6' : how ≠ 5 := fun z => c6 (decide_eq_true (by rw [z]))
    refine ⟨_, rfl, p, us, rfl, SqL.of ep4, fun r nr => ?_⟩
    have sr := same_new (o := .lst us.reverse) nr
    refine ⟨_, rfl, p, us, rfl, .inl ⟨SqL.of (sr _ _ ep4), fun l nl => ?_⟩⟩
    have sl := same_new (o := .tup us) nl
    refine ⟨by show 2 ≤ sizeLine; decide, fun S nS => ?_⟩
    have sS := same_new (o := .lst [.ref r, .ref l]) nS
    have er := sS _ _ (sl _ _ (upd_same (H := H4) (a := r) (o := HO.lst us.reverse)))
    have el := sS _ _ (upd_same (H := upd H4 r (.lst us.reverse)) (a := l) (o := HO.tup us))
    have eS := upd_same (H := upd (upd H4 r (.lst us.reverse)) l (.tup us)) (a := S) (o := HO.lst [.ref r, .ref l])
    have s25 := sr.trans (sl.trans sS)
    have nrN : r ∉ N := fun z => al4 r z nr
    have nlN : l ∉ N := fun z => al_same al4 sr l z nl
    generalize upd (upd (upd H4 r (.lst us.reverse)) l (.tup us)) S _ = H5 at er el eS s25 ⊢
    have kr : Kt N H5 (.ref r) 3 20000 := (Kt.lst nrN er ((kV.mono (FrM.same s25)).sub fun u hu => List.mem_reverse.mp hu)).le (by omega) (by rw [List.length_reverse]; omega)
    have kl : Kt N H5 (.ref l) 3 20000 := (Kt.tup nlN el (kV.mono (FrM.same s25))).le (by omega) (by omega)
    refine ⟨_, rfl, _, _, rfl, rfl, ?_⟩
    have w67 : how - 6 = 0 ∨ how - 6 = 1 := by omega
    have fin : ∀ x, Kt N H5 x 3 20000 → Q x H5 := fun x kx => q x H5 (fr34.trans (Fr.of s25)) ((lf4.same s25).mono (by omega)) kx
    rcases w67 with e | e
    · exact ⟨S, _, how - 6, .ref r, rfl, rfl, SqL.of eS, by rw [e]; rfl, fin _ kr⟩
    · exact ⟨S, _, how - 6, .ref l, rfl, rfl, SqL.of eS, by rw [e]; rfl, fin _ kl⟩
end
end My

set_option Elab.async false
set_option linter.all false
set_option maxRecDepth 100000
set_option maxHeartbeats 4000000
set_option pp.maxSteps 900
namespace My
open PySem PySem.Spec PyProof.Rows L2 GxR
theorem frM_tabW {PT : Addr} {H H' : Hp} (f : FrM [PT] H H') (tg : TabG H PT) : Tst H H' := fun b xs e => f b _ (fun z => by
  obtain ⟨ps, h, _⟩ := tg
  rw [List.mem_singleton.mp z, h] at e; cases e) e
theorem frM_upW {PT : Addr} {N : List Addr} {H H' : Hp} (f : FrM [PT] H H') : FrM (PT :: N) H H' := fun b o nb e => f b o (fun z => nb (by rw [List.mem_singleton.mp z]; exact List.mem_cons_self)) e
theorem len144W {n : Nat} {ts : List Ar} (hn : n ≤ 12) (hW : WOk n ts) : ts.length ≤ 144 := by
  have h1 := nd_len (m := pup n n) (nd_pw hW.1) fun t ht => (mem_pup (Nat.le_refl n)).mpr (by have := hW.2 t ht; omega)
  have := pup_len n n
  have := Nat.mul_le_mul hn hn
  omega
section
variable {P : Program} {w : World} {K : PySem.W.Frag} {mg : Str → Option Value} {base : Heap}
/-! ### _law_as_due -/
abbrev s__law_as_due : Stmt := topS 35
abbrev N__law_as_due : List Str := ["_law_web_here", "_law_near_here", "_law_one", "_law_other", "_law_thing", "_law_kept", "_law_goes_on", "_law_found"]
theorem sc__law_as_due : FnScope N__law_as_due ["_law_web_here", "_law_near_here", "_law_one", "_law_other", "_law_thing"] (defScope s__law_as_due) := ⟨rfl, rfl, rfl, by decide +kernel, rfl, by decide +kernel, by decide +kernel⟩
def sp_asdue16 (PT : Addr) : Sp := fun vs H Q _ => ∃ (v x y z : V) (Dn : Addr) (n : Nat) (ts : List Ar) (kvs : List (List Key × V)) (one other : Ar) (N : List Addr), vs = [v, .ref Dn, x, y, z] ∧ Web H v n ts ∧ WOk n ts ∧ n ≤ 12 ∧ H Dn = some (.dT kvs) ∧ NearD kvs ts ∧ Tie H x one ∧ Tie H y other ∧ Kt N H z 40 20000 ∧ TabG H PT ∧ ∀ H', FrM [PT] H H' → TabG H' PT → Q (.bl true) H'
theorem ok_asdue16 {f PT : Addr} {fd : FuncData} (B : Bts mg) (F : Fun K "_law_as_due" "_law_as_due" s__law_as_due f fd) (c__law_is_way : Cl P w K mg base 2 "_law_is_way" sp_isway) (c_shows_way : Cl P w K mg base 7 "shows_way" (sp_shwayA PT)) (c_shows_round : Cl P w K mg base 7 "shows_round" (sp_shrA PT)) :
    FnG P w K mg base 8 f fd ["_law_web_here", "_law_near_here", "_law_one", "_law_other", "_law_thing"] (sp_asdue16 PT) := by
  refine okG F sc__law_as_due (fun vs H Q E h => ?_) (fun cdv A outer s H vs Q E hgd hr h => ?_)
  · obtain ⟨v, x, y, z, Dn, n, ts, kvs, one, other, N, rfl, _⟩ := h; rfl
  · obtain ⟨v, x, y, z, Dn, n, ts, kvs, one, other, N, rfl, hWeb, hW, hn, eD, hN, hx, hy, ⟨d, hd, hs⟩, tg, q⟩ := h
    refine ⟨_, (pss_cons (ps_set (i := 5) sc__law_as_due.nd rfl (by first | exact Or.inl rfl | exact Or.inr rfl) (pe_callTy (call_strA hgd (u65 hr)) (by rfl) B.str (by decide +kernel) (pa_cons (pv 4) pa_nil)))
    (pss_cons (ps_set (i := 6) sc__law_as_due.nd rfl (by first | exact Or.inl rfl | exact Or.inr rfl) (pe_c c__law_is_way hr (by decide) (by rfl) (pa_cons (pv 0) (pa_cons (pv 1) (pa_cons (pv 4) pa_nil)))))
    (pss_cons (ps_set (i := 7) sc__law_as_due.nd rfl (by first | exact Or.inl rfl | exact Or.inr rfl) (pe_c c_shows_way hr (by decide) (by rfl) (pa_cons (pv 0) (pa_cons (pv 2) (pa_cons (pv 3) (pa_cons (pv 4) pa_nil))))))
    (pss_cut (ps_if (PW.pt (pw_or (pt_not (pt_val (pe_callB call_isi (by rfl) B.isinstance (by decide +kernel) (pa_cons (pv 7) (pa_cons (pe_bltn (v := .ty "bool") (by rfl) B.bool (by decide +kernel) rfl) pa_nil))))) (pw_or1 (pt_cmpR op_ne (pv 7) (pe_and (pv 6) (pe_and (pe_cmpR (op_eqD hr.units) (pe_ix ix_list (pv 4) pe_int (fun _ _ => rfl)) (pv 2) (nomark _)) (pe_one (pe_cmpR (op_eqD hr.units) (pe_ix ix_list (pv 4) (pe_un un_neg pe_int) (fun _ _ => rfl)) (pv 3) (nomark _))))) (nomark _))))) (pss_one (ps_ret pe_bl)) pss_nil)
    (pss_cons (ps_set (i := 7) sc__law_as_due.nd rfl (by first | exact Or.inl rfl | exact Or.inr rfl) (pe_c c_shows_round hr (by decide) (by rfl) (pa_cons (pv 0) (pa_cons (pv 4) pa_nil))))
    (pss_cut (ps_if (PW.pt (pw_or (pt_not (pt_val (pe_callB call_isi (by rfl) B.isinstance (by decide +kernel) (pa_cons (pv 7) (pa_cons (pe_bltn (v := .ty "bool") (by rfl) B.bool (by decide +kernel) rfl) pa_nil))))) (pw_or1 (pt_cmpR op_ne (pv 7) (pe_and (pv 6) (pe_one (pe_cmpR (op_eqD hr.units) (pe_ix ix_list (pv 4) (pe_un un_neg pe_int) (fun _ _ => rfl)) (pe_rev2 (pe_ix ix_list (pv 4) pe_int (fun _ _ => rfl))) (nomark _)))) (nomark _))))) (pss_one (ps_ret pe_bl)) pss_nil)
    (pss_one (ps_ret (pe_cmpR op_eq (pe_callTy (call_strA hgd (u65 hr)) (by rfl) B.str (by decide +kernel) (pa_cons (pv 4) pa_nil)) (pv 5) (nomark _)))))))))), ?_⟩
    refine ⟨_, rfl, ?_⟩
    dsimp only [tNil]
    refine Sm.strA hd hs (by decide) (by decide) ?_
    refine ⟨_, rfl, _, rfl, _, rfl, v, z, Dn, n, ts, kvs, d, N, 38, 20000, rfl, hWeb, hW, hn, eD, hN, hd, hs, by decide, by decide, fun b0 H1 hb0 s1 => ?_⟩
    have tg1 := tabG_same tg s1
    refine ⟨_, rfl, _, rfl, _, rfl, _, rfl, v, x, y, z, n, ts, one, other, d, N, 39, 20000, rfl, hWeb.mono (Same.tst s1), hW, hx.mono (Same.tst s1), hy.mono (Same.tst s1), hd.mono (FrM.same s1), hs, by decide, tg1, fun b1 H2 hb1 fr2 tg2 => ?_⟩
    have f2 : FrM [PT] H H2 := (FrM.same s1).trans fr2
    have t2 := frM_tabW f2 tg
    have hd2 := (hd.more (no_tab tg)).mono (frM_upW f2)
    refine ⟨fun σ HX => ∃ y7, σ = [some v, some (.ref Dn), some x, some y, some z, some (.str (txtD d)), some (.bl b0), y7] ∧ FrM [PT] H HX ∧ TabG HX PT, ?_, ?_⟩
    · refine ⟨_, rfl, _, _, _, _, true, rfl, .ty _, .base (.bl _), kit_ty (by decide +kernel), true, rfl, iteF ?_⟩
      refine ⟨_, rfl, _, rfl, ?_⟩
      have nope : b0 = false → b1 = false → ∃ c, V.bl b0 = V.bl c ∧ True := fun _ _ => ⟨b0, rfl, trivial⟩
      clear nope
      rcases prs_dec d with ⟨l, rfl⟩ | hnp
      · have eb0 := hb0.1 l rfl
        have eb1 := hb1.1 l rfl
        by_cases hw : wkB ts l = true
        · rw [hw] at eb0 eb1
          rw [Bool.true_and] at eb1
          subst eb0
          refine ⟨true, rfl, iteT ?_⟩
          rw [Da] at hd2
          obtain ⟨p, us, rfl, nN, ep, hA⟩ := hd2
          have hT := da_tiesW hA
          have ul := hT.len
          have lne : l ≠ [] := fun z => by rw [z] at hw; cases hw
          have lp : 0 < l.length := List.length_pos_iff.mpr lne
          have g0 : us[0]? = some us[0] := List.getElem?_eq_getElem (by omega)
          have gz : us[us.length - 1]? = some us[us.length - 1] := List.getElem?_eq_getElem (by omega)
          generalize us[0] = v0 at g0
          generalize us[us.length - 1] = vz at gz
          obtain ⟨a0, e0, h0⟩ := hT.at g0
          obtain ⟨az, ez, hz⟩ := hT.at gz
          have el : l.getLast? = some az := by rw [List.getLast?_eq_getElem?, ← ul]; exact ez
          have eh : l.head? = some a0 := by rw [List.head?_eq_getElem?]; exact e0
          rw [el, eh] at eb1
          refine ⟨_, rfl, p, _, _, _, rfl, rfl, SqL.of ep, atI_nat (j := 0) g0, _, rfl, dT a0, dT one, h0.dp, (hx.mono t2).dp, shaped_dT _, shaped_dT _, ?_⟩
          rw [eqv_dT]
          have o1 : decide (some a0 = some one) = decide (a0 = one) := decide_eq_decide.mpr ⟨fun e => Option.some.inj e, fun e => congrArg some e⟩
          have o2 : decide (some az = some other) = decide (az = other) := decide_eq_decide.mpr ⟨fun e => Option.some.inj e, fun e => congrArg some e⟩
          rw [o1, o2] at eb1
          by_cases c1 : a0 = one
          · rw [decide_eq_true c1] at eb1 ⊢
            refine ⟨true, rfl, iteT ?_⟩
            refine ⟨_, rfl, _, rfl, p, _, _, _, rfl, rfl, SqL.of ep, atI_last gz (by omega), _, rfl, dT az, dT other, hz.dp, (hy.mono t2).dp, shaped_dT _, shaped_dT _, ?_⟩
            rw [eqv_dT]
            rw [Bool.true_and] at eb1
            refine ⟨rfl, ?_⟩
            rw [eb1, show decide (V.bl (decide (az = other)) = V.bl (decide (az = other))) = true from decide_eq_true rfl]
            exact ⟨_, rfl, iteF ⟨_, rfl, f2, tg2⟩⟩
          · rw [decide_eq_false c1] at eb1 ⊢
            rw [Bool.false_and] at eb1
            subst eb1
            exact ⟨false, rfl, iteF ⟨rfl, _, rfl, iteF ⟨_, rfl, f2, tg2⟩⟩⟩
        · rw [Bool.eq_false_iff.mpr hw] at eb0 eb1
          rw [Bool.false_and] at eb1
          subst eb0 eb1
          exact ⟨false, rfl, iteF ⟨rfl, _, rfl, iteF ⟨_, rfl, f2, tg2⟩⟩⟩
      · have eb0 := hb0.2 hnp
        have eb1 := hb1.2 hnp
        subst eb0 eb1
        exact ⟨false, rfl, iteF ⟨rfl, _, rfl, iteF ⟨_, rfl, f2, tg2⟩⟩⟩
    clear hb1 hd2 t2 f2 tg2 fr2
    rintro σ H3 ⟨y7, rfl, f3, tg3⟩
    have t3 := frM_tabW f3 tg
    have hd3 := (hd.more (no_tab tg)).mono (frM_upW f3)
    refine ⟨_, rfl, _, rfl, v, z, n, ts, d, _, 39, 20000, rfl, hWeb.mono t3, hW, hd3, hs, by decide, tg3, fun b2 H4 hb2 fr4 tg4 => ?_⟩
    have f4 := f3.trans fr4
    have t4 := frM_tabW f4 tg
    have hd4 := (hd.more (no_tab tg)).mono (frM_upW f4)
    refine ⟨fun σ HX => ∃ y7, σ = [some v, some (.ref Dn), some x, some y, some z, some (.str (txtD d)), some (.bl b0), y7] ∧ FrM [PT] H HX ∧ TabG HX PT, ?_, ?_⟩
    · refine ⟨_, rfl, _, _, _, _, true, rfl, .ty _, .base (.bl _), kit_ty (by decide +kernel), true, rfl, iteF ?_⟩
      refine ⟨_, rfl, _, rfl, ?_⟩
      rcases prs_dec d with ⟨l, rfl⟩ | hnp
      · have eb0 := hb0.1 l rfl
        have eb2 := hb2.1 l rfl
        unfold rdB at eb2
        by_cases hw : wkB ts l = true
        · rw [hw] at eb0 eb2
          rw [Bool.true_and] at eb2
          subst eb0
          refine ⟨true, rfl, iteT ?_⟩
          rw [Da] at hd4
          obtain ⟨p, us, rfl, nN, ep, hA⟩ := hd4
          have hT := da_tiesW hA
          have ul := hT.len
          have lne : l ≠ [] := fun z => by rw [z] at hw; cases hw
          have lp : 0 < l.length := List.length_pos_iff.mpr lne
          have g0 : us[0]? = some us[0] := List.getElem?_eq_getElem (by omega)
          have gz : us[us.length - 1]? = some us[us.length - 1] := List.getElem?_eq_getElem (by omega)
          generalize us[0] = v0 at g0
          generalize us[us.length - 1] = vz at gz
          obtain ⟨a0, e0, h0⟩ := hT.at g0
          obtain ⟨az, ez, hz⟩ := hT.at gz
          have el : l.getLast? = some az := by rw [List.getLast?_eq_getElem?, ← ul]; exact ez
          have eh : l.head? = some a0 := by rw [List.head?_eq_getElem?]; exact e0
          rw [el, eh] at eb2
          have h0' := h0
          obtain ⟨p0, rfl, ep0⟩ := h0
          refine ⟨_, rfl, _, rfl, p, _, _, _, rfl, rfl, SqL.of ep, atI_last gz (by omega), ?_⟩
          refine ⟨_, rfl, p, _, _, _, rfl, rfl, SqL.of ep, atI_nat (j := 0) g0, p0, _, _, rfl, ep0, fun g ng => ?_⟩
          have sg := same_new (o := .tup [.int a0.2, .int a0.1]) ng
          refine ⟨dT az, dT (sw a0), (hz.mono (Same.tst sg)).dp, (show Tie _ (.ref g) (sw a0) from ⟨g, rfl, upd_same⟩).dp, shaped_dT _, shaped_dT _, ?_⟩
          rw [eqv_dT]
          have o1 : decide (some az = Option.map sw (some a0)) = decide (az = sw a0) := decide_eq_decide.mpr ⟨fun e => Option.some.inj e, fun e => congrArg some e⟩
          rw [o1] at eb2
          refine ⟨rfl, ?_⟩
          rw [eb2, show decide (V.bl (decide (az = sw a0)) = V.bl (decide (az = sw a0))) = true from decide_eq_true rfl]
          exact ⟨_, rfl, iteF ⟨_, rfl, f4.trans (FrM.same sg), tabG_same tg4 sg⟩⟩
        · rw [Bool.eq_false_iff.mpr hw] at eb0 eb2
          rw [Bool.false_and] at eb2
          subst eb0 eb2
          exact ⟨false, rfl, iteF ⟨rfl, _, rfl, iteF ⟨_, rfl, f4, tg4⟩⟩⟩
      · have eb0 := hb0.2 hnp
        have eb2 := hb2.2 hnp
        subst eb0 eb2
        exact ⟨false, rfl, iteF ⟨rfl, _, rfl, iteF ⟨_, rfl, f4, tg4⟩⟩⟩
    clear hb2 hd4 t4 f4 tg4 fr4
    rintro σ H5 ⟨y7, rfl, f5, tg5⟩
    refine ⟨_, rfl, ?_⟩
    dsimp only [tNil]
    refine Sm.strA ((hd.more (no_tab tg)).mono (frM_upW f5)) hs (by decide) (by decide) ⟨_, rfl, rfl, ?_⟩
    rw [show decide (V.str (txtD d) = V.str (txtD d)) = true from decide_eq_true rfl]
    exact q _ f5 tg5
/-! ### _law_right -/
abbrev s__law_right : Stmt := topS 36
abbrev N__law_right : List Str := ["_law_left_here", "_law_web_here", "_law_near_here", "_law_way", "_law_one", "_law_other", "_law_things", "_law_turn", "_law_thing"]
theorem sc__law_right : FnScope N__law_right ["_law_left_here", "_law_web_here", "_law_near_here", "_law_way"] (defScope s__law_right) := ⟨rfl, rfl, rfl, by decide +kernel, rfl, by decide +kernel, by decide +kernel⟩
def sp_right16 (PT : Addr) : Sp := fun vs H Q _ => ∃ (L Dn p : Addr) (v : V) (us : List V) (c : Int) (n : Nat) (ts l : List Ar) (kvs : List (List Key × V)), vs = [.ref L, v, .ref Dn, .ref p] ∧ Lf H L c ∧ c < 2 ^ 45 ∧ Web H v n ts ∧ WOk n ts ∧ n ≤ 12 ∧ H Dn = some (.dT kvs) ∧ NearD kvs ts ∧ p ≠ L ∧ H p = some (.lst us) ∧ Ties H us l ∧ l.length ≤ 300 ∧ (∀ t ∈ l, t ∈ arS n ts) ∧ wkB ts l = true ∧ TabG H PT ∧
  ∀ H', FrM [PT, L] H H' → TabG H' PT → Lf H' L (c + 500) → Q (.bl true) H'
theorem ok_right16 {f PT : Addr} {fd : FuncData} (B : Bts mg) (F : Fun K "_law_right" "_law_right" s__law_right f fd) (c_shows_way : Cl P w K mg base 7 "shows_way" (sp_shwayA PT)) (c__law_any : Cl P w K mg base 7 "_law_any" (sp_any 5)) (c__law_any3 : Cl P w K mg base 7 "_law_any" (sp_any 3)) (c__law_deep : Cl P w K mg base 3 "_law_deep" sp_deep)
    (c__law_bent : Cl P w K mg base 4 "_law_bent" sp_bent16) (c__law_arrow : Cl P w K mg base 3 "_law_arrow" sp_larrow) (c__law_as_due : ClG P w K mg base 8 "_law_as_due" (sp_asdue16 PT)) :
    FnG P w K mg base 9 f fd ["_law_left_here", "_law_web_here", "_law_near_here", "_law_way"] (sp_right16 PT) := by
  refine okG F sc__law_right (fun vs H Q E h => ?_) (fun cdv A outer s H vs Q E hgd hr h => ?_)
  · obtain ⟨L, Dn, p, v, us, c, n, ts, l, kvs, rfl, _⟩ := h; rfl
  · obtain ⟨L, Dn, p, v, us, c, n, ts, l, kvs, rfl, lf, hc, hWeb, hW, hn, eD, hN, pL, ep, hT, ll, hl, hwk, tg, q⟩ := h
    refine ⟨_, (pss_cons (ps_par (i := 4) (j := 5) rfl sc__law_right.nd rfl rfl (by decide) rfl rfl (pa_cons (pe_ix ix_list (pv 3) pe_int (fun _ _ => rfl)) (pa_cons (pe_ix ix_list (pv 3) (pe_un un_neg pe_int) (fun _ _ => rfl)) pa_nil)) (by rfl))
    (pss_cons (ps_if (pt_cmpR op_notBl (pe_c c_shows_way hr (by decide) (by rfl) (pa_cons (pv 1) (pa_cons (pv 4) (pa_cons (pv 5) (pa_cons (pv 3) pa_nil))))) pe_bl (nomark _)) (pss_one (ps_ret pe_bl)) pss_nil)
    (pss_cons (ps_set (i := 6) sc__law_right.nd rfl (by first | exact Or.inl rfl | exact Or.inr rfl) (pe_cut (pe_lst (pa_cons (pv 3) (pa_cons (pe_cut (pe_op op_cat (pv 3) (pe_revL2 (pv 3)))) (pa_cons (pe_lst pa_nil) (pa_cons (pe_lst (pa_cons (pv 4) pa_nil)) (pa_cons (pe_lst (pa_cons (pv 4) (pa_cons (pv 5) pa_nil))) pa_nil))))))))
    (pss_cons (ps_set (i := 6) sc__law_right.nd rfl (by first | exact Or.inl rfl | exact Or.inr rfl) (pe_cut (pe_op op_cat (pv 6) (pe_lst (pa_cons (pe_c c__law_any hr (by decide) (by rfl) (pa_cons (pv 0) (pa_cons pe_int pa_nil))) (pa_cons (pe_c c__law_deep hr (by decide) (by rfl) (pa_cons (pv 0) pa_nil)) (pa_cons (pe_lst (pa_cons (pe_c c__law_any3 hr (by decide) (by rfl) (pa_cons (pv 0) (pa_cons pe_int pa_nil))) pa_nil)) pa_nil)))))))
    (pss_cons (ps_expr (pe_bm PySem.F.plainAttrs_list PySem.F.slot_list_extend PySem.F.type_list_extend mt_extend (pv 6) (pa_cons (pe_lc (own := [("_law_turn", 7)]) (g := (gName 7)) (tt := tYes) rfl sc__law_right.nd (pi_range1 (by rfl) B.range (pa_cons pe_int pa_nil)) (blkOk_by (own := [("_law_turn", 7)]) (N := N__law_right) (sc := defScope s__law_right) (by decide +kernel)) (fun _ _ _ _ _ => (pg_name (i := 7) sc__law_right.nd rfl (by first | exact Or.inl rfl | exact Or.inr rfl))) (fun _ _ _ _ _ => pts_nil) (fun _ _ _ _ _ => (pe_c c__law_bent hr (by decide) (by rfl) (pa_cons (pv 0) (pa_cons (pv 1) (pa_cons (pv 3) pa_nil)))))) pa_nil)))
    (pss_cons (ps_for PassesOwn.never rfl (pi_list (pv 6)) (pg_name (i := 8) sc__law_right.nd rfl (by first | exact Or.inl rfl | exact Or.inr rfl))
      (pss_one (ps_if (pt_not (pt_val (pe_cG hgd c__law_as_due hr (by decide) (by rfl) (pa_cons (pv 1) (pa_cons (pv 2) (pa_cons (pv 4) (pa_cons (pv 5) (pa_cons (pv 8) pa_nil)))))))) (pss_one (ps_ret pe_bl)) pss_nil)))
    (pss_cons (ps_if (pt_not (pt_val (pe_cG hgd c__law_as_due hr (by decide) (by rfl) (pa_cons (pv 1) (pa_cons (pv 2) (pa_cons (pv 5) (pa_cons (pv 4) (pa_cons (pv 3) pa_nil)))))))) (pss_one (ps_ret pe_bl)) pss_nil)
    (pss_one (ps_ret (pe_cG hgd c__law_as_due hr (by decide) (by rfl) (pa_cons (pv 1) (pa_cons (pv 2) (pa_cons (pe_c c__law_arrow hr (by decide) (by rfl) (pa_cons (pv 0) (pa_cons (pv 1) pa_nil))) (pa_cons (pv 5) (pa_cons (pv 3) pa_nil))))))))))))))), ?_⟩
    have ul := hT.len
    have lne : l ≠ [] := fun z => by rw [z] at hwk; cases hwk
    have lp : 0 < l.length := List.length_pos_iff.mpr lne
    have hLl : ∃ ys, H L = some (.lst ys) := by
      obtain ⟨_, _, _, e, _⟩ := lf
      exact ⟨_, e⟩
    have noT : ∀ b ∈ [PT, L], ∀ xs, H b ≠ some (.tup xs) := fun b hb xs z => by
      rcases List.mem_cons.mp hb with rfl | hb
      · obtain ⟨_, e, _⟩ := tg
        rw [e] at z; cases z
      · obtain ⟨_, e⟩ := hLl
        rw [List.mem_singleton.mp hb, e] at z; cases z
    have tst : ∀ {HX : Hp}, FrM [PT, L] H HX → Tst H HX := fun fr b xs e => fr b _ (fun z => noT b z _ e) e
    have PTd : ∀ {b : Addr} {o : HO}, H b = some o → (∀ ps, o ≠ .tbl ps) → b ≠ PT := fun {b o} e no z => by
      obtain ⟨_, e', _⟩ := tg
      rw [z, e'] at e; cases e; exact no _ rfl
    have Dl : Dn ≠ L := fun z => by
      obtain ⟨_, e⟩ := hLl
      rw [z, e] at eD; cases eD
    have eDX : ∀ {HX : Hp}, FrM [PT, L] H HX → HX Dn = some (.dT kvs) := fun fr => fr _ _ (fun z => by
      rcases List.mem_cons.mp z with z | z
      · exact PTd eD (fun _ z => by cases z) z
      · exact Dl (List.mem_singleton.mp z)) eD
    have epX : ∀ {HX : Hp}, FrM [PT, L] H HX → HX p = some (.lst us) := fun fr => fr _ _ (fun z => by
      rcases List.mem_cons.mp z with z | z
      · exact PTd ep (fun _ z => by cases z) z
      · exact pL (List.mem_singleton.mp z)) ep
    have hRl : ∀ t ∈ l, -20 ≤ t.1 ∧ t.1 < 300 ∧ -20 ≤ t.2 ∧ t.2 < 300 := fun t ht => by
      obtain ⟨a1, a2, a3, a4⟩ := arS_inR (hl t ht)
      omega
    have g0 : us[0]? = some us[0] := List.getElem?_eq_getElem (by omega)
    have gz : us[us.length - 1]? = some us[us.length - 1] := List.getElem?_eq_getElem (by omega)
    have m0 := List.getElem_mem (l := us) (n := 0) (by omega)
    have mz := List.getElem_mem (l := us) (n := us.length - 1) (by omega)
    generalize us[0] = v0 at g0 m0
    generalize us[us.length - 1] = vz at gz mz
    obtain ⟨b0, e0, h0⟩ := hT.at g0
    obtain ⟨bz, ez, hz⟩ := hT.at gz
    have el : l.getLast? = some bz := by rw [List.getLast?_eq_getElem?, ← ul]; exact ez
    have eh : l.head? = some b0 := by rw [List.head?_eq_getElem?]; exact e0
    have hsW : Sm 2 4503 (.list (l.map dT)) := (Sm.lst (SmAll.of (k := 1) (W := 13) fun d hd => by
      obtain ⟨t, ht, rfl⟩ := List.mem_map.mp hd
      obtain ⟨r1, r2, r3, r4⟩ := hRl t ht
      exact Sm.tie (Nat.le_refl _) r1 r2 r3 r4)).le (Nat.le_refl _) (by rw [List.length_map]; omega)
    have hdW : ∀ {HX : Hp}, FrM [PT, L] H HX → Da [] HX (.list (l.map dT)) (.ref p) := fun fr => .lst (fun z => by cases z) (epX fr) (da_ties (fun p hp => by cases hp) (hT.mono (tst fr)))
    have f0 : FrM [PT, L] H H := FrM.refl _ _
    refine ⟨_, rfl, p, _, _, v0, rfl, rfl, SqL.of ep, atI_nat (j := 0) g0, _, rfl, _, rfl, p, _, -1, vz, rfl, rfl, SqL.of ep, atI_last gz (by omega), _, _, rfl, ?_⟩
    refine ⟨_, rfl, _, rfl, _, rfl, _, rfl, v, v0, vz, .ref p, n, ts, b0, bz, _, [], 1, 4503, rfl, hWeb, hW, h0, hz, hdW f0, hsW, by decide, tg, fun b H1 hb fr1 tg1 => ?_⟩
    obtain rfl : b = true := by
      rw [hb.1 l rfl, hwk, eh, el, decide_eq_true rfl, decide_eq_true rfl]; rfl
    refine ⟨true, true, rfl, rfl, false, rfl, iteF ?_⟩
    have f1 : FrM [PT, L] H H1 := fr1.wk fun x hx => by rw [List.mem_singleton.mp hx]; exact List.mem_cons_self
    have lf1 : Lf H1 L c := by
      obtain ⟨x, y, z, e, k⟩ := lf
      refine ⟨x, y, z, fr1 _ _ (fun w => PTd e (fun _ z => by cases z) (List.mem_singleton.mp w)) e, k⟩
    have al1 : ∀ b ∈ [L], H1 b ≠ none := fun b hb z => by
      obtain ⟨_, _, _, e, _⟩ := lf1
      rw [List.mem_singleton.mp hb, e] at z; cases z
    have nt1 := lf_noTup lf1
    have hT1 := hT.mono (tst f1)
    have ep1 := epX f1
    have kV : KtL [L] H1 us 1 13 := ktL_ties nt1 hT1 hRl
    have kp : Kt [L] H1 (.ref p) 2 4600 := (Kt.lst (fun z => pL (List.mem_singleton.mp z)) ep1 kV).le (by decide) (by omega)
    have kv0 := kV v0 m0
    have kvz := kV vz mz
    refine ⟨fun x HX => LsO [L] H1 HX 5 25 20000 x, ?_, ?_⟩
    · refine ⟨_, rfl, fun x HX => LtT [L] H1 HX 600 1 13 x, ?_, ?_⟩
      · refine ⟨_, rfl, _, rfl, p, us, rfl, SqL.of ep1, fun r nr => ?_⟩
        have sr := same_new (o := .lst us.dropLast.reverse) nr
        exact catL (m := 300) (l := 300) sr al1 (sr _ _ ep1) upd_same (by omega) (by rw [List.length_reverse, List.length_dropLast]; omega) (by decide) (kV.mono (FrM.same sr)) ((kV.sub fun u hu => (List.dropLast_sublist us).subset (List.mem_reverse.mp hu)).mono (FrM.same sr))
      rintro x6 H6 h6
      have s16 := h6.same
      have k6 : Kt [L] H6 x6 2 9100 := h6.kt.le (by decide) (by decide)
      have al6 := al_same al1 s16
      have ktl : KT _ H6 H6 [(x6, 2, 9100), (.ref p, 2, 4600), (v0, 1, 13), (vz, 1, 13)] := (KT.add (KT.add (KT.add (KT.add (KT.nil al6) (kvz.same s16)) (kv0.same s16)) (kp.same s16)) (k6))
      refine ⟨ Nat.zero_le _, fun a2 na2 => ?_⟩
      have kt2 := KT.newL ktl [] 0 4 1 3 (us := []) na2 rfl rfl rfl rfl rfl
      have ea2 := upd_same (H := H6) (a := a2) (o := HO.lst [])
      have s2 := same_new (o := HO.lst []) na2
      generalize upd H6 a2 _ = H2 at kt2 ea2 s2 ⊢
      refine ⟨_, rfl, (by show 1 ≤ sizeLine; decide), fun a3 na3 => ?_⟩
      have kt3 := KT.newL kt2 [3] 1 13 2 18 (us := [v0]) na3 rfl rfl rfl rfl rfl
      have ea3 := upd_same (H := H2) (a := a3) (o := HO.lst [v0])
      have s3 := same_new (o := HO.lst [v0]) na3
      generalize upd H2 a3 _ = H3 at kt3 ea3 s3 ⊢
      refine ⟨_, rfl, _, rfl, (by show 2 ≤ sizeLine; decide), fun a4 na4 => ?_⟩
      have kt4 := KT.newL kt3 [4, 5] 1 13 2 33 (us := [v0, vz]) na4 rfl rfl rfl rfl rfl
      have ea4 := upd_same (H := H3) (a := a4) (o := HO.lst [v0, vz])
      have s4 := same_new (o := HO.lst [v0, vz]) na4
      generalize upd H3 a4 _ = H4 at kt4 ea4 s4 ⊢
      have items := KT.items kt4 [4, 3, 2, 1, 0] (us := [.ref p, x6, .ref a2, .ref a3, .ref a4]) (k := 25) (W := 20000) rfl rfl (by decide)
      exact ⟨by show 5 ≤ sizeLine; decide, fun S nS => by
        obtain ⟨S', us', e1, e2, e3, e4, e5, e6, e7⟩ := LsO.of kt4 nS items rfl
        exact ⟨S', us', e1, e2, e3, e4, e5, s16.trans e6, same_free s16 e7⟩⟩
    rintro x5 H5 ⟨S0, us0, rfl, nS0, eS0, ul0, kU0, s15, n1S0⟩
    have f5 := f1.trans (FrM.same s15)
    have tg5 := tabG_same tg1 s15
    have lf5 := lf1.same s15
    have S0L : S0 ≠ L := fun z => nS0 (by rw [z]; exact List.mem_cons_self)
    have frN : ∀ {HX HY : Hp}, Fr L HX HY → FrM [PT, L] HX HY := fun f b o nb e => f b o (fun z => nb (by rw [z]; exact List.mem_cons_of_mem _ List.mem_cons_self)) e
    refine ⟨fun x HX => ∃ S xs, x = .ref S ∧ HX S = some (.lst xs) ∧ xs.length = 8 ∧ KtL [S, L] HX xs 25 20000 ∧ Fr L H5 HX ∧ Lf HX L (c + 400) ∧ H5 S = none, ?_, ?_⟩
    · refine ⟨_, rfl, ?_⟩
      refine ⟨_, rfl, L, _, [L], rfl, lf5, List.mem_cons_self, al_same al1 s15, by show c + 322 < 2 ^ 50; omega, fun x6 H6 fr6 lf6 k6 => ?_⟩
      have lf6' : Lf H6 L (c + 322) := lf6
      have al6 := al_fr (al_same al1 s15) fr6 lf6
      refine ⟨_, rfl, L, _, [L], rfl, lf6', List.mem_cons_self, al6, by omega, fun x7 H7 fr7 lf7 k7 => ?_⟩
      have al7 := al_fr al6 fr7 lf7
      refine ⟨_, rfl, L, _, [L], rfl, lf7, List.mem_cons_self, al7, by show c + 322 + 2 + 34 < 2 ^ 50; omega, fun x8 H8 fr8 lf8 k8 => ?_⟩
      have lf8' : Lf H8 L (c + 322 + 2 + 34) := lf8
      have al8 := al_fr al7 fr8 lf8
      refine ⟨by show 1 ≤ sizeLine; decide, fun l8 nl8 => ?_⟩
      have s8 := same_new (o := .lst [x8]) nl8
      have kl8 : Kt [L] (upd H8 l8 (.lst [x8])) (.ref l8) 25 20000 := (Kt.lst (freshS al8 (fun _ _ e => e) nl8) upd_same (fun u hu => by rw [List.mem_singleton.mp hu]; exact k8.same s8)).le (by decide) (by show 1 * (anyW 2 + 2) + 3 ≤ 20000; decide)
      refine ⟨by show 3 ≤ sizeLine; decide, fun D nD => ?_⟩
      have sD := same_new (o := .lst [x6, x7, .ref l8]) nD
      have fr58 := fr6.trans (fr7.trans fr8)
      have frD : Fr L H5 (upd (upd H8 l8 (.lst [x8])) D (.lst [x6, x7, .ref l8])) := fr58.trans (Fr.of (s8.trans sD))
      have mL : L ∈ [L] := List.mem_cons_self
      have k6' : Kt [L] (upd (upd H8 l8 (.lst [x8])) D (.lst [x6, x7, .ref l8])) x6 25 20000 := ((k6.mono (fr_M (fr7.trans fr8) mL)).same (s8.trans sD)).le (by decide) (by decide)
      have k7' : Kt [L] (upd (upd H8 l8 (.lst [x8])) D (.lst [x6, x7, .ref l8])) x7 25 20000 := ((k7.mono (fr_M fr8 mL)).same (s8.trans sD)).le (by decide) (by decide)
      have kl8' := kl8.same sD
      have eD' := upd_same (H := upd H8 l8 (.lst [x8])) (a := D) (o := HO.lst [x6, x7, .ref l8])
      have lfD := lf8'.same (s8.trans sD)
      have eS8 := frD _ _ S0L eS0
      generalize upd (upd H8 l8 (.lst [x8])) D _ = H9 at frD k6' k7' kl8' eD' lfD eS8 ⊢
      refine ⟨S0, D, us0, [x6, x7, .ref l8], rfl, rfl, eS8, eD', sz (by rw [ul0]; show 5 + 3 ≤ 100000; decide), fun r nr => ?_⟩
      have sr := same_new (o := .lst (us0 ++ [x6, x7, .ref l8])) nr
      refine ⟨r, _, rfl, upd_same, by rw [List.length_append, ul0]; rfl, (fun u hu => ((((kU0.mono (fr_M frD mL)).app fun u hu => ?_) u hu).more (no_none nr)).same sr), frD.trans (Fr.of sr), (lfD.same sr).mono (by omega), Lf.free frD lfD nr⟩
      simp at hu
      rcases hu with rfl | rfl | rfl
      · exact k6'
      · exact k7'
      · exact kl8'
    clear kU0 eS0
    rintro x6 H6 ⟨S, xs, rfl, eS, xl, kX, fr6, lf6, n5S⟩
    have f6 := f5.trans (frN fr6)
    have n0S : H S = none := by
      cases e : H S with
      | none => rfl
      | some o =>
        exfalso
        by_cases hb : S ∈ [PT, L]
        · rcases List.mem_cons.mp hb with z | z
          · obtain ⟨_, e', _⟩ := tg5
            rw [z, e'] at n5S; cases n5S
          · obtain ⟨_, _, _, e', _⟩ := lf5
            rw [List.mem_singleton.mp z, e'] at n5S; cases n5S
        · rw [f5 _ _ hb e] at n5S; cases n5S
    have SL : S ≠ L := fun z => by
      obtain ⟨_, _, _, e, _⟩ := lf5
      rw [z, e] at n5S; cases n5S
    have tgF : ∀ {HX HY : Hp} {c' : Int}, TabG HX PT → Fr L HX HY → Lf HX L c' → TabG HY PT := fun {HX HY c'} t f l => by
      obtain ⟨ps, e1, e2⟩ := t
      refine ⟨ps, f _ _ (fun z => ?_) e1, e2⟩
      obtain ⟨_, _, _, e', _⟩ := l
      rw [z, e'] at e1; cases e1
    have tg6 := tgF tg5 fr6 lf5
    have hWeb6 := hWeb.mono (tst f6)
    have ep6 := epX f6
    have hT6 := hT.mono (tst f6)
    have pS : p ≠ S := fun z => by rw [z, n0S] at ep; cases ep
    have DS : Dn ≠ S := fun z => by rw [z, n0S] at eD; cases eD
    have une : us ≠ [] := fun z => by rw [z] at ul; simp at ul; omega
    have ulM : us.length ≤ 300 := by omega
    dsimp only [tNil]
    refine ⟨_, rfl, .inl ⟨rfl, _, SqL.of eS⟩, ?_⟩
    refine ⟨_, rfl, by decide, by decide, fun D nD => ?_⟩
    have nDL : D ≠ L := lf6.ne nD
    have nDS : D ≠ S := fun z => by rw [z, eS] at nD; cases nD
    have noN : ∀ {HX : Hp} {ws zs : List V} {c' : Int}, HX S = some (.lst ws) → HX D = some (.lst zs) → Lf HX L c' → ∀ b ∈ [D, S, L], ∃ us, HX b = some (.lst us) := fun {HX ws zs c'} e1 e2 l b hb => by
      rcases List.mem_cons.mp hb with rfl | hb
      · exact ⟨_, e2⟩
      rcases List.mem_cons.mp hb with rfl | hb
      · exact ⟨_, e1⟩
      · obtain ⟨_, _, _, e', _⟩ := l
        rw [List.mem_singleton.mp hb]; exact ⟨_, e'⟩
    have mLN : L ∈ [D, S, L] := List.mem_cons_of_mem _ (List.mem_cons_of_mem _ List.mem_cons_self)
    refine wk (walk_range (lo := 0)) (fun i HM => ∃ zs, Fr L H6 HM ∧ Lf HM L (c + 400 + 10 * i) ∧ HM D = some (.lst zs) ∧ zs.length = i ∧ KtL [D, S, L] HM zs 25 20000) ⟨[], Fr.new nD, (lf6.new nD).mono (by omega), upd_same, rfl, fun u hu => by cases hu⟩ (fun _ _ _ _ => trivial) ?_ ?_
    · rintro i x HM HN hi ⟨zs, frM, lfM, eD', zl, kZ⟩ ⟨rfl, hx⟩
      have hi8 : i < 8 := by simpa using hi
      refine ⟨rfl, yes ?_⟩
      have eSM := frM _ _ SL eS
      have alX := noN eSM eD' lfM
      refine ⟨_, rfl, _, rfl, _, rfl, L, p, v, us, _, n, ts, l, [D, S, L], rfl, lfM, mLN, fun b hb => ?_, fun b hb xs' => ?_, hWeb6.mono (lf6.tst frM), hW, hn, pL, frM _ _ pL ep6, hT6.mono (lf6.tst frM), une, ulM, hl, by omega, fun x H7 fr7 lf7 k7 => ?_⟩
      · obtain ⟨_, e⟩ := alX b hb
        rw [e]; exact fun z => by cases z
      · obtain ⟨_, e⟩ := alX b hb
        rw [e]; exact fun z => by cases z
      have eD7 := fr7 _ _ nDL eD'
      have f7 := fr_M fr7 mLN
      have fp : FrM [D, S, L] H7 (upd H7 D (.lst (zs ++ [x]))) := fun b o nb e => by
        rw [upd_ne (fun z => nb (by rw [z]; exact List.mem_cons_self))]; exact e
      refine ⟨_, eD7, sz' (by omega), zs ++ [x], (frM.trans fr7).put nD, (lf7.put nDL).mono (by omega), upd_same, by rw [List.length_append, zl]; rfl, ?_⟩
      exact ((kZ.mono f7).app fun u hu => by rw [List.mem_singleton.mp hu]; exact k7.le (by decide) (by decide)).mono fp
    · rintro H7 ⟨zs, fr7, lf7, eD7, zl, kZ⟩
      have zl8 : zs.length = 8 := by rw [zl]; rfl
      have lf7' : Lf H7 L (c + 480) := lf7.mono (by have : ((8 - 0 : Int)).toNat = 8 := rfl; omega)
      have eS7 := fr7 _ _ SL eS
      have kX7 : KtL [D, S, L] H7 xs 25 20000 := fun u hu => ((kX u hu).more (no_none nD)).mono (fr_M fr7 mLN)
      refine ⟨S, D, xs, zs, rfl, rfl, eS7, eD7, sz (by rw [xl, zl8]; decide), ?_⟩
      have fp : FrM [D, S, L] H7 (upd H7 S (.lst (xs ++ zs))) := fun b o nb e => by
        rw [upd_ne (fun z => nb (by rw [z]; exact List.mem_cons_of_mem _ List.mem_cons_self))]; exact e
      have kA : KtL [D, S, L] (upd H7 S (.lst (xs ++ zs))) (xs ++ zs) 25 20000 := (kX7.app kZ).mono fp
      have lA : Lf (upd H7 S (.lst (xs ++ zs))) L (c + 480) := lf7'.put SL
      have tgA : TabG (upd H7 S (.lst (xs ++ zs))) PT := by
        obtain ⟨ps', h1, h2⟩ := tgF tg6 fr7 lf6
        refine ⟨ps', ?_, h2⟩
        rw [upd_ne (fun z => by rw [← z, h1] at eS7; cases eS7)]; exact h1
      have fA : FrM [PT, L] H (upd H7 S (.lst (xs ++ zs))) := (f6.trans (frN fr7)).putN n0S
      have eSA := upd_same (H := H7) (a := S) (o := HO.lst (xs ++ zs))
      have lz : (xs ++ zs).length = 16 := by rw [List.length_append, xl, zl8]
      generalize upd H7 S _ = HA at kA lA tgA fA eSA
      generalize xs ++ zs = ws at kA eSA lz
      have kG : KtL (PT :: [D, S, L]) HA ws 25 20000 := fun u hu => (kA u hu).more (no_tab tgA)
      have hWebA := hWeb.mono (tst fA)
      have eDA := eDX fA
      have PTD : Dn ≠ PT := PTd eD (fun _ z => by cases z)
      have hx0 := h0.mono (tst fA)
      have hxz := hz.mono (tst fA)
      have fUp : ∀ {HX : Hp}, FrM [PT] HA HX → FrM [PT, L] H HX := fun f => fA.trans (f.wk fun x hx => by rw [List.mem_singleton.mp hx]; exact List.mem_cons_self)
      have lUp : ∀ {HX : Hp}, FrM [PT] HA HX → Lf HX L (c + 480) := fun f => by
        obtain ⟨x, y, z, e, k⟩ := lA
        refine ⟨x, y, z, f _ _ (fun w => ?_) e, k⟩
        obtain ⟨_, e', _⟩ := tgA
        rw [← List.mem_singleton.mp w, e] at e'; cases e'
      refine ⟨_, rfl, S, rfl, ⟨_, SqL.of eSA⟩, ?_⟩
      refine for_it (walk_list (K := K) (a := S) (xs := ws)) (fun i σ HX => ∃ y7 y8, σ = [some (.ref L), some v, some (.ref Dn), some (.ref p), some v0, some vz, some (.ref S), y7, y8] ∧ FrM [PT] HA HX ∧ TabG HX PT) ⟨_, _, rfl, FrM.refl _ _, tgA⟩ ?_ ?_ ?_
      · rintro i σ HX _ ⟨y7, y8, rfl, fX, tgX⟩
        exact SqL.of (frm_lst fX tgA eSA)
      · rintro i x σ HX0 HX hi ⟨y7, y8, rfl, fX, tgX⟩ ⟨rfl, hx⟩
        have kx := (kG x (List.mem_of_getElem? hx)).mono (frM_upW fX)
        refine ⟨_, rfl, _, rfl, _, rfl, _, rfl, _, rfl, v, v0, vz, x, Dn, n, ts, kvs, b0, bz, _, rfl, hWeb.mono (tst (fUp fX)), hW, hn, eDX (fUp fX), hN, h0.mono (tst (fUp fX)), hz.mono (tst (fUp fX)), kx.le (by decide) (by decide), tgX, fun H9 fr9 tg9 => ?_⟩
        refine ⟨true, rfl, ?_⟩
        exact iteF ⟨_, _, rfl, fX.trans fr9, tg9⟩
      · rintro σ HX ⟨y7, y8, rfl, fX, tgX⟩
        have kp' : ∀ {HY : Hp}, FrM [PT, L] H HY → Kt [] HY (.ref p) 40 20000 := fun f => ⟨_, hdW f, hsW.le (by decide) (by decide)⟩
        refine ⟨_, rfl, _, rfl, _, rfl, _, rfl, _, rfl, v, vz, v0, .ref p, Dn, n, ts, kvs, bz, b0, _, rfl, hWeb.mono (tst (fUp fX)), hW, hn, eDX (fUp fX), hN, hz.mono (tst (fUp fX)), h0.mono (tst (fUp fX)), kp' (fUp fX), tgX, fun H9 fr9 tg9 => ?_⟩
        refine ⟨true, rfl, iteF ?_⟩
        have f9 := fX.trans fr9
        have lf9 := lUp f9
        have tne : ts ≠ [] := fun z => by
          have := hl b0 (List.mem_of_getElem? e0)
          rw [z] at this
          have h2 := (List.mem_filter.mp this).2
          rcases of_decide_eq_true h2 with w | w <;> cases w
        refine ⟨_, rfl, _, rfl, _, rfl, _, rfl, L, v, _, n, ts, rfl, lf9, by omega, hWeb.mono (tst (fUp f9)), hW, ?_, tne, fun x HB t ht frB lfB hxB => ?_⟩
        · exact Nat.le_trans (len144W hn hW) (by decide)
        have fB : FrM [PT, L] H HB := (fUp f9).trans (frN frB)
        refine ⟨_, rfl, _, rfl, v, x, vz, .ref p, Dn, n, ts, kvs, t, bz, _, rfl, hWeb.mono (tst fB), hW, hn, eDX fB, hN, hxB, hz.mono (tst fB), kp' fB, tgF tg9 frB lf9, fun HC frC tgC => ?_⟩
        refine q _ (fB.trans (frC.wk fun x hx => by rw [List.mem_singleton.mp hx]; exact List.mem_cons_self)) tgC ?_
        obtain ⟨x, y, z, e, k⟩ := lfB
        refine ⟨x, y, z, frC _ _ (fun w => ?_) e, by omega⟩
        obtain ⟨_, e', _⟩ := tgF tg9 frB lf9
        rw [← List.mem_singleton.mp w, e] at e'; cases e'
end
end My

set_option Elab.async false
set_option linter.all false
namespace My
open PySem PySem.Spec PyProof.Rows L2 GxR
section
variable {P : Program} {w : World} {K : PySem.W.Frag} {mg : Str → Option Value} {base : Heap}
theorem ok_shrA {f PT : Addr} {fd : FuncData} (B : Bts mg) (F : Fun K "shows_round" "shows_round" s_shows_round f fd) (c1 : Cl P w K mg base 6 "is_walk" (sp_walk PT)) (c2 : Cl P w K mg base 6 "is_walk" (sp_walkN PT)) : FnOk P w K mg base CX0 7 f fd ["web", "thing"] (sp_shrA PT) :=
  (FnOk.or (ok_shr B F c1) (ok_shrN B F c2)).imp fun _ _ _ _ h => shrA_of h
theorem ok_shwayA {f PT : Addr} {fd : FuncData} (B : Bts mg) (F : Fun K "shows_way" "shows_way" s_shows_way f fd) (c1 : Cl P w K mg base 6 "is_walk" (sp_walk PT)) (c2 : Cl P w K mg base 6 "is_walk" (sp_walkN PT)) : FnOk P w K mg base CX0 7 f fd ["web", "one", "other", "thing"] (sp_shwayA PT) :=
  (FnOk.or (ok_shway B F c1) (ok_shwayN B F c2)).imp fun _ _ _ _ h => shwayA_of h
theorem ok_any3 {f : Addr} {fd : FuncData} (B : Bts mg) (F : Fun K "_law_any" "_law_any" s__law_any f fd) (c__law_pick : Cl P w K mg base 2 "_law_pick" sp_pick) (hm : mg "_law_any" = some (.ref f)) (hb : Binds K fd ["_law_left_here", "_law_deep_here"] []) : FnOk P w K mg base CX0 7 f fd ["_law_left_here", "_law_deep_here"] (sp_any 3) :=
  (ok_any B F c__law_pick hm hb 3).mono (by decide)
end
end My

set_option Elab.async false
set_option linter.all false
set_option maxRecDepth 100000
set_option pp.maxSteps 700
set_option maxHeartbeats 4000000
namespace My
open PySem PySem.Spec PyProof.Rows L2 GxR
theorem wayO_len3 {n : Nat} {ts l : List Ar} {s t : Ar} (hn : n ≤ 12) (bA : t ∈ arS n ts) (hO : wayO n ts s t = some l) : l.length ≤ 300 := by
  unfold wayO at hO
  split at hO
  · rename_i hm
    cases hO
    have nn : n * n ≤ 144 := Nat.mul_le_mul hn hn
    have := (steps_stp (ts := ts) (arS_inR bA)).low s hm
    have l2 := wayR_len (n := n) (ts := ts) (S := stepsF n ts t) (dOf (stepsF n ts t) s + 1) s [s]
    have e1 : [s].length = 1 := rfl
    unfold wayF
    omega
  · cases hO
theorem way_wk {n : Nat} {ts l : List Ar} {s t : Ar} (h : WayOk n ts s t l) : wkB ts l = true := by
  have h1 : l.isEmpty = false := by
    cases l with
    | nil => have := h.hd; cases this
    | cons => rfl
  have h2 : l.all (arB ts) = true := List.all_eq_true.mpr fun x hx => (List.mem_filter.mp (h.ar x hx)).2
  unfold wkB
  rw [h1, h2, h.st]; rfl
theorem way_rd {n : Nat} {ts l : List Ar} {s : Ar} (h : WayOk n ts s (sw s) l) : rdB ts l = true := by
  unfold rdB
  rw [way_wk h, h.hd, h.lst]
  exact decide_eq_true rfl
theorem eqv_nil16 (ts : List Ar) : PyData.eqv (.tuple (ts.map dT)) (.tuple []) = decide (ts = []) := by cases ts <;> rfl
theorem two_ways {T : Type} {A : Prop} {G R : T → Prop} (main : (∀ HA, R HA → G HA) → A) (rest : ∀ HA, R HA → G HA) : A := main rest
section
variable {P : Program} {w : World} {K : PySem.W.Frag} {mg : Str → Option Value} {base : Heap}
/-! ### law -/
abbrev s_law : Stmt := topS 37
abbrev N_law : List Str := ["_law_script", "_law_k", "_law_left_here", "_law_web_here", "_law_near_here", "_law_turn", "_law_one", "_law_way", "_law_turned"]
theorem sc_law : FnScope N_law ["_law_script"] (defScope s_law) := ⟨rfl, rfl, rfl, by decide +kernel, rfl, by decide +kernel, by decide +kernel⟩
def sp_law (K : PySem.W.Frag) (PT : Addr) : Sp := fun vs H Q _ => ∃ (a : Addr) (ns : List Int), vs = [.ref a] ∧ SqL K H a (ns.map V.int) ∧ ns.length ≤ 63 ∧ TabG H PT ∧ ∀ H', Q (.bl true) H'
theorem ok_law {f PT : Addr} {fd : FuncData} (B : Bts mg) (F : Fun K "law" "law" s_law f fd) (c__law_left : Cl P w K mg base 1 "_law_left" (sp_left K)) (c__law_web : Cl P w K mg base 5 "_law_web" sp_web) (c__law_near : Cl P w K mg base 1 "_law_near" sp_near)
    (c__law_arrow : Cl P w K mg base 3 "_law_arrow" sp_larrow) (c__law_walk : Cl P w K mg base 3 "_law_walk" sp_walk16) (c__law_way_due : Cl P w K mg base 3 "_law_way_due" sp_waydue) (c_shows_round : Cl P w K mg base 7 "shows_round" (sp_shr PT)) (c__law_right : ClG P w K mg base 9 "_law_right" (sp_right16 PT)) : TopRun P w K mg base f fd "_law_script" (sp_law K PT) := by
  refine top_run (k := 29) F sc_law ⟨rfl, by decide, by decide⟩ fun cdv s H v Q E hr h => ?_
  obtain ⟨a, ns, e, hS, hl, tg, q⟩ := h
  cases e
  refine ⟨_, (pss_cons (ps_for PassesOwn.never rfl (pi_range1 (by rfl) B.range (pa_cons (pe_op op_add (pe_callB (call_min2 rfl) (by rfl) B.min (by decide +kernel) (pa_cons pe_int (pa_cons (pe_callB call_len_seq (by rfl) B.len (by decide +kernel) (pa_cons (pv 0) pa_nil)) pa_nil))) pe_int) pa_nil)) (pg_name (i := 1) sc_law.nd rfl (by first | exact Or.inl rfl | exact Or.inr rfl))
      (pss_cons (ps_set (i := 2) sc_law.nd rfl (by first | exact Or.inl rfl | exact Or.inr rfl) (pe_c c__law_left hr (by decide) (by rfl) (pa_cons (pv 0) (pa_cons (pv 1) pa_nil))))
      (pss_cons (ps_set (i := 3) sc_law.nd rfl (by first | exact Or.inl rfl | exact Or.inr rfl) (pe_c c__law_web hr (by decide) (by rfl) (pa_cons (pv 2) (pa_cons pe_int pa_nil))))
      (pss_cons (ps_set (i := 4) sc_law.nd rfl (by first | exact Or.inl rfl | exact Or.inr rfl) (pe_c c__law_near hr (by decide) (by rfl) (pa_cons (pv 3) pa_nil)))
      (pss_one (ps_for PassesOwn.never rfl (pi_range1 (by rfl) B.range (pa_cons (pe_op op_mul pe_int (pe_callTy call_int1 (by rfl) B.int (by decide +kernel) (pa_cons (pe_cmpR (op_neD hr.units) (pe_ix ix_tup (pv 3) pe_int (fun _ _ => rfl)) (pe_tup pa_nil) (nomark _)) pa_nil))) pa_nil)) (pg_name (i := 5) sc_law.nd rfl (by first | exact Or.inl rfl | exact Or.inr rfl))
        (pss_cons (ps_set (i := 6) sc_law.nd rfl (by first | exact Or.inl rfl | exact Or.inr rfl) (pe_c c__law_arrow hr (by decide) (by rfl) (pa_cons (pv 2) (pa_cons (pv 3) pa_nil))))
        (pss_cons (ps_set (i := 7) sc_law.nd rfl (by first | exact Or.inl rfl | exact Or.inr rfl) (pe_c c__law_walk hr (by decide) (by rfl) (pa_cons (pv 2) (pa_cons (pv 3) (pa_cons (pv 4) (pa_cons (pv 6) pa_nil))))))
        (pss_cons (ps_set (i := 8) sc_law.nd rfl (by first | exact Or.inl rfl | exact Or.inr rfl) (pe_c c__law_way_due hr (by decide) (by rfl) (pa_cons (pv 3) (pa_cons (pv 4) (pa_cons (pv 6) (pa_cons (pe_rev2 (pv 6)) pa_nil))))))
        (pss_cons (ps_if (PW.pt (pw_and (pt_cmpR op_notN (pv 8) pe_non (nomark _)) (pw_and1 (pt_cmpR op_notBl (pe_c c_shows_round hr (by decide) (by rfl) (pa_cons (pv 3) (pa_cons (pv 8) pa_nil))) pe_bl (nomark _))))) (pss_one (ps_ret pe_bl)) pss_nil)
        (pss_cons (ps_if (PW.pt (pw_and (pt_cmpR op_notN (pv 8) pe_non (nomark _)) (pw_and1 (pt_cmpR op_eq (pv 5) pe_int (nomark _))))) (pss_one (ps_set (i := 7) sc_law.nd rfl (by first | exact Or.inl rfl | exact Or.inr rfl) (pv 8))) pss_nil)
        (pss_one (ps_if (pt_not (pt_val (pe_cG rfl c__law_right hr (by decide) (by rfl) (pa_cons (pv 2) (pa_cons (pv 3) (pa_cons (pv 4) (pa_cons (pv 7) pa_nil))))))) (pss_one (ps_ret pe_bl)) pss_nil)))))))))))))
    (pss_one (ps_ret pe_bl))), ?_⟩
  refine ⟨_, rfl, a, _, rfl, .inl hS, _, _, rfl, _, _, rfl, rfl, _, rfl, ?_, ?_, ?_⟩
  · split <;> omega
  · rw [List.length_map]; split <;> omega
  refine for_range (fun k σ H1 => ∃ y1 y2 y3 y4 y5 y6 y7 y8, σ = [some (.ref a), y1, y2, y3, y4, y5, y6, y7, y8] ∧ St1 PT H H1) ⟨none, none, none, none, none, none, none, none, rfl, St1.refl tg⟩ ?_ ?_
  · rintro k σ H1 hk ⟨y1, y2, y3, y4, y5, y6, y7, y8, rfl, S1⟩
    have hk' : k < 100 := by
      refine Nat.lt_of_lt_of_le hk ?_
      rw [List.length_map]; split <;> omega
    refine ⟨_, rfl, _, rfl, a, ns, _, rfl, St1.sq tg S1 hS, by omega, by omega, fun L H2 nL s2 lf2 => ?_⟩
    have n0L : H L = none := S1.free nL
    have S2 := S1.same s2
    refine ⟨_, rfl, L, 12, 0, rfl, lf2, by omega, by decide, fun v H3 n ts hn fr3 lf3 hWeb hW => ?_⟩
    have S3 := S2.frL lf2 n0L fr3
    have tl : ts.length ≤ 10000 := Nat.le_trans (len144W hn hW) (by decide)
    obtain ⟨pw, qw, uw, ev, ew, eqw, hT⟩ := id hWeb
    subst ev
    refine ⟨_, rfl, .ref pw, n, ts, rfl, hWeb, tl, fun D kvs H4 nD s4 eD hN => ?_⟩
    have S4 := S3.same s4
    have w4 := hWeb.mono (Same.tst s4)
    have lf4 := lf3.same s4
    have DL : D ≠ L := lf3.ne nD
    have tg4 := S4.tg
    have DP : D ≠ PT := fun z => by
      obtain ⟨_, e, _⟩ := tg4
      rw [← z, eD] at e; cases e
    have LP : L ≠ PT := fun z => by
      obtain ⟨_, e, _⟩ := tg4
      obtain ⟨_, _, _, e', _⟩ := lf4
      rw [← z, e'] at e; cases e
    have st4 : ∀ {HX : Hp}, FrM [PT, L] H4 HX → Tst H4 HX := fun f b xs e => f b _ (fun z => by
      rcases List.mem_cons.mp z with z | z
      · obtain ⟨_, e', _⟩ := tg4
        rw [z, e'] at e; cases e
      · obtain ⟨_, _, _, e', _⟩ := lf4
        rw [List.mem_singleton.mp z, e'] at e; cases e) e
    have eD4 : ∀ {HX : Hp}, FrM [PT, L] H4 HX → HX D = some (.dT kvs) := fun f => f D _ (fun z => by
      rcases List.mem_cons.mp z with z | z
      · exact DP z
      · exact DL (List.mem_singleton.mp z)) eD
    have frN : ∀ {HX HY : Hp}, Fr L HX HY → FrM [PT, L] HX HY := fun f b o nb e => f b o (fun z => nb (by rw [z]; exact List.mem_cons_of_mem _ List.mem_cons_self)) e
    have frP : ∀ {HX HY : Hp}, FrM [PT] HX HY → FrM [PT, L] HX HY := fun f => f.wk fun x hx => by rw [List.mem_singleton.mp hx]; exact List.mem_cons_self
    have tgF : ∀ {HX HY : Hp}, TabG HX PT → Fr L HX HY → TabG HY PT := fun {HX HY} t f => by
      obtain ⟨ps, e1, e2⟩ := t
      exact ⟨ps, f _ _ (fun z => LP z.symm) e1, e2⟩
    -- turns
    refine ⟨_, rfl, pw, _, _, _, rfl, rfl, SqT.of (s4 _ _ ew), rfl, Nat.zero_le _, fun tp ntp => ?_⟩
    have stp := same_new (o := .tup []) ntp
    refine ⟨.tuple (ts.map dT), .tuple [], .tup (SqT.of (stp _ _ (s4 _ _ eqw))) (hT.mono (Same.tst (s4.trans stp))).dp, .tup (SqT.of upd_same) .nil, shaped_tup ts, rfl, ?_⟩
    rw [eqv_nil16]
    refine .inr ⟨_, rfl, ?_⟩
    refine ⟨_, _, rfl, rfl, .inl ⟨by decide, by decide⟩, _, rfl, ?_, ?_, ?_⟩
    · split <;> decide
    · split <;> decide
    refine for_range (fun i σ H5 => ∃ y5 y6 y7 y8, σ = [some (.ref a), some (.int (0 + (k : Int))), some (.ref L), some (.ref pw), some (.ref D), y5, y6, y7, y8] ∧ FrM [PT, L] H4 H5 ∧ TabG H5 PT ∧ Lf H5 L (200000 + 600 * i)) ⟨y5, y6, y7, y8, rfl, frN (Fr.of stp), tab_same tg4 stp, (lf4.same stp).mono (by omega)⟩ ?_ ?_
    · rintro i σ H5 hi ⟨y5, y6, y7, y8, rfl, f5, tg5, lf5⟩
      have hne : ts ≠ [] := fun z => by
        rw [decide_eq_true z] at hi
        exact absurd hi (Nat.not_lt_zero _)
      have hi3 : i < 3 := by
        rw [decide_eq_false hne] at hi
        exact Nat.lt_of_lt_of_le hi (by decide)
      refine ⟨_, rfl, _, rfl, L, .ref pw, _, n, ts, rfl, lf5, by omega, w4.mono (st4 f5), hW, tl, hne, fun x H6 t tA fr6 lf6 hx => ?_⟩
      have f6 := f5.trans (frN fr6)
      have tg6 := tgF tg5 fr6
      refine ⟨_, rfl, _, rfl, _, rfl, _, rfl, L, D, .ref pw, x, _, n, ts, kvs, t, rfl, lf6, by omega, w4.mono (st4 f6), hW, hn, eD4 f6, hN, hx, tA, fun p us l H7 np fr7 lf7 ep hU ll lh la lwk => ?_⟩
      have f7 := f6.trans (frN fr7)
      have tg7 := tgF tg6 fr7
      have pL : p ≠ L := lf6.ne np
      have hx7 := hx.mono (lf6.tst fr7)
      obtain ⟨px, rfl, epx⟩ := id hx7
      have swA : sw t ∈ arS n ts := arS_sw hW tA
      refine ⟨_, rfl, _, rfl, _, rfl, _, rfl, px, _, _, rfl, epx, fun k1 nk1 => ?_⟩
      have sk1 := same_new (o := .tup [.int t.2, .int t.1]) nk1
      have hk1 : Tie (upd H7 k1 (.tup [.int t.2, .int t.1])) (.ref k1) (sw t) := ⟨k1, rfl, upd_same⟩
      have lf8 := lf7.same sk1
      have tg8 := tab_same tg7 sk1
      have f8 := f7.trans (frN (Fr.of sk1))
      have ep8 := sk1 _ _ ep
      have hU8 := hU.mono (Same.tst sk1)
      have hx8 := hx7.mono (Same.tst sk1)
      generalize upd H7 k1 (.tup [.int t.2, .int t.1]) = H8 at hk1 lf8 tg8 f8 ep8 hU8 hx8 ⊢
      refine ⟨.ref pw, .ref px, .ref k1, D, kvs, n, ts, t, sw t, rfl, w4.mono (st4 f8), hn, eD4 f8, hN, hx8, tA, hk1, swA, wayQ_of fun bk H9 s9 hbk => ?_⟩
      have f9 := f8.trans (frN (Fr.of s9))
      have tg9 := tab_same tg8 s9
      have lf9 := lf8.same s9
      have ep9 := s9 _ _ ep8
      have hU9 := hU8.mono (Same.tst s9)
      have pP9 : p ≠ PT := tab_ne tg9 ep9
      have P9 : p ≠ PT := tab_ne tg9 ep9
      apply two_ways (R := fun HA => FrM [PT] H9 HA ∧ TabG HA PT)
      · intro rest
        refine ⟨_, rfl, rfl, _, rfl, ?_⟩
        rcases id hbk with ⟨e, eb⟩ | ⟨l2, p2, us2, e, eb, ep2, hU2⟩
        · rw [decide_eq_true eb]
          exact iteF (iteF (rest H9 ⟨FrM.refl _ _, tg9⟩))
        · rw [decide_eq_false (fun z => by rw [eb] at z; cases z)]
          refine iteT ?_
          refine ⟨_, rfl, _, rfl, .ref pw, p2, n, ts, l2, us2, by rw [eb]; rfl, w4.mono (st4 f9), hW, ep2, hU2, Nat.le_trans (wayO_len3 hn swA e) (by decide), tg9, fun HM fr tgM => ?_⟩
          rw [way_rd (wayO_ok tA swA e).1]
          exact ⟨_, _, rfl, rfl, _, rfl, iteF (rest HM ⟨fr, tgM⟩)⟩
      rintro HA ⟨fA, tgA⟩
      have f4A := f9.trans (frP fA)
      have tA' := frM_tabW fA tg9
      have lfA : Lf HA L (200000 + 600 * i + 12) := by
        obtain ⟨x, y, z, e, h⟩ := lf9
        exact ⟨x, y, z, fA _ _ (fun w => LP (List.mem_singleton.mp w)) e, by omega⟩
      have ndp : ∀ {p2 : Addr} {us2 : List V} {l2 : List Ar}, H9 p2 = some (.lst us2) → Ties H9 us2 l2 → l2 ≠ [] → p2 ≠ L := fun {p2 us2 l2} e h ne z => by
        obtain ⟨xs, o, m, e', _⟩ := lf9
        rw [z, e'] at e
        cases e
        cases l2 with
        | nil => exact ne rfl
        | cons b bs => obtain ⟨p, hp, _⟩ := h.1; cases hp
      apply two_ways (T := V) (R := fun x => ∃ p' us' l', x = V.ref p' ∧ HA p' = some (.lst us') ∧ Ties HA us' l' ∧ l'.length ≤ 300 ∧ (∀ y ∈ l', y ∈ arS n ts) ∧ wkB ts l' = true ∧ p' ≠ L)
      · intro rest
        generalize hvp : V.ref p = vp
        have rp := rest vp ⟨p, us, l, hvp.symm, frm_lst fA tg9 ep9, hU9.mono tA', by omega, la, lwk, pL⟩
        refine ⟨_, rfl, rfl, _, rfl, ?_⟩
        rcases id hbk with ⟨e, eb⟩ | ⟨l2, p2, us2, e, eb, ep2, hU2⟩
        · rw [decide_eq_true eb]
          exact iteF (iteF rp)
        · rw [decide_eq_false (fun z => by rw [eb] at z; cases z)]
          have ok := (wayO_ok tA swA e).1
          refine iteT ⟨_, rfl, rfl, _, rfl, ite2 (fun _ => ?_) (fun _ => rp)⟩
          refine ⟨_, rfl, ?_⟩
          exact rest bk ⟨p2, us2, l2, eb, frm_lst fA tg9 ep2, hU2.mono tA', wayO_len3 hn swA e, ok.ar, way_wk ok, ndp ep2 hU2 (fun z => by rw [z] at ok; cases ok.hd)⟩
      rintro x' ⟨p', us', l', rfl, ep', hU', ll', la', lwk', pL'⟩
      refine ⟨_, rfl, _, rfl, _, rfl, _, rfl, L, D, p', .ref pw, us', _, n, ts, l', kvs, rfl, lfA, by omega, w4.mono (st4 f4A), hW, hn, eD4 f4A, hN, pL', ep', hU', ll', la', lwk', tgA, fun HC fC tgC lfC => ⟨true, rfl, iteF ⟨_, _, _, _, rfl, f4A.trans fC, tgC, lfC.mono (by omega)⟩⟩⟩
    · rintro σ H6 ⟨y5, y6, y7, y8, rfl, f6, tg6, lf6⟩
      refine ⟨_, _, _, _, _, _, _, _, rfl, ⟨fun b o nb eb => f6 b o (fun z => ?_) (S4.fr b o nb eb), tg6⟩⟩
      rcases List.mem_cons.mp z with z | z
      · exact nb (List.mem_singleton.mpr z)
      · rw [List.mem_singleton.mp z, n0L] at eb; cases eb
  · rintro σ H1 ⟨y1, y2, y3, y4, y5, y6, y7, y8, rfl, S1⟩
    exact q _
end
end My

set_option Elab.async false
set_option linter.all false
set_option maxRecDepth 100000
set_option maxHeartbeats 8000000
namespace My
open PySem PySem.Spec PyProof.Rows L2 GxR
/-! ### the head -/
def d_is_number : He.DefD := ⟨("is_number", none), "is_number", "is_number", defArgs s_is_number, defBody s_is_number, defScope s_is_number, [], []⟩
def d_is_pair : He.DefD := ⟨("is_pair", none), "is_pair", "is_pair", defArgs s_is_pair, defBody s_is_pair, defScope s_is_pair, [], []⟩
def d_tied : He.DefD := ⟨("tied", none), "tied", "tied", defArgs s_tied, defBody s_tied, defScope s_tied, [], []⟩
def d_tie_of : He.DefD := ⟨("tie_of", none), "tie_of", "tie_of", defArgs s_tie_of, defBody s_tie_of, defScope s_tie_of, [], []⟩
def d_shows_way : He.DefD := ⟨("shows_way", none), "shows_way", "shows_way", defArgs s_shows_way, defBody s_shows_way, defScope s_shows_way, [], []⟩
def d_shows_round : He.DefD := ⟨("shows_round", none), "shows_round", "shows_round", defArgs s_shows_round, defBody s_shows_round, defScope s_shows_round, [], []⟩
def d_is_walk : He.DefD := ⟨("is_walk", none), "is_walk", "is_walk", defArgs s_is_walk, defBody s_is_walk, defScope s_is_walk, [], []⟩
def d_is_arrow : He.DefD := ⟨("is_arrow", none), "is_arrow", "is_arrow", defArgs s_is_arrow, defBody s_is_arrow, defScope s_is_arrow, [], []⟩
def d_force : He.DefD := ⟨("force", none), "force", "force", defArgs s_force, defBody s_force, defScope s_force, [], []⟩
def d_has_gap : He.DefD := ⟨("has_gap", none), "has_gap", "has_gap", defArgs s_has_gap, defBody s_has_gap, defScope s_has_gap, [], []⟩
def d__law_mix : He.DefD := ⟨("_law_mix", none), "_law_mix", "_law_mix", defArgs s__law_mix, defBody s__law_mix, defScope s__law_mix, [], []⟩
def d__law_left : He.DefD := ⟨("_law_left", none), "_law_left", "_law_left", defArgs s__law_left, defBody s__law_left, defScope s__law_left, [], []⟩
def d__law_pick : He.DefD := ⟨("_law_pick", none), "_law_pick", "_law_pick", defArgs s__law_pick, defBody s__law_pick, defScope s__law_pick, [], []⟩
def d__law_pairs : He.DefD := ⟨("_law_pairs", none), "_law_pairs", "_law_pairs", defArgs s__law_pairs, defBody s__law_pairs, defScope s__law_pairs, [], []⟩
def d__law_any_web : He.DefD := ⟨("_law_any_web", none), "_law_any_web", "_law_any_web", defArgs s__law_any_web, defBody s__law_any_web, defScope s__law_any_web, [], []⟩
def d__law_row : He.DefD := ⟨("_law_row", none), "_law_row", "_law_row", defArgs s__law_row, defBody s__law_row, defScope s__law_row, [], []⟩
def d__law_row_web : He.DefD := ⟨("_law_row_web", none), "_law_row_web", "_law_row_web", defArgs s__law_row_web, defBody s__law_row_web, defScope s__law_row_web, [], []⟩
def d__law_ring_web : He.DefD := ⟨("_law_ring_web", none), "_law_ring_web", "_law_ring_web", defArgs s__law_ring_web, defBody s__law_ring_web, defScope s__law_ring_web, [], []⟩
def d__law_put_together : He.DefD := ⟨("_law_put_together", none), "_law_put_together", "_law_put_together", defArgs s__law_put_together, defBody s__law_put_together, defScope s__law_put_together, [], []⟩
def d__law_web : He.DefD := ⟨("_law_web", none), "_law_web", "_law_web", defArgs s__law_web, defBody s__law_web, defScope s__law_web, [], []⟩
def d__law_near : He.DefD := ⟨("_law_near", none), "_law_near", "_law_near", defArgs s__law_near, defBody s__law_near, defScope s__law_near, [], []⟩
def d__law_forced : He.DefD := ⟨("_law_forced", none), "_law_forced", "_law_forced", defArgs s__law_forced, defBody s__law_forced, defScope s__law_forced, [], []⟩
def d__law_any : He.DefD := ⟨("_law_any", none), "_law_any", "_law_any", defArgs s__law_any, defBody s__law_any, defScope s__law_any, [], []⟩
def d__law_deep : He.DefD := ⟨("_law_deep", none), "_law_deep", "_law_deep", defArgs s__law_deep, defBody s__law_deep, defScope s__law_deep, [], []⟩
def d__law_arrow : He.DefD := ⟨("_law_arrow", none), "_law_arrow", "_law_arrow", defArgs s__law_arrow, defBody s__law_arrow, defScope s__law_arrow, [], []⟩
def d__law_far : He.DefD := ⟨("_law_far", none), "_law_far", "_law_far", defArgs s__law_far, defBody s__law_far, defScope s__law_far, [], []⟩
def d__law_way_due : He.DefD := ⟨("_law_way_due", none), "_law_way_due", "_law_way_due", defArgs s__law_way_due, defBody s__law_way_due, defScope s__law_way_due, [], []⟩
def d__law_is_way : He.DefD := ⟨("_law_is_way", none), "_law_is_way", "_law_is_way", defArgs s__law_is_way, defBody s__law_is_way, defScope s__law_is_way, [], []⟩
def d__law_numbers : He.DefD := ⟨("_law_numbers", none), "_law_numbers", "_law_numbers", defArgs s__law_numbers, defBody s__law_numbers, defScope s__law_numbers, [], []⟩
def d__law_walk : He.DefD := ⟨("_law_walk", none), "_law_walk", "_law_walk", defArgs s__law_walk, defBody s__law_walk, defScope s__law_walk, [], []⟩
def d__law_bent : He.DefD := ⟨("_law_bent", none), "_law_bent", "_law_bent", defArgs s__law_bent, defBody s__law_bent, defScope s__law_bent, [], []⟩
def d__law_as_due : He.DefD := ⟨("_law_as_due", none), "_law_as_due", "_law_as_due", defArgs s__law_as_due, defBody s__law_as_due, defScope s__law_as_due, [], []⟩
def d__law_right : He.DefD := ⟨("_law_right", none), "_law_right", "_law_right", defArgs s__law_right, defBody s__law_right, defScope s__law_right, [], []⟩
def d_law : He.DefD := ⟨("law", none), "law", "law", defArgs s_law, defBody s_law, defScope s_law, [], []⟩
def fns : List He.DefD := [d_is_number, d_is_pair, d_tied, d_tie_of, d_shows_way, d_shows_round, d_is_walk, d_is_arrow, d_force, d_has_gap, d__law_mix, d__law_left, d__law_pick, d__law_pairs, d__law_any_web, d__law_row, d__law_row_web, d__law_ring_web, d__law_put_together, d__law_web, d__law_near, d__law_forced, d__law_any, d__law_deep, d__law_arrow, d__law_far, d__law_way_due, d__law_is_way, d__law_numbers, d__law_walk, d__law_bent, d__law_as_due, d__law_right, d_law]
def fas : List He.Fa := [.glo "is_number", .glo "is_pair", .glo "tied", .glo "tie_of", .glo "shows_way", .glo "shows_round", .glo "is_walk", .glo "is_arrow", .glo "force", .glo "has_gap", .glo "_law_mix", .glo "_law_left", .glo "_law_pick", .glo "_law_pairs", .glo "_law_any_web", .glo "_law_row", .glo "_law_row_web", .glo "_law_ring_web", .glo "_law_put_together", .glo "_law_web", .glo "_law_near", .glo "_law_forced", .glo "_law_any", .glo "_law_deep", .glo "_law_arrow", .glo "_law_far", .glo "_law_way_due", .glo "_law_is_way", .glo "_law_numbers", .glo "_law_walk", .glo "_law_bent", .glo "_law_as_due", .glo "_law_right", .glo "law", .free "len", .free "range", .free "tuple", .free "list", .free "int", .free "abs", .free "min", .free "sorted", .free "set", .free "all", .free "any", .free "enumerate", .free "zip", .free "isinstance", .free "bool", .free "str", .free "dict", .free "max", .free "reversed", .free "sum"]
def tfs : List He.Defn := [("is_walk", none)]
abbrev Rw : PySem.W.OpenRow := PySem.W.OpenLaw.row PySem.Challenge.rw_pointedties_k16_ways_shown
def exf (K : PySem.W.Frag) : Bool := true
abbrev hk : PySem.W.Hook := He.hookX 4 fas fns [] tfs exf
def ob (s : PySem.W.SharedT) : He.AlX := He.obsX 4 fas fns [] tfs exf (HandSHeadRun.getT s)
theorem ob_eq (s : PySem.W.SharedT) : ob s = hk.obs s.abs := He.obsX_eq (HandSHeadRun.getT_eq s)
abbrev others : List Str := [("is_number" : Str), ("is_pair" : Str), ("tied" : Str), ("tie_of" : Str), ("shows_way" : Str), ("shows_round" : Str), ("is_walk" : Str), ("is_arrow" : Str), ("force" : Str), ("has_gap" : Str), ("_law_mix" : Str), ("_law_left" : Str), ("_law_pick" : Str), ("_law_pairs" : Str), ("_law_any_web" : Str), ("_law_row" : Str), ("_law_row_web" : Str), ("_law_ring_web" : Str), ("_law_put_together" : Str), ("_law_web" : Str), ("_law_near" : Str), ("_law_forced" : Str), ("_law_any" : Str), ("_law_deep" : Str), ("_law_arrow" : Str), ("_law_far" : Str), ("_law_way_due" : Str), ("_law_is_way" : Str), ("_law_numbers" : Str), ("_law_walk" : Str), ("_law_bent" : Str), ("_law_as_due" : Str), ("_law_right" : Str)]
theorem run (w : World) : HandSHeadRun.RunEq Rw (PySem.W.view Rw.prog [37]) hk ob 4000 others w := by
  intro os; kernel_rfl

theorem code_of {K : PySem.W.Frag} {x q : Str} {st : Stmt} {p : He.Defn} {fd : FuncData} (F : Fun K x q st (He.fAd K p) fd) : fd.code = .ref (He.codeOf K p) := by
  obtain ⟨oc, od, kV, doc, pm, an, cdv, ct, osl, rfl, lk, hcd⟩ := F.ex
  cases cdv with
  | ref c => rw [He.codeOf_eq lk rfl]
  | _ => cases hcd
theorem law_ok {P : Program} {w : World} {K : PySem.W.Frag} {h : Heap} {mg : Str → Option Value} {f : Addr} (X : K.In h) (G : h.Ns mainGlobals mg) (hfa : mg ("law" : Str) = some (.ref f)) (c : He.SaysX fas fns [] tfs exf w h K) :
    ∃ fd : FuncData, (∀ (s : Shared) (v : Value), BindsTo s fd ⟨[v], []⟩ [("_law_script", v)]) ∧ ∀ base : Heap, K.In base → base.Ns mainGlobals mg → (∀ p ∈ tfs.map (He.cT K), LamX.TabB base mg p.1 p.2) →
      TopRun P w K mg base f fd "_law_script" (sp_law K (He.cT K ("is_walk", none)).2) := by
    have cd := c.t.d
    obtain ⟨fd_is_number, F_is_number⟩ := cd.def_ 0 (d := d_is_number) rfl
    have b_is_number : Binds K fd_is_number ["thing"] [] := F_is_number.bindsN fun _ _ _ _ _ _ us hl => match us, hl with | [_], _ => rfl
    have g_is_number : mg "is_number" = some (.ref (He.ga K "is_number")) := He.glo_ok X G (cd.fact 0 (f := .glo "is_number") rfl)
    have U_is_number : Fun K "is_number" "is_number" s_is_number (He.ga K "is_number") fd_is_number := fun_of F_is_number
    obtain ⟨fd_is_pair, F_is_pair⟩ := cd.def_ 1 (d := d_is_pair) rfl
    have b_is_pair : Binds K fd_is_pair ["thing"] [] := F_is_pair.bindsN fun _ _ _ _ _ _ us hl => match us, hl with | [_], _ => rfl
    have g_is_pair : mg "is_pair" = some (.ref (He.ga K "is_pair")) := He.glo_ok X G (cd.fact 1 (f := .glo "is_pair") rfl)
    have U_is_pair : Fun K "is_pair" "is_pair" s_is_pair (He.ga K "is_pair") fd_is_pair := fun_of F_is_pair
    obtain ⟨fd_tied, F_tied⟩ := cd.def_ 2 (d := d_tied) rfl
    have b_tied : Binds K fd_tied ["web", "a", "b"] [] := F_tied.bindsN fun _ _ _ _ _ _ us hl => match us, hl with | [_, _, _], _ => rfl
    have g_tied : mg "tied" = some (.ref (He.ga K "tied")) := He.glo_ok X G (cd.fact 2 (f := .glo "tied") rfl)
    have U_tied : Fun K "tied" "tied" s_tied (He.ga K "tied") fd_tied := fun_of F_tied
    obtain ⟨fd_tie_of, F_tie_of⟩ := cd.def_ 3 (d := d_tie_of) rfl
    have b_tie_of : Binds K fd_tie_of ["a", "b"] [] := F_tie_of.bindsN fun _ _ _ _ _ _ us hl => match us, hl with | [_, _], _ => rfl
    have g_tie_of : mg "tie_of" = some (.ref (He.ga K "tie_of")) := He.glo_ok X G (cd.fact 3 (f := .glo "tie_of") rfl)
    have U_tie_of : Fun K "tie_of" "tie_of" s_tie_of (He.ga K "tie_of") fd_tie_of := fun_of F_tie_of
    obtain ⟨fd_shows_way, F_shows_way⟩ := cd.def_ 4 (d := d_shows_way) rfl
    have b_shows_way : Binds K fd_shows_way ["web", "one", "other", "thing"] [] := F_shows_way.bindsN fun _ _ _ _ _ _ us hl => match us, hl with | [_, _, _, _], _ => rfl
    have g_shows_way : mg "shows_way" = some (.ref (He.ga K "shows_way")) := He.glo_ok X G (cd.fact 4 (f := .glo "shows_way") rfl)
    have U_shows_way : Fun K "shows_way" "shows_way" s_shows_way (He.ga K "shows_way") fd_shows_way := fun_of F_shows_way
    obtain ⟨fd_shows_round, F_shows_round⟩ := cd.def_ 5 (d := d_shows_round) rfl
    have b_shows_round : Binds K fd_shows_round ["web", "thing"] [] := F_shows_round.bindsN fun _ _ _ _ _ _ us hl => match us, hl with | [_, _], _ => rfl
    have g_shows_round : mg "shows_round" = some (.ref (He.ga K "shows_round")) := He.glo_ok X G (cd.fact 5 (f := .glo "shows_round") rfl)
    have U_shows_round : Fun K "shows_round" "shows_round" s_shows_round (He.ga K "shows_round") fd_shows_round := fun_of F_shows_round
    obtain ⟨fd_is_walk, F_is_walk⟩ := cd.def_ 6 (d := d_is_walk) rfl
    have b_is_walk : Binds K fd_is_walk ["web", "thing"] [] := F_is_walk.bindsN fun _ _ _ _ _ _ us hl => match us, hl with | [_, _], _ => rfl
    have g_is_walk : mg "is_walk" = some (.ref (He.ga K "is_walk")) := He.glo_ok X G (cd.fact 6 (f := .glo "is_walk") rfl)
    have U_is_walk : Fun K "is_walk" "is_walk" s_is_walk (He.ga K "is_walk") fd_is_walk := fun_of F_is_walk
    obtain ⟨fd_is_arrow, F_is_arrow⟩ := cd.def_ 7 (d := d_is_arrow) rfl
    have b_is_arrow : Binds K fd_is_arrow ["web", "thing"] [] := F_is_arrow.bindsN fun _ _ _ _ _ _ us hl => match us, hl with | [_, _], _ => rfl
    have g_is_arrow : mg "is_arrow" = some (.ref (He.ga K "is_arrow")) := He.glo_ok X G (cd.fact 7 (f := .glo "is_arrow") rfl)
    have U_is_arrow : Fun K "is_arrow" "is_arrow" s_is_arrow (He.ga K "is_arrow") fd_is_arrow := fun_of F_is_arrow
    obtain ⟨fd_force, F_force⟩ := cd.def_ 8 (d := d_force) rfl
    have b_force : Binds K fd_force ["web", "one", "other"] [] := F_force.bindsN fun _ _ _ _ _ _ us hl => match us, hl with | [_, _, _], _ => rfl
    have g_force : mg "force" = some (.ref (He.ga K "force")) := He.glo_ok X G (cd.fact 8 (f := .glo "force") rfl)
    have U_force : Fun K "force" "force" s_force (He.ga K "force") fd_force := fun_of F_force
    obtain ⟨fd_has_gap, F_has_gap⟩ := cd.def_ 9 (d := d_has_gap) rfl
    have b_has_gap : Binds K fd_has_gap ["web", "a", "b"] [] := F_has_gap.bindsN fun _ _ _ _ _ _ us hl => match us, hl with | [_, _, _], _ => rfl
    have g_has_gap : mg "has_gap" = some (.ref (He.ga K "has_gap")) := He.glo_ok X G (cd.fact 9 (f := .glo "has_gap") rfl)
    have U_has_gap : Fun K "has_gap" "has_gap" s_has_gap (He.ga K "has_gap") fd_has_gap := fun_of F_has_gap
    obtain ⟨fd__law_mix, F__law_mix⟩ := cd.def_ 10 (d := d__law_mix) rfl
    have b__law_mix : Binds K fd__law_mix ["_law_cell", "_law_k"] [] := F__law_mix.bindsN fun _ _ _ _ _ _ us hl => match us, hl with | [_, _], _ => rfl
    have g__law_mix : mg "_law_mix" = some (.ref (He.ga K "_law_mix")) := He.glo_ok X G (cd.fact 10 (f := .glo "_law_mix") rfl)
    have U__law_mix : Fun K "_law_mix" "_law_mix" s__law_mix (He.ga K "_law_mix") fd__law_mix := fun_of F__law_mix
    obtain ⟨fd__law_left, F__law_left⟩ := cd.def_ 11 (d := d__law_left) rfl
    have b__law_left : Binds K fd__law_left ["_law_script", "_law_k"] [] := F__law_left.bindsN fun _ _ _ _ _ _ us hl => match us, hl with | [_, _], _ => rfl
    have g__law_left : mg "_law_left" = some (.ref (He.ga K "_law_left")) := He.glo_ok X G (cd.fact 11 (f := .glo "_law_left") rfl)
    have U__law_left : Fun K "_law_left" "_law_left" s__law_left (He.ga K "_law_left") fd__law_left := fun_of F__law_left
    obtain ⟨fd__law_pick, F__law_pick⟩ := cd.def_ 12 (d := d__law_pick) rfl
    have b__law_pick : Binds K fd__law_pick ["_law_left_here", "_law_many"] [] := F__law_pick.bindsN fun _ _ _ _ _ _ us hl => match us, hl with | [_, _], _ => rfl
    have g__law_pick : mg "_law_pick" = some (.ref (He.ga K "_law_pick")) := He.glo_ok X G (cd.fact 12 (f := .glo "_law_pick") rfl)
    have U__law_pick : Fun K "_law_pick" "_law_pick" s__law_pick (He.ga K "_law_pick") fd__law_pick := fun_of F__law_pick
    obtain ⟨fd__law_pairs, F__law_pairs⟩ := cd.def_ 13 (d := d__law_pairs) rfl
    have b__law_pairs : Binds K fd__law_pairs ["_law_many"] [] := F__law_pairs.bindsN fun _ _ _ _ _ _ us hl => match us, hl with | [_], _ => rfl
    have g__law_pairs : mg "_law_pairs" = some (.ref (He.ga K "_law_pairs")) := He.glo_ok X G (cd.fact 13 (f := .glo "_law_pairs") rfl)
    have U__law_pairs : Fun K "_law_pairs" "_law_pairs" s__law_pairs (He.ga K "_law_pairs") fd__law_pairs := fun_of F__law_pairs
    obtain ⟨fd__law_any_web, F__law_any_web⟩ := cd.def_ 14 (d := d__law_any_web) rfl
    have b__law_any_web : Binds K fd__law_any_web ["_law_left_here", "_law_many"] [] := F__law_any_web.bindsN fun _ _ _ _ _ _ us hl => match us, hl with | [_, _], _ => rfl
    have g__law_any_web : mg "_law_any_web" = some (.ref (He.ga K "_law_any_web")) := He.glo_ok X G (cd.fact 14 (f := .glo "_law_any_web") rfl)
    have U__law_any_web : Fun K "_law_any_web" "_law_any_web" s__law_any_web (He.ga K "_law_any_web") fd__law_any_web := fun_of F__law_any_web
    obtain ⟨fd__law_row, F__law_row⟩ := cd.def_ 15 (d := d__law_row) rfl
    have b__law_row : Binds K fd__law_row ["_law_left_here", "_law_many"] [] := F__law_row.bindsN fun _ _ _ _ _ _ us hl => match us, hl with | [_, _], _ => rfl
    have g__law_row : mg "_law_row" = some (.ref (He.ga K "_law_row")) := He.glo_ok X G (cd.fact 15 (f := .glo "_law_row") rfl)
    have U__law_row : Fun K "_law_row" "_law_row" s__law_row (He.ga K "_law_row") fd__law_row := fun_of F__law_row
    obtain ⟨fd__law_row_web, F__law_row_web⟩ := cd.def_ 16 (d := d__law_row_web) rfl
    have b__law_row_web : Binds K fd__law_row_web ["_law_left_here", "_law_many"] [] := F__law_row_web.bindsN fun _ _ _ _ _ _ us hl => match us, hl with | [_, _], _ => rfl
    have g__law_row_web : mg "_law_row_web" = some (.ref (He.ga K "_law_row_web")) := He.glo_ok X G (cd.fact 16 (f := .glo "_law_row_web") rfl)
    have U__law_row_web : Fun K "_law_row_web" "_law_row_web" s__law_row_web (He.ga K "_law_row_web") fd__law_row_web := fun_of F__law_row_web
    obtain ⟨fd__law_ring_web, F__law_ring_web⟩ := cd.def_ 17 (d := d__law_ring_web) rfl
    have b__law_ring_web : Binds K fd__law_ring_web ["_law_left_here", "_law_many"] [] := F__law_ring_web.bindsN fun _ _ _ _ _ _ us hl => match us, hl with | [_, _], _ => rfl
    have g__law_ring_web : mg "_law_ring_web" = some (.ref (He.ga K "_law_ring_web")) := He.glo_ok X G (cd.fact 17 (f := .glo "_law_ring_web") rfl)
    have U__law_ring_web : Fun K "_law_ring_web" "_law_ring_web" s__law_ring_web (He.ga K "_law_ring_web") fd__law_ring_web := fun_of F__law_ring_web
    obtain ⟨fd__law_put_together, F__law_put_together⟩ := cd.def_ 18 (d := d__law_put_together) rfl
    have b__law_put_together : Binds K fd__law_put_together ["_law_left_here", "_law_many"] [] := F__law_put_together.bindsN fun _ _ _ _ _ _ us hl => match us, hl with | [_, _], _ => rfl
    have g__law_put_together : mg "_law_put_together" = some (.ref (He.ga K "_law_put_together")) := He.glo_ok X G (cd.fact 18 (f := .glo "_law_put_together") rfl)
    have U__law_put_together : Fun K "_law_put_together" "_law_put_together" s__law_put_together (He.ga K "_law_put_together") fd__law_put_together := fun_of F__law_put_together
    obtain ⟨fd__law_web, F__law_web⟩ := cd.def_ 19 (d := d__law_web) rfl
    have b__law_web : Binds K fd__law_web ["_law_left_here", "_law_most"] [] := F__law_web.bindsN fun _ _ _ _ _ _ us hl => match us, hl with | [_, _], _ => rfl
    have g__law_web : mg "_law_web" = some (.ref (He.ga K "_law_web")) := He.glo_ok X G (cd.fact 19 (f := .glo "_law_web") rfl)
    have U__law_web : Fun K "_law_web" "_law_web" s__law_web (He.ga K "_law_web") fd__law_web := fun_of F__law_web
    obtain ⟨fd__law_near, F__law_near⟩ := cd.def_ 20 (d := d__law_near) rfl
    have b__law_near : Binds K fd__law_near ["_law_web_here"] [] := F__law_near.bindsN fun _ _ _ _ _ _ us hl => match us, hl with | [_], _ => rfl
    have g__law_near : mg "_law_near" = some (.ref (He.ga K "_law_near")) := He.glo_ok X G (cd.fact 20 (f := .glo "_law_near") rfl)
    have U__law_near : Fun K "_law_near" "_law_near" s__law_near (He.ga K "_law_near") fd__law_near := fun_of F__law_near
    obtain ⟨fd__law_forced, F__law_forced⟩ := cd.def_ 21 (d := d__law_forced) rfl
    have b__law_forced : Binds K fd__law_forced ["_law_web_here", "_law_near_here", "_law_arrow_here"] [] := F__law_forced.bindsN fun _ _ _ _ _ _ us hl => match us, hl with | [_, _, _], _ => rfl
    have g__law_forced : mg "_law_forced" = some (.ref (He.ga K "_law_forced")) := He.glo_ok X G (cd.fact 21 (f := .glo "_law_forced") rfl)
    have U__law_forced : Fun K "_law_forced" "_law_forced" s__law_forced (He.ga K "_law_forced") fd__law_forced := fun_of F__law_forced
    obtain ⟨fd__law_any, F__law_any⟩ := cd.def_ 22 (d := d__law_any) rfl
    have b__law_any : Binds K fd__law_any ["_law_left_here", "_law_deep_here"] [] := F__law_any.bindsN fun _ _ _ _ _ _ us hl => match us, hl with | [_, _], _ => rfl
    have g__law_any : mg "_law_any" = some (.ref (He.ga K "_law_any")) := He.glo_ok X G (cd.fact 22 (f := .glo "_law_any") rfl)
    have U__law_any : Fun K "_law_any" "_law_any" s__law_any (He.ga K "_law_any") fd__law_any := fun_of F__law_any
    obtain ⟨fd__law_deep, F__law_deep⟩ := cd.def_ 23 (d := d__law_deep) rfl
    have b__law_deep : Binds K fd__law_deep ["_law_left_here"] [] := F__law_deep.bindsN fun _ _ _ _ _ _ us hl => match us, hl with | [_], _ => rfl
    have g__law_deep : mg "_law_deep" = some (.ref (He.ga K "_law_deep")) := He.glo_ok X G (cd.fact 23 (f := .glo "_law_deep") rfl)
    have U__law_deep : Fun K "_law_deep" "_law_deep" s__law_deep (He.ga K "_law_deep") fd__law_deep := fun_of F__law_deep
    obtain ⟨fd__law_arrow, F__law_arrow⟩ := cd.def_ 24 (d := d__law_arrow) rfl
    have b__law_arrow : Binds K fd__law_arrow ["_law_left_here", "_law_web_here"] [] := F__law_arrow.bindsN fun _ _ _ _ _ _ us hl => match us, hl with | [_, _], _ => rfl
    have g__law_arrow : mg "_law_arrow" = some (.ref (He.ga K "_law_arrow")) := He.glo_ok X G (cd.fact 24 (f := .glo "_law_arrow") rfl)
    have U__law_arrow : Fun K "_law_arrow" "_law_arrow" s__law_arrow (He.ga K "_law_arrow") fd__law_arrow := fun_of F__law_arrow
    obtain ⟨fd__law_far, F__law_far⟩ := cd.def_ 25 (d := d__law_far) rfl
    have b__law_far : Binds K fd__law_far ["_law_web_here", "_law_near_here", "_law_goal"] [] := F__law_far.bindsN fun _ _ _ _ _ _ us hl => match us, hl with | [_, _, _], _ => rfl
    have g__law_far : mg "_law_far" = some (.ref (He.ga K "_law_far")) := He.glo_ok X G (cd.fact 25 (f := .glo "_law_far") rfl)
    have U__law_far : Fun K "_law_far" "_law_far" s__law_far (He.ga K "_law_far") fd__law_far := fun_of F__law_far
    obtain ⟨fd__law_way_due, F__law_way_due⟩ := cd.def_ 26 (d := d__law_way_due) rfl
    have b__law_way_due : Binds K fd__law_way_due ["_law_web_here", "_law_near_here", "_law_one", "_law_other"] [] := F__law_way_due.bindsN fun _ _ _ _ _ _ us hl => match us, hl with | [_, _, _, _], _ => rfl
    have g__law_way_due : mg "_law_way_due" = some (.ref (He.ga K "_law_way_due")) := He.glo_ok X G (cd.fact 26 (f := .glo "_law_way_due") rfl)
    have U__law_way_due : Fun K "_law_way_due" "_law_way_due" s__law_way_due (He.ga K "_law_way_due") fd__law_way_due := fun_of F__law_way_due
    obtain ⟨fd__law_is_way, F__law_is_way⟩ := cd.def_ 27 (d := d__law_is_way) rfl
    have b__law_is_way : Binds K fd__law_is_way ["_law_web_here", "_law_near_here", "_law_thing"] [] := F__law_is_way.bindsN fun _ _ _ _ _ _ us hl => match us, hl with | [_, _, _], _ => rfl
    have g__law_is_way : mg "_law_is_way" = some (.ref (He.ga K "_law_is_way")) := He.glo_ok X G (cd.fact 27 (f := .glo "_law_is_way") rfl)
    have U__law_is_way : Fun K "_law_is_way" "_law_is_way" s__law_is_way (He.ga K "_law_is_way") fd__law_is_way := fun_of F__law_is_way
    obtain ⟨fd__law_numbers, F__law_numbers⟩ := cd.def_ 28 (d := d__law_numbers) rfl
    have b__law_numbers : Binds K fd__law_numbers ["_law_some"] [] := F__law_numbers.bindsN fun _ _ _ _ _ _ us hl => match us, hl with | [_], _ => rfl
    have g__law_numbers : mg "_law_numbers" = some (.ref (He.ga K "_law_numbers")) := He.glo_ok X G (cd.fact 28 (f := .glo "_law_numbers") rfl)
    have U__law_numbers : Fun K "_law_numbers" "_law_numbers" s__law_numbers (He.ga K "_law_numbers") fd__law_numbers := fun_of F__law_numbers
    obtain ⟨fd__law_walk, F__law_walk⟩ := cd.def_ 29 (d := d__law_walk) rfl
    have b__law_walk : Binds K fd__law_walk ["_law_left_here", "_law_web_here", "_law_near_here", "_law_arrow_here"] [] := F__law_walk.bindsN fun _ _ _ _ _ _ us hl => match us, hl with | [_, _, _, _], _ => rfl
    have g__law_walk : mg "_law_walk" = some (.ref (He.ga K "_law_walk")) := He.glo_ok X G (cd.fact 29 (f := .glo "_law_walk") rfl)
    have U__law_walk : Fun K "_law_walk" "_law_walk" s__law_walk (He.ga K "_law_walk") fd__law_walk := fun_of F__law_walk
    obtain ⟨fd__law_bent, F__law_bent⟩ := cd.def_ 30 (d := d__law_bent) rfl
    have b__law_bent : Binds K fd__law_bent ["_law_left_here", "_law_web_here", "_law_way"] [] := F__law_bent.bindsN fun _ _ _ _ _ _ us hl => match us, hl with | [_, _, _], _ => rfl
    have g__law_bent : mg "_law_bent" = some (.ref (He.ga K "_law_bent")) := He.glo_ok X G (cd.fact 30 (f := .glo "_law_bent") rfl)
    have U__law_bent : Fun K "_law_bent" "_law_bent" s__law_bent (He.ga K "_law_bent") fd__law_bent := fun_of F__law_bent
    obtain ⟨fd__law_as_due, F__law_as_due⟩ := cd.def_ 31 (d := d__law_as_due) rfl
    have b__law_as_due : Binds K fd__law_as_due ["_law_web_here", "_law_near_here", "_law_one", "_law_other", "_law_thing"] [] := F__law_as_due.bindsN fun _ _ _ _ _ _ us hl => match us, hl with | [_, _, _, _, _], _ => rfl
    have g__law_as_due : mg "_law_as_due" = some (.ref (He.ga K "_law_as_due")) := He.glo_ok X G (cd.fact 31 (f := .glo "_law_as_due") rfl)
    have U__law_as_due : Fun K "_law_as_due" "_law_as_due" s__law_as_due (He.ga K "_law_as_due") fd__law_as_due := fun_of F__law_as_due
    obtain ⟨fd__law_right, F__law_right⟩ := cd.def_ 32 (d := d__law_right) rfl
    have b__law_right : Binds K fd__law_right ["_law_left_here", "_law_web_here", "_law_near_here", "_law_way"] [] := F__law_right.bindsN fun _ _ _ _ _ _ us hl => match us, hl with | [_, _, _, _], _ => rfl
    have g__law_right : mg "_law_right" = some (.ref (He.ga K "_law_right")) := He.glo_ok X G (cd.fact 32 (f := .glo "_law_right") rfl)
    have U__law_right : Fun K "_law_right" "_law_right" s__law_right (He.ga K "_law_right") fd__law_right := fun_of F__law_right
    obtain ⟨fd_law, F_law⟩ := cd.def_ 33 (d := d_law) rfl
    have b_law : Binds K fd_law ["_law_script"] [] := F_law.bindsN fun _ _ _ _ _ _ us hl => match us, hl with | [_], _ => rfl
    have g_law : mg "law" = some (.ref (He.ga K "law")) := He.glo_ok X G (cd.fact 33 (f := .glo "law") rfl)
    have bA_law := FunD.bindsA (ps := ["_law_script"]) F_law fun _ _ _ _ _ _ us hl => match us, hl with | [_], _ => rfl
    have U_law : Fun K "law" "law" s_law (He.ga K "law") fd_law := fun_of F_law
    have B : Bts mg := ⟨He.free_ok X G (cd.fact 34 (f := .free "len") rfl), He.free_ok X G (cd.fact 35 (f := .free "range") rfl), He.free_ok X G (cd.fact 36 (f := .free "tuple") rfl), He.free_ok X G (cd.fact 37 (f := .free "list") rfl), He.free_ok X G (cd.fact 38 (f := .free "int") rfl), He.free_ok X G (cd.fact 39 (f := .free "abs") rfl), He.free_ok X G (cd.fact 40 (f := .free "min") rfl), He.free_ok X G (cd.fact 41 (f := .free "sorted") rfl), He.free_ok X G (cd.fact 42 (f := .free "set") rfl), He.free_ok X G (cd.fact 43 (f := .free "all") rfl), He.free_ok X G (cd.fact 44 (f := .free "any") rfl), He.free_ok X G (cd.fact 45 (f := .free "enumerate") rfl), He.free_ok X G (cd.fact 46 (f := .free "zip") rfl), He.free_ok X G (cd.fact 47 (f := .free "isinstance") rfl), He.free_ok X G (cd.fact 48 (f := .free "bool") rfl), He.free_ok X G (cd.fact 49 (f := .free "str") rfl), He.free_ok X G (cd.fact 50 (f := .free "dict") rfl), He.free_ok X G (cd.fact 51 (f := .free "max") rfl), He.free_ok X G (cd.fact 52 (f := .free "reversed") rfl), He.free_ok X G (cd.fact 53 (f := .free "sum") rfl)⟩

    have e := hfa.symm.trans g_law
    cases e
    refine ⟨fd_law, fun s v => bA_law s [v] rfl, fun base _ _ hT => ?_⟩
    have T_is_walk : GxR.TabB base mg (He.cT K ("is_walk", none)).1 (He.cT K ("is_walk", none)).2 := (fun t => ⟨t.code, t.bm, t.gP⟩) (hT _ (List.mem_map.mpr ⟨("is_walk", none), by simp [tfs], rfl⟩))
    have h_is_walk : fd_is_walk.code = .ref (He.cT K ("is_walk", none)).1 := code_of U_is_walk
    have k_mix : Cl P w K mg base 1 "_law_mix" sp_mix := Cl.mk' U__law_mix g__law_mix b__law_mix (ok_mix U__law_mix)
    have k_left : Cl P w K mg base 1 "_law_left" (sp_left K) := Cl.mk' U__law_left g__law_left b__law_left (ok_left B U__law_left)
    have k_pick : Cl P w K mg base 2 "_law_pick" sp_pick := Cl.mk' U__law_pick g__law_pick b__law_pick (ok_pick U__law_pick k_mix)
    have k_pairs : Cl P w K mg base 1 "_law_pairs" sp_pairs := Cl.mk' U__law_pairs g__law_pairs b__law_pairs (ok_pairs B U__law_pairs)
    have k_row : Cl P w K mg base 3 "_law_row" sp_row := Cl.mk' U__law_row g__law_row b__law_row (ok_row B U__law_row k_pick)
    have k_any : Cl P w K mg base 3 "_law_any_web" sp_gen := Cl.mk' U__law_any_web g__law_any_web b__law_any_web (ok_any_web B U__law_any_web k_pick k_pairs)
    have k_rw : Cl P w K mg base 4 "_law_row_web" sp_gen := Cl.mk' U__law_row_web g__law_row_web b__law_row_web (ok_row_web B U__law_row_web k_pick k_row)
    have k_ring : Cl P w K mg base 4 "_law_ring_web" sp_gen := Cl.mk' U__law_ring_web g__law_ring_web b__law_ring_web (ok_ring_web B U__law_ring_web k_pick k_row k_pairs)
    have k_put : Cl P w K mg base 4 "_law_put_together" sp_gen := Cl.mk' U__law_put_together g__law_put_together b__law_put_together (ok_put_together B U__law_put_together k_pick k_row)
    have k_web : Cl P w K mg base 5 "_law_web" sp_web := Cl.mk' U__law_web g__law_web b__law_web (ok_web B U__law_web k_pick k_any k_rw k_put k_ring)
    have k_near : Cl P w K mg base 1 "_law_near" sp_near := Cl.mk' U__law_near g__law_near b__law_near (ok_near B U__law_near)
    have k_lforced : Cl P w K mg base 1 "_law_forced" sp_forced := Cl.mk' U__law_forced g__law_forced b__law_forced (ok_forced B U__law_forced)
    have k_larrow : Cl P w K mg base 3 "_law_arrow" sp_larrow := Cl.mk' U__law_arrow g__law_arrow b__law_arrow (ok_larrow B U__law_arrow k_pick)
    have k_tie_of : Cl P w K mg base 1 "tie_of" sp_tie_of := Cl.mk' U_tie_of g_tie_of b_tie_of (ok_tie_of B U_tie_of)
    have k_far : Cl P w K mg base 2 "_law_far" sp_far := Cl.mk' U__law_far g__law_far b__law_far (ok_far B U__law_far k_lforced)
    have k_waydue : Cl P w K mg base 3 "_law_way_due" sp_waydue := Cl.mk' U__law_way_due g__law_way_due b__law_way_due (ok_waydue B U__law_way_due k_far k_lforced)
    have k_num : Cl P w K mg base 1 "is_number" sp_num := Cl.mk' U_is_number g_is_number b_is_number (ok_number B U_is_number)
    have k_pair : Cl P w K mg base 2 "is_pair" sp_pair := Cl.mk' U_is_pair g_is_pair b_is_pair (ok_pair B U_is_pair k_num)
    have k_tied : Cl P w K mg base 2 "tied" sp_tied := Cl.mk' U_tied g_tied b_tied (ok_tied B U_tied k_tie_of)
    have k_isar : Cl P w K mg base 3 "is_arrow" sp_isar := Cl.mk' U_is_arrow g_is_arrow b_is_arrow (ok_isar B U_is_arrow k_pair k_tied)
    have k_hgap : Cl P w K mg base 3 "has_gap" sp_hgap := Cl.mk' U_has_gap g_has_gap b_has_gap (ok_hgap B U_has_gap k_tied)
    have k_force : Cl P w K mg base 4 "force" sp_force := Cl.mk' U_force g_force b_force (ok_force B U_force k_hgap)
    have k_walk : Cl P w K mg base 6 "is_walk" (sp_walk (He.cT K ("is_walk", none)).2) := Cl.mk' U_is_walk g_is_walk b_is_walk (ok_walk B U_is_walk h_is_walk T_is_walk k_isar k_force)
    have k_shr : Cl P w K mg base 7 "shows_round" (sp_shr (He.cT K ("is_walk", none)).2) := Cl.mk' U_shows_round g_shows_round b_shows_round (ok_shr B U_shows_round k_walk)
    have k_shway : Cl P w K mg base 7 "shows_way" (sp_shway (He.cT K ("is_walk", none)).2) := Cl.mk' U_shows_way g_shows_way b_shows_way (ok_shway B U_shows_way k_walk)
    have k_deep : Cl P w K mg base 3 "_law_deep" sp_deep := Cl.mk' U__law_deep g__law_deep b__law_deep (ok_deep B U__law_deep k_pick)
    have k_num0 : Cl P w K mg base 1 "is_number" sp_num := Cl.mk' U_is_number g_is_number b_is_number (ok_number B U_is_number)
    have k_pair0 : Cl P w K mg base 2 "is_pair" sp_pair := Cl.mk' U_is_pair g_is_pair b_is_pair (ok_pair B U_is_pair k_num0)
    have k_num : Cl P w K mg base 1 "is_number" sp_numA := Cl.mk' U_is_number g_is_number b_is_number (ok_numA B U_is_number)
    have k_pair : Cl P w K mg base 2 "is_pair" sp_pairA := Cl.mk' U_is_pair g_is_pair b_is_pair (ok_pairA B U_is_pair k_num)
    have k_isar : Cl P w K mg base 3 "is_arrow" sp_isar := Cl.mk' U_is_arrow g_is_arrow b_is_arrow (ok_isar B U_is_arrow k_pair0 k_tied)
    have k_isarA : Cl P w K mg base 3 "is_arrow" sp_isarA := Cl.mk' U_is_arrow g_is_arrow b_is_arrow (ok_isarA B U_is_arrow k_pair k_tied)
    have k_walk : Cl P w K mg base 6 "is_walk" (sp_walk (He.cT K ("is_walk", none)).2) := Cl.mk' U_is_walk g_is_walk b_is_walk (ok_walk B U_is_walk h_is_walk T_is_walk k_isar k_force)
    have k_walkN : Cl P w K mg base 6 "is_walk" (sp_walkN (He.cT K ("is_walk", none)).2) := Cl.mk' U_is_walk g_is_walk b_is_walk (ok_walkN B U_is_walk h_is_walk T_is_walk k_isarA k_force)
    have k_shr : Cl P w K mg base 7 "shows_round" (sp_shr (He.cT K ("is_walk", none)).2) := Cl.mk' U_shows_round g_shows_round b_shows_round (ok_shr B U_shows_round k_walk)
    have k_shrA : Cl P w K mg base 7 "shows_round" (sp_shrA (He.cT K ("is_walk", none)).2) := Cl.mk' U_shows_round g_shows_round b_shows_round (ok_shrA B U_shows_round k_walk k_walkN)
    have k_shwayA : Cl P w K mg base 7 "shows_way" (sp_shwayA (He.cT K ("is_walk", none)).2) := Cl.mk' U_shows_way g_shows_way b_shows_way (ok_shwayA B U_shows_way k_walk k_walkN)
    have k_any16 : Cl P w K mg base 7 "_law_any" (sp_any 5) := Cl.mk' U__law_any g__law_any b__law_any (ok_any B U__law_any k_pick g__law_any b__law_any 5)
    have k_any3 : Cl P w K mg base 7 "_law_any" (sp_any 3) := Cl.mk' U__law_any g__law_any b__law_any (ok_any3 B U__law_any k_pick g__law_any b__law_any)
    have k_nums : Cl P w K mg base 1 "_law_numbers" sp_numsA := Cl.mk' U__law_numbers g__law_numbers b__law_numbers (ok_numsA B U__law_numbers)
    have k_isway : Cl P w K mg base 2 "_law_is_way" sp_isway := Cl.mk' U__law_is_way g__law_is_way b__law_is_way (ok_isway B U__law_is_way k_nums k_lforced)
    have k_walk16 : Cl P w K mg base 3 "_law_walk" sp_walk16 := Cl.mk' U__law_walk g__law_walk b__law_walk (ok_walk16 B U__law_walk k_pick k_lforced)
    have k_bent16 : Cl P w K mg base 4 "_law_bent" sp_bent16 := Cl.mk' U__law_bent g__law_bent b__law_bent (ok_bent16 B U__law_bent k_pick k_larrow)
    have k_asdue : ClG P w K mg base 8 "_law_as_due" (sp_asdue16 (He.cT K ("is_walk", none)).2) := ClG.mk' U__law_as_due g__law_as_due b__law_as_due (ok_asdue16 B U__law_as_due k_isway k_shwayA k_shrA)
    have k_right16 : ClG P w K mg base 9 "_law_right" (sp_right16 (He.cT K ("is_walk", none)).2) := ClG.mk' U__law_right g__law_right b__law_right (ok_right16 B U__law_right k_shwayA k_any16 k_any3 k_deep k_bent16 k_larrow k_asdue)
    exact ok_law B U_law k_left k_web k_near k_larrow k_walk16 k_waydue k_shr k_right16

end My
open PySem PySem.W PySem.Calls PyProof.Rows
set_option maxHeartbeats 0 in
theorem PySem.Challenge.cw_pointedties_k16_ways_shown_holds : PySem.Challenge.rw_pointedties_k16_ways_shown.Holds := by
  w_on; o_law
  refine HandSHeadRun.head_any (r := My.Rw) (q := view My.Rw.prog [37]) (H := My.hk) (ob := My.ob) (M := 4000) (loose := My.others) (d := HandSHeadRun.topDef My.Rw.prog 37) (kwd := []) My.ob_eq
    (by kernel_rfl) (fun s => by kernel_rfl) My.run (by kernel_rfl) (by kernel_rfl) (by kernel_rfl) (by rfl) (by first | assumption | decide +kernel) (by decide +kernel) ⟨rfl, rfl, rfl, rfl, rfl, by decide +kernel⟩ ?hw ?hc
  case hw => w_witness2
  case hc =>
    refine My.walk_top (l := PySem.Challenge.rw_pointedties_k16_ways_shown) (n := 63) (y := "_law_script") rfl (by decide) (by kernel_rfl) ?F
    intro w mg fa h Y G hmg0
    obtain ⟨K, KX, c⟩ := Y
    have hmg : mg ("law" : PySem.Str) = some (.ref fa) := by
      have e : (HandSHeadRun.topDef My.Rw.prog 37).name = ("law" : PySem.Str) := by kernel_rfl
      rw [← e]; exact hmg0
    obtain ⟨fd, hb, hF⟩ := My.law_ok (P := (PySem.Challenge.rw_pointedties_k16_ways_shown).prog) (w := w) KX G hmg c
    have inT : ∀ p ∈ My.tfs.map (He.cT K), ∃ q ∈ My.tfs, p = He.cT K q := fun p hp => by
      obtain ⟨q, hq, e⟩ := List.mem_map.mp hp
      exact ⟨q, hq, e.symm⟩
    refine ⟨K, KX, fd, My.tfs.map (He.cT K), _, fun p hp => ?_, fun p hp => ?_, fun p hp => ?_, hb, fun H a ns hl _ hT hS => ?_, hF⟩
    · obtain ⟨q, hq, rfl⟩ := inT p hp; exact c.empty q hq
    · obtain ⟨q, hq, rfl⟩ := inT p hp; exact c.out q hq
    · obtain ⟨q, hq, rfl⟩ := inT p hp; exact PySem.W.codeHd_of_K KX (c.hd q hq)
    · exact ⟨a, ns, rfl, hS, hl, ⟨_, hT _ (List.mem_map.mpr ⟨_, by simp [My.tfs], rfl⟩), True.intro⟩, fun _ => rfl⟩
