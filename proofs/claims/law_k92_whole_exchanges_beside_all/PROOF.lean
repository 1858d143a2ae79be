import PyProof.Rows.All
import Wide.All
import OpenK.AllK
import Wide.FinOn
import HandS.ForMost
import HandS.More
import HandS.SortRule
import HandS.SortInts
import HandS.TupSets
import HandS.Deep
import HandS.IsInst
import HandS.DictComp
import HandS.Style
import HandS.Flow
import HandS.TupAny
import HandS.Walk
import HandS.AnyAll
import HandS.GenOver
import PyProof.GenQ
import PyProof.GenComp
import PyProof.ConsumeS
import HandS.Zip
import HandS.Defaults
import PySem.Challenge.RW_pointedties_k92_whole_exchanges_beside_a
import KE.KDictCopyH
import KE.KDictPairs
import HandS.HeadWalk
import PyProof.ReprRoads
import KE.DataMinMax
import HandS.Iter
import HandS.RevTup
import KE.KDictZip
import HandS.SetKeys
import HandS.Conv
import KE.KStateDown
import HandS.Head0
import HandS.Head1
import HandS.Head2
import HandS.HeadEnd
import HandS.HeadHook1
import HandS.HeadHook2
import HandS.HeadHook3
import HandS.HeadHook4
set_option Elab.async false
set_option linter.all false
set_option maxRecDepth 100000
namespace My
open PySem PySem.Spec PyProof.Rows L2

/-! ### a def that may be called by its name -/
structure Cl (P : Program) (w : World) (K : PySem.W.Frag) (mg : Str → Option Value) (base : Heap)
    (k : Nat) (x : Str) (sp : Sp) : Prop where
  ex : ∃ (f : Addr) (fd : FuncData) (ps : List Str), FnOk P w K mg base CX0 k f fd ps sp ∧
    mg x = some (.ref f) ∧ PySem.W.keepIn K (.ref f) = true ∧ Binds K fd ps []
theorem Cl.mk' {P : Program} {w : World} {K : PySem.W.Frag} {mg : Str → Option Value} {base : Heap} {k : Nat} {x : Str} {sp : Sp}
    {st : Stmt} {f : Addr} {fd : FuncData} {ps : List Str} (F : Fun K x x st f fd) (hm : mg x = some (.ref f))
    (hb : Binds K fd ps []) (ok : FnOk P w K mg base CX0 k f fd ps sp) : Cl P w K mg base k x sp := ⟨f, fd, ps, ok, hm, F.kp, hb⟩
theorem pe_c {X : Cx} {k j : Nat} {x : Str} {sp : Sp} {p pos : Pos} {e : Expr} {es : List Expr} {t : TA}
    (c : Cl X.prog X.w X.K X.mg X.base k x sp) (hr : Room j X.A) (hk : k ≤ j) (hg : Gl X x) (ha : PA X (e :: es) t)
    (h1 : (x == ("__debug__" : Str)) = false := by decide)
    (h2 : starEach (e :: es) X.env = (false, eval e X.env) :: starEach es X.env := by rfl)
    (h3 : (backTo pos (starEach es X.env)).any (·.1) = false := by rfl) :
    PE X (.Call (.Name x p) (e :: es) [] pos) (tCall sp [] E0 t) := by
  obtain ⟨f, fd, ps, F, hm, kp, b⟩ := c.ex
  exact pe_call F (hr.mono hk) hg hm kp b .nil pass0 ha h1 h2 h3

/-! ### heaps: all stays but the list of draws at L -/
def Fr (L : Addr) (H H' : Hp) : Prop := ∀ b o, b ≠ L → H b = some o → H' b = some o
theorem Fr.refl (L : Addr) (H : Hp) : Fr L H H := fun _ _ _ h => h
theorem Fr.trans {L : Addr} {H H1 H2 : Hp} (a : Fr L H H1) (b : Fr L H1 H2) : Fr L H H2 :=
  fun c o n h => b c o n (a c o n h)
theorem Fr.of {L : Addr} {H H' : Hp} (a : Same H H') : Fr L H H' := fun b o _ h => a b o h
theorem same_new {H : Hp} {p : Addr} {o : HO} (h : H p = none) : Same H (upd H p o) := fun b x e => by
  rw [upd_ne (ne_of_none e h)]; exact e
theorem Fr.new {L : Addr} {H : Hp} {p : Addr} {o : HO} (h : H p = none) : Fr L H (upd H p o) := Fr.of (same_new h)
/-- what is new to the first heap may change -/
theorem Fr.put {L : Addr} {H H' : Hp} {p : Addr} {o : HO} (a : Fr L H H') (h : H p = none) : Fr L H (upd H' p o) :=
  fun b x n e => by rw [upd_ne (ne_of_none e h)]; exact a b x n e
theorem Same.put {H H' : Hp} {p : Addr} {o : HO} (a : Same H H') (h : H p = none) : Same H (upd H' p o) :=
  fun b x e => by rw [upd_ne (ne_of_none e h)]; exact a b x e
theorem Fr.putL {L : Addr} {H H' : Hp} {o : HO} (a : Fr L H H') : Fr L H (upd H' L o) :=
  fun b x n e => by rw [upd_ne n]; exact a b x n e

/-! ### the list of draws -/
def Lf (H : Hp) (L : Addr) (c : Int) : Prop :=
  ∃ x y z : Int, H L = some (.lst [.int x, .int y, .int z]) ∧ 0 ≤ x ∧ 0 ≤ z ∧ z ≤ c
theorem Lf.mono {H : Hp} {L : Addr} {c d : Int} (h : Lf H L c) (e : c ≤ d) : Lf H L d := by
  obtain ⟨x, y, z, h1, h2, h3, h4⟩ := h
  exact ⟨x, y, z, h1, h2, h3, Int.le_trans h4 e⟩
theorem Lf.same {H H' : Hp} {L : Addr} {c : Int} (h : Lf H L c) (e : Same H H') : Lf H' L c := by
  obtain ⟨x, y, z, h1, h2⟩ := h
  exact ⟨x, y, z, e _ _ h1, h2⟩
theorem Lf.new {H : Hp} {L p : Addr} {c : Int} {o : HO} (h : Lf H L c) (e : H p = none) : Lf (upd H p o) L c := h.same (same_new e)
theorem Lf.ne {H : Hp} {L p : Addr} {c : Int} (h : Lf H L c) (e : H p = none) : p ≠ L := by
  obtain ⟨x, y, z, h1, h2⟩ := h
  rintro rfl; rw [h1] at e; cases e
theorem Lf.put {H : Hp} {L p : Addr} {c : Int} {o : HO} (h : Lf H L c) (e : p ≠ L) : Lf (upd H p o) L c := by
  obtain ⟨x, y, z, h1, h2⟩ := h
  exact ⟨x, y, z, by rw [upd_ne (Ne.symm e)]; exact h1, h2⟩
theorem Lf.free {H H' : Hp} {L p : Addr} {c' : Int} (a : Fr L H H') (h' : Lf H' L c') (e : H' p = none) : H p = none := by
  have n := h'.ne e
  cases q : H p with
  | none => rfl
  | some o => rw [a p o n q] at e; cases e
theorem Lf.tup {H H' : Hp} {L p : Addr} {c : Int} {xs : List V} (a : Fr L H H') (h : Lf H L c) (e : H p = some (.tup xs)) : H' p = some (.tup xs) := by
  refine a p _ ?_ e
  obtain ⟨x, y, z, h1, h2⟩ := h
  rintro rfl; rw [h1] at e; cases e

/-! ### ties, rows of ties, webs -/
def Tie (H : Hp) (v : V) (t : Int × Int) : Prop := ∃ p, v = .ref p ∧ H p = some (.tup [.int t.1, .int t.2])
def Ties (H : Hp) : List V → List (Int × Int) → Prop
  | [], [] => True
  | v :: vs, t :: ts => Tie H v t ∧ Ties H vs ts
  | _, _ => False
/-- tuples stay -/
def Tst (H H' : Hp) : Prop := ∀ b xs, H b = some (.tup xs) → H' b = some (.tup xs)
theorem Tst.refl (H : Hp) : Tst H H := fun _ _ h => h
theorem Tst.trans {H H1 H2 : Hp} (a : Tst H H1) (b : Tst H1 H2) : Tst H H2 := fun c o h => b c o (a c o h)
theorem Same.tst {H H' : Hp} (a : Same H H') : Tst H H' := fun b xs h => a b _ h
theorem Lf.tst {H H' : Hp} {L : Addr} {c : Int} (h : Lf H L c) (a : Fr L H H') : Tst H H' := fun b xs e => Lf.tup a h e
theorem tst_new {H : Hp} {p : Addr} {o : HO} (h : H p = none) : Tst H (upd H p o) := Same.tst (same_new h)
theorem tst_put {H : Hp} {p : Addr} {o : HO} {xs : List V} (h : H p = some (.lst xs)) : Tst H (upd H p o) := fun b ys e => by
  rw [upd_ne]
  · exact e
  · rintro rfl; rw [h] at e; cases e
theorem Tie.mono {H H' : Hp} {v : V} {t : Int × Int} (a : Tst H H') (h : Tie H v t) : Tie H' v t := by
  obtain ⟨p, e, h⟩ := h
  exact ⟨p, e, a _ _ h⟩
theorem Ties.mono {H H' : Hp} (a : Tst H H') : ∀ {vs : List V} {ts : List (Int × Int)}, Ties H vs ts → Ties H' vs ts
  | [], [], _ => trivial
  | _ :: _, _ :: _, h => ⟨h.1.mono a, Ties.mono a h.2⟩
  | [], _ :: _, h => h.elim
  | _ :: _, [], h => h.elim
theorem Ties.app {H : Hp} : ∀ {vs : List V} {ts : List (Int × Int)} {us : List V} {rs : List (Int × Int)}, Ties H vs ts → Ties H us rs → Ties H (vs ++ us) (ts ++ rs)
  | [], [], _, _, _, k => k
  | _ :: _, _ :: _, _, _, h, k => ⟨h.1, Ties.app h.2 k⟩
  | [], _ :: _, _, _, h, _ => h.elim
  | _ :: _, [], _, _, h, _ => h.elim
theorem Ties.len {H : Hp} : ∀ {vs : List V} {ts : List (Int × Int)}, Ties H vs ts → vs.length = ts.length
  | [], [], _ => rfl
  | _ :: _, _ :: _, h => congrArg (· + 1) (Ties.len h.2)
  | [], _ :: _, h => h.elim
  | _ :: _, [], h => h.elim
theorem Ties.at {H : Hp} : ∀ {vs : List V} {ts : List (Int × Int)} {i : Nat} {v : V}, Ties H vs ts → vs[i]? = some v → ∃ t, ts[i]? = some t ∧ Tie H v t
  | [], [], _, _, _, e => by cases e
  | _ :: _, t :: _, 0, _, h, e => by cases e; exact ⟨t, rfl, h.1⟩
  | _ :: _, _ :: _, i + 1, _, h, e => Ties.at (i := i) h.2 e
  | [], _ :: _, _, _, h, _ => h.elim
  | _ :: _, [], _, _, h, _ => h.elim
theorem Ties.one {H : Hp} {v : V} {t : Int × Int} (h : Tie H v t) : Ties H [v] [t] := ⟨h, trivial⟩
theorem Tie.new {H : Hp} {p : Addr} {a b : Int} : Tie (upd H p (.tup [.int a, .int b])) (.ref p) (a, b) := ⟨p, rfl, upd_same⟩

/-! ### what a web is -/
def ltT (s t : Int × Int) : Prop := s.1 < t.1 ∨ (s.1 = t.1 ∧ s.2 < t.2)
def WOk (n : Nat) (ts : List (Int × Int)) : Prop := ts.Pairwise ltT ∧ ∀ t ∈ ts, 0 ≤ t.1 ∧ t.1 < t.2 ∧ t.2 < (n : Int)
def Web (H : Hp) (v : V) (n : Nat) (ts : List (Int × Int)) : Prop :=
  ∃ p q vs, v = .ref p ∧ H p = some (.tup [.int (n : Int), .ref q]) ∧ H q = some (.tup vs) ∧ Ties H vs ts
theorem Web.mono {H H' : Hp} {v : V} {n : Nat} {ts : List (Int × Int)} (a : Tst H H') (h : Web H v n ts) : Web H' v n ts := by
  obtain ⟨p, q, vs, e, h1, h2, h3⟩ := h
  exact ⟨p, q, vs, e, a _ _ h1, a _ _ h2, h3.mono a⟩

theorem sz {n : Nat} (h : n ≤ 100000) : n ≤ sizeLine := Nat.le_trans h (by decide)
theorem sz' {n : Nat} (h : n < 100000) : n < sizeLine := Nat.lt_of_lt_of_le h (by decide)

theorem bi (b : Bool) : -(2 ^ 64) < (if b = true then (1 : Int) else 0) ∧ (if b = true then (1 : Int) else 0) < 2 ^ 64 ∧ 0 ≤ (if b = true then (1 : Int) else 0) := by
  cases b <;> decide

theorem yes {σ : L2.St} {H : Hp} {R N : Hp → Prop} (h : R H) : tYes σ H (fun b H3 => if b = true then R H3 else N H3) := by
  show (if true = true then R H else N H)
  exact iteT h

/-! ### all pairs, rising -/
def prow (a : Nat) (j : Nat) : List (Int × Int) := (List.range j).map fun (i : Nat) => ((a : Int), (a : Int) + 1 + (i : Int))
def pup (n i : Nat) : List (Int × Int) := (List.range i).flatMap fun a => prow a (n - (a + 1))
theorem prow_succ (a j : Nat) : prow a (j + 1) = prow a j ++ [((a : Int), (a : Int) + 1 + (j : Int))] := by
  unfold prow; rw [List.range_succ, List.map_append]; rfl
theorem pup_succ (n i : Nat) : pup n (i + 1) = pup n i ++ prow i (n - (i + 1)) := by
  unfold pup; rw [List.range_succ, List.flatMap_append, List.flatMap_singleton]
theorem prow_len (a j : Nat) : (prow a j).length = j := by unfold prow; rw [List.length_map, List.length_range]
theorem mem_prow {a j : Nat} {t : Int × Int} : t ∈ prow a j ↔ t.1 = a ∧ (a : Int) < t.2 ∧ t.2 < (a : Int) + 1 + j := by
  unfold prow
  rw [List.mem_map]
  constructor
  · rintro ⟨i, hi, rfl⟩
    have := List.mem_range.mp hi
    refine ⟨rfl, ?_, ?_⟩ <;> dsimp only <;> omega
  · rintro ⟨h1, h2, h3⟩
    refine ⟨(t.2 - a - 1).toNat, List.mem_range.mpr (by omega), ?_⟩
    cases t with
    | mk x y =>
      dsimp only at h1 h2 h3
      rw [h1]
      congr 1
      omega
theorem mem_pup {n i : Nat} {t : Int × Int} (hi : i ≤ n) : t ∈ pup n i ↔ 0 ≤ t.1 ∧ t.1 < i ∧ t.1 < t.2 ∧ t.2 < n := by
  unfold pup
  rw [List.mem_flatMap]
  constructor
  · rintro ⟨a, ha, h⟩
    have := List.mem_range.mp ha
    have := mem_prow.mp h
    omega
  · rintro ⟨h1, h2, h3, h4⟩
    refine ⟨t.1.toNat, List.mem_range.mpr (by omega), mem_prow.mpr ?_⟩
    omega
theorem prow_pw (a : Nat) : ∀ j, (prow a j).Pairwise ltT
  | 0 => by exact List.Pairwise.nil
  | j + 1 => by
    rw [prow_succ, List.pairwise_append]
    refine ⟨prow_pw a j, List.pairwise_singleton _ _, fun s hs t ht => ?_⟩
    have h := mem_prow.mp hs
    have e := List.mem_singleton.mp ht
    subst e
    refine .inr ⟨h.1, ?_⟩
    show s.2 < (a : Int) + 1 + j
    omega
theorem pup_pw (n : Nat) : ∀ i, i ≤ n → (pup n i).Pairwise ltT
  | 0, _ => by exact List.Pairwise.nil
  | i + 1, h => by
    rw [pup_succ, List.pairwise_append]
    refine ⟨pup_pw n i (by omega), prow_pw i _, fun s hs t ht => ?_⟩
    have h1 := (mem_pup (by omega)).mp hs
    have h2 := mem_prow.mp ht
    refine .inl ?_
    omega
theorem pup_len (n : Nat) : ∀ i, (pup n i).length ≤ i * n
  | 0 => Nat.zero_le _
  | i + 1 => by
    rw [pup_succ, List.length_append, prow_len, Nat.succ_mul]
    have := pup_len n i
    omega
theorem pup_len' {n i : Nat} (hn : n ≤ 100) (hi : i ≤ n) : (pup n i).length ≤ 10000 :=
  Nat.le_trans (pup_len n i) (Nat.le_trans (Nat.mul_le_mul (Nat.le_trans hi hn) hn) (by decide))
theorem wok_sub {n : Nat} {ts : List (Int × Int)} (h : ts.Sublist (pup n n)) : WOk n ts :=
  ⟨(pup_pw n n (Nat.le_refl n)).sublist h, fun t ht => by
    have := (mem_pup (Nat.le_refl n)).mp (h.subset ht)
    omega⟩

/-! ### the numbers below n -/
def up (n : Nat) : List Int := (List.range n).map fun (i : Nat) => (i : Int)
theorem up_succ (n : Nat) : up (n + 1) = up n ++ [(n : Int)] := by unfold up; rw [List.range_succ, List.map_append]; rfl
theorem up_len (n : Nat) : (up n).length = n := by unfold up; rw [List.length_map, List.length_range]
theorem mem_up {n : Nat} {x : Int} : x ∈ up n ↔ 0 ≤ x ∧ x < n := by
  unfold up
  rw [List.mem_map]
  constructor
  · rintro ⟨i, hi, rfl⟩
    have := List.mem_range.mp hi
    omega
  · intro h
    exact ⟨x.toNat, List.mem_range.mpr (by omega), by omega⟩
theorem up_nodup (n : Nat) : (up n).Nodup := by
  unfold up
  rw [List.nodup_iff_pairwise_ne, List.pairwise_map]
  exact (List.nodup_iff_pairwise_ne.mp List.nodup_range).imp fun h e => h (by omega)
theorem ins_perm {α : Type} (l : List α) (x : α) (k : Nat) : (l.take k ++ [x] ++ l.drop k).Perm (l ++ [x]) := by
  have h : (l.take k ++ [x] ++ l.drop k).Perm (l.take k ++ (l.drop k ++ [x])) := by
    rw [List.append_assoc]
    exact List.Perm.append_left _ List.perm_append_comm
  refine h.trans ?_
  rw [← List.append_assoc, List.take_append_drop]

/-! ### where a number stands in a list -/
theorem all_flat (ns : List Int) : (ns.map V.int).all flatV = true := by
  rw [List.all_map, List.all_eq_true]; intro x _; rfl
theorem idx_at {ns : List Int} {x : Int} (h : x ∈ ns) : (ns.map V.int)[ns.idxOf x]? = some (.int x) := by
  have hl := List.idxOf_lt_length_of_mem h
  rw [List.getElem?_map, List.getElem?_eq_getElem hl, List.getElem_idxOf hl]; rfl
theorem idx_first {ns : List Int} {x : Int} : ∀ (m : Nat) (z : V), m < ns.idxOf x → (ns.map V.int)[m]? = some z → eqV z (.int x) = false := by
  intro m z hm hz
  rw [List.getElem?_map] at hz
  have hml : m < ns.length := Nat.lt_of_lt_of_le hm List.idxOf_le_length
  rw [List.getElem?_eq_getElem hml] at hz
  cases hz
  have : ns[m] ≠ x := fun e => by
    have := List.not_of_lt_findIdx (xs := ns) (p := fun y => y == x) hm
    rw [e] at this
    simp at this
  exact beq_eq_false_iff_ne.mpr this

/-! ### readings by name -/
abbrev rLenK (K : PySem.W.Frag) : List V → Hp → VK → Prop :=
  fun xs H Q => ∃ p ys, xs = [.ref p] ∧ (SqL K H p ys ∨ SqT K H p ys) ∧ Q (.int ys.length) H
abbrev rTupK (K : PySem.W.Frag) : List V → Hp → VK → Prop :=
  fun xs H Q => ∃ p ys, xs = [.ref p] ∧ ((SqL K H p ys ∧ ∀ l, H l = none → Q (.ref l) (upd H l (.tup ys))) ∨ (SqT K H p ys ∧ Q (.ref p) H))
abbrev rLstK (K : PySem.W.Frag) : List V → Hp → VK → Prop :=
  fun xs H Q => ∃ p ys, xs = [.ref p] ∧ (SqL K H p ys ∨ SqT K H p ys) ∧ ∀ l, H l = none → Q (.ref l) (upd H l (.lst ys))

/-! ### the built-in names -/
structure Bts (mg : Str → Option Value) : Prop where
  len : mg "len" = none
  range : mg "range" = none
  tuple : mg "tuple" = none
  list : mg "list" = none
  int : mg "int" = none
  abs : mg "abs" = none
  min : mg "min" = none
  sorted : mg "sorted" = none
  set : mg "set" = none
  all : mg "all" = none
  any : mg "any" = none
  enumerate : mg "enumerate" = none
  zip : mg "zip" = none
  isinstance : mg "isinstance" = none
  bool : mg "bool" = none
  str : mg "str" = none
  dict : mg "dict" = none
  max : mg "max" = none
  reversed : mg "reversed" = none
  sum : mg "sum" = none
end My

set_option Elab.async false
set_option linter.all false
set_option maxRecDepth 100000
namespace My
open PySem PySem.Spec PyProof.Rows L2

/-! ### the pair that a value tells -/
theorem Tie.inj {H : Hp} {v : V} {s t : Int × Int} (h : Tie H v s) (k : Tie H v t) : s = t := by
  obtain ⟨p, rfl, h⟩ := h
  obtain ⟨q, e, k⟩ := k
  cases e
  rw [h] at k
  cases s; cases t
  cases k
  rfl
open Classical in
noncomputable def key (H : Hp) (v : V) : Int × Int := if h : ∃ t, Tie H v t then h.choose else (0, 0)
theorem key_of {H : Hp} {v : V} {t : Int × Int} (h : Tie H v t) : key H v = t := by
  unfold key
  rw [dif_pos ⟨t, h⟩]
  exact (Exists.choose_spec (⟨t, h⟩ : ∃ t, Tie H v t)).inj h
theorem Ties.key {H : Hp} : ∀ {vs : List V} {ts : List (Int × Int)}, Ties H vs ts → ts = vs.map (My.key H)
  | [], [], _ => rfl
  | _ :: _, _ :: _, h => by rw [List.map_cons, key_of h.1, ← Ties.key h.2]
  | [], _ :: _, h => h.elim
  | _ :: _, [], h => h.elim
theorem Ties.all {H : Hp} : ∀ {vs : List V} {ts : List (Int × Int)}, Ties H vs ts → ∀ v ∈ vs, Tie H v (My.key H v)
  | [], [], _, _, hv => by cases hv
  | _ :: _, _ :: _, h, v, hv => by
    rcases List.mem_cons.mp hv with rfl | hv
    · rw [key_of h.1]; exact h.1
    · exact Ties.all h.2 v hv
  | [], _ :: _, h, _, _ => h.elim
  | _ :: _, [], h, _, _ => h.elim
theorem ties_mk {H : Hp} : ∀ {vs : List V}, (∀ v ∈ vs, Tie H v (My.key H v)) → Ties H vs (vs.map (My.key H))
  | [], _ => trivial
  | v :: vs, h => ⟨h v List.mem_cons_self, ties_mk fun u hu => h u (List.mem_cons_of_mem _ hu)⟩

/-! ### a list of ties, sorted -/
theorem srt_ties {H : Hp} {xs ys : List V} {ts : List (Int × Int)} (hs : SrtO.Srtd (ltP (My.key H)) ys) (hb : ys.Perm xs) (hT : Ties H xs ts) :
    ∃ ts', Ties H ys ts' ∧ ts'.Perm ts ∧ ts'.Pairwise (fun s t => ¬ ltT t s) := by
  refine ⟨ys.map (My.key H), ties_mk fun v hv => hT.all v (hb.mem_iff.mp hv), ?_, ?_⟩
  · rw [hT.key]; exact hb.map _
  · rw [List.pairwise_map]
    refine hs.imp fun {a b} h l => ?_
    have : ltP (My.key H) b a = true := SrtO.lexB_iff.mpr l
    rw [this] at h
    cases h
theorem ltT_tri (s t : Int × Int) : ltT s t ∨ s = t ∨ ltT t s := by
  cases s with | mk a b =>
  cases t with | mk c d =>
  unfold ltT
  by_cases h1 : a < c
  · exact .inl (.inl h1)
  · by_cases h2 : c < a
    · exact .inr (.inr (.inl h2))
    · have e : a = c := by omega
      subst e
      by_cases h3 : b < d
      · exact .inl (.inr ⟨rfl, h3⟩)
      · by_cases h4 : d < b
        · exact .inr (.inr (.inr ⟨rfl, h4⟩))
        · have e : b = d := by omega
          subst e
          exact .inr (.inl rfl)
theorem ltT_irr {s : Int × Int} : ¬ ltT s s := by unfold ltT; omega
theorem ltT_tr {s t u : Int × Int} (h : ltT s t) (k : ltT t u) : ltT s u := by unfold ltT at *; omega
theorem pw_lt {ts : List (Int × Int)} (h : ts.Pairwise (fun s t => ¬ ltT t s)) (nd : ts.Nodup) : ts.Pairwise ltT := by
  refine (h.and (List.nodup_iff_pairwise_ne.mp nd)).imp ?_
  rintro s t ⟨h1, h2⟩
  rcases ltT_tri s t with h | h | h
  · exact h
  · exact absurd h h2
  · exact absurd h h1
/-- two rising lists with the same items are one -/
theorem pw_eq : ∀ {as bs : List (Int × Int)}, as.Pairwise ltT → bs.Pairwise ltT → (∀ t, t ∈ as ↔ t ∈ bs) → as = bs
  | [], [], _, _, _ => rfl
  | [], b :: bs, _, _, h => by have := (h b).mpr List.mem_cons_self; cases this
  | a :: as, [], _, _, h => by have := (h a).mp List.mem_cons_self; cases this
  | a :: as, b :: bs, ha, hb, h => by
    have ha' := List.pairwise_cons.mp ha
    have hb' := List.pairwise_cons.mp hb
    have e : a = b := by
      rcases List.mem_cons.mp ((h a).mp List.mem_cons_self) with e | m1
      · exact e
      · rcases List.mem_cons.mp ((h b).mpr List.mem_cons_self) with e | m2
        · exact e.symm
        · exact absurd (ltT_tr (ha'.1 b m2) (hb'.1 a m1)) ltT_irr
    subst e
    rw [pw_eq ha'.2 hb'.2 fun t => ⟨fun m => ?_, fun m => ?_⟩]
    · rcases List.mem_cons.mp ((h t).mp (List.mem_cons_of_mem _ m)) with e | m'
      · subst e; exact absurd (ha'.1 t m) ltT_irr
      · exact m'
    · rcases List.mem_cons.mp ((h t).mpr (List.mem_cons_of_mem _ m)) with e | m'
      · subst e; exact absurd (hb'.1 t m) ltT_irr
      · exact m'

/-! ### ties as data -/
def dT (t : Int × Int) : PyData := .tuple [.int t.1, .int t.2]
theorem Tie.dp {K : PySem.W.Frag} {H : Hp} {v : V} {t : Int × Int} (h : Tie H v t) : Dp K H v (dT t) := by
  obtain ⟨p, rfl, h⟩ := h
  exact .tup (Or.inl (Or.inl h)) (.cons (.int _) (.cons (.int _) .nil))
theorem Ties.dp {K : PySem.W.Frag} {H : Hp} : ∀ {vs : List V} {ts : List (Int × Int)}, Ties H vs ts → DpAll K H vs (ts.map dT)
  | [], [], _ => .nil
  | _ :: _, _ :: _, h => .cons h.1.dp (Ties.dp h.2)
  | [], _ :: _, h => h.elim
  | _ :: _, [], h => h.elim
theorem shaped_dT (t : Int × Int) : SeqAt.shaped (dT t) = true := rfl
theorem can_ties (ts : List (Int × Int)) : PyData.canLayAll0 (ts.map dT) = true := by
  induction ts with
  | nil => rfl
  | cons t ts ih => rw [List.map_cons, PyData.canLayAll0, ih]; rfl
theorem dep_ties (ts : List (Int × Int)) : PyData.depthAll (ts.map dT) ≤ 1 := by
  induction ts with
  | nil => exact Nat.zero_le _
  | cons t ts ih =>
    rw [List.map_cons, PyData.depthAll]
    exact Nat.max_le.mpr ⟨Nat.le_refl _, ih⟩
theorem shaped_ties (ts : List (Int × Int)) : SeqAt.shaped (.list (ts.map dT)) = true := by
  unfold SeqAt.shaped
  rw [Bool.and_eq_true, decide_eq_true_eq]
  refine ⟨can_ties ts, ?_⟩
  show PyData.depthAll (ts.map dT) + 1 ≤ 64
  have := dep_ties ts
  omega
theorem eqv_dT (s t : Int × Int) : PyData.eqv (dT s) (dT t) = decide (s = t) := by
  cases s with | mk a b =>
  cases t with | mk c d =>
  show ((a == c) && ((b == d) && true)) = _
  by_cases h : a = c <;> by_cases k : b = d <;> simp [h, k]
theorem two {A : Hp → Prop} {C : Prop} (R : Hp → Prop) (k : (∀ H, R H → A H) → C) (h : ∀ H, R H → A H) : C := k h
theorem at_mem {ns : List Int} {j : Int} (h1 : -(ns.length : Int) ≤ j) (h2 : j < ns.length) : ∃ x, atI (ns.map V.int) j = some (.int x) ∧ x ∈ ns := by
  unfold atI ixN
  rw [List.length_map]
  by_cases h0 : 0 ≤ j
  · have hl : j.toNat < ns.length := by omega
    rw [if_pos h0, if_pos h2]
    refine ⟨ns[j.toNat], ?_, List.getElem_mem hl⟩
    show (ns.map V.int)[j.toNat]? = _
    rw [List.getElem?_map, List.getElem?_eq_getElem hl]; rfl
  · have hl : (j + ns.length).toNat < ns.length := by omega
    rw [if_neg h0, if_pos h1]
    refine ⟨ns[(j + ns.length).toNat], ?_, List.getElem_mem hl⟩
    show (ns.map V.int)[(j + ns.length).toNat]? = _
    rw [List.getElem?_map, List.getElem?_eq_getElem hl]; rfl
theorem perm2 {ns : List Int} {x y : Int} (h : ns.Perm [x, y]) (s : ns.Pairwise (· ≤ ·)) : ns = [if x ≤ y then x else y, if x ≤ y then y else x] := by
  match ns, h.length_eq with
  | [a, b], _ =>
    have ab : a ≤ b := (List.pairwise_cons.mp s).1 b (List.mem_singleton.mpr rfl)
    have ha := h.mem_iff (a := a) |>.mp List.mem_cons_self
    have hb := h.mem_iff (a := b) |>.mp (List.mem_cons_of_mem _ List.mem_cons_self)
    have hx := h.mem_iff (a := x) |>.mpr List.mem_cons_self
    have hy := h.mem_iff (a := y) |>.mpr (List.mem_cons_of_mem _ List.mem_cons_self)
    simp only [List.mem_cons, List.not_mem_nil, or_false] at ha hb hx hy
    by_cases c : x ≤ y
    · rw [if_pos c, if_pos c]
      have : a = x ∧ b = y := by omega
      rw [this.1, this.2]
    · rw [if_neg c, if_neg c]
      have : a = y ∧ b = x := by omega
      rw [this.1, this.2]
/-! ### ties by their places, for sets -/
def prT (p : Addr × List Int) : Int × Int := (p.2.getD 0 0, p.2.getD 1 0)
theorem Ties.addr {H : Hp} : ∀ {vs : List V} {ts : List (Int × Int)}, Ties H vs ts → ∃ ks : List (Addr × List Int), vs = (ks.map fun p => V.ref p.1) ∧
    (∀ p ∈ ks, H p.1 = some (.tup (p.2.map V.int)) ∧ ∃ t ∈ ts, p.2 = [t.1, t.2]) ∧ ks.map prT = ts
  | [], [], _ => ⟨[], rfl, (fun _ h => by cases h), rfl⟩
  | v :: vs, t :: ts, h => by
    obtain ⟨ks, e1, e2, e3⟩ := Ties.addr h.2
    obtain ⟨p, rfl, hp⟩ := h.1
    refine ⟨(p, [t.1, t.2]) :: ks, by rw [e1]; rfl, fun q hq => ?_, by rw [List.map_cons, e3]; rfl⟩
    rcases List.mem_cons.mp hq with rfl | hq
    · exact ⟨hp, t, List.mem_cons_self, rfl⟩
    · obtain ⟨g1, t', g2, g3⟩ := e2 q hq
      exact ⟨g1, t', List.mem_cons_of_mem _ g2, g3⟩
  | [], _ :: _, h => h.elim
  | _ :: _, [], h => h.elim
theorem ties_addr {H : Hp} : ∀ {ks : List (Addr × List Int)}, (∀ p ∈ ks, H p.1 = some (.tup (p.2.map V.int)) ∧ ∃ t : Int × Int, p.2 = [t.1, t.2]) → Ties H (ks.map fun p => V.ref p.1) (ks.map prT)
  | [], _ => trivial
  | p :: ks, h => by
    refine ⟨?_, ties_addr fun q hq => h q (List.mem_cons_of_mem _ hq)⟩
    obtain ⟨g1, t, g2⟩ := h p List.mem_cons_self
    refine ⟨p.1, rfl, ?_⟩
    unfold prT
    rw [g1, g2]; rfl
theorem u65 {k : Nat} {A : Around} (r : Room k A) : A.units + 65 < cLine := by have := r.un; omega
end My

set_option Elab.async false
set_option linter.all false
set_option maxRecDepth 100000
namespace My
open PySem PySem.Spec PyProof.Rows L2

/-! ### lists side by side -/
def All2 {α : Type} (R : V → α → Prop) : List V → List α → Prop
  | [], [] => True
  | v :: vs, t :: ts => R v t ∧ All2 R vs ts
  | _, _ => False
section
variable {α : Type} {R S : V → α → Prop}
theorem All2.imp (a : ∀ v t, R v t → S v t) : ∀ {vs : List V} {ts : List α}, All2 R vs ts → All2 S vs ts
  | [], [], _ => trivial
  | _ :: _, _ :: _, h => ⟨a _ _ h.1, All2.imp a h.2⟩
  | [], _ :: _, h => h.elim
  | _ :: _, [], h => h.elim
theorem All2.app : ∀ {vs us : List V} {ts rs : List α}, All2 R vs ts → All2 R us rs → All2 R (vs ++ us) (ts ++ rs)
  | [], _, [], _, _, k => k
  | _ :: _, _, _ :: _, _, h, k => ⟨h.1, All2.app h.2 k⟩
  | [], _, _ :: _, _, h, _ => h.elim
  | _ :: _, _, [], _, h, _ => h.elim
theorem All2.len : ∀ {vs : List V} {ts : List α}, All2 R vs ts → vs.length = ts.length
  | [], [], _ => rfl
  | _ :: _, _ :: _, h => congrArg (· + 1) (All2.len h.2)
  | [], _ :: _, h => h.elim
  | _ :: _, [], h => h.elim
theorem All2.at : ∀ {vs : List V} {ts : List α} {i : Nat} {v : V}, All2 R vs ts → vs[i]? = some v → ∃ t, ts[i]? = some t ∧ R v t
  | [], [], _, _, _, e => by cases e
  | _ :: _, t :: _, 0, _, h, e => by cases e; exact ⟨t, rfl, h.1⟩
  | _ :: _, _ :: _, i + 1, _, h, e => All2.at (i := i) h.2 e
  | [], _ :: _, _, _, h, _ => h.elim
  | _ :: _, [], _, _, h, _ => h.elim
theorem All2.at' : ∀ {vs : List V} {ts : List α} {i : Nat} {t : α}, All2 R vs ts → ts[i]? = some t → ∃ v, vs[i]? = some v ∧ R v t
  | [], [], _, _, _, e => by cases e
  | v :: _, _ :: _, 0, _, h, e => by cases e; exact ⟨v, rfl, h.1⟩
  | _ :: _, _ :: _, i + 1, _, h, e => All2.at' (i := i) h.2 e
  | [], _ :: _, _, _, h, _ => h.elim
  | _ :: _, [], _, _, h, _ => h.elim
theorem All2.erase : ∀ {vs : List V} {ts : List α} (k : Nat), All2 R vs ts → All2 R (vs.eraseIdx k) (ts.eraseIdx k)
  | [], [], _, _ => trivial
  | _ :: _, _ :: _, 0, h => h.2
  | _ :: _, _ :: _, k + 1, h => ⟨h.1, All2.erase k h.2⟩
  | [], _ :: _, _, h => h.elim
  | _ :: _, [], _, h => h.elim
end

/-! ### pairs of places of unlike groups -/
def norm (a b : Int) : Int × Int := (if a ≤ b then a else b, if a ≤ b then b else a)
theorem norm_inj {a b c d : Int} (h : norm a b = norm c d) : (a = c ∧ b = d) ∨ (a = d ∧ b = c) := by
  unfold norm at h
  have h1 := congrArg Prod.fst h
  have h2 := congrArg Prod.snd h
  dsimp only at h1 h2
  by_cases x : a ≤ b <;> by_cases y : c ≤ d
  · rw [if_pos x, if_pos y] at h1 h2; omega
  · rw [if_pos x, if_neg y] at h1 h2; omega
  · rw [if_neg x, if_pos y] at h1 h2; omega
  · rw [if_neg x, if_neg y] at h1 h2; omega
def newA (g h : List Int) : List (Int × Int) := g.flatMap fun a => h.map fun b => norm a b
def newK (s : List (List Int)) (cd : Nat → Nat → Bool) (k j : Nat) : List (Int × Int) :=
  (List.range j).flatMap fun j => newA (if cd k j = true then s.getD k [] else []) (s.getD j [])
def news (s : List (List Int)) (cd : Nat → Nat → Bool) (m : Nat) : List (Int × Int) := (List.range m).flatMap fun k => newK s cd k k
theorem newA_app (g g' h : List Int) : newA (g ++ g') h = newA g h ++ newA g' h := by unfold newA; rw [List.flatMap_append]
theorem newA_one (a : Int) (h : List Int) : newA [a] h = h.map fun b => norm a b := by unfold newA; rw [List.flatMap_singleton]
theorem newK_succ (s : List (List Int)) (cd : Nat → Nat → Bool) (k j : Nat) : newK s cd k (j + 1) = newK s cd k j ++ newA (if cd k j = true then s.getD k [] else []) (s.getD j []) := by
  unfold newK; rw [List.range_succ, List.flatMap_append, List.flatMap_singleton]
theorem news_succ (s : List (List Int)) (cd : Nat → Nat → Bool) (m : Nat) : news s cd (m + 1) = news s cd m ++ newK s cd m m := by
  unfold news; rw [List.range_succ, List.flatMap_append, List.flatMap_singleton]
theorem mem_newA {g h : List Int} {t : Int × Int} : t ∈ newA g h ↔ ∃ a ∈ g, ∃ b ∈ h, t = norm a b := by
  unfold newA
  simp only [List.mem_flatMap, List.mem_map]
  constructor
  · rintro ⟨a, ha, b, hb, rfl⟩; exact ⟨a, ha, b, hb, rfl⟩
  · rintro ⟨a, ha, b, hb, rfl⟩; exact ⟨a, ha, b, hb, rfl⟩
theorem mem_newK {s : List (List Int)} {cd : Nat → Nat → Bool} {k j : Nat} {t : Int × Int} (h : t ∈ newK s cd k j) :
    ∃ j' < j, ∃ a ∈ s.getD k [], ∃ b ∈ s.getD j' [], t = norm a b := by
  unfold newK at h
  obtain ⟨j', hj, h⟩ := List.mem_flatMap.mp h
  obtain ⟨a, ha, b, hb, e⟩ := mem_newA.mp h
  refine ⟨j', List.mem_range.mp hj, a, ?_, b, hb, e⟩
  split at ha
  · exact ha
  · cases ha
theorem mem_news {s : List (List Int)} {cd : Nat → Nat → Bool} {m : Nat} {t : Int × Int} (h : t ∈ news s cd m) :
    ∃ k < m, ∃ j < k, ∃ a ∈ s.getD k [], ∃ b ∈ s.getD j [], t = norm a b := by
  unfold news at h
  obtain ⟨k, hk, h⟩ := List.mem_flatMap.mp h
  obtain ⟨j, hj, r⟩ := mem_newK h
  exact ⟨k, List.mem_range.mp hk, j, hj, r⟩
/-- a place is in one group alone -/
theorem grp_one {s : List (List Int)} (nd : s.flatten.Nodup) {a : Int} {i j : Nat} (hi : a ∈ s.getD i []) (hj : a ∈ s.getD j []) : i = j := by
  have li : i < s.length := by
    rcases Nat.lt_or_ge i s.length with h | h
    · exact h
    · rw [List.getD_eq_getElem?_getD, List.getElem?_eq_none h] at hi; cases hi
  have lj : j < s.length := by
    rcases Nat.lt_or_ge j s.length with h | h
    · exact h
    · rw [List.getD_eq_getElem?_getD, List.getElem?_eq_none h] at hj; cases hj
  rw [List.getD_eq_getElem?_getD, List.getElem?_eq_getElem li] at hi
  rw [List.getD_eq_getElem?_getD, List.getElem?_eq_getElem lj] at hj
  dsimp only [Option.getD_some] at hi hj
  have pw := (List.pairwise_flatten.mp (List.nodup_iff_pairwise_ne.mp nd)).2
  rw [List.pairwise_iff_getElem] at pw
  rcases Nat.lt_trichotomy i j with h | h | h
  · exact absurd rfl (pw i j li lj h a hi a hj)
  · exact h
  · exact absurd rfl (pw j i lj li h a hj a hi)
theorem grp_nd {s : List (List Int)} (nd : s.flatten.Nodup) (i : Nat) : (s.getD i []).Nodup := by
  rcases Nat.lt_or_ge i s.length with h | h
  · rw [List.getD_eq_getElem?_getD, List.getElem?_eq_getElem h]
    exact List.nodup_iff_pairwise_ne.mpr ((List.pairwise_flatten.mp (List.nodup_iff_pairwise_ne.mp nd)).1 _ (List.getElem_mem h))
  · rw [List.getD_eq_getElem?_getD, List.getElem?_eq_none h]; exact List.nodup_nil
theorem four_inj {s : List (List Int)} (nd : s.flatten.Nodup) {k j k' j' : Nat} {a b a' b' : Int} (hj : j < k) (hj' : j' < k') (ha : a ∈ s.getD k []) (hb : b ∈ s.getD j [])
    (ha' : a' ∈ s.getD k' []) (hb' : b' ∈ s.getD j' []) (e : norm a b = norm a' b') : k = k' ∧ j = j' ∧ a = a' ∧ b = b' := by
  rcases norm_inj e with ⟨rfl, rfl⟩ | ⟨rfl, rfl⟩
  · exact ⟨grp_one nd ha ha', grp_one nd hb hb', rfl, rfl⟩
  · have e1 := grp_one nd ha hb'
    have e2 := grp_one nd hb ha'
    omega
theorem news_nd {s : List (List Int)} (nd : s.flatten.Nodup) (cd : Nat → Nat → Bool) (m : Nat) : (news s cd m).Nodup := by
  unfold news
  rw [List.nodup_iff_pairwise_ne, List.pairwise_flatMap]
  refine ⟨fun k hk => ?_, ?_⟩
  · unfold newK
    rw [List.pairwise_flatMap]
    refine ⟨fun j hj => ?_, ?_⟩
    · have hj := List.mem_range.mp hj
      unfold newA
      rw [List.pairwise_flatMap]
      refine ⟨fun a ha => ?_, ?_⟩
      · rw [List.pairwise_map]
        refine (List.nodup_iff_pairwise_ne.mp (grp_nd nd j)).imp_of_mem fun {b b'} hb hb' ne e => ?_
        have ha : a ∈ s.getD k [] := by split at ha; exact ha; cases ha
        exact ne (four_inj nd hj hj ha hb ha hb' e).2.2.2
      · have nda : (if cd k j = true then s.getD k [] else []).Nodup := by split; exact grp_nd nd k; exact List.nodup_nil
        refine (List.nodup_iff_pairwise_ne.mp nda).imp_of_mem fun {a a'} ha ha' ne x hx y hy e => ?_
        have ha : a ∈ s.getD k [] := by split at ha; exact ha; cases ha
        have ha' : a' ∈ s.getD k [] := by split at ha'; exact ha'; cases ha'
        obtain ⟨b, hb, rfl⟩ := List.mem_map.mp hx
        obtain ⟨b', hb', rfl⟩ := List.mem_map.mp hy
        exact ne (four_inj nd hj hj ha hb ha' hb' e).2.2.1
    · refine (List.nodup_iff_pairwise_ne.mp List.nodup_range).imp_of_mem fun {j j'} hj hj' ne x hx y hy e => ?_
      have hj := List.mem_range.mp hj
      have hj' := List.mem_range.mp hj'
      obtain ⟨a, ha, b, hb, rfl⟩ := mem_newA.mp hx
      obtain ⟨a', ha', b', hb', rfl⟩ := mem_newA.mp hy
      have ha : a ∈ s.getD k [] := by split at ha; exact ha; cases ha
      have ha' : a' ∈ s.getD k [] := by split at ha'; exact ha'; cases ha'
      exact ne (four_inj nd hj hj' ha hb ha' hb' e).2.1
  · refine (List.nodup_iff_pairwise_ne.mp List.nodup_range).imp_of_mem fun {k k'} hk hk' ne x hx y hy e => ?_
    obtain ⟨j, hj, a, ha, b, hb, rfl⟩ := mem_newK hx
    obtain ⟨j', hj', a', ha', b', hb', rfl⟩ := mem_newK hy
    exact ne (four_inj nd hj hj' ha hb ha' hb' e).1

/-- what holds of groups and ties between two turns -/
structure PInv (n : Nat) (gs : List (List Int)) (ts : List (Int × Int)) : Prop where
  fl : gs.flatten.Perm (up n)
  nd : ts.Nodup
  bd : ∀ t ∈ ts, 0 ≤ t.1 ∧ t.1 < t.2 ∧ t.2 < (n : Int)
  one : ∀ t ∈ ts, ∃ g ∈ gs, t.1 ∈ g ∧ t.2 ∈ g
theorem nd_len {α : Type} [DecidableEq α] : ∀ {l m : List α}, l.Nodup → (∀ x ∈ l, x ∈ m) → l.length ≤ m.length
  | [], _, _, _ => Nat.zero_le _
  | a :: l, m, nd, h => by
    have nd' := List.nodup_cons.mp nd
    have ha := h a List.mem_cons_self
    have := nd_len (l := l) (m := m.erase a) nd'.2 fun x hx => (List.mem_erase_of_ne (fun (e : x = a) => nd'.1 (by rw [← e]; exact hx))).mpr (h x (List.mem_cons_of_mem _ hx))
    rw [List.length_erase_of_mem ha] at this
    have := List.length_pos_of_mem ha
    rw [List.length_cons]
    omega
theorem PInv.len {n : Nat} {gs : List (List Int)} {ts : List (Int × Int)} (h : PInv n gs ts) (hn : n ≤ 100) : ts.length ≤ 10000 := by
  refine Nat.le_trans (nd_len (m := pup n n) h.nd fun t ht => ?_) (pup_len' hn (Nat.le_refl n))
  have := h.bd t ht
  exact (mem_pup (Nat.le_refl n)).mpr (by omega)
theorem norm_ends {a b : Int} {g : List Int} (h1 : (norm a b).1 ∈ g) (h2 : (norm a b).2 ∈ g) : a ∈ g ∧ b ∈ g := by
  unfold norm at h1 h2
  dsimp only at h1 h2
  by_cases x : a ≤ b
  · rw [if_pos x] at h1 h2; exact ⟨h1, h2⟩
  · rw [if_neg x] at h1 h2; exact ⟨h2, h1⟩
theorem PInv.next {n : Nat} {gs s r : List (List Int)} {ts : List (Int × Int)} (h : PInv n gs ts) (pm : gs.Perm (s ++ r)) (cd : Nat → Nat → Bool) :
    PInv n (r ++ [s.flatten]) (ts ++ news s cd s.length) := by
  have pf : (s ++ r).flatten.Perm (up n) := pm.flatten.symm.trans h.fl
  have ndf : (s ++ r).flatten.Nodup := pf.nodup_iff.mpr (up_nodup n)
  have nds : s.flatten.Nodup := by
    rw [List.flatten_append] at ndf
    exact (List.nodup_append.mp ndf).1
  have gd : ∀ i, i < s.length → (s ++ r).getD i [] = s.getD i [] := fun i hi => by
    rw [List.getD_eq_getElem?_getD, List.getD_eq_getElem?_getD, List.getElem?_append_left hi]
  have inS : ∀ {a : Int} {k : Nat}, a ∈ s.getD k [] → a ∈ s.flatten ∧ k < s.length := fun {a k} ha => by
    rcases Nat.lt_or_ge k s.length with hk | hk
    · rw [List.getD_eq_getElem?_getD, List.getElem?_eq_getElem hk] at ha
      exact ⟨List.mem_flatten.mpr ⟨_, List.getElem_mem hk, ha⟩, hk⟩
    · rw [List.getD_eq_getElem?_getD, List.getElem?_eq_none hk] at ha; cases ha
  have bd : ∀ {a : Int}, a ∈ s.flatten → 0 ≤ a ∧ a < (n : Int) := fun {a} ha =>
    mem_up.mp (pf.mem_iff.mp (by rw [List.flatten_append]; exact List.mem_append_left _ ha))
  refine ⟨?_, ?_, ?_, ?_⟩
  · refine List.Perm.trans ?_ pf
    rw [List.flatten_append, List.flatten_append]
    have : [s.flatten].flatten = s.flatten := by simp
    rw [this]
    exact List.perm_append_comm
  · rw [List.nodup_append]
    refine ⟨h.nd, news_nd nds cd _, fun t ht t' ht' e => ?_⟩
    subst e
    obtain ⟨k, hk, j, hj, a, ha, b, hb, rfl⟩ := mem_news ht'
    obtain ⟨g, hg, g1, g2⟩ := h.one _ ht
    obtain ⟨ga, gb⟩ := norm_ends g1 g2
    obtain ⟨i, hi, e⟩ := List.getElem_of_mem (pm.mem_iff.mp hg)
    have gi : (s ++ r).getD i [] = g := by rw [List.getD_eq_getElem?_getD, List.getElem?_eq_getElem hi, e]; rfl
    have e1 := grp_one ndf (i := i) (j := k) (by rw [gi]; exact ga) (by rw [gd k hk]; exact ha)
    have e2 := grp_one ndf (i := i) (j := j) (by rw [gi]; exact gb) (by rw [gd j (by omega)]; exact hb)
    omega
  · intro t ht
    rcases List.mem_append.mp ht with ht | ht
    · exact h.bd t ht
    · obtain ⟨k, hk, j, hj, a, ha, b, hb, rfl⟩ := mem_news ht
      have b1 := bd (inS ha).1
      have b2 := bd (inS hb).1
      have ne : a ≠ b := fun e => by subst e; have := grp_one nds ha hb; omega
      unfold norm
      dsimp only
      split <;> omega
  · intro t ht
    rcases List.mem_append.mp ht with ht | ht
    · obtain ⟨g, hg, g1, g2⟩ := h.one t ht
      rcases List.mem_append.mp (pm.mem_iff.mp hg) with m | m
      · exact ⟨s.flatten, List.mem_append_right _ (List.mem_singleton.mpr rfl), List.mem_flatten.mpr ⟨g, m, g1⟩, List.mem_flatten.mpr ⟨g, m, g2⟩⟩
      · exact ⟨g, List.mem_append_left _ m, g1, g2⟩
    · obtain ⟨k, hk, j, hj, a, ha, b, hb, rfl⟩ := mem_news ht
      refine ⟨s.flatten, List.mem_append_right _ (List.mem_singleton.mpr rfl), ?_, ?_⟩
      · unfold norm; dsimp only; split
        · exact (inS ha).1
        · exact (inS hb).1
      · unfold norm; dsimp only; split
        · exact (inS hb).1
        · exact (inS ha).1
theorem flat_one : ∀ ns : List Int, (ns.map fun x => [x]).flatten = ns
  | [] => rfl
  | a :: l => by rw [List.map_cons, List.flatten_cons, flat_one l]; rfl
theorem erase_perm {α : Type} : ∀ {l : List α} {i : Nat} (h : i < l.length), (l[i] :: l.eraseIdx i).Perm l
  | _ :: _, 0, _ => .refl _
  | a :: l, i + 1, h => by
    show (l[i]'(Nat.lt_of_succ_lt_succ h) :: a :: l.eraseIdx i).Perm (a :: l)
    exact (List.Perm.swap _ _ _).trans ((erase_perm (Nat.lt_of_succ_lt_succ h)).cons a)
/-! ### lengths -/
theorem newA_len {g h : List Int} {x y : Nat} (hg : g.length ≤ x) (hh : h.length ≤ y) : (newA g h).length ≤ x * y := by
  have : ∀ g : List Int, (newA g h).length = g.length * h.length := by
    intro g
    induction g with
    | nil => simp [newA]
    | cons a g ih =>
      have e : newA (a :: g) h = newA [a] h ++ newA g h := newA_app [a] g h
      rw [e, List.length_append, ih, newA_one, List.length_map, List.length_cons, Nat.succ_mul, Nat.add_comm]
  rw [this]
  exact Nat.mul_le_mul hg hh
theorem newK_len {s : List (List Int)} {cd : Nat → Nat → Bool} {k : Nat} (hs : ∀ i, (s.getD i []).length ≤ 12) : ∀ j, (newK s cd k j).length ≤ j * 144
  | 0 => Nat.zero_le _
  | j + 1 => by
    rw [newK_succ, List.length_append]
    have h1 := newK_len (s := s) (cd := cd) (k := k) hs j
    have h2 : (newA (if cd k j = true then s.getD k [] else []) (s.getD j [])).length ≤ 12 * 12 := newA_len (by split; exact hs k; exact Nat.zero_le _) (hs j)
    omega
theorem news_len {s : List (List Int)} {cd : Nat → Nat → Bool} (hs : ∀ i, (s.getD i []).length ≤ 12) : ∀ m, m ≤ 10 → (news s cd m).length ≤ m * 1440
  | 0, _ => Nat.zero_le _
  | m + 1, h => by
    rw [news_succ, List.length_append]
    have h1 := news_len (s := s) (cd := cd) hs m (by omega)
    have h2 := newK_len (s := s) (cd := cd) (k := m) hs m
    omega
theorem grp_len {n : Nat} {s : List (List Int)} {r : List (List Int)} (h : (s ++ r).flatten.Perm (up n)) (i : Nat) : (s.getD i []).length ≤ n := by
  rcases Nat.lt_or_ge i s.length with hi | hi
  · rw [List.getD_eq_getElem?_getD, List.getElem?_eq_getElem hi]
    have e := h.length_eq
    rw [up_len, List.flatten_append, List.length_append] at e
    have : ∀ (l : List (List Int)) (g : List Int), g ∈ l → g.length ≤ l.flatten.length := by
      intro l g hg
      induction l with
      | nil => cases hg
      | cons x l ih =>
        rw [List.flatten_cons, List.length_append]
        rcases List.mem_cons.mp hg with rfl | hg
        · omega
        · have := ih hg; omega
    have := this s _ (List.getElem_mem hi)
    show s[i].length ≤ n
    omega
  · rw [List.getD_eq_getElem?_getD, List.getElem?_eq_none hi]; exact Nat.zero_le _
end My

set_option Elab.async false
set_option linter.all false
set_option maxRecDepth 100000
set_option maxHeartbeats 2000000
namespace My
open PySem PySem.Spec PyProof.Rows L2 GxR

/-! ### the frame of a generator expression -/
abbrev gcx (X : Cx) (A' : Around) (s : Shared) (H : Hp) (cenv : Env) (fp : List Addr) (pn : List (Addr × Obj)) : Cx :=
  { X with A := A', s_0 := s, H_0 := H, env := cenv, outer := X.stack, stack := cenv :: X.stack, ex := fp, fn := fun _ => false, calm := true, pn := pn, xe := fun _ _ => False }
structure GsOk (scope : Scope) : Prop where
  co : scope.isCoroutine = false
  cell : ∀ y ∈ scope.names, y.2 ≠ .cell
  dot : scope.names.lookup (".0" : Str) = some NameKind.local

section
variable {X : Cx} {pins : List (Addr × Obj)} {σ : L2.St} {H : Hp} {s : Shared}
abbrev gEnv (X : Cx) (scope : Scope) (C : Addr) (code : Value) : Env :=
  genEnv scope (cloFrom X.env.cells scope.names []) C code builtinsNs X.env
theorem gen_inv {scope : Scope} {own : List (Str × Nat)} {fp : List Addr} {A' : Around} {C : Addr} {code : Value} {s5 : Shared}
    {m : Str → Option Value} {pn : List (Addr × Obj)} (I : Inv X pins σ H s) (ok : BlkOk X.N X.env.scope scope own) (hN : X.N.Nodup)
    (S : GsOk scope) (hfp : ∀ b ∈ fp, FpOk X pins H b ∧ b < s.heap.objs.size) (hC : C = s.heap.objs.size) (hA : A'.handled = none)
    (hF : A'.frames = some (gEnv X scope C code :: X.stack)) (kp : ∀ b o, s.heap.get? b = some o → s5.heap.get? b = some o)
    (hns : s5.heap.Ns C m) (hos : s5.os = s.os) (hb : AllBare s5.gens)
    (hpn : ∀ p ∈ pn, s5.heap.get? p.1 = some p.2 ∧ s.heap.objs.size < p.1 ∧ ∀ v, p.2.data ≠ .cell v) :
    Inv (gcx X A' s H (gEnv X scope C code) fp pn) [] (wipe σ (own.map (·.2))) H s5 := by
  have cm : ∀ {y : Str} {c : Addr}, (cloFrom X.env.cells scope.names []).lookup y = some c → X.env.cells.lookup y = some c ∧ c < s.heap.objs.size := fun {y c} e => by
    rcases cloFrom_mem (PySem.mem_of_lookup e) with z | ⟨h1, rfl⟩
    · cases z
    · have : ∃ c, X.env.cells.lookup y = some c := by
        rcases ok.free _ h1 rfl with k | k
        · exact I.ok.has _ (.inl k)
        · exact I.ok.has _ (.inr k)
      obtain ⟨c, hc⟩ := this
      rw [hc]
      obtain ⟨w, z⟩ := I.cell _ _ hc
      exact ⟨rfl, z.lt⟩
  have look : ∀ {y : Str}, scope.names.lookup y = some .free → ∃ c, (cloFrom X.env.cells scope.names []).lookup y = some c ∧ X.env.cells.lookup y = some c := fun {y} hl => by
    obtain ⟨c, e⟩ := mem_lookup (cloFrom_has (cells := X.env.cells) (acc := []) (PySem.mem_of_lookup hl))
    exact ⟨c, e, (cm e).1⟩
  have hCs : s.heap.objs.size ≤ C := Nat.le_of_eq hC.symm
  have okB : (gcx X A' s H (gEnv X scope C code) fp pn).Ok := by
    refine ⟨I.ok.mod, ok.kind, I.ok.glob, rfl, hCs, fun y z c e1 e2 => I.ok.inj y z c (cm e1).1 (cm e2).1, fun y hy => ?_, (fun y c z e => by cases z), fun _ => hA, hF, .inr ⟨rfl, rfl⟩,
      fun b hb => ⟨?_, fun y c e => (hfp b hb).1.2.2.2.2.1 y c (cm e).1⟩, I.bs, Nat.le_trans I.ok.bsz I.sz, fun b o e hb => ?_, fun b hb z => ?_, I.stack, I.stkFree⟩
    · rcases hy with hy | hy
      · exact absurd rfl (S.cell _ (PySem.mem_of_lookup (show scope.names.lookup y = some .cell from hy)))
      · obtain ⟨c, e, _⟩ := look (show scope.names.lookup y = some .free from hy)
        exact ⟨c, e⟩
    · show b ≠ C
      rw [hC]; exact Nat.ne_of_lt (hfp b hb).2
    · rcases (hfp b hb).1.2.2.2.1 with z | z
      · exact I.ok.noex b o e z
      · exact absurd (Nat.lt_of_lt_of_le (Heap.lt_size e) (Nat.le_trans I.ok.bsz z)) (Nat.lt_irrefl _)
    · rcases List.mem_cons.mp (I.stkSub b z) with z | z
      · exact (hfp b hb).1.2.1 z
      · exact (hfp b hb).1.2.2.1 z
  refine ⟨okB, hos, hb, Un.kept kp, ⟨m, hns, fun i y v e1 e2 e3 => ?_⟩, fun y c e => ?_, ?_, fun y c e => I.freeC y c (cm e).1, fun p hp => ?_, I.hok.kept kp, by rw [wipe_length]; exact I.len⟩
  · obtain ⟨e2, hne⟩ := wipe_some e2
    have no : ∀ k, scope.names.lookup y = some k → ¬ (k = .local ∨ k = .cell) := fun k e hh => by
      rcases ok.own _ (PySem.mem_of_lookup e) hh with z | z
      · obtain ⟨p, hp, hpy⟩ := List.mem_map.mp z
        have e4 := ok.ix p hp
        have hpy : p.1 = y := hpy
        rw [hpy] at e4
        exact hne (List.mem_map.mpr ⟨p, hp, nodup_ix hN e4 e1⟩)
      · exact z (List.mem_of_getElem? e1)
    have e3 : Vis scope y := e3
    have fr : scope.names.lookup y = some .free := by
      rcases e3 with e3 | e3 | e3
      · exact absurd (.inl rfl) (no _ e3)
      · exact absurd (.inr rfl) (no _ e3)
      · exact e3
    obtain ⟨m', hn, hl⟩ := I.loc
    have k := ok.free _ (PySem.mem_of_lookup fr) rfl
    have hv : Vis X.env.scope y := by
      rcases k with k | k
      · exact .inr (.inl k)
      · exact .inr (.inr k)
    obtain ⟨w, r, q⟩ := hl i y v e1 e2 hv
    refine ⟨w, r, .inr ⟨.inr fr, ?_⟩⟩
    obtain ⟨c, h1, h2⟩ := look fr
    rcases q with ⟨z, _⟩ | ⟨_, c', e', z⟩
    · have z : X.env.scope.names.lookup y = some .local := z
      rcases k with k | k <;> (have k : X.env.scope.names.lookup y = _ := k; rw [k] at z; cases z)
    · rw [h2] at e'; cases e'
      exact ⟨c, h1, z.keeps kp⟩
  · obtain ⟨w, z⟩ := I.cell y c (cm e).1
    exact ⟨w, z.keeps kp⟩
  · exact I.hok.fresh hCs
  · rw [List.append_nil] at hp
    obtain ⟨h1, h2, h3⟩ := hpn p hp
    refine ⟨h1, I.hok.fresh (Nat.le_of_lt h2), ?_, fun z => ?_, h3⟩
    · show p.1 ≠ C
      rw [hC]; exact Nat.ne_of_gt h2
    · rcases List.mem_cons.mp (I.stkSub p.1 z) with z | z
      · have := I.lt
        rw [← z] at this
        exact absurd (Nat.lt_trans h2 this) (Nat.lt_irrefl _)
      · exact I.nofs (Nat.le_of_lt h2) z
theorem inv_gens {gs : Array GenState} (I : Inv X pins σ H s) (hb : AllBare gs) : Inv X pins σ H { s with gens := gs } :=
  ⟨I.ok, I.os, hb, I.base, I.loc, I.cell, I.free, I.freeC, I.pin, I.hok, I.len⟩
theorem inv_setGen {g : Nat} {x : GenState} (I : Inv X pins σ H s) (hx : x.bare = true) : Inv X pins σ H (s.setGen g x) := by
  refine inv_gens I fun y hy => ?_
  rcases Array.mem_or_eq_of_mem_setIfInBounds hy with h | h
  · exact I.bare y h
  · rw [h]; exact hx
end

/-! ### the loop of a generator expression -/
section
variable {prog : Program} {w : World} {A : Around}
/-- n: how many more may come; Yl m v s: v is handed out, fewer than m turns are left; St m s: ready for the next turn -/
def protoG (St : Nat → Shared → Prop) (Yl : Nat → Value → Shared → Prop) : Protocol := fun n _ v s kap =>
  (∃ m, m ≤ n ∧ Yl m v s) ∧ ∀ s'' m', m' < n → St m' s'' → kap (.send .none) s''
theorem seg_loopG {elt tg iter : Expr} {scope : Scope} {pos : Pos} {it : Addr} {cenv : Env} (hco : cenv.scope.isCoroutine = false)
    (St : Nat → Shared → Prop) (En : Shared → Prop) (Yl : Nat → Value → Shared → Prop)
    (turn : ∀ m s, St m s → wpAny (model prog w) (A.over (.compLoop (.GeneratorExp elt [⟨tg, iter, [], 0⟩] scope pos) 0 (.ref it) .none cenv) []) (pyNext (.ref it)) (fun r s1 => match r with
      | none => En s1
      | some u => wpAny (model prog w) (A.over (.compLoop (.GeneratorExp elt [⟨tg, iter, [], 0⟩] scope pos) 0 (.ref it) .none cenv) []) (letOwnedTupleGo tg (.ref it) u) (fun _ s2 =>
          wpAny (model prog w) (A.over (.compLoop (.GeneratorExp elt [⟨tg, iter, [], 0⟩] scope pos) 0 (.ref it) .none cenv) []) (assign tg cenv u) (fun _ s3 =>
            wpAny (model prog w) (A.over (.compLoop (.GeneratorExp elt [⟨tg, iter, [], 0⟩] scope pos) 0 (.ref it) .none cenv) []) (eval elt cenv) (fun v s4 => Yl m v s4) (fun _ _ => False) s3) (fun _ _ => False) s2) (fun _ _ => False) s1) (fun _ _ => False) s) :
    ∀ (n m : Nat) (s₀ s : Shared), m < n → St m s →
      Seg (model prog w) A (fun _ _ r s₁ => r = .ok .next ∧ En s₁) (protoG St Yl) n s₀
        (.compLoop (.GeneratorExp elt [⟨tg, iter, [], 0⟩] scope pos) 0 (.ref it) .none cenv)
        ((model prog w).den (.compLoop (.GeneratorExp elt [⟨tg, iter, [], 0⟩] scope pos) 0 (.ref it) .none cenv)) [] s := by
  intro n
  induction n with
  | zero => intro m _ _ h; exact absurd h (Nat.not_lt_zero _)
  | succ n ih =>
    intro m s₀ s hm hst
    show Seg _ A _ _ _ s₀ _ ((compTurn (.GeneratorExp elt [⟨tg, iter, [], 0⟩] scope pos) 0 (.ref it) .none cenv).onRaise (leaving cenv)) [] s
    rw [compTurn_gen, Sem.onRaise_eq_wrap]
    refine seg_bind_wrap (wpAny_standAt ?_)
    refine seg_bind_wrap (wpAny_mono (turn m s hst) (fun r s1 h1 => ?_) fun _ _ e => e.elim)
    cases r with
    | none => exact seg_end (.ok .next) ⟨rfl, h1⟩
    | some u =>
      refine seg_bind_wrap (wpAny_mono h1 (fun _ s2 h2 => ?_) fun _ _ e => e.elim)
      refine seg_bind_wrap (wpAny_mono h2 (fun _ s3 h3 => ?_) fun _ _ e => e.elim)
      refine seg_bind_wrap ?_
      simp only [List.forIn_nil]
      refine wpAny_pure ?_
      simp only [if_true]
      have hy : ∀ v, yieldOut cenv v = yieldValue v := fun v => by simp only [yieldOut, hco, Bool.false_eq_true, if_false]
      simp only [hy]
      rw [Sem.bind_eq_wrap', Sem.bind_eq_wrap', Sem.wrap_wrap, Sem.wrap_wrap]
      refine seg_wrap (wpAny_mono h3 (fun v s4 h4 => ?_) fun _ _ e => e.elim)
      refine seg_at (seg_yield rfl rfl rfl ⟨⟨m, Nat.le_of_lt_succ hm, h4⟩, fun s'' m' hm' hst' => ?_⟩)
      exact seg_again rfl (ih m' s'' s'' hm' hst')
end
end My

set_option Elab.async false
set_option linter.all false
set_option maxRecDepth 100000
set_option maxHeartbeats 2000000
namespace My
open PySem PySem.Spec PyProof.Rows L2 GxR GenW

abbrev genObj (g : Nat) (x y : Value) : Obj := { cls := .type "generator", data := .fields #[.int g 0, x, y] }
/-- a generator expression is made: what stands then -/
structure Made (X : Cx) (pins : List (Addr × Obj)) (σ : L2.St) (elt tg iter : Expr) (scope : Scope) (gpos : Pos) (P : Addr) (J : It) (H1 H2 : Hp)
    (it : Addr) (fp : List Addr) (tn : Nat → Heap → Prop) (s4 s5 : Shared) (C a : Addr) (code : Value) (g : Nat) (x y : Value) : Prop where
  tab : Tabbed P H1 H2
  inv : Inv X pins σ H2 s4
  tu : Turn X.prog X.w X.K tg J fp it tn
  st : tn 0 s4.heap
  fp : ∀ b ∈ fp, FpOk X pins H2 b ∧ b < s4.heap.objs.size
  c : C = s4.heap.objs.size
  kp : ∀ b o, s4.heap.get? b = some o → s5.heap.get? b = some o
  ns : s5.heap.Ns C (fun y => if y = (".0" : Str) then some (.ref it) else none)
  os : s5.os = s4.os
  bare : AllBare s5.gens
  obj : s5.heap.get? a = some (genObj g x y)
  lt : s4.heap.objs.size < a
  gs : s5.gens[g]? = some (.fresh (.compStart (.GeneratorExp elt [⟨tg, iter, [], 0⟩] scope gpos) 0 (.ref it) .none (gEnv X scope C code)))

section
variable {X : Cx} {pins : List (Addr × Obj)} {σ : L2.St} {H : Hp} {s : Shared}
theorem gen_mk {c P : Addr} {elt tg iter : Expr} {gpos : Pos} {scope : Scope} {own : List (Str × Nat)} {wi : TI} {k : Nat} {Q' : Value → Shared → Prop} {R : It → Hp → Prop}
    (hr : Room k X.A) (TB : TabB X.base X.mg c P) (hcode : X.env.code = .ref c) (S : GsOk scope) (ok : BlkOk X.N X.env.scope scope own) (hi : PI X tg iter wi)
    (hs : ∀ v, genFold iter X.env v = pure v) (I : Inv X pins σ H s) (h : wi σ H fun J H1 => TabG H1 P ∧ R J H1)
    (hQ : ∀ J H1 H2 it fp tn s4 s5 C a code g x y, R J H1 → Made X pins σ elt tg iter scope gpos P J H1 H2 it fp tn s4 s5 C a code g x y → Q' (.ref a) s5) :
    wpAny (model X.prog X.w) X.A (eval (.GeneratorExp elt [⟨tg, iter, [], 0⟩] scope gpos) X.env) Q' X.xe s := by
  have hfree : ∀ y ∈ scope.names, y.2 = .free → ∃ c, X.env.cells.lookup y.1 = some c := fun y hy e => (ok.free y hy e).elim (fun k => I.ok.has _ (.inl k)) fun k => I.ok.has _ (.inr k)
  refine wpAny_GeneratorExp_make S.co (closure_ok hfree) S.cell S.dot ok.kind (by have := hr.dp; omega) ?_ hs
  refine thn (hi.run pins s σ H _ I h) fun xv s1 hx => thn hx fun itv s2 h2 => ?_
  obtain ⟨it, fp, tn, J, H1, rfl, I2, T, st2, f2, ⟨ps, hP, ht⟩, q⟩ := h2
  have hPs : s2.heap.get? P = some { cls := .none, data := .fields ps } := I2.hok P _ hP
  have cd : PySem.W.CodeHd s2.heap c P := TB.code.keeps fun b u e => I2.bk b u e
  have cont : ∀ (code : Value) (h3 : Heap) (tk : Nat) (more : Array Value), Heap.ExtBut P s2.heap h3 → s2.heap.objs.size ≤ h3.objs.size → h3.get? P = some { cls := .none, data := .fields (ps ++ more) } → TriplesOk (ps ++ more).toList →
      wpAny (model X.prog X.w) X.A (builtinsFor X.env.globals X.env.builtins) (fun bi s₄ =>
        ∀ h', h'.Ns s₄.heap.objs.size (fun y => if y = ".0" then some (Value.ref it) else none) → Heap.SameBut s₄.heap.objs.size (s₄.heap.push { cls := .type "frame", data := .dict #[] }) h' →
          Q' (.ref h'.objs.size) { s₄ with
            gens := s₄.gens.push (.fresh (.compStart (.GeneratorExp elt [⟨tg, iter, [], 0⟩] scope gpos) 0 (.ref it) .none (genEnv scope (cloFrom X.env.cells scope.names []) s₄.heap.objs.size code bi X.env))),
            toks := s₄.toks + 1 + 1 + 1,
            heap := h'.push { cls := .type "generator", data := .fields #[.int s₄.gens.size 0, .str "<genexpr>" (s₄.toks + 1), .str (X.env.qual ++ "<genexpr>") (s₄.toks + 1 + 1)] } }) X.xe { s2 with heap := h3, toks := tk } := by
    intro code h3 tk more hx hsz hP3 ht3
    obtain ⟨bm, ob, e1, e2, e3, e4, e5, e6, e7, e8⟩ := TB.bm
    have keep3 : ∀ b u, b ≠ P → s2.heap.get? b = some u → h3.get? b = some u := fun b u hb e => hx b u hb e
    refine wpAny_builtinsFor (m := X.mg) (by rw [I2.ok.glob]; exact (I2.mod.glob.keeps I2.bk).extBut hx TB.gP) e1 e2 (keep3 _ _ e4 (I2.bk _ _ e5)) e6 e7 e8 ?_
    intro h' hns hsb
    have I4 := inv_tab (more := more) (h' := h3) (g' := s2.gens) (d' := s2.drawn) (t' := tk) I2 hP keep3 hP3 I2.bare
    have old : ∀ b u, h3.get? b = some u → h'.get? b = some u := fun b u e => hsb.extBut b u (Nat.ne_of_lt (Heap.lt_size e)) (Heap.get?_push_of_some _ e)
    have hsz' : h'.objs.size = h3.objs.size + 1 := by rw [hsb.1, Heap.size_push]
    refine hQ J H1 (upd H1 P (.tbl (ps ++ more))) it fp tn { s2 with heap := h3, toks := tk } _ h3.objs.size _ code s2.gens.size _ _ q
      ⟨⟨⟨_, upd_same, ht3⟩, fun b hb => upd_ne hb⟩, I4, T, ?_, fun b hb => ⟨?_, ?_⟩, rfl, fun b o e => Heap.get?_push_of_some _ (old b o e), hns.keeps fun b o e => Heap.get?_push_of_some _ e, rfl, I2.bare.push rfl, Heap.get?_push_size _ rfl, ?_, ?_⟩
    · refine T.keep _ _ _ st2 fun b hb o e => keep3 b o (fun z => ?_) e
      have z2 := (f2 b hb).1
      rw [z, hP] at z2; cases z2
    · refine ⟨?_, (f2 b hb).2⟩
      have nb : b ≠ P := fun z => by
        have z2 := (f2 b hb).1
        rw [z, hP] at z2; cases z2
      rw [upd_ne nb]; exact (f2 b hb).1
    · obtain ⟨o, e, _⟩ := T.obj _ _ st2 b hb
      exact Nat.lt_of_lt_of_le (Heap.lt_size e) hsz
    · show h3.objs.size < h'.objs.size
      omega
    · show (s2.gens.push _)[s2.gens.size]? = _
      rw [Array.getElem?_push_size]
  refine ⟨I2.nolimit, ?_⟩
  cases hf : codeAmong gpos ps.toList with
  | none =>
    refine wpAny_genexprCodeX hcode (cd.code hPs ht) (cd.tab hPs) hf fun c' h' tk hx hge hlt hco' _ htab' _ => ?_
    obtain ⟨o1, vs, f1, tf, fl, tg', inF, tx, tt, op, _, _, _, _, _, _, _, _, _, htr, _⟩ := hco'
    exact cont _ h' tk _ hx (Nat.le_trans hge (Nat.le_of_lt hlt)) htab'.2 htr
  | some cv =>
    refine wpAny_genexprCode_hit hcode (cd.code hPs ht) hf ?_
    have z : ps ++ #[] = ps := by simp
    exact cont cv s2.heap s2.toks #[] (Heap.ExtBut.refl _ _) (Nat.le_refl _) (by rw [z]; exact hPs) (by rw [z]; exact ht)
end

/-! ### all, any: one item after another -/
section
variable {prog : Program} {w : World} {A : Around} {R : Result → Shared → Prop} {a : Addr} {g : Nat} {St : Nat → Shared → Prop} {En : Shared → Prop} {Yl : Nat → Value → Shared → Prop}
theorem allG_loop (hh : A.handled = none) (hd : A.in1.depth < recursionLimit)
    (hen : ∀ s₁ h', En s₁ → (∀ b o, s₁.heap.get? b = some o → h'.get? b = some o) → R (.ok (.ret (.bool true))) { s₁.setGen g .finished with heap := h' })
    (hyl : ∀ m v s₁ gs', gs'.bare = true → Yl m v s₁ → (v = .bool false ∧ R (.ok (.ret (.bool false))) (s₁.setGen g gs')) ∨
      (v = .bool true ∧ (s₁.setGen g gs').heap.NoLimit ∧ (s₁.setGen g gs').heap.IsGen a g ∧ ∃ m', m' < m ∧ St m' ((s₁.setGen g gs').setGen g .running))) :
    ∀ (n : Nat) (s : Shared), s.heap.NoLimit → s.heap.IsGen a g →
      (∃ gs, s.gens[g]? = some gs ∧ gs.Goes (model prog w) A.in1.in1 (fun _ _ r s₁ => r = .ok .next ∧ En s₁) (protoG St Yl) n (.send .none) (s.setGen g .running)) →
      codeAny (model prog w) A (.builtin "all.loop" ⟨[.ref a], []⟩) R s := by
  intro n
  induction n with
  | zero =>
    rintro s hl hg ⟨gs, hgs, hgo⟩
    refine codeAny_builtin F.entry_all_loop ?_
    rw [Around.under_plainId F.plain_all_loop _]
    show wpAny _ A.in1 (pyNext (.ref a) >>= _) _ _ s
    refine wpAny_bind (wpAny_pyNext_genexpQ (P := fun _ _ s₁ => En s₁) hh hl hd hg hgs hgo (fun v s₁ gs' hb hY => ?_) (fun s₁ hP h' hk => ?_))
    · obtain ⟨⟨m, hm, hy⟩, _⟩ := hY
      rcases hyl m v s₁ gs' hb hy with ⟨rfl, hR⟩ | ⟨_, _, _, m', hm', _⟩
      · refine wpAny_bind (wpAny_holding (wpAny_truthy_bool ?_))
        refine wpAny_bind (wpAny_letGo ?_)
        simp only [Bool.false_eq_true, if_false]
        exact wpAny_bind (wpAny_rule (wpAny_pure hR))
      · omega
    · exact wpAny_bind (wpAny_rule (wpAny_pure (hen s₁ h' hP hk)))
  | succ n ih =>
    rintro s hl hg ⟨gs, hgs, hgo⟩
    refine codeAny_builtin F.entry_all_loop ?_
    rw [Around.under_plainId F.plain_all_loop _]
    show wpAny _ A.in1 (pyNext (.ref a) >>= _) _ _ s
    have hsz : g + 1 ≤ s.gens.size := by
      rcases Nat.lt_or_ge g s.gens.size with z | z
      · exact z
      · rw [Array.getElem?_eq_none z] at hgs; cases hgs
    refine wpAny_bind (wpAny_gsz hsz (wpAny_pyNext_genexpQ (P := fun _ _ s₁ => En s₁) hh hl hd hg hgs hgo (fun v s₁ gs' hb hY hn => ?_) (fun s₁ hP h' hk _ => ?_)))
    · obtain ⟨⟨m, hm, hy⟩, hres⟩ := hY
      rcases hyl m v s₁ gs' hb hy with ⟨rfl, hR⟩ | ⟨rfl, hl', hg', m', hm', hst⟩
      · refine wpAny_bind (wpAny_holding (wpAny_truthy_bool ?_))
        refine wpAny_bind (wpAny_letGo ?_)
        simp only [Bool.false_eq_true, if_false]
        exact wpAny_bind (wpAny_rule (wpAny_pure hR))
      · refine wpAny_bind (wpAny_holding (wpAny_truthy_bool ?_))
        refine wpAny_bind (wpAny_letGo ?_)
        simp only [if_true]
        have hm : m ≤ n := hm
        refine wpAny_pure ⟨plainId_quiet F.plain_all_loop _, ih _ hl' hg' ⟨gs', ?_, hres _ m' (by omega) hst⟩⟩
        have hn' : g < s₁.gens.size := by
          rw [setGen_size] at hn; exact hn
        show (s₁.gens.setIfInBounds g gs')[g]? = some gs'
        rw [Array.getElem?_setIfInBounds_self, if_pos hn']
    · exact wpAny_bind (wpAny_rule (wpAny_pure (hen s₁ h' hP hk)))
end
end My

set_option Elab.async false
set_option linter.all false
set_option maxRecDepth 100000
set_option maxHeartbeats 2000000
namespace My
open PySem PySem.Spec PyProof.Rows L2 GxR GenW

/-- the around of the generator's frame, asked for by all or any -/
abbrev gA (X : Cx) (elt tg iter : Expr) (scope : Scope) (gpos : Pos) (it : Addr) (C : Addr) (code : Value) : Around :=
  X.A.in1.in1.over (.compLoop (.GeneratorExp elt [⟨tg, iter, [], 0⟩] scope gpos) 0 (.ref it) .none (gEnv X scope C code)) []
theorem gA_room {X : Cx} {elt tg iter : Expr} {scope : Scope} {gpos : Pos} {it C : Addr} {code : Value} {k : Nat} (hr : Room (k + 1) X.A) : Room k (gA X elt tg iter scope gpos it C code) := by
  have h1 : (gA X elt tg iter scope gpos it C code).depth = X.A.depth + 1 := rfl
  have h2 : (gA X elt tg iter scope gpos it C code).units ≤ X.A.units + 16 := by
    show X.A.in1.in1.units + _ + _ ≤ _
    have : X.A.in1.in1.units ≤ X.A.units + 8 := by
      first
        | exact Nat.le_add_right _ _
        | (show X.A.units + _ + _ ≤ _; omega)
    show X.A.in1.in1.units + 0 + 3 ≤ _
    omega
  exact ⟨hr.hd, by have := hr.dp; omega, by have := hr.un; omega⟩
theorem gA_frames {X : Cx} {elt tg iter : Expr} {scope : Scope} {gpos : Pos} {it C : Addr} {code : Value} (h : X.A.frames = some X.stack) :
    (gA X elt tg iter scope gpos it C code).frames = some (gEnv X scope C code :: X.stack) := by
  have e : (gA X elt tg iter scope gpos it C code).frames = pushEnvs [gEnv X scope C code] (pushEnvs [] X.A.frames) := rfl
  rw [e, h]; rfl

/-- all(e for tg in iter) -/
def tAllG (P : Addr) (wi : TI) (g : TG) (te : TE) (vs : List Nat) : TE := fun σ H Q => wi σ H fun J H1 => TabG H1 P ∧ ∀ H2, Tabbed P H1 H2 →
  ∃ W : Nat → Nat → Hp → Prop, (∃ m, W 0 m H2) ∧ ∀ i m H, W i m H → (J.stop i H ∧ Q (.bl true) H) ∨
    (J.go i H ∧ ∃ Nx : Hp → Prop, (∀ H', Nx H' → ∃ m', m' < m ∧ W (i + 1) m' H') ∧ ∀ x H', J.yld i H x H' → g x (wipe σ vs) H' fun σ2 H2 => wipe σ2 vs = wipe σ vs ∧
      te σ2 H2 fun y H3 => ∃ b, y = .bl b ∧ if b = true then Nx H3 else Q (.bl false) H3)

section
variable {X : Cx}
theorem pe_allG {c P : Addr} {elt tg iter : Expr} {p pos gpos : Pos} {scope : Scope} {own : List (Str × Nat)} {wi : TI} {g : TG} {te : TE} {k : Nat}
    (hc : X.calm = true) (hN : X.N.Nodup) (hr : Room (k + 1) X.A) (hgl : Gl X "all") (hm : X.mg "all" = none) (TB : TabB X.base X.mg c P) (hcode : X.env.code = .ref c)
    (S : GsOk scope) (ok : BlkOk X.N X.env.scope scope own) (hi : PI X tg iter wi)
    (hg : ∀ A' s H C code fp pn, PG (gcx X A' s H (gEnv X scope C code) fp pn) tg g)
    (he : ∀ A' s H C code fp pn, Room k A' → PE (gcx X A' s H (gEnv X scope C code) fp pn) elt te)
    (hs : ∀ v, genFold iter X.env v = pure v := by intro _; rfl)
    (h1 : starEach [.GeneratorExp elt [⟨tg, iter, [], 0⟩] scope gpos] X.env = (false, eval (.GeneratorExp elt [⟨tg, iter, [], 0⟩] scope gpos) X.env) :: starEach [] X.env := by rfl) :
    PE X (.Call (.Name "all" p) [.GeneratorExp elt [⟨tg, iter, [], 0⟩] scope gpos] [] pos) (tAllG P wi g te (own.map (·.2))) := by
  refine ⟨fun pins s σ H Q I h => ?_⟩
  refine wpAny_Call_Name_kw (ld_blt I hgl hm boot_all ?_)
  refine PyProof.Rows.callWith_builtin1 ?_ h1 (by rfl)
  rw [h1]
  show wpAny _ _ (spliced ((false, eval (.GeneratorExp elt [⟨tg, iter, [], 0⟩] scope gpos) X.env) :: backTo pos (starEach [] X.env))) _ _ s
  refine Calls.spliced_cons (gen_mk hr TB hcode S ok hi hs I h fun J H1 H2 it fp tn s4 s5 C a code gi x y q M => ?_)
  refine Calls.spliced_nil ?_
  obtain ⟨W, ⟨m0, w0⟩, turn⟩ := q H2 M.tab
  have hX : X.A.handled = none := M.inv.ok.hd hc
  have I5 : Inv (gcx X (gA X elt tg iter scope gpos it C code) s4 H2 (gEnv X scope C code) fp [(a, genObj gi x y)]) [] (wipe σ (own.map (·.2))) H2 s5 :=
    gen_inv M.inv ok hN S M.fp M.c hX (gA_frames M.inv.ok.frames) M.kp M.ns M.os M.bare fun p hp => by
      rw [List.mem_singleton.mp hp]
      exact ⟨M.obj, M.lt, fun v e => by cases e⟩
  have pg := hg (gA X elt tg iter scope gpos it C code) s4 H2 C code fp [(a, genObj gi x y)]
  have pe := he (gA X elt tg iter scope gpos it C code) s4 H2 C code fp [(a, genObj gi x y)] (gA_room hr)
  have T := M.tu
  generalize hY : gcx X (gA X elt tg iter scope gpos it C code) s4 H2 (gEnv X scope C code) fp [(a, genObj gi x y)] = Y at I5 pg pe
  have stat : ∀ {σ' : L2.St} {H' : Hp} {s' : Shared}, Inv Y [] σ' H' s' → (∀ b ∈ fp, H' b = none) → ∀ b ∈ fp, FpOk Y [] H' b := fun {σ' H' s'} I' hn b hb => by
    subst hY
    refine ⟨hn b hb, (I'.ok.exf b hb).1, I'.ok.exfs b hb, .inl hb, fun x c e => (I'.ok.exf b hb).2 x c e, fun p hp => ?_⟩
    have hp : p ∈ [(a, genObj gi x y)] ++ ([] : List (Addr × Obj)) := hp
    rw [List.append_nil] at hp
    rw [List.mem_singleton.mp hp]
    have h2 := (M.fp b hb).2
    have h3 := M.lt
    exact Nat.ne_of_gt (Nat.lt_trans h2 h3)
  have obj : ∀ {σ' : L2.St} {H' : Hp} {s' : Shared}, Inv Y [] σ' H' s' → s'.heap.IsGen a gi := fun {σ' H' s'} I' => by
    subst hY
    exact ⟨_, x, y, (I'.pin (a, genObj gi x y) (List.mem_append_left _ (List.mem_singleton.mpr rfl))).1, rfl, rfl, rfl⟩
  have back : ∀ {σ' : L2.St} {H' : Hp} {s' : Shared}, Inv Y [] σ' H' s' → Inv X pins σ H' s' := fun {σ' H' s'} I' => by
    subst hY
    exact M.inv.call' (ch := fp) I'.os I'.base I'.hok I'.bare fun b hb => ⟨(M.fp b hb).1.2.2.2.1, (M.fp b hb).1.2.1, (M.fp b hb).1.2.2.2.2.1, (M.fp b hb).1.2.2.2.2.2⟩
  have seg := seg_loopG (prog := X.prog) (w := X.w) (A := X.A.in1.in1) (elt := elt) (tg := tg) (iter := iter) (scope := scope) (pos := gpos) (it := it) (cenv := gEnv X scope C code) S.co
    (fun m s => ∃ i H', Inv Y [] (wipe σ (own.map (·.2))) H' s ∧ tn i s.heap ∧ (∀ b ∈ fp, H' b = none) ∧ W i m H')
    (fun s => ∃ H', Inv Y [] (wipe σ (own.map (·.2))) H' s ∧ Q (.bl true) H')
    (fun m v s => ∃ i H' b, v = .bool b ∧ Inv Y [] (wipe σ (own.map (·.2))) H' s ∧ tn i s.heap ∧ (∀ b ∈ fp, H' b = none) ∧ if b = true then ∃ m', m' < m ∧ W i m' H' else Q (.bl false) H') ?_
  · have hl5 : s5.heap.NoLimit := I5.nolimit
    refine call_function_tree F.kind_all F.plain_all F.entry_all (F.args_all1 _) ?_
    unfold Builtin.«all»
    refine wpAny_bind (m := oneArg "all" _) (wpAny_pure ?_)
    refine wpAny_bind (wpAny_pyIter_gen (obj I5) ?_)
    refine wpAny_pure ⟨plainId_quiet F.plain_all_loop _, ?_⟩
    refine allG_loop (g := gi) (n := m0 + 1) (St := fun m s => ∃ i H', Inv Y [] (wipe σ (own.map (·.2))) H' s ∧ tn i s.heap ∧ (∀ b ∈ fp, H' b = none) ∧ W i m H')
      (En := fun s => ∃ H', Inv Y [] (wipe σ (own.map (·.2))) H' s ∧ Q (.bl true) H')
      (Yl := fun m v s => ∃ i H' b, v = .bool b ∧ Inv Y [] (wipe σ (own.map (·.2))) H' s ∧ tn i s.heap ∧ (∀ b ∈ fp, H' b = none) ∧ if b = true then ∃ m', m' < m ∧ W i m' H' else Q (.bl false) H')
      hX (by have := hr.dp; show X.A.depth < _; omega) ?_ ?_ s5 hl5 (obj I5) ⟨_, M.gs, rfl, ?_⟩
    · rintro s₁ h' ⟨H', I', qq⟩ hk
      have I6 := inv_setGen (g := gi) (x := .finished) I' rfl
      have I7 := (back I6).kept (t' := s₁.toks) hk
      exact ⟨.bl true, H', I7, rfl, qq⟩
    · rintro m v s₁ gs' hb ⟨i, H', b, rfl, I', st', n', q'⟩
      have I6 := inv_setGen (g := gi) I' hb
      cases b with
      | false => exact .inl ⟨rfl, .bl false, H', back I6, rfl, q'⟩
      | true =>
        obtain ⟨m', hm', w'⟩ : ∃ m', m' < m ∧ W i m' H' := q'
        exact .inr ⟨rfl, I6.nolimit, obj I6, m', hm', i, H', inv_setGen I6 rfl, st', n', w'⟩
    · -- the start
      have I6 : Inv Y [] (wipe σ (own.map (·.2))) H2 (s5.setGen gi .running) := inv_setGen I5 rfl
      have st5 : tn 0 (s5.setGen gi .running).heap := T.keep _ _ _ M.st fun b _ o e => M.kp b o e
      have loop := seg (m0 + 1) m0 (s5.setGen gi .running) (s5.setGen gi .running) (Nat.lt_succ_self _) ⟨0, H2, I6, st5, fun b hb => (M.fp b hb).1.1, w0⟩
      show Seg _ X.A.in1.in1 _ _ _ _ _ ((compStart (.GeneratorExp elt [⟨tg, iter, [], 0⟩] scope gpos) 0 (.ref it) .none (gEnv X scope C code)).onRaise (leaving (gEnv X scope C code))) [] _
      unfold compStart
      rw [Sem.onRaise_eq_wrap]
      show Seg _ X.A.in1.in1 _ _ _ _ _ ((ask >>= _).wrap _ _ _ _) [] _
      refine seg_bind_wrap (wpAny_askSetting ?_)
      split
      · exact seg_again rfl loop
      · refine seg_bind_wrap (wpAny_rule ?_)
        show Seg _ X.A.in1.in1 _ _ _ _ _ ((standAt iter.pos >>= _).wrap _ _ _ _) [] _
        exact seg_bind_wrap (wpAny_standAt (seg_bind_wrap (T.self _ 0 _ _ _ st5 (seg_again rfl loop))))
  · rintro m s6 ⟨i, H', I', st', n', w'⟩
    rcases turn i m H' w' with ⟨stop, qq⟩ | ⟨go, Nx, hNx, step⟩
    · have td := T.done Y (by subst hY; rfl) (by subst hY; rfl) (by subst hY; rfl) (by subst hY; rfl) i [] s6 _ H' (fun _ _ => False) I' (stat I' n') st' stop
      subst hY
      refine wpAny_mono td (fun r s7 ⟨hr7, I7⟩ => ?_) fun _ _ e => e
      subst hr7
      exact ⟨H', I7, qq⟩
    · have ti := T.item Y (by subst hY; rfl) (by subst hY; rfl) (by subst hY; rfl) (by subst hY; rfl) i [] s6 _ H' (fun _ _ => False) I' (stat I' n') st' go
      subst hY
      refine wpAny_mono ti (fun r s7 ⟨u, hr7, h7⟩ => ?_) fun _ _ e => e
      subst hr7
      refine wpAny_mono h7 (fun _ s8 ⟨xv, H8, I8, r8, y8, st8, n8⟩ => ?_) fun _ _ e => e
      have I8' := I8.pinned (stat I8 n8) (T.obj _ _ st8)
      refine wpAny_mono (pg.run _ s8 _ H8 xv u _ I8' r8 (step xv H8 y8)) (fun _ s9 ⟨σ9, H9, I9, hw9, q9⟩ => ?_) fun _ _ e => e
      refine wpAny_mono (pe.run _ s9 σ9 H9 _ I9 q9) (fun v s10 ⟨yv, H10, I10, r10, b, eb, q10⟩ => ?_) fun _ _ e => e
      subst eb
      cases r10
      have pin' : ∀ b ∈ fp, ∀ o, s8.heap.get? b = some o → s10.heap.get? b = some o ∧ H10 b = none := fun b hb o e =>
        let z := I10.pin (b, o) (List.mem_append_right _ (List.mem_append_right _ (mem_pinsAt hb e)))
        ⟨z.1, z.2.1⟩
      have hl : (wipe σ (own.map (·.2))).length = σ9.length := by rw [← hw9, wipe_length]
      refine ⟨i + 1, H10, b, rfl, (I10.unpinned (pins := [])).weak hl (fun j v e => ?_), T.keep _ _ _ st8 fun b hb o e => (pin' b hb o e).1, fun b hb => ?_, ?_⟩
      · rw [← hw9] at e
        exact (wipe_some e).1
      · obtain ⟨o, e, _⟩ := T.obj _ _ st8 b hb
        exact (pin' b hb o e).2
      · cases b with
        | true => exact hNx H10 q10
        | false => exact q10
end
end My

set_option Elab.async false
set_option linter.all false
set_option maxRecDepth 100000
namespace My
open PySem PySem.Spec PyProof.Rows L2 GxR

/-! ### a def whose code object is known -/
section
variable {P : Program} {w : World} {K : PySem.W.Frag} {mg : Str → Option Value} {base : Heap}
theorem okC {x qual : Str} {st : Stmt} {f c : Addr} {fd : FuncData} {N ps : List Str} {k : Nat} {sp : Sp} (F : Fun K x qual st f fd) (hc : fd.code = .ref c) (S : FnScope N ps (defScope st))
    (len : ∀ vs H Q E, sp vs H Q E → vs.length = ps.length)
    (hbody : ∀ (A : Around) (outer : List Env) (s : Shared) (H : Hp) (vs : List V) (Q : VK) (E : XK), Room k (A.deeper (envOfC qual (defScope st) s.heap.objs.size f (.ref c))) → sp vs H Q E →
      ∃ t, PSs (cxOf CX0 P w K mg base N qual (defScope st) f (.ref c) A outer s H E).nox (defBody st) t ∧ t { nx := fun _ H' => Q .non H', rt := Q } (start N vs) H) : FnOk P w K mg base CX0 (k + 1) f fd ps sp := by
  obtain ⟨oc, od, kV, doc, pm, an, cdv, ct, osl, rfl, lk, hcd⟩ := F.ex
  have e : cdv = .ref c := hc
  subst e
  refine fn_of lk hcd S len fun A outer s H vs Q E hr hsp => ?_
  obtain ⟨t, h, q⟩ := hbody A outer s H vs Q E hr hsp
  exact ⟨t, h.nox, q⟩
theorem fun_of {x qual : Str} {st : Stmt} {f : Addr} {fd : FuncData} {kws : List (Str × V)} (F : FunD K x qual (defArgs st) (defBody st) (defScope st) [] kws f fd) : Fun K x qual st f fd := by
  obtain ⟨oc, od, dV, kV, doc, pm, an, cdv, ct, osl, rfl, lk, hcd, hD, _⟩ := F.ex
  rcases hD with ⟨_, rfl⟩ | ⟨e, _⟩
  · exact ⟨⟨oc, od, kV, doc, pm, an, cdv, ct, osl, rfl, lk, hcd⟩, F.kp⟩
  · exact absurd rfl e
end

/-! ### a < b < c < d -/
section
variable {X : Cx} {a b c d : Expr} {ta tb tc td : TE} {pos : Pos}
def tChain3 (r1 r2 r3 : R2) (ta tb tc td : TE) : TE := fun σ H Q => ta σ H fun x H1 => tb σ H1 fun y H2 => r1 x y H2 fun z H3 => ∃ k, z = .bl k ∧
  (if k = true then tc σ H3 fun v H4 => r2 y v H4 fun z H5 => ∃ k, z = .bl k ∧ (if k = true then td σ H5 fun u H6 => r3 v u H6 Q else Q (.bl false) H5) else Q (.bl false) H3)
theorem pe_chain3 {o1 o2 o3 : CmpOp} {r1 r2 r3 : R2} (h1 : OpR X (compareOp o1) r1) (h2 : OpR X (compareOp o2) r2) (h3 : OpR X (compareOp o3) r3) (ha : PE X a ta) (hb : PE X b tb) (hc : PE X c tc) (hd : PE X d td)
    (hm : lastMarks [o1, o2, o3] [b, c, d] = false := by with_unfolding_all rfl) : PE X (.Compare a [o1, o2, o3] [b, c, d] pos) (tChain3 r1 r2 r3 ta tb tc td) := by
  refine ⟨fun pins s σ H Q I h => ?_⟩
  refine Compare_chain (thn (ha.run pins s σ H _ I h) fun v s1 ⟨x, H1, I1, q1, p1⟩ => chain_link (thn (hb.run pins s1 σ H1 _ I1 p1) fun u s2 ⟨y, H2, I2, q2, p2⟩ =>
    thn (h1 pins s2 σ H2 x y v u _ I2 q1 q2 p2) fun e s3 ⟨z, H3, I3, q3, k, ek, p3⟩ => ?_)) hm
  subst ek
  cases q3
  refine wpAny_truthy_bool ?_
  cases k with
  | false => exact ite_ff ⟨.bl false, H3, I3, rfl, p3⟩
  | true =>
    refine ite_tt (chain_link (thn (hc.run pins s3 σ H3 _ I3 p3) fun u4 s4 ⟨y4, H4, I4, q4, p4⟩ => thn (h2 pins s4 σ H4 y y4 u u4 _ I4 q2 q4 p4) fun e5 s5 ⟨z5, H5, I5, q5, k5, ek5, p5⟩ => ?_))
    subst ek5
    cases q5
    refine wpAny_truthy_bool ?_
    cases k5 with
    | false => exact ite_ff ⟨.bl false, H5, I5, rfl, p5⟩
    | true => exact ite_tt (chain_last (thn (hd.run pins s5 σ H5 _ I5 p5) fun u6 s6 ⟨y6, H6, I6, q6, p6⟩ => h3 pins s6 σ H6 y4 y6 u4 u6 Q I6 q4 q6 p6))
end

/-! ### all over what is walked -/
theorem allG_it {J : It} {n : Nat} {G : Hp → Prop} {Y : Nat → Hp → V → Hp → Prop} (w : Walk J n G Y) {g : TG} {te : TE} {vs : List Nat} {σ : L2.St} {H0 : Hp} {QT QF : Hp → Prop} (Pv : Nat → Hp → Prop) (h0 : Pv 0 H0) (hG : ∀ i H, i ≤ n → Pv i H → G H)
    (hs : ∀ i x H H', i < n → Pv i H → Y i H x H' → g x (wipe σ vs) H' fun σ2 H2 => wipe σ2 vs = wipe σ vs ∧ te σ2 H2 fun y H3 => ∃ b, y = .bl b ∧ if b = true then Pv (i + 1) H3 else QF H3)
    (hd : ∀ H, Pv n H → QT H) :
    ∃ W : Nat → Nat → Hp → Prop, (∃ m, W 0 m H0) ∧ ∀ i m H, W i m H → (J.stop i H ∧ QT H) ∨
      (J.go i H ∧ ∃ Nx : Hp → Prop, (∀ H', Nx H' → ∃ m', m' < m ∧ W (i + 1) m' H') ∧ ∀ x H', J.yld i H x H' → g x (wipe σ vs) H' fun σ2 H2 => wipe σ2 vs = wipe σ vs ∧
        te σ2 H2 fun y H3 => ∃ b, y = .bl b ∧ if b = true then Nx H3 else QF H3) := by
  refine ⟨fun i m H => m = n - i ∧ i ≤ n ∧ Pv i H, ⟨n, rfl, Nat.zero_le _, h0⟩, ?_⟩
  rintro i m H ⟨rfl, hi, p⟩
  have q := hG i H hi p
  by_cases hlt : i < n
  · exact .inr ⟨w.goes i H hlt q, Pv (i + 1), fun H' p' => ⟨n - (i + 1), by omega, rfl, hlt, p'⟩, fun x H' y => hs i x H H' hlt p (w.yields i H x H' hlt q y)⟩
  · have e : i = n := by omega
    subst e
    exact .inl ⟨w.stops H q, hd H p⟩
theorem walk_zipT {K : PySem.W.Frag} {a b : Addr} {xs ys : List V} {n : Nat} (hn : n = min xs.length ys.length) :
    Walk (RZ.ItzT K a b) n (fun H => SqT K H a xs ∧ SqT K H b ys) (YPair (fun i => xs[i]?) (fun i => ys[i]?)) := by
  subst hn
  refine ⟨fun i _ hi q => ?_, fun _ q => ⟨xs, ys, q.1, q.2, by omega⟩, fun i H v H' _ q y => ?_⟩
  · have h1 : i < xs.length := by omega
    have h2 : i < ys.length := by omega
    exact ⟨xs, ys, xs[i], ys[i], q.1, q.2, List.getElem?_eq_getElem h1, List.getElem?_eq_getElem h2⟩
  · obtain ⟨T, x, z, h1, h2, h3, h4, h5⟩ := y
    exact ⟨T, x, z, h1, h2, h3, h4 xs q.1, h5 ys q.2⟩
theorem cut1 (xs : List V) : cutV xs (some 1) none = xs.drop 1 := by
  unfold cutV
  rw [show HT.sIx xs.length 0 (some 1) = min 1 xs.length from HT.sIx_nat xs.length 0 1, HT.sIx_none]
  cases xs with
  | nil => rfl
  | cons x r =>
    rw [show min 1 (x :: r).length = 1 by rw [List.length_cons]; omega]
    show (List.take ((x :: r).length - 1) r) = r
    rw [List.length_cons, Nat.add_sub_cancel]
    exact List.take_length
theorem lex_of {s t : Int × Int} (h : ltT s t) : HT.lexLt [s.1, s.2] [t.1, t.2] = true := by
  rw [HT.lexLt_cons]
  rcases h with h | ⟨h, k⟩
  · rw [if_neg (by omega)]; exact decide_eq_true h
  · rw [if_pos h, HT.lexLt_cons, if_neg (by omega)]; exact decide_eq_true k
end My

set_option Elab.async false
set_option linter.all false
set_option maxRecDepth 100000
namespace My
open PySem PySem.Spec PyProof.Rows L2
def topS (i : Nat) : Stmt := PySem.Challenge.pw_pointedties_k92_whole_exchanges_beside_a.main.body.getD i (.Pass ⟨0, 0, 0, 0⟩)
section
variable {P : Program} {w : World} {K : PySem.W.Frag} {mg : Str → Option Value} {base : Heap}

/-! ### _law_mix -/
abbrev s__law_mix : Stmt := topS 9
abbrev N__law_mix : List Str := ["_law_cell", "_law_k", "_law_m"]
theorem sc__law_mix : FnScope N__law_mix ["_law_cell", "_law_k"] (defScope s__law_mix) := ⟨rfl, rfl, rfl, by decide +kernel, rfl, by decide +kernel, by decide +kernel⟩
def sp_mix : Sp := fun vs H Q _ => ∃ c k : Int, vs = [.int c, .int k] ∧ -(2 ^ 60) < k ∧ k < 2 ^ 60 ∧
  ∀ r : Int, 0 ≤ r → Q (.int r) H
theorem ok_mix {f : Addr} {fd : FuncData} (F : Fun K "_law_mix" "_law_mix" s__law_mix f fd) :
    FnOk P w K mg base CX0 1 f fd ["_law_cell", "_law_k"] sp_mix := by
  refine F.ok sc__law_mix (fun vs H Q E h => ?_) (fun cdv A outer s H vs Q E hr h => ?_)
  · obtain ⟨c, k, rfl, _⟩ := h; rfl
  · obtain ⟨c, k, rfl, h1, h2, q⟩ := h
    refine ⟨_, (pss_cons (ps_set (i := 2) sc__law_mix.nd rfl (by first | exact Or.inl rfl | exact Or.inr rfl) (pe_op op_mod (pe_op op_mul (pe_op op_add (pe_op op_add (pe_op op_mod (pv 0) pe_int) (pe_op op_mul (pe_op op_mul (pv 1) (pv 1)) pe_int)) pe_int) pe_int) pe_int))
    (pss_one (ps_ret (pe_op op_mod (pe_op op_mul (pv 2) (pv 2)) pe_int)))), ?_⟩
    refine ⟨_, rfl, _, _, rfl, rfl, (by decide : (0 : Int) < 2147483629), ?_⟩
    refine ⟨_, rfl, _, rfl, _, _, rfl, rfl, .inl ⟨by omega, by omega⟩, ?_⟩
    refine ⟨_, _, rfl, rfl, .inr ⟨by decide, by decide⟩, ?_⟩
    refine ⟨_, _, rfl, rfl, ?_⟩
    refine ⟨_, _, rfl, rfl, ?_⟩
    refine ⟨_, _, rfl, rfl, .inr ⟨by decide, by decide⟩, ?_⟩
    refine ⟨_, _, rfl, rfl, (by decide : (0 : Int) < 2147483647), ?_⟩
    have b1 : ∀ x : Int, 0 ≤ x % 2147483647 := fun x => Int.emod_nonneg _ (by decide)
    have b2 : ∀ x : Int, x % 2147483647 < 2147483647 := fun x => Int.emod_lt_of_pos _ (by decide)
    refine ⟨_, rfl, _, rfl, _, _, rfl, rfl, .inl ⟨by have := b1 (((c % 2147483629 + k * k * 7919) + 11) * 48271); omega, by have := b2 (((c % 2147483629 + k * k * 7919) + 11) * 48271); omega⟩, ?_⟩
    refine ⟨_, _, rfl, rfl, (by decide : (0 : Int) < 1999999973), ?_⟩
    exact q _ (Int.emod_nonneg _ (by decide))

/-! ### _law_left -/
abbrev s__law_left : Stmt := topS 10
abbrev N__law_left : List Str := ["_law_script", "_law_k", "_law_cell"]
theorem sc__law_left : FnScope N__law_left ["_law_script", "_law_k"] (defScope s__law_left) := ⟨rfl, rfl, rfl, by decide +kernel, rfl, by decide +kernel, by decide +kernel⟩
def sp_left (K : PySem.W.Frag) : Sp := fun vs H Q _ => ∃ (a : Addr) (ns : List Int) (k : Int), vs = [.ref a, .int k] ∧ SqL K H a (ns.map V.int) ∧ 0 ≤ k ∧ k < 2 ^ 60 ∧
  ∀ L H', H L = none → Same H H' → Lf H' L 0 → Q (.ref L) H'
theorem ok_left {f : Addr} {fd : FuncData} (B : Bts mg) (F : Fun K "_law_left" "_law_left" s__law_left f fd) :
    FnOk P w K mg base CX0 1 f fd ["_law_script", "_law_k"] (sp_left K) := by
  refine F.ok sc__law_left (fun vs H Q E h => ?_) (fun cdv A outer s H vs Q E hr h => ?_)
  · obtain ⟨c, k, _, rfl, _⟩ := h; rfl
  · obtain ⟨a, ns, k, rfl, hS, h1, h2, q⟩ := h
    refine ⟨_, (pss_cons (ps_set (i := 2) sc__law_left.nd rfl (by first | exact Or.inl rfl | exact Or.inr rfl) (pe_ifExp (pt_cmpR op_lt (pv 1) (pe_callB call_len_seq (by rfl) B.len (by decide +kernel) (pa_cons (pv 0) pa_nil)) (nomark _)) (pe_ix ix_list (pv 0) (pv 1) (fun _ _ => rfl)) pe_int))
    (pss_one (ps_ret (pe_lst (pa_cons (pe_op op_mul (pe_callB call_abs (by rfl) B.abs (by decide +kernel) (pa_cons (pv 2) pa_nil)) (pe_callTy call_int1 (by rfl) B.int (by decide +kernel) (pa_cons (pe_cmpR op_ge (pe_callB call_abs (by rfl) B.abs (by decide +kernel) (pa_cons (pv 2) pa_nil)) (pe_op op_pow pe_int pe_int) (nomark _)) pa_nil))) (pa_cons (pe_op op_add (pv 2) (pe_op op_mul pe_int (pv 1))) (pa_cons pe_int pa_nil))))))), ?_⟩
    have rest : ∀ x : Int, (tRet (tLst (tCons (tOp (rI CMul fun i j => .int (i * j)) (tCB (fun xs H Q => ∃ i, xs = [.int i] ∧ Q (.int (if i < 0 then -i else i)) H) (tCons (tVar 2) tNil)) (tCB (fun xs H Q => (∃ i, xs = [.int i] ∧ Q (.int i) H) ∨ ∃ k, xs = [.bl k] ∧ Q (.int (if k then 1 else 0)) H) (tCons (tOp (rI0 fun i j => .bl (decide (j ≤ i))) (tCB (fun xs H Q => ∃ i, xs = [.int i] ∧ Q (.int (if i < 0 then -i else i)) H) (tCons (tVar 2) tNil)) (tOp (rI CPow fun i j => .int (i ^ j.toNat)) (tC (.int 10)) (tC (.int 18)))) tNil))) (tCons (tOp (rI0 fun i j => .int (i + j)) (tVar 2) (tOp (rI CMul fun i j => .int (i * j)) (tC (.int 1000003)) (tVar 1))) (tCons (tC (.int 0)) tNil))))) { nx := fun _ H' => Q .non H', rt := Q } ((start N__law_left [.ref a, .int k]).set 2 (some (.int x))) H := by
      intro x
      refine ⟨_, rfl, _, rfl, ?_⟩
      refine ⟨_, rfl, _, rfl, ?_⟩
      refine ⟨_, _, rfl, rfl, ⟨by decide, by decide, by decide⟩, ?_⟩
      refine ⟨_, _, rfl, rfl, .inr ⟨_, rfl, ?_⟩⟩
      refine ⟨_, _, rfl, rfl, .inr ⟨?_, ?_⟩, ?_⟩
      · exact (bi _).1
      · exact (bi _).2.1
      refine ⟨_, rfl, _, rfl, _, _, rfl, rfl, .inl ⟨by decide, by decide⟩, ?_⟩
      refine ⟨_, _, rfl, rfl, ?_⟩
      refine ⟨by show 3 ≤ sizeLine; decide, fun p np => ?_⟩
      refine q p _ np (same_new np) ⟨_, _, _, upd_same, ?_, Int.le_refl _, Int.le_refl _⟩
      refine Int.mul_nonneg ?_ ?_
      · split <;> omega
      · exact (bi _).2.2
    refine ⟨_, rfl, _, rfl, a, _, rfl, .inl hS, _, _, rfl, rfl, _, rfl, ite2 (fun e => ?_) (fun e => ?_)⟩
    · have e := of_decide_eq_true e
      rw [List.length_map] at e
      have hk : k.toNat < ns.length := by omega
      have g : (ns.map V.int)[k.toNat]? = some (.int ns[k.toNat]) := by
        rw [List.getElem?_map, List.getElem?_eq_getElem hk]; rfl
      have g2 := atI_nat g
      rw [Int.toNat_of_nonneg h1] at g2
      refine ⟨_, rfl, _, rfl, a, _, k, _, rfl, rfl, hS, g2, ?_⟩
      exact rest _
    · exact rest 0

/-! ### _law_pick -/
abbrev s__law_pick : Stmt := topS 11
abbrev N__law_pick : List Str := ["_law_left_here", "_law_many", "_law_digit"]
theorem sc__law_pick : FnScope N__law_pick ["_law_left_here", "_law_many"] (defScope s__law_pick) := ⟨rfl, rfl, rfl, by decide +kernel, rfl, by decide +kernel, by decide +kernel⟩
def sp_pick : Sp := fun vs H Q _ => ∃ (L : Addr) (m c : Int), vs = [.ref L, .int m] ∧ Lf H L c ∧ 0 < m ∧ m < 1000000 ∧ c < 2 ^ 50 ∧
  ∀ (r : Int) (H' : Hp), 0 ≤ r → r < m → Fr L H H' → Lf H' L (c + 1) → Q (.int r) H'
theorem ok_pick {f : Addr} {fd : FuncData} (F : Fun K "_law_pick" "_law_pick" s__law_pick f fd) (c__law_mix : Cl P w K mg base 1 "_law_mix" sp_mix) :
    FnOk P w K mg base CX0 2 f fd ["_law_left_here", "_law_many"] sp_pick := by
  refine F.ok sc__law_pick (fun vs H Q E h => ?_) (fun cdv A outer s H vs Q E hr h => ?_)
  · obtain ⟨c, k, _, rfl, _⟩ := h; rfl
  · obtain ⟨L, m, c, rfl, ⟨x, y, z, hL, hx, hz, hzc⟩, h1, h2, h3, q⟩ := h
    refine ⟨_, (pss_cons (ps_asg (pe_op op_add (pe_ix ix_list (pv 0) pe_int (fun _ _ => rfl)) pe_int) (pg_sub (pv 0) pe_int set_list))
    (pss_cons (ps_if (pt_cmpR op_gt (pe_ix ix_list (pv 0) pe_int (fun _ _ => rfl)) pe_int (nomark _)) (pss_cons (ps_set (i := 2) sc__law_pick.nd rfl (by first | exact Or.inl rfl | exact Or.inr rfl) (pe_op op_mod (pe_ix ix_list (pv 0) pe_int (fun _ _ => rfl)) (pv 1)))
      (pss_cons (ps_asg (pe_op op_fdiv (pe_ix ix_list (pv 0) pe_int (fun _ _ => rfl)) (pv 1)) (pg_sub (pv 0) pe_int set_list))
      (pss_one (ps_ret (pv 2))))) pss_nil)
    (pss_one (ps_ret (pe_op op_mod (pe_op op_fdiv (pe_c c__law_mix hr (by decide) (by rfl) (pa_cons (pe_c c__law_mix hr (by decide) (by rfl) (pa_cons (pe_ix ix_list (pv 0) pe_int (fun _ _ => rfl)) (pa_cons (pe_ix ix_list (pv 0) pe_int (fun _ _ => rfl)) pa_nil))) (pa_cons (pe_op op_add (pe_ix ix_list (pv 0) pe_int (fun _ _ => rfl)) pe_int) pa_nil))) pe_int) (pv 1)))))), ?_⟩
    refine ⟨_, rfl, L, _, _, _, rfl, rfl, SqL.of hL, rfl, _, _, rfl, rfl, ?_⟩
    refine ⟨_, rfl, L, _, _, _, rfl, rfl, hL, rfl, ?_⟩
    refine ⟨_, rfl, L, _, _, _, rfl, rfl, SqL.of upd_same, rfl, _, _, rfl, rfl, _, rfl, ite2 (fun e => ?_) (fun e => ?_)⟩
    · refine ⟨_, rfl, L, _, _, _, rfl, rfl, SqL.of upd_same, rfl, _, rfl, _, _, rfl, rfl, h1, ?_⟩
      refine ⟨_, rfl, L, _, _, _, rfl, rfl, SqL.of upd_same, rfl, _, rfl, _, _, rfl, rfl, ⟨h1, by omega⟩, ?_⟩
      refine ⟨_, rfl, L, _, _, _, rfl, rfl, upd_same, rfl, ?_⟩
      refine ⟨_, rfl, ?_⟩
      refine q _ _ (Int.emod_nonneg _ (by omega)) (Int.emod_lt_of_pos _ h1) ((Fr.refl L H).putL.putL) ⟨_, _, _, upd_same, ?_, ?_, ?_⟩
      · exact Int.ediv_nonneg hx (Int.le_of_lt h1)
      · omega
      · omega
    · refine ⟨_, rfl, L, _, _, _, rfl, rfl, SqL.of upd_same, rfl, ?_⟩
      refine ⟨_, rfl, L, _, _, _, rfl, rfl, SqL.of upd_same, rfl, ?_⟩
      refine ⟨_, _, rfl, by omega, by omega, fun r hr0 => ?_⟩
      refine ⟨_, rfl, L, _, _, _, rfl, rfl, SqL.of upd_same, rfl, _, _, rfl, rfl, ?_⟩
      refine ⟨_, _, rfl, by omega, by omega, fun r2 hr2 => ?_⟩
      refine ⟨_, _, rfl, rfl, ⟨by decide, by decide⟩, ?_⟩
      refine ⟨_, rfl, _, _, rfl, rfl, h1, ?_⟩
      exact q _ _ (Int.emod_nonneg _ (by omega)) (Int.emod_lt_of_pos _ h1) (Fr.refl L H).putL ⟨_, _, _, upd_same, hx, by omega, by omega⟩
end
end My

set_option Elab.async false
set_option linter.all false
set_option maxRecDepth 100000
namespace My
open PySem PySem.Spec PyProof.Rows L2
section
variable {P : Program} {w : World} {K : PySem.W.Frag} {mg : Str → Option Value} {base : Heap}

/-! ### _law_row -/
abbrev s__law_row : Stmt := topS 13
abbrev N__law_row : List Str := ["_law_left_here", "_law_many", "_law_row_here", "_law_k"]
theorem sc__law_row : FnScope N__law_row ["_law_left_here", "_law_many"] (defScope s__law_row) := ⟨rfl, rfl, rfl, by decide +kernel, rfl, by decide +kernel, by decide +kernel⟩
def sp_row : Sp := fun vs H Q _ => ∃ (L : Addr) (n : Nat) (c : Int), vs = [.ref L, .int (n : Int)] ∧ Lf H L c ∧ n ≤ 100 ∧ c < 2 ^ 49 ∧
  ∀ (p : Addr) (ns : List Int) (H' : Hp), H p = none → Fr L H H' → Lf H' L (c + n) → H' p = some (.lst (ns.map V.int)) → ns.Perm (up n) → Q (.ref p) H'
theorem ok_row {f : Addr} {fd : FuncData} (B : Bts mg) (F : Fun K "_law_row" "_law_row" s__law_row f fd) (c__law_pick : Cl P w K mg base 2 "_law_pick" sp_pick) :
    FnOk P w K mg base CX0 3 f fd ["_law_left_here", "_law_many"] sp_row := by
  refine F.ok sc__law_row (fun vs H Q E h => ?_) (fun cdv A outer s H vs Q E hr h => ?_)
  · obtain ⟨L, n, c, rfl, _⟩ := h; rfl
  · obtain ⟨L, n, c, rfl, hL, hn, hc, q⟩ := h
    refine ⟨_, (pss_cons (ps_set (i := 2) sc__law_row.nd rfl (by first | exact Or.inl rfl | exact Or.inr rfl) (pe_lst pa_nil))
    (pss_cons (ps_for PassesOwn.never rfl (pi_range1 (by rfl) B.range (pa_cons (pv 1) pa_nil)) (pg_name (i := 3) sc__law_row.nd rfl (by first | exact Or.inl rfl | exact Or.inr rfl))
      (pss_one (ps_expr (pe_bm PySem.F.plainAttrs_list PySem.F.slot_list_insert PySem.F.type_list_insert mt_insert (pv 2) (pa_cons (pe_c c__law_pick hr (by decide) (by rfl) (pa_cons (pv 0) (pa_cons (pe_op op_add (pv 3) pe_int) pa_nil))) (pa_cons (pv 3) pa_nil))))))
    (pss_one (ps_ret (pv 2))))), ?_⟩
    refine ⟨Nat.zero_le _, fun o no => ?_⟩
    refine ⟨_, rfl, _, rfl, by omega, by omega, ?_⟩
    refine for_range (fun i σ H1 => ∃ (ns : List Int) (y3 : Option V), σ = [some (.ref L), some (.int (n : Int)), some (.ref o), y3] ∧ Fr L H H1 ∧ Lf H1 L (c + i) ∧ H1 o = some (.lst (ns.map V.int)) ∧ ns.Perm (up i)) ⟨[], none, rfl, Fr.new no, (hL.new no).mono (by omega), upd_same, .refl _⟩ ?_ ?_
    · rintro i σ H1 hi ⟨ns, y3, rfl, fr, lf, eo, hp⟩
      have hi : i < n := by omega
      have no' : o ≠ L := hL.ne no
      refine ⟨_, rfl, .inl ⟨rfl, _, SqL.of eo⟩, ?_⟩
      refine ⟨_, rfl, _, rfl, _, _, rfl, rfl, ?_⟩
      refine ⟨L, _, c + i, rfl, lf, by omega, by omega, by omega, fun r H2 r0 r1 fr2 lf2 => ?_⟩
      refine ⟨_, rfl, ?_⟩
      have eo2 := fr2 _ _ no' eo
      refine ⟨o, _, _, _, rfl, rfl, eo2, sz' ?_, r0, by omega, ?_⟩
      · rw [List.length_map, hp.length_eq, up_len]; omega
      · refine ⟨ns.take r.toNat ++ [(i : Int)] ++ ns.drop r.toNat, _, rfl, ?_, ?_, ?_, ?_⟩
        · exact (fr.trans fr2).put no
        · exact (lf2.mono (by omega)).put no'
        · rw [upd_same, List.map_append, List.map_append, List.map_take, List.map_drop, Int.zero_add]; rfl
        · rw [up_succ]
          exact (ins_perm _ _ _).trans (hp.append_right _)
    · rintro σ H1 ⟨ns, y3, rfl, fr, lf, eo, hp⟩
      rw [Int.toNat_natCast] at lf hp
      exact ⟨_, rfl, q o ns H1 no fr lf eo hp⟩
end
end My

set_option Elab.async false
set_option linter.all false
set_option maxRecDepth 100000
namespace My
open PySem PySem.Spec PyProof.Rows L2 GxR

/-! ### things alike -/
def Atom (x : V) : Prop := x = .non ∨ (∃ b, x = .bl b) ∨ (∃ i, x = .int i) ∨ ∃ z, x = .str z
def Eqd : Nat → Hp → V → V → Prop
  | 0, _, x, y => x = y ∧ Atom x
  | m + 1, H, x, y => (x = y ∧ Atom x) ∨ ∃ a b xs ys, x = .ref a ∧ y = .ref b ∧ ((H a = some (.tup xs) ∧ H b = some (.tup ys)) ∨ (H a = some (.lst xs) ∧ H b = some (.lst ys))) ∧
      xs.length = ys.length ∧ xs.length ≤ 10000 ∧ ∀ (i : Nat) (v u : V), xs[i]? = some v → ys[i]? = some u → Eqd m H v u
theorem Eqd.mono : ∀ {m : Nat} {H H' : Hp} {x y : V}, Same H H' → Eqd m H x y → Eqd m H' x y
  | 0, _, _, _, _, _, h => h
  | m + 1, H, H', _, _, s, .inl h => .inl h
  | m + 1, H, H', _, _, s, .inr ⟨a, b, xs, ys, e1, e2, h, l, l2, k⟩ => .inr ⟨a, b, xs, ys, e1, e2, h.imp (fun z => ⟨s _ _ z.1, s _ _ z.2⟩) (fun z => ⟨s _ _ z.1, s _ _ z.2⟩), l, l2, fun i v u e f => Eqd.mono s (k i v u e f)⟩
theorem Eqd.int {m : Nat} {H : Hp} {i : Int} : Eqd m H (.int i) (.int i) := by
  cases m with
  | zero => exact ⟨rfl, .inr (.inr (.inl ⟨i, rfl⟩))⟩
  | succ m => exact .inl ⟨rfl, .inr (.inr (.inl ⟨i, rfl⟩))⟩
theorem Eqd.up : ∀ {m : Nat} {H : Hp} {x y : V}, Eqd m H x y → Eqd (m + 1) H x y
  | 0, _, _, _, h => .inl h
  | m + 1, _, _, _, .inl h => .inl h
  | m + 1, _, _, _, .inr ⟨a, b, xs, ys, e1, e2, h, l, l2, k⟩ => .inr ⟨a, b, xs, ys, e1, e2, h, l, l2, fun i v u e f => (k i v u e f).up⟩
theorem tie_eqd {H : Hp} {v u : V} {t : Int × Int} (h : Tie H v t) (k : Tie H u t) : Eqd 1 H v u := by
  obtain ⟨p, rfl, h⟩ := h
  obtain ⟨q, rfl, k⟩ := k
  refine .inr ⟨p, q, _, _, rfl, rfl, .inl ⟨h, k⟩, rfl, by show 2 ≤ 10000; decide, fun i v u e f => ?_⟩
  match i, e, f with
  | 0, e, f => cases e; cases f; exact Eqd.int
  | 1, e, f => cases e; cases f; exact Eqd.int
theorem tup_eqd {H : Hp} {p q : Addr} {vs us : List V} {ts : List (Int × Int)} (hp : H p = some (.tup vs)) (hq : H q = some (.tup us)) (h : Ties H vs ts) (k : Ties H us ts) (l : ts.length ≤ 10000) : Eqd 2 H (.ref p) (.ref q) := by
  refine .inr ⟨p, q, vs, us, rfl, rfl, .inl ⟨hp, hq⟩, by rw [h.len, k.len], by rw [h.len]; exact l, fun i v u e f => ?_⟩
  obtain ⟨t1, e1, h1⟩ := h.at e
  obtain ⟨t2, e2, h2⟩ := k.at f
  rw [e1] at e2; cases e2
  exact tie_eqd h1 h2
theorem web_eqd {H : Hp} {v u : V} {n : Nat} {ts : List (Int × Int)} (h : Web H v n ts) (k : Web H u n ts) (l : ts.length ≤ 10000) : Eqd 3 H v u := by
  obtain ⟨p, q, vs, rfl, h1, h2, h3⟩ := h
  obtain ⟨p', q', us, rfl, k1, k2, k3⟩ := k
  refine .inr ⟨p, p', _, _, rfl, rfl, .inl ⟨h1, k1⟩, rfl, by show 2 ≤ 10000; decide, fun i v u e f => ?_⟩
  match i, e, f with
  | 0, e, f => cases e; cases f; exact Eqd.int
  | 1, e, f => cases e; cases f; exact tup_eqd h2 k2 h3 k3 l

section
variable {P : Program} {w : World} {K : PySem.W.Frag} {mg : Str → Option Value} {base : Heap}
/-! ### _law_same -/
abbrev s__law_same : Stmt := topS 12
abbrev N__law_same : List Str := ["_law_found", "_law_due", "_law_one", "_law_other"]
theorem sc__law_same : FnScope N__law_same ["_law_found", "_law_due"] (defScope s__law_same) := ⟨rfl, rfl, rfl, by decide +kernel, rfl, by decide +kernel, by decide +kernel⟩
def sp_same : Nat → Sp
  | 0 => fun _ _ _ _ => False
  | m + 1 => fun vs H Q _ => ∃ x y, vs = [x, y] ∧ Eqd m H x y ∧ ∀ H', Same H H' → Q (.bl true) H'
theorem kany {t : Value} {a b : Bool} (h1 : PySem.W.kitOne K t (.type "list") = some a) (h2 : PySem.W.kitOne K t (.type "tuple") = some b) : PySem.W.kitAny K t [.type "list", .type "tuple"] = some (a || b) := by
  refine kitAny_cons h1 (fun z => ?_) (fun z => by rw [z]; rfl)
  subst z
  exact kitAny_cons h2 (fun z => by rw [z]; rfl) (fun z => by rw [z]; rfl)
theorem all_rep (n : Nat) : (List.replicate n true).all id = true := by
  rw [List.all_eq_true]
  intro x hx
  rw [(List.mem_replicate.mp hx).2]; rfl
theorem ok_same1 {f : Addr} {fd : FuncData} {m : Nat} (B : Bts mg) (F : Fun K "_law_same" "_law_same" s__law_same f fd) (c__law_same : Cl P w K mg base m "_law_same" (sp_same m)) :
    FnOk P w K mg base CX0 (m + 1) f fd ["_law_found", "_law_due"] (sp_same (m + 1)) := by
  refine F.ok sc__law_same (fun vs H Q E h => ?_) (fun cdv A outer s H vs Q E hr h => ?_)
  · obtain ⟨x, y, rfl, _⟩ := h; rfl
  · obtain ⟨x, y, rfl, hE, q⟩ := h
    refine ⟨_, (pss_cons (ps_if (pt_val (pe_callB call_isiT (by rfl) B.isinstance (by decide +kernel) (pa_cons (pv 1) (pa_cons (pe_tup (pa_cons (pe_bltn (v := .ty "list") (by rfl) B.list (by decide +kernel) rfl) (pa_cons (pe_bltn (v := .ty "tuple") (by rfl) B.tuple (by decide +kernel) rfl) pa_nil))) pa_nil)))) (pss_cons (ps_if (PW.pt (pw_or (pt_cmpR op_ne (pe_callB call_isi (by rfl) B.isinstance (by decide +kernel) (pa_cons (pv 0) (pa_cons (pe_bltn (v := .ty "list") (by rfl) B.list (by decide +kernel) rfl) pa_nil))) (pe_callB call_isi (by rfl) B.isinstance (by decide +kernel) (pa_cons (pv 1) (pa_cons (pe_bltn (v := .ty "list") (by rfl) B.list (by decide +kernel) rfl) pa_nil))) (nomark _)) (pw_or1 (pt_cmpR op_ne (pe_callB call_isi (by rfl) B.isinstance (by decide +kernel) (pa_cons (pv 0) (pa_cons (pe_bltn (v := .ty "tuple") (by rfl) B.tuple (by decide +kernel) rfl) pa_nil))) (pe_callB call_isi (by rfl) B.isinstance (by decide +kernel) (pa_cons (pv 1) (pa_cons (pe_bltn (v := .ty "tuple") (by rfl) B.tuple (by decide +kernel) rfl) pa_nil))) (nomark _))))) (pss_one (ps_ret pe_bl)) pss_nil)
      (pss_one (ps_ret (pe_and (pe_cmpR op_eq (pe_callB call_len_seq (by rfl) B.len (by decide +kernel) (pa_cons (pv 0) pa_nil)) (pe_callB call_len_seq (by rfl) B.len (by decide +kernel) (pa_cons (pv 1) pa_nil)) (nomark _)) (pe_one (pe_callB (cr_all rfl) (by rfl) B.all (by decide +kernel) (pa_cons (pe_lc (own := [("_law_one", 2), ("_law_other", 3)]) (g := (gTup K 2 (gCons (gName 2) (gCons (gName 3) gNil)))) (tt := tYes) rfl sc__law_same.nd (RZ.pi_zipA (by rfl) B.zip (pa_cons (pv 0) (pa_cons (pv 1) pa_nil))) (blkOk_by (own := [("_law_one", 2), ("_law_other", 3)]) (N := N__law_same) (sc := defScope s__law_same) (by decide +kernel)) (fun _ _ _ _ _ => (pg_tup rfl (pgs_cons (pg_name (i := 2) sc__law_same.nd rfl (by first | exact Or.inl rfl | exact Or.inr rfl)) (pgs_cons (pg_name (i := 3) sc__law_same.nd rfl (by first | exact Or.inl rfl | exact Or.inr rfl)) pgs_nil)))) (fun _ _ _ _ _ => pts_nil) (fun _ _ _ _ _ => (pe_c c__law_same hr (Nat.le_refl _) (by rfl) (pa_cons (pv 2) (pa_cons (pv 3) pa_nil))))) pa_nil))))))) pss_nil)
    (pss_cons (ps_if (PW.pt (pw_or (pt_cmpR op_isN (pv 1) pe_non (nomark _)) (pw_or1 (pt_val (pe_callB call_isi (by rfl) B.isinstance (by decide +kernel) (pa_cons (pv 1) (pa_cons (pe_bltn (v := .ty "str") (by rfl) B.str (by decide +kernel) rfl) pa_nil))))))) (pss_one (ps_ret (pe_and (pe_cmpR op_eq (pv 0) (pv 1) (nomark _)) (pe_one (pe_cmpR op_eq (pe_callB call_isi (by rfl) B.isinstance (by decide +kernel) (pa_cons (pv 0) (pa_cons (pe_bltn (v := .ty "str") (by rfl) B.str (by decide +kernel) rfl) pa_nil))) (pe_callB call_isi (by rfl) B.isinstance (by decide +kernel) (pa_cons (pv 1) (pa_cons (pe_bltn (v := .ty "str") (by rfl) B.str (by decide +kernel) rfl) pa_nil))) (nomark _)))))) pss_nil)
    (pss_cons (ps_if (pt_val (pe_callB call_isi (by rfl) B.isinstance (by decide +kernel) (pa_cons (pv 1) (pa_cons (pe_bltn (v := .ty "bool") (by rfl) B.bool (by decide +kernel) rfl) pa_nil)))) (pss_one (ps_ret (pe_and (pe_callB call_isi (by rfl) B.isinstance (by decide +kernel) (pa_cons (pv 0) (pa_cons (pe_bltn (v := .ty "bool") (by rfl) B.bool (by decide +kernel) rfl) pa_nil))) (pe_one (pe_cmpR op_eq (pv 0) (pv 1) (nomark _)))))) pss_nil)
    (pss_one (ps_ret (pe_and (pe_callB call_isi (by rfl) B.isinstance (by decide +kernel) (pa_cons (pv 0) (pa_cons (pe_bltn (v := .ty "int") (by rfl) B.int (by decide +kernel) rfl) pa_nil))) (pe_and (pe_not (pe_callB call_isi (by rfl) B.isinstance (by decide +kernel) (pa_cons (pv 0) (pa_cons (pe_bltn (v := .ty "bool") (by rfl) B.bool (by decide +kernel) rfl) pa_nil)))) (pe_one (pe_cmpR op_eq (pv 0) (pv 1) (nomark _)))))))))), ?_⟩
    have nw : ∀ {tp : Addr} {o : HO}, H tp = none → Same H (upd H tp o) := fun h => same_new h
    have hE' : (x = y ∧ Atom x) ∨ ∃ m', m = m' + 1 ∧ ∃ a b xs ys, x = .ref a ∧ y = .ref b ∧ ((H a = some (.tup xs) ∧ H b = some (.tup ys)) ∨ (H a = some (.lst xs) ∧ H b = some (.lst ys))) ∧
        xs.length = ys.length ∧ xs.length ≤ 10000 ∧ ∀ (i : Nat) (v u : V), xs[i]? = some v → ys[i]? = some u → Eqd m' H v u := by
      cases m with
      | zero => exact .inl hE
      | succ m =>
        rcases hE with h | h
        · exact .inl h
        · exact .inr ⟨m, rfl, h⟩
    rcases hE' with ⟨e, ha⟩ | ⟨m, rfl, a, b, xs, ys, rfl, rfl, hab, hl, hl2, hk⟩
    · subst e
      rcases ha with rfl | ⟨b, rfl⟩ | ⟨i, rfl⟩ | ⟨z, rfl⟩
      · refine ⟨_, rfl, by show 2 ≤ sizeLine; decide, fun tp ntp => ⟨_, tp, _, _, _, _, rfl, upd_same, .cons (.ty _) (.cons (.ty _) .nil), .base .non, kany (a := false) (b := false) (kit_ty (by decide +kernel)) (kit_ty (by decide +kernel)), false, rfl, iteF ?_⟩⟩
        refine ⟨_, rfl, rfl, _, rfl, iteT (iteT ?_)⟩
        refine ⟨_, rfl, _, rfl, rfl, true, rfl, iteT ?_⟩
        refine ⟨_, rfl, _, _, _, _, false, rfl, .ty _, .base .non, kit_ty (by decide +kernel), ?_⟩
        refine ⟨_, rfl, _, _, _, _, false, rfl, .ty _, .base .non, kit_ty (by decide +kernel), rfl, ?_⟩
        exact q _ (nw ntp)
      · refine ⟨_, rfl, by show 2 ≤ sizeLine; decide, fun tp ntp => ⟨_, tp, _, _, _, _, rfl, upd_same, .cons (.ty _) (.cons (.ty _) .nil), .base (.bl b), kany (a := false) (b := false) (kit_ty (by decide +kernel)) (kit_ty (by decide +kernel)), false, rfl, iteF ?_⟩⟩
        refine ⟨_, rfl, rfl, _, rfl, iteF ?_⟩
        refine ⟨_, rfl, _, _, _, _, false, rfl, .ty _, .base (.bl b), kit_ty (by decide +kernel), false, rfl, iteF ?_⟩
        refine ⟨_, rfl, _, _, _, _, true, rfl, .ty _, .base (.bl b), kit_ty (by decide +kernel), true, rfl, iteT ?_⟩
        refine ⟨_, rfl, _, _, _, _, true, rfl, .ty _, .base (.bl b), kit_ty (by decide +kernel), true, rfl, iteT ?_⟩
        refine ⟨_, rfl, _, rfl, rfl, ?_⟩
        rw [decide_eq_true rfl]
        exact q _ (nw ntp)
      · refine ⟨_, rfl, by show 2 ≤ sizeLine; decide, fun tp ntp => ⟨_, tp, _, _, _, _, rfl, upd_same, .cons (.ty _) (.cons (.ty _) .nil), .base (.int i), kany (a := false) (b := false) (kit_ty (by decide +kernel)) (kit_ty (by decide +kernel)), false, rfl, iteF ?_⟩⟩
        refine ⟨_, rfl, rfl, _, rfl, iteF ?_⟩
        refine ⟨_, rfl, _, _, _, _, false, rfl, .ty _, .base (.int i), kit_ty (by decide +kernel), false, rfl, iteF ?_⟩
        refine ⟨_, rfl, _, _, _, _, false, rfl, .ty _, .base (.int i), kit_ty (by decide +kernel), false, rfl, iteF ?_⟩
        refine ⟨_, rfl, _, _, _, _, true, rfl, .ty _, .base (.int i), kit_ty (by decide +kernel), true, rfl, iteT ?_⟩
        refine ⟨_, rfl, _, _, _, _, false, rfl, .ty _, .base (.int i), kit_ty (by decide +kernel), false, rfl, true, rfl, iteT ?_⟩
        refine ⟨_, rfl, _, rfl, rfl, ?_⟩
        rw [decide_eq_true rfl]
        exact q _ (nw ntp)
      · refine ⟨_, rfl, by show 2 ≤ sizeLine; decide, fun tp ntp => ⟨_, tp, _, _, _, _, rfl, upd_same, .cons (.ty _) (.cons (.ty _) .nil), .base (.str z), kany (a := false) (b := false) (kit_ty (by decide +kernel)) (kit_ty (by decide +kernel)), false, rfl, iteF ?_⟩⟩
        refine ⟨_, rfl, rfl, _, rfl, iteF ?_⟩
        refine ⟨_, rfl, _, _, _, _, true, rfl, .ty _, .base (.str z), kit_ty (by decide +kernel), true, rfl, iteT ?_⟩
        refine ⟨_, rfl, _, rfl, rfl, _, rfl, ?_⟩
        rw [decide_eq_true rfl]
        refine iteT ⟨_, rfl, _, _, _, _, true, rfl, .ty _, .base (.str z), kit_ty (by decide +kernel), ?_⟩
        refine ⟨_, rfl, _, _, _, _, true, rfl, .ty _, .base (.str z), kit_ty (by decide +kernel), rfl, ?_⟩
        exact q _ (nw ntp)
    · rcases hab with ⟨ea, eb⟩ | ⟨ea, eb⟩
      · refine ⟨_, rfl, by show 2 ≤ sizeLine; decide, fun tp ntp => ?_⟩
        have s1 := nw (o := .tup [.ty "list", .ty "tuple"]) ntp
        have ea1 := s1 _ _ ea
        have eb1 := s1 _ _ eb
        refine ⟨_, tp, _, _, _, _, rfl, upd_same, .cons (.ty _) (.cons (.ty _) .nil), .base (.tup eb1), kany (a := false) (b := true) (kit_ty (by decide +kernel)) (kit_ty (by decide +kernel)), true, rfl, iteT ?_⟩
        refine ⟨_, rfl, _, _, _, _, false, rfl, .ty _, .base (.tup ea1), kit_ty (by decide +kernel), ?_⟩
        refine ⟨_, rfl, _, _, _, _, false, rfl, .ty _, .base (.tup eb1), kit_ty (by decide +kernel), rfl, false, rfl, iteF ?_⟩
        refine ⟨_, rfl, _, _, _, _, true, rfl, .ty _, .base (.tup ea1), kit_ty (by decide +kernel), ?_⟩
        refine ⟨_, rfl, _, _, _, _, true, rfl, .ty _, .base (.tup eb1), kit_ty (by decide +kernel), rfl, false, rfl, iteF ?_⟩
        refine ⟨_, rfl, a, xs, rfl, .inr (SqT.of ea1), _, rfl, b, ys, rfl, .inr (SqT.of eb1), rfl, _, rfl, ?_⟩
        rw [decide_eq_true (by rw [hl])]
        refine iteT ⟨_, rfl, _, rfl, a, b, xs, ys, rfl, .inr ⟨SqT.of ea1, SqT.of eb1, fun D nD => ?_⟩⟩
        refine lc_it (walk_zipT (K := K) (a := a) (b := b) (xs := xs) (ys := ys) rfl) (fun i H2 => Same (upd H tp (.tup [.ty "list", .ty "tuple"])) H2 ∧ H2 D = some (.lst ((List.replicate i true).map V.bl))) ⟨same_new nD, upd_same⟩ ?_ ?_ ?_
        · rintro i H2 _ ⟨s2, _⟩
          exact ⟨SqT.of (s2 _ _ ea1), SqT.of (s2 _ _ eb1)⟩
        · rintro i v H2 H3 hi ⟨s2, eD⟩ ⟨T, x1, x2, rfl, nT, rfl, ex1, ex2⟩
          refine ⟨T, _, rfl, SqT.of upd_same, rfl, _, _, rfl, _, _, rfl, rfl, rfl, yes ?_⟩
          have s3 := s2.trans (same_new (o := .tup [x1, x2]) nT)
          refine ⟨_, rfl, _, rfl, x1, x2, rfl, (hk i x1 x2 ex1 ex2).mono (s1.trans s3), fun H4 s4 => ?_⟩
          have eD4 := s4 _ _ ((same_new (o := .tup [x1, x2]) nT) _ _ eD)
          refine ⟨_, eD4, sz' (by rw [List.length_map, List.length_replicate]; omega), Same.put (s3.trans s4) nD, ?_⟩
          rw [upd_same, List.replicate_succ', List.map_append]; rfl
        · rintro H2 ⟨s2, eD⟩
          refine ⟨D, _, rfl, SqL.of eD, ?_⟩
          rw [all_rep]
          exact q _ (s1.trans s2)
      · refine ⟨_, rfl, by show 2 ≤ sizeLine; decide, fun tp ntp => ?_⟩
        have s1 := nw (o := .tup [.ty "list", .ty "tuple"]) ntp
        have ea1 := s1 _ _ ea
        have eb1 := s1 _ _ eb
        refine ⟨_, tp, _, _, _, _, rfl, upd_same, .cons (.ty _) (.cons (.ty _) .nil), .base (.lst eb1), kany (a := true) (b := false) (kit_ty (by decide +kernel)) (kit_ty (by decide +kernel)), true, rfl, iteT ?_⟩
        refine ⟨_, rfl, _, _, _, _, true, rfl, .ty _, .base (.lst ea1), kit_ty (by decide +kernel), ?_⟩
        refine ⟨_, rfl, _, _, _, _, true, rfl, .ty _, .base (.lst eb1), kit_ty (by decide +kernel), rfl, false, rfl, iteF ?_⟩
        refine ⟨_, rfl, _, _, _, _, false, rfl, .ty _, .base (.lst ea1), kit_ty (by decide +kernel), ?_⟩
        refine ⟨_, rfl, _, _, _, _, false, rfl, .ty _, .base (.lst eb1), kit_ty (by decide +kernel), rfl, false, rfl, iteF ?_⟩
        refine ⟨_, rfl, a, xs, rfl, .inl (SqL.of ea1), _, rfl, b, ys, rfl, .inl (SqL.of eb1), rfl, _, rfl, ?_⟩
        rw [decide_eq_true (by rw [hl])]
        refine iteT ⟨_, rfl, _, rfl, a, b, xs, ys, rfl, .inl ⟨SqL.of ea1, SqL.of eb1, fun D nD => ?_⟩⟩
        refine lc_it (walk_zip (K := K) (a := a) (b := b) (xs := xs) (ys := ys) rfl) (fun i H2 => Same (upd H tp (.tup [.ty "list", .ty "tuple"])) H2 ∧ H2 D = some (.lst ((List.replicate i true).map V.bl))) ⟨same_new nD, upd_same⟩ ?_ ?_ ?_
        · rintro i H2 _ ⟨s2, _⟩
          exact ⟨SqL.of (s2 _ _ ea1), SqL.of (s2 _ _ eb1)⟩
        · rintro i v H2 H3 hi ⟨s2, eD⟩ ⟨T, x1, x2, rfl, nT, rfl, ex1, ex2⟩
          refine ⟨T, _, rfl, SqT.of upd_same, rfl, _, _, rfl, _, _, rfl, rfl, rfl, yes ?_⟩
          have s3 := s2.trans (same_new (o := .tup [x1, x2]) nT)
          refine ⟨_, rfl, _, rfl, x1, x2, rfl, (hk i x1 x2 ex1 ex2).mono (s1.trans s3), fun H4 s4 => ?_⟩
          have eD4 := s4 _ _ ((same_new (o := .tup [x1, x2]) nT) _ _ eD)
          refine ⟨_, eD4, sz' (by rw [List.length_map, List.length_replicate]; omega), Same.put (s3.trans s4) nD, ?_⟩
          rw [upd_same, List.replicate_succ', List.map_append]; rfl
        · rintro H2 ⟨s2, eD⟩
          refine ⟨D, _, rfl, SqL.of eD, ?_⟩
          rw [all_rep]
          exact q _ (s1.trans s2)
theorem ok_same {f : Addr} {fd : FuncData} (B : Bts mg) (F : Fun K "_law_same" "_law_same" s__law_same f fd) (hm : mg "_law_same" = some (.ref f)) (hb : Binds K fd ["_law_found", "_law_due"] []) :
    ∀ m, FnOk P w K mg base CX0 m f fd ["_law_found", "_law_due"] (sp_same m)
  | 0 => ⟨fun _ _ _ _ h => h.elim, fun _ _ _ _ _ _ _ _ _ _ _ _ _ h => h.elim⟩
  | m + 1 => ok_same1 B F (Cl.mk' F hm hb (ok_same B F hm hb m))
end
end My

set_option Elab.async false
set_option linter.all false
set_option maxRecDepth 100000
namespace My
open PySem PySem.Spec PyProof.Rows L2 GxR

/-! ### dict comprehensions over what is walked -/
theorem dc_it {J : It} {n : Nat} {G : Hp → Prop} {Y : Nat → Hp → V → Hp → Prop} (w : Walk J n G Y) {g : TG} {tt : TT} {tk tv : TE} {vs : List Nat} {σ : L2.St} {H1 : Hp} {D : Addr} {Qd : Hp → Prop} (Pv : Nat → Hp → Prop)
    (h0 : Pv 0 (upd H1 D (.dK []))) (hG : ∀ i H, i ≤ n → Pv i H → G H)
    (hs : ∀ i x H H', i < n → Pv i H → Y i H x H' → g x (wipe σ vs) H' fun σ2 H2 => wipe σ2 vs = wipe σ vs ∧ tt σ2 H2 fun b H3 =>
      if b = true then tk σ2 H3 fun y H4 => tv σ2 H4 fun z H5 => ∃ kvs k, y = kV k ∧ H5 D = some (.dK kvs) ∧ kvs.length < sizeLine ∧ Pv (i + 1) (upd H5 D (.dK (putK kvs k z))) else Pv (i + 1) H3)
    (hd : ∀ H, Pv n H → Qd H) :
    ∃ W : Nat → Nat → Hp → Prop, (∃ m, W 0 m (upd H1 D (.dK []))) ∧ ∀ i m H, W i m H → (J.stop i H ∧ Qd H) ∨
      (J.go i H ∧ ∃ Nx : Hp → Prop, (∀ H', Nx H' → ∃ m', m' < m ∧ W (i + 1) m' H') ∧ ∀ x H', J.yld i H x H' → g x (wipe σ vs) H' fun σ2 H2 => wipe σ2 vs = wipe σ vs ∧ tt σ2 H2 fun b H3 =>
        if b = true then tk σ2 H3 fun y H4 => tv σ2 H4 fun z H5 => ∃ kvs k, y = kV k ∧ H5 D = some (.dK kvs) ∧ kvs.length < sizeLine ∧ Nx (upd H5 D (.dK (putK kvs k z))) else Nx H3) := by
  refine ⟨fun i m H => m = n - i ∧ i ≤ n ∧ Pv i H, ⟨n, rfl, Nat.zero_le _, h0⟩, ?_⟩
  rintro i m H ⟨rfl, hi, p⟩
  have q := hG i H hi p
  by_cases hlt : i < n
  · exact .inr ⟨w.goes i H hlt q, Pv (i + 1), fun H' p' => ⟨n - (i + 1), by omega, rfl, hlt, p'⟩, fun x H' y => hs i x H H' hlt p (w.yields i H x H' hlt q y)⟩
  · have e : i = n := by omega
    subst e
    exact .inl ⟨w.stops H q, hd H p⟩

/-! ### what a dict tells behind a store -/
theorem valV_put {κ : Type} [DecidableEq κ] (kvs : List (κ × V)) (k : κ) (v : V) (j : κ) : valV (putK kvs k v) j = if j = k then some v else valV kvs j := by
  unfold putK
  by_cases h : (kvs.any fun kv => decide (kv.1 = k)) = true
  · rw [if_pos h]
    induction kvs with
    | nil => cases h
    | cons p r ih =>
      rw [List.map_cons]
      by_cases hp : p.1 = k
      · rw [if_pos hp]
        by_cases hj : j = k
        · rw [if_pos hj, valV_pos (by rw [hj]; exact hp)]
        · rw [if_neg hj, valV_neg (fun z => hj (by rw [← z]; exact hp)), valV_neg (fun z => hj (by rw [← z]; exact hp))]
          by_cases hr : (r.any fun kv => decide (kv.1 = k)) = true
          · have := ih hr
            rw [if_neg hj] at this
            exact this
          · have : (r.map fun kv => if kv.1 = k then (kv.1, v) else kv) = r := by
              clear ih h
              induction r with
              | nil => rfl
              | cons q s ih2 =>
                rw [List.any_cons, Bool.or_eq_true] at hr
                have h1 : ¬ q.1 = k := fun z => hr (.inl (decide_eq_true z))
                have h2 : ¬ (s.any fun kv => decide (kv.1 = k)) = true := fun z => hr (.inr z)
                rw [List.map_cons, if_neg h1, ih2 h2]
            rw [this]
      · rw [if_neg hp]
        rw [List.any_cons, decide_eq_false hp, Bool.false_or] at h
        have := ih h
        by_cases hj : p.1 = j
        · rw [valV_pos hj, valV_pos hj, if_neg (fun z => hp (by rw [hj]; exact z))]
        · rw [valV_neg hj, valV_neg hj]; exact this
  · rw [if_neg h]
    induction kvs with
    | nil =>
      rw [List.nil_append]
      by_cases hj : j = k
      · rw [if_pos hj, valV_pos hj.symm]
      · rw [if_neg hj, valV_neg (fun z => hj z.symm)]
    | cons p r ih =>
      rw [List.any_cons, Bool.or_eq_true] at h
      have h1 : ¬ p.1 = k := fun z => h (.inl (decide_eq_true z))
      have h2 : ¬ (r.any fun kv => decide (kv.1 = k)) = true := fun z => h (.inr z)
      rw [List.cons_append]
      by_cases hj : p.1 = j
      · rw [valV_pos hj, valV_pos hj, if_neg (fun z => h1 (by rw [hj]; exact z))]
      · rw [valV_neg hj, valV_neg hj]; exact ih h2
theorem len_put {κ : Type} [DecidableEq κ] (kvs : List (κ × V)) (k : κ) (v : V) : (putK kvs k v).length ≤ kvs.length + 1 := by
  unfold putK
  split
  · rw [List.length_map]; exact Nat.le_succ _
  · rw [List.length_append]; exact Nat.le_refl _

/-! ### rising lists of places, parts of webs -/
def Ris (n : Nat) (pl : List Int) : Prop := pl.Pairwise (· < ·) ∧ ∀ p ∈ pl, 0 ≤ p ∧ p < (n : Int)
theorem Ris.nodup {n : Nat} {pl : List Int} (h : Ris n pl) : pl.Nodup := List.nodup_iff_pairwise_ne.mpr (h.1.imp fun {a b} z e => by omega)
theorem Ris.len {n : Nat} {pl : List Int} (h : Ris n pl) : pl.length ≤ n := by
  have := nd_len (m := up n) h.nodup fun x hx => mem_up.mpr (h.2 x hx)
  rwa [up_len] at this
theorem idx_get {pl : List Int} {a : Int} (h : a ∈ pl) : pl[pl.idxOf a]? = some a := by
  have hl := List.idxOf_lt_length_of_mem h
  rw [List.getElem?_eq_getElem hl, List.getElem_idxOf hl]
theorem idx_of {pl : List Int} (nd : pl.Nodup) {i : Nat} {a : Int} (h : pl[i]? = some a) : pl.idxOf a = i := by
  obtain ⟨hi, e⟩ := List.getElem?_eq_some_iff.mp h
  have hm : a ∈ pl := List.mem_of_getElem? h
  have hl := List.idxOf_lt_length_of_mem hm
  have e2 := List.getElem_idxOf hl
  have pw := List.pairwise_iff_getElem.mp (List.nodup_iff_pairwise_ne.mp nd)
  rcases Nat.lt_trichotomy (pl.idxOf a) i with z | z | z
  · exact absurd (e2.trans e.symm) (pw _ _ hl hi z)
  · exact z
  · exact absurd (e.trans e2.symm) (pw _ _ hi hl z)
theorem ris_lt {n : Nat} {pl : List Int} (h : Ris n pl) {i j : Nat} {a b : Int} (hi : pl[i]? = some a) (hj : pl[j]? = some b) : i < j ↔ a < b := by
  obtain ⟨li, ei⟩ := List.getElem?_eq_some_iff.mp hi
  obtain ⟨lj, ej⟩ := List.getElem?_eq_some_iff.mp hj
  have pw := List.pairwise_iff_getElem.mp h.1
  constructor
  · intro z
    have := pw i j li lj z
    omega
  · intro z
    rcases Nat.lt_trichotomy i j with c | c | c
    · exact c
    · subst c; omega
    · have := pw j i lj li c
      omega
def partL (ts : List (Int × Int)) (pl : List Int) : List (Int × Int) :=
  (ts.filter fun t => decide (t.1 ∈ pl) && decide (t.2 ∈ pl)).map fun t => ((pl.idxOf t.1 : Int), (pl.idxOf t.2 : Int))
theorem mem_part {ts : List (Int × Int)} {pl : List Int} (nd : pl.Nodup) {t : Int × Int} : t ∈ partL ts pl ↔
    ∃ (i j : Nat) (a b : Int), t = ((i : Int), (j : Int)) ∧ pl[i]? = some a ∧ pl[j]? = some b ∧ (a, b) ∈ ts := by
  unfold partL
  rw [List.mem_map]
  constructor
  · rintro ⟨s, hs, rfl⟩
    obtain ⟨h1, h2⟩ := List.mem_filter.mp hs
    rw [Bool.and_eq_true, decide_eq_true_eq, decide_eq_true_eq] at h2
    exact ⟨_, _, s.1, s.2, rfl, idx_get h2.1, idx_get h2.2, h1⟩
  · rintro ⟨i, j, a, b, rfl, hi, hj, h⟩
    refine ⟨(a, b), List.mem_filter.mpr ⟨h, ?_⟩, ?_⟩
    · rw [Bool.and_eq_true, decide_eq_true_eq, decide_eq_true_eq]
      exact ⟨List.mem_of_getElem? hi, List.mem_of_getElem? hj⟩
    · dsimp only
      rw [idx_of nd hi, idx_of nd hj]
theorem part_pw {n : Nat} {ts : List (Int × Int)} {pl : List Int} (hp : Ris n pl) (hw : ts.Pairwise ltT) : (partL ts pl).Pairwise ltT := by
  unfold partL
  rw [List.pairwise_map]
  refine (hw.sublist List.filter_sublist).imp_of_mem fun {s t} hs ht h => ?_
  have h1 := (List.mem_filter.mp hs).2
  have h2 := (List.mem_filter.mp ht).2
  rw [Bool.and_eq_true, decide_eq_true_eq, decide_eq_true_eq] at h1 h2
  have l1 := ris_lt hp (idx_get h1.1) (idx_get h2.1)
  have l2 := ris_lt hp (idx_get h1.2) (idx_get h2.2)
  rcases h with h | ⟨h, k⟩
  · exact .inl (by have := l1.mpr h; dsimp only; omega)
  · refine .inr ⟨by dsimp only; rw [h], ?_⟩
    have := l2.mpr k
    dsimp only; omega
theorem part_wok {n : Nat} {ts : List (Int × Int)} {pl : List Int} (hp : Ris n pl) (hw : WOk n ts) : WOk pl.length (partL ts pl) := by
  refine ⟨part_pw hp hw.1, fun t ht => ?_⟩
  obtain ⟨i, j, a, b, rfl, hi, hj, h⟩ := (mem_part hp.nodup).mp ht
  have hb := hw.2 _ h
  have l := ris_lt hp hi hj
  have := l.mpr hb.2.1
  have := (List.getElem?_eq_some_iff.mp hj).1
  dsimp only
  omega
theorem part_len {ts : List (Int × Int)} {pl : List Int} : (partL ts pl).length ≤ ts.length := by
  unfold partL; rw [List.length_map]; exact List.length_filter_le _ _
theorem ris_up (n : Nat) : Ris n (up n) := by
  refine ⟨?_, fun p hp => mem_up.mp hp⟩
  unfold up
  rw [List.pairwise_map]
  exact List.pairwise_lt_range.imp fun h => by omega
theorem up_get {n i : Nat} (h : i < n) : (up n)[i]? = some (i : Int) := by
  unfold up
  rw [List.getElem?_map, List.getElem?_range h]; rfl
theorem part_up {n : Nat} {ts : List (Int × Int)} (hw : WOk n ts) : partL ts (up n) = ts := by
  refine pw_eq (part_pw (ris_up n) hw.1) hw.1 fun t => ?_
  rw [mem_part (ris_up n).nodup]
  constructor
  · rintro ⟨i, j, a, b, rfl, hi, hj, h⟩
    have li : i < n := by have := (List.getElem?_eq_some_iff.mp hi).1; rwa [up_len] at this
    have lj : j < n := by have := (List.getElem?_eq_some_iff.mp hj).1; rwa [up_len] at this
    rw [up_get li] at hi
    rw [up_get lj] at hj
    cases hi; cases hj
    exact h
  · intro h
    have b := hw.2 t h
    refine ⟨t.1.toNat, t.2.toNat, t.1, t.2, ?_, ?_, ?_, h⟩
    · cases t with | mk x y => dsimp only at b ⊢; congr 1 <;> omega
    · rw [up_get (by omega)]; congr 1; omega
    · rw [up_get (by omega)]; congr 1; omega
theorem part_nil (ts : List (Int × Int)) : partL ts [] = [] := by
  unfold partL
  have : (ts.filter fun t => decide (t.1 ∈ ([] : List Int)) && decide (t.2 ∈ ([] : List Int))) = [] := by
    rw [List.filter_eq_nil_iff]; intro a _; simp
  rw [this]; rfl
/-- some of the places -/
def pick (pl inn : List Int) : List Int := inn.map fun p => pl.getD p.toNat 0
theorem pick_get {pl inn : List Int} {n : Nat} (hi : Ris pl.length inn) {i : Nat} {p : Int} (h : inn[i]? = some p) : ∃ a, pl[p.toNat]? = some a ∧ (pick pl inn)[i]? = some a := by
  have b := hi.2 p (List.mem_of_getElem? h)
  have hl : p.toNat < pl.length := by omega
  refine ⟨pl[p.toNat], List.getElem?_eq_getElem hl, ?_⟩
  unfold pick
  rw [List.getElem?_map, h]
  show some (pl.getD p.toNat 0) = _
  rw [List.getD_eq_getElem?_getD, List.getElem?_eq_getElem hl]; rfl
theorem pick_ris {n : Nat} {pl inn : List Int} (hp : Ris n pl) (hi : Ris pl.length inn) : Ris n (pick pl inn) := by
  refine ⟨?_, fun x hx => ?_⟩
  · rw [List.pairwise_iff_getElem]
    intro i j li lj hij
    have li' : i < inn.length := by unfold pick at li; rwa [List.length_map] at li
    have lj' : j < inn.length := by unfold pick at lj; rwa [List.length_map] at lj
    obtain ⟨a, ha, ga⟩ := pick_get (n := n) hi (List.getElem?_eq_getElem li')
    obtain ⟨b, hb, gb⟩ := pick_get (n := n) hi (List.getElem?_eq_getElem lj')
    rw [List.getElem?_eq_getElem li] at ga
    rw [List.getElem?_eq_getElem lj] at gb
    have e1 := Option.some.inj ga
    have e2 := Option.some.inj gb
    rw [e1, e2]
    have := (List.pairwise_iff_getElem.mp hi.1) i j li' lj' hij
    have b1 := hi.2 _ (List.getElem_mem li')
    have b2 := hi.2 _ (List.getElem_mem lj')
    exact (ris_lt hp ha hb).mp (by omega)
  · unfold pick at hx
    obtain ⟨p, hp', rfl⟩ := List.mem_map.mp hx
    have b := hi.2 p hp'
    have hl : p.toNat < pl.length := by omega
    rw [List.getD_eq_getElem?_getD, List.getElem?_eq_getElem hl]
    exact hp.2 _ (List.getElem_mem hl)
theorem part_part {n : Nat} {ts : List (Int × Int)} {pl inn : List Int} (hw : ts.Pairwise ltT) (hp : Ris n pl) (hi : Ris pl.length inn) :
    partL (partL ts pl) inn = partL ts (pick pl inn) := by
  have hq := pick_ris hp hi
  refine pw_eq (part_pw hi (part_pw hp hw)) (part_pw hq hw) fun t => ?_
  rw [mem_part hi.nodup, mem_part hq.nodup]
  constructor
  · rintro ⟨i, j, a, b, rfl, h1, h2, h3⟩
    obtain ⟨i', j', a', b', e, k1, k2, k3⟩ := (mem_part hp.nodup).mp h3
    cases e
    obtain ⟨x, hx, gx⟩ := pick_get (n := n) hi h1
    obtain ⟨y, hy, gy⟩ := pick_get (n := n) hi h2
    rw [Int.toNat_natCast, k1] at hx
    rw [Int.toNat_natCast, k2] at hy
    cases hx; cases hy
    exact ⟨i, j, _, _, rfl, gx, gy, k3⟩
  · rintro ⟨i, j, a, b, rfl, h1, h2, h3⟩
    have li : i < inn.length := by have := (List.getElem?_eq_some_iff.mp h1).1; unfold pick at this; rwa [List.length_map] at this
    have lj : j < inn.length := by have := (List.getElem?_eq_some_iff.mp h2).1; unfold pick at this; rwa [List.length_map] at this
    obtain ⟨x, hx, gx⟩ := pick_get (n := n) hi (List.getElem?_eq_getElem li)
    obtain ⟨y, hy, gy⟩ := pick_get (n := n) hi (List.getElem?_eq_getElem lj)
    rw [h1] at gx
    rw [h2] at gy
    cases gx; cases gy
    have b1 := hi.2 _ (List.getElem_mem li)
    have b2 := hi.2 _ (List.getElem_mem lj)
    refine ⟨i, j, inn[i], inn[j], rfl, List.getElem?_eq_getElem li, List.getElem?_eq_getElem lj, (mem_part hp.nodup).mpr ⟨inn[i].toNat, inn[j].toNat, a, b, ?_, hx, hy, h3⟩⟩
    congr 1 <;> omega
end My

set_option Elab.async false
set_option linter.all false
set_option maxRecDepth 100000
namespace My
open PySem PySem.Spec PyProof.Rows L2 GxR

/-! ### dict comprehensions with keys of any kind (DPut) -/
section
variable {X : Cx}
theorem d_dictPut {pins : List (Addr × Obj)} {σ : L2.St} {H H' : Hp} {s : Shared} {E : Value → Shared → Prop} {D : Addr} {y v : V} {u r : Value} {Q : Unit → Shared → Prop} (hu : X.A.units + 1 < cLine) (I : Inv X pins σ H s) (g : DPut H D y v H')
    (ry : RelV y u) (rv : RelV v r) (h : ∀ s', Inv X pins σ H' s' → Q () s') : wpAny (model X.prog X.w) X.A (dictSet D u r) Q E s := by
  rcases g with ⟨kvs, k, e, rfl, l, rfl⟩ | ⟨kvs, k, b, e, rfl, eb, l, rfl⟩
  · exact d_dictSet I e l ry rv h
  · cases (show u = Value.ref b from ry)
    obtain ⟨z, hd, xs, rel, dd⟩ := dt_of I.hok e
    have hz : xs.length ≤ sizeLine := by
      rw [← Paired.length rel]; exact z
    have hp := length_putK kvs k v
    refine wpAny_dictSet_heap (hsz := hz) (show X.A.units < cLine from Nat.lt_of_succ_lt hu) (L2.key_of I.hok eb) dd fun h' dd' hs => h _ ?_
    obtain ⟨q, es, ep, hq, h2, h3, h4, _, h5⟩ := dd'
    refine d_write I (by rw [e]; exact True.intro) hs ⟨q, hq⟩ ⟨by omega, hd, _, (rel.put k eb rv).keeps fun c ys ec => ?_, q, es, ep, hq, h2, h3, h4, h5⟩
    rw [upd_ne (ne_of ec e (fun z => nomatch z))]; exact ec
/-- the turn behind what is yielded -/
def dcStep (g : TG) (tt : TT) (tk tv : TE) (vs : List Nat) (σ : L2.St) (D : Addr) (Nx : Hp → Prop) (x : V) (H' : Hp) : Prop :=
  g x (wipe σ vs) H' fun σ2 H2 => wipe σ2 vs = wipe σ vs ∧ tt σ2 H2 fun b H3 => if b = true then tk σ2 H3 fun y H4 => tv σ2 H4 fun z H5 => ∃ H6, DPut H5 D y z H6 ∧ Nx H6 else Nx H3
def tDcP (o0 : HO) (wi : TI) (g : TG) (tt : TT) (tk tv : TE) (vs : List Nat) : TE := fun σ H Q => wi σ H fun J H1 => ∀ D, H1 D = none → ∃ W : Nat → Nat → Hp → Prop, (∃ m, W 0 m (upd H1 D o0)) ∧ ∀ i m H, W i m H →
  (J.stop i H ∧ Q (.ref D) H) ∨ (J.go i H ∧ ∃ Nx : Hp → Prop, (∀ H', Nx H' → ∃ m', m' < m ∧ W (i + 1) m' H') ∧ ∀ x H', J.yld i H x H' → dcStep g tt tk tv vs σ D Nx x H')
/-- a new empty dict may be read so -/
def Empt (o0 : HO) : Prop := ∀ (P : Program) (w : World) (H : Hp) (h : Heap), sysModules < h.objs.size → ObjOk P w H (h.push { cls := .type "dict", data := .dict #[] }) h.objs.size o0
theorem empt_dK : Empt (.dK []) := fun _ _ _ h hb => dk_empty h hb
theorem empt_dT : Empt (.dT []) := fun _ _ _ h hb => dt_empty h hb
abbrev inCell (X : Cx) (s : Shared) (scope : Scope) : Env := compEnvC scope (cellsFrom (s.heap.objs.size + 1) scope.names (cloFrom X.env.cells scope.names [])) s.heap.objs.size X.env
theorem pe_dcP {o0 : HO} {kx vx tg iter : Expr} {ifs : List Expr} {scope : Scope} {own : List (Str × Nat)} {pos : Pos} {wi : TI} {g : TG} {tt : TT} {tk tv : TE} (em : Empt o0) (hu : X.A.units + 1 < cLine) (hc : X.calm = true) (hN : X.N.Nodup) (hi : PI X tg iter wi) (ok : BlkOk X.N X.env.scope scope own)
    (hg : ∀ (s : Shared) (H : Hp) (C : Addr) (cl : List (Str × Addr)) (fp : List Addr), PG (X.blk s H scope (compEnvC scope cl C X.env) fp) tg g)
    (ht : ∀ (s : Shared) (H : Hp) (C : Addr) (cl : List (Str × Addr)) (fp : List Addr), PTs (X.blk s H scope (compEnvC scope cl C X.env) fp) ifs tt)
    (hk : ∀ (s : Shared) (H : Hp) (C : Addr) (cl : List (Str × Addr)) (fp : List Addr), PE (X.blk s H scope (compEnvC scope cl C X.env) fp) kx tk)
    (he : ∀ (s : Shared) (H : Hp) (C : Addr) (cl : List (Str × Addr)) (fp : List Addr), PE (X.blk s H scope (compEnvC scope cl C X.env) fp) vx tv) (hs : ∀ x, foldedSetIterable iter X.env x = pure x := by intro _; rfl) :
    PE X (.DictComp kx vx [⟨tg, iter, ifs, 0⟩] scope pos) (tDcP o0 wi g tt tk tv (own.map (·.2))) := by
  refine ⟨fun pins s σ H Q I h => ?_⟩
  rw [arm_eval_DictComp]
  have fr : ∀ y ∈ scope.names, y.2 = .free → ∃ c, X.env.cells.lookup y.1 = some c := fun y hy e => (ok.free y hy e).elim (fun k => I.ok.has _ (.inl k)) fun k => I.ok.has _ (.inr k)
  refine wpAny_comprehension_free rfl hs (closure_ok fr) ok.kind (fun y hy e => by rw [ok.uniq y hy, e]) ?_
  refine thn (hi.run pins s σ H _ I h) fun _ _ hx => thn hx fun _ s2 h2 => ?_
  obtain ⟨it, fp, tn, J, H2, rfl, I2, T, st2, f2, q⟩ := h2
  refine wpAny_newObj_type (newEnv_comp ?_)
  generalize hD : s2.heap.objs.size = D
  obtain ⟨W, ⟨m0, w0⟩, turn⟩ := q D (I2.hok.fresh (Nat.le_of_eq hD))
  generalize hs3 : (⟨s2.heap.push { cls := .type "dict", data := .dict #[] }, s2.gens, s2.drawn, s2.toks, s2.os⟩ : Shared) = s3
  have I3 : Inv X pins σ (upd H2 D o0) s3 := by
    rw [← hs3]
    refine I2.laid (t' := s2.toks) (fun b o e => Heap.get?_push_of_some _ e) (Nat.le_of_eq hD) ?_
    rw [← hD]; exact em _ _ _ _ I2.big
  have h3 : s3.heap = s2.heap.push { cls := .type "dict", data := .dict #[] } := by rw [← hs3]
  have f3 : ∀ b ∈ fp, FpOk X pins (upd H2 D o0) b ∧ b < s3.heap.objs.size := fun b hb => by
    obtain ⟨o, e, _⟩ := T.obj _ _ st2 b hb
    have hlt := Heap.lt_size e
    refine ⟨⟨?_, (f2 b hb).2⟩, by rw [h3, Heap.size_push]; exact Nat.lt_succ_of_lt hlt⟩
    rw [upd_ne (by rw [← hD]; exact Nat.ne_of_lt hlt)]; exact (f2 b hb).1
  have st3 : tn 0 s3.heap := T.keep _ _ _ st2 fun b _ o e => by rw [h3]; exact Heap.get?_push_of_some _ e
  have I4 := block_start I3 ok hN f3
  have pg := hg s3 (upd H2 D o0) s3.heap.objs.size (cellsFrom (s3.heap.objs.size + 1) scope.names (cloFrom X.env.cells scope.names [])) fp
  have pt := ht s3 (upd H2 D o0) s3.heap.objs.size (cellsFrom (s3.heap.objs.size + 1) scope.names (cloFrom X.env.cells scope.names [])) fp
  have pk := hk s3 (upd H2 D o0) s3.heap.objs.size (cellsFrom (s3.heap.objs.size + 1) scope.names (cloFrom X.env.cells scope.names [])) fp
  have pe := he s3 (upd H2 D o0) s3.heap.objs.size (cellsFrom (s3.heap.objs.size + 1) scope.names (cloFrom X.env.cells scope.names [])) fp
  refine (?_ : codeAny _ _ (.compStart (.DictComp kx vx [⟨tg, iter, ifs, 0⟩] scope pos) 0 (.ref it) (.ref D) (inCell X s3 scope)) (compPost (model X.prog X.w) X.A X.xe none (fun v s' => ∃ x H', Inv X pins σ H' s' ∧ RelV x v ∧ Q x H') (.ref D) s3.heap.objs.size) { s3 with heap := pushCells (s3.heap.push { cls := .type "dict", data := .dict #[] }) scope.names })
  have nfp : ∀ b ∈ fp, (upd H2 D o0) b = none := fun b hb => (f3 b hb).1.1
  obtain ⟨ce, hce⟩ : ∃ ce, inCell X s3 scope = ce := ⟨_, rfl⟩
  have cL : ce.locals = s3.heap.objs.size := by rw [← hce]; rfl
  rw [show compEnvC scope (cellsFrom (s3.heap.objs.size + 1) scope.names (cloFrom X.env.cells scope.names [])) s3.heap.objs.size X.env = ce from hce] at I4 pg pt pk pe
  rw [hce]
  generalize upd H2 D o0 = H3 at I3 I4 pg pt pk pe w0 nfp f3
  obtain ⟨s4, hs4⟩ : ∃ s4 : Shared, { s3 with heap := pushCells (s3.heap.push { cls := .type "dict", data := .dict #[] }) scope.names } = s4 := ⟨_, rfl⟩
  rw [hs4] at I4 ⊢
  have st4 : tn 0 s4.heap := T.keep _ _ _ st3 fun b _ o e => by
    rw [← hs4]; exact pushCells_keeps _ _ _ _ (Heap.get?_push_of_some _ e)
  let Y := X.blk s3 H3 scope ce fp
  have stat : ∀ {σ' : L2.St} {H' : Hp} {s' : Shared}, Inv Y [] σ' H' s' → (∀ b ∈ fp, H' b = none) → ∀ b ∈ fp, FpOk Y [] H' b := fun {σ' H' s'} I' hn b hb =>
    ⟨hn b hb, (I'.ok.exf b hb).1, I'.ok.exfs b hb, .inl hb, fun x c e => (I'.ok.exf b hb).2 x c e, fun p hp => absurd (show p ∈ ([] : List (Addr × Obj)) ++ [] from hp) (by simp)⟩
  let Z : Nat → Shared → Prop := fun n s' => ∃ i H', Inv Y [] (wipe σ (own.map (·.2))) H' s' ∧ tn i s'.heap ∧ (∀ b ∈ fp, H' b = none) ∧ W i n H'
  have loop : codeAny (model X.prog X.w) X.A (.compLoop (.DictComp kx vx [⟨tg, iter, ifs, 0⟩] scope pos) 0 (.ref it) (.ref D) ce) (compPost (model X.prog X.w) X.A X.xe none (fun v s' => ∃ x H', Inv X pins σ H' s' ∧ RelV x v ∧ Q x H') (.ref D) s3.heap.objs.size) s4 := by
    refine compLoop_anyD Z ?_ m0 ⟨0, H3, I4, st4, nfp, w0⟩
    rintro n s5 ⟨i, H5, I5, st5, n5, w5⟩
    rcases turn i n H5 w5 with ⟨stop, qq⟩ | ⟨go, Nx, hNx, step⟩
    · refine thnF (T.done Y rfl rfl rfl hc i [] s5 _ H5 (fun _ _ => False) I5 (stat I5 n5) st5 stop) fun r s6 ⟨hr, I6⟩ => ?_
      subst hr
      have I7 : Inv X pins σ H5 s6 := I3.call' (ch := fp) I6.os I6.base I6.hok I6.bare fun b hb => (fun (z : FpOk X pins H3 b) => ⟨z.2.2.2.1, z.2.1, z.2.2.2.2.1, z.2.2.2.2.2⟩) (f3 b hb).1
      have nC : H5 s3.heap.objs.size = none := by
        rw [← cL]; exact I6.free
      obtain ⟨m, hn, _⟩ := I6.loc
      have hn' : s6.heap.Ns s3.heap.objs.size m := by
        rw [← cL]; exact hn
      obtain ⟨e0, e1, e2, e3, e4, e5⟩ : FpOk X pins H5 s3.heap.objs.size := I3.fpOk (Nat.le_refl _) nC
      exact ⟨m, hn', fun h'' sb => ⟨.ref D, H5, I7.turned (t' := s6.toks) (fun b o hb e => (sb.2 b hb).trans e) e0 e1 e3 e4 e5, rfl, qq⟩⟩
    · refine thnF (T.item Y rfl rfl rfl hc i [] s5 _ H5 (fun _ _ => False) I5 (stat I5 n5) st5 go) fun r s6 ⟨u, hr, h6⟩ => ?_
      subst hr
      refine thnF h6 fun _ s7 ⟨x, H7, I7, r7, y7, st7, n7⟩ => ?_
      refine thnF (pg.run _ s7 _ H7 x u _ (I7.pinned (stat I7 n7) (T.obj _ _ st7)) r7 (step x H7 y7)) fun _ s8 ⟨σ8, H8, I8, hw8, q8⟩ => ?_
      refine thnF (pt.run _ s8 σ8 H8 _ I8 q8) fun b s9 ⟨H9, I9, q9⟩ => ?_
      have fin : ∀ {s' : Shared} {H' : Hp}, Inv Y ([] ++ pinsAt fp s7.heap) σ8 H' s' → Nx H' → ∃ m, m < n ∧ Z m s' := fun {s' H'} I' nx => by
        obtain ⟨m', hm, w'⟩ := hNx H' nx
        have pin' : ∀ b ∈ fp, ∀ o, s7.heap.get? b = some o → s'.heap.get? b = some o ∧ H' b = none := fun b hb o e =>
          (fun z => ⟨z.1, z.2.1⟩) (I'.pin (b, o) (List.mem_append_right _ (List.mem_append_right _ (mem_pinsAt hb e))))
        have hl : (wipe σ (own.map (·.2))).length = σ8.length := by rw [← hw8, wipe_length]
        refine ⟨m', hm, i + 1, H', (I'.unpinned (pins := [])).weak hl (fun j v e => by rw [← hw8] at e; exact (wipe_some e).1), T.keep _ _ _ st7 fun b hb o e => (pin' b hb o e).1, fun b hb => ?_, w'⟩
        obtain ⟨o, e, _⟩ := T.obj _ _ st7 b hb
        exact (pin' b hb o e).2
      cases b with
      | false => exact fin I9 q9
      | true =>
        refine thnF (pk.run _ s9 σ8 H9 _ I9 q9) fun z s10 ⟨yk, H10, I10, r10, q10⟩ => ?_
        refine thnF (pe.run _ s10 σ8 H10 _ I10 q10) fun z2 s11 ⟨yv, H11, I11, r11, H12, pu, nx⟩ => ?_
        exact d_dictPut (X := Y) hu I11 pu r10 r11 fun s12 I12 => fin I12 nx
  exact codeAny_compStart_dict loop (T.self X.A 0 _ _ _ st4 loop)
end
theorem dcP_it {o0 : HO} {J : It} {n : Nat} {G : Hp → Prop} {Y : Nat → Hp → V → Hp → Prop} (w : Walk J n G Y) {g : TG} {tt : TT} {tk tv : TE} {vs : List Nat} {σ : L2.St} {H1 : Hp} {D : Addr} {Qd : Hp → Prop} (Pv : Nat → Hp → Prop)
    (h0 : Pv 0 (upd H1 D o0)) (hG : ∀ i H, i ≤ n → Pv i H → G H) (hs : ∀ i x H H', i < n → Pv i H → Y i H x H' → dcStep g tt tk tv vs σ D (Pv (i + 1)) x H') (hd : ∀ H, Pv n H → Qd H) :
    ∃ W : Nat → Nat → Hp → Prop, (∃ m, W 0 m (upd H1 D o0)) ∧ ∀ i m H, W i m H → (J.stop i H ∧ Qd H) ∨
      (J.go i H ∧ ∃ Nx : Hp → Prop, (∀ H', Nx H' → ∃ m', m' < m ∧ W (i + 1) m' H') ∧ ∀ x H', J.yld i H x H' → dcStep g tt tk tv vs σ D Nx x H') := by
  refine ⟨fun i m H => m = n - i ∧ i ≤ n ∧ Pv i H, ⟨n, rfl, Nat.zero_le _, h0⟩, ?_⟩
  rintro i m H ⟨rfl, hi, p⟩
  have q := hG i H hi p
  by_cases hlt : i < n
  · exact .inr ⟨w.goes i H hlt q, Pv (i + 1), fun H' p' => ⟨n - (i + 1), by omega, rfl, hlt, p'⟩, fun x H' y => hs i x H H' hlt p (w.yields i H x H' hlt q y)⟩
  · have e : i = n := by omega
    subst e
    exact .inl ⟨w.stops H q, hd H p⟩
/-! ### one walker for all -/
theorem wk {J : It} {n : Nat} {G : Hp → Prop} {Y : Nat → Hp → V → Hp → Prop} (w : Walk J n G Y) {S : (Hp → Prop) → V → Hp → Prop} {H1 : Hp} {Qd : Hp → Prop} (Pv : Nat → Hp → Prop)
    (h0 : Pv 0 H1) (hG : ∀ i H, i ≤ n → Pv i H → G H) (hs : ∀ i x H H', i < n → Pv i H → Y i H x H' → S (Pv (i + 1)) x H') (hd : ∀ H, Pv n H → Qd H) :
    ∃ W : Nat → Nat → Hp → Prop, (∃ m, W 0 m H1) ∧ ∀ i m H, W i m H → (J.stop i H ∧ Qd H) ∨
      (J.go i H ∧ ∃ Nx : Hp → Prop, (∀ H', Nx H' → ∃ m', m' < m ∧ W (i + 1) m' H') ∧ ∀ x H', J.yld i H x H' → S Nx x H') := by
  refine ⟨fun i m H => m = n - i ∧ i ≤ n ∧ Pv i H, ⟨n, rfl, Nat.zero_le _, h0⟩, ?_⟩
  rintro i m H ⟨rfl, hi, p⟩
  have q := hG i H hi p
  by_cases hlt : i < n
  · exact .inr ⟨w.goes i H hlt q, Pv (i + 1), fun H' p' => ⟨n - (i + 1), by omega, rfl, hlt, p'⟩, fun x H' y => hs i x H H' hlt p (w.yields i H x H' hlt q y)⟩
  · have e : i = n := by omega
    subst e
    exact .inl ⟨w.stops H q, hd H p⟩

end My

set_option Elab.async false
set_option linter.all false
set_option maxRecDepth 100000
namespace My
open PySem PySem.Spec PyProof.Rows L2 GxR

/-! ### dicts with tuple keys: update, dict(pairs) -/
def mergeT (kvs more : List (List Key × V)) : List (List Key × V) := more.foldl (fun acc kv => putK acc kv.1 kv.2) kvs
theorem kt_merge {H : Hp} : ∀ {more : List (List Key × V)} {ys : List (List Key × Addr × Value)} {kvs : List (List Key × V)} {xs : List (List Key × Addr × Value)}, KT H more ys → KT H kvs xs → KT H (mergeT kvs more) (storedAllH xs ys)
  | _, _, _, _, .nil, q => q
  | _, _, kvs, xs, .cons (a := p) (b := q) (l₁ := l) (l₂ := m) h t, r => by
    obtain ⟨h1, h2, h3⟩ := h
    have z := KT.put r p.1 (b := q.2.1) h2 h3
    rw [show storedH xs p.1 q.2.1 q.2.2 = storedH xs q.1 q.2.1 q.2.2 from by rw [h1]] at z
    have w : KT H (mergeT (putK kvs p.1 p.2) l) (storedAllH (storedH xs q.1 q.2.1 q.2.2) m) := kt_merge t z
    exact w
theorem len_mergeT : ∀ (more kvs : List (List Key × V)), (mergeT kvs more).length ≤ kvs.length + more.length
  | [], _ => Nat.le_refl _
  | p :: m, kvs => by
    have h1 := len_mergeT m (putK kvs p.1 p.2)
    have h2 := length_putK kvs p.1 p.2
    rw [List.length_cons]
    show (mergeT (putK kvs p.1 p.2) m).length ≤ _
    omega
theorem valV_mergeT (j : List Key) : ∀ (more kvs : List (List Key × V)), (valV (mergeT kvs more) j).isSome = ((valV kvs j).isSome || (valV more j).isSome)
  | [], kvs => by rw [show valV ([] : List (List Key × V)) j = none from rfl]; exact (Bool.or_false _).symm
  | p :: m, kvs => by
    show (valV (mergeT (putK kvs p.1 p.2) m) j).isSome = _
    rw [valV_mergeT j m, valV_put]
    by_cases h : j = p.1
    · rw [if_pos h, valV_pos h.symm]; simp
    · rw [if_neg h, valV_neg (fun z => h z.symm)]
/-- the keys' hashes differ -/
def Apart (w : World) (more : List (List Key × V)) : Prop := (more.map fun kv => reduceHash (Builtin.Tuple.tupleHashOf (kv.1.map (keyH w)))).Nodup
theorem kt_hash {P : Program} {w : World} {H : Hp} : ∀ {more : List (List Key × V)} {ys : List (List Key × Addr × Value)}, KT H more ys → (ys.map fun x => (tupleKind (mixKind P w)).hash x.1) = more.map fun kv => reduceHash (Builtin.Tuple.tupleHashOf (kv.1.map (keyH w)))
  | _, _, .nil => rfl
  | _, _, .cons (a := p) (b := q) h t => by
    rw [List.map_cons, List.map_cons, kt_hash t]
    have e : q.1 = p.1 := h.1.symm
    rw [e]; rfl
section
variable {X : Cx}
def rUpdT (w : World) : V → List V → Hp → VK → Prop := fun x xs H Q => ∃ a b kvs ms, x = .ref a ∧ xs = [.ref b] ∧ H a = some (.dT kvs) ∧ H b = some (.dT ms) ∧ a ≠ b ∧ kvs.length + ms.length ≤ sizeLine ∧ (kvs ≠ [] ∨ Apart w ms) ∧ Q .non (upd H a (.dT (mergeT kvs ms)))
theorem mt_updT (hu : X.A.units + 65 < cLine) : MtR X "dict.update" (rUpdT X.w) := by
  intro pins s σ H x xs v us Q I rx rs h
  obtain ⟨a, b, kvs, ms, rfl, rfl, ea, eb, hab, hz, hap, q⟩ := h
  cases rx
  obtain ⟨u, rfl, ru⟩ := vals1 rs
  cases ru
  obtain ⟨za, ha, xa, ra, da⟩ := dt_of I.hok ea
  obtain ⟨zb, hb, xb, rb, db⟩ := dt_of I.hok eb
  have la : xa.length = kvs.length := (Paired.length ra).symm
  have lb : xb.length = ms.length := (Paired.length rb).symm
  have hl : (mergeT kvs ms).length ≤ sizeLine := Nat.le_trans (len_mergeT ms kvs) hz
  refine call_update_dictH (tupleKind_room_in1 (by omega : X.A.units + 1 < cLine)) hab hb da db ?_ (by omega) fun h' dd' _ hs => ?_
  · rcases hap with hap | hap
    · refine .inl fun z => hap ?_
      rw [z] at la
      exact List.eq_nil_of_length_eq_zero la.symm
    · refine .inr ⟨fun y hy => ?_, by rw [kt_hash rb]; exact hap⟩
      obtain ⟨o, es, ep, _, _, _, _, his, _⟩ := db
      obtain ⟨o', items, n, e1, e2, _⟩ := his y hy
      exact ⟨o', e1, e2⟩
  · obtain ⟨q', es, ep, hq, h2, h3, h4, _, h5⟩ := dd'
    refine ⟨.non, upd H a (.dT (mergeT kvs ms)), d_write (t' := s.toks) I (by rw [ea]; exact True.intro) hs ⟨q', hq⟩ ⟨hl, ha, _, (kt_merge rb ra).keeps fun c ys ec => ?_, q', es, ep, hq, h2, h3, h4, h5⟩, rfl, q⟩
    rw [upd_ne (ne_of ec ea (fun z => nomatch z))]; exact ec

/-- dict(xs) of a list of pairs (tuple, value) -/
def rDictPT (K : PySem.W.Frag) : List V → Hp → VK → Prop := fun xs H Q => ∃ (a : Addr) (ps : List Addr) (kvs : List (List Key × V)), xs = [.ref a] ∧ SqL K H a (ps.map V.ref) ∧ Paired (fun p kv => ∃ b, H p = some (.tup [.ref b, kv.2]) ∧ H b = some (.tup (kv.1.map kV))) ps kvs ∧
  ∀ p, H p = none → Q (.ref p) (upd H p (.dT (mergeT [] kvs)))
theorem pairsT_of {pins : List (Addr × Obj)} {σ : L2.St} {H : Hp} {s : Shared} (I : Inv X pins σ H s) : ∀ {ps : List Addr} {kvs : List (List Key × V)}, Paired (fun p kv => ∃ b, H p = some (.tup [.ref b, kv.2]) ∧ H b = some (.tup (kv.1.map kV))) ps kvs →
    ∃ prs : List (List Key × Addr × Value), KT H kvs prs ∧ prs.length = ps.length ∧ ∀ (j : Nat) (q : List Key × Addr × Value), prs[j]? = some q → ∃ p, ps[j]? = some p ∧ IsTup s.heap p #[.ref q.2.1, q.2.2]
  | _, _, .nil => ⟨[], .nil, rfl, fun j q e => by simp at e⟩
  | _, _, .cons (a := p) (b := kv) h t => by
    obtain ⟨prs, r, hl, hp⟩ := pairsT_of I t
    obtain ⟨b, h1, h2⟩ := h
    obtain ⟨its, rv, ht, _⟩ := I.tuple (SqT.of (K := X.K) h1)
    obtain ⟨u, y, rfl, ru, ry⟩ := vals2 rv
    cases ru
    refine ⟨(kv.1, b, y) :: prs, .cons ⟨rfl, h2, ry⟩ r, by rw [List.length_cons, List.length_cons, hl], fun j q e => ?_⟩
    cases j with
    | zero =>
      have e' : (kv.1, b, y) = q := Option.some.inj e
      subst e'
      exact ⟨p, rfl, ht⟩
    | succ j =>
      obtain ⟨b', e1, e2⟩ := hp j q (by simpa using e)
      exact ⟨b', by simpa using e1, e2⟩
theorem call_dictPT (hcalm : X.calm = true) (hu : X.A.units + 65 < cLine) : CallR X (.type "dict") (rDictPT X.K) := by
  intro pins s σ H xs us Q I r q
  obtain ⟨a, ps, kvs, rfl, hq, hp, q⟩ := q
  obtain ⟨u, rfl, rx⟩ := vals1 r
  cases rx
  obtain ⟨its, rv, pl, hz⟩ := I.list hq
  have ei := refs_at rv
  subst ei
  rw [List.length_map] at hz
  obtain ⟨prs, rel, hl, hpr⟩ := pairsT_of I hp
  have keyed : ∀ x ∈ prs, (tupleKind (mixKind X.prog X.w)).is s.heap x.1 x.2.1 := by
    intro x hx
    have all : ∀ {l : List (List Key × V)} {m : List (List Key × Addr × Value)}, KT H l m → ∀ x ∈ m, H x.2.1 = some (.tup (x.1.map kV)) := by
      intro l m q
      induction q with
      | nil => intro x hx; exact nomatch hx
      | @cons p q ps qs hq t ih =>
        intro x hx
        rcases List.mem_cons.mp hx with e | hx
        · subst e
          rw [← hq.1]; exact hq.2.1
        · exact ih x hx
    exact L2.key_of I.hok (all rel x hx)
  refine call_dict_pairsH (knd := tupleKind (mixKind X.prog X.w)) (ps := prs) (PairArg.list a (ps.map Value.ref).toArray (fun j => ps.getD j 0) (prs.map fun x => (Value.ref x.2.1, x.2.2))) (I.ok.hd hcalm) (show X.A.units + 1 + 1 < cLine by omega) ⟨pl, ?_, fun j k v e => ?_⟩ ⟨by rw [List.length_map], fun i key v e => ?_⟩ (fun h' hk x hx => ?_) (by rw [List.length_map, hl]; exact hz) fun h' tk dd' hk => ?_
  · rw [List.size_toArray, List.length_map, List.length_map, hl]
  · rw [List.getElem?_map] at e
    obtain ⟨q0, e0, e1⟩ := Option.map_eq_some_iff.mp e
    cases e1
    obtain ⟨p, ep, ht⟩ := hpr j q0 e0
    have ed : ps.getD j 0 = p := by rw [List.getD_eq_getElem?_getD, ep]; rfl
    refine ⟨?_, .inl ?_⟩
    · show _ = some (Value.ref (ps.getD j 0))
      rw [ed, List.getElem?_toArray, List.getElem?_map, ep]; rfl
    · show s.heap.IsTuple (ps.getD j 0) _
      rw [ed]; obtain ⟨o, h1, h2, n, h3⟩ := ht; exact ⟨o, h1, h2, n, h3⟩
  · rw [show PairRel (prs.map fun x => (Value.ref x.2.1, x.2.2)) i key v = ((prs.map fun x => (Value.ref x.2.1, x.2.2))[i]? = some (key, v)) from rfl, List.getElem?_map] at e
    obtain ⟨q0, e0, e1⟩ := Option.map_eq_some_iff.mp e
    cases e1
    exact ⟨q0.1, q0.2.1, e0, rfl⟩
  · obtain ⟨o, items, n, e1, e2, e3, e4⟩ := keyed x hx
    exact ⟨o, items, n, hk _ _ (Nat.ne_of_lt (Heap.lt_size e1)) (fun z => nomatch z) e1, e2, e3, e4⟩
  · have hm : (s.heap.objs.size == sysModules) = false := beq_eq_false_iff_ne.mpr (Nat.ne_of_gt I.big)
    have hlen : (mergeT [] kvs).length ≤ sizeLine := by
      refine Nat.le_trans (len_mergeT kvs []) ?_
      rw [List.length_nil, Nat.zero_add, Paired.length rel, hl]
      exact hz
    obtain ⟨q', es, ep, hq', h2, h3, h4, _, h5⟩ := dd'
    refine ⟨.ref s.heap.objs.size, upd H s.heap.objs.size (.dT (mergeT [] kvs)), I.laid (t' := tk) (fun b o e => hk b o (fun z => nomatch z) e) (Nat.le_refl _) ⟨hlen, hm, _, (kt_merge rel .nil).keeps fun c ys ec => ?_, q', es, ep, hq', h2, h3, h4, h5⟩, rfl, q _ (I.hok.fresh (Nat.le_refl _))⟩
    rw [upd_ne (ne_of_none ec (I.hok.fresh (Nat.le_refl _)))]; exact ec

/-! ### a pair the other way about -/
theorem cut2 {s : Shared} {A : Around} {E : Value → Shared → Prop} {sl : Addr} {vs : Value} {Q : Int × Int × Nat → Shared → Prop} (hs : s.heap.IsSliceOf sl .none .none vs) (ps : IsPart vs (some (-1))) (h : Q (1, -1, 2) s) :
    wpAny (model X.prog X.w) A (Builtin.Slice.sliceApplied (.ref sl) (pure (2 : Int))) Q E s := by
  obtain ⟨os, hos, hcs, hds⟩ := id hs
  unfold Builtin.Slice.sliceApplied Builtin.Slice.sliceFields
  refine wpAny_bind (wpAny_bind (wpAny_field hos hds (x := .none) rfl (wpAny_bind (wpAny_field hos hds (x := .none) rfl (wpAny_bind (wpAny_field hos hds (x := vs) rfl (wpAny_pure ?_)))))))
  refine wpAny_bind (HT.slicePart_ ps ?_)
  show wpAny _ _ (if ((-1 : Int) == 0) = true then _ else _) _ _ s
  rw [if_neg (by decide)]
  refine wpAny_bind (HT.slicePart_ .none (wpAny_bind (HT.slicePart_ .none (wpAny_bind (wpAny_pure ?_)))))
  exact wpAny_pure h
theorem pick2 (x y : Value) : ((List.range 2).filterMap fun (m : Nat) => (#[x, y] : Array Value)[((1 : Int) + (m : Int) * -1).toNat]?).toArray = #[y, x] := rfl
theorem rev2 {s : Shared} {A : Around} {E : Value → Shared → Prop} {t sl : Addr} {x y vs : Value} {Q : Value → Shared → Prop} (ht : IsTup s.heap t #[x, y]) (hs : s.heap.IsSliceOf sl .none .none vs) (ps : IsPart vs (some (-1)))
    (h : Q (.ref s.heap.objs.size) { s with heap := s.heap.push { cls := .type "tuple", data := .seq #[y, x] } }) : wpAny (model X.prog X.w) A (getItem (.ref t) (.ref sl)) Q E s := by
  obtain ⟨os, hos, hcs, hds⟩ := id hs
  have hTs : s.TypeIs (.ref sl) "slice" := ⟨os, hos, hcs⟩
  have hz : sizeOk (.seq #[y, x]) := by show 2 ≤ sizeLine; decide
  unfold getItem
  try with_reducible refine wpAny_holding ?_
  first | refine wpAny_bind (wpAny_pure ?_) | skip
  refine wpAny_bind (wpAny_sequenceKey ht.typeIs (by decide) ?_)
  refine wpAny_bind (wpAny_callSpecial?_slot (name := Str.ofString "__getitem__") ht.typeIs PyProof.Rows.slot_tuple_getitem (wpAny_call_entry PyProof.Rows.slot_tuple_getitem ht.typeIs entry_tuple_getitem ?_ (args_tuple_getitem _ _)))
  show wpAny _ _ (Builtin.Tuple.tupleItemsOf (.ref t) >>= _) _ _ s
  refine wpAny_bind (tupleItemsOf_ ht (wpAny_bind (wpAny_typeOf hTs ?_)))
  rw [if_pos (by decide)]
  refine wpAny_bind (cut2 hs ps ?_)
  show wpAny _ _ (if ((1 : Int) == 0 && (-1 : Int) == 1 && (2 : Nat) == 2) = true then _ else _) _ _ s
  rw [if_neg (by decide), pick2]
  first
    | exact wpAny_bind (m := Builtin.Tuple.tupleExact _) (wpAny_newObj_type (wpAny_pure ⟨_, rfl, wpAny_pure h⟩) hz)
    | exact wpAny_bind (m := Builtin.Tuple.tupleExact _) (wpAny_newObj_type (wpAny_bind (wpAny_pure (wpAny_pure ⟨_, rfl, wpAny_pure h⟩))) hz)
    | exact wpAny_bind (wpAny_bind (m := Builtin.Tuple.tupleExact _) (wpAny_newObj_type (wpAny_pure (wpAny_pure ⟨_, rfl, wpAny_pure h⟩)) hz))
    | exact wpAny_bind (wpAny_bind (m := Builtin.Tuple.tupleExact _) (wpAny_newObj_type (wpAny_pure ⟨_, rfl, wpAny_pure h⟩) hz))
def tRev2 (te : TE) : TE := fun σ H Q => te σ H fun x H1 => ∃ a u v, x = .ref a ∧ H1 a = some (.tup [u, v]) ∧ ∀ p, H1 p = none → Q (.ref p) (upd H1 p (.tup [v, u]))
theorem pe_rev2 {e : Expr} {te : TE} {k : Nat} {p1 p2 p3 pos : Pos} (he : PE X e te) : PE X (.Subscript e (.Slice none none (some (.UnaryOp .USub (.Constant (.int 1) k p1) p2)) p3) pos) (tRev2 te) := by
  refine ⟨fun pins s σ H Q I h => Subscript_ (thn (he.run pins s σ H _ I h) fun v s1 ⟨x, H1, I1, r1, a, x0, x1, ex, hx, q⟩ => ?_)⟩
  subst ex; cases r1
  have hst : PO X (some (.UnaryOp .USub (.Constant (.int 1) k p1) p2)) (tPart (tUn (rU fun i => .int (-i)) (tC (.int 1)))) := po_some (pe_un un_neg pe_int)
  refine wpAny_Slice (thn (po_none.run pins s1 σ H1 (fun o H2 => o = none ∧ H2 = H1) I1 ⟨rfl, rfl⟩) fun vl s2 ⟨l, H2, I2, pl, el, e2⟩ => ?_); subst el e2
  refine thn (po_none.run pins s2 σ H2 (fun o H3 => o = none ∧ H3 = H2) I2 ⟨rfl, rfl⟩) fun vu s3 ⟨u, H3, I3, pu, eu, e3⟩ => ?_; subst eu e3
  refine thn (hst.run pins s3 σ H3 (fun o H4 => o = some (-1) ∧ H4 = H3) I3 ⟨1, rfl, -1, rfl, rfl, rfl⟩) fun vs s4 ⟨o, H4, I4, ps, eo, e4⟩ => ?_; subst eo e4
  cases pl; cases pu
  generalize hs5 : ({ s4 with heap := s4.heap.push { cls := .type "slice", data := .fields #[.none, .none, vs] } } : Shared) = s5
  have I5 : Inv X pins σ H4 s5 := by
    rw [← hs5]
    exact I4.kept (t' := s4.toks) fun b ob q => Heap.get?_push_of_some _ q
  obtain ⟨its, r, ht, hz⟩ := I5.tuple (SqT.of (K := X.K) hx)
  obtain ⟨u0, u1, rfl, r0, r1⟩ := vals2 r
  have hsl : s5.heap.IsSliceOf s4.heap.objs.size .none .none vs := by rw [← hs5]; exact Heap.IsSliceOf.new _ _ _ _
  refine (?_ : wpAny (model X.prog X.w) X.A (subscriptTail e (.Slice none none (some (.UnaryOp .USub (.Constant (.int 1) k p1) p2)) p3) (.ref a) (.ref s4.heap.objs.size)) (EP X pins σ Q) X.xe s5)
  refine tail_any (ops := [.ref a, .ref s4.heap.objs.size]) ht.typeIs (PyProof.Rows.slot_tuple_getitem.lookup) ?_ (by with_unfolding_all rfl)
  refine rev2 ht hsl ps ⟨.ref _, _, I5.laid (t' := s5.toks) (o := .tup [x1, x0]) (fun b ob q => Heap.get?_push_of_some _ q) (Nat.le_refl _) ?_, rfl, q _ (I5.hok.fresh (Nat.le_refl _))⟩
  exact ⟨by show 2 ≤ sizeLine; decide, [u1, u0], .cons r1 (.cons r0 .nil), IsTup.new _ _⟩

/-! ### {k: v} -/
def tDisp1 (o0 : HO) (tk tv : TE) : TE := fun σ H Q => ∀ p, H p = none → tk σ (upd H p o0) fun x H1 => tv σ H1 fun y H2 => ∃ H3, DPut H2 p x y H3 ∧ Q (.ref p) H3
theorem pe_disp1 {o0 : HO} {k v : Expr} {tk tv : TE} {pos : Pos} (em : Empt o0) (hu : X.A.units + 1 < cLine) (hk : PE X k tk) (hv : PE X v tv) : PE X (.Dict [some k] [v] pos) (tDisp1 o0 tk tv) := by
  refine ⟨fun pins s σ H Q I q => ?_⟩
  have hn := I.hok.fresh (Nat.le_refl s.heap.objs.size)
  have I1 := I.laid (a := s.heap.objs.size) (o := o0) (h' := s.heap.push { cls := .type "dict", data := .dict #[] }) (t' := s.toks) (fun _ _ q => Heap.get?_push_of_some _ q) (Nat.le_refl _) (em _ _ _ _ I.big)
  refine wpAny_Dict_any rfl rfl (by exact fun z => nomatch z) (by show 1 ≤ 15; decide) ?_
  refine pairTrees_cons_walk (thn (hk.run pins _ σ _ _ I1 (q _ hn)) fun u s1 ⟨x, H1, J1, rx, q1⟩ => thn (hv.run pins s1 σ H1 _ J1 q1) fun w2 s2 ⟨y, H2, J2, ry, H3, pu, q2⟩ => ?_)
  refine pairTrees_nil_walk ?_
  unfold storeAll
  rw [List.forIn_cons]
  refine wpAny_bind (wpAny_bind (d_dictPut hu J2 pu rx ry fun s3 J3 => wpAny_pure ?_))
  show wpAny _ _ (forIn [] PUnit.unit _) _ _ s3
  rw [List.forIn_nil]
  exact wpAny_pure ⟨.ref s.heap.objs.size, H3, J3, rfl, q2⟩
end
/-! ### hashes of pairs of places -/
def hv (a b : Nat) : Int := reduceHash (Builtin.Tuple.tupleHashOf [hashInt (a : Int), hashInt (b : Int)])
theorem hv_nd : ((List.range 144).map fun k => hv (k / 12) (k % 12)).Nodup := by decide +kernel
def pk (t : Int × Int) : List Key := [Sum.inl t.1, Sum.inl t.2]
theorem pk_inj {s t : Int × Int} (h : pk s = pk t) : s = t := by
  cases s; cases t; cases h; rfl
theorem hv_inj {a b c d : Nat} (ha : a < 12) (hb : b < 12) (hc : c < 12) (hd : d < 12) (h : hv a b = hv c d) : a = c ∧ b = d := by
  have pw := List.pairwise_iff_getElem.mp (List.nodup_iff_pairwise_ne.mp hv_nd)
  have l : ((List.range 144).map fun k => hv (k / 12) (k % 12)).length = 144 := by rw [List.length_map, List.length_range]
  have g : ∀ k (hk : k < ((List.range 144).map fun k => hv (k / 12) (k % 12)).length), ((List.range 144).map fun k => hv (k / 12) (k % 12))[k] = hv (k / 12) (k % 12) := fun k hk => by
    rw [List.getElem_map, List.getElem_range]
  have e1 : (12 * a + b) / 12 = a := by omega
  have e2 : (12 * a + b) % 12 = b := by omega
  have e3 : (12 * c + d) / 12 = c := by omega
  have e4 : (12 * c + d) % 12 = d := by omega
  have hi : 12 * a + b < ((List.range 144).map fun k => hv (k / 12) (k % 12)).length := by omega
  have hj : 12 * c + d < ((List.range 144).map fun k => hv (k / 12) (k % 12)).length := by omega
  rcases Nat.lt_trichotomy (12 * a + b) (12 * c + d) with z | z | z
  · have := pw _ _ hi hj z
    rw [g, g, e1, e2, e3, e4] at this
    exact absurd h this
  · omega
  · have := pw _ _ hj hi z
    rw [g, g, e1, e2, e3, e4] at this
    exact absurd h.symm this
/-- keys that are pairs of places below twelve -/
theorem apart_pk {w : World} {ms : List (List Key × V)} {cs : List (Int × Int)} (hk : ms.map (·.1) = cs.map pk) (nd : cs.Nodup) (hr : ∀ t ∈ cs, 0 ≤ t.1 ∧ t.1 < 12 ∧ 0 ≤ t.2 ∧ t.2 < 12) : Apart w ms := by
  unfold Apart
  have e : (ms.map fun kv => reduceHash (Builtin.Tuple.tupleHashOf (kv.1.map (keyH w)))) = cs.map fun t => reduceHash (Builtin.Tuple.tupleHashOf ((pk t).map (keyH w))) := by
    have := congrArg (List.map fun k => reduceHash (Builtin.Tuple.tupleHashOf (k.map (keyH w)))) hk
    rw [List.map_map, List.map_map] at this
    exact this
  rw [e, List.nodup_iff_pairwise_ne, List.pairwise_map]
  refine (List.nodup_iff_pairwise_ne.mp nd).imp_of_mem fun {s t} hs ht ne h => ne ?_
  have bs := hr s hs
  have bt := hr t ht
  have hh : ∀ t : Int × Int, 0 ≤ t.1 → 0 ≤ t.2 → reduceHash (Builtin.Tuple.tupleHashOf ((pk t).map (keyH w))) = hv t.1.toNat t.2.toNat := fun t h1 h2 => by
    unfold hv
    rw [Int.toNat_of_nonneg h1, Int.toNat_of_nonneg h2]; rfl
  rw [hh s bs.1 bs.2.2.1, hh t bt.1 bt.2.2.1] at h
  obtain ⟨h1, h2⟩ := hv_inj (by omega) (by omega) (by omega) (by omega) h
  exact Prod.ext (by omega) (by omega)
def JoinA (kvs : List (List Key × V)) (C : List (Int × Int)) : Prop := ∀ o : Int × Int, (valV kvs (pk o)).isSome = decide (o ∈ C)
theorem joinA_put {kvs : List (List Key × V)} {C : List (Int × Int)} (h : JoinA kvs C) (t : Int × Int) (v : V) : JoinA (putK kvs (pk t) v) (C ++ [t]) := fun o => by
  rw [valV_put]
  by_cases e : o = t
  · subst e
    rw [if_pos rfl]
    exact (decide_eq_true (List.mem_append_right _ (List.mem_singleton.mpr rfl))).symm
  · rw [if_neg (fun z => e (pk_inj z)), h o]
    refine decide_eq_decide.mpr ?_
    rw [List.mem_append, List.mem_singleton]
    exact ⟨.inl, fun z => z.elim id fun z => absurd z e⟩
end My

set_option Elab.async false
set_option linter.all false
set_option maxRecDepth 100000
namespace My
open PySem PySem.Spec PyProof.Rows L2 GxR

/-! ### in, of tuples -/
def rInDT (K : PySem.W.Frag) : R2 := fun x y H Q => ∃ d ds, Dp K H x d ∧ Dp K H y (.tuple ds) ∧ SeqAt.shaped d = true ∧ SeqAt.shaped (.tuple ds) = true ∧ Q (.bl (ds.any fun z => PyData.eqv z d)) H
theorem op_inDT {X : Cx} (hu : X.A.units + 65 < cLine) : OpR X (compareOp .In) (rInDT X.K) := fun pins s σ H x y v u Q I rx ry ⟨d, ds, hd, he, sd, se, q⟩ => by
  obtain ⟨as, r1⟩ := Dp.reads I d x v hd rx
  obtain ⟨bs, r2⟩ := Dp.reads I (.tuple ds) y u he ry
  exact SeqAt.in_tuple_reads r2 r1 (SeqAt.canLay_of_shaped se) (SeqAt.canLay_of_shaped sd) (room_in_shaped sd hu) ⟨.bl _, H, I, rfl, q⟩
theorem shaped_tup (ts : List (Int × Int)) : SeqAt.shaped (.tuple (ts.map dT)) = true := by
  unfold SeqAt.shaped
  rw [Bool.and_eq_true, decide_eq_true_eq]
  refine ⟨can_ties ts, ?_⟩
  show PyData.depthAll _ + 1 ≤ 64
  have := dep_ties ts
  omega
theorem any_dT (ts : List (Int × Int)) (t : Int × Int) : ((ts.map dT).any fun z => PyData.eqv z (dT t)) = decide (t ∈ ts) := by
  induction ts with
  | nil => rfl
  | cons a l ih =>
    rw [List.map_cons, List.any_cons, ih, eqv_dT]
    by_cases h : a = t
    · subst h; simp
    · have h' : ¬ t = a := fun e => h e.symm
      simp [h, h']

/-! ### ties of two places, gaps -/
def tieO (a b : Int) : Int × Int := if a < b then (a, b) else (b, a)
theorem tieO_tied {n : Nat} {ts : List (Int × Int)} (hw : WOk n ts) (a b : Int) : tieO a b ∈ ts ↔ ((a, b) ∈ ts ∨ (b, a) ∈ ts) := by
  unfold tieO
  split
  · rename_i h
    constructor
    · exact .inl
    · rintro (z | z)
      · exact z
      · have := hw.2 _ z; dsimp only at this; omega
  · rename_i h
    constructor
    · exact .inr
    · rintro (z | z)
      · have := hw.2 _ z; dsimp only at this; omega
      · exact z
def gapsF (ts : List (Int × Int)) (l : List (Int × Int)) : List (Int × Int) := l.filter fun t => !decide (t ∈ ts)
theorem gaps_app (ts l m : List (Int × Int)) : gapsF ts (l ++ m) = gapsF ts l ++ gapsF ts m := List.filter_append ..
theorem gaps_one (ts : List (Int × Int)) (t : Int × Int) : gapsF ts [t] = if t ∈ ts then [] else [t] := by
  unfold gapsF
  by_cases h : t ∈ ts <;> simp [h]
theorem gaps_sub (ts l : List (Int × Int)) : (gapsF ts l).Sublist l := List.filter_sublist
theorem gaps_len {n : Nat} {ts : List (Int × Int)} (hn : n ≤ 100) : (gapsF ts (pup n n)).length ≤ 10000 := Nat.le_trans (gaps_sub _ _).length_le (pup_len' hn (Nat.le_refl n))
theorem gaps_wok {n : Nat} (ts : List (Int × Int)) : WOk n (gapsF ts (pup n n)) := wok_sub (gaps_sub _ _)
theorem pw_ext {l m : List (Int × Int)} (hl : l.Pairwise ltT) (hm : m.Pairwise ltT) (h : ∀ t, t ∈ l ↔ t ∈ m) : l = m := by
  have nd : ∀ {k : List (Int × Int)}, k.Pairwise ltT → k.Nodup := fun hk => List.nodup_iff_pairwise_ne.mpr (hk.imp fun {s t} h e => by subst e; exact ltT_irr h)
  refine List.Perm.eq_of_pairwise (le := ltT) (fun a b _ _ h1 h2 => by rcases h1 with z | ⟨z, y⟩ <;> rcases h2 with u | ⟨u, v⟩ <;> omega) hl hm ((List.perm_ext_iff_of_nodup (nd hl) (nd hm)).mpr h)
theorem gaps_gaps {n : Nat} {ts : List (Int × Int)} (hw : WOk n ts) : gapsF (gapsF ts (pup n n)) (pup n n) = ts := by
  refine pw_ext (gaps_wok _).1 hw.1 fun t => ?_
  unfold gapsF
  rw [List.mem_filter, Bool.not_eq_true', decide_eq_false_iff_not, List.mem_filter, Bool.not_eq_true', decide_eq_false_iff_not]
  constructor
  · rintro ⟨h1, h2⟩
    exact Classical.byContradiction fun z => h2 ⟨h1, z⟩
  · intro h
    refine ⟨(mem_pup (Nat.le_refl n)).mpr ?_, fun z => z.2 h⟩
    have := hw.2 t h
    omega
def JoinD (kvs : List (List Key × V)) (ts : List (Int × Int)) : Prop := ∀ a b : Int, (valV kvs [Sum.inl a, Sum.inl b]).isSome = decide ((a, b) ∈ ts)
theorem join_put {kvs : List (List Key × V)} {ts : List (Int × Int)} (h : JoinD kvs ts) (t : Int × Int) (v : V) : JoinD (putK kvs [Sum.inl t.1, Sum.inl t.2] v) (ts ++ [t]) := fun a b => by
  rw [valV_put]
  cases t with | mk x y =>
  dsimp only
  by_cases h2 : a = x ∧ b = y
  · obtain ⟨rfl, rfl⟩ := h2
    rw [if_pos rfl]
    exact (decide_eq_true (List.mem_append_right _ (List.mem_singleton.mpr rfl))).symm
  · have n2 : ¬ ([Sum.inl a, Sum.inl b] : List Key) = [Sum.inl x, Sum.inl y] := fun e => by
      cases e; exact h2 ⟨rfl, rfl⟩
    rw [if_neg n2, h a b]
    refine decide_eq_decide.mpr ?_
    rw [List.mem_append, List.mem_singleton]
    constructor
    · exact .inl
    · rintro (z | z)
      · exact z
      · cases z; exact absurd ⟨rfl, rfl⟩ h2

end My

set_option Elab.async false
set_option linter.all false
set_option maxRecDepth 100000
namespace My
open PySem PySem.Spec PyProof.Rows L2 GxR

section
variable {P : Program} {w : World} {K : PySem.W.Frag} {mg : Str → Option Value} {base : Heap}
/-! ### tie_of -/
abbrev s_tie_of : Stmt := topS 1
abbrev N_tie_of : List Str := ["a", "b"]
theorem sc_tie_of : FnScope N_tie_of ["a", "b"] (defScope s_tie_of) := ⟨rfl, rfl, rfl, by decide +kernel, rfl, by decide +kernel, by decide +kernel⟩
def sp_tie_of : Sp := fun vs H Q _ => ∃ a b : Int, vs = [.int a, .int b] ∧ ∀ p, H p = none → Q (.ref p) (upd H p (.tup [.int (tieO a b).1, .int (tieO a b).2]))
theorem ok_tie_of {f : Addr} {fd : FuncData} (B : Bts mg) (F : Fun K "tie_of" "tie_of" s_tie_of f fd) : FnOk P w K mg base CX0 1 f fd ["a", "b"] sp_tie_of := by
  refine F.ok sc_tie_of (fun vs H Q E h => ?_) (fun cdv A outer s H vs Q E hr h => ?_)
  · obtain ⟨a, b, rfl, _⟩ := h; rfl
  · obtain ⟨a, b, rfl, q⟩ := h
    refine ⟨_, (pss_one (ps_ret (pe_ifExp (pt_cmpR op_lt (pv 0) (pv 1) (nomark _)) (pe_tup (pa_cons (pv 0) (pa_cons (pv 1) pa_nil))) (pe_tup (pa_cons (pv 1) (pa_cons (pv 0) pa_nil)))))), ?_⟩
    unfold tieO at q
    refine ⟨_, rfl, _, rfl, _, _, rfl, rfl, _, rfl, ite2 (fun e => ?_) (fun e => ?_)⟩
    · rw [if_pos (of_decide_eq_true e)] at q
      exact ⟨_, rfl, _, rfl, by show 2 ≤ sizeLine; decide, q⟩
    · rw [if_neg (fun z => e (decide_eq_true z))] at q
      exact ⟨_, rfl, _, rfl, by show 2 ≤ sizeLine; decide, q⟩
end
end My

set_option Elab.async false
set_option linter.all false
set_option maxRecDepth 100000
namespace My
open PySem PySem.Spec PyProof.Rows L2 GxR

/-! ### forcings: what the law's own going on makes -/
abbrev Ar := Int × Int
def sw (t : Ar) : Ar := (t.2, t.1)
theorem sw_sw (t : Ar) : sw (sw t) = t := rfl
def InR (n : Nat) (t : Ar) : Prop := 0 ≤ t.1 ∧ t.1 < (n : Int) ∧ 0 ≤ t.2 ∧ t.2 < (n : Int)
def allP (n : Nat) : List Ar := (up n).flatMap fun a => (up n).map fun b => (a, b)
theorem mem_allP {n : Nat} {t : Ar} : t ∈ allP n ↔ InR n t := by
  unfold allP InR
  rw [List.mem_flatMap]
  constructor
  · rintro ⟨a, ha, h⟩
    obtain ⟨b, hb, rfl⟩ := List.mem_map.mp h
    have h1 := mem_up.mp ha
    have h2 := mem_up.mp hb
    exact ⟨h1.1, h1.2, h2.1, h2.2⟩
  · rintro ⟨h1, h2, h3, h4⟩
    exact ⟨t.1, mem_up.mpr ⟨h1, h2⟩, List.mem_map.mpr ⟨t.2, mem_up.mpr ⟨h3, h4⟩, rfl⟩⟩
theorem up_pw' (n : Nat) : (up n).Pairwise (· < ·) := by
  unfold up
  rw [List.pairwise_map]
  exact List.pairwise_lt_range.imp fun {x y} h => Int.ofNat_lt.mpr h
theorem allP_pw (n : Nat) : (allP n).Pairwise ltT := by
  unfold allP
  rw [List.pairwise_flatMap]
  refine ⟨fun a _ => ?_, (up_pw' n).imp fun {a b} h x hx y hy => ?_⟩
  · rw [List.pairwise_map]
    exact (up_pw' n).imp fun h => .inr ⟨rfl, h⟩
  · obtain ⟨_, _, rfl⟩ := List.mem_map.mp hx
    obtain ⟨_, _, rfl⟩ := List.mem_map.mp hy
    exact .inl h
theorem allP_len (n : Nat) : (allP n).length = n * n := by
  unfold allP
  have : ∀ l : List Int, (l.flatMap fun a => (up n).map fun b => (a, b)).length = l.length * n := by
    intro l
    induction l with
    | nil => exact (Nat.zero_mul _).symm
    | cons a l ih => rw [List.flatMap_cons, List.length_append, ih, List.length_map, up_len, List.length_cons, Nat.succ_mul, Nat.add_comm]
  rw [this, up_len]
theorem nd_pw {l : List Ar} (h : l.Pairwise ltT) : l.Nodup := List.nodup_iff_pairwise_ne.mpr (h.imp fun {s t} h e => by subst e; exact ltT_irr h)
def nrB (ts : List Ar) (a b : Int) : Bool := decide ((a, b) ∈ ts ∨ (b, a) ∈ ts)
def tA (ts : List Ar) (a b c : Int) : Bool := !decide (c = b) && (nrB ts a c && !nrB ts b c)
def tB' (ts : List Ar) (a b c : Int) : Bool := !decide (c = a) && (nrB ts c b && !nrB ts a c)
def frcA (ts : List Ar) (a b : Int) (l : List Int) : List Ar := (l.filter (tA ts a b)).map fun c => (a, c)
def frcB (ts : List Ar) (a b : Int) (l : List Int) : List Ar := (l.filter (tB' ts a b)).map fun c => (c, b)
def frcL (n : Nat) (ts : List Ar) (t : Ar) : List Ar := frcA ts t.1 t.2 (up n) ++ frcB ts t.1 t.2 (up n)
theorem frcA_step (ts : List Ar) (a b : Int) (l : List Int) (c : Int) : frcA ts a b (l ++ [c]) = frcA ts a b l ++ (if tA ts a b c = true then [(a, c)] else []) := by
  unfold frcA
  rw [List.filter_append, List.map_append]
  by_cases h : tA ts a b c = true
  · rw [if_pos h, List.filter_cons_of_pos h]; rfl
  · rw [if_neg h, List.filter_cons_of_neg h]; rfl
theorem frcB_step (ts : List Ar) (a b : Int) (l : List Int) (c : Int) : frcB ts a b (l ++ [c]) = frcB ts a b l ++ (if tB' ts a b c = true then [(c, b)] else []) := by
  unfold frcB
  rw [List.filter_append, List.map_append]
  by_cases h : tB' ts a b c = true
  · rw [if_pos h, List.filter_cons_of_pos h]; rfl
  · rw [if_neg h, List.filter_cons_of_neg h]; rfl
theorem frcA_len (ts : List Ar) (a b : Int) (l : List Int) : (frcA ts a b l).length ≤ l.length := by
  unfold frcA; rw [List.length_map]; exact List.length_filter_le _ _
theorem frcB_len (ts : List Ar) (a b : Int) (l : List Int) : (frcB ts a b l).length ≤ l.length := by
  unfold frcB; rw [List.length_map]; exact List.length_filter_le _ _
theorem mem_frc {n : Nat} {ts : List Ar} {t x : Ar} : x ∈ frcL n ts t ↔
    (x.1 = t.1 ∧ 0 ≤ x.2 ∧ x.2 < (n : Int) ∧ tA ts t.1 t.2 x.2 = true) ∨ (x.2 = t.2 ∧ 0 ≤ x.1 ∧ x.1 < (n : Int) ∧ tB' ts t.1 t.2 x.1 = true) := by
  unfold frcL frcA frcB
  rw [List.mem_append, List.mem_map, List.mem_map]
  constructor
  · rintro (⟨c, hc, rfl⟩ | ⟨c, hc, rfl⟩)
    · obtain ⟨h1, h2⟩ := List.mem_filter.mp hc
      have := mem_up.mp h1
      exact .inl ⟨rfl, this.1, this.2, h2⟩
    · obtain ⟨h1, h2⟩ := List.mem_filter.mp hc
      have := mem_up.mp h1
      exact .inr ⟨rfl, this.1, this.2, h2⟩
  · rintro (⟨h1, h2, h3, h4⟩ | ⟨h1, h2, h3, h4⟩)
    · exact .inl ⟨x.2, List.mem_filter.mpr ⟨mem_up.mpr ⟨h2, h3⟩, h4⟩, Prod.ext h1.symm rfl⟩
    · exact .inr ⟨x.1, List.mem_filter.mpr ⟨mem_up.mpr ⟨h2, h3⟩, h4⟩, Prod.ext rfl h1.symm⟩
theorem frc_nd (n : Nat) (ts : List Ar) (t : Ar) : (frcL n ts t).Nodup := by
  unfold frcL frcA frcB
  rw [List.nodup_append]
  refine ⟨?_, ?_, fun x hx y hy e => ?_⟩
  · rw [List.nodup_iff_pairwise_ne, List.pairwise_map]
    exact ((List.nodup_iff_pairwise_ne.mp (up_nodup n)).sublist List.filter_sublist).imp fun h e => h (Prod.ext_iff.mp e).2
  · rw [List.nodup_iff_pairwise_ne, List.pairwise_map]
    exact ((List.nodup_iff_pairwise_ne.mp (up_nodup n)).sublist List.filter_sublist).imp fun h e => h (Prod.ext_iff.mp e).1
  · subst e
    obtain ⟨c, hc, rfl⟩ := List.mem_map.mp hx
    obtain ⟨d, hd, e⟩ := List.mem_map.mp hy
    have h1 := (List.mem_filter.mp hc).2
    have e2 := (Prod.ext_iff.mp e).2
    unfold tA at h1
    rw [Bool.and_eq_true, Bool.not_eq_true', decide_eq_false_iff_not] at h1
    exact h1.1 e2.symm
theorem frc_rng {n : Nat} {ts : List Ar} {t x : Ar} (ht : InR n t) (h : x ∈ frcL n ts t) : InR n x := by
  obtain ⟨a1, a2, a3, a4⟩ := ht
  rcases mem_frc.mp h with ⟨h1, h2, h3, _⟩ | ⟨h1, h2, h3, _⟩
  · exact ⟨by omega, by omega, h2, h3⟩
  · exact ⟨h2, h3, by omega, by omega⟩
/-- the forced ones, rising -/
def frcS (n : Nat) (ts : List Ar) (t : Ar) : List Ar := (allP n).filter fun x => decide (x ∈ frcL n ts t)
theorem mem_frcS {n : Nat} {ts : List Ar} {t x : Ar} (ht : InR n t) : x ∈ frcS n ts t ↔ x ∈ frcL n ts t := by
  unfold frcS
  rw [List.mem_filter, decide_eq_true_eq, mem_allP]
  exact ⟨fun h => h.2, fun h => ⟨frc_rng ht h, h⟩⟩
theorem frcS_pw (n : Nat) (ts : List Ar) (t : Ar) : (frcS n ts t).Pairwise ltT := (allP_pw n).sublist List.filter_sublist
theorem frcS_eq {n : Nat} {ts fs : List Ar} {t : Ar} (ht : InR n t) (hp : fs.Perm (frcL n ts t)) (hs : fs.Pairwise (fun s t => ¬ ltT t s)) : fs = frcS n ts t :=
  pw_eq (pw_lt hs (hp.nodup_iff.mpr (frc_nd n ts t))) (frcS_pw n ts t) fun x => hp.mem_iff.trans (mem_frcS ht).symm
/-- what is found and what waits, behind the forced ones fs -/
def grow (fs : List Ar) (fw : List Ar × List Ar) : List Ar × List Ar := fs.foldl (fun fw o => if o ∈ fw.1 then fw else (fw.1 ++ [o], fw.2 ++ [o])) fw
theorem grow_step (fs : List Ar) (o : Ar) (fw : List Ar × List Ar) : grow (fs ++ [o]) fw = if o ∈ (grow fs fw).1 then grow fs fw else ((grow fs fw).1 ++ [o], (grow fs fw).2 ++ [o]) := by
  unfold grow; rw [List.foldl_append]; rfl
def comeR (n : Nat) (ts : List Ar) : Nat → List Ar × List Ar → List Ar
  | 0, fw => fw.1
  | k + 1, fw => match fw.2.getLast? with
    | none => fw.1
    | some x => comeR n ts k (grow (frcS n ts x) (fw.1, fw.2.dropLast))
def comeF (n : Nat) (ts : List Ar) (t : Ar) : List Ar := comeR n ts (2 * (n * n) + 1) ([t], [t])
theorem comeR_nil (n : Nat) (ts cs : List Ar) : ∀ k, comeR n ts k (cs, []) = cs
  | 0 => rfl
  | _ + 1 => rfl
structure GrowI (n : Nat) (fw : List Ar × List Ar) : Prop where
  nd : fw.1.Nodup
  rng : ∀ t ∈ fw.1, InR n t
  sub : ∀ t ∈ fw.2, InR n t
theorem grow_all {n : Nat} : ∀ {fs : List Ar} {fw : List Ar × List Ar}, GrowI n fw → (∀ t ∈ fs, InR n t) → GrowI n (grow fs fw) ∧ ∃ k, (grow fs fw).1.length = fw.1.length + k ∧ (grow fs fw).2.length = fw.2.length + k
  | [], fw, h, _ => ⟨h, 0, rfl, rfl⟩
  | o :: fs, fw, h, hr => by
    show GrowI n (grow fs (if o ∈ fw.1 then fw else (fw.1 ++ [o], fw.2 ++ [o]))) ∧ _
    have ho := hr o List.mem_cons_self
    by_cases hm : o ∈ fw.1
    · have e : grow (o :: fs) fw = grow fs fw := by
        show grow fs (if o ∈ fw.1 then fw else _) = _
        rw [if_pos hm]
      rw [if_pos hm, e]
      exact grow_all h fun t ht => hr t (List.mem_cons_of_mem _ ht)
    · have e : grow (o :: fs) fw = grow fs (fw.1 ++ [o], fw.2 ++ [o]) := by
        show grow fs (if o ∈ fw.1 then fw else _) = _
        rw [if_neg hm]
      have h' : GrowI n (fw.1 ++ [o], fw.2 ++ [o]) := by
        refine ⟨?_, fun t ht => ?_, fun t ht => ?_⟩
        · rw [List.nodup_append]
          refine ⟨h.nd, List.nodup_cons.mpr ⟨List.not_mem_nil, List.nodup_nil⟩, fun a ha b hb e => ?_⟩
          rw [List.mem_singleton.mp hb] at e
          subst e; exact hm ha
        · rcases List.mem_append.mp ht with z | z
          · exact h.rng t z
          · rw [List.mem_singleton.mp z]; exact ho
        · rcases List.mem_append.mp ht with z | z
          · exact h.sub t z
          · rw [List.mem_singleton.mp z]; exact ho
      rw [if_neg hm, e]
      obtain ⟨i1, k, l1, l2⟩ := grow_all h' fun t ht => hr t (List.mem_cons_of_mem _ ht)
      rw [List.length_append] at l1 l2
      exact ⟨i1, k + 1, by rw [l1]; show _ + 1 + k = _; omega, by rw [l2]; show _ + 1 + k = _; omega⟩
theorem cs_len {n : Nat} {cs : List Ar} (nd : cs.Nodup) (h : ∀ t ∈ cs, InR n t) : cs.length ≤ n * n := by
  rw [← allP_len n]
  exact nd_len nd fun t ht => mem_allP.mpr (h t ht)

/-! ### the first pointing, as the law's own way makes it -/
def firstG (n : Nat) (ts : List Ar) : List Ar → List Ar → Option (List Ar)
  | [], C => some C
  | t :: r, C => if t ∈ C ∨ sw t ∈ C then firstG n ts r C else if sw t ∈ comeF n ts t then none else firstG n ts r (C ++ comeF n ts t)
def firstF (n : Nat) (ts : List Ar) : Option (List Ar) := (firstG n ts ts []).map fun C => ts.map fun t => if t ∈ C then t else sw t
/-- arrows for the ties, in their order -/
def nrm (p : Ar) : Ar := if p.1 < p.2 then p else sw p
def Pts (ts ps : List Ar) : Prop := ps.map nrm = ts
theorem nrm_t {t : Ar} (h : t.1 < t.2) : nrm t = t := if_pos h
theorem nrm_sw {t : Ar} (h : t.1 < t.2) : nrm (sw t) = t := by
  unfold nrm sw
  dsimp only
  rw [if_neg (by omega)]
theorem first_pts {n : Nat} {ts ps : List Ar} (hw : WOk n ts) (h : firstF n ts = some ps) : Pts ts ps := by
  unfold firstF at h
  obtain ⟨C, _, rfl⟩ := Option.map_eq_some_iff.mp h
  unfold Pts
  rw [List.map_map]
  have : ∀ t ∈ ts, (nrm ∘ fun t => if t ∈ C then t else sw t) t = id t := fun t ht => by
    have b := hw.2 t ht
    show nrm (if t ∈ C then t else sw t) = t
    split
    · exact nrm_t b.2.1
    · exact nrm_sw b.2.1
  rw [List.map_congr_left this, List.map_id]
end My

set_option Elab.async false
set_option linter.all false
set_option maxRecDepth 100000
namespace My
open PySem PySem.Spec PyProof.Rows L2 GxR

theorem inV_int (ns : List Int) (x : Int) : inV (.int x) (ns.map V.int) = decide (x ∈ ns) := by
  unfold inV
  induction ns with
  | nil => rfl
  | cons a l ih =>
    rw [List.map_cons, List.any_cons, ih]
    by_cases h : a = x
    · subst h; simp [eqV]
    · have h' : ¬ x = a := fun e => h e.symm
      simp [eqV, h, h']
/-! ### the places that each place is tied to -/
def nearT (p : Int) (t : Ar) : Option Int := if t.1 = p then some t.2 else if t.2 = p then some t.1 else none
def nearL (ts : List Ar) (p : Int) : List Int := ts.filterMap (nearT p)
theorem nearL_step (ts : List Ar) (t : Ar) (p : Int) : nearL (ts ++ [t]) p = nearL ts p ++ (if t.1 = p then [t.2] else if t.2 = p then [t.1] else []) := by
  unfold nearL
  rw [List.filterMap_append]
  congr 1
  rw [List.filterMap_cons, List.filterMap_nil]
  unfold nearT
  by_cases h1 : t.1 = p
  · rw [if_pos h1, if_pos h1]
  · rw [if_neg h1, if_neg h1]
    by_cases h2 : t.2 = p
    · rw [if_pos h2, if_pos h2]
    · rw [if_neg h2, if_neg h2]
theorem nearL_len (ts : List Ar) (p : Int) : (nearL ts p).length ≤ ts.length := List.length_filterMap_le _ _
theorem mem_nearL {ts : List Ar} {p c : Int} : c ∈ nearL ts p ↔ ((p, c) ∈ ts ∨ (c, p) ∈ ts) := by
  unfold nearL
  rw [List.mem_filterMap]
  constructor
  · rintro ⟨⟨x, y⟩, ht, e⟩
    unfold nearT at e
    dsimp only at e
    by_cases h1 : x = p
    · rw [if_pos h1] at e; cases e; subst h1; exact .inl ht
    · rw [if_neg h1] at e
      by_cases h2 : y = p
      · rw [if_pos h2] at e; cases e; subst h2; exact .inr ht
      · rw [if_neg h2] at e; cases e
  · rintro (h | h)
    · exact ⟨_, h, if_pos rfl⟩
    · refine ⟨_, h, ?_⟩
      unfold nearT
      dsimp only
      by_cases h1 : c = p
      · rw [if_pos h1, h1]
      · rw [if_neg h1, if_pos rfl]
theorem nearL_nrB {ts : List Ar} {p c : Int} : decide (c ∈ nearL ts p) = nrB ts p c := by
  unfold nrB
  exact decide_eq_decide.mpr mem_nearL
theorem nrB_comm (ts : List Ar) (a b : Int) : nrB ts a b = nrB ts b a := decide_eq_decide.mpr Or.comm
theorem nearL_nd {n : Nat} {ts : List Ar} (hw : WOk n ts) (p : Int) : (nearL ts p).Nodup := by
  unfold nearL
  rw [List.nodup_iff_pairwise_ne, List.pairwise_filterMap]
  refine hw.1.imp_of_mem fun {s t} hs ht h c hc d hd e => ?_
  have bs := hw.2 s hs
  have bt := hw.2 t ht
  subst e
  cases s with | mk s1 s2 =>
  cases t with | mk t1 t2 =>
  unfold nearT at hc hd
  unfold ltT at h
  dsimp only at *
  split at hc
  · split at hd
    · cases hc; cases hd; omega
    · split at hd
      · cases hc; cases hd; omega
      · cases hd
  · split at hc
    · split at hd
      · cases hc; cases hd; omega
      · split at hd
        · cases hc; cases hd; omega
        · cases hd
    · cases hc
/-! ### what a forced_by makes -/
def tE (ts : List Ar) (a b : Int) (c : Int) : Bool := !decide (c = b) && !decide (c ∈ nearL ts b)
def endsL (ts : List Ar) (a b : Int) (l : List Int) : List Ar := (l.filter (tE ts a b)).map fun c => (a, c)
def begL (ts : List Ar) (a b : Int) (l : List Int) : List Ar := (l.filter (tE ts b a)).map fun c => (c, b)
theorem endsL_step (ts : List Ar) (a b : Int) (l : List Int) (c : Int) : endsL ts a b (l ++ [c]) = endsL ts a b l ++ (if tE ts a b c = true then [(a, c)] else []) := by
  unfold endsL
  rw [List.filter_append, List.map_append]
  by_cases h : tE ts a b c = true
  · rw [if_pos h, List.filter_cons_of_pos h]; rfl
  · rw [if_neg h, List.filter_cons_of_neg h]; rfl
theorem begL_step (ts : List Ar) (a b : Int) (l : List Int) (c : Int) : begL ts a b (l ++ [c]) = begL ts a b l ++ (if tE ts b a c = true then [(c, b)] else []) := by
  unfold begL
  rw [List.filter_append, List.map_append]
  by_cases h : tE ts b a c = true
  · rw [if_pos h, List.filter_cons_of_pos h]; rfl
  · rw [if_neg h, List.filter_cons_of_neg h]; rfl
theorem endsL_len (ts : List Ar) (a b : Int) (l : List Int) : (endsL ts a b l).length ≤ l.length := by
  unfold endsL; rw [List.length_map]; exact List.length_filter_le _ _
theorem begL_len (ts : List Ar) (a b : Int) (l : List Int) : (begL ts a b l).length ≤ l.length := by
  unfold begL; rw [List.length_map]; exact List.length_filter_le _ _
def fbL (ts : List Ar) (t : Ar) : List Ar := endsL ts t.1 t.2 (nearL ts t.1) ++ begL ts t.1 t.2 (nearL ts t.2)
theorem near_rng {n : Nat} {ts : List Ar} (hw : WOk n ts) {p c : Int} (h : nrB ts p c = true) : 0 ≤ c ∧ c < (n : Int) := by
  rcases of_decide_eq_true h with z | z
  · have := hw.2 _ z; dsimp only at this; omega
  · have := hw.2 _ z; dsimp only at this; omega
theorem mem_fb {n : Nat} {ts : List Ar} (hw : WOk n ts) {t x : Ar} : x ∈ fbL ts t ↔ x ∈ frcL n ts t := by
  have tE' : ∀ a b c, tE ts a b c = (!decide (c = b) && !nrB ts b c) := fun a b c => by unfold tE; rw [nearL_nrB]
  rw [mem_frc]
  unfold fbL endsL begL
  rw [List.mem_append, List.mem_map, List.mem_map]
  constructor
  · rintro (⟨c, hc, rfl⟩ | ⟨c, hc, rfl⟩)
    · obtain ⟨h1, h2⟩ := List.mem_filter.mp hc
      have h1' : nrB ts t.1 c = true := by rw [← nearL_nrB]; exact decide_eq_true h1
      have r := near_rng hw h1'
      refine .inl ⟨rfl, r.1, r.2, ?_⟩
      rw [tE', Bool.and_eq_true] at h2
      unfold tA
      rw [h2.1, h1', h2.2]; rfl
    · obtain ⟨h1, h2⟩ := List.mem_filter.mp hc
      have h1' : nrB ts t.2 c = true := by rw [← nearL_nrB]; exact decide_eq_true h1
      have r := near_rng hw h1'
      refine .inr ⟨rfl, r.1, r.2, ?_⟩
      rw [tE', Bool.and_eq_true] at h2
      unfold tB'
      rw [h2.1, nrB_comm, h1', h2.2]; rfl
  · rintro (⟨h1, h2, h3, h4⟩ | ⟨h1, h2, h3, h4⟩)
    · unfold tA at h4
      rw [Bool.and_eq_true, Bool.and_eq_true] at h4
      refine .inl ⟨x.2, List.mem_filter.mpr ⟨?_, ?_⟩, Prod.ext h1.symm rfl⟩
      · exact of_decide_eq_true (nearL_nrB.trans h4.2.1)
      · rw [tE', h4.1, h4.2.2]; rfl
    · unfold tB' at h4
      rw [Bool.and_eq_true, Bool.and_eq_true, nrB_comm] at h4
      refine .inr ⟨x.1, List.mem_filter.mpr ⟨?_, ?_⟩, Prod.ext rfl h1.symm⟩
      · exact of_decide_eq_true (nearL_nrB.trans h4.2.1)
      · rw [tE', h4.1, h4.2.2]; rfl
theorem fb_nd {n : Nat} {ts : List Ar} (hw : WOk n ts) (t : Ar) : (fbL ts t).Nodup := by
  unfold fbL endsL begL
  rw [List.nodup_append]
  refine ⟨?_, ?_, fun x hx y hy e => ?_⟩
  · rw [List.nodup_iff_pairwise_ne, List.pairwise_map]
    exact ((List.nodup_iff_pairwise_ne.mp (nearL_nd hw _)).sublist List.filter_sublist).imp fun h e => h (Prod.ext_iff.mp e).2
  · rw [List.nodup_iff_pairwise_ne, List.pairwise_map]
    exact ((List.nodup_iff_pairwise_ne.mp (nearL_nd hw _)).sublist List.filter_sublist).imp fun h e => h (Prod.ext_iff.mp e).1
  · subst e
    obtain ⟨c, hc, rfl⟩ := List.mem_map.mp hx
    obtain ⟨d, hd, e⟩ := List.mem_map.mp hy
    have h1 := (List.mem_filter.mp hc).2
    have e2 := (Prod.ext_iff.mp e).2
    unfold tE at h1
    rw [Bool.and_eq_true, Bool.not_eq_true', decide_eq_false_iff_not] at h1
    exact h1.1 e2.symm
theorem srt_eq {l m fs : List Ar} (hp : fs.Perm l) (nd : l.Nodup) (hs : fs.Pairwise (fun s t => ¬ ltT t s)) (hm : m.Pairwise ltT) (h : ∀ x, x ∈ l ↔ x ∈ m) : fs = m :=
  pw_eq (pw_lt hs (hp.nodup_iff.mpr nd)) hm fun x => hp.mem_iff.trans (h x)
theorem fb_eq {n : Nat} {ts fs : List Ar} {t : Ar} (hw : WOk n ts) (ht : InR n t) (hp : fs.Perm (fbL ts t)) (hs : fs.Pairwise (fun s t => ¬ ltT t s)) : fs = frcS n ts t :=
  srt_eq hp (fb_nd hw t) hs (frcS_pw n ts t) fun x => (mem_fb hw).trans (mem_frcS ht).symm
/-! ### all arrows, rising -/
def arS (n : Nat) (ts : List Ar) : List Ar := (allP n).filter fun x => nrB ts x.1 x.2
theorem arS_pw (n : Nat) (ts : List Ar) : (arS n ts).Pairwise ltT := (allP_pw n).sublist List.filter_sublist
theorem nrB_lt {n : Nat} {ts : List Ar} (hw : WOk n ts) {a b : Int} (h : nrB ts a b = true) : 0 ≤ a ∧ a < (n : Int) ∧ 0 ≤ b ∧ b < (n : Int) ∧ a ≠ b := by
  rcases of_decide_eq_true h with z | z
  · have := hw.2 _ z; dsimp only at this; omega
  · have := hw.2 _ z; dsimp only at this; omega
theorem mem_arS {n : Nat} {ts : List Ar} (hw : WOk n ts) {x : Ar} : x ∈ arS n ts ↔ (x ∈ ts ∨ sw x ∈ ts) := by
  unfold arS
  rw [List.mem_filter, mem_allP]
  constructor
  · rintro ⟨_, h⟩
    exact of_decide_eq_true h
  · intro h
    have h' : nrB ts x.1 x.2 = true := decide_eq_true h
    have b := nrB_lt hw h'
    exact ⟨⟨b.1, b.2.1, b.2.2.1, b.2.2.2.1⟩, h'⟩
theorem ar_nd {n : Nat} {ts : List Ar} (hw : WOk n ts) : (ts ++ ts.map sw).Nodup := by
  have nd := nd_pw hw.1
  rw [List.nodup_append]
  refine ⟨nd, ?_, fun x hx y hy e => ?_⟩
  · rw [List.nodup_iff_pairwise_ne, List.pairwise_map]
    refine (List.nodup_iff_pairwise_ne.mp nd).imp fun {s t} h e => h ?_
    rw [← sw_sw s, e, sw_sw]
  · subst e
    obtain ⟨z, hz, rfl⟩ := List.mem_map.mp hy
    have b1 := hw.2 _ hx
    have b2 := hw.2 _ hz
    unfold sw at b1
    dsimp only at b1
    omega
theorem ar_eq {n : Nat} {ts fs : List Ar} (hw : WOk n ts) (hp : fs.Perm (ts ++ ts.map sw)) (hs : fs.Pairwise (fun s t => ¬ ltT t s)) : fs = arS n ts := by
  refine srt_eq hp (ar_nd hw) hs (arS_pw n ts) fun x => ?_
  rw [mem_arS hw, List.mem_append, List.mem_map]
  constructor
  · rintro (z | ⟨y, hy, rfl⟩)
    · exact .inl z
    · exact .inr hy
  · rintro (z | z)
    · exact .inl z
    · exact .inr ⟨_, z, sw_sw x⟩
theorem arS_inR {n : Nat} {ts : List Ar} {x : Ar} (h : x ∈ arS n ts) : InR n x := mem_allP.mp (List.mem_filter.mp h).1
theorem arS_len {n : Nat} {ts : List Ar} : (arS n ts).length ≤ n * n := by
  rw [← allP_len n]; exact List.length_filter_le _ _
theorem frcS_len {n : Nat} {ts : List Ar} {t : Ar} : (frcS n ts t).length ≤ n * n := by
  rw [← allP_len n]; exact List.length_filter_le _ _
theorem frc_ar {n : Nat} {ts : List Ar} {t x : Ar} (h : x ∈ frcL n ts t) : nrB ts x.1 x.2 = true := by
  rcases mem_frc.mp h with ⟨h1, h2, h3, h4⟩ | ⟨h1, h2, h3, h4⟩
  · unfold tA at h4
    rw [Bool.and_eq_true, Bool.and_eq_true] at h4
    rw [h1]; exact h4.2.1
  · unfold tB' at h4
    rw [Bool.and_eq_true, Bool.and_eq_true] at h4
    rw [h1]; exact h4.2.1
theorem frcS_ar {n : Nat} {ts : List Ar} {t x : Ar} (ht : InR n t) (h : x ∈ frcS n ts t) : x ∈ arS n ts := by
  have h' := (mem_frcS ht).mp h
  exact List.mem_filter.mpr ⟨mem_allP.mpr (frc_rng ht h'), frc_ar h'⟩
theorem frc_sw {n : Nat} {ts : List Ar} {t x : Ar} : x ∈ frcL n ts (sw t) ↔ sw x ∈ frcL n ts t := by
  rw [mem_frc, mem_frc]
  unfold sw tA tB'
  dsimp only
  rw [nrB_comm ts t.2 x.2, nrB_comm ts x.1 t.1]
  constructor
  · rintro (h | h)
    · first | exact .inr h | exact .inl h
    · first | exact .inr h | exact .inl h
  · rintro (h | h)
    · first | exact .inr h | exact .inl h
    · first | exact .inr h | exact .inl h
theorem frc_symm {n : Nat} {ts : List Ar} {t x : Ar} (ht : InR n t) (ha : nrB ts t.1 t.2 = true) (h : x ∈ frcL n ts t) : t ∈ frcL n ts x := by
  obtain ⟨r1, r2, r3, r4⟩ := ht
  rw [mem_frc] at h ⊢
  rcases h with ⟨h1, h2, h3, h4⟩ | ⟨h1, h2, h3, h4⟩
  · unfold tA at h4 ⊢
    rw [Bool.and_eq_true, Bool.and_eq_true, Bool.not_eq_true', decide_eq_false_iff_not] at h4
    refine .inl ⟨h1.symm, r3, r4, ?_⟩
    rw [h1, ha, nrB_comm, h4.2.2, decide_eq_false (fun e => h4.1 e.symm)]; rfl
  · unfold tB' at h4 ⊢
    rw [Bool.and_eq_true, Bool.and_eq_true, Bool.not_eq_true', decide_eq_false_iff_not] at h4
    refine .inr ⟨h1.symm, r1, r2, ?_⟩
    rw [h1, ha, nrB_comm, h4.2.2, decide_eq_false (fun e => h4.1 e.symm)]; rfl
/-! ### forced, turned -/
theorem frcS_sw {n : Nat} {ts fs : List Ar} {t : Ar} (ht : InR n t) (hp : fs.Perm ((frcS n ts t).map sw)) (hs : fs.Pairwise (fun s t => ¬ ltT t s)) : fs = frcS n ts (sw t) := by
  have ht' : InR n (sw t) := ⟨ht.2.2.1, ht.2.2.2, ht.1, ht.2.1⟩
  refine srt_eq hp ?_ hs (frcS_pw n ts _) fun x => ?_
  · rw [List.nodup_iff_pairwise_ne, List.pairwise_map]
    refine (List.nodup_iff_pairwise_ne.mp (nd_pw (frcS_pw n ts t))).imp fun {s t} h e => h ?_
    rw [← sw_sw s, e, sw_sw]
  · rw [mem_frcS ht', frc_sw, List.mem_map]
    constructor
    · rintro ⟨y, hy, rfl⟩
      exact (mem_frcS ht).mp hy
    · intro h
      exact ⟨_, (mem_frcS ht).mpr h, sw_sw x⟩
end My

set_option Elab.async false
set_option linter.all false
set_option maxRecDepth 100000
namespace My
open PySem PySem.Spec PyProof.Rows L2

/-! ### str of data, where no text is being made of anything yet -/
def rStrD (K : PySem.W.Frag) : List V → Hp → VK → Prop := fun xs H Q => ∃ a d, xs = [.ref a] ∧ Dp K H (.ref a) d ∧ d.showable = true ∧ d.hasDict = false ∧ d.depth ≤ 50 ∧ d.shown.length ≤ sizeLine ∧ Q (.str d.shown) H
theorem call_strD {X : Cx} (hg : X.A.guards = some []) (hu : X.A.units + 65 < cLine) : CallR X (.type "str") (rStrD X.K) := by
  rintro pins s σ H xs us Q I r ⟨a, d, rfl, hd, h1, h2, h3, h4, q⟩
  obtain ⟨u, rfl, r1⟩ := vals1 r
  obtain rfl : u = Value.ref a := r1
  obtain ⟨as, rr⟩ := Dp.reads I d _ _ hd rfl
  exact str_of_reads rr h1 (fun z => by rw [h2] at z; cases z) hg (by omega) (fun _ _ e => e) (fun h' t tk k => ⟨.str _, H, I.kept k, ⟨_, rfl⟩, q⟩) h4

/-! ### cuts: what holds behind a piece is named, and the rest is shown from that alone -/
section
variable {X : Cx} {st : Stmt} {rest : List Stmt} {t u : TS} {e : Expr} {te : TE} {tt : TT}
def tCut (t u : TS) : TS := fun D σ H => ∃ M : L2.St → Hp → Prop, t { D with nx := M } σ H ∧ ∀ σ' H', M σ' H' → u D σ' H'
theorem pss_cut (h1 : PS X st t) (h2 : PSs X rest u) : PSs X (st :: rest) (tCut t u) := by
  constructor
  rintro pins s σ H D I ⟨M, h, hM⟩
  refine wpAny_execs_cons (wpAny_mono (h1.run pins s σ H { D with nx := M } I h) (fun f s1 z => ?_) fun _ _ z => z)
  match f, z with
  | .next, ⟨σ', H', I', m⟩ => exact h2.run pins s1 σ' H' D I' (hM _ _ m)
  | .ret _, z => exact z
  | .brk, z => exact z
  | .cont, z => exact z
def tCutE (t : TE) : TE := fun σ H Q => ∃ M : VK, t σ H M ∧ ∀ v H', M v H' → Q v H'
theorem pe_cut (h : PE X e te) : PE X e (tCutE te) := by
  constructor
  rintro pins s σ H Q I ⟨M, m, hM⟩
  refine wpAny_mono (h.run pins s σ H M I m) (fun v s1 z => ?_) fun _ _ z => z
  obtain ⟨x, H', I', r, z⟩ := z
  exact ⟨x, H', I', r, hM _ _ z⟩
def tCutT (t : TT) : TT := fun σ H Q => ∃ M : Bool → Hp → Prop, t σ H M ∧ ∀ v H', M v H' → Q v H'
theorem pt_cut (h : PT X e tt) : PT X e (tCutT tt) := by
  constructor
  rintro pins s σ H Q I ⟨M, m, hM⟩
  refine wpAny_mono (h.run pins s σ H M I m) (fun v s1 z => ?_) fun _ _ z => z
  obtain ⟨H', I', z⟩ := z
  exact ⟨H', I', hM _ _ z⟩
end
/-! ### a def run at the top -/
section
variable {P : Program} {w : World} {K : PySem.W.Frag} {mg : Str → Option Value} {base : Heap}
/-- a call of a def with one argument from the law's own caller -/
def TopRun (P : Program) (w : World) (K : PySem.W.Frag) (mg : Str → Option Value) (base : Heap) (f : Addr) (fd : FuncData) (y : Str) (sp : Sp) : Prop :=
  ∀ (s : Shared) (H : Hp) (u : Value) (v : V) (Q : VK) (E : XK), Env0 P w K mg base callerA [] s H → BindsTo s fd ⟨[u], []⟩ [(y, u)] → RelV v u → sp [v] H Q E →
    codeAny (model P w) callerA (.call (.ref f) ⟨[u], []⟩) (CR CX0 [] P w H s Q E) s
theorem top_run {x y : Str} {st : Stmt} {f : Addr} {fd : FuncData} {N : List Str} {k : Nat} {sp : Sp} (F : Fun K x x st f fd) (S : FnScope N [y] (defScope st)) (room : Room (k + 1) callerA)
    (body : ∀ (cdv : Value) (s : Shared) (H : Hp) (v : V) (Q : VK) (E : XK), Room k (callerA.deeper (envOfC x (defScope st) s.heap.objs.size f cdv)) → sp [v] H Q E →
      ∃ t, PSs (cxOf CX0 P w K mg base N x (defScope st) f cdv callerA [] s H E).nox (defBody st) t ∧ t { nx := fun _ H' => Q .non H', rt := Q } (start N [v]) H) :
    TopRun P w K mg base f fd y sp := by
  intro s H u v Q E e0 hb rv hsp
  obtain ⟨oc, od, kV, doc, pm, an, cdv, ct, osl, rfl, lk, hcd⟩ := F.ex
  have here : K.In s.heap := e0.mod.kin.keeps fun b o z => (e0.bs b o z).1
  have free := e0.mod.nolimit.keeps fun b o z => (e0.bs b o z).1
  refine codeAny_call_function room.depth (here _ _ lk) rfl S.co S.gen rfl (PySem.W.codeRec_of here hcd) (hb _ _ _ _ ?_)
  refine wpAny_newFunctionEnv_cells S.kind ?_ fun env he s1 inn => ?_
  · rintro ⟨n, z⟩ hz
    rcases S.par n (List.of_mem_zip (l₁ := [y]) (l₂ := [u]) hz).1 with loc | cel
    · exact Or.inl loc
    · exact Or.inr ⟨cel, PySem.W.cellsFrom_some _ _ _ (Or.inl cel)⟩
  subst he
  refine ⟨free.keeps inn.toInCall.keep, codeAny_func ?_⟩
  obtain ⟨t, ht, hq⟩ := body cdv s H v Q E (room.deeper _) hsp
  have I0 := inv_start (CX := CX0) (E := E) (vs := [v]) (us := [u]) S room.hd e0 rfl (.cons rv .nil) inn
  refine wpAny_mono (ht.nox.run [] s1 (start N [v]) H _ I0 hq) (fun fl s' out => ?_) fun _ _ z => z
  cases fl with
  | ret z =>
    obtain ⟨v', σ', H', J, r', q'⟩ := out
    exact ⟨v', H', J.os, J.bare, J.base, J.hok, r', q'⟩
  | next =>
    obtain ⟨σ', H', J, q'⟩ := out
    exact ⟨V.non, H', J.os, J.bare, J.base, J.hok, rfl, q'⟩
  | brk => obtain ⟨_, _, _, no⟩ := out; exact no.elim
  | cont => obtain ⟨_, _, _, no⟩ := out; exact no.elim
end
end My

set_option Elab.async false
set_option linter.all false
set_option maxRecDepth 100000
namespace My
open PySem PySem.Spec PyProof.Rows L2

/-! ### the law's call, from what its def does when it is called from the top -/
/-- what the heap tracks when the law is called: the tables, empty, and the script where it is none of the fixed part -/
structure Trk (K : PySem.W.Frag) (s : Shared) (cs : List (Addr × Addr)) (a : Addr) (xs : Array Value) (ys : List V) (H : Hp) : Prop where
  tab : ∀ p ∈ cs, H p.2 = some (.tbl #[])
  scr : SqL K H a ys
  any : ∀ b u, H b = some u → (∃ p ∈ cs, p.2 = b) ∨ (b = a ∧ K.lookup a = none ∧ u = .frz { cls := .type "list", data := .seq xs } (.lst ys))
section
variable {P : Program} {w : World} {K : PySem.W.Frag} {mg mb : Str → Option Value} {fa a : Addr} {cs : List (Addr × Addr)} {fd : FuncData} {y : Str} {sp : Sp} {s : Shared} {vs : List Value} {ns : List Int} {H : Hp}
theorem trk_out (hT : ∀ p ∈ cs, s.heap.get? p.2 = some ⟨.none, none, .fields #[], #[]⟩) (ha : s.heap.get? a = some { cls := .type "list", data := .seq vs.toArray }) {ys : List V} (t : Trk K s cs a vs.toArray ys H) {b : Addr} {o : Obj} (e : s.heap.get? b = some o) (h1 : ∀ us n, o.data = .seq us n → False) (h2 : o.data = .fields #[] → False) : H b = none := by
  cases z : H b with
  | none => rfl
  | some u =>
    exfalso
    rcases t.any b u z with ⟨p, hp, rfl⟩ | ⟨rfl, _, _⟩
    · rw [hT p hp] at e; cases e; exact h2 rfl
    · rw [ha] at e; cases e; exact h1 _ _ rfl
theorem trk_call (KX : K.In s.heap) (g1 : s.heap.Ns mainGlobals mg) (g2 : s.heap.Ns builtinsNs mb) (g3 : ∀ x : Str, x ≠ "__name__" → mb x = bootBuiltins x) (g4 : s.heap.NoLimit) (g5 : s.gens = #[])
    (hT : ∀ p ∈ cs, s.heap.get? p.2 = some ⟨.none, none, .fields #[], #[]⟩) (nT : ∀ p ∈ cs, K.lookup p.2 = none) (hC : ∀ p ∈ cs, PySem.W.CodeHd s.heap p.1 p.2)
    (g6 : ∃ (bm : Addr) (ob : Obj), mg "__builtins__" = some (.ref bm) ∧ bm ≠ builtinsNs ∧ s.heap.get? bm = some ob ∧ ob.cls = .type "module" ∧ ob.dict = some builtinsNs ∧ ob.data = .plain)
    (ha : s.heap.get? a = some { cls := .type "list", data := .seq vs.toArray })
    (R : ∀ base : Heap, K.In base → base.Ns mainGlobals mg → (∀ p ∈ cs, LamX.TabB base mg p.1 p.2) → TopRun P w K mg base fa fd y sp) (hbind : ∀ (s : Shared) (u : Value), BindsTo s fd ⟨[u], []⟩ [(y, u)])
    (t : Trk K s cs a vs.toArray (ns.map V.int) H) (ok : HOk P w H s.heap) (hsp : sp [.ref a] H (fun v _ => v = .bl true) fun _ _ _ => False) :
    codeAny (model P w) callerA (.call (.ref fa) ⟨[.ref a], []⟩) (fun r s' => r = .ok (.ret (.bool true)) ∧ OldK s.heap s'.heap ∧ s'.os = s.os ∧ AllBare s'.gens) s := by
  have up : ∀ {b : Addr} {o : Obj}, s.heap.get? b = some o → (∀ us n, o.data = .seq us n → False) → (o.data = .fields #[] → False) → (hidT s.heap H).get? b = some o := fun e h1 h2 => hidT_get e (trk_out hT ha t e h1 h2)
  have upN : ∀ {b : Addr} {m : Str → Option Value}, s.heap.Ns b m → (hidT s.heap H).Ns b m := by
    rintro b m ⟨o, es, ep, e, d, r⟩
    exact ⟨o, es, ep, up e (fun us n z => by rw [d] at z; cases z) (fun z => by rw [d] at z; cases z), d, r⟩
  have upK : K.In (hidT s.heap H) := by
    intro b o e
    refine hidT_get (KX b o e) ?_
    cases z : H b with
    | none => rfl
    | some u =>
      exfalso
      rcases t.any b u z with ⟨p, hp, rfl⟩ | ⟨rfl, nk, _⟩
      · rw [nT p hp] at e; cases e
      · rw [nk] at e; cases e
  have upM : L2.Mod K mg (hidT s.heap H) := by
    obtain ⟨mc, k1, k2⟩ := g4
    exact ⟨upK, upN g1, ⟨mb, upN g2, g3⟩, ⟨mc, upN k1, k2⟩⟩
  have upT : ∀ p ∈ cs, LamX.TabB (hidT s.heap H) mg p.1 p.2 := by
    intro p hp
    have hp2 := hT p hp
    constructor
    · obtain ⟨o, us, file, tf, flags, tg, inF, text, tt, e1, r1, r2, r3, more⟩ := hC p hp
      refine ⟨o, us, file, tf, flags, tg, inF, text, tt, up e1 (fun z n k => by rw [r2] at k; cases k) (fun k => ?_), r1, r2, r3, more⟩
      rw [r2] at k; cases k; simp at r3
    · obtain ⟨bm, ob, b1, b2, b3, b4, b5, b6⟩ := g6
      refine ⟨bm, ob, b1, b2, fun z => ?_, fun z => ?_, up b3 (fun us n k => by rw [b6] at k; cases k) (fun k => by rw [b6] at k; cases k), b4, b5, b6⟩
      · obtain ⟨o, es, ep, e, hd, _⟩ := g1
        rw [z, e] at b3; cases b3; rw [hd] at b6; cases b6
      · rw [z, hp2] at b3; cases b3; cases b6
    · intro z
      obtain ⟨o, es, ep, e, hd, _⟩ := g1
      rw [z, hp2] at e; cases e; cases hd
  have e0 : Env0 P w K mg (hidT s.heap H) callerA [] s H := by
    refine ⟨rfl, upM, fun b o e => of_hidT e, Nat.le_of_eq (hidT_size _ _), trivial, fun b hb => ?_, ok, .of_eq g5⟩
    exact absurd (show b ∈ ([] : List Addr) from hb) List.not_mem_nil
  refine codeAny_mono (R _ upK (upN g1) upT s H (.ref a) (.ref a) _ _ e0 (hbind s _) rfl hsp) fun r s' h => ?_
  match r, h with
  | .error e, h => exact h.elim
  | .ok .next, h => exact h.elim
  | .ok .brk, h => exact h.elim
  | .ok .cont, h => exact h.elim
  | .ok (.ret u), ⟨v, H', os, bare, un, ok', rv, hv⟩ =>
    obtain rfl : v = .bl true := hv
    obtain rfl : u = Value.bool true := rv
    have key : ∀ b o, s.heap.get? b = some o → (¬ ∃ p ∈ cs, p.2 = b) → s'.heap.get? b = some o := by
      intro b o e nb
      cases z : H b with
      | none => exact un.keep b o e z (fun k => absurd (show b ∈ ([] : List Addr) from k) List.not_mem_nil) List.not_mem_nil
      | some u =>
        rcases t.any b u z with k | ⟨rfl, _, rfl⟩
        · exact absurd k nb
        · have z2 := ok' _ _ (un.frzs _ _ _ z)
          rw [ha] at e; cases e
          exact z2.1
    have tabs : ∀ p ∈ cs, ∃ more : Array Value, s'.heap.get? p.2 = some ⟨.none, none, .fields more, #[]⟩ := by
      intro p hp
      obtain ⟨more, z⟩ := un.tbls p.2 #[] (t.tab p hp)
      exact ⟨_, ok' _ _ z⟩
    refine ⟨rfl, ⟨fun b o e => ?_, fun b o e => ?_⟩, os, bare⟩
    · by_cases hb : ∃ p ∈ cs, p.2 = b
      · obtain ⟨p, hp, rfl⟩ := hb
        obtain ⟨more, hm⟩ := tabs p hp
        rw [hT p hp] at e; cases e
        refine Or.inr (Or.inl ⟨((hC p hp).tab (hT p hp)).isCodeTable, rfl, #[], more, rfl, ?_⟩)
        rw [Array.empty_append]; exact hm
      · exact Or.inl (key b o e hb)
    · by_cases hb : ∃ p ∈ cs, p.2 = b
      · obtain ⟨p, hp, rfl⟩ := hb
        obtain ⟨more, hm⟩ := tabs p hp
        exact ⟨_, hm⟩
      · exact ⟨o, key b o e hb⟩
end
section
open Classical
variable {K : PySem.W.Frag} {a : Addr} {cs : List (Addr × Addr)} {s : Shared} {vs : List Value} {ns : List Int}
noncomputable def trkH (K : PySem.W.Frag) (cs : List (Addr × Addr)) (a : Addr) (xs : Array Value) (ys : List V) : Hp := fun b =>
  if ∃ p ∈ cs, p.2 = b then some (.tbl #[]) else if b = a ∧ K.lookup a = none then some (.frz { cls := .type "list", data := .seq xs } (.lst ys)) else none
theorem trkH_ok {P : Program} {w : World} (KX : K.In s.heap) (hT : ∀ p ∈ cs, s.heap.get? p.2 = some ⟨.none, none, .fields #[], #[]⟩) (ha : s.heap.get? a = some { cls := .type "list", data := .seq vs.toArray }) (hi : IntsAre vs ns) (hl : ns.length ≤ sizeLine) :
    Trk K s cs a vs.toArray (ns.map V.int) (trkH K cs a vs.toArray (ns.map V.int)) ∧ HOk P w (trkH K cs a vs.toArray (ns.map V.int)) s.heap := by
  have na : ¬ ∃ p ∈ cs, p.2 = a := by
    rintro ⟨p, hp, rfl⟩
    rw [hT p hp] at ha; cases ha
  have rv := vals_ints hi
  refine ⟨⟨fun p hp => if_pos ⟨p, hp, rfl⟩, ?_, fun b u e => ?_⟩, fun b u e => ?_⟩
  · cases hk : K.lookup a with
    | some o =>
      have e := KX a o hk
      rw [ha] at e; cases e
      exact Or.inr ⟨_, vs.toArray, _, hk, rfl, rfl, rfl, by rw [List.size_toArray, hi.length]; exact hl, by simpa using rv⟩
    | none => exact Or.inl (Or.inr ⟨_, (if_neg na).trans (if_pos ⟨rfl, hk⟩)⟩)
  · by_cases hb : ∃ p ∈ cs, p.2 = b
    · exact Or.inl hb
    · have e1 := (if_neg hb).symm.trans e
      by_cases hb2 : b = a ∧ K.lookup a = none
      · have e2 := (if_pos hb2).symm.trans e1
        cases e2
        exact Or.inr ⟨hb2.1, hb2.2, rfl⟩
      · have e2 := (if_neg hb2).symm.trans e1
        cases e2
  · by_cases hb : ∃ p ∈ cs, p.2 = b
    · have e1 := (if_pos hb).symm.trans e
      cases e1
      obtain ⟨p, hp, rfl⟩ := hb
      exact hT p hp
    · have e1 := (if_neg hb).symm.trans e
      by_cases hb2 : b = a ∧ K.lookup a = none
      · have e2 := (if_pos hb2).symm.trans e1
        cases e2
        obtain ⟨rfl, _⟩ := hb2
        exact ⟨ha, by rw [List.length_map]; exact hl, vs, _, rv, ha⟩
      · have e2 := (if_neg hb2).symm.trans e1
        cases e2
end
/-- what is known of a law's def at the head's heap -/
def TopAt (l : PySem.W.OpenLaw) (w : World) (K : PySem.W.Frag) (n : Nat) (y : Str) (mg : Str → Option Value) (fa : Addr) (h : Heap) : Prop :=
  ∃ (fd : FuncData) (cs : List (Addr × Addr)) (sp : Sp), (∀ p ∈ cs, h.get? p.2 = some ⟨.none, none, .fields #[], #[]⟩) ∧ (∀ p ∈ cs, K.lookup p.2 = none) ∧ (∀ p ∈ cs, PySem.W.CodeHd h p.1 p.2) ∧ (∀ (s : Shared) (u : Value), BindsTo s fd ⟨[u], []⟩ [(y, u)]) ∧
    (∀ (H : Hp) (a : Addr) (ns : List Int), ns.length ≤ n → (∀ z ∈ ns, Builtin.Int.intBits z ≤ 1048576) → (∀ p ∈ cs, H p.2 = some (.tbl #[])) → SqL K H a (ns.map V.int) → sp [.ref a] H (fun v _ => v = .bl true) fun _ _ _ => False) ∧
    ∀ base : Heap, K.In base → base.Ns mainGlobals mg → (∀ p ∈ cs, LamX.TabB base mg p.1 p.2) → TopRun l.prog w K mg base fa fd y sp
theorem walk_top {l : PySem.W.OpenLaw} {n : Nat} {q : Program} {loose : List Str} {XP : (Str → Option Value) → Heap → Prop} {YP : World → Heap → Prop} {d : DefRec} {y : Str} (hn : l.most = some n) (hn2 : n ≤ sizeLine) (hdf : d.params.defaults = [])
    (F : ∀ (w : World) (mg : Str → Option Value) (fa : Addr) (h : Heap), YP w h → h.Ns mainGlobals mg → mg d.name = some (.ref fa) → ∃ K : PySem.W.Frag, K.In h ∧ TopAt l w K n y mg fa h) :
    PySem.W.WalkO q loose XP YP l.row.toRowW d [] (fun f vs => PySem.call f vs) := by
  apply Att.attach_callB hn hdf
  intro w s0 s1 mg mb fa o pm cd doc a vs ns G Y _ _ _ hm hobj hints hlen hbits hgens
  obtain ⟨K, KX, fd, cs, sp, hT, nT, hC, hb, hsp, hF⟩ := F w mg fa _ Y G.T.g hm
  obtain ⟨tr, ok⟩ := trkH_ok (P := l.prog) (w := w) (cs := cs) KX hT hobj hints (Nat.le_trans hlen hn2)
  exact trk_call KX G.T.g G.T.b G.T.builtins G.T.nolimit hgens hT nT hC G.T.bmain hobj hF hb tr ok (hsp _ a ns hlen hbits tr.tab tr.scr)
end My

set_option Elab.async false
set_option linter.all false
set_option maxRecDepth 100000
namespace My
open PySem PySem.Spec PyProof.Rows L2 GxR

/-! ### what stays while a law goes on -/
theorem same_fr {L : Addr} {H0 H H' : Hp} (s : Same H0 H) (n0 : H0 L = none) (f : Fr L H H') : Same H0 H' := fun b o e =>
  f b o (fun z => by rw [z, n0] at e; cases e) (s b o e)
theorem sq_same {K : PySem.W.Frag} {H H' : Hp} {a : Addr} {xs : List V} (s : Same H H') (h : SqL K H a xs) : SqL K H' a xs := by
  rcases h with (h | ⟨o, h⟩) | h
  · exact .inl (.inl (s _ _ h))
  · exact .inl (.inr ⟨o, s _ _ h⟩)
  · exact .inr h
theorem same_refl (H : Hp) : Same H H := fun _ _ e => e
theorem wok_len {n : Nat} {ts : List Ar} (hW : WOk n ts) (hn : n ≤ 100) : ts.length ≤ 10000 :=
  Nat.le_trans (nd_len (m := pup n n) (nd_pw hW.1) fun t ht => (mem_pup (Nat.le_refl n)).mpr (by have := hW.2 t ht; omega)) (pup_len' hn (Nat.le_refl n))
theorem Eqd.bl {m : Nat} {H : Hp} {i : Bool} : Eqd m H (.bl i) (.bl i) := by
  cases m with
  | zero => exact ⟨rfl, .inr (.inl ⟨i, rfl⟩)⟩
  | succ m => exact .inl ⟨rfl, .inr (.inl ⟨i, rfl⟩)⟩
theorem Eqd.non {m : Nat} {H : Hp} : Eqd m H .non .non := by
  cases m with
  | zero => exact ⟨rfl, .inl rfl⟩
  | succ m => exact .inl ⟨rfl, .inl rfl⟩
theorem lst_eqd {H : Hp} {p q : Addr} {vs us : List V} {ts : List Ar} (hp : H p = some (.lst vs)) (hq : H q = some (.lst us)) (h : Ties H vs ts) (k : Ties H us ts) (l : ts.length ≤ 10000) : Eqd 2 H (.ref p) (.ref q) := by
  refine .inr ⟨p, q, vs, us, rfl, rfl, .inr ⟨hp, hq⟩, by rw [h.len, k.len], by rw [h.len]; exact l, fun i v u e f => ?_⟩
  obtain ⟨t1, e1, h1⟩ := h.at e
  obtain ⟨t2, e2, h2⟩ := k.at f
  rw [e1] at e2; cases e2
  exact tie_eqd h1 h2
theorem Eqd.up2 {m : Nat} {H : Hp} {x y : V} (h : Eqd m H x y) : Eqd (m + 2) H x y := h.up.up
theorem eqv_ties (ts : List Ar) : PyData.eqv (.list (ts.map dT)) (.list (ts.map dT)) = true := SeqAt.eqv_refl _ (can_ties ts)
theorem eqv_tiesT (ts : List Ar) : PyData.eqv (.tuple (ts.map dT)) (.tuple (ts.map dT)) = true := SeqAt.eqv_refl _ (can_ties ts)
theorem cutTo (xs : List V) (j : Nat) : cutV xs none (some (j : Int)) = xs.take j := by
  unfold cutV
  rw [HT.sIx_nat, HT.sIx_none, List.drop_zero, Nat.sub_zero]
  by_cases h : j ≤ xs.length
  · rw [Nat.min_eq_left h]
  · rw [Nat.min_eq_right (by omega), List.take_length, List.take_of_length_le (by omega)]
theorem Ties.take {H : Hp} : ∀ {vs : List V} {ts : List Ar} (j : Nat), Ties H vs ts → Ties H (vs.take j) (ts.take j)
  | _, _, 0, _ => by simp only [List.take_zero]; exact trivial
  | [], [], _ + 1, _ => trivial
  | _ :: _, _ :: _, j + 1, h => ⟨h.1, Ties.take j h.2⟩
  | [], _ :: _, _ + 1, h => h.elim
  | _ :: _, [], _ + 1, h => h.elim
theorem Ties.mem {H : Hp} {vs : List V} {ts : List Ar} {i : Nat} {v : V} (h : Ties H vs ts) (e : vs[i]? = some v) : ∃ t, t ∈ ts ∧ Tie H v t := by
  obtain ⟨t, e1, h1⟩ := h.at e
  exact ⟨t, List.mem_of_getElem? e1, h1⟩

theorem nd_get {qs : List Addr} (nd : qs.Nodup) {i j : Nat} {q : Addr} (h1 : qs[i]? = some q) (h2 : qs[j]? = some q) : i = j := by
  obtain ⟨li, ei⟩ := List.getElem?_eq_some_iff.mp h1
  obtain ⟨lj, ej⟩ := List.getElem?_eq_some_iff.mp h2
  have pw := List.pairwise_iff_getElem.mp (List.nodup_iff_pairwise_ne.mp nd)
  rcases Nat.lt_trichotomy i j with z | z | z
  · exact absurd (ei.trans ej.symm) (pw _ _ li lj z)
  · exact z
  · exact absurd (ej.trans ei.symm) (pw _ _ lj li z)
theorem same_free {H H' : Hp} {p : Addr} (s : Same H H') (h : H' p = none) : H p = none := by
  cases z : H p with
  | none => rfl
  | some o => rw [s _ _ z] at h; cases h
theorem neI (a b : Int) : (!decide (V.int a = V.int b)) = !decide (a = b) := congrArg (! ·) (decide_eq_decide.mpr ⟨fun e => V.int.inj e, fun e => congrArg V.int e⟩)
theorem natOf {a : Int} (h : 0 ≤ a) : ∃ k : Nat, a = (k : Int) := ⟨a.toNat, (Int.toNat_of_nonneg h).symm⟩
/-! ### a web as a text -/
def dW (n : Nat) (ts : List Ar) : PyData := .tuple [.int (n : Int), .tuple (ts.map dT)]
theorem Web.dp {K : PySem.W.Frag} {H : Hp} {v : V} {n : Nat} {ts : List Ar} (h : Web H v n ts) : Dp K H v (dW n ts) := by
  obtain ⟨p, q, vs, rfl, h1, h2, h3⟩ := h
  exact .tup (SqT.of h1) (.cons (.int _) (.cons (.tup (SqT.of h2) h3.dp) .nil))
theorem log_small {i : Int} (h0 : 0 ≤ i) (h : i < 100) : decide (i.natAbs.log2 < 1920) = true := by
  refine decide_eq_true ?_
  have : i.natAbs.log2 ≤ i.natAbs := Nat.log2_le_self _
  omega
theorem show_ties {n : Nat} {ts : List Ar} (hn : n ≤ 100) (hR : ∀ t ∈ ts, InR n t) : PyData.showableAll (ts.map dT) = true ∧ PyData.hasDictAll (ts.map dT) = false := by
  induction ts with
  | nil => exact ⟨rfl, rfl⟩
  | cons t l ih =>
    obtain ⟨i1, i2⟩ := ih fun x hx => hR x (List.mem_cons_of_mem _ hx)
    obtain ⟨a1, a2, a3, a4⟩ := hR t List.mem_cons_self
    rw [List.map_cons, PyData.showableAll, PyData.hasDictAll, i1, i2]
    constructor
    · show (PyData.showableAll [.int t.1, .int t.2] && true) = true
      rw [PyData.showableAll, PyData.showableAll, PyData.showableAll, PyData.showable, PyData.showable, log_small a1 (by omega), log_small a3 (by omega)]; rfl
    · rfl
theorem txt_small : ∀ k : Nat, k < 100 → ((toString ((k : Nat) : Int) : String) : Str).length ≤ 2 := by decide +kernel
theorem txt_len {i : Int} (h0 : 0 ≤ i) (h : i < 100) : ((toString i : String) : Str).length ≤ 2 := by
  obtain ⟨k, rfl⟩ : ∃ k : Nat, i = (k : Int) := ⟨i.toNat, (Int.toNat_of_nonneg h0).symm⟩
  exact txt_small k (by omega)
theorem tupleText_len (l : List Str) : (tupleText l).length ≤ piled l + 3 := by
  unfold tupleText
  rw [strLen_append, strLen_append]
  have e1 : ((("(" : String) : Str)).length = 1 := rfl
  have e3 : (((if l.length == 1 then ",)" else ")" : String) : Str)).length ≤ 2 := by split <;> decide
  rw [e1]
  by_cases h : l = []
  · subst h
    have : (Str.join ", " []).length = 0 := rfl
    omega
  · have := join_length_add l h
    omega
theorem shown_ties {n : Nat} {ts : List Ar} (hn : n ≤ 100) (hR : ∀ t ∈ ts, InR n t) : piled (PyData.shownAll (ts.map dT)) ≤ 13 * ts.length := by
  induction ts with
  | nil => exact Nat.le_refl _
  | cons t l ih =>
    have i1 := ih fun x hx => hR x (List.mem_cons_of_mem _ hx)
    obtain ⟨a1, a2, a3, a4⟩ := hR t List.mem_cons_self
    rw [List.map_cons, PyData.shownAll, piled_cons, List.length_cons]
    have h1 := tupleText_len (PyData.shownAll [.int t.1, .int t.2])
    rw [PyData.shownAll, PyData.shownAll, PyData.shownAll, piled_cons, piled_cons, piled_nil, PyData.shown, PyData.shown] at h1
    have h2 := txt_len a1 (by omega)
    have h3 := txt_len a3 (by omega)
    have h4 : (dT t).shown = tupleText [((toString t.1 : String) : Str), ((toString t.2 : String) : Str)] := by
      unfold dT
      rw [PyData.shown, PyData.shownAll, PyData.shownAll, PyData.shownAll, PyData.shown, PyData.shown]
    rw [h4]
    omega
theorem web_show {n : Nat} {ts : List Ar} (hW : WOk n ts) (hn : n ≤ 12) (hl : ts.length ≤ 10000) : (dW n ts).showable = true ∧ (dW n ts).hasDict = false ∧ (dW n ts).depth ≤ 50 ∧ (dW n ts).shown.length ≤ sizeLine := by
  have hR : ∀ t ∈ ts, InR n t := fun t ht => by
    have := hW.2 t ht
    exact ⟨this.1, by omega, by omega, this.2.2⟩
  obtain ⟨s1, s2⟩ := show_ties (n := n) (by omega) hR
  have s3 := shown_ties (n := n) (by omega) hR
  have s4 := dep_ties ts
  refine ⟨?_, ?_, ?_, ?_⟩
  · unfold dW
    rw [PyData.showable, PyData.showableAll, PyData.showableAll, PyData.showableAll, PyData.showable, PyData.showable, s1, log_small (by omega) (by omega)]; rfl
  · unfold dW
    rw [PyData.hasDict, PyData.hasDictAll, PyData.hasDictAll, PyData.hasDictAll, PyData.hasDict, PyData.hasDict, s2]; rfl
  · unfold dW
    rw [PyData.depth, PyData.depthAll, PyData.depthAll, PyData.depthAll, PyData.depth, PyData.depth]
    omega
  · unfold dW
    rw [PyData.shown, PyData.shownAll, PyData.shownAll, PyData.shownAll, PyData.shown, PyData.shown]
    have h1 := tupleText_len [((toString (n : Int) : String) : Str), tupleText (PyData.shownAll (ts.map dT))]
    rw [piled_cons, piled_cons, piled_nil] at h1
    have h2 := tupleText_len (PyData.shownAll (ts.map dT))
    have h3 := txt_len (i := (n : Int)) (by omega) (by omega)
    have h4 : 200000 ≤ sizeLine := by decide
    omega
/-- what str tells of a web -/
theorem web_str {K : PySem.W.Frag} {H : Hp} {v : V} {n : Nat} {ts : List Ar} {Q : VK} (h : Web H v n ts) (hW : WOk n ts) (hn : n ≤ 12) (hl : ts.length ≤ 10000) (q : Q (.str (dW n ts).shown) H) : rStrD K [v] H Q := by
  obtain ⟨s1, s2, s3, s4⟩ := web_show hW hn hl
  have hd := h.dp (K := K)
  obtain ⟨p, q', vs, rfl, _⟩ := h
  exact ⟨p, _, rfl, hd, s1, s2, s3, s4, q⟩
end My

set_option Elab.async false
set_option linter.all false
set_option maxRecDepth 100000
namespace My
open PySem PySem.Spec PyProof.Rows L2 GxR

/-! ### sorted(d), d a dict whose keys are pairs -/
theorem kt_ties {H : Hp} {kvs : List (List Key × V)} {xs : List (List Key × Addr × Value)} (r : KT H kvs xs) : ∀ {cs : List (Int × Int)}, kvs.map (·.1) = cs.map pk → Ties H (xs.map fun x => V.ref x.2.1) cs := by
  induction r with
  | nil =>
    intro cs e
    cases cs with
    | nil => exact trivial
    | cons c cs => cases e
  | cons h t ih =>
    rename_i p q l m
    intro cs e
    cases cs with
    | nil => cases e
    | cons c cs =>
      rw [List.map_cons, List.map_cons] at e
      obtain ⟨e1, e2⟩ := List.cons.inj e
      refine ⟨⟨q.2.1, rfl, ?_⟩, ih e2⟩
      rw [h.2.1, e1]; rfl
section
variable {X : Cx}
/-- what sorted does behind the collecting -/
theorem sort_rest {pins : List (Addr × Obj)} {σ : L2.St} {H : Hp} {s : Shared} {L : List Value} {cs : List (Int × Int)} {R : PySem.Fin → Shared → Prop} {E : Value → Shared → Prop} (I1 : Inv X pins σ H s) (hT : Ties H (L.map backV) cs) (rf : ∀ v ∈ L, ∃ b, v = Value.ref b) (hLz : L.length ≤ sizeLine)
    (hR : ∀ (p : Addr) (s' : Shared) (ys : List V) (ts : List (Int × Int)), Ties H ys ts → ts.Perm cs → ts.Pairwise (fun s t => ¬ ltT t s) → H p = none → Inv X pins σ (upd H p (.lst ys)) s' → R (.done (.ret (.ref p))) s') :
    wpAny (model X.prog X.w) X.A.in1 (newList L >>= fun l => holding [l] (call (.builtin "list.sort") [l]) >>= fun _ => ret l) R E s := by
  refine wpAny_bind (wpAny_newList ?_ hLz)
  have at0 : (s.heap.push (seqObj "list" L.toArray 0)).get? s.heap.objs.size = some (seqObj "list" L.toArray 0) := Heap.get?_push_size _ rfl
  have pr : ∀ v ∈ L, Srt.IsPair s.heap v (My.key H (backV v)).1 (My.key H (backV v)).2 := fun v hv => by
    have hb := hT.all (backV v) (List.mem_map.mpr ⟨v, hv, rfl⟩)
    obtain ⟨b, rfl⟩ := rf v hv
    obtain ⟨b', e, hb⟩ := hb
    cases e
    obtain ⟨_, its, r2, o2, ho2, hc2, n2, hd2⟩ := I1.hok _ _ hb
    obtain ⟨u1, u2, rfl, ⟨t1, rfl⟩, ⟨t2, rfl⟩⟩ := vals2 r2
    exact ⟨b, o2, t1, t2, n2, rfl, ho2, hc2, hd2⟩
  show wpAny _ _ _ _ _ { s with heap := s.heap.push (seqObj "list" L.toArray 0) }
  refine wpAny_bind (wpAny_holding (wpAny_call_entry PyProof.Rows.slot_list_sort ⟨_, at0, rfl⟩ PyProof.Rows.entry_list_sort (SrtO.list_sort_ord (s := { s with heap := s.heap.push (seqObj "list" L.toArray 0) }) (SrtO.swo_lex fun v => My.key H (backV v)) at0 hLz (fun h2 => ?_) fun out hs hb => ⟨_, rfl, ?_⟩) (PyProof.Rows.args_list_sort _)))
  · refine SrtO.pairs_sortableO (s := { s with heap := s.heap.push (seqObj "list" L.toArray 0) }) (k := fun v => My.key H (backV v)) (by omega) (fun v hv => (pr v hv).keeps fun b o e _ => Heap.get?_push_of_some _ e) fun o e => ?_
    have e' := e.symm.trans at0
    cases e'
    intro c
    exact absurd (Value.type.inj c) (by decide)
  · obtain ⟨e', he'⟩ := PyProof.Rows.sortedHeap_at (vs := L) (out := out.toArray) at0
    have ro : ∀ v ∈ out, ∃ b, v = Value.ref b := fun v hv => rf v (hb.perm.mem_iff.mp hv)
    have hs' : SrtO.Srtd (ltP (My.key H)) (out.map backV) := SrtO.srtd_map hs
    obtain ⟨ts, h1, h2, h3⟩ := srt_ties hs' (hb.perm.map backV) hT
    refine wpAny_pure (hR s.heap.objs.size _ _ ts h1 h2 h3 (I1.hok.fresh (Nat.le_refl _)) (I1.laid (t' := s.toks) (fun b ob e => ?_) (Nat.le_refl _) ⟨?_, out, e', vals_back ro, he'⟩))
    · have hlt : b < s.heap.objs.size := Heap.lt_size e
      rw [PyProof.Rows.sortedHeap_old (Nat.ne_of_lt hlt) (by rw [Heap.size_push]; exact Nat.lt_succ_of_lt hlt)]
      exact Heap.get?_push_of_some _ e
    · rw [List.length_map, hb.perm.length_eq]; exact hLz
end
def rSortedDT : List V → Hp → VK → Prop := fun vs H Q => ∃ (a : Addr) (kvs : List (List Key × V)) (cs : List (Int × Int)), vs = [.ref a] ∧ H a = some (.dT kvs) ∧ kvs.map (·.1) = cs.map pk ∧
  ∀ ys p ts, Ties H ys ts → ts.Perm cs → ts.Pairwise (fun s t => ¬ ltT t s) → H p = none → Q (.ref p) (upd H p (.lst ys))
def rSortedTT (K : PySem.W.Frag) : List V → Hp → VK → Prop := fun vs H Q => ∃ (a : Addr) (us : List V) (cs : List (Int × Int)), vs = [.ref a] ∧ SqT K H a us ∧ Ties H us cs ∧
  ∀ ys p ts, Ties H ys ts → ts.Perm cs → ts.Pairwise (fun s t => ¬ ltT t s) → H p = none → Q (.ref p) (upd H p (.lst ys))
section
variable {X : Cx}
theorem call_sortedDT (hc : X.calm = true) : CallR X (.builtin "sorted") rSortedDT := by
  rintro pins s σ H vs us Q I r ⟨a, kvs, cs, rfl, ha, hk, q⟩
  obtain ⟨u, rfl, ru⟩ := vals1 r
  obtain rfl : u = Value.ref a := ru
  obtain ⟨z, lo, xs, rel, o, es, ep, ho, hex, hdat, hes, his, hnd⟩ := dt_of I.hok ha
  have hsz : es.size = xs.length := size_of_entries hes
  have hlen : kvs.length = xs.length := Paired.length rel
  obtain ⟨L, hL⟩ : ∃ L : List Value, L = xs.map fun x => Value.ref x.2.1 := ⟨_, rfl⟩
  have hLl : L.length = xs.length := by rw [hL, List.length_map]
  have hback : L.map backV = xs.map fun x => V.ref x.2.1 := by
    rw [hL, List.map_map]; rfl
  have hT : Ties H (L.map backV) cs := by rw [hback]; exact kt_ties rel hk
  refine Calls.call_function_entry PyProof.Rows.kind_sorted PyProof.Rows.plain_sorted PyProof.Rows.entry_sorted (PyProof.Rows.args_sorted1 _) (?_ : wpAny _ _ (Builtin.«sorted» ⟨[.ref a], []⟩) _ _ s)
  unfold Builtin.«sorted»
  refine wpAny_bind (m := checkCount "sorted" 1 1 _) (wpAny_pure (wpAny_bind (PySem.W.kdu_collect (A := X.A.in1) (PySem.KdlSrc.rawDict (es := es) (ep := ep) lo) (I.ok.hd hc) ⟨o, ho, hex, hdat⟩ (by rw [hsz, ← hlen]; exact z) fun h' tk acc kp hacc => ?_)))
  have hA : acc.toList = L := by
    refine List.ext_getElem? fun j => ?_
    rw [hL, List.getElem?_map]
    by_cases hj : j < xs.length
    · have hj2 : j < acc.size := by rw [hacc.1, hsz]; exact hj
      obtain ⟨hi, e⟩ := hacc.2 j acc[j] (Array.getElem?_eq_getElem hj2)
      have e1 := entry_at hes j
      rw [Array.getElem?_eq_getElem hi, List.getElem?_eq_getElem hj] at e1
      have e2 := Option.some.inj e1
      rw [Array.getElem?_toList, Array.getElem?_eq_getElem hj2, e, e2, List.getElem?_eq_getElem hj]; rfl
    · rw [List.getElem?_eq_none (l := acc.toList) (by rw [Array.length_toList, hacc.1, hsz]; omega), List.getElem?_eq_none (l := xs) (by omega)]; rfl
  rw [hA]
  refine sort_rest (I.kept kp) hT (fun v hv => ?_) (by rw [hLl, ← hlen]; exact z) fun p s' ys ts h1 h2 h3 np J => ⟨_, rfl, .ref p, _, J, rfl, q ys p ts h1 h2 h3 np⟩
  rw [hL] at hv
  obtain ⟨x, _, rfl⟩ := List.mem_map.mp hv
  exact ⟨_, rfl⟩
theorem collect_tup {prog : Program} {w : World} {A : Around} {E : Value → Shared → Prop} {s : Shared} {l : Addr} {vs : List Value} {Q : List Value → Shared → Prop} (hl : IsTup s.heap l vs.toArray) (hsz : vs.length ≤ sizeLine)
    (h : ∀ h', (∀ b o, s.heap.get? b = some o → h'.get? b = some o) → Q vs { s with heap := h' }) : wpAny (model prog w) A (collect (.ref l)) Q E s := by
  obtain ⟨o, ho, hc, n, hd⟩ := id hl
  have up : (s.heap.push (seqObj "list" #[] 0)).get? l = some o := Heap.get?_push_of_some _ ho
  have me : (s.heap.push (seqObj "list" #[] 0)).get? s.heap.objs.size = some (seqObj "list" #[] 0) := Heap.get?_push_size _ rfl
  unfold collect
  refine wpAny_bind (wpAny_runValue (codeAny_builtin entry_proto_collect' (?_ : wpAny _ _ (do again (.builtin "list.__iadd__" ⟨[← newList [], .ref l], []⟩)) _ _ s)))
  refine wpAny_bind (wpAny_newList (wpAny_pure ⟨Code.quiet_builtin _ (by decide +kernel), codeAny_builtin entry_list_iadd' (?_ : wpAny _ _ (Builtin.List.listExtendWith (.ref s.heap.objs.size) (.ref l) (.ref s.heap.objs.size)) _ _ { s with heap := s.heap.push (seqObj "list" #[] 0) })⟩))
  unfold Builtin.List.listExtendWith
  refine wpAny_bind (wpAny_typeOf (T := "tuple") ⟨o, up, hc⟩ ?_)
  have tt : (Value.type "tuple" == Value.type "tuple") = true := rfl
  rw [if_pos (by rw [tt]; simp)]
  refine wpAny_bind (listItems_at up hd (wpAny_bind (listItems_at me rfl ?_)))
  rw [if_neg (by simp)]
  refine wpAny_bind (listUpdate_at me rfl (wpAny_pure ?_) (Nat.zero_le _) (by show (#[] ++ vs.toArray).size ≤ sizeLine + 1; simp only [Array.size_append, List.size_toArray, List.length_nil]; omega))
  show wpAny (model prog w) A (load s.heap.objs.size >>= fun o => match o.data with | .seq xs _ => pure xs.toList | _ => unsupported "internal:collect") Q E { s with heap := (s.heap.push (seqObj "list" #[] 0)).update s.heap.objs.size (Obj.mapSeq (· ++ vs.toArray)) }
  refine wpAny_bind (wpAny_load (get?_update_seq me _) (?_ : wpAny _ _ (pure ((#[] : Array Value) ++ vs.toArray).toList) Q E _))
  rw [show ((#[] : Array Value) ++ vs.toArray).toList = vs by simp]
  refine wpAny_pure (h _ fun b ob e => ?_)
  rw [Heap.get?_update_ne _ _ _ _ (Nat.ne_of_lt (Heap.lt_size e))]
  exact Heap.get?_push_of_some _ e
theorem back_refs {H : Hp} : ∀ {us : List V} {its : List Value} {cs : List (Int × Int)}, Vals us its → Ties H us cs → its.map backV = us ∧ ∀ v ∈ its, ∃ b, v = Value.ref b
  | _, _, _, .nil, _ => ⟨rfl, fun v hv => absurd hv List.not_mem_nil⟩
  | _ :: _, _ :: _, [], .cons _ _, h => h.elim
  | _ :: _, _ :: _, _ :: _, .cons r t, h => by
    obtain ⟨i1, i2⟩ := back_refs t h.2
    obtain ⟨p, rfl, _⟩ := h.1
    cases r
    refine ⟨by rw [List.map_cons, i1]; rfl, fun v hv => ?_⟩
    rcases List.mem_cons.mp hv with rfl | hv
    · exact ⟨_, rfl⟩
    · exact i2 v hv
theorem call_sortedTT : CallR X (.builtin "sorted") (rSortedTT X.K) := by
  rintro pins s σ H vs us Q I r ⟨a, ws, cs, rfl, ha, hT, q⟩
  obtain ⟨u, rfl, ru⟩ := vals1 r
  obtain rfl : u = Value.ref a := ru
  obtain ⟨its, rv, ht, hz⟩ := I.tuple ha
  obtain ⟨b1, b2⟩ := back_refs rv hT
  refine Calls.call_function_entry PyProof.Rows.kind_sorted PyProof.Rows.plain_sorted PyProof.Rows.entry_sorted (PyProof.Rows.args_sorted1 _) (?_ : wpAny _ _ (Builtin.«sorted» ⟨[.ref a], []⟩) _ _ s)
  unfold Builtin.«sorted»
  have hz' : its.length ≤ sizeLine := by rw [← rv.length]; exact hz
  refine wpAny_bind (m := checkCount "sorted" 1 1 _) (wpAny_pure (wpAny_bind (collect_tup ht hz' fun h' kp => ?_)))
  exact sort_rest (I.kept (t' := s.toks) kp) (by rw [b1]; exact hT) b2 hz' fun p s' ys ts h1 h2 h3 np J => ⟨_, rfl, .ref p, _, J, rfl, q ys p ts h1 h2 h3 np⟩
end
end My

set_option Elab.async false
set_option linter.all false
set_option maxRecDepth 100000
namespace My
open PySem PySem.Spec PyProof.Rows L2 GxR
/-! ### lists of numbers as data -/
def dI (ns : List Int) : PyData := .list (ns.map PyData.int)
theorem dpI {K : PySem.W.Frag} {H : Hp} : ∀ ns : List Int, DpAll K H (ns.map V.int) (ns.map PyData.int)
  | [] => .nil
  | _ :: ns => .cons (.int _) (dpI ns)
theorem shaped_dI (ns : List Int) : SeqAt.shaped (dI ns) = true := by
  unfold SeqAt.shaped dI
  rw [Bool.and_eq_true, decide_eq_true_eq]
  constructor
  · show PyData.canLayAll0 _ = true
    induction ns with
    | nil => rfl
    | cons a l ih => rw [List.map_cons, PyData.canLayAll0, ih]; rfl
  · show PyData.depthAll _ + 1 ≤ 64
    have : PyData.depthAll (ns.map PyData.int) = 0 := by
      induction ns with
      | nil => rfl
      | cons a l ih => rw [List.map_cons, PyData.depthAll, ih]; rfl
    omega
theorem eqv_dI (ns : List Int) : PyData.eqv (dI ns) (dI ns) = true := by
  show PyData.eqvAll (ns.map PyData.int) (ns.map PyData.int) = true
  induction ns with
  | nil => rfl
  | cons a l ih =>
    rw [List.map_cons]
    show ((a == a) && PyData.eqvAll (l.map PyData.int) (l.map PyData.int)) = true
    rw [ih, beq_self_eq_true]; rfl
theorem cutFrom (xs : List V) (j : Nat) : cutV xs (some (j : Int)) none = xs.drop j := by
  unfold cutV
  rw [HT.sIx_nat, HT.sIx_none]
  by_cases h : j ≤ xs.length
  · rw [Nat.min_eq_left h, ← List.length_drop, List.take_length]
  · rw [Nat.min_eq_right (by omega), Nat.sub_self, List.take_zero, List.drop_eq_nil_of_le (by omega)]
/-! ### lists of lists of arrows as data -/
def dL (c : List Ar) : PyData := .list (c.map dT)
theorem can_lists (cls : List (List Ar)) : PyData.canLayAll0 (cls.map dL) = true := by
  induction cls with
  | nil => rfl
  | cons a l ih =>
    rw [List.map_cons, PyData.canLayAll0, ih]
    have : (dL a).canLay0 = true := can_ties a
    rw [this]; rfl
theorem dep_lists (cls : List (List Ar)) : PyData.depthAll (cls.map dL) ≤ 2 := by
  induction cls with
  | nil => exact Nat.zero_le _
  | cons a l ih =>
    rw [List.map_cons, PyData.depthAll]
    have : (dL a).depth ≤ 2 := by
      show PyData.depthAll (a.map dT) + 1 ≤ 2
      have := dep_ties a
      omega
    omega
theorem shaped_lists (cls : List (List Ar)) : SeqAt.shaped (.list (cls.map dL)) = true := by
  unfold SeqAt.shaped
  rw [Bool.and_eq_true, decide_eq_true_eq]
  refine ⟨can_lists cls, ?_⟩
  show PyData.depthAll _ + 1 ≤ 64
  have := dep_lists cls
  omega
theorem any_dL {cls : List (List Ar)} {c : List Ar} (h : c ∈ cls) : ((cls.map dL).any fun z => PyData.eqv z (dL c)) = true :=
  List.any_eq_true.mpr ⟨dL c, List.mem_map.mpr ⟨c, h, rfl⟩, eqv_ties c⟩
end My

set_option Elab.async false
set_option linter.all false
set_option maxRecDepth 100000
namespace My
open PySem PySem.Spec PyProof.Rows L2 GxR
open PySem.W (dataLt keyToks lex_atom lex_one minD alike min_list_data)

/-! ### min of a list of pairs -/
theorem dlt_dT (s t : Int × Int) : dataLt (dT s) (dT t) = true ↔ ltT s t := by
  obtain ⟨a, b⟩ := s
  obtain ⟨c, d⟩ := t
  have e1 : keyToks (dT (a, b)) = [.inl 1, .inl a, .inl 1, .inl b, .inl 0] := rfl
  have e2 : keyToks (dT (c, d)) = [.inl 1, .inl c, .inl 1, .inl d, .inl 0] := rfl
  have one : ∀ x y : Int, PyProof.Rows.lexLt itemOrd [.inl x] [.inl y] = decide (x < y) := fun x y => lex_one _ _
  unfold dataLt ltT
  rw [e1, e2, lex_self]
  by_cases h1 : a = c
  · subst h1
    rw [lex_self, lex_self]
    by_cases h2 : b = d
    · subst h2
      rw [lex_self, lex_self]
      simp [PyProof.Rows.lexLt]
    · rw [lex_atom (fun z => h2 (Sum.inl.inj z)), one]
      simp
  · rw [lex_atom (fun z => h1 (Sum.inl.inj z)), one]
    simp [h1]
theorem minD_dT : ∀ (cs : List (Int × Int)) (c : Int × Int), ∃ m, minD (dT c) (cs.map dT) = dT m ∧ m ∈ c :: cs ∧ ∀ y ∈ c :: cs, ¬ ltT y m
  | [], c => ⟨c, rfl, List.mem_cons_self, fun y hy => by rw [List.mem_singleton.mp hy]; exact ltT_irr⟩
  | d :: cs, c => by
    by_cases h : ltT d c
    · obtain ⟨m, e, h1, h2⟩ := minD_dT cs d
      refine ⟨m, ?_, List.mem_cons_of_mem _ h1, fun y hy => ?_⟩
      · rw [← e]
        show List.foldl _ (if dataLt (dT d) (dT c) then dT d else dT c) _ = _
        rw [if_pos ((dlt_dT d c).mpr h)]; rfl
      · rcases List.mem_cons.mp hy with rfl | hy
        · intro k
          exact h2 d List.mem_cons_self (by unfold ltT at *; omega)
        · exact h2 y hy
    · obtain ⟨m, e, h1, h2⟩ := minD_dT cs c
      refine ⟨m, ?_, ?_, fun y hy => ?_⟩
      · rw [← e]
        show List.foldl _ (if dataLt (dT d) (dT c) then dT d else dT c) _ = _
        rw [if_neg (fun z => h ((dlt_dT d c).mp z))]; rfl
      · rcases List.mem_cons.mp h1 with rfl | h1
        · exact List.mem_cons_self
        · exact List.mem_cons_of_mem _ (List.mem_cons_of_mem _ h1)
      · rcases List.mem_cons.mp hy with rfl | hy
        · exact h2 _ List.mem_cons_self
        · rcases List.mem_cons.mp hy with rfl | hy
          · intro k
            have := h2 c List.mem_cons_self
            unfold ltT at *; omega
          · exact h2 y (List.mem_cons_of_mem _ hy)
def rMinT (K : PySem.W.Frag) : List V → Hp → VK → Prop := fun vs H Q => ∃ (a : Addr) (us : List V) (cs : List (Int × Int)), vs = [.ref a] ∧ SqL K H a us ∧ Ties H us cs ∧ cs ≠ [] ∧
  ∀ x m, m ∈ cs → (∀ y ∈ cs, ¬ ltT y m) → Tie H x m → Q x H
theorem vals_at : ∀ {xs : List V} {us : List Value} {i : Nat} {u : Value}, Vals xs us → us[i]? = some u → ∃ x, xs[i]? = some x ∧ RelV x u
  | _, _, _, _, .nil, h => by cases h
  | _, _, 0, _, .cons r _, h => by cases h; exact ⟨_, rfl, r⟩
  | _, _, i + 1, _, .cons _ t, h => vals_at (i := i) t h
theorem alike_dT (s t : Int × Int) : alike (dT s) (dT t) = true := rfl
section
variable {X : Cx}
theorem cr_minT (hc : X.calm = true) (hu : X.A.units + 65 < cLine) : CallR X (.builtin "min") (rMinT X.K) := by
  rintro pins s σ H vs us Q I r ⟨a, ws, cs, rfl, ha, hT, hne, q⟩
  obtain ⟨u, rfl, ru⟩ := vals1 r
  obtain rfl : u = Value.ref a := ru
  obtain ⟨its, rv, hl, hz⟩ := I.list ha
  obtain ⟨as, hr⟩ := Dp.readsAll I (cs.map dT) ws its hT.dp rv
  cases cs with
  | nil => exact absurd rfl hne
  | cons c cs =>
    obtain ⟨m, em, h1, h2⟩ := minD_dT cs c
    have hd := dep_ties (c :: cs)
    refine min_list_data (x := dT c) (xs := cs.map dT) (I.ok.hd hc) hl.isList (by simpa using hr) ⟨fun x hx y hy => ?_, fun x hx => ?_⟩ (by rw [← List.map_cons]; omega) fun i v h' tk bs hv hrd kp => ?_
    · rw [← List.map_cons] at hx hy
      obtain ⟨s, _, rfl⟩ := List.mem_map.mp hx
      obtain ⟨t, _, rfl⟩ := List.mem_map.mp hy
      exact alike_dT s t
    · rw [← List.map_cons] at hx
      obtain ⟨s, _, rfl⟩ := List.mem_map.mp hx
      exact fun z => by cases z
    · rw [em] at hrd
      have hi : i < its.length := by
        have := (Array.getElem?_eq_some_iff.mp hv).1
        simpa using this
      have hv' : its[i]? = some v := by simpa using hv
      obtain ⟨x, hx, rx⟩ := vals_at rv hv'
      obtain ⟨t, tm, ht⟩ := hT.at hx
      have I1 : Inv X pins σ H { s with heap := h', toks := tk } := I.kept kp
      obtain ⟨b, rfl, eb⟩ := id ht
      obtain rfl : v = Value.ref b := rx
      obtain ⟨_, its2, r2, o2, ho2, hc2, n2, hd2⟩ := I1.hok _ _ eb
      obtain ⟨u1, u2, rfl, ⟨t1, rfl⟩, ⟨t2, rfl⟩⟩ := vals2 r2
      obtain ⟨ta, tb⟩ := t
      obtain ⟨ma, mb⟩ := m
      have e : (ta, tb) = (ma, mb) := by
        cases hrd with
        | tuple g1 g2 g3 g4 =>
          have g1' := g1.symm.trans ho2
          cases g1'
          rw [hd2] at g3
          cases g3
          cases g4 with
          | cons a1 b1 =>
            cases b1 with
            | cons a2 b2 =>
              cases a1; cases a2
              rfl
      exact ⟨.ref b, H, I1, rfl, q _ _ h1 h2 (e ▸ ht)⟩
end
end My

set_option Elab.async false
set_option linter.all false
set_option maxRecDepth 100000
namespace My
open PySem PySem.Spec PyProof.Rows L2 GxR
open PySem.W (dataLt keyToks lex_atom lex_one minD alike min_list_data)

/-! ### not in, of tuples -/
def rNotInDT (K : PySem.W.Frag) : R2 := fun x y H Q => ∃ d ds, Dp K H x d ∧ Dp K H y (.tuple ds) ∧ SeqAt.shaped d = true ∧ SeqAt.shaped (.tuple ds) = true ∧ Q (.bl (!(ds.any fun z => PyData.eqv z d))) H
theorem op_notInDT {X : Cx} (hu : X.A.units + 65 < cLine) : OpR X (compareOp .NotIn) (rNotInDT X.K) := fun pins s σ H x y v u Q I rx ry ⟨d, ds, hd, he, sd, se, q⟩ => by
  obtain ⟨as, r1⟩ := Dp.reads I d x v hd rx
  obtain ⟨bs, r2⟩ := Dp.reads I (.tuple ds) y u he ry
  exact SeqAt.notIn_tuple_reads r2 r1 (SeqAt.canLay_of_shaped se) (SeqAt.canLay_of_shaped sd) (room_in_shaped sd hu) ⟨.bl _, H, I, rfl, q⟩
/-! ### threes -/
abbrev Th := Int × Int × Int
def T3 (H : Hp) (v : V) (t : Th) : Prop := ∃ p, v = .ref p ∧ H p = some (.tup [.int t.1, .int t.2.1, .int t.2.2])
def T3s (H : Hp) : List V → List Th → Prop
  | [], [] => True
  | v :: vs, t :: ts => T3 H v t ∧ T3s H vs ts
  | _, _ => False
theorem T3.mono {H H' : Hp} {v : V} {t : Th} (a : Tst H H') (h : T3 H v t) : T3 H' v t := by
  obtain ⟨p, e, h⟩ := h
  exact ⟨p, e, a _ _ h⟩
theorem T3s.mono {H H' : Hp} (a : Tst H H') : ∀ {vs : List V} {ts : List Th}, T3s H vs ts → T3s H' vs ts
  | [], [], _ => trivial
  | _ :: _, _ :: _, h => ⟨h.1.mono a, T3s.mono a h.2⟩
  | [], _ :: _, h => h.elim
  | _ :: _, [], h => h.elim
theorem T3s.app {H : Hp} : ∀ {vs : List V} {ts : List Th} {us : List V} {rs : List Th}, T3s H vs ts → T3s H us rs → T3s H (vs ++ us) (ts ++ rs)
  | [], [], _, _, _, k => k
  | _ :: _, _ :: _, _, _, h, k => ⟨h.1, T3s.app h.2 k⟩
  | [], _ :: _, _, _, h, _ => h.elim
  | _ :: _, [], _, _, h, _ => h.elim
theorem T3s.len {H : Hp} : ∀ {vs : List V} {ts : List Th}, T3s H vs ts → vs.length = ts.length
  | [], [], _ => rfl
  | _ :: _, _ :: _, h => congrArg (· + 1) (T3s.len h.2)
  | [], _ :: _, h => h.elim
  | _ :: _, [], h => h.elim
theorem T3s.at {H : Hp} : ∀ {vs : List V} {ts : List Th} {i : Nat} {v : V}, T3s H vs ts → vs[i]? = some v → ∃ t, ts[i]? = some t ∧ T3 H v t
  | [], [], _, _, _, e => by cases e
  | _ :: _, t :: _, 0, _, h, e => by cases e; exact ⟨t, rfl, h.1⟩
  | _ :: _, _ :: _, i + 1, _, h, e => T3s.at (i := i) h.2 e
  | [], _ :: _, _, _, h, _ => h.elim
  | _ :: _, [], _, _, h, _ => h.elim
def d3 (t : Th) : PyData := .tuple [.int t.1, .int t.2.1, .int t.2.2]
theorem T3.dp {K : PySem.W.Frag} {H : Hp} {v : V} {t : Th} (h : T3 H v t) : Dp K H v (d3 t) := by
  obtain ⟨p, rfl, h⟩ := h
  exact .tup (SqT.of h) (.cons (.int _) (.cons (.int _) (.cons (.int _) .nil)))
theorem T3s.dp {K : PySem.W.Frag} {H : Hp} : ∀ {vs : List V} {ts : List Th}, T3s H vs ts → DpAll K H vs (ts.map d3)
  | [], [], _ => .nil
  | _ :: _, _ :: _, h => .cons h.1.dp (T3s.dp h.2)
  | [], _ :: _, h => h.elim
  | _ :: _, [], h => h.elim
theorem can_d3 (ts : List Th) : PyData.canLayAll0 (ts.map d3) = true := by
  induction ts with
  | nil => rfl
  | cons a l ih => rw [List.map_cons, PyData.canLayAll0, ih]; rfl
theorem dep_d3 (ts : List Th) : PyData.depthAll (ts.map d3) ≤ 1 := by
  induction ts with
  | nil => exact Nat.zero_le _
  | cons a l ih =>
    rw [List.map_cons, PyData.depthAll]
    have : (d3 a).depth = 1 := rfl
    omega
theorem shaped_d3s (ts : List Th) : SeqAt.shaped (.list (ts.map d3)) = true := by
  unfold SeqAt.shaped
  rw [Bool.and_eq_true, decide_eq_true_eq]
  refine ⟨can_d3 ts, ?_⟩
  show PyData.depthAll _ + 1 ≤ 64
  have := dep_d3 ts
  omega
theorem eqv_nil3 (wl : List Th) : PyData.eqv (.list (wl.map d3)) (.list []) = decide (wl = []) := by
  cases wl with
  | nil => rfl
  | cons a l => rfl
def lt3 (s t : Th) : Prop := s.1 < t.1 ∨ (s.1 = t.1 ∧ (s.2.1 < t.2.1 ∨ (s.2.1 = t.2.1 ∧ s.2.2 < t.2.2)))
theorem dlt_d3 (s t : Th) : dataLt (d3 s) (d3 t) = true ↔ lt3 s t := by
  obtain ⟨a, b, c⟩ := s
  obtain ⟨d, e, f⟩ := t
  have e1 : keyToks (d3 (a, b, c)) = [.inl 1, .inl a, .inl 1, .inl b, .inl 1, .inl c, .inl 0] := rfl
  have e2 : keyToks (d3 (d, e, f)) = [.inl 1, .inl d, .inl 1, .inl e, .inl 1, .inl f, .inl 0] := rfl
  have one : ∀ x y : Int, PyProof.Rows.lexLt itemOrd [.inl x] [.inl y] = decide (x < y) := fun x y => lex_one _ _
  unfold dataLt lt3
  rw [e1, e2, lex_self]
  by_cases h1 : a = d
  · subst h1
    rw [lex_self, lex_self]
    by_cases h2 : b = e
    · subst h2
      rw [lex_self, lex_self]
      by_cases h3 : c = f
      · subst h3
        rw [lex_self, lex_self]
        simp [PyProof.Rows.lexLt]
      · rw [lex_atom (fun z => h3 (Sum.inl.inj z)), one]
        simp
    · rw [lex_atom (fun z => h2 (Sum.inl.inj z)), one]
      simp [h2]
  · rw [lex_atom (fun z => h1 (Sum.inl.inj z)), one]
    simp [h1]
theorem lt3_irr {t : Th} : ¬ lt3 t t := by unfold lt3; omega
theorem minD_d3 : ∀ (cs : List Th) (c : Th), ∃ m, minD (d3 c) (cs.map d3) = d3 m ∧ m ∈ c :: cs ∧ ∀ y ∈ c :: cs, ¬ lt3 y m
  | [], c => ⟨c, rfl, List.mem_cons_self, fun y hy => by rw [List.mem_singleton.mp hy]; exact lt3_irr⟩
  | d :: cs, c => by
    by_cases h : lt3 d c
    · obtain ⟨m, e, h1, h2⟩ := minD_d3 cs d
      refine ⟨m, ?_, List.mem_cons_of_mem _ h1, fun y hy => ?_⟩
      · rw [← e]
        show List.foldl _ (if dataLt (d3 d) (d3 c) then d3 d else d3 c) _ = _
        rw [if_pos ((dlt_d3 d c).mpr h)]; rfl
      · rcases List.mem_cons.mp hy with rfl | hy
        · intro k
          exact h2 d List.mem_cons_self (by unfold lt3 at *; omega)
        · exact h2 y hy
    · obtain ⟨m, e, h1, h2⟩ := minD_d3 cs c
      refine ⟨m, ?_, ?_, fun y hy => ?_⟩
      · rw [← e]
        show List.foldl _ (if dataLt (d3 d) (d3 c) then d3 d else d3 c) _ = _
        rw [if_neg (fun z => h ((dlt_d3 d c).mp z))]; rfl
      · rcases List.mem_cons.mp h1 with rfl | h1
        · exact List.mem_cons_self
        · exact List.mem_cons_of_mem _ (List.mem_cons_of_mem _ h1)
      · rcases List.mem_cons.mp hy with rfl | hy
        · exact h2 _ List.mem_cons_self
        · rcases List.mem_cons.mp hy with rfl | hy
          · intro k
            have := h2 c List.mem_cons_self
            unfold lt3 at *; omega
          · exact h2 y (List.mem_cons_of_mem _ hy)
def rMinT3 (K : PySem.W.Frag) : List V → Hp → VK → Prop := fun vs H Q => ∃ (a : Addr) (us : List V) (cs : List Th), vs = [.ref a] ∧ SqL K H a us ∧ T3s H us cs ∧ cs ≠ [] ∧
  ∀ x m, m ∈ cs → (∀ y ∈ cs, ¬ lt3 y m) → T3 H x m → Q x H
theorem alike_d3 (s t : Th) : alike (d3 s) (d3 t) = true := rfl
theorem vals3 {x y z : V} {us : List Value} (r : Vals [x, y, z] us) : ∃ a b c, us = [a, b, c] ∧ RelV x a ∧ RelV y b ∧ RelV z c := by
  cases r with
  | cons r1 t =>
    cases t with
    | cons r2 t =>
      cases t with
      | cons r3 t => cases t; exact ⟨_, _, _, rfl, r1, r2, r3⟩
section
variable {X : Cx}
theorem cr_minT3 (hc : X.calm = true) (hu : X.A.units + 65 < cLine) : CallR X (.builtin "min") (rMinT3 X.K) := by
  rintro pins s σ H vs us Q I r ⟨a, ws, cs, rfl, ha, hT, hne, q⟩
  obtain ⟨u, rfl, ru⟩ := vals1 r
  obtain rfl : u = Value.ref a := ru
  obtain ⟨its, rv, hl, hz⟩ := I.list ha
  obtain ⟨as, hr⟩ := Dp.readsAll I (cs.map d3) ws its hT.dp rv
  cases cs with
  | nil => exact absurd rfl hne
  | cons c cs =>
    obtain ⟨m, em, h1, h2⟩ := minD_d3 cs c
    have hd := dep_d3 (c :: cs)
    refine min_list_data (x := d3 c) (xs := cs.map d3) (I.ok.hd hc) hl.isList (by simpa using hr) ⟨fun x hx y hy => ?_, fun x hx => ?_⟩ (by rw [← List.map_cons]; omega) fun i v h' tk bs hv hrd kp => ?_
    · rw [← List.map_cons] at hx hy
      obtain ⟨s, _, rfl⟩ := List.mem_map.mp hx
      obtain ⟨t, _, rfl⟩ := List.mem_map.mp hy
      exact alike_d3 s t
    · rw [← List.map_cons] at hx
      obtain ⟨s, _, rfl⟩ := List.mem_map.mp hx
      exact fun z => by cases z
    · rw [em] at hrd
      have hv' : its[i]? = some v := by simpa using hv
      obtain ⟨x, hx, rx⟩ := vals_at rv hv'
      obtain ⟨t, tm, ht⟩ := hT.at hx
      have I1 : Inv X pins σ H { s with heap := h', toks := tk } := I.kept kp
      obtain ⟨b, rfl, eb⟩ := id ht
      obtain rfl : v = Value.ref b := rx
      obtain ⟨_, its2, r2, o2, ho2, hc2, n2, hd2⟩ := I1.hok _ _ eb
      obtain ⟨u1, u2, u3, rfl, ⟨t1, rfl⟩, ⟨t2, rfl⟩, ⟨t3, rfl⟩⟩ := vals3 r2
      obtain ⟨ta, tb, tc⟩ := t
      obtain ⟨ma, mb, mc⟩ := m
      have e : (ta, tb, tc) = (ma, mb, mc) := by
        cases hrd with
        | tuple g1 g2 g3 g4 =>
          have g1' := g1.symm.trans ho2
          cases g1'
          rw [hd2] at g3
          cases g3
          cases g4 with
          | cons a1 b1 =>
            cases b1 with
            | cons a2 b2 =>
              cases b2 with
              | cons a3 b3 =>
                cases a1; cases a2; cases a3
                rfl
      exact ⟨.ref b, H, I1, rfl, q _ _ h1 h2 (e ▸ ht)⟩
end
theorem t3_eqd {H : Hp} {v u : V} {t : Th} (h : T3 H v t) (k : T3 H u t) : Eqd 1 H v u := by
  obtain ⟨p, rfl, h⟩ := h
  obtain ⟨q, rfl, k⟩ := k
  refine .inr ⟨p, q, _, _, rfl, rfl, .inl ⟨h, k⟩, rfl, by show 3 ≤ 10000; decide, fun i v u e f => ?_⟩
  match i, e, f with
  | 0, e, f => cases e; cases f; exact Eqd.int
  | 1, e, f => cases e; cases f; exact Eqd.int
  | 2, e, f => cases e; cases f; exact Eqd.int
end My

set_option Elab.async false
set_option linter.all false
set_option maxRecDepth 100000
namespace My
open PySem PySem.Spec PyProof.Rows L2 GxR
open PySem.W (dataLt keyToks keyToksAll lex_atom lex_one lex_pre minD alike alikeAll AlikeAll min_list_data)

/-! ### min of a list of data -/
theorem dp_at {K : PySem.W.Frag} {H : Hp} : ∀ {us : List V} {ds : List PyData} {i : Nat} {x : V}, DpAll K H us ds → us[i]? = some x → ∃ d, ds[i]? = some d ∧ Dp K H x d
  | _, _, _, _, .nil, h => by cases h
  | _, _, 0, _, .cons r _, h => by cases h; exact ⟨_, rfl, r⟩
  | _, _, i + 1, _, .cons _ t, h => dp_at (i := i) t h
def rMinD (K : PySem.W.Frag) : List V → Hp → VK → Prop := fun vs H Q => ∃ (a : Addr) (us : List V) (d : PyData) (ds : List PyData), vs = [.ref a] ∧ SqL K H a us ∧ DpAll K H us (d :: ds) ∧ AlikeAll (d :: ds) ∧ PyData.depthAll (d :: ds) ≤ 60 ∧
  ∀ (x : V) (i : Nat), us[i]? = some x → (d :: ds)[i]? = some (minD d ds) → Q x H
section
variable {X : Cx}
theorem cr_minD (hc : X.calm = true) (hu : X.A.units + 65 < cLine) : CallR X (.builtin "min") (rMinD X.K) := by
  rintro pins s σ H vs us Q I r ⟨a, ws, d, ds, rfl, ha, hT, al, dep, q⟩
  obtain ⟨u, rfl, ru⟩ := vals1 r
  obtain rfl : u = Value.ref a := ru
  obtain ⟨its, rv, hl, hz⟩ := I.list ha
  obtain ⟨as, hr⟩ := Dp.readsAll I (d :: ds) ws its hT rv
  refine min_list_data (x := d) (xs := ds) (I.ok.hd hc) hl.isList (by simpa using hr) al (by omega) fun i v h' tk bs hv hrd kp => ?_
  have hv' : its[i]? = some v := by simpa using hv
  obtain ⟨x, hx, rx⟩ := vals_at rv hv'
  obtain ⟨e, he, dx⟩ := dp_at hT hx
  obtain ⟨bs2, r2⟩ := Dp.reads I e x v dx rx
  have ee : minD d ds = e := (reads_det (fun b o h _ => kp b o h) r2 hrd).1
  exact ⟨x, H, I.kept kp, rx, q x i hx (by rw [ee]; exact he)⟩
end
theorem minD_one {u : PyData} : ∀ {ds : List PyData} {d : PyData}, u ∈ d :: ds → (∀ q ∈ d :: ds, q ≠ u → dataLt u q = true ∧ dataLt q u = false) → dataLt u u = false → minD d ds = u
  | [], d, h, _, _ => (List.mem_singleton.mp h).symm
  | y :: ds, d, h, hq, ir => by
    show minD (if dataLt y d then y else d) ds = u
    by_cases e : d = u
    · subst e
      have : dataLt y d = false := by
        by_cases z : y = d
        · rw [z]; exact ir
        · exact (hq y (List.mem_cons_of_mem _ List.mem_cons_self) z).2
      rw [this]
      exact minD_one (d := d) List.mem_cons_self (fun q hq' ne => hq q (by rcases List.mem_cons.mp hq' with z | z; exact absurd z ne; exact List.mem_cons_of_mem _ (List.mem_cons_of_mem _ z)) ne) ir
    · by_cases z : y = u
      · subst z
        rw [(hq d List.mem_cons_self e).1]
        exact minD_one (d := y) List.mem_cons_self (fun q hq' ne => hq q (by rcases List.mem_cons.mp hq' with z | z; exact absurd z ne; exact List.mem_cons_of_mem _ (List.mem_cons_of_mem _ z)) ne) ir
      · have um : u ∈ ds := by
          rcases List.mem_cons.mp h with k | k
          · exact absurd k.symm e
          · rcases List.mem_cons.mp k with k | k
            · exact absurd k.symm z
            · exact k
        refine minD_one (d := if dataLt y d then y else d) (List.mem_cons_of_mem _ um) (fun q hq' ne => hq q ?_ ne) ir
        rcases List.mem_cons.mp hq' with k | k
        · rw [k]
          split
          · exact List.mem_cons_of_mem _ List.mem_cons_self
          · exact List.mem_cons_self
        · exact List.mem_cons_of_mem _ (List.mem_cons_of_mem _ k)
/-! ### tuples of pairs -/
def dP (ps : List (Int × Int)) : PyData := .tuple (ps.map dT)
theorem toks_dP (ps : List (Int × Int)) : keyToks (dP ps) = keyToksAll (ps.map dT) := rfl
theorem lex_dT (s t : Int × Int) (l m : List (Int ⊕ List Nat)) (h : ltT s t) : PyProof.Rows.lexLt itemOrd (keyToks (dT s) ++ l) (keyToks (dT t) ++ m) = true := by
  obtain ⟨a, b⟩ := s
  obtain ⟨c, d⟩ := t
  have one : ∀ x y : Int, PyProof.Rows.lexLt itemOrd [.inl x] [.inl y] = decide (x < y) := fun x y => lex_one _ _
  show PyProof.Rows.lexLt itemOrd (.inl 1 :: .inl a :: .inl 1 :: .inl b :: .inl 0 :: l) (.inl 1 :: .inl c :: .inl 1 :: .inl d :: .inl 0 :: m) = true
  rw [lex_self]
  by_cases h1 : a = c
  · subst h1
    rw [lex_self, lex_self]
    have h2 : b < d := by unfold ltT at h; dsimp only at h; omega
    rw [lex_atom (fun z => by have := Sum.inl.inj z; omega), one]
    exact decide_eq_true h2
  · rw [lex_atom (fun z => h1 (Sum.inl.inj z)), one]
    exact decide_eq_true (by unfold ltT at h; dsimp only at h; omega)
theorem lex_dT' (s t : Int × Int) (l m : List (Int ⊕ List Nat)) (h : ltT s t) : PyProof.Rows.lexLt itemOrd (keyToks (dT t) ++ m) (keyToks (dT s) ++ l) = false := by
  obtain ⟨a, b⟩ := s
  obtain ⟨c, d⟩ := t
  have one : ∀ x y : Int, PyProof.Rows.lexLt itemOrd [.inl x] [.inl y] = decide (x < y) := fun x y => lex_one _ _
  show PyProof.Rows.lexLt itemOrd (.inl 1 :: .inl c :: .inl 1 :: .inl d :: .inl 0 :: m) (.inl 1 :: .inl a :: .inl 1 :: .inl b :: .inl 0 :: l) = false
  rw [lex_self]
  by_cases h1 : a = c
  · subst h1
    rw [lex_self, lex_self]
    have h2 : b < d := by unfold ltT at h; dsimp only at h; omega
    rw [lex_atom (fun z => by have := Sum.inl.inj z; omega), one]
    exact decide_eq_false (by omega)
  · rw [lex_atom (fun z => h1 (Sum.inl.inj z).symm), one]
    exact decide_eq_false (by unfold ltT at h; dsimp only at h; omega)
/-- the first that differ -/
def ltLs : List (Int × Int) → List (Int × Int) → Prop
  | s :: l, t :: m => ltT s t ∨ (s = t ∧ ltLs l m)
  | _, _ => False
theorem dlt_dP : ∀ {ps qs : List (Int × Int)}, ltLs ps qs → dataLt (dP ps) (dP qs) = true ∧ dataLt (dP qs) (dP ps) = false
  | s :: l, t :: m, h => by
    unfold dataLt
    rw [toks_dP, toks_dP]
    show PyProof.Rows.lexLt itemOrd (.inl 1 :: (keyToks (dT s) ++ keyToksAll (l.map dT))) (.inl 1 :: (keyToks (dT t) ++ keyToksAll (m.map dT))) = true ∧ PyProof.Rows.lexLt itemOrd (.inl 1 :: (keyToks (dT t) ++ keyToksAll (m.map dT))) (.inl 1 :: (keyToks (dT s) ++ keyToksAll (l.map dT))) = false
    rw [lex_self, lex_self]
    rcases h with h | ⟨rfl, h⟩
    · exact ⟨lex_dT _ _ _ _ h, lex_dT' _ _ _ _ h⟩
    · rw [lex_pre, lex_pre]
      exact dlt_dP h
theorem dlt_irr (ps : List (Int × Int)) : dataLt (dP ps) (dP ps) = false := lex_irrefl _
theorem dP_inj : ∀ {ps qs : List (Int × Int)}, dP ps = dP qs → ps = qs := fun {ps qs} h => by
  have h' : ps.map dT = qs.map dT := PyData.tuple.inj h
  have key : ∀ (l m : List (Int × Int)), l.map dT = m.map dT → l = m := by
    intro l
    induction l with
    | nil => intro m h; cases m with | nil => rfl | cons _ _ => cases h
    | cons a l ih =>
      intro m h
      cases m with
      | nil => cases h
      | cons b m =>
        rw [List.map_cons, List.map_cons] at h
        have h1 := (List.cons.inj h).1
        have h2 := ih m (List.cons.inj h).2
        obtain ⟨x, y⟩ := a
        obtain ⟨z, w⟩ := b
        unfold dT at h1
        simp at h1
        rw [h2, h1.1, h1.2]
  exact key _ _ h'
theorem alike_dP : ∀ {ps qs : List (Int × Int)}, ps.length = qs.length → alike (dP ps) (dP qs) = true := fun {ps qs} h => by
  show alikeAll (ps.map dT) (qs.map dT) = true
  induction ps generalizing qs with
  | nil => cases qs with | nil => rfl | cons _ _ => cases h
  | cons a l ih =>
    cases qs with
    | nil => cases h
    | cons b m =>
      rw [List.map_cons, List.map_cons, alikeAll, ih (Nat.succ.inj h), alike_dT]; rfl
end My

set_option Elab.async false
set_option linter.all false
set_option maxRecDepth 100000
namespace My
open PySem PySem.Spec PyProof.Rows L2 GxR
section
variable {P : Program} {w : World} {K : PySem.W.Frag} {mg : Str → Option Value} {base : Heap}
end
end My

set_option Elab.async false
set_option linter.all false
set_option maxRecDepth 100000
namespace My
open PySem PySem.Spec PyProof.Rows L2 GxR
theorem valV_keys {o : Ar} : ∀ {ms : List (List Key × V)} {cs : List Ar}, ms.map (·.1) = cs.map pk → (valV ms (pk o)).isSome = decide (o ∈ cs)
  | [], [], _ => rfl
  | [], _ :: _, h => by cases h
  | _ :: _, [], h => by cases h
  | m :: ms, c :: cs, h => by
    rw [List.map_cons, List.map_cons] at h
    have h1 : m.1 = pk c := (List.cons.inj h).1
    have ih := valV_keys (o := o) (List.cons.inj h).2
    by_cases e : c = o
    · subst e
      rw [valV_pos h1]
      exact (decide_eq_true List.mem_cons_self).symm
    · rw [valV_neg (fun z => e (pk_inj (h1.symm.trans z))), ih]
      refine decide_eq_decide.mpr ?_
      rw [List.mem_cons]
      exact ⟨.inr, fun z => z.elim (fun z => absurd z.symm e) id⟩
theorem keys_put {ms : List (List Key × V)} {cs : List Ar} {o : Ar} {v : V} (h : ms.map (·.1) = cs.map pk) (hn : ¬ o ∈ cs) : (putK ms (pk o) v).map (·.1) = (cs ++ [o]).map pk := by
  have e : (ms.any fun kv => decide (kv.1 = pk o)) = false := by
    rw [valV_any, valV_keys h]; exact decide_eq_false hn
  unfold putK
  rw [e]
  show (ms ++ [(pk o, v)]).map (·.1) = _
  rw [List.map_append, List.map_append, h]; rfl
theorem Ties.dropLast {H : Hp} : ∀ {vs : List V} {ts : List Ar}, Ties H vs ts → Ties H vs.dropLast ts.dropLast
  | [], [], _ => trivial
  | [_], [_], _ => trivial
  | _ :: _ :: _, _ :: _ :: _, h => ⟨h.1, Ties.dropLast h.2⟩
  | [], _ :: _, h => h.elim
  | _ :: _, [], h => h.elim
  | [_], _ :: _ :: _, h => h.2.elim
  | _ :: _ :: _, [_], h => h.2.elim
theorem comeR_ok {n : Nat} {ts : List Ar} : ∀ (k : Nat) {fw : List Ar × List Ar}, GrowI n fw → (comeR n ts k fw).Nodup ∧ ∀ t ∈ comeR n ts k fw, InR n t
  | 0, fw, h => ⟨h.nd, h.rng⟩
  | k + 1, fw, h => by
    unfold comeR
    cases e : fw.2.getLast? with
    | none => exact ⟨h.nd, h.rng⟩
    | some x =>
      have hx : InR n x := h.sub x (List.mem_of_getLast? e)
      exact comeR_ok k (grow_all (fs := frcS n ts x) (fw := (fw.1, fw.2.dropLast)) ⟨h.nd, h.rng, fun t ht => h.sub t ((List.dropLast_sublist _).subset ht)⟩ fun t ht => frc_rng hx ((mem_frcS hx).mp ht)).1
theorem growI_one {n : Nat} {t : Ar} (h : InR n t) : GrowI n ([t], [t]) :=
  ⟨List.nodup_cons.mpr ⟨List.not_mem_nil, List.nodup_nil⟩, fun s hs => by rw [List.mem_singleton.mp hs]; exact h, fun s hs => by rw [List.mem_singleton.mp hs]; exact h⟩
theorem come_ok {n : Nat} {ts : List Ar} {t : Ar} (h : InR n t) : (comeF n ts t).Nodup ∧ ∀ x ∈ comeF n ts t, InR n x := comeR_ok _ (growI_one h)
theorem eqv_nil (wl : List Ar) : PyData.eqv (.list (wl.map dT)) (.list []) = decide (wl = []) := by
  cases wl with
  | nil => rfl
  | cons a l => rfl
section
variable {P : Program} {w : World} {K : PySem.W.Frag} {mg : Str → Option Value} {base : Heap}
end
end My

set_option Elab.async false
set_option linter.all false
set_option maxRecDepth 100000
namespace My
open PySem PySem.Spec PyProof.Rows L2 GxR
theorem joinA_merge {kvs ms : List (List Key × V)} {C D : List Ar} (h : JoinA kvs C) (k : ms.map (·.1) = D.map pk) : JoinA (mergeT kvs ms) (C ++ D) := fun o => by
  rw [valV_mergeT, h o, valV_keys k, Bool.or_comm]
  by_cases a : o ∈ C <;> by_cases b : o ∈ D <;> simp [a, b]
theorem inR_of {n : Nat} {ts : List Ar} (hw : WOk n ts) {t : Ar} (h : t ∈ ts) : InR n t := by
  have := hw.2 t h
  exact ⟨this.1, by omega, by omega, this.2.2⟩
section
variable {P : Program} {w : World} {K : PySem.W.Frag} {mg : Str → Option Value} {base : Heap}
end
end My

set_option Elab.async false
set_option linter.all false
set_option maxRecDepth 100000
namespace My
open PySem PySem.Spec PyProof.Rows L2 GxR
def okB (ps : List Ar) (s t : Ar) : Bool := !decide (s.2 = t.1) || decide ((s.1, t.2) ∈ ps)
def ledB (ps : List Ar) : Bool := ps.all fun s => ps.all fun t => okB ps s t
theorem all_take {α : Type} {f : α → Bool} {l : List α} {i : Nat} {x : α} (h : (l.take i).all f = true) (e : l[i]? = some x) (hx : f x = true) : (l.take (i + 1)).all f = true := by
  rw [List.take_add_one, e, List.all_append, h]
  show (true && (f x && true)) = true
  rw [hx]; rfl
theorem all_no {α : Type} {f : α → Bool} {l : List α} {i : Nat} {x : α} (e : l[i]? = some x) (hx : f x = false) : l.all f = false := by
  rw [List.all_eq_false]
  exact ⟨x, List.mem_of_getElem? e, by rw [hx]; exact Bool.false_ne_true⟩
theorem eqI' (a b : Int) : decide (V.int a = V.int b) = decide (a = b) := decide_eq_decide.mpr ⟨fun e => V.int.inj e, fun e => congrArg V.int e⟩
def kTrue (ps : List Ar) : List (List Key × V) := ps.map fun t => (pk t, V.bl true)
theorem kTrue_keys (ps : List Ar) : (kTrue ps).map (·.1) = ps.map pk := by unfold kTrue; rw [List.map_map]; rfl
theorem joinA_true (ps : List Ar) : JoinA (mergeT [] (kTrue ps)) ps := fun o => by
  rw [valV_mergeT, valV_keys (kTrue_keys ps)]; exact Bool.false_or _
theorem paired_app {α β : Type} {R : α → β → Prop} : ∀ {l : List α} {m : List β} {a : α} {b : β}, Paired R l m → R a b → Paired R (l ++ [a]) (m ++ [b])
  | _, _, _, _, .nil, h => .cons h .nil
  | _, _, _, _, .cons h t, k => .cons h (paired_app t k)
theorem paired_mono {α β : Type} {R S : α → β → Prop} (f : ∀ a b, R a b → S a b) : ∀ {l : List α} {m : List β}, Paired R l m → Paired S l m
  | _, _, .nil => .nil
  | _, _, .cons h t => .cons (f _ _ h) (paired_mono f t)
theorem pts_len {ts ps : List Ar} (h : Pts ts ps) : ps.length = ts.length := by rw [← h, List.length_map]
theorem pts_step {n : Nat} {ts ps : List Ar} (hw : WOk n ts) {i : Nat} {t : Ar} (h : Pts (ts.take i) ps) (e : ts[i]? = some t) (b : Bool) : Pts (ts.take (i + 1)) (ps ++ [if b = true then t else sw t]) := by
  unfold Pts at *
  have hb := hw.2 t (List.mem_of_getElem? e)
  rw [List.take_add_one, e, List.map_append, h]
  congr 1
  cases b with
  | true => exact congrArg (fun z => [z]) (nrm_t hb.2.1)
  | false => exact congrArg (fun z => [z]) (nrm_sw hb.2.1)
theorem nrm_sw' (p : Ar) (h : p.1 ≠ p.2) : nrm (sw p) = nrm p := by
  unfold nrm sw
  dsimp only
  by_cases h1 : p.1 < p.2
  · rw [if_neg (by omega), if_pos h1]
  · rw [if_pos (by omega), if_neg h1]
theorem pts_ne {n : Nat} {ts ps : List Ar} (hw : WOk n ts) (h : Pts ts ps) {p : Ar} (hp : p ∈ ps) : p.1 ≠ p.2 := fun e => by
  have : nrm p ∈ ts := by rw [← h]; exact List.mem_map.mpr ⟨p, hp, rfl⟩
  have hb := hw.2 _ this
  unfold nrm sw at hb
  split at hb <;> omega
theorem pts_set {n : Nat} {ts ps : List Ar} (hw : WOk n ts) (h : Pts ts ps) {j : Nat} {p : Ar} (e : ps[j]? = some p) : Pts ts (ps.set j (sw p)) := by
  have hne := pts_ne hw h (List.mem_of_getElem? e)
  unfold Pts at *
  rw [← h]
  refine List.ext_getElem? fun i => ?_
  rw [List.getElem?_map, List.getElem?_map]
  by_cases hij : j = i
  · subst hij
    rw [List.getElem?_set_self (List.getElem?_eq_some_iff.mp e).1, e]
    exact congrArg some (nrm_sw' p hne)
  · rw [List.getElem?_set_ne hij]
theorem Ties.set {H : Hp} : ∀ {vs : List V} {ts : List Ar} {j : Nat} {v : V} {t : Ar}, Ties H vs ts → Tie H v t → Ties H (vs.set j v) (ts.set j t)
  | [], [], _, _, _, _, _ => trivial
  | _ :: _, _ :: _, 0, _, _, h, k => ⟨k, h.2⟩
  | _ :: _, _ :: _, j + 1, _, _, h, k => ⟨h.1, Ties.set (j := j) h.2 k⟩
  | [], _ :: _, _, _, _, h, _ => h.elim
  | _ :: _, [], _, _, _, h, _ => h.elim
section
variable {P : Program} {w : World} {K : PySem.W.Frag} {mg : Str → Option Value} {base : Heap}
end
end My

set_option Elab.async false
set_option linter.all false
set_option maxRecDepth 100000
namespace My
open PySem PySem.Spec PyProof.Rows L2 GxR
/-! ### rows -/
def NumR (kvs : List (Key × V)) (pl : List Int) (i : Nat) : Prop := ∀ p : Int, valV kvs (Sum.inl p) = if p ∈ pl.take i then some (.int (pl.idxOf p : Int)) else none
theorem numR_put {kvs : List (Key × V)} {pl : List Int} {i : Nat} {x : Int} (nd : pl.Nodup) (h : NumR kvs pl i) (e : pl[i]? = some x) : NumR (putK kvs (Sum.inl x) (.int (i : Int))) pl (i + 1) := fun p => by
  rw [valV_put, List.take_add_one, e]
  show _ = if p ∈ pl.take i ++ [x] then _ else _
  by_cases hp : p = x
  · subst hp
    rw [if_pos rfl, if_pos (List.mem_append_right _ (List.mem_singleton.mpr rfl)), idx_of nd e]
  · rw [if_neg (fun z => hp (Sum.inl.inj z)), h p]
    by_cases hm : p ∈ pl.take i
    · rw [if_pos hm, if_pos (List.mem_append_left _ hm)]
    · rw [if_neg hm, if_neg]
      intro z
      rcases List.mem_append.mp z with z | z
      · exact hm z
      · exact hp (List.mem_singleton.mp z)
def byT (ns : List Int) (t : Ar) : Ar := if ns.idxOf t.1 < ns.idxOf t.2 then t else sw t
def byR (ns : List Int) (ts : List Ar) : List Ar := ts.map (byT ns)
theorem by_pts {n : Nat} {ts : List Ar} (hW : WOk n ts) (ns : List Int) : Pts ts (byR ns ts) := by
  unfold Pts byR
  rw [List.map_map]
  refine (List.map_congr_left (g := id) fun t ht => ?_).trans (List.map_id ts)
  have b := hW.2 t ht
  show nrm (byT ns t) = t
  unfold byT
  split
  · exact nrm_t b.2.1
  · exact nrm_sw b.2.1
theorem row_nd {n : Nat} {ns : List Int} (h : ns.Perm (up n)) : ns.Nodup := h.nodup_iff.mpr (up_nodup n)
theorem row_mem {n : Nat} {ns : List Int} (h : ns.Perm (up n)) {x : Int} : x ∈ ns ↔ 0 ≤ x ∧ x < (n : Int) := h.mem_iff.trans mem_up
theorem idx_rev {ns : List Int} (nd : ns.Nodup) {x : Int} (hx : x ∈ ns) : ns.reverse.idxOf x + ns.idxOf x + 1 = ns.length := by
  have g := idx_get hx
  have l := List.idxOf_lt_length_of_mem hx
  have e : ns.reverse[ns.length - 1 - ns.idxOf x]? = some x := by
    rw [List.getElem?_reverse (by omega), show ns.length - 1 - (ns.length - 1 - ns.idxOf x) = ns.idxOf x from by omega]; exact g
  have := idx_of ((List.reverse_perm ns).nodup_iff.mpr nd) e
  omega
theorem idx_inj {ns : List Int} {x y : Int} (hx : x ∈ ns) (hy : y ∈ ns) (e : ns.idxOf x = ns.idxOf y) : x = y := by
  have g1 := idx_get hx
  have g2 := idx_get hy
  rw [e, g2] at g1
  exact (Option.some.inj g1).symm
theorem by_rev {n : Nat} {ts : List Ar} (hW : WOk n ts) {ns : List Int} (pm : ns.Perm (up n)) : byR ns.reverse ts = (byR ns ts).map sw := by
  unfold byR
  rw [List.map_map]
  refine List.map_congr_left fun t ht => ?_
  have b := hW.2 t ht
  have m1 := (row_mem pm).mpr (show 0 ≤ t.1 ∧ t.1 < (n : Int) by omega)
  have m2 := (row_mem pm).mpr (show 0 ≤ t.2 ∧ t.2 < (n : Int) by omega)
  have r1 := idx_rev (row_nd pm) m1
  have r2 := idx_rev (row_nd pm) m2
  have ne : ns.idxOf t.1 ≠ ns.idxOf t.2 := fun e => by have := idx_inj m1 m2 e; omega
  show byT ns.reverse t = sw (byT ns t)
  unfold byT
  by_cases h : ns.idxOf t.1 < ns.idxOf t.2
  · rw [if_pos h, if_neg (by omega)]
  · rw [if_neg h, if_pos (by omega), sw_sw]
theorem mem_byAll {n : Nat} {ns : List Int} (pm : ns.Perm (up n)) {p : Ar} : p ∈ byR ns (pup n n) ↔ (p.1 ∈ ns ∧ p.2 ∈ ns ∧ ns.idxOf p.1 < ns.idxOf p.2) := by
  unfold byR
  rw [List.mem_map]
  constructor
  · rintro ⟨t, ht, rfl⟩
    have b := (mem_pup (Nat.le_refl n)).mp ht
    have m1 := (row_mem pm).mpr (show 0 ≤ t.1 ∧ t.1 < (n : Int) by omega)
    have m2 := (row_mem pm).mpr (show 0 ≤ t.2 ∧ t.2 < (n : Int) by omega)
    have ne : ns.idxOf t.1 ≠ ns.idxOf t.2 := fun e => by have := idx_inj m1 m2 e; omega
    unfold byT
    split
    · rename_i h; exact ⟨m1, m2, h⟩
    · rename_i h; exact ⟨m2, m1, by show ns.idxOf t.2 < ns.idxOf t.1; omega⟩
  · rintro ⟨h1, h2, h3⟩
    have b1 := (row_mem pm).mp h1
    have b2 := (row_mem pm).mp h2
    have ne : p.1 ≠ p.2 := fun e => by rw [e] at h3; omega
    by_cases h : p.1 < p.2
    · exact ⟨p, (mem_pup (Nat.le_refl n)).mpr ⟨b1.1, b1.2, h, b2.2⟩, if_pos h3⟩
    · refine ⟨sw p, (mem_pup (Nat.le_refl n)).mpr ⟨b2.1, b2.2, by show p.2 < p.1; omega, b1.2⟩, ?_⟩
      unfold byT
      rw [if_neg (by show ¬ ns.idxOf p.2 < ns.idxOf p.1; omega)]; rfl
theorem byAll_led {n : Nat} {ns : List Int} (pm : ns.Perm (up n)) : ledB (byR ns (pup n n)) = true := by
  unfold ledB
  rw [List.all_eq_true]
  intro s hs
  rw [List.all_eq_true]
  intro t ht
  unfold okB
  by_cases h : s.2 = t.1
  · have h1 := (mem_byAll pm).mp hs
    have h2 := (mem_byAll pm).mp ht
    rw [decide_eq_true ((mem_byAll (p := (s.1, t.2)) pm).mpr ⟨h1.1, h2.2.1, by show ns.idxOf s.1 < ns.idxOf t.2; rw [h] at h1; omega⟩), Bool.or_true]
  · rw [decide_eq_false h]; rfl
def ahL (ns : List Int) : Nat → List Ar
  | 0 => []
  | i + 1 => ahL ns i ++ (match ns[i]? with | none => [] | some x => (ns.drop (i + 1)).map fun y => (x, y))
theorem mem_ah {ns : List Int} (nd : ns.Nodup) : ∀ {i : Nat} {p : Ar}, p ∈ ahL ns i ↔ (p.1 ∈ ns ∧ p.2 ∈ ns ∧ ns.idxOf p.1 < i ∧ ns.idxOf p.1 < ns.idxOf p.2)
  | 0, p => ⟨fun h => absurd h List.not_mem_nil, fun h => absurd h.2.2.1 (Nat.not_lt_zero _)⟩
  | i + 1, p => by
    rw [ahL, List.mem_append, mem_ah nd]
    constructor
    · rintro (h | h)
      · exact ⟨h.1, h.2.1, by omega, h.2.2.2⟩
      · split at h
        · exact absurd h List.not_mem_nil
        · rename_i x hx
          obtain ⟨y, hy, rfl⟩ := List.mem_map.mp h
          obtain ⟨m, hm⟩ := List.mem_iff_getElem?.mp hy
          rw [List.getElem?_drop] at hm
          have e1 := idx_of nd hx
          have e2 := idx_of nd hm
          refine ⟨List.mem_of_getElem? hx, List.mem_of_getElem? hm, ?_, ?_⟩ <;> dsimp only <;> omega
    · rintro ⟨h1, h2, h3, h4⟩
      by_cases e : ns.idxOf p.1 < i
      · exact .inl ⟨h1, h2, e, h4⟩
      · have ei : ns.idxOf p.1 = i := by omega
        have g1 := idx_get h1
        rw [ei] at g1
        right
        rw [g1]
        refine List.mem_map.mpr ⟨p.2, ?_, rfl⟩
        have g2 := idx_get h2
        refine List.mem_iff_getElem?.mpr ⟨ns.idxOf p.2 - (i + 1), ?_⟩
        rw [List.getElem?_drop, show i + 1 + (ns.idxOf p.2 - (i + 1)) = ns.idxOf p.2 from by omega]; exact g2
theorem ah_nd {ns : List Int} (nd : ns.Nodup) : ∀ i : Nat, (ahL ns i).Nodup
  | 0 => List.nodup_nil
  | i + 1 => by
    rw [ahL, List.nodup_append]
    refine ⟨ah_nd nd i, ?_, fun a ha b hb e => ?_⟩
    · split
      · exact List.nodup_nil
      · rename_i x _
        rw [List.nodup_iff_pairwise_ne, List.pairwise_map]
        exact (List.nodup_iff_pairwise_ne.mp (nd.sublist (List.drop_sublist _ _))).imp fun h e => h (Prod.ext_iff.mp e).2
    · subst e
      have h := (mem_ah nd).mp ha
      split at hb
      · exact absurd hb List.not_mem_nil
      · rename_i x hx
        obtain ⟨y, hy, rfl⟩ := List.mem_map.mp hb
        have := idx_of nd hx
        dsimp only at h
        omega
theorem ah_len {ns : List Int} : ∀ i : Nat, (ahL ns i).length ≤ i * ns.length
  | 0 => Nat.zero_le _
  | i + 1 => by
    rw [ahL, List.length_append, Nat.succ_mul]
    have := ah_len (ns := ns) i
    split
    · show _ + 0 ≤ _; omega
    · rw [List.length_map, List.length_drop]; omega
theorem srt_both {l m fs gs : List Ar} (hp : fs.Perm l) (hq : gs.Perm m) (nl : l.Nodup) (nm : m.Nodup) (hs : fs.Pairwise (fun s t => ¬ ltT t s)) (ht : gs.Pairwise (fun s t => ¬ ltT t s)) (h : ∀ x, x ∈ l ↔ x ∈ m) : fs = gs :=
  pw_eq (pw_lt hs (hp.nodup_iff.mpr nl)) (pw_lt ht (hq.nodup_iff.mpr nm)) fun x => hp.mem_iff.trans ((h x).trans hq.mem_iff.symm)
section
variable {P : Program} {w : World} {K : PySem.W.Frag} {mg : Str → Option Value} {base : Heap}
def StdD (kvs : List (Key × V)) (ns : List Int) : Prop := ∀ p ∈ ns, valV kvs (Sum.inl p) = some (.int (ns.idxOf p : Int))
/-! ### stands_in -/
abbrev s_stands_in : Stmt := topS 3
abbrev N_stands_in : List Str := ["row", "at", "place"]
theorem sc_stands_in : FnScope N_stands_in ["row"] (defScope s_stands_in) := ⟨rfl, rfl, rfl, by decide +kernel, rfl, by decide +kernel, by decide +kernel⟩
def sp_stands : Sp := fun vs H Q _ => ∃ (R : Addr) (ns : List Int), vs = [.ref R] ∧ H R = some (.lst (ns.map V.int)) ∧ ns.Nodup ∧ ns.length ≤ 10000 ∧ ∀ D kvs H', H D = none → Same H H' → H' D = some (.dK kvs) → StdD kvs ns → Q (.ref D) H'
theorem ok_stands {f : Addr} {fd : FuncData} (B : Bts mg) (F : Fun K "stands_in" "stands_in" s_stands_in f fd) : FnOk P w K mg base CX0 1 f fd ["row"] sp_stands := by
  refine F.ok sc_stands_in (fun vs H Q E h => ?_) (fun cdv A outer s H vs Q E hr h => ?_)
  · obtain ⟨R, ns, rfl, _⟩ := h; rfl
  · obtain ⟨R, ns, rfl, eR, nd, nl, q⟩ := h
    refine ⟨_, (pss_one (ps_ret (pe_dc (own := [("at", 1), ("place", 2)]) (g := (gTup K 2 (gCons (gName 1) (gCons (gName 2) gNil)))) (tt := tYes) rfl sc_stands_in.nd (pi_enum (by rfl) B.enumerate (pa_cons (pv 0) pa_nil)) (blkOk_by (own := [("at", 1), ("place", 2)]) (N := N_stands_in) (sc := defScope s_stands_in) (by decide +kernel)) (fun _ _ _ _ _ => (pg_tup rfl (pgs_cons (pg_name (i := 1) sc_stands_in.nd rfl (by first | exact Or.inl rfl | exact Or.inr rfl)) (pgs_cons (pg_name (i := 2) sc_stands_in.nd rfl (by first | exact Or.inl rfl | exact Or.inr rfl)) pgs_nil)))) (fun _ _ _ _ _ => pts_nil) (fun _ _ _ _ _ => (pv 2)) (fun _ _ _ _ _ => (pv 1))))), ?_⟩
    refine ⟨_, rfl, R, _, rfl, SqL.of eR, fun D nD => ?_⟩
    refine dc_it (walk_enum (K := K) (a := R) (xs := ns.map V.int)) (fun i H1 => ∃ kvs, Same H H1 ∧ H1 D = some (.dK kvs) ∧ kvs.length ≤ i ∧ NumR kvs ns i) ⟨[], same_new nD, upd_same, Nat.le_refl _, fun p => by exact (if_neg (by simp)).symm⟩ ?_ ?_ ?_
    · rintro i H1 _ ⟨_, sm, _⟩
      exact SqL.of (sm _ _ eR)
    · rintro i x H1 H2 hi ⟨kvs, sm, eD, kl, hN⟩ ⟨T, x1, x2, rfl, nT, rfl, ex1, ex2⟩
      rw [List.length_map] at hi
      dsimp only at ex1 ex2
      cases ex1
      have e2 : x2 = .int ns[i] := by
        rw [List.getElem?_map, List.getElem?_eq_getElem hi] at ex2
        cases ex2; rfl
      subst e2
      refine ⟨T, _, rfl, SqT.of upd_same, rfl, _, _, rfl, _, _, rfl, rfl, rfl, yes ?_⟩
      have eD2 := (same_new (o := .tup [.int (i : Int), .int ns[i]]) nT) _ _ eD
      refine ⟨_, rfl, _, rfl, kvs, Sum.inl ns[i], rfl, eD2, sz' (by omega), _, Same.put (sm.trans (same_new nT)) nD, upd_same, ?_, numR_put nd hN (List.getElem?_eq_getElem hi)⟩
      have := len_put kvs (Sum.inl ns[i]) (.int (i : Int))
      omega
    · rintro H1 ⟨kvs, sm, eD, kl, hN⟩
      rw [List.length_map] at hN
      refine q D kvs H1 nD sm eD fun p hp => ?_
      have := hN p
      rwa [List.take_length, if_pos hp] at this
end
end My

set_option Elab.async false
set_option linter.all false
set_option maxRecDepth 100000
namespace My
open PySem PySem.Spec PyProof.Rows L2 GxR
/-! ### two rows crossed -/
def ah (ns : List Int) (t : Ar) : Bool := decide (ns.idxOf t.1 < ns.idxOf t.2)
def crB (ms ns : List Int) (t : Ar) : Bool := !decide (ah ms t = ah ns t)
def crL (ms ns : List Int) (l : List Ar) : List Ar := l.filter (crB ms ns)
theorem cr_app (ms ns : List Int) (l m : List Ar) : crL ms ns (l ++ m) = crL ms ns l ++ crL ms ns m := List.filter_append ..
theorem cr_one (ms ns : List Int) (t : Ar) : crL ms ns [t] = if crB ms ns t = true then [t] else [] := by
  unfold crL
  by_cases h : crB ms ns t = true
  · rw [if_pos h, List.filter_cons_of_pos h]; rfl
  · rw [if_neg h, List.filter_cons_of_neg h]; rfl
theorem cr_sub (ms ns : List Int) (l : List Ar) : (crL ms ns l).Sublist l := List.filter_sublist
theorem cr_len {ms ns : List Int} {n : Nat} (hn : n ≤ 100) : (crL ms ns (pup n n)).length ≤ 10000 := Nat.le_trans (cr_sub _ _ _).length_le (pup_len' hn (Nat.le_refl n))
theorem cr_wok (ms ns : List Int) (n : Nat) : WOk n (crL ms ns (pup n n)) := wok_sub (cr_sub _ _ _)
theorem cr_comm (ms ns : List Int) (l : List Ar) : crL ms ns l = crL ns ms l := by
  unfold crL crB
  exact List.filter_congr fun t _ => congrArg (! ·) (decide_eq_decide.mpr ⟨Eq.symm, Eq.symm⟩)
theorem ah_anti {n : Nat} {ns : List Int} (pm : ns.Perm (up n)) {a b : Int} (ha : 0 ≤ a ∧ a < (n : Int)) (hb : 0 ≤ b ∧ b < (n : Int)) (ne : a ≠ b) : ah ns (b, a) = !ah ns (a, b) := by
  have m1 := (row_mem pm).mpr ha
  have m2 := (row_mem pm).mpr hb
  have h : ns.idxOf a ≠ ns.idxOf b := fun e => ne (idx_inj m1 m2 e)
  unfold ah
  dsimp only
  by_cases z : ns.idxOf a < ns.idxOf b
  · rw [decide_eq_true z, decide_eq_false (show ¬ ns.idxOf b < ns.idxOf a by omega)]; rfl
  · rw [decide_eq_false z, decide_eq_true (show ns.idxOf b < ns.idxOf a by omega)]; rfl
theorem by_ah (ns : List Int) (t : Ar) : byT ns t = if ah ns t = true then t else sw t := by
  unfold byT ah
  by_cases z : ns.idxOf t.1 < ns.idxOf t.2
  · rw [if_pos z, decide_eq_true z]; rfl
  · rw [if_neg z, decide_eq_false z]; rfl
theorem mem_by {n : Nat} {ms ns : List Int} (pm : ms.Perm (up n)) (pn : ns.Perm (up n)) {x : Ar} : x ∈ byR ms (crL ms ns (pup n n)) ↔ InR n x ∧ ah ms x = true ∧ ah ns (sw x) = true := by
  unfold byR
  rw [List.mem_map]
  constructor
  · rintro ⟨t, ht, rfl⟩
    obtain ⟨h1, h2⟩ := List.mem_filter.mp ht
    have hp := (mem_pup (Nat.le_refl _)).mp h1
    have a1 := ah_anti pm (a := t.1) (b := t.2) (by omega) (by omega) (by omega)
    have a2 := ah_anti pn (a := t.1) (b := t.2) (by omega) (by omega) (by omega)
    unfold crB at h2
    rw [Bool.not_eq_true', decide_eq_false_iff_not] at h2
    rw [by_ah]
    by_cases e : ah ms t = true
    · rw [if_pos e]
      refine ⟨⟨by omega, by omega, by omega, by omega⟩, e, ?_⟩
      show ah ns (t.2, t.1) = true
      rw [a2]
      rw [e] at h2
      cases z : ah ns t with
      | false => rfl
      | true => exact absurd z.symm h2
    · rw [if_neg e]
      have e' := Bool.eq_false_iff.mpr e
      refine ⟨⟨by show 0 ≤ t.2; omega, by show t.2 < _; omega, by show 0 ≤ t.1; omega, by show t.1 < _; omega⟩, ?_, ?_⟩
      · show ah ms (t.2, t.1) = true
        rw [a1, e']; rfl
      · show ah ns t = true
        rw [e'] at h2
        cases z : ah ns t with
        | true => rfl
        | false => exact absurd z.symm h2
  · rintro ⟨⟨h1, h2, h3, h4⟩, h5, h6⟩
    have ne : x.1 ≠ x.2 := fun z => by
      unfold ah at h5
      rw [z] at h5
      simp at h5
    rcases Int.lt_or_gt_of_ne ne with z | z
    · refine ⟨x, List.mem_filter.mpr ⟨(mem_pup (Nat.le_refl _)).mpr ⟨h1, h2, z, h4⟩, ?_⟩, by rw [by_ah, if_pos h5]⟩
      have a2 := ah_anti pn (a := x.1) (b := x.2) (by omega) (by omega) (by omega)
      have h6' : ah ns (x.2, x.1) = true := h6
      unfold crB
      rw [h5]
      rw [a2] at h6'
      cases z : ah ns x with
      | false => rfl
      | true => rw [show ah ns (x.1, x.2) = true from z] at h6'; cases h6'
    · refine ⟨sw x, List.mem_filter.mpr ⟨(mem_pup (Nat.le_refl _)).mpr ⟨h3, h4, z, h2⟩, ?_⟩, ?_⟩
      · have a1 := ah_anti pm (a := x.1) (b := x.2) (by omega) (by omega) (by omega)
        unfold crB
        rw [h6, show ah ms (sw x) = !ah ms x from a1, h5]; rfl
      · have a1 := ah_anti pm (a := x.1) (b := x.2) (by omega) (by omega) (by omega)
        rw [by_ah, if_neg]
        · rfl
        · rw [show ah ms (sw x) = !ah ms x from a1, h5]; exact Bool.false_ne_true
theorem by_cr {n : Nat} {ms ns : List Int} (pm : ms.Perm (up n)) (pn : ns.Perm (up n)) : byR ns (crL ms ns (pup n n)) = (byR ms (crL ms ns (pup n n))).map sw := by
  unfold byR
  rw [List.map_map]
  refine List.map_congr_left fun t ht => ?_
  obtain ⟨_, h2⟩ := List.mem_filter.mp ht
  unfold crB at h2
  rw [Bool.not_eq_true', decide_eq_false_iff_not] at h2
  show byT ns t = sw (byT ms t)
  rw [by_ah, by_ah]
  cases e : ah ms t with
  | true =>
    rw [e] at h2
    cases z : ah ns t with
    | true => exact absurd z.symm h2
    | false => rfl
  | false =>
    rw [e] at h2
    cases z : ah ns t with
    | false => exact absurd z.symm h2
    | true => rfl
theorem cr_self (ms : List Int) (l : List Ar) : crL ms ms l = [] := by
  unfold crL
  rw [List.filter_eq_nil_iff]
  intro t _
  unfold crB
  rw [decide_eq_true rfl]; exact Bool.false_ne_true
theorem cr_rev {n : Nat} {ms : List Int} (pm : ms.Perm (up n)) : crL ms ms.reverse (pup n n) = pup n n := by
  unfold crL
  rw [List.filter_eq_self]
  intro t ht
  have hp := (mem_pup (Nat.le_refl _)).mp ht
  have m1 := (row_mem pm).mpr (show 0 ≤ t.1 ∧ t.1 < (n : Int) by omega)
  have m2 := (row_mem pm).mpr (show 0 ≤ t.2 ∧ t.2 < (n : Int) by omega)
  have r1 := idx_rev (row_nd pm) m1
  have r2 := idx_rev (row_nd pm) m2
  have ne : ms.idxOf t.1 ≠ ms.idxOf t.2 := fun e => by have := idx_inj m1 m2 e; omega
  unfold crB ah
  by_cases z : ms.idxOf t.1 < ms.idxOf t.2
  · rw [decide_eq_true z, decide_eq_false (show ¬ ms.reverse.idxOf t.1 < ms.reverse.idxOf t.2 by omega)]; rfl
  · rw [decide_eq_false z, decide_eq_true (show ms.reverse.idxOf t.1 < ms.reverse.idxOf t.2 by omega)]; rfl
theorem pup_count : ∀ n : Nat, n < 13 → ((pup n n).length : Int) = (n : Int) * ((n : Int) - 1) / 2 := by decide +kernel
end My

set_option Elab.async false
set_option linter.all false
set_option maxRecDepth 100000
set_option maxHeartbeats 2000000
namespace My
open PySem PySem.Spec PyProof.Rows L2 GxR
theorem swap_perm {l : List Int} {i : Nat} {x y : Int} (h1 : l[i]? = some x) (h2 : l[i + 1]? = some y) : ((l.set i y).set (i + 1) x).Perm l := by
  obtain ⟨l1, e1⟩ := List.getElem?_eq_some_iff.mp h1
  obtain ⟨l2, e2⟩ := List.getElem?_eq_some_iff.mp h2
  subst e1; subst e2
  exact List.set_set_perm l1 l2
theorem ixN_at {n j : Nat} (hj : j < n) : ixN n (j : Int) = some j := by
  unfold ixN
  rw [if_pos (by omega), if_pos (by omega)]; simp
theorem map_set (l : List Int) (i : Nat) (x : Int) : (l.map V.int).set i (.int x) = (l.set i x).map V.int := by
  rw [List.map_set]
section
variable {P : Program} {w : World} {K : PySem.W.Frag} {mg : Str → Option Value} {base : Heap}
/-! ### crossed_web -/
abbrev s_crossed_web : Stmt := topS 5
abbrev N_crossed_web : List Str := ["one", "other", "many", "first", "second", "pairs", "a", "b"]
theorem sc_crossed_web : FnScope N_crossed_web ["one", "other"] (defScope s_crossed_web) := ⟨rfl, rfl, rfl, by decide +kernel, rfl, by decide +kernel, by decide +kernel⟩
def sp_cweb : Sp := fun vs H Q _ => ∃ (p q : Addr) (n : Nat) (ms ns : List Int), vs = [.ref p, .ref q] ∧ H p = some (.lst (ms.map V.int)) ∧ H q = some (.lst (ns.map V.int)) ∧ ms.Perm (up n) ∧ ns.Perm (up n) ∧ n ≤ 100 ∧
  ∀ u H', Same H H' → Web H' u n (crL ms ns (pup n n)) → Q u H'
theorem ok_cweb {f : Addr} {fd : FuncData} (B : Bts mg) (F : Fun K "crossed_web" "crossed_web" s_crossed_web f fd) (c_stands_in : Cl P w K mg base 1 "stands_in" sp_stands) : FnOk P w K mg base CX0 2 f fd ["one", "other"] sp_cweb := by
  refine F.ok sc_crossed_web (fun vs H Q E h => ?_) (fun cdv A outer s H vs Q E hr h => ?_)
  · obtain ⟨p, q, n, ms, ns, rfl, _⟩ := h; rfl
  · obtain ⟨p, q', n, ms, ns, rfl, ep, eq, pm, pn, hn, q⟩ := h
    refine ⟨_, (pss_cons (ps_set (i := 2) sc_crossed_web.nd rfl (by first | exact Or.inl rfl | exact Or.inr rfl) (pe_callB call_len_seq (by rfl) B.len (by decide +kernel) (pa_cons (pv 0) pa_nil)))
    (pss_cons (ps_set (i := 3) sc_crossed_web.nd rfl (by first | exact Or.inl rfl | exact Or.inr rfl) (pe_c c_stands_in hr (by decide) (by rfl) (pa_cons (pv 0) pa_nil)))
    (pss_cons (ps_set (i := 4) sc_crossed_web.nd rfl (by first | exact Or.inl rfl | exact Or.inr rfl) (pe_c c_stands_in hr (by decide) (by rfl) (pa_cons (pv 1) pa_nil)))
    (pss_cons (ps_setLc2 (i := 5) (own := [("a", 6), ("b", 7)]) (vs1 := [7]) (g := (gName 6)) (g1 := (gName 7)) (tt := tYes) (tt1 := tYes) rfl sc_crossed_web.nd rfl rfl (sw_true rfl rfl rfl (by decide +kernel)) (pi_range1 (by rfl) B.range (pa_cons (pv 2) pa_nil)) (blkOk_by (own := [("a", 6), ("b", 7)]) (N := N_crossed_web) (sc := defScope s_crossed_web) (by decide +kernel)) (by decide) (fun _ _ _ _ _ => (pg_name (i := 6) sc_crossed_web.nd rfl (by first | exact Or.inl rfl | exact Or.inr rfl))) (fun _ _ _ _ _ => pts_nil) (fun _ _ _ _ _ => (pi_range2 (by rfl) B.range (pa_cons (pe_op op_add (pv 6) pe_int) (pa_cons (pv 2) pa_nil)))) (fun _ _ _ _ _ => (pg_name (i := 7) sc_crossed_web.nd rfl (by first | exact Or.inl rfl | exact Or.inr rfl))) (fun _ _ _ _ _ => pts_nil) (fun _ _ _ _ _ => (pe_tup (pa_cons (pv 6) (pa_cons (pv 7) pa_nil)))))
    (pss_one (ps_ret (pe_tup (pa_cons (pv 2) (pa_cons (pe_callTy call_tuple_of (by rfl) B.tuple (by decide +kernel) (pa_cons (pe_lc (own := [("a", 6), ("b", 7)]) (g := (gTup K 2 (gCons (gName 6) (gCons (gName 7) gNil)))) rfl sc_crossed_web.nd (pi_list (pv 5)) (blkOk_by (own := [("a", 6), ("b", 7)]) (N := N_crossed_web) (sc := defScope s_crossed_web) (by decide +kernel)) (fun _ _ _ _ _ => (pg_tup rfl (pgs_cons (pg_name (i := 6) sc_crossed_web.nd rfl (by first | exact Or.inl rfl | exact Or.inr rfl)) (pgs_cons (pg_name (i := 7) sc_crossed_web.nd rfl (by first | exact Or.inl rfl | exact Or.inr rfl)) pgs_nil)))) (fun _ _ _ _ _ => (pts_one (pt_cmpR op_ne (pe_cmpR op_lt (pe_dget (hu_of hr) (pv 3) (pv 6) (fun _ _ => rfl)) (pe_dget (hu_of hr) (pv 3) (pv 7) (fun _ _ => rfl)) (nomark _)) (pe_cmpR op_lt (pe_dget (hu_of hr) (pv 4) (pv 6) (fun _ _ => rfl)) (pe_dget (hu_of hr) (pv 4) (pv 7) (fun _ _ => rfl)) (nomark _)) (nomark _)))) (fun _ _ _ _ _ => (pe_tup (pa_cons (pv 6) (pa_cons (pv 7) pa_nil))))) pa_nil)) pa_nil))))))))), ?_⟩
    have ml : ms.length = n := by rw [pm.length_eq, up_len]
    have nl : ns.length = n := by rw [pn.length_eq, up_len]
    refine ⟨_, rfl, p, _, rfl, .inl (SqL.of ep), ?_⟩
    rw [List.length_map, ml]
    refine ⟨_, rfl, p, ms, rfl, ep, row_nd pm, by omega, fun D1 k1 H1 nD1 s1 eD1 hS1 => ?_⟩
    refine ⟨_, rfl, q', ns, rfl, s1 _ _ eq, row_nd pn, by omega, fun D2 k2 H2 nD2 s2 eD2 hS2 => ?_⟩
    have s02 := s1.trans s2
    refine ⟨_, rfl, _, rfl, by omega, by omega, fun E1 nE1 => ?_⟩
    have tn : ((n : Int)).toNat = n := Int.toNat_natCast n
    refine wk (walk_range (lo := 0)) (fun i H3 => ∃ ws, Same H2 H3 ∧ H3 E1 = some (.lst ws) ∧ Ties H3 ws (pup n i)) ⟨[], same_new nE1, upd_same, by exact trivial⟩ (fun _ _ _ _ => trivial) ?_ ?_
    · rintro i x H3 H4 hi ⟨ws, s3, eE, hW⟩ ⟨rfl, hx⟩
      obtain rfl : x = .int (i : Int) := hx.trans (congrArg V.int (Int.zero_add _))
      rw [tn] at hi
      refine ⟨rfl, yes ?_⟩
      refine ⟨_, rfl, _, _, rfl, rfl, _, rfl, _, _, rfl, ⟨by omega, by omega, by omega, by omega⟩, ?_⟩
      have en : ((n : Int) - ((i : Int) + 1)).toNat = n - (i + 1) := by omega
      refine wk (walk_range (lo := (i : Int) + 1)) (fun j H4 => ∃ ws, Same H2 H4 ∧ H4 E1 = some (.lst ws) ∧ Ties H4 ws (pup n i ++ prow i j)) ⟨ws, s3, eE, by exact (List.append_nil (pup n i)).symm ▸ hW⟩ (fun _ _ _ _ => trivial) ?_ ?_
      · rintro j x H4 H5 hj ⟨ws, s4, eE4, hW4⟩ ⟨rfl, hx⟩
        obtain rfl : x = .int ((i : Int) + 1 + (j : Int)) := hx
        rw [en] at hj
        have wl := hW4.len
        have l1 := pup_len' hn (Nat.le_of_lt hi)
        rw [List.length_append, prow_len] at wl
        refine ⟨rfl, yes ?_⟩
        refine ⟨_, rfl, _, rfl, by show 2 ≤ sizeLine; decide, fun k2 nk2 => ?_⟩
        have sk2 := same_new (o := .tup [.int (i : Int), .int ((i : Int) + 1 + (j : Int))]) nk2
        have e3 := sk2 _ _ eE4
        refine ⟨ws, e3, sz' (by omega), ws ++ [.ref k2], Same.put (s4.trans sk2) nE1, upd_same, ?_⟩
        rw [prow_succ, ← List.append_assoc]
        exact Ties.mono (tst_put e3) ((hW4.mono (Same.tst sk2)).app (Ties.one Tie.new))
      · rintro H4 ⟨ws, s4, eE4, hW4⟩
        rw [en, ← pup_succ] at hW4
        exact ⟨ws, s4, eE4, hW4⟩
    · rintro H3 ⟨ws, s3, eE, hW⟩
      rw [tn] at hW
      refine ⟨_, rfl, _, rfl, E1, rfl, ⟨_, SqL.of eE⟩, fun E2 nE2 => ?_⟩
      have pl := pup_len' hn (Nat.le_refl n)
      refine wk (walk_list (K := K) (a := E1) (xs := ws)) (fun i H4 => ∃ zs, Same H3 H4 ∧ H4 E2 = some (.lst zs) ∧ Ties H4 zs (crL ms ns ((pup n n).take i))) ⟨[], same_new nE2, upd_same, by exact trivial⟩ ?_ ?_ ?_
      · rintro i H4 _ ⟨_, s4, _⟩
        exact SqL.of (s4 _ _ eE)
      · rintro i x H4 H5 hi ⟨zs, s4, eE2, hZ⟩ ⟨rfl, hx⟩
        obtain ⟨t, et, ht⟩ := hW.at hx
        obtain ⟨pt, rfl, ept⟩ := ht.mono (Same.tst s4)
        have hp := (mem_pup (Nat.le_refl n)).mp (List.mem_of_getElem? et)
        have s24 := s3.trans s4
        have gt : ∀ (D : Addr) (kvs : List (Key × V)) (rs : List Int), H5 D = some (.dK kvs) → StdD kvs rs → rs.Perm (up n) → ∀ a : Int, 0 ≤ a → a < (n : Int) → DGet H5 D (.int a) (some (.int (rs.idxOf a : Int))) := fun D kvs rs eD hS pr a a0 a1 => by
          have := DGet.k (k := Sum.inl a) eD
          rw [hS a ((row_mem pr).mpr ⟨a0, a1⟩)] at this; exact this
        have eD1' := (s2.trans s24) _ _ eD1
        have eD2' := s24 _ _ eD2
        have zl := hZ.len
        have zl2 := (cr_sub ms ns ((pup n n).take i)).length_le
        rw [List.length_take] at zl2
        refine ⟨pt, _, rfl, SqT.of ept, rfl, _, _, rfl, _, _, rfl, rfl, rfl, ?_⟩
        have x1 := gt D1 k1 ms eD1' hS1 pm t.1 (by omega) (by omega)
        have x2 := gt D1 k1 ms eD1' hS1 pm t.2 (by omega) (by omega)
        have x3 := gt D2 k2 ns eD2' hS2 pn t.1 (by omega) (by omega)
        have x4 := gt D2 k2 ns eD2' hS2 pn t.2 (by omega) (by omega)
        refine ⟨_, rfl, _, rfl, D1, _, rfl, x1, ?_⟩
        refine ⟨_, rfl, _, rfl, D1, _, rfl, x2, ?_⟩
        refine ⟨_, _, rfl, rfl, ?_⟩
        refine ⟨_, rfl, _, rfl, D2, _, rfl, x3, ?_⟩
        refine ⟨_, rfl, _, rfl, D2, _, rfl, x4, ?_⟩
        refine ⟨_, _, rfl, rfl, ?_⟩
        refine ⟨rfl, _, rfl, ?_⟩
        have eb : (!decide (V.bl (decide ((ms.idxOf t.1 : Int) < (ms.idxOf t.2 : Int))) = V.bl (decide ((ns.idxOf t.1 : Int) < (ns.idxOf t.2 : Int))))) = crB ms ns t := by
          unfold crB ah
          refine congrArg (! ·) (decide_eq_decide.mpr ?_)
          rw [V.bl.injEq, show decide ((ms.idxOf t.1 : Int) < (ms.idxOf t.2 : Int)) = decide (ms.idxOf t.1 < ms.idxOf t.2) from decide_eq_decide.mpr Int.ofNat_lt, show decide ((ns.idxOf t.1 : Int) < (ns.idxOf t.2 : Int)) = decide (ns.idxOf t.1 < ns.idxOf t.2) from decide_eq_decide.mpr Int.ofNat_lt]
        rw [eb]
        have st : crL ms ns ((pup n n).take (i + 1)) = crL ms ns ((pup n n).take i) ++ (if crB ms ns t = true then [t] else []) := by
          rw [List.take_add_one, et, cr_app]; exact congrArg _ (cr_one ms ns t)
        refine ite2 (fun e => ?_) (fun e => ?_)
        · refine ⟨_, rfl, _, rfl, by show 2 ≤ sizeLine; decide, fun k nk => ?_⟩
          have sk := same_new (o := .tup [.int t.1, .int t.2]) nk
          have e3 := sk _ _ eE2
          refine ⟨zs, e3, sz' (by omega), zs ++ [.ref k], Same.put (s4.trans sk) nE2, upd_same, ?_⟩
          rw [st, if_pos e]
          exact Ties.mono (tst_put e3) ((hZ.mono (Same.tst sk)).app (Ties.one ⟨k, rfl, upd_same⟩))
        · refine ⟨zs, s4, eE2, ?_⟩
          rw [st, if_neg e, List.append_nil]; exact hZ
      · rintro H4 ⟨zs, s4, eE2, hZ⟩
        rw [hW.len, List.take_length] at hZ
        refine ⟨E2, zs, rfl, .inl ⟨SqL.of eE2, fun t nt => ?_⟩⟩
        refine ⟨by show 2 ≤ sizeLine; decide, fun u nu => ?_⟩
        have s5 := (same_new (o := .tup zs) nt).trans (same_new (o := .tup [.int (n : Int), .ref t]) nu)
        refine q _ _ (((s02.trans s3).trans s4).trans s5) ⟨u, t, zs, rfl, upd_same, ?_, hZ.mono (Same.tst s5)⟩
        rw [upd_ne (ne_of_none upd_same nu)]; exact upd_same
end
end My

set_option Elab.async false
set_option linter.all false
set_option maxRecDepth 100000
set_option maxHeartbeats 2000000
namespace My
open PySem PySem.Spec PyProof.Rows L2
/-! list(zip(a list, a list)): new pairs, as many as the shorter one has -/
theorem zl_nolen : typeLookup (.type "zip") "__len__" = pure none := by rw [typeLookup_type, builtinLookup_eq_fast]; kernel_rfl
theorem zl_nohint : typeLookup (.type "zip") "__length_hint__" = pure none := by rw [typeLookup_type, builtinLookup_eq_fast]; kernel_rfl
def ZSt (h : Heap) (z TI TO i1 i2 S : Addr) : Prop := (IsZip h z TI TO .none ∧ ∃ x y, IsPair h TO x y) ∨ ∃ T f oT, IsZipHeld h z TI TO T f ∧ h.get? T = some oT ∧ T ≠ z ∧ T ≠ i1 ∧ T ≠ i2 ∧ T ≠ S
/-- pairs of what stands at one place -/
def PrsAt (H : Hp) (xs ys acc : List V) : Prop := ∀ (j : Nat) (v : V), acc[j]? = some v → ∃ p x y, v = .ref p ∧ H p = some (.tup [x, y]) ∧ xs[j]? = some x ∧ ys[j]? = some y
theorem PrsAt.mono {H H' : Hp} {xs ys acc : List V} (h : PrsAt H xs ys acc) (t : Tst H H') : PrsAt H' xs ys acc := fun j v e => by
  obtain ⟨p, x, y, a, b, c⟩ := h j v e
  exact ⟨p, x, y, a, t _ _ b, c⟩
section
variable {X : Cx} {pins : List (Addr × Obj)} {σ : List (Option V)}
theorem zl_loop {A : Around} {R : Result → Shared → Prop} (hh : A.handled = none) {z TI TO i1 i2 a b S : Addr} (D : ZipApart z TI TO i1 i2 a b) (nS : ∀ q ∈ [z, TI, TO, i1, i2, a, b], S ≠ q) {xs ys : List V} {n : Nat} (hn1 : n ≤ xs.length) (hn2 : n ≤ ys.length) (he : n = xs.length ∨ n = ys.length) (hz : n ≤ sizeLine) (res : Value) {HB : Hp} (hqx : SqL X.K HB a xs) (hqy : SqL X.K HB b ys) (nSB : HB S = none) :
    ∀ (k i : Nat) (s : Shared) (H : Hp) (acc : List V), n - i = k → i ≤ n → Inv X pins σ H s → (∀ q ∈ [z, TI, TO, i1, i2], FpOk X pins H q ∧ q < s.heap.objs.size) → ZSt s.heap z TI TO i1 i2 S → IsPair s.heap TI (.ref i1) (.ref i2) → s.heap.IsListIter i1 a i → s.heap.IsListIter i2 b i → Same HB H → H S = some (.lst acc) → acc.length = i → PrsAt H xs ys acc →
    (∀ s' H' acc', Inv X pins σ H' s' → Same HB H' → H' S = some (.lst acc') → acc'.length = n → PrsAt H' xs ys acc' → R (.ok (.ret res)) s') →
    codeAny (model X.prog X.w) A (.builtin "list.extend.loop" ⟨[.ref S, .ref z, res], []⟩) R s := by
  have nSz : S ≠ z := nS z (by simp)
  have nSTI : S ≠ TI := nS TI (by simp)
  have nSTO : S ≠ TO := nS TO (by simp)
  have nS1 : S ≠ i1 := nS i1 (by simp)
  have nS2 : S ≠ i2 := nS i2 (by simp)
  intro k
  induction k with
  | zero =>
    intro i s H acc hk hi I hf st hTI h1 h2 sB eS al pr hR
    have hin : i = n := by omega
    obtain ⟨its, rv, p, _⟩ := I.list (sq_same sB hqx)
    obtain ⟨its2, rv2, p2, _⟩ := I.list (sq_same sB hqy)
    have l1 := rv.length
    have l2 := rv2.length
    have hend : its.toArray[i]? = none ∨ its2.toArray[i]? = none := by
      rcases he with q | q
      · exact .inl (by simp; omega)
      · exact .inr (by simp; omega)
    have fin : ∀ h' : Heap, (∀ c o, c ≠ z → c ≠ TO → c ≠ i1 → c ≠ i2 → s.heap.get? c = some o → h'.get? c = some o) → R (.ok (.ret res)) { s with heap := h' } := fun h' hk =>
      hR _ H acc (I.turnedL (t' := s.toks) (ch := [z, TI, TO, i1, i2]) (fun c o hb q => hk c o (fun q' => hb (by simp [q'])) (fun q' => hb (by simp [q'])) (fun q' => hb (by simp [q'])) (fun q' => hb (by simp [q'])) q) (fun q m => (hf q m).1)) sB eS (by omega) pr
    refine codeAny_builtin F.entry_extend_loop ?_
    rw [Around.under_plainId F.plain_extend_loop _]
    show wpAny _ A.in1 (pyNext (.ref z) >>= _) _ _ s
    rcases st with ⟨hz, x, y, hTO⟩ | ⟨T, f, oT, hz, hT, _⟩
    · exact wpAny_bind (wpAny_pyNext_zip_end hh D hz hTI hTO h1 h2 p.isList p2.isList hend fun h' hk => wpAny_pure (fin h' hk))
    · exact wpAny_bind (wpAny_pyNext_zip_end_held hh D hz hT hTI h1 h2 p.isList p2.isList hend fun h' hk => wpAny_pure (fin h' fun c o c1 _ c3 c4 e => hk c o c1 c3 c4 e))
  | succ k ih =>
    intro i s H acc hk hi I hf st hTI h1 h2 sB eS al pr hR
    obtain ⟨its, rv, p, _⟩ := I.list (sq_same sB hqx)
    obtain ⟨its2, rv2, p2, _⟩ := I.list (sq_same sB hqy)
    obtain ⟨x, ex⟩ : ∃ x, xs[i]? = some x := ⟨_, List.getElem?_eq_getElem (by omega)⟩
    obtain ⟨y, ey⟩ : ∃ y, ys[i]? = some y := ⟨_, List.getElem?_eq_getElem (by omega)⟩
    obtain ⟨u, hu, ru⟩ := rv.get ex
    obtain ⟨u2, hu2, ru2⟩ := rv2.get ey
    have go : ∀ h' : Heap, ZSt h' z TI TO i1 i2 S → h'.IsListIter i1 a (i + 1) → h'.IsListIter i2 b (i + 1) → IsPair h' s.heap.objs.size u u2 → h'.objs.size = s.heap.objs.size + 1 →
        (∀ c o, c ≠ z → c ≠ TO → c ≠ i1 → c ≠ i2 → s.heap.get? c = some o → h'.get? c = some o) →
        wpAny (model X.prog X.w) A.in1 (updateSeq S (·.push (.ref s.heap.objs.size)) >>= fun _ => again (.builtin "list.extend.loop" ⟨[.ref S, .ref z, res], []⟩))
          (fun fin s' => match fin with | .done f => R (.ok f) s' | .again c' => c'.quiet = true ∧ codeAny (model X.prog X.w) A c' R s') (fun e s' => R (.error e) s') { s with heap := h' } := by
      intro h' st' h1' h2' hT hsz hk'
      have new : ObjOk X.prog X.w (upd H s.heap.objs.size (.tup [x, y])) h' s.heap.objs.size (.tup [x, y]) :=
        ⟨by show 2 ≤ sizeLine; decide, [u, u2], .cons ru (.cons ru2 .nil), ⟨_, hT, rfl, _, rfl⟩⟩
      have nT : H s.heap.objs.size = none := I.hok.fresh (Nat.le_refl _)
      have I1 : Inv X pins σ (upd H s.heap.objs.size (.tup [x, y])) { s with heap := h' } :=
        I.turnedNew (t' := s.toks) (ch := [z, TI, TO, i1, i2]) (fun c o hb q => hk' c o (fun q' => hb (by simp [q'])) (fun q' => hb (by simp [q'])) (fun q' => hb (by simp [q'])) (fun q' => hb (by simp [q'])) q) (fun q m => (hf q m).1) (Nat.le_refl _) new
      have ST : S ≠ s.heap.objs.size := fun q => by rw [← q, eS] at nT; cases nT
      have eS1 : (upd H s.heap.objs.size (.tup [x, y])) S = some (.lst acc) := by rw [upd_ne ST]; exact eS
      obtain ⟨_, av, m, ra, al2, ea⟩ := I1.lstM eS1
      have I2 := I1.lset (t' := s.toks) (its' := av ++ [.ref s.heap.objs.size]) (f := (·.push (.ref s.heap.objs.size))) eS1 ea (by simp) (ra.append (.cons (show RelV (.ref s.heap.objs.size) (.ref s.heap.objs.size) from rfl) .nil)) (by rw [List.length_append, List.length_singleton]; omega)
      have up : ∀ c o, c ≠ S → h'.get? c = some o → (h'.update S (Obj.mapSeq (·.push (Value.ref s.heap.objs.size)))).get? c = some o := fun c o hc e => (Heap.get?_update_other _ _ (Ne.symm hc)).trans e
      have sz2 : (h'.update S (Obj.mapSeq (·.push (Value.ref s.heap.objs.size)))).objs.size = s.heap.objs.size + 1 := by rw [Heap.size_update]; exact hsz
      have lt : ∀ q ∈ [z, TI, TO, i1, i2], q ≠ s.heap.objs.size := fun q m => Nat.ne_of_lt (hf q m).2
      have sH : Same H (upd H s.heap.objs.size (.tup [x, y])) := same_new nT
      have sB2 : Same HB (upd (upd H s.heap.objs.size (.tup [x, y])) S (.lst (acc ++ [.ref s.heap.objs.size]))) := fun c o e => by
        rw [upd_ne (fun q => by rw [q, nSB] at e; cases e)]
        exact sH _ _ (sB _ _ e)
      have tS : Tst (upd H s.heap.objs.size (.tup [x, y])) (upd (upd H s.heap.objs.size (.tup [x, y])) S (.lst (acc ++ [.ref s.heap.objs.size]))) := fun c vs e => by
        rw [upd_ne (fun q => by rw [q, eS1] at e; cases e)]; exact e
      refine wpAny_bind (wpAny_updateSeq ea rfl (wpAny_pure ⟨plainId_quiet F.plain_extend_loop _, ih (i + 1) _ _ (acc ++ [.ref s.heap.objs.size]) (by omega) (by omega) I2 (fun q m => ⟨?_, ?_⟩) ?_ (up _ _ (Ne.symm nSTI) (hk' _ _ D.TIz D.TITO D.TIi1 D.TIi2 hTI)) (h1'.at fun o e => up _ _ (Ne.symm nS1) e) (h2'.at fun o e => up _ _ (Ne.symm nS2) e) sB2 upd_same (by rw [List.length_append, al]; rfl) (fun j v ej => ?_) hR⟩)
        (by rw [List.size_toArray, ← al2]; omega) (by show (av.toArray.push _).size ≤ sizeLine + 1; rw [Array.size_push, List.size_toArray, ← al2]; omega))
      · obtain ⟨q0, q1⟩ := (hf q m).1
        refine ⟨?_, q1⟩
        rw [upd_ne (fun w => nS q (by simp only [List.mem_cons, List.not_mem_nil, or_false] at m ⊢; rcases m with w | w | w | w | w <;> simp [w]) w.symm), upd_ne (lt q m)]
        exact q0
      · show q < (h'.update S _).objs.size
        rw [sz2]
        exact Nat.lt_succ_of_lt (hf q m).2
      · rcases st' with ⟨hz, x0, y0, hTO⟩ | ⟨T, f, oT, hz, hT2, c1, c2, c3, c4⟩
        · exact .inl ⟨up _ _ (Ne.symm nSz) hz, x0, y0, up _ _ (Ne.symm nSTO) hTO⟩
        · exact .inr ⟨T, f, oT, up _ _ (Ne.symm nSz) hz, up _ _ c4 hT2, c1, c2, c3, c4⟩
      · by_cases hj : j < acc.length
        · rw [List.getElem?_append_left hj] at ej
          exact ((pr.mono (Same.tst sH)).mono tS) j v ej
        · rw [List.getElem?_append_right (by omega)] at ej
          have hj0 : j = acc.length := by
            have := (List.getElem?_eq_some_iff.mp ej).1
            rw [List.length_singleton] at this
            omega
          rw [hj0, Nat.sub_self] at ej
          cases ej
          exact ⟨_, x, y, rfl, tS _ _ upd_same, by rw [hj0, al]; exact ex, by rw [hj0, al]; exact ey⟩
    have lz : s.heap.objs.size ≠ z := Nat.ne_of_gt (hf z (by simp)).2
    have l1 : s.heap.objs.size ≠ i1 := Nat.ne_of_gt (hf i1 (by simp)).2
    have l2 : s.heap.objs.size ≠ i2 := Nat.ne_of_gt (hf i2 (by simp)).2
    have lS : s.heap.objs.size ≠ S := fun q => by
      have := I.hok.fresh (Nat.le_refl s.heap.objs.size)
      rw [q, eS] at this; cases this
    refine codeAny_builtin F.entry_extend_loop ?_
    rw [Around.under_plainId F.plain_extend_loop _]
    show wpAny _ A.in1 (pyNext (.ref z) >>= _) _ _ s
    rcases st with ⟨hz, x0, y0, hTO⟩ | ⟨T, f, oT, hz, hT, c1, c2, c3, c4⟩
    · exact wpAny_bind (wpAny_pyNext_zip_item D hz hTI hTO h1 h2 p.isList p2.isList (x := u) (y := u2) (by simpa using hu) (by simpa using hu2) fun h' z' TO' h1' h2' hT hsz hk => go h' (.inr ⟨_, false, _, z', hT, lz, l1, l2, lS⟩) h1' h2' hT hsz hk)
    · exact wpAny_bind (wpAny_pyNext_zip_item_held D hz hT hTI h1 h2 p.isList p2.isList (x := u) (y := u2) (by simpa using hu) (by simpa using hu2) fun h' z' h1' h2' hT' hsz hk => go h' (.inr ⟨T, true, oT, z', hk _ _ c1 c2 c3 hT, c1, c2, c3, c4⟩) h1' h2' hT' hsz fun c o e1 _ e3 e4 e => hk c o e1 e3 e4 e)
theorem zl_ext {A : Around} {R : Result → Shared → Prop} (hh : A.handled = none) {z TI TO i1 i2 a b S : Addr} (D : ZipApart z TI TO i1 i2 a b) (nS : ∀ q ∈ [z, TI, TO, i1, i2, a, b], S ≠ q) {xs ys : List V} {n : Nat} (hn1 : n ≤ xs.length) (hn2 : n ≤ ys.length) (he : n = xs.length ∨ n = ys.length) (hzz : n ≤ sizeLine) (res : Value) {H : Hp} {s0 s : Shared} (I : Inv X pins σ H s0) (hf : ∀ q ∈ [z, TI, TO, i1, i2], FpOk X pins H q ∧ q < s0.heap.objs.size) (hqx : SqL X.K H a xs) (hqy : SqL X.K H b ys) (hS0 : s0.heap.objs.size = S)
    (es : s = { s0 with heap := s.heap }) (k0 : ∀ c o, c ≠ S → s0.heap.get? c = some o → s.heap.get? c = some o) (hsz : s.heap.objs.size = S + 1) {c0 : Nat} (hS : s.heap.get? S = some { cls := .type "list", data := .seq #[] c0 })
    (hz : IsZip s0.heap z TI TO .none) (hTO : ∃ x y, IsPair s0.heap TO x y) (hTI : IsPair s0.heap TI (.ref i1) (.ref i2)) (h1 : s0.heap.IsListIter i1 a 0) (h2 : s0.heap.IsListIter i2 b 0)
    (hR : ∀ s' H' acc', Inv X pins σ H' s' → Same H H' → H' S = some (.lst acc') → acc'.length = n → PrsAt H' xs ys acc' → R (.ok (.ret res)) s') :
    wpAny (model X.prog X.w) A.in1 (Builtin.List.listExtendWith (.ref S) (.ref z) res)
      (fun fin s' => match fin with | .done f => R (.ok f) s' | .again c' => c'.quiet = true ∧ codeAny (model X.prog X.w) A c' R s') (fun e s' => R (.error e) s') s := by
  have nSz : S ≠ z := nS z (by simp)
  have nSTI : S ≠ TI := nS TI (by simp)
  have nSTO : S ≠ TO := nS TO (by simp)
  have nS1 : S ≠ i1 := nS i1 (by simp)
  have nS2 : S ≠ i2 := nS i2 (by simp)
  have hz1 : IsZip s.heap z TI TO .none := k0 _ _ (Ne.symm nSz) hz
  have hT : s.TypeIs (.ref z) "zip" := ⟨_, hz1, rfl⟩
  have e1 : Builtin.List.listSameRef (.ref S) (.ref z) = false := by simp [Builtin.List.listSameRef, nSz]
  unfold Builtin.List.listExtendWith
  refine wpAny_bind (wpAny_typeOf hT ?_)
  rw [if_neg (by rw [e1]; decide)]
  refine wpAny_bind (wpAny_pyIter_zip hz1 ?_)
  refine wpAny_bind (wpAny_holding ?_)
  unfold Builtin.List.listLengthHint
  refine wpAny_bind (wpAny_specialOf hT zl_nolen ?_)
  show wpAny _ A.in1 (specialOf (Value.ref z) (Str.ofString "__length_hint__") >>= _) _ _ _
  refine wpAny_bind (wpAny_specialOf hT zl_nohint ?_)
  refine wpAny_pure ?_
  show wpAny _ A.in1 (rule "list.extend.makes-room" >>= fun _ => Builtin.List.listTouch (.ref S) >>= fun _ =>
    again (.builtin "list.extend.loop" ⟨[.ref S, .ref z, res], []⟩)) _ _ _
  refine wpAny_bind (wpAny_rule ?_)
  refine wpAny_bind ?_
  show wpAny _ A.in1 (updateSeq S (·.push .none) >>= fun _ => updateSeq S (·.pop)) _ _ _
  refine wpAny_bind (wpAny_updateSeq hS rfl ?_)
  have hS₂ := Heap.get?_update_self (Obj.mapSeq (·.push Value.none)) hS rfl
  refine wpAny_updateSeq hS₂ rfl ?_
  have hS₃ := Heap.get?_update_self (Obj.mapSeq (·.pop)) hS₂ rfl
  have oth : ∀ c o, c ≠ S → s0.heap.get? c = some o → ((s.heap.update S (Obj.mapSeq (·.push Value.none))).update S (Obj.mapSeq (·.pop))).get? c = some o :=
    fun c o hc e => (Heap.get?_update_other _ _ (Ne.symm hc)).trans ((Heap.get?_update_other _ _ (Ne.symm hc)).trans (k0 c o hc e))
  have nSH : H S = none := I.hok.fresh (by rw [hS0]; exact Nat.le_refl _)
  have I1 : Inv X pins σ (upd H S (.lst [])) { s0 with heap := (s.heap.update S (Obj.mapSeq (·.push Value.none))).update S (Obj.mapSeq (·.pop)) } :=
    I.laid (t' := s0.toks) (o := .lst []) (fun c o e => oth c o (fun q => by rw [q] at e; exact absurd (Heap.lt_size e) (by rw [hS0]; exact Nat.lt_irrefl _)) e) (by rw [hS0]; exact Nat.le_refl _) ⟨Nat.zero_le _, [], _, .nil, hS₃⟩
  have sz3 : ((s.heap.update S (Obj.mapSeq (·.push Value.none))).update S (Obj.mapSeq (·.pop))).objs.size = S + 1 := by rw [Heap.size_update, Heap.size_update]; exact hsz
  rw [es] at *
  refine wpAny_pure ⟨plainId_quiet F.plain_extend_loop _, zl_loop hh D nS hn1 hn2 he hzz res hqx hqy nSH n 0 _ _ [] (by omega) (Nat.zero_le _) I1 (fun q m => ⟨?_, ?_⟩) (.inl ⟨oth _ _ (Ne.symm nSz) hz, ?_⟩) (oth _ _ (Ne.symm nSTI) hTI) (h1.at fun o e => oth _ _ (Ne.symm nS1) e) (h2.at fun o e => oth _ _ (Ne.symm nS2) e) (same_new nSH) upd_same rfl (fun j v ej => by simp at ej) hR⟩
  · obtain ⟨q0, q1⟩ := (hf q m).1
    refine ⟨?_, q1⟩
    rw [upd_ne (fun w => nS q (by simp only [List.mem_cons, List.not_mem_nil, or_false] at m ⊢; rcases m with w | w | w | w | w <;> simp [w]) w.symm)]
    exact q0
  · show q < ((Heap.update _ S _).update S _).objs.size
    rw [sz3]
    have := (hf q m).2
    rw [hS0] at this
    exact Nat.lt_succ_of_lt this
  · obtain ⟨x, y, h⟩ := hTO
    exact ⟨x, y, oth _ _ (Ne.symm nSTO) h⟩
end
def tLstZip (K : PySem.W.Frag) (ta : TA) : TE := fun σ H Q => ta σ H fun vs H1 => ∃ (a b : Addr) (xs ys : List V), vs = [.ref a, .ref b] ∧ SqL K H1 a xs ∧ SqL K H1 b ys ∧ ∀ p ps H', H1 p = none → Same H1 H' → H' p = some (.lst ps) → ps.length = min xs.length ys.length → PrsAt H' xs ys ps → Q (.ref p) H'
section
variable {X : Cx}
theorem pe_lstZip {e e2 : Expr} {ta : TA} {p p2 pos pos2 : Pos} (hc : X.calm = true) (hg : Gl X "list") (hm : X.mg "list" = none) (hg2 : Gl X "zip") (hm2 : X.mg "zip" = none) (ha : PA X [e, e2] ta)
    (hs : starEach [e, e2] X.env = (false, eval e X.env) :: starEach [e2] X.env := by rfl) (hpl : (backTo pos2 (starEach [e2] X.env)).any (·.1) = false := by rfl)
    (hs2 : starEach [.Call (.Name "zip" p2) [e, e2] [] pos2] X.env = (false, eval (.Call (.Name "zip" p2) [e, e2] [] pos2) X.env) :: starEach [] X.env := by rfl) :
    PE X (.Call (.Name "list" p) [.Call (.Name "zip" p2) [e, e2] [] pos2] [] pos) (tLstZip X.K ta) := by
  refine ⟨fun pins s σ H Q I h => ?_⟩
  refine Call_ (ld_blt I hg hm PyProof.Rows.boot_list (PyProof.Rows.callWith_type1 (args_cons (Call_ (ld_blt I hg2 hm2 PyProof.Rows.boot_zip (PyProof.Rows.callWith_type1 (thn (ha.run pos2 pins s σ H _ I h) fun us s1 ⟨vs, H1, I1, r1, q1⟩ => ?_) hs hpl))) hs2) hs2 rfl))
  obtain ⟨a, b, xs, ys, ex, hqx, hqy, q⟩ := q1
  subst ex
  cases r1 with
  | cons r rr =>
    cases rr with
    | cons r' rr =>
      cases rr
      cases r
      cases r'
      obtain ⟨its, rv, p1, z1⟩ := I1.list hqx
      obtain ⟨its2, rv2, p2', z2⟩ := I1.list hqy
      have la : a < s1.heap.objs.size := p1.lt
      have lb : b < s1.heap.objs.size := p2'.lt
      refine call_zip_2 p1.isList p2'.isList fun h0 hz hTI hTO h1 h2 hsz hk0 => args_nil ?_
      have I2 : Inv X pins σ H1 { s1 with heap := h0 } := I1.kept (t' := s1.toks) hk0
      have D := PySem.W.ktu_apart s1.heap.objs.size a b la lb
      have hf : ∀ c ∈ [s1.heap.objs.size + 4, s1.heap.objs.size + 2, s1.heap.objs.size + 3, s1.heap.objs.size, s1.heap.objs.size + 1], FpOk X pins H1 c ∧ c < h0.objs.size := fun c hcm => by
        have e' : c = s1.heap.objs.size + 4 ∨ c = s1.heap.objs.size + 2 ∨ c = s1.heap.objs.size + 3 ∨ c = s1.heap.objs.size ∨ c = s1.heap.objs.size + 1 := by simpa using hcm
        have hle : s1.heap.objs.size ≤ c ∧ c < h0.objs.size := by
          rw [hsz]
          rcases e' with z | z | z | z | z <;> rw [z] <;> (constructor <;> first | exact Nat.le_add_right _ _ | exact Nat.le_refl _ | exact Nat.lt_add_of_pos_right (by decide) | exact Nat.add_lt_add_left (by decide) _)
        exact ⟨I1.fpOk hle.1 (I1.hok.fresh hle.1), hle.2⟩
      have nS : ∀ c ∈ [s1.heap.objs.size + 4, s1.heap.objs.size + 2, s1.heap.objs.size + 3, s1.heap.objs.size, s1.heap.objs.size + 1, a, b], h0.objs.size ≠ c := fun c hcm => by
        have e' : (c = s1.heap.objs.size + 4 ∨ c = s1.heap.objs.size + 2 ∨ c = s1.heap.objs.size + 3 ∨ c = s1.heap.objs.size ∨ c = s1.heap.objs.size + 1) ∨ c = a ∨ c = b := by
          simp only [List.mem_cons, List.not_mem_nil, or_false] at hcm
          rcases hcm with z | z | z | z | z | z | z <;> simp [z]
        rcases e' with e' | e' | e'
        · exact Nat.ne_of_gt (hf c (by simp only [List.mem_cons, List.not_mem_nil, or_false]; exact e')).2
        · rw [e', hsz]; exact Nat.ne_of_gt (Nat.lt_of_lt_of_le la (Nat.le_add_right _ _))
        · rw [e', hsz]; exact Nat.ne_of_gt (Nat.lt_of_lt_of_le lb (Nat.le_add_right _ _))
      refine callType_codes (Q₁ := fun obj s₁ => obj = .ref h0.objs.size ∧ s₁ = { s1 with heap := h0.push { cls := .type "list", data := .seq #[] } }) F.called_list (F.typeCall_list_1 _) F.entry_list_init
        (code_list_new _ ⟨rfl, rfl⟩) fun obj s₁ h₁ => ?_
      obtain ⟨rfl, rfl⟩ := h₁
      have hS : (h0.push { cls := .type "list", data := .seq #[] }).get? h0.objs.size = some { cls := .type "list", data := .seq #[] } := Heap.get?_push_size _ rfl
      refine ⟨⟨_, hS, rfl⟩, F.args_list_init_2 _ _, ?_⟩
      show wpAny _ _ (do let old ← Builtin.List.listItems (.ref h0.objs.size); Builtin.List.listUpdate (.ref h0.objs.size) (fun _ => #[]); letGo old.toList.reverse; Builtin.List.listExtendWith (.ref h0.objs.size) (.ref (s1.heap.objs.size + 4)) .none) _ _ _
      refine wpAny_bind ?_
      unfold Builtin.List.listItems
      refine wpAny_bind (wpAny_seqItems hS rfl (wpAny_pure ?_))
      show wpAny _ _ (updateSeq h0.objs.size (fun _ => #[]) >>= fun _ => letGo (#[] : Array Value).toList.reverse >>= fun _ => Builtin.List.listExtendWith (.ref h0.objs.size) (.ref (s1.heap.objs.size + 4)) .none) _ _ _
      refine wpAny_bind (wpAny_updateSeq hS rfl ?_)
      have hS₂ := Heap.get?_update_self (Obj.mapSeq (fun _ => (#[] : Array Value))) hS rfl
      refine wpAny_bind (wpAny_letGo ?_)
      refine zl_ext (A := X.A.in1) (X := X) (pins := pins) (σ := σ) (n := min xs.length ys.length) (H := H1) (s0 := { s1 with heap := h0 }) (s := { s1 with heap := (h0.push { cls := .type "list", data := .seq #[] }).update h0.objs.size (Obj.mapSeq (fun _ => (#[] : Array Value))) }) (I1.ok.hd hc) D nS (Nat.min_le_left _ _) (Nat.min_le_right _ _) (by omega) (Nat.le_trans (Nat.min_le_left _ _) z1) .none I2 hf hqx hqy rfl rfl (fun c o hc' e => (Heap.get?_update_other _ _ (Ne.symm hc')).trans (Heap.get?_push_of_some _ e)) (by rw [Heap.size_update, Heap.size_push]) hS₂ hz ⟨_, _, hTO⟩ hTI h1 h2 fun s' H' acc' I' sH eS al pr => ?_
      exact ⟨rfl, .ref h0.objs.size, H', I', rfl, q _ acc' H' (I2.hok.fresh (Nat.le_refl _)) sH eS al pr⟩
end
end My

set_option Elab.async false
set_option linter.all false
set_option maxRecDepth 100000
set_option maxHeartbeats 2000000
namespace My
open PySem PySem.Spec PyProof.Rows L2
/-! d.setdefault(a tuple, y) -/
section
variable {X : Cx} {pins : List (Addr × Obj)} {σ : L2.St} {H : Hp} {s : Shared} {a b : Addr} {r : Value} {d : V} {k : List Key} {A : Around} {E : Value → Shared → Prop}
theorem d_setdT {kvs : List (List Key × V)} {Q : Value → Shared → Prop} (hu : A.units + 1 < cLine) (I : Inv X pins σ H s) (e : H a = some (.dT kvs)) (eb : H b = some (.tup (k.map kV))) (rd : RelV d r) (hl : kvs.length < sizeLine)
    (h1 : ∀ v, valV kvs k = some v → ∀ (w' : Value) (s' : Shared), Inv X pins σ H s' → RelV v w' → Q w' s') (h2 : valV kvs k = none → ∀ (w' : Value) (s' : Shared), Inv X pins σ (upd H a (.dT (putK kvs k d))) s' → RelV d w' → Q w' s') :
    wpAny (model X.prog X.w) A (call (.builtin "dict.setdefault") [.ref a, .ref b, r]) Q E s := by
  obtain ⟨z, hd, xs, rel, dd⟩ := L2.dt_of I.hok e
  have hz : xs.length ≤ sizeLine := by rw [← Paired.length rel]; exact z
  refine call_setdefault_heap (hsz := hz) (tupleKind_room_in1 hu) (L2.key_of I.hok eb) hd dd (fun p hp => ?_) fun hn h' dd' hs => ?_
  · have q := rel.val k
    rw [hp] at q
    cases q0 : valV kvs k with
    | none => rw [q0] at q; exact (show False from q).elim
    | some v0 => rw [q0] at q; exact h1 v0 q0 _ _ (I.tok _) q
  · have q := rel.val k
    rw [hn] at q
    cases q0 : valV kvs k with
    | some v0 => rw [q0] at q; exact (show False from q).elim
    | none =>
      have hl2 : (putK kvs k d).length ≤ sizeLine := by
        have := length_putK kvs k d
        omega
      obtain ⟨q', es, ep, hq, g2, g3, g4, g6, g5⟩ := dd'
      refine h2 q0 _ _ (d_write I (by rw [e]; exact True.intro) hs ⟨q', hq⟩ ⟨hl2, hd, _, (rel.put k eb rd).keeps fun c ys ec => ?_, q', es, ep, hq, g2, g3, g4, g5⟩) rd
      rw [upd_ne (ne_of ec e (fun z => nomatch z))]
      exact ec
end
def tDSetT (td ty tx : TE) : TE := fun σ H Q => td σ H fun x H1 => ∃ a, x = .ref a ∧ IsD H1 a ∧ ty σ H1 fun y H2 => tx σ H2 fun z H3 => ∃ (kvs : List (List Key × V)) (k : List Key) (b : Addr), H3 a = some (.dT kvs) ∧ y = .ref b ∧ H3 b = some (.tup (k.map kV)) ∧ kvs.length < sizeLine ∧
  (∀ v, valV kvs k = some v → Q v H3) ∧ (valV kvs k = none → Q z (upd H3 a (.dT (putK kvs k z))))
section
variable {X : Cx} {o e f : Expr} {td ty tx : TE} {apos cpos : Pos}
theorem pe_dsetT (hu : X.A.units + 1 < cLine) (ho : PE X o td) (he : PE X e ty) (hf : PE X f tx) (m : M2 X o "setdefault" apos e f cpos) : PE X (.Call (.Attribute o "setdefault" apos) [e, f] [] cpos) (tDSetT td ty tx) := by
  refine ⟨fun pins s σ H Q I h => ?_⟩
  refine wpAny_Call_method m.base m.few m.line PySem.F.plainAttrs_dict PySem.F.slot_dict_setdefault PySem.F.type_dict_setdefault (thn (ho.run pins s σ H _ I h) fun u s1 ⟨x, H1, I1, rx, a, ex, d, q1⟩ => ?_)
  subst ex
  obtain rfl : u = Value.ref a := rx
  obtain ⟨t1, t2, _⟩ := isD_at I1 d
  refine ⟨t1, t2, ?_⟩
  rw [m.trees]
  refine Calls.callWith_builtin rfl (Calls.evalArgs_plain (Calls.spliced_cons (thn (he.run pins s1 σ H1 _ I1 q1) fun iv s2 ⟨y, H2, I2, ry, q2⟩ =>
    Calls.spliced_cons (thn (hf.run pins s2 σ H2 _ I2 q2) fun fv s3 ⟨z, H3, I3, rz, kvs, k, b, ea, ey, eb, hl, q3, q4⟩ => Calls.spliced_nil ?_))))
  subst ey
  obtain rfl : iv = Value.ref b := ry
  exact d_setdT hu I3 ea eb rz hl (fun v hv w' s4 I4 rw' => ⟨v, _, I4, rw', q3 v hv⟩) fun hn w' s4 I4 rw' => ⟨z, _, I4, rw', q4 hn⟩
end
end My

set_option Elab.async false
set_option linter.all false
set_option maxRecDepth 100000
set_option maxHeartbeats 4000000
namespace My
/-! crossings: neighbours that stand otherwise by g are exchanged, the least tie first -/
/-- the ties whose ends stand otherwise by g -/
def invG (g : Int → Int) : List Int → List (Int × Int)
  | [] => []
  | x :: xs => (xs.filter fun y => decide (g y < g x)).map (tieO x) ++ invG g xs
theorem tieO_commX {a b : Int} (ne : a ≠ b) : tieO a b = tieO b a := by
  unfold tieO
  split <;> split <;> first | rfl | (exfalso; omega)
theorem invG_pre {g : Int → Int} : ∀ (p : List Int) {u v : List Int} {L : List (Int × Int)}, u.Perm v → (invG g u).Perm (L ++ invG g v) → (invG g (p ++ u)).Perm (L ++ invG g (p ++ v))
  | [], _, _, _, _, h => h
  | x :: p, u, v, L, pm, h => by
    have ih := invG_pre p pm h
    show (((p ++ u).filter fun y => decide (g y < g x)).map (tieO x) ++ invG g (p ++ u)).Perm (L ++ (((p ++ v).filter fun y => decide (g y < g x)).map (tieO x) ++ invG g (p ++ v)))
    have h1 : (((p ++ u).filter fun y => decide (g y < g x)).map (tieO x)).Perm (((p ++ v).filter fun y => decide (g y < g x)).map (tieO x)) := ((pm.append_left p).filter _).map _
    refine (h1.append ih).trans ?_
    rw [← List.append_assoc, ← List.append_assoc]
    exact List.perm_append_comm.append_right _
/-- neighbours exchanged: one less to do -/
theorem invG_swap {g : Int → Int} {p s : List Int} {a b : Int} (h : g b < g a) : (invG g (p ++ a :: b :: s)).Perm (tieO a b :: invG g (p ++ b :: a :: s)) := by
  refine invG_pre p (L := [tieO a b]) (List.Perm.swap b a s) ?_
  have nh : ¬ g a < g b := by omega
  show (((b :: s).filter fun y => decide (g y < g a)).map (tieO a) ++ ((s.filter fun y => decide (g y < g b)).map (tieO b) ++ invG g s)).Perm ([tieO a b] ++ (((a :: s).filter fun y => decide (g y < g b)).map (tieO b) ++ ((s.filter fun y => decide (g y < g a)).map (tieO a) ++ invG g s)))
  rw [List.filter_cons_of_pos (by rw [decide_eq_true h]), List.filter_cons_of_neg (by rw [decide_eq_false nh]; exact Bool.noConfusion), List.map_cons]
  show (tieO a b :: _).Perm (tieO a b :: _)
  refine List.Perm.cons _ ?_
  have key : ∀ A B C : List (Int × Int), (A ++ (B ++ C)).Perm (B ++ (A ++ C)) := fun A B C => by
    rw [← List.append_assoc, ← List.append_assoc]
    exact List.perm_append_comm.append_right _
  exact key _ _ _
/-- no neighbours stand otherwise: it stands as g says -/
def SrtG (g : Int → Int) : List Int → Prop
  | a :: b :: s => g a < g b ∧ SrtG g (b :: s)
  | _ => True
theorem srtG_lt {g : Int → Int} : ∀ {x : Int} {xs : List Int}, SrtG g (x :: xs) → ∀ y ∈ xs, g x < g y
  | _, [], _, y, hy => absurd hy List.not_mem_nil
  | x, b :: s, h, y, hy => by
    rcases List.mem_cons.mp hy with rfl | hy
    · exact h.1
    · exact Int.lt_trans h.1 (srtG_lt h.2 y hy)
theorem srtG_inv {g : Int → Int} : ∀ {xs : List Int}, SrtG g xs → invG g xs = []
  | [], _ => rfl
  | [x], _ => rfl
  | x :: b :: s, h => by
    show (((b :: s).filter fun y => decide (g y < g x)).map (tieO x) ++ invG g (b :: s)) = []
    rw [srtG_inv h.2, List.append_nil, List.map_eq_nil_iff, List.filter_eq_nil_iff]
    intro y hy z
    have h1 := srtG_lt h y hy
    have h2 := of_decide_eq_true z
    omega
theorem srtG_uniq {g : Int → Int} : ∀ {xs ys : List Int}, SrtG g xs → SrtG g ys → xs.Perm ys → xs = ys
  | [], ys, _, _, p => (List.nil_perm.mp p).symm
  | x :: xs, [], _, _, p => absurd p.length_eq (by simp)
  | x :: xs, y :: ys, hx, hy, p => by
    have e : x = y := by
      rcases List.mem_cons.mp (p.mem_iff.mp List.mem_cons_self) with h | h
      · exact h
      · rcases List.mem_cons.mp (p.mem_iff.mpr (List.mem_cons_self (a := y) (l := ys))) with h2 | h2
        · exact h2.symm
        · have h3 := srtG_lt hy x h
          have h4 := srtG_lt hx y h2
          omega
    subst e
    rw [srtG_uniq (xs := xs) (ys := ys) (match xs, hx with | [], _ => trivial | _ :: _, h => h.2) (match ys, hy with | [], _ => trivial | _ :: _, h => h.2) (List.Perm.cons_inv p)]
/-- the ties of neighbours that stand otherwise -/
def wrgG (g : Int → Int) : List Int → List (Int × Int)
  | a :: b :: s => (if g b < g a then [tieO a b] else []) ++ wrgG g (b :: s)
  | _ => []
theorem wrgG_nil {g : Int → Int} : ∀ {xs : List Int}, (∀ x ∈ xs, ∀ y ∈ xs, g x = g y → x = y) → xs.Nodup → wrgG g xs = [] → SrtG g xs
  | [], _, _, _ => trivial
  | [_], _, _, _ => trivial
  | a :: b :: s, inj, nd, h => by
    have h1 : (if g b < g a then [tieO a b] else []) ++ wrgG g (b :: s) = [] := h
    obtain ⟨h2, h3⟩ := List.append_eq_nil_iff.mp h1
    have ne : a ≠ b := fun z => (List.nodup_cons.mp nd).1 (by rw [z]; exact List.mem_cons_self)
    refine ⟨?_, wrgG_nil (fun x hx y hy => inj x (List.mem_cons_of_mem _ hx) y (List.mem_cons_of_mem _ hy)) (List.nodup_cons.mp nd).2 h3⟩
    by_cases z : g b < g a
    · rw [if_pos z] at h2; cases h2
    · have : g a ≠ g b := fun y => ne (inj a List.mem_cons_self b (List.mem_cons_of_mem _ List.mem_cons_self) y)
      omega
theorem wrgG_of {g : Int → Int} : ∀ {p s : List Int} {a b : Int}, g b < g a → tieO a b ∈ wrgG g (p ++ a :: b :: s)
  | [], s, a, b, h => by
    show tieO a b ∈ (if g b < g a then [tieO a b] else []) ++ wrgG g (b :: s)
    rw [if_pos h]; exact List.mem_cons_self
  | [x], s, a, b, h => by
    show tieO a b ∈ (if g a < g x then [tieO x a] else []) ++ wrgG g (a :: b :: s)
    exact List.mem_append_right _ (wrgG_of (p := []) h)
  | x :: y :: p, s, a, b, h => by
    show tieO a b ∈ (if g y < g x then [tieO x y] else []) ++ wrgG g (y :: (p ++ a :: b :: s))
    exact List.mem_append_right _ (wrgG_of (p := y :: p) h)
theorem wrgG_mem {g : Int → Int} : ∀ {xs : List Int} {t : Int × Int}, t ∈ wrgG g xs → ∃ p a b s, xs = p ++ a :: b :: s ∧ g b < g a ∧ t = tieO a b
  | [], _, h => absurd h List.not_mem_nil
  | [_], _, h => absurd h List.not_mem_nil
  | a :: b :: s, t, h => by
    have h1 : t ∈ (if g b < g a then [tieO a b] else []) ++ wrgG g (b :: s) := h
    rcases List.mem_append.mp h1 with h2 | h2
    · by_cases z : g b < g a
      · rw [if_pos z] at h2
        exact ⟨[], a, b, s, rfl, z, List.mem_singleton.mp h2⟩
      · rw [if_neg z] at h2; exact absurd h2 List.not_mem_nil
    · obtain ⟨p, a', b', s', e, h3, h4⟩ := wrgG_mem h2
      exact ⟨a :: p, a', b', s', by rw [e]; rfl, h3, h4⟩
/-- told: the least tie first, each time -/
inductive CrsG (g : Int → Int) : List Int → List (Int × Int) → Prop
  | nil {xs : List Int} : wrgG g xs = [] → CrsG g xs []
  | step {p s : List Int} {a b : Int} {told : List (Int × Int)} : g b < g a → (∀ t ∈ wrgG g (p ++ a :: b :: s), ¬ (t.1 < (tieO a b).1 ∨ (t.1 = (tieO a b).1 ∧ t.2 < (tieO a b).2))) → CrsG g (p ++ b :: a :: s) told → CrsG g (p ++ a :: b :: s) (tieO a b :: told)
theorem CrsG.inv {g : Int → Int} {xs : List Int} {told : List (Int × Int)} (h : CrsG g xs told) : xs.Nodup → (∀ x ∈ xs, ∀ y ∈ xs, g x = g y → x = y) → told.Perm (invG g xs) := by
  induction h with
  | nil h => exact fun nd inj => by rw [srtG_inv (wrgG_nil inj nd h)]
  | @step p s a b told hg _ _ ih =>
    intro nd inj
    have pm : (p ++ b :: a :: s).Perm (p ++ a :: b :: s) := (List.Perm.swap a b s).append_left p
    have := ih (pm.nodup_iff.mpr nd) (fun x hx y hy => inj x (pm.mem_iff.mp hx) y (pm.mem_iff.mp hy))
    exact (this.cons _).trans (invG_swap hg).symm
/-- told so far -/
inductive CrsTo (g : Int → Int) (xs : List Int) : List Int → List (Int × Int) → Prop
  | refl : CrsTo g xs xs []
  | snoc {p s : List Int} {a b : Int} {L : List (Int × Int)} : CrsTo g xs (p ++ a :: b :: s) L → g b < g a → (∀ t ∈ wrgG g (p ++ a :: b :: s), ¬ (t.1 < (tieO a b).1 ∨ (t.1 = (tieO a b).1 ∧ t.2 < (tieO a b).2))) → CrsTo g xs (p ++ b :: a :: s) (L ++ [tieO a b])
theorem CrsTo.perm {g : Int → Int} {xs ys : List Int} {L : List (Int × Int)} (h : CrsTo g xs ys L) : ys.Perm xs := by
  induction h with
  | refl => exact .refl _
  | @snoc p s a b L _ _ _ ih => exact ((List.Perm.swap a b s).append_left p).trans ih
theorem CrsTo.to {g : Int → Int} {xs ys : List Int} {L : List (Int × Int)} (h : CrsTo g xs ys L) : ∀ {R : List (Int × Int)}, CrsG g ys R → CrsG g xs (L ++ R) := by
  induction h with
  | refl => exact fun h => h
  | @snoc p s a b L _ hg hl ih =>
    intro R hR
    rw [List.append_assoc]
    exact ih (.step hg hl hR)
/-- as many are left as are not yet told -/
theorem CrsTo.len {g : Int → Int} {xs ys : List Int} {L : List (Int × Int)} (h : CrsTo g xs ys L) : (L ++ invG g ys).Perm (invG g xs) := by
  induction h with
  | refl => exact .refl _
  | @snoc p s a b L _ hg _ ih =>
    rw [List.append_assoc]
    exact (((invG_swap hg).symm).append_left L).trans ih
theorem tieO_twoX {a b c d : Int} (h : tieO a b = tieO c d) : (a = c ∧ b = d) ∨ (a = d ∧ b = c) := by
  unfold tieO at h
  split at h <;> split at h <;> (obtain ⟨h1, h2⟩ := Prod.mk.inj h; omega)
/-- unlike numbers: where two neighbours stand -/
theorem at_uniq : ∀ {p p' s s' : List Int} {a b : Int}, (p ++ a :: b :: s).Nodup → p ++ a :: b :: s = p' ++ a :: b :: s' → p = p' ∧ s = s'
  | [], [], _, _, _, _, _, e => by
    injection e with _ e2
    injection e2 with _ e3
    exact ⟨rfl, e3⟩
  | [], y :: p', s, s', a, b, nd, e => by
    injection e with e1 e2
    have : a ∈ b :: s := by rw [e2]; simp
    exact absurd this (List.nodup_cons.mp nd).1
  | x :: p, [], s, s', a, b, nd, e => by
    injection e with e1 e2
    have : x ∈ p ++ a :: b :: s := by rw [e1]; simp
    exact absurd this (List.nodup_cons.mp nd).1
  | x :: p, y :: p', s, s', a, b, nd, e => by
    injection e with e1 e2
    obtain ⟨h1, h2⟩ := at_uniq (List.nodup_cons.mp nd).2 e2
    exact ⟨by rw [e1, h1], h2⟩
theorem CrsG.uniq {g : Int → Int} {xs : List Int} {L : List (Int × Int)} (h : CrsG g xs L) : xs.Nodup → ∀ {R}, CrsG g xs R → R = L := by
  induction h with
  | @nil xs h0 =>
    intro nd R hR
    cases hR with
    | nil _ => rfl
    | step hg _ _ => rw [List.eq_nil_iff_forall_not_mem] at h0; exact absurd (wrgG_of hg) (h0 _)
  | @step p s a b told hg hl _ ih =>
    intro nd R hR
    generalize hx : p ++ a :: b :: s = xs at hR nd
    cases hR with
    | nil h0 => rw [List.eq_nil_iff_forall_not_mem] at h0; exact absurd (by rw [← hx]; exact wrgG_of hg) (h0 (tieO a b))
    | @step p' s' a' b' told' hg' hl' h' =>
      have m1 : tieO a b ∈ wrgG g (p' ++ a' :: b' :: s') := by rw [← hx]; exact wrgG_of hg
      have m2 : tieO a' b' ∈ wrgG g (p ++ a :: b :: s) := by rw [hx]; exact wrgG_of hg'
      have e : tieO a b = tieO a' b' := by
        have h1 := hl _ m2
        have h2 := hl' _ m1
        have e1 : (tieO a b).1 = (tieO a' b').1 := by omega
        have e2 : (tieO a b).2 = (tieO a' b').2 := by omega
        exact Prod.ext e1 e2
      rcases tieO_twoX e with ⟨rfl, rfl⟩ | ⟨rfl, rfl⟩
      · rw [← hx] at nd
        obtain ⟨rfl, rfl⟩ := at_uniq nd hx
        rw [ih (((List.Perm.swap a b s).append_left p).nodup_iff.mpr nd) h']
      · omega
theorem invG_mem {f g : Int → Int} : ∀ {xs : List Int}, SrtG f xs → ∀ {t : Int × Int}, t ∈ invG g xs ↔ ∃ a b, a ∈ xs ∧ b ∈ xs ∧ f a < f b ∧ g b < g a ∧ t = tieO a b
  | [], _, t => ⟨fun h => absurd h List.not_mem_nil, fun ⟨_, _, h, _⟩ => absurd h List.not_mem_nil⟩
  | x :: xs, hs, t => by
    have hs' : SrtG f xs := match xs, hs with | [], _ => trivial | _ :: _, h => h.2
    have lt := srtG_lt hs
    show t ∈ (xs.filter fun y => decide (g y < g x)).map (tieO x) ++ invG g xs ↔ _
    rw [List.mem_append, invG_mem hs', List.mem_map]
    constructor
    · rintro (⟨y, hy, rfl⟩ | ⟨a, b, h1, h2, h3, h4, h5⟩)
      · obtain ⟨y1, y2⟩ := List.mem_filter.mp hy
        exact ⟨x, y, List.mem_cons_self, List.mem_cons_of_mem _ y1, lt y y1, of_decide_eq_true y2, rfl⟩
      · exact ⟨a, b, List.mem_cons_of_mem _ h1, List.mem_cons_of_mem _ h2, h3, h4, h5⟩
    · rintro ⟨a, b, h1, h2, h3, h4, h5⟩
      rcases List.mem_cons.mp h1 with e1 | m1
      · subst e1
        rcases List.mem_cons.mp h2 with e2 | m2
        · rw [e2] at h3; omega
        · exact .inl ⟨b, List.mem_filter.mpr ⟨m2, by rw [decide_eq_true h4]⟩, h5.symm⟩
      · rcases List.mem_cons.mp h2 with e2 | m2
        · have := lt a m1; rw [e2] at h3; omega
        · exact .inr ⟨a, b, m1, m2, h3, h4, h5⟩
theorem invG_nd {f g : Int → Int} : ∀ {xs : List Int}, SrtG f xs → (invG g xs).Nodup
  | [], _ => List.nodup_nil
  | x :: xs, hs => by
    have hs' : SrtG f xs := match xs, hs with | [], _ => trivial | _ :: _, h => h.2
    have lt := srtG_lt hs
    have nx : x ∉ xs := fun h => by have := lt x h; omega
    show ((xs.filter fun y => decide (g y < g x)).map (tieO x) ++ invG g xs).Nodup
    rw [List.nodup_append]
    have nd : ∀ {ys : List Int}, SrtG f ys → ys.Nodup := fun {ys} h => by
      induction ys with
      | nil => exact List.nodup_nil
      | cons y ys ih =>
        refine List.nodup_cons.mpr ⟨fun m => ?_, ih (match ys, h with | [], _ => trivial | _ :: _, h => h.2)⟩
        have := srtG_lt h y m; omega
    refine ⟨?_, invG_nd hs', fun t h1 t' h2 e => ?_⟩
    · refine List.Pairwise.map _ (R := fun y z => y ∈ xs ∧ z ∈ xs ∧ y ≠ z) (fun y z h e => ?_) ?_
      · rcases tieO_twoX e with ⟨_, h2⟩ | ⟨h1, _⟩
        · exact h.2.2 h2
        · exact nx (by rw [h1]; exact h.2.1)
      · have h0 := (nd hs').sublist (List.filter_sublist (p := fun y => decide (g y < g x)))
        exact List.Pairwise.imp_of_mem (fun {y z} hy hz h => ⟨(List.mem_filter.mp hy).1, (List.mem_filter.mp hz).1, h⟩) h0
    · subst e
      obtain ⟨y, hy, rfl⟩ := List.mem_map.mp h1
      obtain ⟨a, b, ha, hb, _, _, e2⟩ := (invG_mem hs').mp h2
      rcases tieO_twoX e2 with ⟨rfl, _⟩ | ⟨rfl, _⟩
      · exact nx ha
      · exact nx hb
end My

set_option Elab.async false
set_option linter.all false
set_option maxRecDepth 100000
set_option pp.maxSteps 500
set_option maxHeartbeats 4000000
namespace My
open PySem PySem.Spec PyProof.Rows L2 GxR
open PySem.W (dataLt keyToks keyToksAll lex_atom lex_one lex_pre minD alike alikeAll AlikeAll min_list_data)
abbrev TN := (Int × Int) × Nat
/-- the ties of neighbours that stand otherwise, with their places, of the first so many pairs -/
def wrgN (g : Int → Int) (xs : List Int) : Nat → List TN
  | 0 => []
  | j + 1 => wrgN g xs j ++ (match xs[j]?, xs[j + 1]? with | some a, some b => if g b < g a then [(tieO a b, j)] else [] | _, _ => [])
theorem wrgN_step {g : Int → Int} {xs : List Int} {j : Nat} {a b : Int} (h1 : xs[j]? = some a) (h2 : xs[j + 1]? = some b) : wrgN g xs (j + 1) = wrgN g xs j ++ (if g b < g a then [(tieO a b, j)] else []) := by
  show wrgN g xs j ++ (match xs[j]?, xs[j + 1]? with | some a, some b => if g b < g a then [(tieO a b, j)] else [] | _, _ => []) = _
  rw [h1, h2]
theorem wrgN_mem {g : Int → Int} {xs : List Int} : ∀ {n : Nat} {q : TN}, q ∈ wrgN g xs n ↔ ∃ j a b, j < n ∧ xs[j]? = some a ∧ xs[j + 1]? = some b ∧ g b < g a ∧ q = (tieO a b, j)
  | 0, q => ⟨fun h => absurd h List.not_mem_nil, fun ⟨j, a, b, h, _⟩ => absurd h (Nat.not_lt_zero j)⟩
  | n + 1, q => by
    have ih := wrgN_mem (g := g) (xs := xs) (n := n) (q := q)
    show q ∈ wrgN g xs n ++ _ ↔ _
    rw [List.mem_append, ih]
    constructor
    · rintro (⟨j, a, b, h, r⟩ | h)
      · exact ⟨j, a, b, by omega, r⟩
      · split at h
        · rename_i a b ha hb
          split at h
          · rename_i hg
            exact ⟨n, a, b, by omega, ha, hb, hg, List.mem_singleton.mp h⟩
          · exact absurd h List.not_mem_nil
        · exact absurd h List.not_mem_nil
    · rintro ⟨j, a, b, h, h1, h2, hg, e⟩
      by_cases z : j < n
      · exact .inl ⟨j, a, b, z, h1, h2, hg, e⟩
      · have zj : j = n := by omega
        subst zj
        refine .inr ?_
        rw [h1, h2]
        show q ∈ (if g b < g a then [(tieO a b, j)] else [])
        rw [if_pos hg, e]
        exact List.mem_cons_self
theorem split2 {xs : List Int} {j : Nat} {a b : Int} (h1 : xs[j]? = some a) (h2 : xs[j + 1]? = some b) : xs = xs.take j ++ a :: b :: xs.drop (j + 2) := by
  obtain ⟨l1, e1⟩ := List.getElem?_eq_some_iff.mp h1
  obtain ⟨l2, e2⟩ := List.getElem?_eq_some_iff.mp h2
  have d1 : xs.drop j = a :: xs.drop (j + 1) := by rw [← e1]; exact List.drop_eq_getElem_cons l1
  have d2 : xs.drop (j + 1) = b :: xs.drop (j + 2) := by rw [← e2]; exact List.drop_eq_getElem_cons l2
  rw [← d2, ← d1, List.take_append_drop]
theorem wrgN_all {g : Int → Int} {xs : List Int} {t : Int × Int} (h : t ∈ wrgG g xs) : ∃ j, (t, j) ∈ wrgN g xs (xs.length - 1) := by
  obtain ⟨p, a, b, s, e, hg, ht⟩ := wrgG_mem h
  have l : xs.length = p.length + (s.length + 2) := by rw [e, List.length_append]; rfl
  refine ⟨p.length, wrgN_mem.mpr ⟨p.length, a, b, by omega, ?_, ?_, hg, by rw [ht]⟩⟩
  · rw [e, List.getElem?_append_right (Nat.le_refl _), Nat.sub_self]; rfl
  · rw [e, List.getElem?_append_right (Nat.le_succ _), show p.length + 1 - p.length = 1 by omega]; rfl
theorem wrgN_nil {g : Int → Int} {xs : List Int} (h : wrgN g xs (xs.length - 1) = []) : wrgG g xs = [] :=
  List.eq_nil_iff_forall_not_mem.mpr fun t ht => by
    obtain ⟨j, hj⟩ := wrgN_all ht
    rw [h] at hj
    exact absurd hj List.not_mem_nil
/-- a tie tells the place -/
theorem wrgN_inj {g : Int → Int} {xs : List Int} (nd : xs.Nodup) {n : Nat} {q r : TN} (hq : q ∈ wrgN g xs n) (hr : r ∈ wrgN g xs n) (e : q.1 = r.1) : q = r := by
  obtain ⟨j, a, b, _, h1, h2, hg, rfl⟩ := wrgN_mem.mp hq
  obtain ⟨j', a', b', _, h1', h2', hg', rfl⟩ := wrgN_mem.mp hr
  rcases tieO_twoX e with ⟨rfl, rfl⟩ | ⟨rfl, rfl⟩
  · have : j = j' := (List.getElem?_inj (List.getElem?_eq_some_iff.mp h1).1 nd).mp (by rw [h1, h1'])
    rw [this]
  · omega
/-- in the list: a tuple of a tie and a place -/
def TnAt (H : Hp) (v : V) (q : TN) : Prop := ∃ r t, v = .ref r ∧ H r = some (.tup [t, .int (q.2 : Int)]) ∧ Tie H t q.1
theorem TnAt.mono {H H' : Hp} {v : V} {q : TN} (h : TnAt H v q) (s : Tst H H') : TnAt H' v q := by
  obtain ⟨r, t, a, b, c⟩ := h
  exact ⟨r, t, a, s _ _ b, c.mono s⟩
def dTN (q : TN) : PyData := .tuple [dT q.1, .int (q.2 : Int)]
theorem TnAt.dp {K : PySem.W.Frag} {H : Hp} {v : V} {q : TN} (h : TnAt H v q) : Dp K H v (dTN q) := by
  obtain ⟨r, t, rfl, b, p, rfl, c⟩ := h
  exact .tup (SqT.of b) (.cons (.tup (SqT.of c) (.cons (.int _) (.cons (.int _) .nil))) (.cons (.int _) .nil))
theorem tn_dpAll {K : PySem.W.Frag} {H : Hp} : ∀ {us : List V} {qs : List TN}, All2 (TnAt H) us qs → DpAll K H us (qs.map dTN)
  | [], [], _ => .nil
  | _ :: _, _ :: _, h => .cons h.1.dp (tn_dpAll h.2)
  | [], _ :: _, h => h.elim
  | _ :: _, [], h => h.elim
theorem dlt_tn {q r : TN} (h : ltT q.1 r.1) : dataLt (dTN q) (dTN r) = true ∧ dataLt (dTN r) (dTN q) = false :=
  ⟨lex_dT _ _ _ _ h, lex_dT' _ _ _ _ h⟩
theorem dlt_irrN (q : TN) : dataLt (dTN q) (dTN q) = false := lex_irrefl _
theorem ltT_three {s t : Int × Int} (h : s ≠ t) : ltT s t ∨ ltT t s := by
  unfold ltT
  have : s.1 ≠ t.1 ∨ s.2 ≠ t.2 := by
    by_cases z : s.1 = t.1
    · exact .inr fun z2 => h (Prod.ext z z2)
    · exact .inl z
  omega
theorem least_tn : ∀ {l : List TN}, l ≠ [] → ∃ m ∈ l, ∀ q ∈ l, ¬ ltT q.1 m.1
  | [], h => absurd rfl h
  | [x], _ => ⟨x, List.mem_cons_self, fun q m => by rw [List.mem_singleton.mp m]; exact ltT_irr⟩
  | x :: y :: l, _ => by
    obtain ⟨m, hm, hl⟩ := least_tn (l := y :: l) (List.cons_ne_nil _ _)
    by_cases z : ltT x.1 m.1
    · refine ⟨x, List.mem_cons_self, fun q hq => ?_⟩
      rcases List.mem_cons.mp hq with rfl | hq
      · exact ltT_irr
      · intro w
        have := hl q hq
        unfold ltT at *
        omega
    · refine ⟨m, List.mem_cons_of_mem _ hm, fun q hq => ?_⟩
      rcases List.mem_cons.mp hq with rfl | hq
      · exact z
      · exact hl q hq
theorem dTN_inj {q r : TN} (h : dTN q = dTN r) : q = r := by
  unfold dTN dT at h
  injection h with h
  injection h with h1 h2
  injection h1 with h1
  injection h1 with a1 a2
  injection h2 with h2 _
  injection h2 with h2
  injection a1 with a1
  injection a2 with a2 _
  injection a2 with a2
  exact Prod.ext (Prod.ext a1 a2) (Int.ofNat.inj h2)
theorem alike_tn (q r : TN) : alike (dTN q) (dTN r) = true := by
  rfl
theorem cut_tailX (us : List V) : cutV us (some 1) none = us.drop 1 := by
  unfold cutV
  rw [show ((1 : Int)) = ((1 : Nat) : Int) from rfl, HT.sIx_nat, HT.sIx_none]
  by_cases h : 1 ≤ us.length
  · rw [Nat.min_eq_left h, List.take_of_length_le (by rw [List.length_drop]; exact Nat.le_refl _)]
  · rw [Nat.min_eq_right (by omega), List.drop_length, List.take_nil, List.drop_eq_nil_of_le (by omega)]
theorem ints_at {ns : List Int} {j : Nat} {x : V} (h : (ns.map V.int)[j]? = some x) : ∃ a, ns[j]? = some a ∧ x = .int a := by
  rw [List.getElem?_map] at h
  obtain ⟨a, e, rfl⟩ := Option.map_eq_some_iff.mp h
  exact ⟨a, e, rfl⟩
theorem dep_tn : ∀ qs : List TN, PyData.depthAll (qs.map dTN) ≤ 4
  | [] => Nat.zero_le _
  | q :: qs => by
    rw [List.map_cons, PyData.depthAll]
    refine Nat.max_le.mpr ⟨?_, dep_tn qs⟩
    show PyData.depthAll [dT q.1, .int (q.2 : Int)] + 1 ≤ 4
    rw [PyData.depthAll, PyData.depthAll, PyData.depthAll]
    have := dep_ties [q.1]
    rw [List.map_cons, List.map_nil, PyData.depthAll] at this
    show max (PyData.depth (dT q.1)) (max 0 0) + 1 ≤ 4
    omega
theorem invG_lenX {g : Int → Int} : ∀ xs : List Int, (invG g xs).length ≤ xs.length * xs.length
  | [] => Nat.zero_le _
  | x :: xs => by
    have ih := invG_lenX (g := g) xs
    have h1 := List.length_filter_le (fun y => decide (g y < g x)) xs
    show ((xs.filter fun y => decide (g y < g x)).map (tieO x) ++ invG g xs).length ≤ _
    rw [List.length_append, List.length_map, List.length_cons, Nat.succ_mul, Nat.mul_succ]
    omega
theorem set2 {xs : List Int} {j : Nat} {a b c d : Int} (h1 : xs[j]? = some a) (h2 : xs[j + 1]? = some b) : (xs.set j c).set (j + 1) d = xs.take j ++ c :: d :: xs.drop (j + 2) := by
  have l1 := (List.getElem?_eq_some_iff.mp h1).1
  have l2 := (List.getElem?_eq_some_iff.mp h2).1
  refine List.ext_getElem? fun i => ?_
  by_cases e1 : i = j + 1
  · subst e1
    rw [List.getElem?_set_self (by rw [List.length_set]; exact l2), List.getElem?_append_right (by rw [List.length_take]; omega), List.length_take, Nat.min_eq_left (by omega), show j + 1 - j = 1 by omega]
    rfl
  · rw [List.getElem?_set_ne (fun z => e1 z.symm)]
    by_cases e2 : i = j
    · subst e2
      rw [List.getElem?_set_self l1, List.getElem?_append_right (by rw [List.length_take]; omega), List.length_take, Nat.min_eq_left (by omega), Nat.sub_self]
      rfl
    · rw [List.getElem?_set_ne (fun z => e2 z.symm)]
      by_cases e3 : i < j
      · rw [List.getElem?_append_left (by rw [List.length_take]; omega), List.getElem?_take_of_lt e3]
      · rw [List.getElem?_append_right (by rw [List.length_take]; omega), List.length_take, Nat.min_eq_left (by omega)]
        obtain ⟨k, rfl⟩ : ∃ k, i = j + 2 + k := ⟨i - (j + 2), by omega⟩
        rw [show j + 2 + k - j = k + 2 by omega]
        show _ = (xs.drop (j + 2))[k]?
        rw [List.getElem?_drop]
section
variable {P : Program} {w : World} {K : PySem.W.Frag} {mg : Str → Option Value} {base : Heap}
/-! ### wrong_neighbours -/
abbrev s_wrong_neighbours : Stmt := topS 7
abbrev N_wrong_neighbours : List Str := ["row", "goal", "pairs", "at", "a", "b"]
theorem sc_wrong_neighbours : FnScope N_wrong_neighbours ["row", "goal"] (defScope s_wrong_neighbours) := ⟨rfl, rfl, rfl, by decide +kernel, rfl, by decide +kernel, by decide +kernel⟩
def sp_wrong : Sp := fun vs H Q _ => ∃ (R D : Addr) (ns : List Int) (kvs : List (Key × V)) (g : Int → Int), vs = [.ref R, .ref D] ∧ H R = some (.lst (ns.map V.int)) ∧ H D = some (.dK kvs) ∧ (∀ x ∈ ns, valV kvs (Sum.inl x) = some (.int (g x))) ∧ ns.length ≤ 1000 ∧
  ∀ p us H', H p = none → Same H H' → H' p = some (.lst us) → All2 (TnAt H') us (wrgN g ns (ns.length - 1)) → Q (.ref p) H'
theorem ok_wrong {f : Addr} {fd : FuncData} (B : Bts mg) (F : Fun K "wrong_neighbours" "wrong_neighbours" s_wrong_neighbours f fd) (c_tie_of : Cl P w K mg base 1 "tie_of" sp_tie_of) : FnOk P w K mg base CX0 2 f fd ["row", "goal"] sp_wrong := by
  refine F.ok sc_wrong_neighbours (fun vs H Q E h => ?_) (fun cdv A outer s H vs Q E hr h => ?_)
  · obtain ⟨R, D, ns, kvs, g, rfl, _⟩ := h; rfl
  · obtain ⟨R, D, ns, kvs, g, rfl, eR, eD, hg, nl, q⟩ := h
    refine ⟨_, (pss_cons (ps_set (i := 2) sc_wrong_neighbours.nd rfl (by first | exact Or.inl rfl | exact Or.inr rfl) (pe_lstZip rfl (by rfl) B.list (by rfl) B.zip (pa_cons (pv 0) (pa_cons (pe_slice sl_list (pv 0) (po_some pe_int) po_none) pa_nil))))
    (pss_one (ps_ret (pe_lc (own := [("at", 3), ("a", 4), ("b", 5)]) (g := (gTup K 2 (gCons (gName 3) (gCons (gTup K 2 (gCons (gName 4) (gCons (gName 5) gNil))) gNil)))) rfl sc_wrong_neighbours.nd (pi_enum (by rfl) B.enumerate (pa_cons (pv 2) pa_nil)) (blkOk_by (own := [("at", 3), ("a", 4), ("b", 5)]) (N := N_wrong_neighbours) (sc := defScope s_wrong_neighbours) (by decide +kernel)) (fun _ _ _ _ _ => (pg_tup rfl (pgs_cons (pg_name (i := 3) sc_wrong_neighbours.nd rfl (by first | exact Or.inl rfl | exact Or.inr rfl)) (pgs_cons (pg_tup rfl (pgs_cons (pg_name (i := 4) sc_wrong_neighbours.nd rfl (by first | exact Or.inl rfl | exact Or.inr rfl)) (pgs_cons (pg_name (i := 5) sc_wrong_neighbours.nd rfl (by first | exact Or.inl rfl | exact Or.inr rfl)) pgs_nil))) pgs_nil)))) (fun _ _ _ _ _ => (pts_one (pt_cmpR op_lt (pe_dget (hu_of hr) (pv 1) (pv 5) (fun _ _ => rfl)) (pe_dget (hu_of hr) (pv 1) (pv 4) (fun _ _ => rfl)) (nomark _)))) (fun _ _ _ _ _ => (pe_tup (pa_cons (pe_c c_tie_of hr (by decide) (by rfl) (pa_cons (pv 4) (pa_cons (pv 5) pa_nil))) (pa_cons (pv 3) pa_nil)))))))), ?_⟩
    refine ⟨_, rfl, _, rfl, 1, rfl, R, _, rfl, SqL.of eR, fun p1 np1 => ?_⟩
    rw [cut_tailX]
    have s1 := same_new (o := .lst ((ns.map V.int).drop 1)) np1
    refine ⟨R, p1, _, _, rfl, SqL.of (s1 _ _ eR), SqL.of upd_same, fun pz ps H2 npz s2 epz pl hP => ?_⟩
    have s02 := s1.trans s2
    have eD2 := s02 _ _ eD
    have pl' : ps.length = ns.length - 1 := by
      rw [pl, List.length_drop, List.length_map]
      omega
    refine ⟨_, rfl, pz, _, rfl, SqL.of epz, fun T nT => ?_⟩
    refine lc_it (walk_enum (K := K) (a := pz) (xs := ps)) (fun j H3 => ∃ us, Same H2 H3 ∧ H3 T = some (.lst us) ∧ All2 (TnAt H3) us (wrgN g ns j) ∧ us.length ≤ j) ⟨[], same_new nT, upd_same, trivial, Nat.le_refl _⟩ ?_ ?_ ?_
    · rintro j H3 _ ⟨_, s3, _⟩
      exact SqL.of (s3 _ _ epz)
    · rintro j x H3 H3' hj ⟨us, s3, eT, al, ul⟩ ⟨T2, z1, z2, rfl, nT2, rfl, ez1, ez2⟩
      dsimp only at ez1 ez2
      cases ez1
      obtain ⟨pp, x0, y0, rfl, epp, ex0, ey0⟩ := hP j z2 ez2
      obtain ⟨av, ea, rfl⟩ := ints_at ex0
      rw [List.getElem?_drop] at ey0
      obtain ⟨bv, eb, rfl⟩ := ints_at ey0
      rw [Nat.add_comm] at eb
      have sT2 := same_new (o := .tup [.int (j : Int), .ref pp]) nT2
      have s4 := s3.trans sT2
      refine ⟨T2, _, rfl, SqT.of upd_same, rfl, _, _, rfl, _, _, rfl, pp, _, rfl, SqT.of (s4 _ _ epp), rfl, _, _, rfl, _, _, rfl, rfl, rfl, rfl, ?_⟩
      have eD4 := (s02.trans s4) _ _ eD
      have ga : DGet (upd H3 T2 (.tup [.int (j : Int), .ref pp])) D (.int av) (some (.int (g av))) := by rw [← hg av (List.mem_of_getElem? ea)]; exact DGet.k (k := Sum.inl av) eD4
      have gb : DGet (upd H3 T2 (.tup [.int (j : Int), .ref pp])) D (.int bv) (some (.int (g bv))) := by rw [← hg bv (List.mem_of_getElem? eb)]; exact DGet.k (k := Sum.inl bv) eD4
      have eT4 := sT2 _ _ eT
      have al4 := al.imp fun _ _ h => TnAt.mono h (Same.tst sT2)
      have st := wrgN_step (g := g) ea eb
      refine ⟨_, rfl, _, rfl, D, .int (g bv), rfl, gb, _, rfl, _, rfl, D, .int (g av), rfl, ga, _, _, rfl, rfl, _, rfl, ?_⟩
      by_cases hlt : g bv < g av
      · rw [decide_eq_true hlt]
        rw [if_pos hlt] at st
        refine iteT ⟨_, rfl, _, rfl, av, bv, rfl, fun tp ntp => ⟨_, rfl, by show 2 ≤ sizeLine; decide, fun q1 nq1 => ?_⟩⟩
        have s5 := same_new (o := .tup [.int (tieO av bv).1, .int (tieO av bv).2]) ntp
        have s6 := same_new (o := .tup [.ref tp, .int (j : Int)]) nq1
        have s56 := s5.trans s6
        have eT6 := s56 _ _ eT4
        have tT := tst_put (o := .lst (us ++ [.ref q1])) eT6
        refine ⟨us, eT6, sz' (by omega), us ++ [.ref q1], Same.put (s4.trans s56) nT, upd_same, ?_, by rw [List.length_append]; show us.length + 1 ≤ _; omega⟩
        rw [st]
        exact All2.app (al4.imp fun _ _ h => (TnAt.mono h (Same.tst s56)).mono tT) ⟨⟨q1, .ref tp, rfl, tT _ _ upd_same, tp, rfl, tT _ _ (s6 _ _ upd_same)⟩, trivial⟩
      · rw [decide_eq_false hlt]
        rw [if_neg hlt, List.append_nil] at st
        exact iteF ⟨us, s4, eT4, by rw [st]; exact al4, by omega⟩
    · rintro H3 ⟨us, s3, eT, al, ul⟩
      rw [pl'] at al
      exact q T us H3 (same_free s02 nT) (s02.trans s3) eT al
/-! ### crossings -/
abbrev s_crossings : Stmt := topS 6
abbrev N_crossings : List Str := ["one", "other", "goal", "row", "told", "wrong", "tie", "at"]
theorem sc_crossings : FnScope N_crossings ["one", "other"] (defScope s_crossings) := ⟨rfl, rfl, rfl, by decide +kernel, rfl, by decide +kernel, by decide +kernel⟩
def sp_crs : Sp := fun vs H Q _ => ∃ (R1 R2 : Addr) (one other : List Int), vs = [.ref R1, .ref R2] ∧ H R1 = some (.lst (one.map V.int)) ∧ H R2 = some (.lst (other.map V.int)) ∧ one.Perm other ∧ one.Nodup ∧ one.length ≤ 12 ∧
  ∀ p us L H', H p = none → Same H H' → H' p = some (.lst us) → Ties H' us L → CrsG (fun x => (other.idxOf x : Int)) one L → Q (.ref p) H'
theorem ok_crs {f : Addr} {fd : FuncData} (B : Bts mg) (F : Fun K "crossings" "crossings" s_crossings f fd) (c_stands_in : Cl P w K mg base 1 "stands_in" sp_stands) (c_wrong_neighbours : Cl P w K mg base 2 "wrong_neighbours" sp_wrong) : FnOk P w K mg base CX0 3 f fd ["one", "other"] sp_crs := by
  refine F.ok sc_crossings (fun vs H Q E h => ?_) (fun cdv A outer s H vs Q E hr h => ?_)
  · obtain ⟨R1, R2, one, other, rfl, _⟩ := h; rfl
  · obtain ⟨R1, R2, one, other, rfl, e1, e2, pm, nd, ol, q⟩ := h
    refine ⟨_, (pss_cons (ps_set (i := 2) sc_crossings.nd rfl (by first | exact Or.inl rfl | exact Or.inr rfl) (pe_c c_stands_in hr (by decide) (by rfl) (pa_cons (pv 1) pa_nil)))
    (pss_cons (ps_set (i := 3) sc_crossings.nd rfl (by first | exact Or.inl rfl | exact Or.inr rfl) (pe_callTy call_list_of (by rfl) B.list (by decide +kernel) (pa_cons (pv 0) pa_nil)))
    (pss_cons (ps_set (i := 4) sc_crossings.nd rfl (by first | exact Or.inl rfl | exact Or.inr rfl) (pe_lst pa_nil))
    (pss_cons (ps_set (i := 5) sc_crossings.nd rfl (by first | exact Or.inl rfl | exact Or.inr rfl) (pe_c c_wrong_neighbours hr (by decide) (by rfl) (pa_cons (pv 3) (pa_cons (pv 2) pa_nil))))
    (pss_cons (ps_while PassesOwn.never (pt_truth (pv 5) (by intro _; rfl))
      (pss_cons (ps_asg (pe_callB (cr_minD rfl (u65 hr)) (by rfl) B.min (by decide +kernel) (pa_cons (pv 5) pa_nil)) (pg_tup rfl (pgs_cons (pg_name (i := 6) sc_crossings.nd rfl (by first | exact Or.inl rfl | exact Or.inr rfl)) (pgs_cons (pg_name (i := 7) sc_crossings.nd rfl (by first | exact Or.inl rfl | exact Or.inr rfl)) pgs_nil))))
      (pss_cons (ps_expr (pe_bm PySem.F.plainAttrs_list PySem.F.slot_list_append PySem.F.type_list_append mt_append (pv 4) (pa_cons (pv 6) pa_nil)))
      (pss_cons (ps_asg (pe_tup (pa_cons (pe_ix ix_list (pv 3) (pe_op op_add (pv 7) pe_int) (fun _ _ => rfl)) (pa_cons (pe_ix ix_list (pv 3) (pv 7) (fun _ _ => rfl)) pa_nil))) (pg_tup rfl (pgs_cons (pg_sub (pv 3) (pv 7) set_list) (pgs_cons (pg_sub (pv 3) (pe_op op_add (pv 7) pe_int) set_list) pgs_nil))))
      (pss_one (ps_set (i := 5) sc_crossings.nd rfl (by first | exact Or.inl rfl | exact Or.inr rfl) (pe_c c_wrong_neighbours hr (by decide) (by rfl) (pa_cons (pv 3) (pa_cons (pv 2) pa_nil)))))))))
    (pss_one (ps_ret (pv 4)))))))), ?_⟩
    have nd2 : other.Nodup := pm.nodup_iff.mp nd
    have ol2 : other.length ≤ 12 := by rw [← pm.length_eq]; exact ol
    let g : Int → Int := fun x => (other.idxOf x : Int)
    refine ⟨_, rfl, R2, other, rfl, e2, nd2, by omega, fun D kvs H1 nD s1 eD hD => ?_⟩
    refine ⟨_, rfl, R1, _, rfl, .inl (SqL.of (s1 _ _ e1)), fun Rw nRw => ?_⟩
    have s2 := same_new (o := .lst (one.map V.int)) nRw
    have eRw := upd_same (H := H1) (a := Rw) (o := .lst (one.map V.int))
    have eD2 := s2 _ _ eD
    have s02 := s1.trans s2
    generalize upd H1 Rw (.lst (one.map V.int)) = H2 at s2 eRw eD2 s02 ⊢
    refine ⟨Nat.zero_le _, fun Tl nTl => ?_⟩
    have s3 := same_new (o := .lst []) nTl
    have eT3 := upd_same (H := H2) (a := Tl) (o := .lst [])
    have eRw3 := s3 _ _ eRw
    have eD3 := s3 _ _ eD2
    have nTl0 : H Tl = none := same_free s02 nTl
    have nRw0 : H Rw = none := same_free s1 nRw
    have s03 := s02.trans s3
    have RwT : Rw ≠ Tl := ne_of_none eRw nTl
    generalize upd H2 Tl (.lst []) = H3 at s3 eT3 eRw3 eD3 s03 ⊢
    have gD : ∀ cur : List Int, cur.Perm one → ∀ x ∈ cur, valV kvs (Sum.inl x) = some (.int (g x)) := fun cur pc x hx => hD x (pm.mem_iff.mp (pc.mem_iff.mp hx))
    refine ⟨_, rfl, _, rfl, Rw, D, one, kvs, g, rfl, eRw3, eD3, gD one (.refl _), by omega, fun pW wu H4 npW s4 epW hal => ?_⟩
    let W : Nat → L2.St → Hp → Prop := fun m σ HX => ∃ cur L us pW wu y6 y7, σ = [some (.ref R1), some (.ref R2), some (.ref D), some (.ref Rw), some (.ref Tl), some (.ref pW), y6, y7] ∧ Same H HX ∧ HX Rw = some (.lst ((cur : List Int).map V.int)) ∧ HX Tl = some (.lst us) ∧ Ties HX us L ∧ HX D = some (.dK kvs) ∧ CrsTo g one cur L ∧ HX pW = some (.lst wu) ∧ All2 (TnAt HX) wu (wrgN g cur (cur.length - 1)) ∧ (invG g cur).length = m ∧ L.length + m ≤ 144
    refine ⟨W, ⟨(invG g one).length, one, [], [], pW, wu, none, none, rfl, s03.trans s4, s4 _ _ eRw3, s4 _ _ eT3, trivial, s4 _ _ eD3, .refl, epW, hal, rfl, ?_⟩, ?_⟩
    · have h1 := invG_lenX (g := g) one
      have h2 : one.length * one.length ≤ 144 := Nat.mul_le_mul ol ol
      show 0 + (invG g one).length ≤ 144
      omega
    rintro m σ HX ⟨cur, L, us, pW, wu, y6, y7, rfl, SX, eR, eT, hT, eDX, hC, eW, hW, hm, hl⟩
    refine ⟨_, rfl, _, .inl ⟨wu, SqL.of eW, rfl⟩, ?_⟩
    have pc := hC.perm
    have ndc := pc.nodup_iff.mpr nd
    have lc := pc.length_eq
    by_cases z : wrgN g cur (cur.length - 1) = []
    · have wz : wu = [] := List.length_eq_zero_iff.mp (by rw [hW.len, z]; rfl)
      rw [wz]
      refine iteF ⟨_, rfl, q Tl us L HX nTl0 SX eT hT ?_⟩
      have := hC.to (.nil (wrgN_nil z))
      rwa [List.append_nil] at this
    · have wz : wu.isEmpty = false := by
        cases wu with
        | nil =>
          have := hW.len
          exact absurd (List.length_eq_zero_iff.mp this.symm) z
        | cons _ _ => rfl
      rw [wz]
      obtain ⟨mn, hmn, hle⟩ := least_tn z
      obtain ⟨j, av, bv, hj, h1, h2, hgl, emn⟩ := wrgN_mem.mp hmn
      have es := split2 h1 h2
      have pI := invG_swap (g := g) (p := cur.take j) (s := cur.drop (j + 2)) hgl
      rw [← es] at pI
      have pl := pI.length_eq
      rw [List.length_cons] at pl
      refine iteT ⟨W (m - 1), fun σ' H' hh => ⟨m - 1, by omega, hh⟩, ?_⟩
      obtain ⟨d0, ds, edd⟩ : ∃ d0 ds, (wrgN g cur (cur.length - 1)).map dTN = d0 :: ds := by
        cases e : (wrgN g cur (cur.length - 1)).map dTN with
        | nil => exact absurd (List.map_eq_nil_iff.mp e) z
        | cons d ds => exact ⟨d, ds, rfl⟩
      have mem_of : ∀ q ∈ d0 :: ds, ∃ r ∈ wrgN g cur (cur.length - 1), q = dTN r := fun q hq => by
        rw [← edd] at hq
        obtain ⟨r, hr, e⟩ := List.mem_map.mp hq
        exact ⟨r, hr, e.symm⟩
      have emin : minD d0 ds = dTN mn := minD_one (by rw [← edd]; exact List.mem_map.mpr ⟨mn, hmn, rfl⟩) (fun q hq ne => by
        obtain ⟨r, hr, rfl⟩ := mem_of q hq
        have rn : mn.1 ≠ r.1 := fun w => ne (by rw [wrgN_inj ndc hmn hr w])
        rcases ltT_three rn with w | w
        · exact dlt_tn w
        · exact absurd w (hle r hr)) (dlt_irrN mn)
      refine ⟨_, rfl, pW, wu, d0, ds, rfl, SqL.of eW, by rw [← edd]; exact tn_dpAll hW, ⟨fun x hx y hy => ?_, fun x hx => ?_⟩, ?_, fun x i ex ei => ?_⟩
      · obtain ⟨r, _, rfl⟩ := mem_of x hx
        obtain ⟨r', _, rfl⟩ := mem_of y hy
        exact alike_tn r r'
      · obtain ⟨r, _, rfl⟩ := mem_of x hx
        exact fun w => by cases w
      · rw [← edd]; exact Nat.le_trans (dep_tn _) (by decide)
      obtain ⟨r, er, hx⟩ := hW.at ex
      rw [← edd, List.getElem?_map, er, emin] at ei
      obtain rfl := dTN_inj (Option.some.inj ei)
      subst emn
      obtain ⟨rr, tv, rfl, err, htv⟩ := hx
      refine ⟨rr, _, rfl, SqT.of err, rfl, _, _, rfl, _, _, rfl, rfl, ?_⟩
      have ulen := hT.len
      refine ⟨_, rfl, .inl ⟨rfl, _, SqL.of eT⟩, _, rfl, Tl, _, _, rfl, rfl, eT, sz' (by omega), ?_⟩
      have tT := tst_put (o := .lst (us ++ [tv])) eT
      have eRT : (upd HX Tl (.lst (us ++ [tv]))) Rw = some (.lst (cur.map V.int)) := by rw [upd_ne RwT]; exact eR
      have SXT : Same H (upd HX Tl (.lst (us ++ [tv]))) := Same.put SX nTl0
      have eTT := upd_same (H := HX) (a := Tl) (o := .lst (us ++ [tv]))
      have hTT := Ties.app (hT.mono tT) (us := [tv]) (rs := [tieO av bv]) ⟨htv.mono tT, trivial⟩
      have DT : D ≠ Tl := fun w => by rw [w, eT] at eDX; cases eDX
      have eDT : (upd HX Tl (.lst (us ++ [tv]))) D = some (.dK kvs) := by rw [upd_ne DT]; exact eDX
      generalize upd HX Tl (.lst (us ++ [tv])) = HT at tT eRT SXT eTT hTT eDT ⊢
      have l1 := (List.getElem?_eq_some_iff.mp h1).1
      have l2 := (List.getElem?_eq_some_iff.mp h2).1
      have g1 : (cur.map V.int)[j]? = some (.int av) := by rw [List.getElem?_map, h1]; rfl
      have g2 : (cur.map V.int)[j + 1]? = some (.int bv) := by rw [List.getElem?_map, h2]; rfl
      have g2' : atI (cur.map V.int) ((j : Int) + 1) = some (.int bv) := by
        have := atI_nat g2
        rwa [show ((j + 1 : Nat) : Int) = (j : Int) + 1 from by omega] at this
      refine ⟨_, rfl, _, rfl, _, _, rfl, rfl, Rw, _, _, _, rfl, rfl, SqL.of eRT, g2', ?_⟩
      refine ⟨_, rfl, _, rfl, Rw, _, _, _, rfl, rfl, SqL.of eRT, atI_nat g1, ?_⟩
      refine ⟨by show 2 ≤ sizeLine; decide, fun t nt => ?_⟩
      have st := same_new (o := .tup [.int bv, .int av]) nt
      have ix1 : ixN (cur.map V.int).length (j : Int) = some j := ixN_at (by rw [List.length_map]; omega)
      refine ⟨t, _, rfl, SqT.of upd_same, rfl, _, _, rfl, ?_⟩
      refine ⟨_, rfl, _, rfl, Rw, _, _, _, rfl, rfl, st _ _ eRT, ix1, ?_⟩
      have ix2 : ixN ((cur.map V.int).set j (.int bv)).length ((j : Int) + 1) = some (j + 1) := by
        have := ixN_at (n := ((cur.map V.int).set j (.int bv)).length) (j := j + 1) (by rw [List.length_set, List.length_map]; omega)
        rwa [show ((j + 1 : Nat) : Int) = (j : Int) + 1 from by omega] at this
      refine ⟨_, _, rfl, _, rfl, _, rfl, _, _, rfl, rfl, Rw, _, _, _, rfl, rfl, upd_same, ix2, rfl, ?_⟩
      have eR2 := upd_same (H := upd (upd HT t (.tup [.int bv, .int av])) Rw (.lst ((cur.map V.int).set j (.int bv)))) (a := Rw) (o := .lst (((cur.map V.int).set j (.int bv)).set (j + 1) (.int av)))
      have up : ∀ {q : Addr} {o : HO}, q ≠ Rw → HT q = some o → upd (upd (upd HT t (.tup [.int bv, .int av])) Rw (.lst ((cur.map V.int).set j (.int bv)))) Rw (.lst (((cur.map V.int).set j (.int bv)).set (j + 1) (.int av))) q = some o := fun {q o} n e => by
        rw [upd_ne n, upd_ne n]; exact st _ _ e
      have tR : Tst HT (upd (upd (upd HT t (.tup [.int bv, .int av])) Rw (.lst ((cur.map V.int).set j (.int bv)))) Rw (.lst (((cur.map V.int).set j (.int bv)).set (j + 1) (.int av)))) := fun q vs e => up (fun z => by rw [z, eRT] at e; cases e) e
      have SR : Same H (upd (upd (upd HT t (.tup [.int bv, .int av])) Rw (.lst ((cur.map V.int).set j (.int bv)))) Rw (.lst (((cur.map V.int).set j (.int bv)).set (j + 1) (.int av)))) := Same.put (Same.put (SXT.trans st) nRw0) nRw0
      have DR : D ≠ Rw := fun w => by rw [w, eRT] at eDT; cases eDT
      have eDR := up DR eDT
      have eTR := up (Ne.symm RwT) eTT
      have hTR := hTT.mono tR
      generalize upd (upd (upd HT t (.tup [.int bv, .int av])) Rw (.lst ((cur.map V.int).set j (.int bv)))) Rw (.lst (((cur.map V.int).set j (.int bv)).set (j + 1) (.int av))) = HR at eR2 SR eDR eTR hTR ⊢
      rw [map_set, map_set, set2 h1 h2] at eR2
      have hC2 : CrsTo g one (cur.take j ++ bv :: av :: cur.drop (j + 2)) (L ++ [tieO av bv]) := by
        refine .snoc (by rw [← es]; exact hC) hgl fun t ht => ?_
        rw [← es] at ht
        obtain ⟨i, hi⟩ := wrgN_all ht
        exact hle _ hi
      have pc2 := hC2.perm
      have lc2 := pc2.length_eq
      refine ⟨_, rfl, _, rfl, Rw, D, _, kvs, g, rfl, eR2, eDR, gD _ pc2, by omega, fun pW2 wu2 HS npW2 sS epW2 hal2 => ?_⟩
      exact ⟨_, _, _, pW2, wu2, _, _, rfl, SR.trans sS, sS _ _ eR2, sS _ _ eTR, hTR.mono (Same.tst sS), sS _ _ eDR, hC2, epW2, hal2, by omega, by rw [List.length_append]; show L.length + 1 + (m - 1) ≤ 144; omega⟩
end
end My

set_option Elab.async false
set_option linter.all false
set_option maxRecDepth 100000
set_option pp.maxSteps 500
set_option maxHeartbeats 4000000
namespace My
open PySem PySem.Spec PyProof.Rows L2 GxR
/-- a loop over zip of two lists, the second one as long or one shorter .. -/
theorem for_zipX {K : PySem.W.Frag} {a b : Addr} {xs ys : List V} {g : TG} {tb : TS} {D : Ends} {σ : L2.St} {H : Hp} (hl : ys.length ≤ xs.length) (Pv : Nat → L2.St → Hp → Prop) (h0 : Pv 0 σ H) (hq : ∀ i σ H, Pv i σ H → SqL K H a xs ∧ SqL K H b ys)
    (hs : ∀ (i : Nat) (x y : V) (T : Addr) (σ : L2.St) (H : Hp), xs[i]? = some x → ys[i]? = some y → Pv i σ H → H T = none → g (.ref T) σ (upd H T (.tup [x, y])) fun σ2 H2 => tb { D with nx := Pv (i + 1), ct := Pv (i + 1), bk := D.nx } σ2 H2) (hd : ∀ σ H, Pv ys.length σ H → D.nx σ H) :
    ∃ W : Nat → Nat → L2.St → Hp → Prop, (∃ m, W 0 m σ H) ∧ ∀ i m σ H, W i m σ H →
      ((Itz K a b).stop i H ∧ D.nx σ H) ∨ ((Itz K a b).go i H ∧ ∃ N : L2.St → Hp → Prop, (∀ σ' H', N σ' H' → ∃ m', m' < m ∧ W (i + 1) m' σ' H') ∧ ∀ v H', (Itz K a b).yld i H v H' → g v σ H' fun σ2 H2 => tb { D with nx := N, ct := N, bk := D.nx } σ2 H2) := by
  refine ⟨fun i m σ H => m = ys.length - i ∧ i ≤ ys.length ∧ Pv i σ H, ⟨ys.length, rfl, Nat.zero_le _, h0⟩, ?_⟩
  rintro i m σ H ⟨rfl, hi, p⟩
  obtain ⟨qx, qy⟩ := hq i σ H p
  by_cases hlt : i < ys.length
  · have hy : ys[i]? = some ys[i] := List.getElem?_eq_getElem hlt
    have hlt2 : i < xs.length := by omega
    have hx : xs[i]? = some xs[i] := List.getElem?_eq_getElem hlt2
    refine .inr ⟨⟨xs, ys, _, _, qx, qy, hx, hy⟩, Pv (i + 1), fun σ' H' p' => ⟨ys.length - (i + 1), by omega, rfl, hlt, p'⟩, fun v H' y => ?_⟩
    obtain ⟨T, x', y', rfl, hT, rfl, f1, f2⟩ := y
    exact hs i x' y' T σ H (f1 xs qx) (f2 ys qy) p hT
  · have e : i = ys.length := by omega
    subst e
    exact .inl ⟨⟨xs, ys, qx, qy, Or.inr (Nat.le_refl _)⟩, hd σ H p⟩
/-- neighbours exchanged along ties -/
inductive Exs : List Int → List (Int × Int) → List Int → Prop
  | nil {xs : List Int} : Exs xs [] xs
  | cons {p s ys : List Int} {a b : Int} {L : List (Int × Int)} : a ≠ b → Exs (p ++ b :: a :: s) L ys → Exs (p ++ a :: b :: s) (tieO a b :: L) ys
theorem Exs.snoc {xs ys : List Int} {L : List (Int × Int)} (h : Exs xs L ys) : ∀ {p s : List Int} {a b : Int}, ys = p ++ a :: b :: s → a ≠ b → Exs xs (L ++ [tieO a b]) (p ++ b :: a :: s) := by
  induction h with
  | nil => intro p s a b e ne; rw [e]; exact .cons ne .nil
  | cons ne0 _ ih => intro p s a b e ne; exact .cons ne0 (ih e ne)
theorem CrsTo.exs {g : Int → Int} {xs ys : List Int} {L : List (Int × Int)} (h : CrsTo g xs ys L) : Exs xs L ys := by
  induction h with
  | refl => exact .nil
  | snoc _ hg _ ih => exact ih.snoc rfl (fun e => by rw [e] at hg; exact Int.lt_irrefl _ hg)
theorem CrsG.exs {g : Int → Int} {xs : List Int} {L : List (Int × Int)} (h : CrsG g xs L) : ∃ ys, Exs xs L ys ∧ wrgG g ys = [] := by
  induction h with
  | @nil xs h => exact ⟨xs, .nil, h⟩
  | step hg _ _ ih =>
    obtain ⟨ys, h1, h2⟩ := ih
    exact ⟨ys, .cons (fun e => by rw [e] at hg; exact Int.lt_irrefl _ hg) h1, h2⟩
theorem Exs.perm {xs ys : List Int} {L : List (Int × Int)} (h : Exs xs L ys) : ys.Perm xs := by
  induction h with
  | nil => exact .refl _
  | @cons p s ys a b L _ _ ih => exact ih.trans ((List.Perm.swap a b s).append_left p)
theorem idxI {K : PySem.W.Frag} {H : Hp} {a : Addr} {ns : List Int} {b : Int} {Q : VK} (e : H a = some (.lst (ns.map V.int))) (hb : b ∈ ns) (q : Q (.int ((ns.idxOf b : Nat) : Int)) H) : rIndex K (.ref a) [.int b] H Q :=
  ⟨a, _, .int b, ns.idxOf b, .int b, rfl, rfl, SqL.of e, rfl, all_flat ns, idx_at hb, by show (b == b) = true; exact beq_self_eq_true b, idx_first, q⟩
theorem drop2 : ∀ {p s : List Int} {a b : Int}, (p ++ a :: b :: s).drop (p.length + 2) = s
  | [], _, _, _ => rfl
  | _ :: p, s, a, b => drop2 (p := p) (s := s) (a := a) (b := b)
/-- the tie's ends, where they stand, and what stands behind the exchange -/
theorem exch {p s : List Int} {a b : Int} (ne : a ≠ b) : ∃ u v iu iv, tieO a b = (u, v) ∧ u < v ∧ (p ++ a :: b :: s)[iu]? = some u ∧ (p ++ a :: b :: s)[iv]? = some v ∧ (iu = iv + 1 ∨ iv = iu + 1) ∧ ((p ++ a :: b :: s).set iu v).set iv u = p ++ b :: a :: s := by
  have i1 : (p ++ a :: b :: s)[p.length]? = some a := by rw [List.getElem?_append_right (Nat.le_refl _), Nat.sub_self]; rfl
  have i2 : (p ++ a :: b :: s)[p.length + 1]? = some b := by rw [List.getElem?_append_right (Nat.le_succ _), show p.length + 1 - p.length = 1 by omega]; rfl
  have e : ((p ++ a :: b :: s).set p.length b).set (p.length + 1) a = p ++ b :: a :: s := by
    rw [set2 i1 i2, List.take_left' rfl, drop2]
  by_cases h : a < b
  · exact ⟨a, b, _, _, if_pos h, h, i1, i2, .inr rfl, e⟩
  · refine ⟨b, a, _, _, if_neg h, by omega, i2, i1, .inl rfl, ?_⟩
    rw [List.set_comm _ _ (by omega)]
    exact e
section
variable {P : Program} {w : World} {K : PySem.W.Frag} {mg : Str → Option Value} {base : Heap}
/-! ### _law_walked -/
abbrev s__law_walked : Stmt := topS 14
abbrev N__law_walked : List Str := ["_law_one", "_law_ties", "_law_row_here", "_law_tie", "_law_a", "_law_b"]
theorem sc__law_walked : FnScope N__law_walked ["_law_one", "_law_ties"] (defScope s__law_walked) := ⟨rfl, rfl, rfl, by decide +kernel, rfl, by decide +kernel, by decide +kernel⟩
def sp_walked : Sp := fun vs H Q _ => ∃ (R T : Addr) (xs ys : List Int) (L : List (Int × Int)) (us : List V), vs = [.ref R, .ref T] ∧ H R = some (.lst (xs.map V.int)) ∧ H T = some (.lst us) ∧ Ties H us L ∧ Exs xs L ys ∧ xs.Nodup ∧ xs.length ≤ 1000 ∧
  ∀ p H', H p = none → Same H H' → H' p = some (.lst (ys.map V.int)) → Q (.ref p) H'
theorem ok_walked {f : Addr} {fd : FuncData} (B : Bts mg) (F : Fun K "_law_walked" "_law_walked" s__law_walked f fd) : FnOk P w K mg base CX0 1 f fd ["_law_one", "_law_ties"] sp_walked := by
  refine F.ok sc__law_walked (fun vs H Q E h => ?_) (fun cdv A outer s H vs Q E hr h => ?_)
  · obtain ⟨R, T, xs, ys, L, us, rfl, _⟩ := h; rfl
  · obtain ⟨R, T, xs, ys, L, us, rfl, eR, eT, hT, hE, nd, xl, q⟩ := h
    refine ⟨_, (pss_cons (ps_set (i := 2) sc__law_walked.nd rfl (by first | exact Or.inl rfl | exact Or.inr rfl) (pe_callTy call_list_of (by rfl) B.list (by decide +kernel) (pa_cons (pv 0) pa_nil)))
    (pss_cons (ps_for PassesOwn.never rfl (pi_list (pv 1)) (pg_name (i := 3) sc__law_walked.nd rfl (by first | exact Or.inl rfl | exact Or.inr rfl))
      (pss_cons (ps_par (i := 4) (j := 5) rfl sc__law_walked.nd rfl rfl (by decide) rfl rfl (pa_cons (pe_bm PySem.F.plainAttrs_list PySem.F.slot_list_index PySem.F.type_list_index mt_index (pv 2) (pa_cons (pe_ix ix_tup (pv 3) pe_int (fun _ _ => rfl)) pa_nil)) (pa_cons (pe_bm PySem.F.plainAttrs_list PySem.F.slot_list_index PySem.F.type_list_index mt_index (pv 2) (pa_cons (pe_ix ix_tup (pv 3) pe_int (fun _ _ => rfl)) pa_nil)) pa_nil)) (by rfl))
      (pss_cons (ps_if (PW.pt (pw_or (pt_cmpR op_ne (pe_callB call_abs (by rfl) B.abs (by decide +kernel) (pa_cons (pe_op op_sub (pv 4) (pv 5)) pa_nil)) pe_int (nomark _)) (pw_or1 (pt_cmpR op_ge (pe_ix ix_tup (pv 3) pe_int (fun _ _ => rfl)) (pe_ix ix_tup (pv 3) pe_int (fun _ _ => rfl)) (nomark _))))) (pss_one (ps_ret pe_non)) pss_nil)
      (pss_one (ps_asg (pe_tup (pa_cons (pe_ix ix_list (pv 2) (pv 5) (fun _ _ => rfl)) (pa_cons (pe_ix ix_list (pv 2) (pv 4) (fun _ _ => rfl)) pa_nil))) (pg_tup rfl (pgs_cons (pg_sub (pv 2) (pv 4) set_list) (pgs_cons (pg_sub (pv 2) (pv 5) set_list) pgs_nil))))))))
    (pss_one (ps_ret (pv 2))))), ?_⟩
    refine ⟨_, rfl, R, _, rfl, .inl (SqL.of eR), fun p np => ?_⟩
    have s1 := same_new (o := .lst (xs.map V.int)) np
    have ep := upd_same (H := H) (a := p) (o := .lst (xs.map V.int))
    have pT : p ≠ T := fun z => by rw [z, eT] at np; cases np
    generalize upd H p (.lst (xs.map V.int)) = H1 at s1 ep ⊢
    refine ⟨_, rfl, T, rfl, ⟨_, SqL.of (s1 _ _ eT)⟩, ?_⟩
    refine for_list (K := K) (a := T) (xs := us) (fun i σ HX => ∃ cur y3 y4 y5, σ = [some (.ref R), some (.ref T), some (.ref p), y3, y4, y5] ∧ Same H HX ∧ HX p = some (.lst ((cur : List Int).map V.int)) ∧ Exs cur (L.drop i) ys ∧ cur.Perm xs) ⟨xs, none, none, none, rfl, s1, ep, hE, .refl _⟩ ?_ ?_ ?_
    · rintro i σ HX _ ⟨_, _, _, _, _, sX, _⟩
      exact SqL.of (sX _ _ eT)
    · rintro i v σ HX hv ⟨cur, y3, y4, y5, rfl, sX, epX, hEx, pc⟩
      obtain ⟨t, et, ht⟩ := (hT.mono (Same.tst sX)).at hv
      obtain ⟨pt, rfl, ept⟩ := id ht
      obtain ⟨hi, eti⟩ := List.getElem?_eq_some_iff.mp et
      have hd : L.drop i = t :: L.drop (i + 1) := by rw [← eti]; exact List.drop_eq_getElem_cons hi
      rw [hd] at hEx
      have ndc := pc.nodup_iff.mpr nd
      have cl := pc.length_eq
      cases hEx with
      | @cons pp ss _ a b _ ne hE2 =>
      obtain ⟨u, v, iu, iv, etu, huv, gu, gv, hij, hset⟩ := exch (p := pp) (s := ss) ne
      have pnew : (pp ++ b :: a :: ss).Perm xs := ((List.Perm.swap a b ss).append_left pp).trans pc
      generalize pp ++ a :: b :: ss = cur at *
      rw [etu] at ept
      have xu := idx_of ndc gu
      have xv := idx_of ndc gv
      have lu := (List.getElem?_eq_some_iff.mp gu).1
      have lv := (List.getElem?_eq_some_iff.mp gv).1
      refine ⟨_, rfl, .inl ⟨rfl, _, SqL.of epX⟩, _, rfl, pt, _, _, _, rfl, rfl, SqT.of ept, rfl, p, _, .int u, cur.idxOf u, .int u, rfl, rfl, SqL.of epX, rfl, all_flat cur, idx_at (List.mem_of_getElem? gu), beq_self_eq_true u, idx_first, ?_⟩
      refine ⟨_, rfl, .inl ⟨rfl, _, SqL.of epX⟩, _, rfl, pt, _, _, _, rfl, rfl, SqT.of ept, rfl, p, _, .int v, cur.idxOf v, .int v, rfl, rfl, SqL.of epX, rfl, all_flat cur, idx_at (List.mem_of_getElem? gv), beq_self_eq_true v, idx_first, ?_⟩
      rw [xu, xv]
      refine ⟨_, _, rfl, _, rfl, _, rfl, _, _, rfl, rfl, _, rfl, ?_⟩
      have e1 : (V.int (if (iu : Int) - (iv : Int) < 0 then -((iu : Int) - (iv : Int)) else (iu : Int) - (iv : Int))) = V.int 1 := by
        congr 1
        split <;> omega
      refine ⟨rfl, _, rfl, ?_⟩
      rw [e1, decide_eq_true rfl]
      refine iteF ⟨_, rfl, pt, _, _, _, rfl, rfl, SqT.of ept, rfl, _, rfl, pt, _, _, _, rfl, rfl, SqT.of ept, rfl, _, _, rfl, rfl, _, rfl, ?_⟩
      rw [decide_eq_false (show ¬ v ≤ u by omega)]
      refine iteF ?_
      have g1 : (cur.map V.int)[iu]? = some (.int u) := by rw [List.getElem?_map, gu]; rfl
      have g2 : (cur.map V.int)[iv]? = some (.int v) := by rw [List.getElem?_map, gv]; rfl
      refine ⟨_, rfl, _, rfl, p, _, _, _, rfl, rfl, SqL.of epX, atI_nat g2, ?_⟩
      refine ⟨_, rfl, _, rfl, p, _, _, _, rfl, rfl, SqL.of epX, atI_nat g1, ?_⟩
      refine ⟨by show 2 ≤ sizeLine; decide, fun t nt => ?_⟩
      have st := same_new (o := .tup [.int v, .int u]) nt
      have ix1 : ixN (cur.map V.int).length (iu : Int) = some iu := ixN_at (by rw [List.length_map]; omega)
      refine ⟨t, _, rfl, SqT.of upd_same, rfl, _, _, rfl, ?_⟩
      refine ⟨_, rfl, _, rfl, p, _, _, _, rfl, rfl, st _ _ epX, ix1, ?_⟩
      have ix2 : ixN ((cur.map V.int).set iu (.int v)).length (iv : Int) = some iv := ixN_at (by rw [List.length_set, List.length_map]; omega)
      refine ⟨_, _, rfl, _, rfl, _, rfl, p, _, _, _, rfl, rfl, upd_same, ix2, rfl, ?_⟩
      have sR : Same H (upd (upd (upd HX t (.tup [.int v, .int u])) p (.lst ((cur.map V.int).set iu (.int v)))) p (.lst (((cur.map V.int).set iu (.int v)).set iv (.int u)))) := Same.put (Same.put (sX.trans st) np) np
      refine ⟨pp ++ b :: a :: ss, _, _, _, rfl, sR, ?_, hE2, ?_⟩
      · rw [upd_same, map_set, map_set, hset]
      · exact pnew
    · rintro σ HX ⟨cur, y3, y4, y5, rfl, sX, epX, hEx, pc⟩
      have : L.drop us.length = [] := by rw [hT.len, List.drop_length]
      rw [this] at hEx
      cases hEx
      exact ⟨_, rfl, q p HX np sX epX⟩
end
end My

set_option Elab.async false
set_option linter.all false
set_option maxRecDepth 100000
set_option pp.maxSteps 500
set_option maxHeartbeats 4000000
namespace My
open PySem PySem.Spec PyProof.Rows L2 GxR
theorem two_waysX {A : Prop} {G R : V → Hp → Prop} (main : (∀ y HA, R y HA → G y HA) → A) (rest : ∀ y HA, R y HA → G y HA) : A := main rest
theorem tie_numX {a b : Int} (ne : a ≠ b) : ((if b < a then b else a), (if b > a then b else a)) = tieO a b := by
  unfold tieO
  by_cases z : a < b
  · rw [if_neg (by omega), if_pos z, if_pos z]
  · rw [if_pos (by omega), if_neg (by omega), if_neg z]
theorem wrgN_wrg {g : Int → Int} {xs : List Int} {t : Int × Int} : t ∈ (wrgN g xs (xs.length - 1)).map (·.1) ↔ t ∈ wrgG g xs := by
  constructor
  · intro h
    obtain ⟨q, hq, rfl⟩ := List.mem_map.mp h
    obtain ⟨j, a, b, _, h1, h2, hg, rfl⟩ := wrgN_mem.mp hq
    have := wrgG_of (g := g) (p := xs.take j) (s := xs.drop (j + 2)) hg
    rwa [← split2 h1 h2] at this
  · intro h
    obtain ⟨j, hj⟩ := wrgN_all h
    exact List.mem_map.mpr ⟨_, hj, rfl⟩
/-- it stands as its own numbers say -/
theorem srt_self {g : Int → Int} : ∀ {xs : List Int}, (∀ (i j : Nat) (a b : Int), xs[i]? = some a → xs[j]? = some b → i < j → g a < g b) → SrtG g xs
  | [], _ => trivial
  | [_], _ => trivial
  | a :: b :: s, h => ⟨h 0 1 a b rfl rfl (by decide), srt_self (xs := b :: s) fun i j x y hx hy l => h (i + 1) (j + 1) x y hx hy (by omega)⟩
theorem srt_idx {xs : List Int} (nd : xs.Nodup) : SrtG (fun x => (xs.idxOf x : Int)) xs := srt_self fun i j a b ha hb l => by
  show (xs.idxOf a : Int) < (xs.idxOf b : Int)
  rw [idx_of nd ha, idx_of nd hb]
  omega
theorem idx_injX {xs : List Int} {a b : Int} (ha : a ∈ xs) (hb : b ∈ xs) (e : (xs.idxOf a : Int) = (xs.idxOf b : Int)) : a = b := by
  have h1 := idx_get ha
  have h2 := idx_get hb
  rw [show xs.idxOf a = xs.idxOf b by omega, h2] at h1
  exact (Option.some.inj h1).symm
/-- nothing stands otherwise: it is the other row -/
theorem wrg_end {xs other : List Int} (pm : xs.Perm other) (nd : other.Nodup) (h : wrgG (fun x => (other.idxOf x : Int)) xs = []) : xs = other :=
  srtG_uniq (wrgG_nil (fun x hx y hy e => idx_injX (pm.mem_iff.mp hx) (pm.mem_iff.mp hy) e) (pm.nodup_iff.mpr nd) h) (srt_idx nd) pm
theorem shaped_dTX (t : Int × Int) : SeqAt.shaped (dT t) = true := rfl
theorem eqv_dTX (t : Int × Int) : PyData.eqv (dT t) (dT t) = true := SeqAt.eqv_refl _ (by
  have := can_ties [t]
  rw [List.map_cons, List.map_nil, PyData.canLayAll0] at this
  exact (Bool.and_eq_true_iff.mp this).1)
section
variable {P : Program} {w : World} {K : PySem.W.Frag} {mg : Str → Option Value} {base : Heap}
end
end My

set_option Elab.async false
set_option linter.all false
set_option maxRecDepth 100000
set_option maxHeartbeats 1000000
namespace My
/-- how many ties stand otherwise -/
def nInv (r s : List Int) : Nat := (invG (fun x => (s.idxOf x : Int)) r).length
theorem nd_upX {n : Nat} {r : List Int} (pr : r.Perm (up n)) : r.Nodup := pr.nodup_iff.mpr (row_nd (.refl _))
theorem inv_cr {n : Nat} {r s : List Int} (pr : r.Perm (up n)) (ps : s.Perm (up n)) : (invG (fun x => (s.idxOf x : Int)) r).Perm (crL r s (pup n n)) := by
  have nr := nd_upX pr
  have ns := nd_upX ps
  have hs := srt_idx nr
  have inr : ∀ x : Int, 0 ≤ x → x < (n : Int) → x ∈ r := fun x h1 h2 => pr.mem_iff.mpr (mem_up.mpr ⟨h1, h2⟩)
  have ins : ∀ x ∈ r, x ∈ s := fun x h => ps.mem_iff.mpr (pr.mem_iff.mp h)
  have ltof : ∀ {l : List Int} {x y : Int}, x ∈ l → y ∈ l → x ≠ y → ¬ l.idxOf x < l.idxOf y → l.idxOf y < l.idxOf x := fun {l x y} hx hy ne h => by
    have : l.idxOf x ≠ l.idxOf y := fun e => ne (idx_injX hx hy (by rw [e]))
    omega
  refine (List.perm_ext_iff_of_nodup (invG_nd hs) (((pup_pw n n (Nat.le_refl n)).imp fun {a b} (k : ltT a b) (e : a = b) => ltT_irr (s := b) (by rw [e] at k; exact k)).sublist List.filter_sublist)).mpr fun t => ?_
  rw [invG_mem hs]
  show _ ↔ t ∈ (pup n n).filter (crB r s)
  rw [List.mem_filter, mem_pup (Nat.le_refl n)]
  constructor
  · rintro ⟨a, b, ha, hb, h1, h2, rfl⟩
    have ra := mem_up.mp (pr.mem_iff.mp ha)
    have rb := mem_up.mp (pr.mem_iff.mp hb)
    have k1 : r.idxOf a < r.idxOf b := by have : (r.idxOf a : Int) < (r.idxOf b : Int) := h1; omega
    have k2 : s.idxOf b < s.idxOf a := by have : (s.idxOf b : Int) < (s.idxOf a : Int) := h2; omega
    by_cases h : a < b
    · have e : tieO a b = (a, b) := if_pos h
      rw [e]
      refine ⟨⟨ra.1, ra.2, h, rb.2⟩, ?_⟩
      unfold crB ah
      rw [decide_eq_true k1, decide_eq_false (show ¬ s.idxOf a < s.idxOf b by omega)]; rfl
    · have ne : a ≠ b := fun z => by rw [z] at k1; omega
      have e : tieO a b = (b, a) := if_neg h
      rw [e]
      refine ⟨⟨rb.1, rb.2, by show b < a; omega, ra.2⟩, ?_⟩
      unfold crB ah
      rw [decide_eq_false (show ¬ r.idxOf b < r.idxOf a by omega), decide_eq_true k2]; rfl
  · rintro ⟨⟨h1, h2, h3, h4⟩, hc⟩
    have m1 := inr t.1 h1 h2
    have m2 := inr t.2 (by omega) h4
    have ne : t.1 ≠ t.2 := by omega
    unfold crB ah at hc
    by_cases z : r.idxOf t.1 < r.idxOf t.2
    · have z2 : ¬ s.idxOf t.1 < s.idxOf t.2 := fun k => by
        rw [decide_eq_true z, decide_eq_true k] at hc
        exact Bool.noConfusion hc
      refine ⟨t.1, t.2, m1, m2, by show (r.idxOf t.1 : Int) < _; omega, ?_, (if_pos h3).symm⟩
      have := ltof (ins _ m1) (ins _ m2) ne z2
      show (s.idxOf t.2 : Int) < (s.idxOf t.1 : Int)
      omega
    · have z2 : s.idxOf t.1 < s.idxOf t.2 := by
        by_cases k : s.idxOf t.1 < s.idxOf t.2
        · exact k
        · rw [decide_eq_false z, decide_eq_false k] at hc
          exact Bool.noConfusion hc
      have z3 := ltof m1 m2 ne z
      refine ⟨t.2, t.1, m2, m1, by show (r.idxOf t.2 : Int) < (r.idxOf t.1 : Int); omega, by show (s.idxOf t.1 : Int) < (s.idxOf t.2 : Int); omega, ?_⟩
      unfold tieO
      rw [if_neg (by omega)]
theorem len_or {α : Type} (p q r : α → Bool) (h : ∀ x, p x = true → q x = true ∨ r x = true) : ∀ l : List α, (l.filter p).length ≤ (l.filter q).length + (l.filter r).length
  | [] => Nat.zero_le _
  | x :: l => by
    have ih := len_or p q r h l
    have hx := h x
    rw [List.filter_cons, List.filter_cons, List.filter_cons]
    cases e1 : p x <;> cases e2 : q x <;> cases e3 : r x <;> simp [e1, e2, e3] at hx ⊢ <;> omega
theorem inv_tri {n : Nat} {a b c : List Int} (pa : a.Perm (up n)) (pb : b.Perm (up n)) (pc : c.Perm (up n)) : nInv a c ≤ nInv a b + nInv b c := by
  unfold nInv
  rw [(inv_cr pa pc).length_eq, (inv_cr pa pb).length_eq, (inv_cr pb pc).length_eq]
  refine len_or _ _ _ (fun t h => ?_) _
  unfold crB at *
  cases h1 : ah a t <;> cases h2 : ah b t <;> cases h3 : ah c t <;> simp [h1, h2, h3] at h ⊢
theorem inv_symm {n : Nat} {a b : List Int} (pa : a.Perm (up n)) (pb : b.Perm (up n)) : nInv a b = nInv b a := by
  unfold nInv
  rw [(inv_cr pa pb).length_eq, (inv_cr pb pa).length_eq]
  unfold crL
  congr 2
  funext t
  unfold crB
  cases h1 : ah a t <;> cases h2 : ah b t <;> rfl
theorem inv_map {g g' : Int → Int} {f : Int → Int} : ∀ {xs : List Int}, (∀ x ∈ xs, g' (f x) = g x) → (invG g' (xs.map f)).length = (invG g xs).length
  | [], _ => rfl
  | x :: xs, h => by
    have ih := inv_map (xs := xs) fun y hy => h y (List.mem_cons_of_mem _ hy)
    show ((((xs.map f).filter fun y => decide (g' y < g' (f x))).map (tieO (f x))) ++ invG g' (xs.map f)).length = ((xs.filter fun y => decide (g y < g x)).map (tieO x) ++ invG g xs).length
    rw [List.length_append, List.length_append, List.length_map, List.length_map, ih, List.filter_map, List.length_map]
    congr 2
    refine List.filter_congr fun y hy => ?_
    show decide (g' (f y) < g' (f x)) = _
    rw [h y (List.mem_cons_of_mem _ hy), h x List.mem_cons_self]
theorem idx_map {f : Int → Int} {xs : List Int} (inj : ∀ x ∈ xs, ∀ y ∈ xs, f x = f y → x = y) (nd : xs.Nodup) {x : Int} (hx : x ∈ xs) : (xs.map f).idxOf (f x) = xs.idxOf x := by
  have nd2 : (xs.map f).Nodup := by
    refine List.pairwise_map.mpr (List.Pairwise.imp_of_mem (fun {a b} ha hb k e => k (inj a ha b hb e)) nd)
  refine idx_of nd2 ?_
  rw [List.getElem?_map, idx_get hx]; rfl
theorem inv_names {f : Int → Int} {r s : List Int} (p : r.Perm s) (nd : s.Nodup) (inj : ∀ x ∈ s, ∀ y ∈ s, f x = f y → x = y) : nInv (r.map f) (s.map f) = nInv r s :=
  inv_map fun x hx => by rw [idx_map inj nd (p.mem_iff.mp hx)]
end My

set_option Elab.async false
set_option linter.all false
set_option maxRecDepth 100000
set_option maxHeartbeats 1000000
namespace My
open PySem PySem.Spec PyProof.Rows L2 GxR
open PySem.W (dataLt keyToks keyToksAll lex_atom lex_one lex_pre minD alike alikeAll AlikeAll min_list_data)
/-- unlike elements have unlike numbers -/
def InjG (g : Int → Int) (xs : List Int) : Prop := ∀ x ∈ xs, ∀ y ∈ xs, g x = g y → x = y
theorem InjG.perm {g : Int → Int} {xs ys : List Int} (h : InjG g xs) (p : ys.Perm xs) : InjG g ys := fun x hx y hy => h x (p.mem_iff.mp hx) y (p.mem_iff.mp hy)
/-- an exchange changes by one -/
theorem swap_one {g : Int → Int} {p s : List Int} {a b : Int} (inj : InjG g (p ++ a :: b :: s)) (ne : a ≠ b) : ((invG g (p ++ a :: b :: s)).length = (invG g (p ++ b :: a :: s)).length + 1 ∧ g b < g a) ∨ ((invG g (p ++ b :: a :: s)).length = (invG g (p ++ a :: b :: s)).length + 1 ∧ g a < g b) := by
  have ma : a ∈ p ++ a :: b :: s := List.mem_append_right _ List.mem_cons_self
  have mb : b ∈ p ++ a :: b :: s := List.mem_append_right _ (List.mem_cons_of_mem _ List.mem_cons_self)
  by_cases h : g b < g a
  · exact .inl ⟨(invG_swap h).length_eq, h⟩
  · have h2 : g a < g b := by
      have : g a ≠ g b := fun e => ne (inj a ma b mb e)
      omega
    exact .inr ⟨(invG_swap h2).length_eq, h2⟩
theorem exs_len {g : Int → Int} {xs ys : List Int} {L : List (Int × Int)} (h : Exs xs L ys) : InjG g xs → (invG g xs).length ≤ (invG g ys).length + L.length := by
  induction h with
  | nil => intro _; exact Nat.le_refl _
  | @cons p s ys a b L ne _ ih =>
    intro inj
    have pm : (p ++ b :: a :: s).Perm (p ++ a :: b :: s) := (List.Perm.swap a b s).append_left p
    have := ih (inj.perm pm)
    rcases swap_one inj ne with ⟨h, _⟩ | ⟨h, _⟩ <;> (rw [List.length_cons]; omega)
/-- of the shortest lists the greedy one is the least -/
theorem crs_least {g : Int → Int} {xs : List Int} {G : List (Int × Int)} (h : CrsG g xs G) : xs.Nodup → InjG g xs → ∀ {L : List (Int × Int)} {ys : List Int}, Exs xs L ys → invG g ys = [] → L.length = G.length → L = G ∨ ltLs G L := by
  induction h with
  | nil _ =>
    intro _ _ L ys _ _ e
    exact .inl (List.length_eq_zero_iff.mp e)
  | @step p s a b told hg hle hC ih =>
    intro nd inj L ys hE hy e
    have tl : told.length = (invG g (p ++ b :: a :: s)).length := by
      have pm : (p ++ b :: a :: s).Perm (p ++ a :: b :: s) := (List.Perm.swap a b s).append_left p
      exact (hC.inv (pm.nodup_iff.mpr nd) (fun x hx y hy => inj.perm pm x hx y hy)).length_eq
    have N1 := (invG_swap (g := g) (p := p) (s := s) hg).length_eq
    rw [List.length_cons] at e N1
    generalize hX : p ++ a :: b :: s = X at *
    cases hE with
    | nil => rw [List.length_nil] at e; omega
    | @cons p' s' _ a' b' L' ne' hE' =>
    rw [List.length_cons] at e
    have pm' : (p' ++ b' :: a' :: s').Perm (p' ++ a' :: b' :: s') := (List.Perm.swap a' b' s').append_left p'
    have le' := exs_len hE' (inj.perm pm')
    rw [hy, List.length_nil] at le'
    have hg' : g b' < g a' := by
      rcases swap_one inj ne' with ⟨h, k⟩ | ⟨h, k⟩
      · exact k
      · omega
    have tm : tieO a' b' ∈ wrgG g (p' ++ a' :: b' :: s') := wrgG_of hg'
    by_cases et : tieO a' b' = tieO a b
    · have ab : a' = a ∧ b' = b := by
        rcases tieO_twoX et with h | ⟨rfl, rfl⟩
        · exact h
        · omega
      obtain ⟨rfl, rfl⟩ := ab
      have u := at_uniq (by rw [hX]; exact nd) hX
      obtain ⟨rfl, rfl⟩ := u
      rw [et]
      rcases ih (pm'.nodup_iff.mpr nd) (inj.perm pm') hE' hy (by omega) with h | h
      · exact .inl (by rw [h])
      · exact .inr (.inr ⟨rfl, h⟩)
    · rcases ltT_three et with w | w
      · exact absurd w (hle _ tm)
      · exact .inr (.inl w)
/-- a told list cut in two -/
theorem crs_cut {g : Int → Int} {xs : List Int} {G : List (Int × Int)} (h : CrsG g xs G) : ∀ {ys : List Int} {L : List (Int × Int)}, CrsTo g ys xs L → ∀ i, i ≤ G.length → ∃ cur, CrsTo g ys cur (L ++ G.take i) ∧ CrsG g cur (G.drop i) := by
  induction h with
  | @nil xs h =>
    intro ys L hT i hi
    have : i = 0 := Nat.le_zero.mp hi
    subst this
    exact ⟨xs, by rw [List.take_nil, List.append_nil]; exact hT, .nil h⟩
  | @step p s a b told hg hle hC ih =>
    intro ys L hT i hi
    cases i with
    | zero => exact ⟨_, by rw [List.take_zero, List.append_nil]; exact hT, .step hg hle hC⟩
    | succ i =>
      obtain ⟨cur, h1, h2⟩ := ih (hT.snoc hg hle) i (Nat.le_of_succ_le_succ hi)
      refine ⟨cur, ?_, h2⟩
      rw [List.take_succ_cons, show L ++ tieO a b :: told.take i = (L ++ [tieO a b]) ++ told.take i by rw [List.append_assoc]; rfl]
      exact h1
/-! all lists by levels -/
abbrev Itm := List (Int × Int) × List Int
def nbN (it : Itm) : Nat → List Itm
  | 0 => []
  | j + 1 => nbN it j ++ (match it.2[j]?, it.2[j + 1]? with | some a, some b => if tieO a b ∈ it.1 then [] else [(it.1 ++ [tieO a b], it.2.take j ++ b :: a :: it.2.drop (j + 2))] | _, _ => [])
theorem nbN_step {it : Itm} {j : Nat} {a b : Int} (h1 : it.2[j]? = some a) (h2 : it.2[j + 1]? = some b) : nbN it (j + 1) = nbN it j ++ (if tieO a b ∈ it.1 then [] else [(it.1 ++ [tieO a b], it.2.take j ++ b :: a :: it.2.drop (j + 2))]) := by
  show nbN it j ++ (match it.2[j]?, it.2[j + 1]? with | some a, some b => if tieO a b ∈ it.1 then [] else [(it.1 ++ [tieO a b], it.2.take j ++ b :: a :: it.2.drop (j + 2))] | _, _ => []) = _
  rw [h1, h2]
theorem nbN_len {it : Itm} : ∀ j, (nbN it j).length ≤ j
  | 0 => Nat.zero_le _
  | j + 1 => by
    have ih := nbN_len (it := it) j
    show (nbN it j ++ _).length ≤ _
    rw [List.length_append]
    split
    · split
      · show _ + 0 ≤ _; omega
      · show _ + 1 ≤ _; omega
    · show _ + 0 ≤ _; omega
theorem nbN_mem {it r : Itm} : ∀ {n : Nat}, r ∈ nbN it n ↔ ∃ j a b, j < n ∧ it.2[j]? = some a ∧ it.2[j + 1]? = some b ∧ tieO a b ∉ it.1 ∧ r = (it.1 ++ [tieO a b], it.2.take j ++ b :: a :: it.2.drop (j + 2))
  | 0 => ⟨fun h => absurd h List.not_mem_nil, fun ⟨j, a, b, h, _⟩ => absurd h (Nat.not_lt_zero j)⟩
  | n + 1 => by
    have ih := nbN_mem (it := it) (r := r) (n := n)
    show r ∈ nbN it n ++ _ ↔ _
    rw [List.mem_append, ih]
    constructor
    · rintro (⟨j, a, b, h, q⟩ | h)
      · exact ⟨j, a, b, by omega, q⟩
      · split at h
        · rename_i a b ha hb
          split at h
          · exact absurd h List.not_mem_nil
          · rename_i hn
            exact ⟨n, a, b, by omega, ha, hb, hn, List.mem_singleton.mp h⟩
        · exact absurd h List.not_mem_nil
    · rintro ⟨j, a, b, h, h1, h2, hn, e⟩
      by_cases z : j < n
      · exact .inl ⟨j, a, b, z, h1, h2, hn, e⟩
      · have zj : j = n := by omega
        subst zj
        refine .inr ?_
        rw [h1, h2]
        show r ∈ (if tieO a b ∈ it.1 then [] else [(it.1 ++ [tieO a b], it.2.take j ++ b :: a :: it.2.drop (j + 2))])
        rw [if_neg hn, e]
        exact List.mem_cons_self
/-- what follows one -/
def nxI (other : List Int) (go : Bool) (it : Itm) : List Itm := if it.2 = other then [] else if go = true then nbN it (it.2.length - 1) else []
def lvl (one other : List Int) (most : Nat) : Nat → List Itm
  | 0 => [([], one)]
  | t + 1 => (lvl one other most t).flatMap (nxI other (decide (t < most)))
/-- found on a level -/
def fnd (other : List Int) (l : List Itm) : List (List (Int × Int)) := (l.filter fun it => decide (it.2 = other)).map (·.1)
def fndT (one other : List Int) (most : Nat) : Nat → List (List (Int × Int))
  | 0 => []
  | t + 1 => fndT one other most t ++ fnd other (lvl one other most t)
theorem lvl_ok {one other : List Int} {most : Nat} (nd : one.Nodup) : ∀ t, ∀ it ∈ lvl one other most t, Exs one it.1 it.2 ∧ it.1.length = t
  | 0, it, h => by
    obtain rfl := List.mem_singleton.mp h
    exact ⟨.nil, rfl⟩
  | t + 1, it, h => by
    obtain ⟨it0, h0, h1⟩ := List.mem_flatMap.mp h
    obtain ⟨hE, hl⟩ := lvl_ok nd t it0 h0
    unfold nxI at h1
    split at h1
    · exact absurd h1 List.not_mem_nil
    · split at h1
      · obtain ⟨j, a, b, _, g1, g2, _, rfl⟩ := nbN_mem.mp h1
        have ndc := hE.perm.nodup_iff.mpr nd
        have ne : a ≠ b := fun z => by
          have := (List.getElem?_inj (List.getElem?_eq_some_iff.mp g1).1 ndc).mp (show it0.2[j]? = it0.2[j + 1]? from by rw [g1, g2, z])
          omega
        exact ⟨hE.snoc (split2 g1 g2) ne, by rw [List.length_append, hl]; rfl⟩
      · exact absurd h1 List.not_mem_nil
theorem flat_le {α β : Type} {f : α → List β} {k : Nat} : ∀ {l : List α}, (∀ x ∈ l, (f x).length ≤ k) → (l.flatMap f).length ≤ l.length * k
  | [], _ => Nat.zero_le _
  | x :: l, h => by
    have ih := flat_le (l := l) fun y hy => h y (List.mem_cons_of_mem _ hy)
    have := h x List.mem_cons_self
    rw [List.flatMap_cons, List.length_append, List.length_cons, Nat.succ_mul]
    omega
theorem lvl_len {one other : List Int} {most : Nat} (nd : one.Nodup) (hl : one.length ≤ 5) : ∀ t, (lvl one other most t).length ≤ 4 ^ t
  | 0 => Nat.le_refl _
  | t + 1 => by
    have ih := lvl_len (other := other) (most := most) nd hl t
    refine Nat.le_trans (flat_le (k := 4) fun it h => ?_) (by rw [Nat.pow_succ]; exact Nat.mul_le_mul_right _ ih)
    have pe := (lvl_ok nd t it h).1.perm.length_eq
    unfold nxI
    split
    · exact Nat.zero_le _
    · split
      · exact Nat.le_trans (nbN_len _) (by omega)
      · exact Nat.zero_le _
theorem fndT_len {one other : List Int} {most : Nat} (nd : one.Nodup) (hl : one.length ≤ 5) : ∀ t, (fndT one other most t).length ≤ 4 ^ t
  | 0 => Nat.zero_le _
  | t + 1 => by
    have ih := fndT_len (other := other) (most := most) nd hl t
    have h1 := lvl_len (other := other) (most := most) nd hl t
    have h2 : (fnd other (lvl one other most t)).length ≤ (lvl one other most t).length := by
      unfold fnd
      rw [List.length_map]
      exact List.length_filter_le _ _
    show (fndT one other most t ++ fnd other (lvl one other most t)).length ≤ _
    rw [List.length_append, Nat.pow_succ]
    omega
theorem fndT_ok {one other : List Int} {most : Nat} (nd : one.Nodup) : ∀ {t : Nat} {L : List (Int × Int)}, L ∈ fndT one other most t → Exs one L other ∧ L.length < t
  | 0, L, h => absurd h List.not_mem_nil
  | t + 1, L, h => by
    rcases List.mem_append.mp h with h | h
    · have := fndT_ok nd h
      exact ⟨this.1, by omega⟩
    · unfold fnd at h
      obtain ⟨it, hi, rfl⟩ := List.mem_map.mp h
      obtain ⟨h1, h2⟩ := List.mem_filter.mp hi
      have := lvl_ok nd t it h1
      have e := of_decide_eq_true h2
      rw [e] at this
      exact ⟨this.1, by omega⟩
/-- the greedy walk stands on the levels -/
theorem lvl_greedy {one other : List Int} {most : Nat} (pm : one.Perm other) (nd : other.Nodup) (hm : most = nInv one other) : ∀ {cur : List Int} {L : List (Int × Int)}, CrsTo (fun x => (other.idxOf x : Int)) one cur L → (cur, L) = (cur, L) → (L, cur) ∈ lvl one other most L.length := by
  intro cur L h _
  have inj : InjG (fun x => (other.idxOf x : Int)) one := fun x hx y hy e => idx_injX (pm.mem_iff.mp hx) (pm.mem_iff.mp hy) e
  have ndo := pm.nodup_iff.mpr nd
  induction h with
  | refl => exact List.mem_singleton.mpr rfl
  | @snoc p s a b L hT hg hle ih =>
    rw [List.length_append]
    show (L ++ [tieO a b], p ++ b :: a :: s) ∈ lvl one other most (L.length + 1)
    refine List.mem_flatMap.mpr ⟨_, ih rfl, ?_⟩
    have hlen := hT.len.length_eq
    have N1 := (invG_swap (g := fun x => (other.idxOf x : Int)) (p := p) (s := s) hg).length_eq
    rw [List.length_append] at hlen
    rw [List.length_cons] at N1
    have lt : L.length < most := by rw [hm]; unfold nInv; omega
    have i1 : (p ++ a :: b :: s)[p.length]? = some a := by rw [List.getElem?_append_right (Nat.le_refl _), Nat.sub_self]; rfl
    have i2 : (p ++ a :: b :: s)[p.length + 1]? = some b := by rw [List.getElem?_append_right (Nat.le_succ _), show p.length + 1 - p.length = 1 by omega]; rfl
    have pno : p ++ a :: b :: s ≠ other := fun e => by
      have := srtG_inv (srt_idx nd)
      rw [← e] at this
      rw [e] at this N1
      have z := srtG_inv (srt_idx nd)
      rw [z, List.length_nil] at N1
      omega
    have no : tieO a b ∉ L := fun m => by
      have pd := hT.len
      have ndI : (invG (fun x => (other.idxOf x : Int)) one).Nodup := invG_nd (srt_idx ndo)
      have nd2 := pd.nodup_iff.mpr ndI
      obtain ⟨_, _, dis⟩ := List.nodup_append.mp nd2
      exact dis _ m _ ((invG_swap (g := fun x => (other.idxOf x : Int)) (p := p) (s := s) hg).mem_iff.mpr List.mem_cons_self) rfl
    unfold nxI
    rw [if_neg pno, if_pos (by rw [decide_eq_true lt])]
    refine nbN_mem.mpr ⟨p.length, a, b, ?_, i1, i2, no, ?_⟩
    · show p.length < (p ++ a :: b :: s).length - 1
      rw [List.length_append, List.length_cons, List.length_cons]
      omega
    · rw [List.take_left' rfl, drop2]
/-- min of lists of ties, as data -/
theorem dlt_dL {ps qs : List (Int × Int)} (h : ltLs ps qs) : dataLt (dL ps) (dL qs) = true ∧ dataLt (dL qs) (dL ps) = false := dlt_dP h
theorem dlt_irrL (ps : List (Int × Int)) : dataLt (dL ps) (dL ps) = false := lex_irrefl _
theorem alike_dL {ps qs : List (Int × Int)} (h : ps.length = qs.length) : alike (dL ps) (dL qs) = true := by
  have := alike_dP h
  exact this
theorem dL_inj {ps qs : List (Int × Int)} (h : dL ps = dL qs) : ps = qs := dP_inj (by
  have : ps.map dT = qs.map dT := PyData.list.inj h
  show PyData.tuple _ = PyData.tuple _
  rw [this])
end My

set_option Elab.async false
set_option linter.all false
set_option maxRecDepth 100000
set_option pp.maxSteps 500
set_option maxHeartbeats 4000000
namespace My
open PySem PySem.Spec PyProof.Rows L2 GxR
theorem eqv_dIX (c d : List Int) : PyData.eqv (dI c) (dI d) = decide (c = d) := by
  show PyData.eqvAll (c.map PyData.int) (d.map PyData.int) = decide (c = d)
  induction c generalizing d with
  | nil => cases d <;> rfl
  | cons a c ih =>
    cases d with
    | nil => rfl
    | cons b d =>
      rw [List.map_cons, List.map_cons]
      show ((a == b) && PyData.eqvAll (c.map PyData.int) (d.map PyData.int)) = _
      rw [ih, Bool.eq_iff_iff]
      simp
theorem two_waysL {A : Prop} {G R : V → Hp → Prop} (main : (∀ y HA, R y HA → G y HA) → A) (rest : ∀ y HA, R y HA → G y HA) : A := main rest
/-- a list of ties of its own -/
def LiV (ex : List Addr) (H : Hp) (v : V) (L : List (Int × Int)) : Prop := ∃ p us, v = .ref p ∧ p ∉ ex ∧ H p = some (.lst us) ∧ Ties H us L
def ItV (ex : List Addr) (H : Hp) (v : V) (it : Itm) : Prop := ∃ t p r us, v = .ref t ∧ H t = some (.tup [.ref p, .ref r]) ∧ p ∉ ex ∧ r ∉ ex ∧ H p = some (.lst us) ∧ Ties H us it.1 ∧ H r = some (.lst (it.2.map V.int))
theorem LiV.mono {ex ex' : List Addr} {H H' : Hp} {v : V} {L : List (Int × Int)} (h : LiV ex H v L) (f : ∀ (b : Addr) (o : HO), b ∉ ex → H b = some o → H' b = some o) (t : Tst H H') (sub : ∀ b ∈ ex', b ∈ ex ∨ H b = none) : LiV ex' H' v L := by
  obtain ⟨p, us, a, b, c, d⟩ := h
  exact ⟨p, us, a, fun m => (sub p m).elim b (fun z => by rw [z] at c; cases c), f _ _ b c, d.mono t⟩
theorem ItV.mono {ex ex' : List Addr} {H H' : Hp} {v : V} {it : Itm} (h : ItV ex H v it) (f : ∀ (b : Addr) (o : HO), b ∉ ex → H b = some o → H' b = some o) (t : Tst H H') (sub : ∀ b ∈ ex', b ∈ ex ∨ H b = none) : ItV ex' H' v it := by
  obtain ⟨tt, p, r, us, a, b, c1, c2, d1, d2, d3⟩ := h
  exact ⟨tt, p, r, us, a, t _ _ b, fun m => (sub p m).elim c1 (fun z => by rw [z] at d1; cases d1), fun m => (sub r m).elim c2 (fun z => by rw [z] at d3; cases d3), f _ _ c1 d1, d2.mono t, f _ _ c2 d3⟩
theorem LiV.same {ex : List Addr} {H H' : Hp} {v : V} {L : List (Int × Int)} (h : LiV ex H v L) (s : Same H H') : LiV ex H' v L := h.mono (fun b o _ e => s b o e) (Same.tst s) fun b m => .inl m
theorem ItV.same {ex : List Addr} {H H' : Hp} {v : V} {it : Itm} (h : ItV ex H v it) (s : Same H H') : ItV ex H' v it := h.mono (fun b o _ e => s b o e) (Same.tst s) fun b m => .inl m
theorem LiV.put {ex : List Addr} {H : Hp} {v : V} {L : List (Int × Int)} (h : LiV ex H v L) {F : Addr} (m : F ∈ ex) {us us' : List V} (e : H F = some (.lst us)) : LiV ex (upd H F (.lst us')) v L :=
  h.mono (fun b o nb e' => by rw [upd_ne (fun z => nb (by rw [z]; exact m))]; exact e') (tst_put e) fun b m => .inl m
theorem ItV.put {ex : List Addr} {H : Hp} {v : V} {it : Itm} (h : ItV ex H v it) {F : Addr} (m : F ∈ ex) {us us' : List V} (e : H F = some (.lst us)) : ItV ex (upd H F (.lst us')) v it :=
  h.mono (fun b o nb e' => by rw [upd_ne (fun z => nb (by rw [z]; exact m))]; exact e') (tst_put e) fun b m => .inl m
theorem fnd_step {other : List Int} {l : List Itm} {i : Nat} {it : Itm} (e : l[i]? = some it) : fnd other (l.take (i + 1)) = fnd other (l.take i) ++ (if it.2 = other then [it.1] else []) := by
  unfold fnd
  rw [List.take_add_one, e]
  show ((l.take i ++ [it]).filter _).map _ = _
  rw [List.filter_append, List.map_append]
  by_cases h : it.2 = other
  · rw [if_pos h, List.filter_cons_of_pos (by rw [decide_eq_true h])]; rfl
  · rw [if_neg h, List.filter_cons_of_neg (by rw [decide_eq_false h]; exact Bool.noConfusion)]; rfl
theorem nx_step {other : List Int} {go : Bool} {l : List Itm} {i : Nat} {it : Itm} (e : l[i]? = some it) : (l.take (i + 1)).flatMap (nxI other go) = (l.take i).flatMap (nxI other go) ++ nxI other go it := by
  rw [List.take_add_one, e]
  show (l.take i ++ [it]).flatMap _ = _
  rw [List.flatMap_append, List.flatMap_singleton]
section
variable {P : Program} {w : World} {K : PySem.W.Frag} {mg : Str → Option Value} {base : Heap}
/-! ### _law_all_lists -/
abbrev s__law_all_lists : Stmt := topS 16
abbrev N__law_all_lists : List Str := ["_law_one", "_law_other", "_law_most", "_law_found", "_law_level", "_law_turn", "_law_further", "_law_ties", "_law_row_here", "_law_a", "_law_b", "_law_tie"]
theorem sc__law_all_lists : FnScope N__law_all_lists ["_law_one", "_law_other", "_law_most"] (defScope s__law_all_lists) := ⟨rfl, rfl, rfl, by decide +kernel, rfl, by decide +kernel, by decide +kernel⟩
def sp_alll : Sp := fun vs H Q _ => ∃ (R O : Addr) (one other : List Int) (most : Nat), vs = [.ref R, .ref O, .int (most : Int)] ∧ H R = some (.lst (one.map V.int)) ∧ H O = some (.lst (other.map V.int)) ∧ one.Perm other ∧ other.Nodup ∧ one.length ≤ 5 ∧ most ≤ 10 ∧
  ∀ F fs H', H F = none → Same H H' → H' F = some (.lst fs) → All2 (LiV [F] H') fs (fndT one other most (most + 1)) → Q (.ref F) H'
theorem ok_alll {f : Addr} {fd : FuncData} (B : Bts mg) (F : Fun K "_law_all_lists" "_law_all_lists" s__law_all_lists f fd) (c__law_walked : Cl P w K mg base 1 "_law_walked" sp_walked) : FnOk P w K mg base CX0 2 f fd ["_law_one", "_law_other", "_law_most"] sp_alll := by
  refine F.ok sc__law_all_lists (fun vs H Q E h => ?_) (fun cdv A outer s H vs Q E hr h => ?_)
  · obtain ⟨R, O, one, other, most, rfl, _⟩ := h; rfl
  · obtain ⟨R, O, one, other, most, rfl, eR, eO, pm, nd, ol, hmost, q⟩ := h
    refine ⟨_, (pss_cons (ps_set (i := 3) sc__law_all_lists.nd rfl (by first | exact Or.inl rfl | exact Or.inr rfl) (pe_lst pa_nil))
    (pss_cons (ps_set (i := 4) sc__law_all_lists.nd rfl (by first | exact Or.inl rfl | exact Or.inr rfl) (pe_lst (pa_cons (pe_tup (pa_cons (pe_lst pa_nil) (pa_cons (pe_callTy call_list_of (by rfl) B.list (by decide +kernel) (pa_cons (pv 0) pa_nil)) pa_nil))) pa_nil)))
    (pss_cons (ps_for PassesOwn.never rfl (pi_range1 (by rfl) B.range (pa_cons (pe_op op_add (pv 2) pe_int) pa_nil)) (pg_name (i := 5) sc__law_all_lists.nd rfl (by first | exact Or.inl rfl | exact Or.inr rfl))
      (pss_cons (ps_set (i := 6) sc__law_all_lists.nd rfl (by first | exact Or.inl rfl | exact Or.inr rfl) (pe_lst pa_nil))
      (pss_cons (ps_for PassesOwn.never rfl (pi_list (pv 4)) (pg_tup rfl (pgs_cons (pg_name (i := 7) sc__law_all_lists.nd rfl (by first | exact Or.inl rfl | exact Or.inr rfl)) (pgs_cons (pg_name (i := 8) sc__law_all_lists.nd rfl (by first | exact Or.inl rfl | exact Or.inr rfl)) pgs_nil)))
        (pss_one (ps_if (pt_cmpR (op_eqD hr.units) (pv 8) (pv 1) (nomark _)) (pss_one (ps_expr (pe_bm PySem.F.plainAttrs_list PySem.F.slot_list_append PySem.F.type_list_append mt_append (pv 3) (pa_cons (pv 7) pa_nil)))) (pss_one (ps_if (pt_cmpR op_lt (pv 5) (pv 2) (nomark _)) (pss_one (ps_for PassesOwn.never rfl (pi_zip (by rfl) B.zip (pa_cons (pv 8) (pa_cons (pe_slice sl_list (pv 8) (po_some pe_int) po_none) pa_nil))) (pg_tup rfl (pgs_cons (pg_name (i := 9) sc__law_all_lists.nd rfl (by first | exact Or.inl rfl | exact Or.inr rfl)) (pgs_cons (pg_name (i := 10) sc__law_all_lists.nd rfl (by first | exact Or.inl rfl | exact Or.inr rfl)) pgs_nil)))
              (pss_cons (ps_set (i := 11) sc__law_all_lists.nd rfl (by first | exact Or.inl rfl | exact Or.inr rfl) (pe_tup (pa_cons (pe_callB (call_min2 rfl) (by rfl) B.min (by decide +kernel) (pa_cons (pv 9) (pa_cons (pv 10) pa_nil))) (pa_cons (pe_callB (call_max2 rfl) (by rfl) B.max (by decide +kernel) (pa_cons (pv 9) (pa_cons (pv 10) pa_nil))) pa_nil))))
              (pss_one (ps_if (pt_cmpR (op_notInD (u65 hr)) (pv 11) (pv 7) (by rfl)) (pss_one (ps_expr (pe_bm PySem.F.plainAttrs_list PySem.F.slot_list_append PySem.F.type_list_append mt_append (pv 6) (pa_cons (pe_tup (pa_cons (pe_op op_cat (pv 7) (pe_lst (pa_cons (pv 11) pa_nil))) (pa_cons (pe_c c__law_walked hr (by decide) (by rfl) (pa_cons (pv 8) (pa_cons (pe_lst (pa_cons (pv 11) pa_nil)) pa_nil))) pa_nil))) pa_nil)))) pss_nil))))) pss_nil)))))
      (pss_one (ps_set (i := 4) sc__law_all_lists.nd rfl (by first | exact Or.inl rfl | exact Or.inr rfl) (pv 6))))))
    (pss_one (ps_ret (pv 3)))))), ?_⟩
    have ndo := pm.nodup_iff.mpr nd
    refine ⟨Nat.zero_le _, fun F0 nF => ?_⟩
    have sF := same_new (o := .lst []) nF
    have eF := upd_same (H := H) (a := F0) (o := .lst [])
    generalize upd H F0 (.lst []) = H1 at sF eF ⊢
    refine ⟨Nat.zero_le _, fun l0 nl0 => ⟨_, rfl, R, _, rfl, .inl (SqL.of (same_new nl0 _ _ (sF _ _ eR))), fun r0 nr0 => ⟨by show 2 ≤ sizeLine; decide, fun t0 nt0 => ⟨by show 1 ≤ sizeLine; decide, fun v0 nv0 => ?_⟩⟩⟩⟩
    have sl := same_new (o := .lst []) nl0
    have sr := same_new (o := .lst (one.map V.int)) nr0
    have st := same_new (o := .tup [.ref l0, .ref r0]) nt0
    have sv := same_new (o := .lst [.ref t0]) nv0
    have el0 := sv _ _ (st _ _ (sr _ _ (upd_same (H := H1) (a := l0) (o := .lst []))))
    have er0 := sv _ _ (st _ _ (upd_same (H := upd H1 l0 (.lst [])) (a := r0) (o := .lst (one.map V.int))))
    have et0 := sv _ _ (upd_same (H := upd (upd H1 l0 (.lst [])) r0 (.lst (one.map V.int))) (a := t0) (o := .tup [.ref l0, .ref r0]))
    have ev0 := upd_same (H := upd (upd (upd H1 l0 (.lst [])) r0 (.lst (one.map V.int))) t0 (.tup [.ref l0, .ref r0])) (a := v0) (o := .lst [.ref t0])
    have l0F : l0 ≠ F0 := fun z => by rw [z, eF] at nl0; cases nl0
    have r0F : r0 ≠ F0 := fun z => by rw [z, sl _ _ eF] at nr0; cases nr0
    have v0F : v0 ≠ F0 := fun z => by rw [z, st _ _ (sr _ _ (sl _ _ eF))] at nv0; cases nv0
    have s12 := ((sl.trans sr).trans st).trans sv
    have eF2 := s12 _ _ eF
    generalize upd (upd (upd (upd H1 l0 (.lst [])) r0 (.lst (one.map V.int))) t0 (.tup [.ref l0, .ref r0])) v0 (.lst [.ref t0]) = H2 at el0 er0 et0 ev0 s12 eF2 ⊢
    clear sl sr st sv nl0 nr0 nt0 nv0
    refine ⟨_, rfl, _, _, rfl, rfl, _, rfl, ?_, ?_, ?_⟩
    · omega
    · omega
    have hcnt : ((most : Int) + 1).toNat = most + 1 := by omega
    refine for_range (fun tn σ HX => ∃ Lv lv fs y5 y6 y7 y8 y9 y10 y11, σ = [some (.ref R), some (.ref O), some (.int (most : Int)), some (.ref F0), some (.ref Lv), y5, y6, y7, y8, y9, y10, y11] ∧ Same H HX ∧ HX F0 = some (.lst fs) ∧ All2 (LiV [F0] HX) fs (fndT one other most tn) ∧ HX Lv = some (.lst lv) ∧ All2 (ItV [F0] HX) lv (lvl one other most tn) ∧ Lv ≠ F0)
      ⟨v0, [.ref t0], [], none, none, none, none, none, none, none, rfl, sF.trans s12, eF2, trivial, ev0, ⟨⟨t0, l0, r0, [], rfl, et0, by simp [l0F], by simp [r0F], el0, trivial, er0⟩, trivial⟩, v0F⟩ ?_ ?_
    · rintro tn σ HX htn ⟨Lv, lv, fs, y5, y6, y7, y8, y9, y10, y11, rfl, sX, eFX, hfs, eLv, hlv, LvF⟩
      rw [hcnt] at htn
      have h4 : 4 ^ tn ≤ 1048576 := Nat.le_trans (Nat.pow_le_pow_right (by decide) (by omega : tn ≤ 10)) (by decide)
      have hlen := lvl_len (other := other) (most := most) ndo ol tn
      have hfl := fndT_len (other := other) (most := most) ndo ol tn
      have hok := lvl_ok (other := other) (most := most) ndo tn
      generalize hI : lvl one other most tn = items at *
      refine ⟨Nat.zero_le _, fun G nG => ?_⟩
      have sG := same_new (o := .lst []) nG
      have eG := upd_same (H := HX) (a := G) (o := .lst [])
      have GF : G ≠ F0 := fun z => by rw [z, eFX] at nG; cases nG
      have LvG : Lv ≠ G := fun z => by rw [z, nG] at eLv; cases eLv
      have nG0 : H G = none := same_free sX nG
      have sub : ∀ b ∈ [F0, G], b ∈ [F0] ∨ HX b = none := fun b m => by
        rcases List.mem_cons.mp m with z | z
        · exact .inl (by rw [z]; simp)
        · exact .inr (by rw [List.mem_singleton.mp z]; exact nG)
      have hfsG := hfs.imp fun _ _ h => LiV.mono h (fun b o _ e => sG b o e) (Same.tst sG) sub
      have hlvG := hlv.imp fun _ _ h => ItV.mono h (fun b o _ e => sG b o e) (Same.tst sG) sub
      have eFG := sG _ _ eFX
      have eLvG := sG _ _ eLv
      have sXG := sX.trans sG
      generalize upd HX G (.lst []) = HG at sG eG hfsG hlvG eFG eLvG sXG ⊢
      have ll := hlv.len
      refine ⟨_, rfl, Lv, rfl, ⟨_, SqL.of eLvG⟩, ?_⟩
      refine for_list (K := K) (a := Lv) (xs := lv) (fun i σ HY => ∃ fs gs y7 y8 y9 y10 y11, σ = [some (.ref R), some (.ref O), some (.int (most : Int)), some (.ref F0), some (.ref Lv), some (.int (0 + (tn : Int))), some (.ref G), y7, y8, y9, y10, y11] ∧ Same H HY ∧ HY F0 = some (.lst fs) ∧ All2 (LiV [F0, G] HY) fs (fndT one other most tn ++ fnd other (items.take i)) ∧ HY G = some (.lst gs) ∧ All2 (ItV [F0, G] HY) gs ((items.take i).flatMap (nxI other (decide (tn < most)))) ∧ All2 (ItV [F0, G] HY) lv items ∧ HY Lv = some (.lst lv))
        ⟨fs, [], y7, y8, y9, y10, y11, rfl, sXG, eFG, by show All2 _ fs (fndT one other most tn ++ []); rw [List.append_nil]; exact hfsG, eG, trivial, hlvG, eLvG⟩ ?_ ?_ ?_
      · rintro i σ HY _ ⟨_, _, _, _, _, _, _, _, _, _, _, _, _, _, e⟩
        exact SqL.of e
      · rintro i v σ HY hv ⟨fs, gs, y7, y8, y9, y10, y11, rfl, sY, eFY, hfY, eGY, hgY, hlY, eLvY⟩
        obtain ⟨it, eit, hit⟩ := hlY.at hv
        obtain ⟨tt, p, r, us, rfl, ett, px, rx, ep, hTp, er⟩ := id hit
        have im := List.mem_of_getElem? eit
        obtain ⟨hE, hL⟩ := hok it im
        have pc := hE.perm
        have ndc := pc.nodup_iff.mpr ndo
        have cl := pc.length_eq
        have hi : i < items.length := (List.getElem?_eq_some_iff.mp eit).1
        have fst := fnd_step (other := other) eit
        have nst := nx_step (other := other) (go := decide (tn < most)) eit
        have pF : p ≠ F0 := fun z => px (by rw [z]; simp)
        have rF : r ≠ F0 := fun z => rx (by rw [z]; simp)
        have pG : p ≠ G := fun z => px (by rw [z]; simp)
        have rG : r ≠ G := fun z => rx (by rw [z]; simp)
        refine ⟨tt, _, rfl, SqT.of ett, rfl, _, _, rfl, _, _, rfl, rfl, ?_⟩
        refine ⟨_, rfl, _, rfl, dI it.2, dI other, .lst (SqL.of er) (dpI _), .lst (SqL.of (sY _ _ eO)) (dpI _), shaped_dI _, shaped_dI _, _, rfl, ?_⟩
        rw [eqv_dIX]
        have fl := hfY.len
        have gl := hgY.len
        have fl2 : (fnd other (items.take i)).length ≤ items.length := by
          unfold fnd
          rw [List.length_map]
          exact Nat.le_trans (List.length_filter_le _ _) (by rw [List.length_take]; omega)
        by_cases ho : it.2 = other
        · rw [decide_eq_true ho]
          rw [if_pos ho] at fst
          have nx0 : nxI other (decide (tn < most)) it = [] := by unfold nxI; rw [if_pos ho]
          rw [nx0, List.append_nil] at nst
          refine iteT ⟨_, rfl, .inl ⟨rfl, _, SqL.of eFY⟩, _, rfl, F0, _, _, rfl, rfl, eFY, by rw [sizeLine_eq, fl, List.length_append]; omega, ?_⟩
          have mF : F0 ∈ [F0, G] := by simp
          refine ⟨fs ++ [.ref p], gs, _, _, _, _, _, rfl, Same.put sY nF, upd_same, ?_, by rw [upd_ne GF]; exact eGY, ?_, hlY.imp fun _ _ h => ItV.put h mF eFY, by rw [upd_ne LvF]; exact eLvY⟩
          · rw [fst, ← List.append_assoc]
            exact All2.app (hfY.imp fun _ _ h => LiV.put h mF eFY) ⟨⟨p, us, rfl, px, by rw [upd_ne pF]; exact ep, hTp.mono (tst_put eFY)⟩, trivial⟩
          · rw [nst]
            exact hgY.imp fun _ _ h => ItV.put h mF eFY
        · rw [decide_eq_false ho]
          rw [if_neg ho, List.append_nil] at fst
          refine iteF ⟨_, rfl, _, rfl, _, _, rfl, rfl, _, rfl, ?_⟩
          by_cases hg : tn < most
          · rw [decide_eq_true (show (0 + (tn : Int)) < (most : Int) by omega)]
            have nx0 : nxI other (decide (tn < most)) it = nbN it (it.2.length - 1) := by unfold nxI; rw [if_neg ho, if_pos (by rw [decide_eq_true hg])]
            rw [nx0] at nst
            refine iteT ⟨_, rfl, _, rfl, 1, rfl, r, _, rfl, SqL.of er, fun p1 np1 => ?_⟩
            rw [cut_tailX]
            have s1 := same_new (o := .lst ((it.2.map V.int).drop 1)) np1
            have ep1 := upd_same (H := HY) (a := p1) (o := .lst ((it.2.map V.int).drop 1))
            have p1G : p1 ≠ G := fun z => by rw [z, eGY] at np1; cases np1
            have eGB := s1 _ _ eGY
            have sYB := sY.trans s1
            have hgB := hgY.imp fun _ _ h => ItV.same h s1
            have epB := s1 _ _ ep
            have erB := s1 _ _ er
            have hTB := hTp.mono (Same.tst s1)
            have eFB := s1 _ _ eFY
            have hfB := hfY.imp fun _ _ h => LiV.same h s1
            have hlB := hlY.imp fun _ _ h => ItV.same h s1
            have eLvB := s1 _ _ eLvY
            generalize upd HY p1 (.lst ((it.2.map V.int).drop 1)) = HB at s1 ep1 eGB sYB hgB epB erB hTB eFB hfB hlB eLvB ⊢
            refine ⟨r, p1, _, _, rfl, SqL.of erB, SqL.of ep1, ?_⟩
            have i4 : (items.take i).length ≤ 1048576 := by rw [List.length_take]; omega
            have pre4 : ((items.take i).flatMap (nxI other (decide (tn < most)))).length ≤ 1048576 * 4 := by
              refine Nat.le_trans (flat_le (k := 4) fun it2 h => ?_) (Nat.mul_le_mul_right _ i4)
              have pe := (hok it2 (List.mem_of_mem_take h)).1.perm.length_eq
              unfold nxI
              split
              · exact Nat.zero_le _
              · split
                · exact Nat.le_trans (nbN_len _) (by omega)
                · exact Nat.zero_le _
            refine for_zipX (K := K) (a := r) (b := p1) (xs := it.2.map V.int) (ys := (it.2.map V.int).drop 1) (by rw [List.length_drop]; omega) (fun j σ HZ => ∃ gs y9 y10 y11, σ = [some (.ref R), some (.ref O), some (.int (most : Int)), some (.ref F0), some (.ref Lv), some (.int (0 + (tn : Int))), some (.ref G), some (.ref p), some (.ref r), y9, y10, y11] ∧ (∀ (b : Addr) (o : HO), b ≠ G → HB b = some o → HZ b = some o) ∧ HZ G = some (.lst gs) ∧ All2 (ItV [F0, G] HZ) gs ((items.take i).flatMap (nxI other (decide (tn < most))) ++ nbN it j))
              ⟨gs, _, _, _, rfl, fun b o _ e => e, eGB, by show All2 _ gs (_ ++ []); rw [List.append_nil]; exact hgB⟩ ?_ ?_ ?_
            · rintro j σ HZ ⟨_, _, _, _, _, fZ, _⟩
              exact ⟨SqL.of (fZ _ _ rG erB), SqL.of (fZ _ _ p1G ep1)⟩
            · rintro j x0 y0 T σ HZ ex ey ⟨gs, y9, y10, y11, rfl, fZ, eGZ, hgZ⟩ nT
              obtain ⟨av, ea, rfl⟩ := ints_at ex
              rw [List.getElem?_drop] at ey
              obtain ⟨bv, eb, rfl⟩ := ints_at ey
              rw [Nat.add_comm] at eb
              have hj := (List.getElem?_eq_some_iff.mp eb).1
              have stp := nbN_step (it := it) ea eb
              have ne : av ≠ bv := fun z => by
                have := (List.getElem?_inj (List.getElem?_eq_some_iff.mp ea).1 ndc).mp (show it.2[j]? = it.2[j + 1]? from by rw [ea, eb, z])
                omega
              have en1 : (if bv < av then bv else av) = (tieO av bv).1 := congrArg Prod.fst (tie_numX ne)
              have en2 : (if bv > av then bv else av) = (tieO av bv).2 := congrArg Prod.snd (tie_numX ne)
              have tZ : Tst HB HZ := fun b vs e => fZ _ _ (fun z => by rw [z, eGB] at e; cases e) e
              have sT := same_new (o := .tup [.int av, .int bv]) nT
              have eT' := upd_same (H := HZ) (a := T) (o := .tup [.int av, .int bv])
              generalize upd HZ T (.tup [.int av, .int bv]) = HT at sT eT' ⊢
              refine ⟨T, _, rfl, SqT.of eT', rfl, _, _, rfl, _, _, rfl, rfl, ?_⟩
              refine ⟨_, rfl, _, rfl, _, _, rfl, _, rfl, _, rfl, _, _, rfl, by show 2 ≤ sizeLine; decide, fun k nk => ?_⟩
              have sk := same_new (o := .tup [.int (if bv < av then bv else av), .int (if bv > av then bv else av)]) nk
              have ek : (upd HT k (.tup [.int (if bv < av then bv else av), .int (if bv > av then bv else av)])) k = some (.tup [.int (tieO av bv).1, .int (tieO av bv).2]) := by
                rw [← en1, ← en2]; exact upd_same
              generalize upd HT k (.tup [.int (if bv < av then bv else av), .int (if bv > av then bv else av)]) = HK at sk ek ⊢
              have sZK := sT.trans sk
              have eGK := sZK _ _ eGZ
              have epK := sZK _ _ (fZ _ _ pG epB)
              have erK := sZK _ _ (fZ _ _ rG erB)
              have hTK := (hTB.mono tZ).mono (Same.tst sZK)
              have fK : ∀ (b : Addr) (o : HO), b ≠ G → HB b = some o → HK b = some o := fun b o nb e => sZK _ _ (fZ b o nb e)
              have hgK := hgZ.imp fun _ _ h => ItV.same h sZK
              refine ⟨_, rfl, _, rfl, dT (tieO av bv), it.1.map dT, .tup (SqT.of ek) (.cons (.int _) (.cons (.int _) .nil)), .lst (SqL.of epK) hTK.dp, shaped_dTX _, shaped_ties _, _, rfl, ?_⟩
              rw [any_dT]
              by_cases hm : tieO av bv ∈ it.1
              · rw [if_pos hm, List.append_nil] at stp
                rw [decide_eq_true hm]
                exact iteF ⟨gs, _, _, _, rfl, fK, eGK, by rw [stp]; exact hgK⟩
              · rw [if_neg hm] at stp
                rw [decide_eq_false hm]
                have ul := hTp.len
                refine iteT ⟨_, rfl, .inl ⟨rfl, _, SqL.of eGK⟩, _, rfl, _, rfl, by show 1 ≤ sizeLine; decide, fun q1 nq1 => ?_⟩
                have sq1 := same_new (o := .lst [.ref k]) nq1
                have eq1 := upd_same (H := HK) (a := q1) (o := .lst [.ref k])
                have uz : us.length + 1 ≤ sizeLine := by rw [ul, hL, sizeLine_eq]; omega
                refine ⟨p, q1, _, _, rfl, rfl, sq1 _ _ epK, eq1, uz, fun pc2 npc => ?_⟩
                have spc := same_new (o := .lst (us ++ [.ref k])) npc
                refine ⟨_, rfl, _, rfl, by show 1 ≤ sizeLine; decide, fun q2 nq2 => ?_⟩
                have sq2 := same_new (o := .lst [.ref k]) nq2
                have epc := sq2 _ _ (upd_same (H := upd HK q1 (.lst [.ref k])) (a := pc2) (o := .lst (us ++ [.ref k])))
                have eq2 := upd_same (H := upd (upd HK q1 (.lst [.ref k])) pc2 (.lst (us ++ [.ref k]))) (a := q2) (o := .lst [.ref k])
                have sKq := (sq1.trans spc).trans sq2
                generalize upd (upd (upd HK q1 (.lst [.ref k])) pc2 (.lst (us ++ [.ref k]))) q2 (.lst [.ref k]) = HQ at epc eq2 sKq ⊢
                have hE1 : Exs it.2 [tieO av bv] (it.2.take j ++ bv :: av :: it.2.drop (j + 2)) := by
                  have := Exs.cons (p := it.2.take j) (s := it.2.drop (j + 2)) ne .nil
                  rwa [← split2 ea eb] at this
                refine ⟨r, q2, it.2, _, [tieO av bv], [.ref k], rfl, sKq _ _ erK, eq2, ⟨⟨k, rfl, sKq _ _ ek⟩, trivial⟩, hE1, ndc, by omega, fun rw2 HW nrw sW erw => ?_⟩
                refine ⟨by show 2 ≤ sizeLine; decide, fun tt2 ntt2 => ?_⟩
                have st2 := same_new (o := .tup [.ref pc2, .ref rw2]) ntt2
                have eGW := st2 _ _ (sW _ _ (sKq _ _ eGK))
                have sAll := (sKq.trans sW).trans st2
                have epcW := st2 _ _ (sW _ _ epc)
                have erwW := st2 _ _ erw
                have ett2 := upd_same (H := HW) (a := tt2) (o := .tup [.ref pc2, .ref rw2])
                have eFK := fK _ _ (Ne.symm GF) eFB
                have pc2x : pc2 ∉ [F0, G] := fun m => by
                  simp only [List.mem_cons, List.not_mem_nil, or_false] at m
                  rcases m with z | z
                  · rw [z, sq1 _ _ eFK] at npc; cases npc
                  · rw [z, sq1 _ _ eGK] at npc; cases npc
                have rw2x : rw2 ∉ [F0, G] := fun m => by
                  simp only [List.mem_cons, List.not_mem_nil, or_false] at m
                  rcases m with z | z
                  · rw [z, sKq _ _ eFK] at nrw; cases nrw
                  · rw [z, sKq _ _ eGK] at nrw; cases nrw
                have ekW := sAll _ _ ek
                have hTW := hTK.mono (Same.tst sAll)
                generalize upd HW tt2 (.tup [.ref pc2, .ref rw2]) = HV at st2 eGW sAll epcW erwW ett2 ekW hTW ⊢
                have gl2 := hgZ.len
                have nbl := nbN_len (it := it) j
                have jl : j ≤ 5 := by omega
                have mG : G ∈ [F0, G] := by simp
                refine ⟨G, _, _, rfl, rfl, eGW, by rw [sizeLine_eq, gl2, List.length_append]; omega, gs ++ [.ref tt2], _, _, _, rfl, fun b o nb e => by rw [upd_ne nb]; exact sAll _ _ (fK b o nb e), upd_same, ?_⟩
                rw [stp, ← List.append_assoc]
                have tG := tst_put (o := .lst (gs ++ [.ref tt2])) eGW
                refine All2.app (hgK.imp fun _ _ h => (ItV.same h sAll).put mG eGW) ⟨⟨tt2, pc2, rw2, us ++ [.ref k], rfl, tG _ _ ett2, pc2x, rw2x, by rw [upd_ne (fun z => pc2x (by rw [z]; simp))]; exact epcW, ?_, by rw [upd_ne (fun z => rw2x (by rw [z]; simp))]; exact erwW⟩, trivial⟩
                exact Ties.app (hTW.mono tG) ⟨⟨k, rfl, tG _ _ ekW⟩, trivial⟩
            · rintro σ HZ ⟨gs, y9, y10, y11, rfl, fZ, eGZ, hgZ⟩
              rw [List.length_drop, List.length_map] at hgZ
              have tZ : Tst HB HZ := fun b vs e => fZ _ _ (fun z => by rw [z, eGB] at e; cases e) e
              have fx : ∀ (b : Addr) (o : HO), b ∉ [F0, G] → HB b = some o → HZ b = some o := fun b o nb e => fZ _ _ (fun z => nb (by rw [z]; simp)) e
              refine ⟨fs, gs, _, _, _, _, _, rfl, fun b o e => fZ _ _ (fun z => by rw [z, nG0] at e; cases e) (sYB _ _ e), fZ _ _ (Ne.symm GF) eFB, ?_, eGZ, by rw [nst]; exact hgZ, hlB.imp fun _ _ h => ItV.mono h fx tZ fun b m => .inl m, fZ _ _ LvG eLvB⟩
              rw [fst]
              exact hfB.imp fun _ _ h => LiV.mono h fx tZ fun b m => .inl m
          · rw [decide_eq_false (show ¬ (0 + (tn : Int)) < (most : Int) by omega)]
            have nx0 : nxI other (decide (tn < most)) it = [] := by unfold nxI; rw [if_neg ho, if_neg (by rw [decide_eq_false hg]; exact Bool.noConfusion)]
            rw [nx0, List.append_nil] at nst
            exact iteF ⟨fs, gs, _, _, _, _, _, rfl, sY, eFY, by rw [fst]; exact hfY, eGY, by rw [nst]; exact hgY, hlY, eLvY⟩
      · rintro σ HY ⟨fs, gs, y7, y8, y9, y10, y11, rfl, sY, eFY, hfY, eGY, hgY, hlY, eLvY⟩
        rw [ll, List.take_length] at hfY hgY
        have sb : ∀ b ∈ [F0], b ∈ [F0, G] ∨ HY b = none := fun b m => .inl (by rw [List.mem_singleton.mp m]; simp)
        refine ⟨_, rfl, G, gs, fs, _, _, _, _, _, _, _, rfl, sY, eFY, ?_, eGY, ?_, GF⟩
        · rw [show fndT one other most (tn + 1) = fndT one other most tn ++ fnd other items from by rw [← hI]; rfl]
          exact hfY.imp fun _ _ h => LiV.mono h (fun b o _ e => e) (Tst.refl _) sb
        · rw [show lvl one other most (tn + 1) = items.flatMap (nxI other (decide (tn < most))) from by rw [← hI]; rfl]
          exact hgY.imp fun _ _ h => ItV.mono h (fun b o _ e => e) (Tst.refl _) sb
    · rintro σ HX ⟨Lv, lv, fs, y5, y6, y7, y8, y9, y10, y11, rfl, sX, eFX, hfs, eLv, hlv, LvF⟩
      rw [hcnt] at hfs
      exact ⟨_, rfl, q F0 fs HX nF sX eFX hfs⟩
end
end My

set_option Elab.async false
set_option linter.all false
set_option maxRecDepth 100000
set_option pp.maxSteps 500
set_option maxHeartbeats 4000000
namespace My
open PySem PySem.Spec PyProof.Rows L2 GxR
section
variable {P : Program} {w : World} {K : PySem.W.Frag} {mg : Str → Option Value} {base : Heap}
/-! ### _law_two_small -/
abbrev s__law_two_small : Stmt := topS 15
abbrev N__law_two_small : List Str := ["_law_left_here", "_law_many", "_law_one", "_law_way", "_law_other"]
theorem sc__law_two_small : FnScope N__law_two_small ["_law_left_here"] (defScope s__law_two_small) := ⟨rfl, rfl, rfl, by decide +kernel, rfl, by decide +kernel, by decide +kernel⟩
def sp_twos : Sp := fun vs H Q _ => ∃ (L : Addr) (c : Int), vs = [.ref L] ∧ Lf H L c ∧ c < 2 ^ 40 ∧
  ∀ (t p q : Addr) (n : Nat) (ms ns : List Int) (H' : Hp), n ≤ 5 → Fr L H H' → H' t = some (.tup [.ref p, .ref q]) → H' p = some (.lst (ms.map V.int)) → H' q = some (.lst (ns.map V.int)) → ms.Perm (up n) → ns.Perm (up n) → Q (.ref t) H'
theorem ok_twos {f : Addr} {fd : FuncData} (B : Bts mg) (F : Fun K "_law_two_small" "_law_two_small" s__law_two_small f fd) (c__law_pick : Cl P w K mg base 2 "_law_pick" sp_pick) (c__law_row : Cl P w K mg base 3 "_law_row" sp_row) : FnOk P w K mg base CX0 4 f fd ["_law_left_here"] sp_twos := by
  refine F.ok sc__law_two_small (fun vs H Q E h => ?_) (fun cdv A outer s H vs Q E hr h => ?_)
  · obtain ⟨L, c, rfl, _⟩ := h; rfl
  · obtain ⟨L, c, rfl, lf, hc, q⟩ := h
    refine ⟨_, (pss_cons (ps_set (i := 1) sc__law_two_small.nd rfl (by first | exact Or.inl rfl | exact Or.inr rfl) (pe_ix ix_list (pe_lst (pa_cons pe_int (pa_cons pe_int (pa_cons pe_int (pa_cons pe_int (pa_cons pe_int (pa_cons pe_int (pa_cons pe_int (pa_cons pe_int pa_nil))))))))) (pe_c c__law_pick hr (by decide) (by rfl) (pa_cons (pv 0) (pa_cons pe_int pa_nil))) (fun _ _ => rfl)))
    (pss_cons (ps_set (i := 2) sc__law_two_small.nd rfl (by first | exact Or.inl rfl | exact Or.inr rfl) (pe_c c__law_row hr (by decide) (by rfl) (pa_cons (pv 0) (pa_cons (pv 1) pa_nil))))
    (pss_cons (ps_set (i := 3) sc__law_two_small.nd rfl (by first | exact Or.inl rfl | exact Or.inr rfl) (pe_c c__law_pick hr (by decide) (by rfl) (pa_cons (pv 0) (pa_cons pe_int pa_nil))))
    (pss_cons (ps_if (pt_cmpR op_eq (pv 3) pe_int (nomark _)) (pss_one (ps_ret (pe_tup (pa_cons (pv 2) (pa_cons (pe_revL (pv 2)) pa_nil))))) pss_nil)
    (pss_cons (ps_set (i := 4) sc__law_two_small.nd rfl (by first | exact Or.inl rfl | exact Or.inr rfl) (pe_c c__law_row hr (by decide) (by rfl) (pa_cons (pv 0) (pa_cons (pv 1) pa_nil))))
    (pss_one (ps_ret (pe_ifExp (PW.pt (pw_or (pt_cmpR op_gt (pv 3) pe_int (nomark _)) (pw_or1 (pt_cmpR op_lt (pv 1) pe_int (nomark _))))) (pe_tup (pa_cons (pv 2) (pa_cons (pv 4) pa_nil))) (pe_tup (pa_cons (pv 2) (pa_cons (pe_op op_cat (pe_lst (pa_cons (pe_ix ix_list (pv 2) pe_int (fun _ _ => rfl)) (pa_cons (pe_ix ix_list (pv 2) pe_int (fun _ _ => rfl)) pa_nil))) (pe_slice sl_list (pv 2) (po_some pe_int) po_none)) pa_nil))))))))))), ?_⟩
    refine ⟨by show 8 ≤ sizeLine; decide, fun q0 nq0 => ?_⟩
    have s0 := same_new (o := .lst [.int 0, .int 1, .int 2, .int 3, .int 4, .int 4, .int 4, .int 5]) nq0
    have e0 := upd_same (H := H) (a := q0) (o := .lst [.int 0, .int 1, .int 2, .int 3, .int 4, .int 4, .int 4, .int 5])
    generalize upd H q0 (.lst [.int 0, .int 1, .int 2, .int 3, .int 4, .int 4, .int 4, .int 5]) = H0 at s0 e0 ⊢
    have q0L := lf.ne nq0
    refine ⟨_, rfl, L, 8, _, rfl, lf.same s0, by decide, by decide, by omega, fun j H1 j0 j1 fr1 lf1 => ?_⟩
    obtain ⟨n, hn, ej⟩ : ∃ n : Nat, n ≤ 5 ∧ atI [V.int 0, .int 1, .int 2, .int 3, .int 4, .int 4, .int 4, .int 5] j = some (.int (n : Int)) := by
      obtain ⟨k, rfl⟩ : ∃ k : Nat, j = (k : Int) := ⟨j.toNat, by omega⟩
      have hk : k < 8 := by omega
      match k, hk with
      | 0, _ => exact ⟨0, by decide, rfl⟩
      | 1, _ => exact ⟨1, by decide, rfl⟩
      | 2, _ => exact ⟨2, by decide, rfl⟩
      | 3, _ => exact ⟨3, by decide, rfl⟩
      | 4, _ => exact ⟨4, by decide, rfl⟩
      | 5, _ => exact ⟨4, by decide, rfl⟩
      | 6, _ => exact ⟨4, by decide, rfl⟩
      | 7, _ => exact ⟨5, by decide, rfl⟩
    refine ⟨q0, _, j, _, rfl, rfl, SqL.of (fr1 _ _ q0L e0), ej, ?_⟩
    refine ⟨_, rfl, _, rfl, L, n, _, rfl, lf1, by omega, by omega, fun p ms H2 np fr2 lf2 ep pm => ?_⟩
    have pL := lf1.ne np
    refine ⟨_, rfl, L, 4, _, rfl, lf2, by decide, by decide, by omega, fun wy H3 w0 w1 fr3 lf3 => ?_⟩
    have ep3 := fr3 _ _ pL ep
    have fr03 : Fr L H H3 := (Fr.of s0).trans (fr1.trans (fr2.trans fr3))
    have ml : ms.length = n := by rw [pm.length_eq, up_len]
    refine ⟨_, rfl, rfl, _, rfl, ite2 (fun e => ?_) (fun e => ?_)⟩
    · refine ⟨_, rfl, _, rfl, p, _, rfl, SqL.of ep3, fun g ng => ⟨by show 2 ≤ sizeLine; decide, fun t nt => ?_⟩⟩
      have sg := same_new (o := .lst (ms.map V.int).reverse) ng
      have st := same_new (o := .tup [.ref p, .ref g]) nt
      exact q t p g n ms ms.reverse _ hn (fr03.trans (Fr.of (sg.trans st))) upd_same (st _ _ (sg _ _ ep3)) (by rw [st _ _ upd_same, List.map_reverse]) pm ((List.reverse_perm ms).trans pm)
    refine ⟨_, rfl, _, rfl, L, n, _, rfl, lf3, by omega, by omega, fun p2 ns H4 np2 fr4 lf4 ep2 pn => ?_⟩
    have ep4 := fr4 _ _ pL ep3
    have fr04 := fr03.trans fr4
    have two : ∀ t, H4 t = none → Q (.ref t) (upd H4 t (.tup [.ref p, .ref p2])) := fun t nt => by
      have st := same_new (o := .tup [.ref p, .ref p2]) nt
      exact q t p p2 n ms ns _ hn (fr04.trans (Fr.of st)) upd_same (st _ _ ep4) (st _ _ ep2) pm pn
    refine ⟨_, rfl, _, _, rfl, rfl, _, rfl, ite2 (fun e => iteT ⟨_, rfl, _, rfl, by show 2 ≤ sizeLine; decide, two⟩) (fun e => ⟨_, rfl, _, _, rfl, rfl, _, rfl, ite2 (fun e2 => ⟨_, rfl, _, rfl, by show 2 ≤ sizeLine; decide, two⟩) (fun e2 => ?_)⟩)⟩
    have hn2 : 2 ≤ n := by
      have : ¬ ((n : Int) < 2) := by simpa using e2
      omega
    obtain ⟨a, b, rest, rfl⟩ : ∃ a b rest, ms = a :: b :: rest := by
      match ms, ml with
      | [], h => rw [List.length_nil] at h; omega
      | [x], h => rw [List.length_singleton] at h; omega
      | a :: b :: rest, _ => exact ⟨a, b, rest, rfl⟩
    refine ⟨_, rfl, _, rfl, p, _, _, _, rfl, rfl, SqL.of ep4, atI_nat (j := 1) rfl, _, rfl, p, _, _, _, rfl, rfl, SqL.of ep4, atI_nat (j := 0) rfl, by show 2 ≤ sizeLine; decide, fun g1 ng1 => ?_⟩
    have sg1 := same_new (o := .lst [.int b, .int a]) ng1
    refine ⟨_, rfl, 2, rfl, p, _, rfl, SqL.of (sg1 _ _ ep4), fun g2 ng2 => ?_⟩
    have ec : cutV ((a :: b :: rest).map V.int) (some 2) none = rest.map V.int := cutFrom _ 2
    have sg2 := same_new (o := .lst (cutV ((a :: b :: rest).map V.int) (some 2) none)) ng2
    refine ⟨g1, g2, _, _, rfl, rfl, sg2 _ _ upd_same, upd_same, ?_, fun g3 ng3 => ⟨by show 2 ≤ sizeLine; decide, fun t nt => ?_⟩⟩
    · show 2 + (cutV ((a :: b :: rest).map V.int) (some 2) none).length ≤ _
      rw [ec, List.length_map, sizeLine_eq]
      rw [List.length_cons, List.length_cons] at ml
      omega
    have sg3 := same_new (o := .lst ([V.int b, V.int a] ++ cutV ((a :: b :: rest).map V.int) (some 2) none)) ng3
    have st := same_new (o := .tup [.ref p, .ref g3]) nt
    have sAll := ((sg1.trans sg2).trans sg3).trans st
    have eg3 := st _ _ (upd_same (H := upd (upd H4 g1 (.lst [.int b, .int a])) g2 (.lst (cutV ((a :: b :: rest).map V.int) (some 2) none))) (a := g3) (o := .lst ([V.int b, V.int a] ++ cutV ((a :: b :: rest).map V.int) (some 2) none)))
    have eL : [V.int b, V.int a] ++ cutV ((a :: b :: rest).map V.int) (some 2) none = (b :: a :: rest).map V.int := by rw [ec]; rfl
    exact q t p g3 n (a :: b :: rest) (b :: a :: rest) _ hn (fr04.trans (Fr.of sAll)) upd_same (sAll _ _ ep4) (eg3.trans (by rw [eL])) pm ((List.Perm.swap a b rest).trans pm)
end
end My

set_option Elab.async false
set_option linter.all false
set_option maxRecDepth 100000
set_option pp.maxSteps 500
set_option maxHeartbeats 4000000
namespace My
open PySem PySem.Spec PyProof.Rows L2 GxR
open PySem.W (dataLt minD alike AlikeAll)
theorem crs_ex {g : Int → Int} : ∀ (n : Nat) (xs : List Int), (invG g xs).length ≤ n → ∃ G, CrsG g xs G := by
  intro n
  induction n with
  | zero =>
    intro xs h
    refine ⟨[], .nil (List.eq_nil_iff_forall_not_mem.mpr fun t ht => ?_)⟩
    obtain ⟨p, a, b, s, e, hg, _⟩ := wrgG_mem ht
    have pI := (invG_swap (g := g) (p := p) (s := s) hg).length_eq
    rw [← e, List.length_cons] at pI
    omega
  | succ n ih =>
    intro xs h
    by_cases z : wrgN g xs (xs.length - 1) = []
    · exact ⟨[], .nil (wrgN_nil z)⟩
    · obtain ⟨mn, hmn, hle⟩ := least_tn z
      obtain ⟨j, a, b, hj, h1, h2, hg, emn⟩ := wrgN_mem.mp hmn
      have es := split2 h1 h2
      have pI := (invG_swap (g := g) (p := xs.take j) (s := xs.drop (j + 2)) hg).length_eq
      rw [← es, List.length_cons] at pI
      obtain ⟨G, hG⟩ := ih (xs.take j ++ b :: a :: xs.drop (j + 2)) (by omega)
      have st : CrsG g (xs.take j ++ a :: b :: xs.drop (j + 2)) (tieO a b :: G) := .step hg (fun t ht => by
        rw [← es] at ht
        obtain ⟨i, hi⟩ := wrgN_all ht
        have := hle _ hi
        rw [emn] at this
        exact this) hG
      rw [← es] at st
      exact ⟨_, st⟩
theorem Ties.dropX {H : Hp} : ∀ {vs : List V} {ts : List (Int × Int)} (j : Nat), Ties H vs ts → Ties H (vs.drop j) (ts.drop j)
  | _, _, 0, h => h
  | [], [], _ + 1, _ => trivial
  | _ :: _, _ :: _, j + 1, h => Ties.dropX j h.2
  | [], _ :: _, _, h => h.elim
  | _ :: _, [], _, h => h.elim
theorem li_dpAll {K : PySem.W.Frag} {ex : List Addr} {H : Hp} : ∀ {vs : List V} {Ls : List (List (Int × Int))}, All2 (LiV ex H) vs Ls → DpAll K H vs (Ls.map dL)
  | [], [], _ => .nil
  | _ :: _, _ :: _, h => by
    obtain ⟨p, us, rfl, _, e, hT⟩ := h.1
    exact .cons (.lst (SqL.of e) hT.dp) (li_dpAll h.2)
  | [], _ :: _, h => h.elim
  | _ :: _, [], h => h.elim
theorem dep_dL : ∀ Ls : List (List (Int × Int)), PyData.depthAll (Ls.map dL) ≤ 4
  | [] => Nat.zero_le _
  | L :: Ls => by
    rw [List.map_cons, PyData.depthAll]
    refine Nat.max_le.mpr ⟨?_, dep_dL Ls⟩
    show PyData.depthAll (L.map dT) + 1 ≤ 4
    have := dep_ties L
    omega
section
variable {P : Program} {w : World} {K : PySem.W.Frag} {mg : Str → Option Value} {base : Heap}
/-! ### law -/
abbrev s_law : Stmt := topS 17
abbrev N_law : List Str := ["_law_script", "_law_k", "_law_left_here", "_law_one", "_law_other", "_law_ties", "_law_lists", "_law_some", "_law_told", "_law_at"]
theorem sc_law : FnScope N_law ["_law_script"] (defScope s_law) := ⟨rfl, rfl, rfl, by decide +kernel, rfl, by decide +kernel, by decide +kernel⟩
def sp_law (K : PySem.W.Frag) : Sp := fun vs H Q _ => ∃ (a : Addr) (ns : List Int), vs = [.ref a] ∧ SqL K H a (ns.map V.int) ∧ ns.length ≤ 63 ∧ ∀ H', Q (.bl true) H'
theorem ok_law {f : Addr} {fd : FuncData} (B : Bts mg) (F : Fun K "law" "law" s_law f fd) (c__law_left : Cl P w K mg base 1 "_law_left" (sp_left K)) (c__law_two_small : Cl P w K mg base 4 "_law_two_small" sp_twos) (c_crossed_web : Cl P w K mg base 2 "crossed_web" sp_cweb) (c__law_all_lists : Cl P w K mg base 2 "_law_all_lists" sp_alll) (c_crossings : Cl P w K mg base 3 "crossings" sp_crs) (c__law_same : Cl P w K mg base 5 "_law_same" (sp_same 5)) (c__law_walked : Cl P w K mg base 1 "_law_walked" sp_walked) : TopRun P w K mg base f fd "_law_script" (sp_law K) := by
  refine top_run (k := 29) F sc_law ⟨rfl, by decide, by decide⟩ fun cdv s H v Q E hr h => ?_
  obtain ⟨a, xs, e, hS, hl, q⟩ := h
  cases e
  refine ⟨_, (pss_cons (ps_for PassesOwn.never rfl (pi_range1 (by rfl) B.range (pa_cons (pe_callB (call_max2 rfl) (by rfl) B.max (by decide +kernel) (pa_cons pe_int (pa_cons (pe_callB (call_min2 rfl) (by rfl) B.min (by decide +kernel) (pa_cons (pe_callB call_len_seq (by rfl) B.len (by decide +kernel) (pa_cons (pv 0) pa_nil)) (pa_cons pe_int pa_nil))) pa_nil))) pa_nil)) (pg_name (i := 1) sc_law.nd rfl (by first | exact Or.inl rfl | exact Or.inr rfl))
      (pss_cons (ps_set (i := 2) sc_law.nd rfl (by first | exact Or.inl rfl | exact Or.inr rfl) (pe_c c__law_left hr (by decide) (by rfl) (pa_cons (pv 0) (pa_cons (pv 1) pa_nil))))
      (pss_cons (ps_asg (pe_c c__law_two_small hr (by decide) (by rfl) (pa_cons (pv 2) pa_nil)) (pg_tup rfl (pgs_cons (pg_name (i := 3) sc_law.nd rfl (by first | exact Or.inl rfl | exact Or.inr rfl)) (pgs_cons (pg_name (i := 4) sc_law.nd rfl (by first | exact Or.inl rfl | exact Or.inr rfl)) pgs_nil))))
      (pss_cons (ps_set (i := 5) sc_law.nd rfl (by first | exact Or.inl rfl | exact Or.inr rfl) (pe_ix ix_tup (pe_c c_crossed_web hr (by decide) (by rfl) (pa_cons (pv 3) (pa_cons (pv 4) pa_nil))) pe_int (fun _ _ => rfl)))
      (pss_cons (ps_set (i := 6) sc_law.nd rfl (by first | exact Or.inl rfl | exact Or.inr rfl) (pe_c c__law_all_lists hr (by decide) (by rfl) (pa_cons (pv 3) (pa_cons (pv 4) (pa_cons (pe_callB call_len_seq (by rfl) B.len (by decide +kernel) (pa_cons (pv 5) pa_nil)) pa_nil)))))
      (pss_cons (ps_if (pt_cmpR op_ne (pe_callB (cr_min rfl) (by rfl) B.min (by decide +kernel) (pa_cons (pe_lc (own := [("_law_some", 7)]) (g := (gName 7)) (tt := tYes) (te := (tCB (rLenK K) _)) rfl sc_law.nd (pi_list (pv 6)) (blkOk_by (own := [("_law_some", 7)]) (N := N_law) (sc := defScope s_law) (by decide +kernel)) (fun _ _ _ _ _ => (pg_name (i := 7) sc_law.nd rfl (by first | exact Or.inl rfl | exact Or.inr rfl))) (fun _ _ _ _ _ => pts_nil) (fun _ _ _ _ _ => (pe_callB call_len_seq (by rfl) B.len (by decide +kernel) (pa_cons (pv 7) pa_nil)))) pa_nil)) (pe_callB call_len_seq (by rfl) B.len (by decide +kernel) (pa_cons (pv 5) pa_nil)) (nomark _)) (pss_one (ps_ret pe_bl)) pss_nil)
      (pss_cons (ps_set (i := 8) sc_law.nd rfl (by first | exact Or.inl rfl | exact Or.inr rfl) (pe_c c_crossings hr (by decide) (by rfl) (pa_cons (pv 3) (pa_cons (pv 4) pa_nil))))
      (pss_cons (ps_if (PW.pt (pw_or (pt_not (pt_val (pe_c c__law_same hr (by decide) (by rfl) (pa_cons (pv 8) (pa_cons (pe_callB (cr_minD rfl (u65 hr)) (by rfl) B.min (by decide +kernel) (pa_cons (pv 6) pa_nil)) pa_nil))))) (pw_or1 (pt_cmpR (op_neD hr.units) (pe_callB cr_sortedPO (by rfl) B.sorted (by decide +kernel) (pa_cons (pv 8) pa_nil)) (pe_callTy call_list_of (by rfl) B.list (by decide +kernel) (pa_cons (pv 5) pa_nil)) (nomark _))))) (pss_one (ps_ret pe_bl)) pss_nil)
      (pss_one (ps_for PassesOwn.never rfl (pi_range1 (by rfl) B.range (pa_cons (pe_op op_add (pe_callB call_len_seq (by rfl) B.len (by decide +kernel) (pa_cons (pv 8) pa_nil)) pe_int) pa_nil)) (pg_name (i := 9) sc_law.nd rfl (by first | exact Or.inl rfl | exact Or.inr rfl))
        (pss_one (ps_if (pt_cmpR (op_neD hr.units) (pe_c c_crossings hr (by decide) (by rfl) (pa_cons (pe_c c__law_walked hr (by decide) (by rfl) (pa_cons (pv 3) (pa_cons (pe_slice sl_list (pv 8) po_none (po_some (pv 9))) pa_nil))) (pa_cons (pv 4) pa_nil))) (pe_slice sl_list (pv 8) (po_some (pv 9)) po_none) (nomark _)) (pss_one (ps_ret pe_bl)) pss_nil))))))))))))
    (pss_one (ps_ret pe_bl))), ?_⟩
  refine ⟨_, rfl, a, _, rfl, .inl hS, _, _, rfl, _, _, rfl, _, rfl, ?_, ?_, ?_⟩
  · split <;> omega
  · rw [List.length_map]; split <;> omega
  refine for_range (fun k σ H1 => ∃ y1 y2 y3 y4 y5 y6 y7 y8 y9, σ = [some (.ref a), y1, y2, y3, y4, y5, y6, y7, y8, y9] ∧ Same H H1) ⟨none, none, none, none, none, none, none, none, none, rfl, same_refl H⟩ ?_ ?_
  · rintro k σ H1 hk ⟨y1, y2, y3, y4, y5, y6, y7, y8, y9, rfl, S1⟩
    have hk' : k < 100 := by
      refine Nat.lt_of_lt_of_le hk ?_
      rw [List.length_map]; split <;> omega
    refine ⟨_, rfl, _, rfl, a, xs, _, rfl, sq_same S1 hS, by omega, by omega, fun L H2 nL s2 lf2 => ?_⟩
    have nL0 : H L = none := same_free S1 nL
    refine ⟨_, rfl, L, _, rfl, lf2, by decide, fun t p q' n ms ns H3 hn fr3 et ep eq pm pn => ?_⟩
    have S3 : Same H H3 := same_fr (S1.trans s2) nL0 fr3
    have mln : ms.length = n := by rw [pm.length_eq, up_len]
    have nln : ns.length = n := by rw [pn.length_eq, up_len]
    have ndm := nd_upX pm
    have ndn := nd_upX pn
    have pmn : ms.Perm ns := pm.trans pn.symm
    refine ⟨t, _, rfl, SqT.of et, rfl, _, _, rfl, _, _, rfl, rfl, ?_⟩
    refine ⟨_, rfl, _, rfl, p, q', n, ms, ns, rfl, ep, eq, pm, pn, by omega, fun u H4 s4 hWeb => ?_⟩
    obtain ⟨pw, qw, uw, rfl, epw, eqw, hTw⟩ := hWeb
    refine ⟨pw, _, _, _, rfl, rfl, SqT.of epw, rfl, ?_⟩
    have pcr := inv_cr pm pn
    have uwl : uw.length = nInv ms ns := by rw [hTw.len, ← pcr.length_eq]; rfl
    have N10 : nInv ms ns ≤ 10 := by
      have h1 : (crL ms ns (pup n n)).length ≤ (pup n n).length := List.length_filter_le _ _
      have h2 : (pup n n).length ≤ 10 := by
        have : ∀ m : Nat, m < 6 → (pup m m).length ≤ 10 := by decide +kernel
        exact this n (by omega)
      unfold nInv
      rw [pcr.length_eq]; omega
    refine ⟨_, rfl, _, rfl, _, rfl, qw, uw, rfl, .inr (SqT.of eqw), ?_⟩
    rw [uwl]
    refine ⟨p, q', ms, ns, nInv ms ns, rfl, s4 _ _ ep, s4 _ _ eq, pmn, ndn, by omega, N10, fun F0 fs H5 nF s5 eF hfs => ?_⟩
    have inj : InjG (fun x => (ns.idxOf x : Int)) ms := fun x hx y hy e => idx_injX (pmn.mem_iff.mp hx) (pmn.mem_iff.mp hy) e
    obtain ⟨G, hG⟩ := crs_ex (g := fun x => (ns.idxOf x : Int)) _ ms (Nat.le_refl _)
    have Gl : G.length = nInv ms ns := (hG.inv ndm inj).length_eq
    have Gin : G ∈ fndT ms ns (nInv ms ns) (nInv ms ns + 1) := by
      obtain ⟨cur, h1, h2⟩ := crs_cut hG .refl G.length (Nat.le_refl _)
      rw [List.drop_length] at h2
      rw [List.take_length, List.nil_append] at h1
      cases h2 with
      | nil h0 =>
      have ec := wrg_end (h1.perm.trans pmn) ndn h0
      subst ec
      have := lvl_greedy (most := nInv ms cur) pmn ndn rfl h1 rfl
      rw [Gl] at this
      refine List.mem_append_right _ ?_
      unfold fnd
      exact List.mem_map.mpr ⟨(G, cur), List.mem_filter.mpr ⟨this, decide_eq_true rfl⟩, rfl⟩
    have Lok : ∀ l ∈ fndT ms ns (nInv ms ns) (nInv ms ns + 1), Exs ms l ns ∧ l.length = nInv ms ns := fun l hl => by
      obtain ⟨h1, h2⟩ := fndT_ok ndm hl
      have h3 := exs_len h1 inj
      rw [srtG_inv (srt_idx ndn), List.length_nil] at h3
      have : nInv ms ns ≤ 0 + l.length := h3
      exact ⟨h1, by omega⟩
    have fl4 : (fndT ms ns (nInv ms ns) (nInv ms ns + 1)).length ≤ 4194304 := Nat.le_trans (fndT_len ndm (by omega) _) (Nat.le_trans (Nat.pow_le_pow_right (by decide) (by omega : nInv ms ns + 1 ≤ 11)) (by decide))
    generalize fndT ms ns (nInv ms ns) (nInv ms ns + 1) = Ls at *
    have fsl := hfs.len
    have S5 := S3.trans (s4.trans s5)
    refine ⟨_, rfl, F0, rfl, ⟨_, SqL.of eF⟩, fun D nD => ?_⟩
    refine lc_list (K := K) (a := F0) (xs := fs) (fun i H6 => Same H5 H6 ∧ H6 D = some (.lst (((Ls.take i).map fun l => (l.length : Int)).map V.int))) ⟨same_new nD, upd_same⟩ ?_ ?_ ?_
    · rintro i H6 _ ⟨s6, _⟩
      exact SqL.of (s6 _ _ eF)
    · rintro i v H6 hv ⟨s6, eD⟩
      obtain ⟨l, el, hl⟩ := hfs.at hv
      obtain ⟨pl, us, rfl, _, epl, hTl⟩ := hl.same s6
      have hi := (List.getElem?_eq_some_iff.mp el).1
      refine ⟨rfl, yes ?_⟩
      refine ⟨_, rfl, pl, us, rfl, .inl (SqL.of epl), ?_⟩
      refine ⟨_, eD, by rw [List.length_map, List.length_map, List.length_take, sizeLine_eq]; omega, Same.put s6 nD, ?_⟩
      rw [upd_same, List.take_add_one, el, List.map_append, List.map_append, hTl.len]; rfl
    · rintro H6 ⟨s6, eD⟩
      rw [fsl, List.take_length] at eD
      refine ⟨D, _, rfl, SqL.of eD, ?_, fun m hm hle => ?_⟩
      · rw [List.length_map]; exact List.length_pos_of_mem Gin
      have em : m = (nInv ms ns : Int) := by
        obtain ⟨l, hl, rfl⟩ := List.mem_map.mp hm
        rw [(Lok l hl).2]
      have s46 := s5.trans s6
      have eqw6 := s46 _ _ eqw
      refine ⟨_, rfl, qw, uw, rfl, .inr (SqT.of eqw6), rfl, _, rfl, ?_⟩
      rw [uwl, em, decide_eq_true rfl]
      refine iteF ?_
      have ep6 := s46 _ _ (s4 _ _ ep)
      have eq6 := s46 _ _ (s4 _ _ eq)
      refine ⟨_, rfl, _, rfl, p, q', ms, ns, rfl, ep6, eq6, pmn, ndm, by omega, fun T uT l H7 nT s7 eT hT hC => ?_⟩
      have el := hG.uniq ndm hC
      subst el
      have s57 := s6.trans s7
      have hfs7 := hfs.imp fun _ _ h => LiV.same h s57
      have eF7 := s57 _ _ eF
      obtain ⟨d0, ds, edd⟩ : ∃ d0 ds, Ls.map dL = d0 :: ds := by
        cases e : Ls.map dL with
        | nil =>
          have := List.map_eq_nil_iff.mp e
          rw [this] at Gin
          exact absurd Gin List.not_mem_nil
        | cons d ds => exact ⟨d, ds, rfl⟩
      have mem_of : ∀ d ∈ d0 :: ds, ∃ r ∈ Ls, d = dL r := fun d hd => by
        rw [← edd] at hd
        obtain ⟨r, hr, e⟩ := List.mem_map.mp hd
        exact ⟨r, hr, e.symm⟩
      have emin : minD d0 ds = dL l := minD_one (by rw [← edd]; exact List.mem_map.mpr ⟨l, Gin, rfl⟩) (fun d hd ne => by
        obtain ⟨r, hr, rfl⟩ := mem_of d hd
        obtain ⟨h1, h2⟩ := Lok r hr
        rcases crs_least hC ndm inj h1 (srtG_inv (srt_idx ndn)) (by rw [h2, Gl]) with h | h
        · exact absurd (by rw [h]) ne
        · exact dlt_dL h) (dlt_irrL l)
      refine ⟨_, rfl, _, rfl, F0, fs, d0, ds, rfl, SqL.of eF7, by rw [← edd]; exact li_dpAll hfs7, ⟨fun x hx y hy => ?_, fun x hx => ?_⟩, by rw [← edd]; exact Nat.le_trans (dep_dL Ls) (by decide), fun x i ex ei => ?_⟩
      · obtain ⟨r, hr, rfl⟩ := mem_of x hx
        obtain ⟨r', hr', rfl⟩ := mem_of y hy
        exact alike_dL (by rw [(Lok r hr).2, (Lok r' hr').2])
      · obtain ⟨r, _, rfl⟩ := mem_of x hx
        exact fun w => by cases w
      obtain ⟨r, er, hr⟩ := hfs7.at ex
      rw [← edd, List.getElem?_map, er, emin] at ei
      obtain rfl := dL_inj (Option.some.inj ei)
      obtain ⟨pr, ur, rfl, _, epr, hTr⟩ := hr
      have ll : r.length ≤ 10 := by omega
      refine ⟨.ref T, .ref pr, rfl, (lst_eqd eT epr hT hTr (by omega)).up.up, fun H8 s8 => ⟨true, rfl, iteF ?_⟩⟩
      have pwc : (crL ms ns (pup n n)).Pairwise ltT := (pup_pw n n (Nat.le_refl n)).sublist List.filter_sublist
      have ndc : (crL ms ns (pup n n)).Nodup := pwc.imp fun {a b} (k : ltT a b) (e : a = b) => ltT_irr (s := b) (by rw [e] at k; exact k)
      have eT8 := s8 _ _ eT
      have hT8 := hT.mono (Same.tst s8)
      refine ⟨_, rfl, T, uT, My.key H8, rfl, SqL.of eT8, hT8.all, fun ys p1 hs hst np1 => ?_⟩
      obtain ⟨ts', hT', pm', pw'⟩ := srt_ties hs hst.perm hT8
      have ets : ts' = crL ms ns (pup n n) := srt_eq (pm'.trans ((hC.inv ndm inj).trans pcr)) ndc pw' pwc fun x => Iff.rfl
      subst ets
      have s9 := same_new (o := .lst ys) np1
      have ep1 := upd_same (H := H8) (a := p1) (o := .lst ys)
      have hT9 := hT'.mono (Same.tst s9)
      generalize upd H8 p1 (.lst ys) = H9 at s9 ep1 hT9 ⊢
      have s79 := s8.trans s9
      have s69 := s7.trans s79
      have eqw9 := s69 _ _ eqw6
      refine ⟨_, rfl, qw, uw, rfl, .inr (SqT.of eqw9), fun g ng => ?_⟩
      have sg := same_new (o := .lst uw) ng
      have hTw9 := hTw.mono (Same.tst ((s46.trans s69).trans sg))
      refine ⟨.list ((crL ms ns (pup n n)).map dT), .list ((crL ms ns (pup n n)).map dT), .lst (SqL.of (sg _ _ ep1)) (hT9.mono (Same.tst sg)).dp, .lst (SqL.of upd_same) hTw9.dp, shaped_ties _, shaped_ties _, _, rfl, ?_⟩
      rw [eqv_ties]
      refine iteF ?_
      have s7g := s79.trans sg
      have eTg := s7g _ _ eT
      have hTg := hT.mono (Same.tst s7g)
      have s6g := s69.trans sg
      have epg := s6g _ _ ep6
      have eqg := s6g _ _ eq6
      have Sg : Same H (upd H9 g (.lst uw)) := (S5.trans s6).trans s6g
      generalize upd H9 g (.lst uw) = Hg at sg s7g eTg hTg s6g epg eqg Sg ⊢
      have uTl := hT.len
      refine ⟨_, rfl, T, uT, rfl, .inl (SqL.of eTg), _, _, rfl, rfl, _, rfl, ?_, ?_, ?_⟩
      · omega
      · omega
      have hcnt : ((uT.length : Int) + 1).toNat = r.length + 1 := by omega
      refine for_range (fun i σ HX => ∃ y7 y9, σ = [some (.ref a), some (.int (0 + (k : Int))), some (.ref L), some (.ref p), some (.ref q'), some (.ref qw), some (.ref F0), y7, some (.ref T), y9] ∧ Same Hg HX) ⟨_, _, rfl, Same.refl _⟩ ?_ ?_
      · rintro i σ HX hi ⟨z7, z9, rfl, sX⟩
        rw [hcnt] at hi
        obtain ⟨cur, h1, h2⟩ := crs_cut hC .refl i (by omega)
        rw [List.nil_append] at h1
        have eTX := sX _ _ eTg
        have hTX := hTg.mono (Same.tst sX)
        have ei : (0 + (i : Int)) = ((i : Nat) : Int) := by omega
        refine ⟨_, rfl, _, rfl, _, rfl, _, rfl, T, _, rfl, SqL.of eTX, fun g1 ng1 => ?_⟩
        have ec1 : cutV uT none (some (0 + (i : Int))) = uT.take i := by rw [ei]; exact cutTo uT i
        have sg1 := same_new (o := .lst (cutV uT none (some (0 + (i : Int))))) ng1
        have eg1 : (upd HX g1 (.lst (cutV uT none (some (0 + (i : Int)))))) g1 = some (.lst (uT.take i)) := by rw [upd_same, ec1]
        refine ⟨p, g1, ms, cur, r.take i, uT.take i, rfl, sg1 _ _ (sX _ _ epg), eg1, (hTX.take i).mono (Same.tst sg1), h1.exs, ndm, by omega, fun p7 H12 np7 s12 ep7 => ?_⟩
        have s1a := sg1.trans s12
        have pcc := h1.perm
        refine ⟨_, rfl, p7, q', cur, ns, rfl, ep7, s1a _ _ (sX _ _ eqg), pcc.trans pmn, pcc.nodup_iff.mpr ndm, by rw [pcc.length_eq]; omega, fun T2 u2 l2 H13 nT2 s13 eT2 hT2 hC2 => ?_⟩
        have e2 := h2.uniq (pcc.nodup_iff.mpr ndm) hC2
        subst e2
        have s1b := s1a.trans s13
        refine ⟨_, rfl, _, rfl, _, rfl, T, _, rfl, SqL.of (s1b _ _ eTX), fun g2 ng2 => ?_⟩
        have ec2 : cutV uT (some (0 + (i : Int))) none = uT.drop i := by rw [ei]; exact cutFrom uT i
        have sg2 := same_new (o := .lst (cutV uT (some (0 + (i : Int))) none)) ng2
        have eg2 : (upd H13 g2 (.lst (cutV uT (some (0 + (i : Int))) none))) g2 = some (.lst (uT.drop i)) := by rw [upd_same, ec2]
        have hTd := ((hTX.mono (Same.tst s1b)).mono (Same.tst sg2)).dropX i
        refine ⟨.list ((r.drop i).map dT), .list ((r.drop i).map dT), .lst (SqL.of (sg2 _ _ eT2)) (hT2.mono (Same.tst sg2)).dp, .lst (SqL.of eg2) hTd.dp, shaped_ties _, shaped_ties _, _, rfl, ?_⟩
        rw [eqv_ties]
        exact iteF ⟨_, _, rfl, sX.trans (s1b.trans sg2)⟩
      · rintro σ HX ⟨z7, z9, rfl, sX⟩
        exact ⟨_, _, _, _, _, _, _, _, _, rfl, Sg.trans sX⟩
  · rintro σ H1 ⟨y1, y2, y3, y4, y5, y6, y7, y8, y9, rfl, S1⟩
    exact q H1
end
end My

set_option Elab.async false
set_option linter.all false
set_option maxRecDepth 100000
set_option maxHeartbeats 8000000
namespace My
open PySem PySem.Spec PyProof.Rows L2 GxR
/-! ### the head -/
def d_tie_of : He.DefD := ⟨("tie_of", none), "tie_of", "tie_of", defArgs s_tie_of, defBody s_tie_of, defScope s_tie_of, [], []⟩
def d_stands_in : He.DefD := ⟨("stands_in", none), "stands_in", "stands_in", defArgs s_stands_in, defBody s_stands_in, defScope s_stands_in, [], []⟩
def d_crossed_web : He.DefD := ⟨("crossed_web", none), "crossed_web", "crossed_web", defArgs s_crossed_web, defBody s_crossed_web, defScope s_crossed_web, [], []⟩
def d_crossings : He.DefD := ⟨("crossings", none), "crossings", "crossings", defArgs s_crossings, defBody s_crossings, defScope s_crossings, [], []⟩
def d_wrong_neighbours : He.DefD := ⟨("wrong_neighbours", none), "wrong_neighbours", "wrong_neighbours", defArgs s_wrong_neighbours, defBody s_wrong_neighbours, defScope s_wrong_neighbours, [], []⟩
def d__law_mix : He.DefD := ⟨("_law_mix", none), "_law_mix", "_law_mix", defArgs s__law_mix, defBody s__law_mix, defScope s__law_mix, [], []⟩
def d__law_left : He.DefD := ⟨("_law_left", none), "_law_left", "_law_left", defArgs s__law_left, defBody s__law_left, defScope s__law_left, [], []⟩
def d__law_pick : He.DefD := ⟨("_law_pick", none), "_law_pick", "_law_pick", defArgs s__law_pick, defBody s__law_pick, defScope s__law_pick, [], []⟩
def d__law_same : He.DefD := ⟨("_law_same", none), "_law_same", "_law_same", defArgs s__law_same, defBody s__law_same, defScope s__law_same, [], []⟩
def d__law_row : He.DefD := ⟨("_law_row", none), "_law_row", "_law_row", defArgs s__law_row, defBody s__law_row, defScope s__law_row, [], []⟩
def d__law_walked : He.DefD := ⟨("_law_walked", none), "_law_walked", "_law_walked", defArgs s__law_walked, defBody s__law_walked, defScope s__law_walked, [], []⟩
def d__law_two_small : He.DefD := ⟨("_law_two_small", none), "_law_two_small", "_law_two_small", defArgs s__law_two_small, defBody s__law_two_small, defScope s__law_two_small, [], []⟩
def d__law_all_lists : He.DefD := ⟨("_law_all_lists", none), "_law_all_lists", "_law_all_lists", defArgs s__law_all_lists, defBody s__law_all_lists, defScope s__law_all_lists, [], []⟩
def d_law : He.DefD := ⟨("law", none), "law", "law", defArgs s_law, defBody s_law, defScope s_law, [], []⟩
def fns : List He.DefD := [d_tie_of, d_stands_in, d_crossed_web, d_crossings, d_wrong_neighbours, d__law_mix, d__law_left, d__law_pick, d__law_same, d__law_row, d__law_walked, d__law_two_small, d__law_all_lists, d_law]
def fas : List He.Fa := [.glo "tie_of", .glo "stands_in", .glo "crossed_web", .glo "crossings", .glo "wrong_neighbours", .glo "_law_mix", .glo "_law_left", .glo "_law_pick", .glo "_law_same", .glo "_law_row", .glo "_law_walked", .glo "_law_two_small", .glo "_law_all_lists", .glo "law", .free "len", .free "range", .free "tuple", .free "list", .free "int", .free "abs", .free "min", .free "sorted", .free "set", .free "all", .free "any", .free "enumerate", .free "zip", .free "isinstance", .free "bool", .free "str", .free "dict", .free "max", .free "reversed", .free "sum"]
def tfs : List He.Defn := []
abbrev Rw : PySem.W.OpenRow := PySem.W.OpenLaw.row PySem.Challenge.rw_pointedties_k92_whole_exchanges_beside_a
def exf (K : PySem.W.Frag) : Bool := true
abbrev hk : PySem.W.Hook := He.hookX 4 fas fns [] tfs exf
def ob (s : PySem.W.SharedT) : He.AlX := He.obsX 4 fas fns [] tfs exf (HandSHeadRun.getT s)
theorem ob_eq (s : PySem.W.SharedT) : ob s = hk.obs s.abs := He.obsX_eq (HandSHeadRun.getT_eq s)
abbrev others : List Str := [("tie_of" : Str), ("stands_in" : Str), ("crossed_web" : Str), ("crossings" : Str), ("wrong_neighbours" : Str), ("_law_mix" : Str), ("_law_left" : Str), ("_law_pick" : Str), ("_law_same" : Str), ("_law_row" : Str), ("_law_walked" : Str), ("_law_two_small" : Str), ("_law_all_lists" : Str), ("__name__" : Str), ("__name__" : Str), ("__name__" : Str), ("__name__" : Str)]
theorem run (w : World) : HandSHeadRun.RunEq Rw (PySem.W.view Rw.prog [17]) hk ob 4000 others w := by
  intro os; kernel_rfl

theorem code_of {K : PySem.W.Frag} {x q : Str} {st : Stmt} {p : He.Defn} {fd : FuncData} (F : Fun K x q st (He.fAd K p) fd) : fd.code = .ref (He.codeOf K p) := by
  obtain ⟨oc, od, kV, doc, pm, an, cdv, ct, osl, rfl, lk, hcd⟩ := F.ex
  cases cdv with
  | ref c => rw [He.codeOf_eq lk rfl]
  | _ => cases hcd
theorem law_ok {P : Program} {w : World} {K : PySem.W.Frag} {h : Heap} {mg : Str → Option Value} {f : Addr} (X : K.In h) (G : h.Ns mainGlobals mg) (hfa : mg ("law" : Str) = some (.ref f)) (c : He.SaysX fas fns [] tfs exf w h K) :
    ∃ fd : FuncData, (∀ (s : Shared) (v : Value), BindsTo s fd ⟨[v], []⟩ [("_law_script", v)]) ∧ ∀ base : Heap, K.In base → base.Ns mainGlobals mg → (∀ p ∈ tfs.map (He.cT K), LamX.TabB base mg p.1 p.2) →
      TopRun P w K mg base f fd "_law_script" (sp_law K ) := by
    have cd := c.t.d
    obtain ⟨fd_tie_of, F_tie_of⟩ := cd.def_ 0 (d := d_tie_of) rfl
    have b_tie_of : Binds K fd_tie_of ["a", "b"] [] := F_tie_of.bindsN fun _ _ _ _ _ _ us hl => match us, hl with | [_, _], _ => rfl
    have g_tie_of : mg "tie_of" = some (.ref (He.ga K "tie_of")) := He.glo_ok X G (cd.fact 0 (f := .glo "tie_of") rfl)
    have U_tie_of : Fun K "tie_of" "tie_of" s_tie_of (He.ga K "tie_of") fd_tie_of := fun_of F_tie_of
    obtain ⟨fd_stands_in, F_stands_in⟩ := cd.def_ 1 (d := d_stands_in) rfl
    have b_stands_in : Binds K fd_stands_in ["row"] [] := F_stands_in.bindsN fun _ _ _ _ _ _ us hl => match us, hl with | [_], _ => rfl
    have g_stands_in : mg "stands_in" = some (.ref (He.ga K "stands_in")) := He.glo_ok X G (cd.fact 1 (f := .glo "stands_in") rfl)
    have U_stands_in : Fun K "stands_in" "stands_in" s_stands_in (He.ga K "stands_in") fd_stands_in := fun_of F_stands_in
    obtain ⟨fd_crossed_web, F_crossed_web⟩ := cd.def_ 2 (d := d_crossed_web) rfl
    have b_crossed_web : Binds K fd_crossed_web ["one", "other"] [] := F_crossed_web.bindsN fun _ _ _ _ _ _ us hl => match us, hl with | [_, _], _ => rfl
    have g_crossed_web : mg "crossed_web" = some (.ref (He.ga K "crossed_web")) := He.glo_ok X G (cd.fact 2 (f := .glo "crossed_web") rfl)
    have U_crossed_web : Fun K "crossed_web" "crossed_web" s_crossed_web (He.ga K "crossed_web") fd_crossed_web := fun_of F_crossed_web
    obtain ⟨fd_crossings, F_crossings⟩ := cd.def_ 3 (d := d_crossings) rfl
    have b_crossings : Binds K fd_crossings ["one", "other"] [] := F_crossings.bindsN fun _ _ _ _ _ _ us hl => match us, hl with | [_, _], _ => rfl
    have g_crossings : mg "crossings" = some (.ref (He.ga K "crossings")) := He.glo_ok X G (cd.fact 3 (f := .glo "crossings") rfl)
    have U_crossings : Fun K "crossings" "crossings" s_crossings (He.ga K "crossings") fd_crossings := fun_of F_crossings
    obtain ⟨fd_wrong_neighbours, F_wrong_neighbours⟩ := cd.def_ 4 (d := d_wrong_neighbours) rfl
    have b_wrong_neighbours : Binds K fd_wrong_neighbours ["row", "goal"] [] := F_wrong_neighbours.bindsN fun _ _ _ _ _ _ us hl => match us, hl with | [_, _], _ => rfl
    have g_wrong_neighbours : mg "wrong_neighbours" = some (.ref (He.ga K "wrong_neighbours")) := He.glo_ok X G (cd.fact 4 (f := .glo "wrong_neighbours") rfl)
    have U_wrong_neighbours : Fun K "wrong_neighbours" "wrong_neighbours" s_wrong_neighbours (He.ga K "wrong_neighbours") fd_wrong_neighbours := fun_of F_wrong_neighbours
    obtain ⟨fd__law_mix, F__law_mix⟩ := cd.def_ 5 (d := d__law_mix) rfl
    have b__law_mix : Binds K fd__law_mix ["_law_cell", "_law_k"] [] := F__law_mix.bindsN fun _ _ _ _ _ _ us hl => match us, hl with | [_, _], _ => rfl
    have g__law_mix : mg "_law_mix" = some (.ref (He.ga K "_law_mix")) := He.glo_ok X G (cd.fact 5 (f := .glo "_law_mix") rfl)
    have U__law_mix : Fun K "_law_mix" "_law_mix" s__law_mix (He.ga K "_law_mix") fd__law_mix := fun_of F__law_mix
    obtain ⟨fd__law_left, F__law_left⟩ := cd.def_ 6 (d := d__law_left) rfl
    have b__law_left : Binds K fd__law_left ["_law_script", "_law_k"] [] := F__law_left.bindsN fun _ _ _ _ _ _ us hl => match us, hl with | [_, _], _ => rfl
    have g__law_left : mg "_law_left" = some (.ref (He.ga K "_law_left")) := He.glo_ok X G (cd.fact 6 (f := .glo "_law_left") rfl)
    have U__law_left : Fun K "_law_left" "_law_left" s__law_left (He.ga K "_law_left") fd__law_left := fun_of F__law_left
    obtain ⟨fd__law_pick, F__law_pick⟩ := cd.def_ 7 (d := d__law_pick) rfl
    have b__law_pick : Binds K fd__law_pick ["_law_left_here", "_law_many"] [] := F__law_pick.bindsN fun _ _ _ _ _ _ us hl => match us, hl with | [_, _], _ => rfl
    have g__law_pick : mg "_law_pick" = some (.ref (He.ga K "_law_pick")) := He.glo_ok X G (cd.fact 7 (f := .glo "_law_pick") rfl)
    have U__law_pick : Fun K "_law_pick" "_law_pick" s__law_pick (He.ga K "_law_pick") fd__law_pick := fun_of F__law_pick
    obtain ⟨fd__law_same, F__law_same⟩ := cd.def_ 8 (d := d__law_same) rfl
    have b__law_same : Binds K fd__law_same ["_law_found", "_law_due"] [] := F__law_same.bindsN fun _ _ _ _ _ _ us hl => match us, hl with | [_, _], _ => rfl
    have g__law_same : mg "_law_same" = some (.ref (He.ga K "_law_same")) := He.glo_ok X G (cd.fact 8 (f := .glo "_law_same") rfl)
    have U__law_same : Fun K "_law_same" "_law_same" s__law_same (He.ga K "_law_same") fd__law_same := fun_of F__law_same
    obtain ⟨fd__law_row, F__law_row⟩ := cd.def_ 9 (d := d__law_row) rfl
    have b__law_row : Binds K fd__law_row ["_law_left_here", "_law_many"] [] := F__law_row.bindsN fun _ _ _ _ _ _ us hl => match us, hl with | [_, _], _ => rfl
    have g__law_row : mg "_law_row" = some (.ref (He.ga K "_law_row")) := He.glo_ok X G (cd.fact 9 (f := .glo "_law_row") rfl)
    have U__law_row : Fun K "_law_row" "_law_row" s__law_row (He.ga K "_law_row") fd__law_row := fun_of F__law_row
    obtain ⟨fd__law_walked, F__law_walked⟩ := cd.def_ 10 (d := d__law_walked) rfl
    have b__law_walked : Binds K fd__law_walked ["_law_one", "_law_ties"] [] := F__law_walked.bindsN fun _ _ _ _ _ _ us hl => match us, hl with | [_, _], _ => rfl
    have g__law_walked : mg "_law_walked" = some (.ref (He.ga K "_law_walked")) := He.glo_ok X G (cd.fact 10 (f := .glo "_law_walked") rfl)
    have U__law_walked : Fun K "_law_walked" "_law_walked" s__law_walked (He.ga K "_law_walked") fd__law_walked := fun_of F__law_walked
    obtain ⟨fd__law_two_small, F__law_two_small⟩ := cd.def_ 11 (d := d__law_two_small) rfl
    have b__law_two_small : Binds K fd__law_two_small ["_law_left_here"] [] := F__law_two_small.bindsN fun _ _ _ _ _ _ us hl => match us, hl with | [_], _ => rfl
    have g__law_two_small : mg "_law_two_small" = some (.ref (He.ga K "_law_two_small")) := He.glo_ok X G (cd.fact 11 (f := .glo "_law_two_small") rfl)
    have U__law_two_small : Fun K "_law_two_small" "_law_two_small" s__law_two_small (He.ga K "_law_two_small") fd__law_two_small := fun_of F__law_two_small
    obtain ⟨fd__law_all_lists, F__law_all_lists⟩ := cd.def_ 12 (d := d__law_all_lists) rfl
    have b__law_all_lists : Binds K fd__law_all_lists ["_law_one", "_law_other", "_law_most"] [] := F__law_all_lists.bindsN fun _ _ _ _ _ _ us hl => match us, hl with | [_, _, _], _ => rfl
    have g__law_all_lists : mg "_law_all_lists" = some (.ref (He.ga K "_law_all_lists")) := He.glo_ok X G (cd.fact 12 (f := .glo "_law_all_lists") rfl)
    have U__law_all_lists : Fun K "_law_all_lists" "_law_all_lists" s__law_all_lists (He.ga K "_law_all_lists") fd__law_all_lists := fun_of F__law_all_lists
    obtain ⟨fd_law, F_law⟩ := cd.def_ 13 (d := d_law) rfl
    have b_law : Binds K fd_law ["_law_script"] [] := F_law.bindsN fun _ _ _ _ _ _ us hl => match us, hl with | [_], _ => rfl
    have g_law : mg "law" = some (.ref (He.ga K "law")) := He.glo_ok X G (cd.fact 13 (f := .glo "law") rfl)
    have bA_law := FunD.bindsA (ps := ["_law_script"]) F_law fun _ _ _ _ _ _ us hl => match us, hl with | [_], _ => rfl
    have U_law : Fun K "law" "law" s_law (He.ga K "law") fd_law := fun_of F_law
    have B : Bts mg := ⟨He.free_ok X G (cd.fact 14 (f := .free "len") rfl), He.free_ok X G (cd.fact 15 (f := .free "range") rfl), He.free_ok X G (cd.fact 16 (f := .free "tuple") rfl), He.free_ok X G (cd.fact 17 (f := .free "list") rfl), He.free_ok X G (cd.fact 18 (f := .free "int") rfl), He.free_ok X G (cd.fact 19 (f := .free "abs") rfl), He.free_ok X G (cd.fact 20 (f := .free "min") rfl), He.free_ok X G (cd.fact 21 (f := .free "sorted") rfl), He.free_ok X G (cd.fact 22 (f := .free "set") rfl), He.free_ok X G (cd.fact 23 (f := .free "all") rfl), He.free_ok X G (cd.fact 24 (f := .free "any") rfl), He.free_ok X G (cd.fact 25 (f := .free "enumerate") rfl), He.free_ok X G (cd.fact 26 (f := .free "zip") rfl), He.free_ok X G (cd.fact 27 (f := .free "isinstance") rfl), He.free_ok X G (cd.fact 28 (f := .free "bool") rfl), He.free_ok X G (cd.fact 29 (f := .free "str") rfl), He.free_ok X G (cd.fact 30 (f := .free "dict") rfl), He.free_ok X G (cd.fact 31 (f := .free "max") rfl), He.free_ok X G (cd.fact 32 (f := .free "reversed") rfl), He.free_ok X G (cd.fact 33 (f := .free "sum") rfl)⟩
    have cmn := c.more

    have e := hfa.symm.trans g_law
    cases e
    refine ⟨fd_law, fun s v => bA_law s [v] rfl, fun base _ _ hT => ?_⟩
    have k_same : Cl P w K mg base 5 "_law_same" (sp_same 5) := Cl.mk' U__law_same g__law_same b__law_same (ok_same B U__law_same g__law_same b__law_same 5)
    have k_mix : Cl P w K mg base 1 "_law_mix" sp_mix := Cl.mk' U__law_mix g__law_mix b__law_mix (ok_mix U__law_mix)
    have k_left : Cl P w K mg base 1 "_law_left" (sp_left K) := Cl.mk' U__law_left g__law_left b__law_left (ok_left B U__law_left)
    have k_pick : Cl P w K mg base 2 "_law_pick" sp_pick := Cl.mk' U__law_pick g__law_pick b__law_pick (ok_pick U__law_pick k_mix)
    have k_row : Cl P w K mg base 3 "_law_row" sp_row := Cl.mk' U__law_row g__law_row b__law_row (ok_row B U__law_row k_pick)
    have k_tie_of : Cl P w K mg base 1 "tie_of" sp_tie_of := Cl.mk' U_tie_of g_tie_of b_tie_of (ok_tie_of B U_tie_of)
    have k_stands : Cl P w K mg base 1 "stands_in" sp_stands := Cl.mk' U_stands_in g_stands_in b_stands_in (ok_stands B U_stands_in)
    have k_cweb : Cl P w K mg base 2 "crossed_web" sp_cweb := Cl.mk' U_crossed_web g_crossed_web b_crossed_web (ok_cweb B U_crossed_web k_stands)
    have k_wrong : Cl P w K mg base 2 "wrong_neighbours" sp_wrong := Cl.mk' U_wrong_neighbours g_wrong_neighbours b_wrong_neighbours (ok_wrong B U_wrong_neighbours k_tie_of)
    have k_crs : Cl P w K mg base 3 "crossings" sp_crs := Cl.mk' U_crossings g_crossings b_crossings (ok_crs B U_crossings k_stands k_wrong)
    have k_walkedX : Cl P w K mg base 1 "_law_walked" sp_walked := Cl.mk' U__law_walked g__law_walked b__law_walked (ok_walked B U__law_walked)
    have k_twos : Cl P w K mg base 4 "_law_two_small" sp_twos := Cl.mk' U__law_two_small g__law_two_small b__law_two_small (ok_twos B U__law_two_small k_pick k_row)
    have k_alll : Cl P w K mg base 2 "_law_all_lists" sp_alll := Cl.mk' U__law_all_lists g__law_all_lists b__law_all_lists (ok_alll B U__law_all_lists k_walkedX)
    exact ok_law B U_law k_left k_twos k_cweb k_alll k_crs k_same k_walkedX

end My
open PySem PySem.W PySem.Calls PyProof.Rows
set_option maxHeartbeats 0 in
theorem PySem.Challenge.cw_pointedties_k92_whole_exchanges_beside_a_holds : PySem.Challenge.rw_pointedties_k92_whole_exchanges_beside_a.Holds := by
  w_on; o_law
  refine HandSHeadRun.head_any (r := My.Rw) (q := view My.Rw.prog [17]) (H := My.hk) (ob := My.ob) (M := 4000) (loose := My.others) (d := HandSHeadRun.topDef My.Rw.prog 17) (kwd := []) My.ob_eq
    (by kernel_rfl) (fun s => by kernel_rfl) My.run (by kernel_rfl) (by kernel_rfl) (by kernel_rfl) (by rfl) (by first | assumption | decide +kernel) (by decide +kernel) ⟨rfl, rfl, rfl, rfl, rfl, by decide +kernel⟩ ?hw ?hc
  case hw => w_witness2
  case hc =>
    refine My.walk_top (l := PySem.Challenge.rw_pointedties_k92_whole_exchanges_beside_a) (n := 63) (y := "_law_script") rfl (by decide) (by kernel_rfl) ?F
    intro w mg fa h Y G hmg0
    obtain ⟨K, KX, c⟩ := Y
    have hmg : mg ("law" : PySem.Str) = some (.ref fa) := by
      have e : (HandSHeadRun.topDef My.Rw.prog 17).name = ("law" : PySem.Str) := by kernel_rfl
      rw [← e]; exact hmg0
    obtain ⟨fd, hb, hF⟩ := My.law_ok (P := (PySem.Challenge.rw_pointedties_k92_whole_exchanges_beside_a).prog) (w := w) KX G hmg c
    have inT : ∀ p ∈ My.tfs.map (He.cT K), ∃ q ∈ My.tfs, p = He.cT K q := fun p hp => by
      obtain ⟨q, hq, e⟩ := List.mem_map.mp hp
      exact ⟨q, hq, e.symm⟩
    refine ⟨K, KX, fd, My.tfs.map (He.cT K), _, fun p hp => ?_, fun p hp => ?_, fun p hp => ?_, hb, fun H a ns hl _ hT hS => ?_, hF⟩
    · obtain ⟨q, hq, rfl⟩ := inT p hp; exact c.empty q hq
    · obtain ⟨q, hq, rfl⟩ := inT p hp; exact c.out q hq
    · obtain ⟨q, hq, rfl⟩ := inT p hp; exact PySem.W.codeHd_of_K KX (c.hd q hq)
    · exact ⟨a, ns, rfl, hS, hl, fun _ => rfl⟩
