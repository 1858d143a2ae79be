import PyProof.Rows.All
import Wide.All
import OpenK.AllK
import Wide.FinOn
import HandS.ForMost
import HandS.More
import HandS.SortRule
import HandS.SortInts
import HandS.TupSets
import HandS.Deep
import HandS.IsInst
import HandS.DictComp
import HandS.Style
import HandS.Flow
import HandS.TupAny
import HandS.Walk
import HandS.AnyAll
import HandS.GenOver
import PyProof.GenQ
import PyProof.GenComp
import PyProof.ConsumeS
import HandS.Zip
import HandS.Defaults
import PySem.Challenge.RW_pointedties_k54_webs_of_two_rows
import KE.KDictCopyH
import KE.KDictPairs
import HandS.HeadWalk
import PyProof.ReprRoads
import KE.DataMinMax
import KE.KStateDown
import HandS.Head0
import HandS.Head1
import HandS.Head2
import HandS.HeadEnd
import HandS.HeadHook1
import HandS.HeadHook2
import HandS.HeadHook3
import HandS.HeadHook4
set_option Elab.async false
set_option linter.all false
set_option maxRecDepth 100000
namespace My
open PySem PySem.Spec PyProof.Rows L2

/-! ### a def that may be called by its name -/
structure Cl (P : Program) (w : World) (K : PySem.W.Frag) (mg : Str → Option Value) (base : Heap)
    (k : Nat) (x : Str) (sp : Sp) : Prop where
  ex : ∃ (f : Addr) (fd : FuncData) (ps : List Str), FnOk P w K mg base CX0 k f fd ps sp ∧
    mg x = some (.ref f) ∧ PySem.W.keepIn K (.ref f) = true ∧ Binds K fd ps []
theorem Cl.mk' {P : Program} {w : World} {K : PySem.W.Frag} {mg : Str → Option Value} {base : Heap} {k : Nat} {x : Str} {sp : Sp}
    {st : Stmt} {f : Addr} {fd : FuncData} {ps : List Str} (F : Fun K x x st f fd) (hm : mg x = some (.ref f))
    (hb : Binds K fd ps []) (ok : FnOk P w K mg base CX0 k f fd ps sp) : Cl P w K mg base k x sp := ⟨f, fd, ps, ok, hm, F.kp, hb⟩
theorem pe_c {X : Cx} {k j : Nat} {x : Str} {sp : Sp} {p pos : Pos} {e : Expr} {es : List Expr} {t : TA}
    (c : Cl X.prog X.w X.K X.mg X.base k x sp) (hr : Room j X.A) (hk : k ≤ j) (hg : Gl X x) (ha : PA X (e :: es) t)
    (h1 : (x == ("__debug__" : Str)) = false := by decide)
    (h2 : starEach (e :: es) X.env = (false, eval e X.env) :: starEach es X.env := by rfl)
    (h3 : (backTo pos (starEach es X.env)).any (·.1) = false := by rfl) :
    PE X (.Call (.Name x p) (e :: es) [] pos) (tCall sp [] E0 t) := by
  obtain ⟨f, fd, ps, F, hm, kp, b⟩ := c.ex
  exact pe_call F (hr.mono hk) hg hm kp b .nil pass0 ha h1 h2 h3

/-! ### heaps: all stays but the list of draws at L -/
def Fr (L : Addr) (H H' : Hp) : Prop := ∀ b o, b ≠ L → H b = some o → H' b = some o
theorem Fr.refl (L : Addr) (H : Hp) : Fr L H H := fun _ _ _ h => h
theorem Fr.trans {L : Addr} {H H1 H2 : Hp} (a : Fr L H H1) (b : Fr L H1 H2) : Fr L H H2 :=
  fun c o n h => b c o n (a c o n h)
theorem Fr.of {L : Addr} {H H' : Hp} (a : Same H H') : Fr L H H' := fun b o _ h => a b o h
theorem same_new {H : Hp} {p : Addr} {o : HO} (h : H p = none) : Same H (upd H p o) := fun b x e => by
  rw [upd_ne (ne_of_none e h)]; exact e
theorem Fr.new {L : Addr} {H : Hp} {p : Addr} {o : HO} (h : H p = none) : Fr L H (upd H p o) := Fr.of (same_new h)
/-- what is new to the first heap may change -/
theorem Fr.put {L : Addr} {H H' : Hp} {p : Addr} {o : HO} (a : Fr L H H') (h : H p = none) : Fr L H (upd H' p o) :=
  fun b x n e => by rw [upd_ne (ne_of_none e h)]; exact a b x n e
theorem Same.put {H H' : Hp} {p : Addr} {o : HO} (a : Same H H') (h : H p = none) : Same H (upd H' p o) :=
  fun b x e => by rw [upd_ne (ne_of_none e h)]; exact a b x e
theorem Fr.putL {L : Addr} {H H' : Hp} {o : HO} (a : Fr L H H') : Fr L H (upd H' L o) :=
  fun b x n e => by rw [upd_ne n]; exact a b x n e

/-! ### the list of draws -/
def Lf (H : Hp) (L : Addr) (c : Int) : Prop :=
  ∃ x y z : Int, H L = some (.lst [.int x, .int y, .int z]) ∧ 0 ≤ x ∧ 0 ≤ z ∧ z ≤ c
theorem Lf.mono {H : Hp} {L : Addr} {c d : Int} (h : Lf H L c) (e : c ≤ d) : Lf H L d := by
  obtain ⟨x, y, z, h1, h2, h3, h4⟩ := h
  exact ⟨x, y, z, h1, h2, h3, Int.le_trans h4 e⟩
theorem Lf.same {H H' : Hp} {L : Addr} {c : Int} (h : Lf H L c) (e : Same H H') : Lf H' L c := by
  obtain ⟨x, y, z, h1, h2⟩ := h
  exact ⟨x, y, z, e _ _ h1, h2⟩
theorem Lf.new {H : Hp} {L p : Addr} {c : Int} {o : HO} (h : Lf H L c) (e : H p = none) : Lf (upd H p o) L c := h.same (same_new e)
theorem Lf.ne {H : Hp} {L p : Addr} {c : Int} (h : Lf H L c) (e : H p = none) : p ≠ L := by
  obtain ⟨x, y, z, h1, h2⟩ := h
  rintro rfl; rw [h1] at e; cases e
theorem Lf.put {H : Hp} {L p : Addr} {c : Int} {o : HO} (h : Lf H L c) (e : p ≠ L) : Lf (upd H p o) L c := by
  obtain ⟨x, y, z, h1, h2⟩ := h
  exact ⟨x, y, z, by rw [upd_ne (Ne.symm e)]; exact h1, h2⟩
theorem Lf.free {H H' : Hp} {L p : Addr} {c' : Int} (a : Fr L H H') (h' : Lf H' L c') (e : H' p = none) : H p = none := by
  have n := h'.ne e
  cases q : H p with
  | none => rfl
  | some o => rw [a p o n q] at e; cases e
theorem Lf.tup {H H' : Hp} {L p : Addr} {c : Int} {xs : List V} (a : Fr L H H') (h : Lf H L c) (e : H p = some (.tup xs)) : H' p = some (.tup xs) := by
  refine a p _ ?_ e
  obtain ⟨x, y, z, h1, h2⟩ := h
  rintro rfl; rw [h1] at e; cases e

/-! ### ties, rows of ties, webs -/
def Tie (H : Hp) (v : V) (t : Int × Int) : Prop := ∃ p, v = .ref p ∧ H p = some (.tup [.int t.1, .int t.2])
def Ties (H : Hp) : List V → List (Int × Int) → Prop
  | [], [] => True
  | v :: vs, t :: ts => Tie H v t ∧ Ties H vs ts
  | _, _ => False
/-- tuples stay -/
def Tst (H H' : Hp) : Prop := ∀ b xs, H b = some (.tup xs) → H' b = some (.tup xs)
theorem Tst.refl (H : Hp) : Tst H H := fun _ _ h => h
theorem Tst.trans {H H1 H2 : Hp} (a : Tst H H1) (b : Tst H1 H2) : Tst H H2 := fun c o h => b c o (a c o h)
theorem Same.tst {H H' : Hp} (a : Same H H') : Tst H H' := fun b xs h => a b _ h
theorem Lf.tst {H H' : Hp} {L : Addr} {c : Int} (h : Lf H L c) (a : Fr L H H') : Tst H H' := fun b xs e => Lf.tup a h e
theorem tst_new {H : Hp} {p : Addr} {o : HO} (h : H p = none) : Tst H (upd H p o) := Same.tst (same_new h)
theorem tst_put {H : Hp} {p : Addr} {o : HO} {xs : List V} (h : H p = some (.lst xs)) : Tst H (upd H p o) := fun b ys e => by
  rw [upd_ne]
  · exact e
  · rintro rfl; rw [h] at e; cases e
theorem Tie.mono {H H' : Hp} {v : V} {t : Int × Int} (a : Tst H H') (h : Tie H v t) : Tie H' v t := by
  obtain ⟨p, e, h⟩ := h
  exact ⟨p, e, a _ _ h⟩
theorem Ties.mono {H H' : Hp} (a : Tst H H') : ∀ {vs : List V} {ts : List (Int × Int)}, Ties H vs ts → Ties H' vs ts
  | [], [], _ => trivial
  | _ :: _, _ :: _, h => ⟨h.1.mono a, Ties.mono a h.2⟩
  | [], _ :: _, h => h.elim
  | _ :: _, [], h => h.elim
theorem Ties.app {H : Hp} : ∀ {vs : List V} {ts : List (Int × Int)} {us : List V} {rs : List (Int × Int)}, Ties H vs ts → Ties H us rs → Ties H (vs ++ us) (ts ++ rs)
  | [], [], _, _, _, k => k
  | _ :: _, _ :: _, _, _, h, k => ⟨h.1, Ties.app h.2 k⟩
  | [], _ :: _, _, _, h, _ => h.elim
  | _ :: _, [], _, _, h, _ => h.elim
theorem Ties.len {H : Hp} : ∀ {vs : List V} {ts : List (Int × Int)}, Ties H vs ts → vs.length = ts.length
  | [], [], _ => rfl
  | _ :: _, _ :: _, h => congrArg (· + 1) (Ties.len h.2)
  | [], _ :: _, h => h.elim
  | _ :: _, [], h => h.elim
theorem Ties.at {H : Hp} : ∀ {vs : List V} {ts : List (Int × Int)} {i : Nat} {v : V}, Ties H vs ts → vs[i]? = some v → ∃ t, ts[i]? = some t ∧ Tie H v t
  | [], [], _, _, _, e => by cases e
  | _ :: _, t :: _, 0, _, h, e => by cases e; exact ⟨t, rfl, h.1⟩
  | _ :: _, _ :: _, i + 1, _, h, e => Ties.at (i := i) h.2 e
  | [], _ :: _, _, _, h, _ => h.elim
  | _ :: _, [], _, _, h, _ => h.elim
theorem Ties.one {H : Hp} {v : V} {t : Int × Int} (h : Tie H v t) : Ties H [v] [t] := ⟨h, trivial⟩
theorem Tie.new {H : Hp} {p : Addr} {a b : Int} : Tie (upd H p (.tup [.int a, .int b])) (.ref p) (a, b) := ⟨p, rfl, upd_same⟩

/-! ### what a web is -/
def ltT (s t : Int × Int) : Prop := s.1 < t.1 ∨ (s.1 = t.1 ∧ s.2 < t.2)
def WOk (n : Nat) (ts : List (Int × Int)) : Prop := ts.Pairwise ltT ∧ ∀ t ∈ ts, 0 ≤ t.1 ∧ t.1 < t.2 ∧ t.2 < (n : Int)
def Web (H : Hp) (v : V) (n : Nat) (ts : List (Int × Int)) : Prop :=
  ∃ p q vs, v = .ref p ∧ H p = some (.tup [.int (n : Int), .ref q]) ∧ H q = some (.tup vs) ∧ Ties H vs ts
theorem Web.mono {H H' : Hp} {v : V} {n : Nat} {ts : List (Int × Int)} (a : Tst H H') (h : Web H v n ts) : Web H' v n ts := by
  obtain ⟨p, q, vs, e, h1, h2, h3⟩ := h
  exact ⟨p, q, vs, e, a _ _ h1, a _ _ h2, h3.mono a⟩

theorem sz {n : Nat} (h : n ≤ 100000) : n ≤ sizeLine := Nat.le_trans h (by decide)
theorem sz' {n : Nat} (h : n < 100000) : n < sizeLine := Nat.lt_of_lt_of_le h (by decide)

theorem bi (b : Bool) : -(2 ^ 64) < (if b = true then (1 : Int) else 0) ∧ (if b = true then (1 : Int) else 0) < 2 ^ 64 ∧ 0 ≤ (if b = true then (1 : Int) else 0) := by
  cases b <;> decide

theorem yes {σ : L2.St} {H : Hp} {R N : Hp → Prop} (h : R H) : tYes σ H (fun b H3 => if b = true then R H3 else N H3) := by
  show (if true = true then R H else N H)
  exact iteT h

/-! ### all pairs, rising -/
def prow (a : Nat) (j : Nat) : List (Int × Int) := (List.range j).map fun (i : Nat) => ((a : Int), (a : Int) + 1 + (i : Int))
def pup (n i : Nat) : List (Int × Int) := (List.range i).flatMap fun a => prow a (n - (a + 1))
theorem prow_succ (a j : Nat) : prow a (j + 1) = prow a j ++ [((a : Int), (a : Int) + 1 + (j : Int))] := by
  unfold prow; rw [List.range_succ, List.map_append]; rfl
theorem pup_succ (n i : Nat) : pup n (i + 1) = pup n i ++ prow i (n - (i + 1)) := by
  unfold pup; rw [List.range_succ, List.flatMap_append, List.flatMap_singleton]
theorem prow_len (a j : Nat) : (prow a j).length = j := by unfold prow; rw [List.length_map, List.length_range]
theorem mem_prow {a j : Nat} {t : Int × Int} : t ∈ prow a j ↔ t.1 = a ∧ (a : Int) < t.2 ∧ t.2 < (a : Int) + 1 + j := by
  unfold prow
  rw [List.mem_map]
  constructor
  · rintro ⟨i, hi, rfl⟩
    have := List.mem_range.mp hi
    refine ⟨rfl, ?_, ?_⟩ <;> dsimp only <;> omega
  · rintro ⟨h1, h2, h3⟩
    refine ⟨(t.2 - a - 1).toNat, List.mem_range.mpr (by omega), ?_⟩
    cases t with
    | mk x y =>
      dsimp only at h1 h2 h3
      rw [h1]
      congr 1
      omega
theorem mem_pup {n i : Nat} {t : Int × Int} (hi : i ≤ n) : t ∈ pup n i ↔ 0 ≤ t.1 ∧ t.1 < i ∧ t.1 < t.2 ∧ t.2 < n := by
  unfold pup
  rw [List.mem_flatMap]
  constructor
  · rintro ⟨a, ha, h⟩
    have := List.mem_range.mp ha
    have := mem_prow.mp h
    omega
  · rintro ⟨h1, h2, h3, h4⟩
    refine ⟨t.1.toNat, List.mem_range.mpr (by omega), mem_prow.mpr ?_⟩
    omega
theorem prow_pw (a : Nat) : ∀ j, (prow a j).Pairwise ltT
  | 0 => by exact List.Pairwise.nil
  | j + 1 => by
    rw [prow_succ, List.pairwise_append]
    refine ⟨prow_pw a j, List.pairwise_singleton _ _, fun s hs t ht => ?_⟩
    have h := mem_prow.mp hs
    have e := List.mem_singleton.mp ht
    subst e
    refine .inr ⟨h.1, ?_⟩
    show s.2 < (a : Int) + 1 + j
    omega
theorem pup_pw (n : Nat) : ∀ i, i ≤ n → (pup n i).Pairwise ltT
  | 0, _ => by exact List.Pairwise.nil
  | i + 1, h => by
    rw [pup_succ, List.pairwise_append]
    refine ⟨pup_pw n i (by omega), prow_pw i _, fun s hs t ht => ?_⟩
    have h1 := (mem_pup (by omega)).mp hs
    have h2 := mem_prow.mp ht
    refine .inl ?_
    omega
theorem pup_len (n : Nat) : ∀ i, (pup n i).length ≤ i * n
  | 0 => Nat.zero_le _
  | i + 1 => by
    rw [pup_succ, List.length_append, prow_len, Nat.succ_mul]
    have := pup_len n i
    omega
theorem pup_len' {n i : Nat} (hn : n ≤ 100) (hi : i ≤ n) : (pup n i).length ≤ 10000 :=
  Nat.le_trans (pup_len n i) (Nat.le_trans (Nat.mul_le_mul (Nat.le_trans hi hn) hn) (by decide))
theorem wok_sub {n : Nat} {ts : List (Int × Int)} (h : ts.Sublist (pup n n)) : WOk n ts :=
  ⟨(pup_pw n n (Nat.le_refl n)).sublist h, fun t ht => by
    have := (mem_pup (Nat.le_refl n)).mp (h.subset ht)
    omega⟩

/-! ### the numbers below n -/
def up (n : Nat) : List Int := (List.range n).map fun (i : Nat) => (i : Int)
theorem up_succ (n : Nat) : up (n + 1) = up n ++ [(n : Int)] := by unfold up; rw [List.range_succ, List.map_append]; rfl
theorem up_len (n : Nat) : (up n).length = n := by unfold up; rw [List.length_map, List.length_range]
theorem mem_up {n : Nat} {x : Int} : x ∈ up n ↔ 0 ≤ x ∧ x < n := by
  unfold up
  rw [List.mem_map]
  constructor
  · rintro ⟨i, hi, rfl⟩
    have := List.mem_range.mp hi
    omega
  · intro h
    exact ⟨x.toNat, List.mem_range.mpr (by omega), by omega⟩
theorem up_nodup (n : Nat) : (up n).Nodup := by
  unfold up
  rw [List.nodup_iff_pairwise_ne, List.pairwise_map]
  exact (List.nodup_iff_pairwise_ne.mp List.nodup_range).imp fun h e => h (by omega)
theorem ins_perm {α : Type} (l : List α) (x : α) (k : Nat) : (l.take k ++ [x] ++ l.drop k).Perm (l ++ [x]) := by
  have h : (l.take k ++ [x] ++ l.drop k).Perm (l.take k ++ (l.drop k ++ [x])) := by
    rw [List.append_assoc]
    exact List.Perm.append_left _ List.perm_append_comm
  refine h.trans ?_
  rw [← List.append_assoc, List.take_append_drop]

/-! ### where a number stands in a list -/
theorem all_flat (ns : List Int) : (ns.map V.int).all flatV = true := by
  rw [List.all_map, List.all_eq_true]; intro x _; rfl
theorem idx_at {ns : List Int} {x : Int} (h : x ∈ ns) : (ns.map V.int)[ns.idxOf x]? = some (.int x) := by
  have hl := List.idxOf_lt_length_of_mem h
  rw [List.getElem?_map, List.getElem?_eq_getElem hl, List.getElem_idxOf hl]; rfl
theorem idx_first {ns : List Int} {x : Int} : ∀ (m : Nat) (z : V), m < ns.idxOf x → (ns.map V.int)[m]? = some z → eqV z (.int x) = false := by
  intro m z hm hz
  rw [List.getElem?_map] at hz
  have hml : m < ns.length := Nat.lt_of_lt_of_le hm List.idxOf_le_length
  rw [List.getElem?_eq_getElem hml] at hz
  cases hz
  have : ns[m] ≠ x := fun e => by
    have := List.not_of_lt_findIdx (xs := ns) (p := fun y => y == x) hm
    rw [e] at this
    simp at this
  exact beq_eq_false_iff_ne.mpr this

/-! ### readings by name -/
abbrev rLenK (K : PySem.W.Frag) : List V → Hp → VK → Prop :=
  fun xs H Q => ∃ p ys, xs = [.ref p] ∧ (SqL K H p ys ∨ SqT K H p ys) ∧ Q (.int ys.length) H
abbrev rTupK (K : PySem.W.Frag) : List V → Hp → VK → Prop :=
  fun xs H Q => ∃ p ys, xs = [.ref p] ∧ ((SqL K H p ys ∧ ∀ l, H l = none → Q (.ref l) (upd H l (.tup ys))) ∨ (SqT K H p ys ∧ Q (.ref p) H))
abbrev rLstK (K : PySem.W.Frag) : List V → Hp → VK → Prop :=
  fun xs H Q => ∃ p ys, xs = [.ref p] ∧ (SqL K H p ys ∨ SqT K H p ys) ∧ ∀ l, H l = none → Q (.ref l) (upd H l (.lst ys))

/-! ### the built-in names -/
structure Bts (mg : Str → Option Value) : Prop where
  len : mg "len" = none
  range : mg "range" = none
  tuple : mg "tuple" = none
  list : mg "list" = none
  int : mg "int" = none
  abs : mg "abs" = none
  min : mg "min" = none
  sorted : mg "sorted" = none
  set : mg "set" = none
  all : mg "all" = none
  any : mg "any" = none
  enumerate : mg "enumerate" = none
  zip : mg "zip" = none
  isinstance : mg "isinstance" = none
  bool : mg "bool" = none
  str : mg "str" = none
  dict : mg "dict" = none
  max : mg "max" = none
  reversed : mg "reversed" = none
end My

set_option Elab.async false
set_option linter.all false
set_option maxRecDepth 100000
namespace My
open PySem PySem.Spec PyProof.Rows L2

/-! ### the pair that a value tells -/
theorem Tie.inj {H : Hp} {v : V} {s t : Int × Int} (h : Tie H v s) (k : Tie H v t) : s = t := by
  obtain ⟨p, rfl, h⟩ := h
  obtain ⟨q, e, k⟩ := k
  cases e
  rw [h] at k
  cases s; cases t
  cases k
  rfl
open Classical in
noncomputable def key (H : Hp) (v : V) : Int × Int := if h : ∃ t, Tie H v t then h.choose else (0, 0)
theorem key_of {H : Hp} {v : V} {t : Int × Int} (h : Tie H v t) : key H v = t := by
  unfold key
  rw [dif_pos ⟨t, h⟩]
  exact (Exists.choose_spec (⟨t, h⟩ : ∃ t, Tie H v t)).inj h
theorem Ties.key {H : Hp} : ∀ {vs : List V} {ts : List (Int × Int)}, Ties H vs ts → ts = vs.map (My.key H)
  | [], [], _ => rfl
  | _ :: _, _ :: _, h => by rw [List.map_cons, key_of h.1, ← Ties.key h.2]
  | [], _ :: _, h => h.elim
  | _ :: _, [], h => h.elim
theorem Ties.all {H : Hp} : ∀ {vs : List V} {ts : List (Int × Int)}, Ties H vs ts → ∀ v ∈ vs, Tie H v (My.key H v)
  | [], [], _, _, hv => by cases hv
  | _ :: _, _ :: _, h, v, hv => by
    rcases List.mem_cons.mp hv with rfl | hv
    · rw [key_of h.1]; exact h.1
    · exact Ties.all h.2 v hv
  | [], _ :: _, h, _, _ => h.elim
  | _ :: _, [], h, _, _ => h.elim
theorem ties_mk {H : Hp} : ∀ {vs : List V}, (∀ v ∈ vs, Tie H v (My.key H v)) → Ties H vs (vs.map (My.key H))
  | [], _ => trivial
  | v :: vs, h => ⟨h v List.mem_cons_self, ties_mk fun u hu => h u (List.mem_cons_of_mem _ hu)⟩

/-! ### a list of ties, sorted -/
theorem srt_ties {H : Hp} {xs ys : List V} {ts : List (Int × Int)} (hs : SrtO.Srtd (ltP (My.key H)) ys) (hb : ys.Perm xs) (hT : Ties H xs ts) :
    ∃ ts', Ties H ys ts' ∧ ts'.Perm ts ∧ ts'.Pairwise (fun s t => ¬ ltT t s) := by
  refine ⟨ys.map (My.key H), ties_mk fun v hv => hT.all v (hb.mem_iff.mp hv), ?_, ?_⟩
  · rw [hT.key]; exact hb.map _
  · rw [List.pairwise_map]
    refine hs.imp fun {a b} h l => ?_
    have : ltP (My.key H) b a = true := SrtO.lexB_iff.mpr l
    rw [this] at h
    cases h
theorem ltT_tri (s t : Int × Int) : ltT s t ∨ s = t ∨ ltT t s := by
  cases s with | mk a b =>
  cases t with | mk c d =>
  unfold ltT
  by_cases h1 : a < c
  · exact .inl (.inl h1)
  · by_cases h2 : c < a
    · exact .inr (.inr (.inl h2))
    · have e : a = c := by omega
      subst e
      by_cases h3 : b < d
      · exact .inl (.inr ⟨rfl, h3⟩)
      · by_cases h4 : d < b
        · exact .inr (.inr (.inr ⟨rfl, h4⟩))
        · have e : b = d := by omega
          subst e
          exact .inr (.inl rfl)
theorem ltT_irr {s : Int × Int} : ¬ ltT s s := by unfold ltT; omega
theorem ltT_tr {s t u : Int × Int} (h : ltT s t) (k : ltT t u) : ltT s u := by unfold ltT at *; omega
theorem pw_lt {ts : List (Int × Int)} (h : ts.Pairwise (fun s t => ¬ ltT t s)) (nd : ts.Nodup) : ts.Pairwise ltT := by
  refine (h.and (List.nodup_iff_pairwise_ne.mp nd)).imp ?_
  rintro s t ⟨h1, h2⟩
  rcases ltT_tri s t with h | h | h
  · exact h
  · exact absurd h h2
  · exact absurd h h1
/-- two rising lists with the same items are one -/
theorem pw_eq : ∀ {as bs : List (Int × Int)}, as.Pairwise ltT → bs.Pairwise ltT → (∀ t, t ∈ as ↔ t ∈ bs) → as = bs
  | [], [], _, _, _ => rfl
  | [], b :: bs, _, _, h => by have := (h b).mpr List.mem_cons_self; cases this
  | a :: as, [], _, _, h => by have := (h a).mp List.mem_cons_self; cases this
  | a :: as, b :: bs, ha, hb, h => by
    have ha' := List.pairwise_cons.mp ha
    have hb' := List.pairwise_cons.mp hb
    have e : a = b := by
      rcases List.mem_cons.mp ((h a).mp List.mem_cons_self) with e | m1
      · exact e
      · rcases List.mem_cons.mp ((h b).mpr List.mem_cons_self) with e | m2
        · exact e.symm
        · exact absurd (ltT_tr (ha'.1 b m2) (hb'.1 a m1)) ltT_irr
    subst e
    rw [pw_eq ha'.2 hb'.2 fun t => ⟨fun m => ?_, fun m => ?_⟩]
    · rcases List.mem_cons.mp ((h t).mp (List.mem_cons_of_mem _ m)) with e | m'
      · subst e; exact absurd (ha'.1 t m) ltT_irr
      · exact m'
    · rcases List.mem_cons.mp ((h t).mpr (List.mem_cons_of_mem _ m)) with e | m'
      · subst e; exact absurd (hb'.1 t m) ltT_irr
      · exact m'

/-! ### ties as data -/
def dT (t : Int × Int) : PyData := .tuple [.int t.1, .int t.2]
theorem Tie.dp {K : PySem.W.Frag} {H : Hp} {v : V} {t : Int × Int} (h : Tie H v t) : Dp K H v (dT t) := by
  obtain ⟨p, rfl, h⟩ := h
  exact .tup (Or.inl (Or.inl h)) (.cons (.int _) (.cons (.int _) .nil))
theorem Ties.dp {K : PySem.W.Frag} {H : Hp} : ∀ {vs : List V} {ts : List (Int × Int)}, Ties H vs ts → DpAll K H vs (ts.map dT)
  | [], [], _ => .nil
  | _ :: _, _ :: _, h => .cons h.1.dp (Ties.dp h.2)
  | [], _ :: _, h => h.elim
  | _ :: _, [], h => h.elim
theorem shaped_dT (t : Int × Int) : SeqAt.shaped (dT t) = true := rfl
theorem can_ties (ts : List (Int × Int)) : PyData.canLayAll0 (ts.map dT) = true := by
  induction ts with
  | nil => rfl
  | cons t ts ih => rw [List.map_cons, PyData.canLayAll0, ih]; rfl
theorem dep_ties (ts : List (Int × Int)) : PyData.depthAll (ts.map dT) ≤ 1 := by
  induction ts with
  | nil => exact Nat.zero_le _
  | cons t ts ih =>
    rw [List.map_cons, PyData.depthAll]
    exact Nat.max_le.mpr ⟨Nat.le_refl _, ih⟩
theorem shaped_ties (ts : List (Int × Int)) : SeqAt.shaped (.list (ts.map dT)) = true := by
  unfold SeqAt.shaped
  rw [Bool.and_eq_true, decide_eq_true_eq]
  refine ⟨can_ties ts, ?_⟩
  show PyData.depthAll (ts.map dT) + 1 ≤ 64
  have := dep_ties ts
  omega
theorem eqv_dT (s t : Int × Int) : PyData.eqv (dT s) (dT t) = decide (s = t) := by
  cases s with | mk a b =>
  cases t with | mk c d =>
  show ((a == c) && ((b == d) && true)) = _
  by_cases h : a = c <;> by_cases k : b = d <;> simp [h, k]
theorem two {A : Hp → Prop} {C : Prop} (R : Hp → Prop) (k : (∀ H, R H → A H) → C) (h : ∀ H, R H → A H) : C := k h
theorem at_mem {ns : List Int} {j : Int} (h1 : -(ns.length : Int) ≤ j) (h2 : j < ns.length) : ∃ x, atI (ns.map V.int) j = some (.int x) ∧ x ∈ ns := by
  unfold atI ixN
  rw [List.length_map]
  by_cases h0 : 0 ≤ j
  · have hl : j.toNat < ns.length := by omega
    rw [if_pos h0, if_pos h2]
    refine ⟨ns[j.toNat], ?_, List.getElem_mem hl⟩
    show (ns.map V.int)[j.toNat]? = _
    rw [List.getElem?_map, List.getElem?_eq_getElem hl]; rfl
  · have hl : (j + ns.length).toNat < ns.length := by omega
    rw [if_neg h0, if_pos h1]
    refine ⟨ns[(j + ns.length).toNat], ?_, List.getElem_mem hl⟩
    show (ns.map V.int)[(j + ns.length).toNat]? = _
    rw [List.getElem?_map, List.getElem?_eq_getElem hl]; rfl
theorem perm2 {ns : List Int} {x y : Int} (h : ns.Perm [x, y]) (s : ns.Pairwise (· ≤ ·)) : ns = [if x ≤ y then x else y, if x ≤ y then y else x] := by
  match ns, h.length_eq with
  | [a, b], _ =>
    have ab : a ≤ b := (List.pairwise_cons.mp s).1 b (List.mem_singleton.mpr rfl)
    have ha := h.mem_iff (a := a) |>.mp List.mem_cons_self
    have hb := h.mem_iff (a := b) |>.mp (List.mem_cons_of_mem _ List.mem_cons_self)
    have hx := h.mem_iff (a := x) |>.mpr List.mem_cons_self
    have hy := h.mem_iff (a := y) |>.mpr (List.mem_cons_of_mem _ List.mem_cons_self)
    simp only [List.mem_cons, List.not_mem_nil, or_false] at ha hb hx hy
    by_cases c : x ≤ y
    · rw [if_pos c, if_pos c]
      have : a = x ∧ b = y := by omega
      rw [this.1, this.2]
    · rw [if_neg c, if_neg c]
      have : a = y ∧ b = x := by omega
      rw [this.1, this.2]
/-! ### ties by their places, for sets -/
def prT (p : Addr × List Int) : Int × Int := (p.2.getD 0 0, p.2.getD 1 0)
theorem Ties.addr {H : Hp} : ∀ {vs : List V} {ts : List (Int × Int)}, Ties H vs ts → ∃ ks : List (Addr × List Int), vs = (ks.map fun p => V.ref p.1) ∧
    (∀ p ∈ ks, H p.1 = some (.tup (p.2.map V.int)) ∧ ∃ t ∈ ts, p.2 = [t.1, t.2]) ∧ ks.map prT = ts
  | [], [], _ => ⟨[], rfl, (fun _ h => by cases h), rfl⟩
  | v :: vs, t :: ts, h => by
    obtain ⟨ks, e1, e2, e3⟩ := Ties.addr h.2
    obtain ⟨p, rfl, hp⟩ := h.1
    refine ⟨(p, [t.1, t.2]) :: ks, by rw [e1]; rfl, fun q hq => ?_, by rw [List.map_cons, e3]; rfl⟩
    rcases List.mem_cons.mp hq with rfl | hq
    · exact ⟨hp, t, List.mem_cons_self, rfl⟩
    · obtain ⟨g1, t', g2, g3⟩ := e2 q hq
      exact ⟨g1, t', List.mem_cons_of_mem _ g2, g3⟩
  | [], _ :: _, h => h.elim
  | _ :: _, [], h => h.elim
theorem ties_addr {H : Hp} : ∀ {ks : List (Addr × List Int)}, (∀ p ∈ ks, H p.1 = some (.tup (p.2.map V.int)) ∧ ∃ t : Int × Int, p.2 = [t.1, t.2]) → Ties H (ks.map fun p => V.ref p.1) (ks.map prT)
  | [], _ => trivial
  | p :: ks, h => by
    refine ⟨?_, ties_addr fun q hq => h q (List.mem_cons_of_mem _ hq)⟩
    obtain ⟨g1, t, g2⟩ := h p List.mem_cons_self
    refine ⟨p.1, rfl, ?_⟩
    unfold prT
    rw [g1, g2]; rfl
theorem u65 {k : Nat} {A : Around} (r : Room k A) : A.units + 65 < cLine := by have := r.un; omega
end My

set_option Elab.async false
set_option linter.all false
set_option maxRecDepth 100000
namespace My
open PySem PySem.Spec PyProof.Rows L2

/-! ### lists side by side -/
def All2 {α : Type} (R : V → α → Prop) : List V → List α → Prop
  | [], [] => True
  | v :: vs, t :: ts => R v t ∧ All2 R vs ts
  | _, _ => False
section
variable {α : Type} {R S : V → α → Prop}
theorem All2.imp (a : ∀ v t, R v t → S v t) : ∀ {vs : List V} {ts : List α}, All2 R vs ts → All2 S vs ts
  | [], [], _ => trivial
  | _ :: _, _ :: _, h => ⟨a _ _ h.1, All2.imp a h.2⟩
  | [], _ :: _, h => h.elim
  | _ :: _, [], h => h.elim
theorem All2.app : ∀ {vs us : List V} {ts rs : List α}, All2 R vs ts → All2 R us rs → All2 R (vs ++ us) (ts ++ rs)
  | [], _, [], _, _, k => k
  | _ :: _, _, _ :: _, _, h, k => ⟨h.1, All2.app h.2 k⟩
  | [], _, _ :: _, _, h, _ => h.elim
  | _ :: _, _, [], _, h, _ => h.elim
theorem All2.len : ∀ {vs : List V} {ts : List α}, All2 R vs ts → vs.length = ts.length
  | [], [], _ => rfl
  | _ :: _, _ :: _, h => congrArg (· + 1) (All2.len h.2)
  | [], _ :: _, h => h.elim
  | _ :: _, [], h => h.elim
theorem All2.at : ∀ {vs : List V} {ts : List α} {i : Nat} {v : V}, All2 R vs ts → vs[i]? = some v → ∃ t, ts[i]? = some t ∧ R v t
  | [], [], _, _, _, e => by cases e
  | _ :: _, t :: _, 0, _, h, e => by cases e; exact ⟨t, rfl, h.1⟩
  | _ :: _, _ :: _, i + 1, _, h, e => All2.at (i := i) h.2 e
  | [], _ :: _, _, _, h, _ => h.elim
  | _ :: _, [], _, _, h, _ => h.elim
theorem All2.at' : ∀ {vs : List V} {ts : List α} {i : Nat} {t : α}, All2 R vs ts → ts[i]? = some t → ∃ v, vs[i]? = some v ∧ R v t
  | [], [], _, _, _, e => by cases e
  | v :: _, _ :: _, 0, _, h, e => by cases e; exact ⟨v, rfl, h.1⟩
  | _ :: _, _ :: _, i + 1, _, h, e => All2.at' (i := i) h.2 e
  | [], _ :: _, _, _, h, _ => h.elim
  | _ :: _, [], _, _, h, _ => h.elim
theorem All2.erase : ∀ {vs : List V} {ts : List α} (k : Nat), All2 R vs ts → All2 R (vs.eraseIdx k) (ts.eraseIdx k)
  | [], [], _, _ => trivial
  | _ :: _, _ :: _, 0, h => h.2
  | _ :: _, _ :: _, k + 1, h => ⟨h.1, All2.erase k h.2⟩
  | [], _ :: _, _, h => h.elim
  | _ :: _, [], _, h => h.elim
end

/-! ### pairs of places of unlike groups -/
def norm (a b : Int) : Int × Int := (if a ≤ b then a else b, if a ≤ b then b else a)
theorem norm_inj {a b c d : Int} (h : norm a b = norm c d) : (a = c ∧ b = d) ∨ (a = d ∧ b = c) := by
  unfold norm at h
  have h1 := congrArg Prod.fst h
  have h2 := congrArg Prod.snd h
  dsimp only at h1 h2
  by_cases x : a ≤ b <;> by_cases y : c ≤ d
  · rw [if_pos x, if_pos y] at h1 h2; omega
  · rw [if_pos x, if_neg y] at h1 h2; omega
  · rw [if_neg x, if_pos y] at h1 h2; omega
  · rw [if_neg x, if_neg y] at h1 h2; omega
def newA (g h : List Int) : List (Int × Int) := g.flatMap fun a => h.map fun b => norm a b
def newK (s : List (List Int)) (cd : Nat → Nat → Bool) (k j : Nat) : List (Int × Int) :=
  (List.range j).flatMap fun j => newA (if cd k j = true then s.getD k [] else []) (s.getD j [])
def news (s : List (List Int)) (cd : Nat → Nat → Bool) (m : Nat) : List (Int × Int) := (List.range m).flatMap fun k => newK s cd k k
theorem newA_app (g g' h : List Int) : newA (g ++ g') h = newA g h ++ newA g' h := by unfold newA; rw [List.flatMap_append]
theorem newA_one (a : Int) (h : List Int) : newA [a] h = h.map fun b => norm a b := by unfold newA; rw [List.flatMap_singleton]
theorem newK_succ (s : List (List Int)) (cd : Nat → Nat → Bool) (k j : Nat) : newK s cd k (j + 1) = newK s cd k j ++ newA (if cd k j = true then s.getD k [] else []) (s.getD j []) := by
  unfold newK; rw [List.range_succ, List.flatMap_append, List.flatMap_singleton]
theorem news_succ (s : List (List Int)) (cd : Nat → Nat → Bool) (m : Nat) : news s cd (m + 1) = news s cd m ++ newK s cd m m := by
  unfold news; rw [List.range_succ, List.flatMap_append, List.flatMap_singleton]
theorem mem_newA {g h : List Int} {t : Int × Int} : t ∈ newA g h ↔ ∃ a ∈ g, ∃ b ∈ h, t = norm a b := by
  unfold newA
  simp only [List.mem_flatMap, List.mem_map]
  constructor
  · rintro ⟨a, ha, b, hb, rfl⟩; exact ⟨a, ha, b, hb, rfl⟩
  · rintro ⟨a, ha, b, hb, rfl⟩; exact ⟨a, ha, b, hb, rfl⟩
theorem mem_newK {s : List (List Int)} {cd : Nat → Nat → Bool} {k j : Nat} {t : Int × Int} (h : t ∈ newK s cd k j) :
    ∃ j' < j, ∃ a ∈ s.getD k [], ∃ b ∈ s.getD j' [], t = norm a b := by
  unfold newK at h
  obtain ⟨j', hj, h⟩ := List.mem_flatMap.mp h
  obtain ⟨a, ha, b, hb, e⟩ := mem_newA.mp h
  refine ⟨j', List.mem_range.mp hj, a, ?_, b, hb, e⟩
  split at ha
  · exact ha
  · cases ha
theorem mem_news {s : List (List Int)} {cd : Nat → Nat → Bool} {m : Nat} {t : Int × Int} (h : t ∈ news s cd m) :
    ∃ k < m, ∃ j < k, ∃ a ∈ s.getD k [], ∃ b ∈ s.getD j [], t = norm a b := by
  unfold news at h
  obtain ⟨k, hk, h⟩ := List.mem_flatMap.mp h
  obtain ⟨j, hj, r⟩ := mem_newK h
  exact ⟨k, List.mem_range.mp hk, j, hj, r⟩
/-- a place is in one group alone -/
theorem grp_one {s : List (List Int)} (nd : s.flatten.Nodup) {a : Int} {i j : Nat} (hi : a ∈ s.getD i []) (hj : a ∈ s.getD j []) : i = j := by
  have li : i < s.length := by
    rcases Nat.lt_or_ge i s.length with h | h
    · exact h
    · rw [List.getD_eq_getElem?_getD, List.getElem?_eq_none h] at hi; cases hi
  have lj : j < s.length := by
    rcases Nat.lt_or_ge j s.length with h | h
    · exact h
    · rw [List.getD_eq_getElem?_getD, List.getElem?_eq_none h] at hj; cases hj
  rw [List.getD_eq_getElem?_getD, List.getElem?_eq_getElem li] at hi
  rw [List.getD_eq_getElem?_getD, List.getElem?_eq_getElem lj] at hj
  dsimp only [Option.getD_some] at hi hj
  have pw := (List.pairwise_flatten.mp (List.nodup_iff_pairwise_ne.mp nd)).2
  rw [List.pairwise_iff_getElem] at pw
  rcases Nat.lt_trichotomy i j with h | h | h
  · exact absurd rfl (pw i j li lj h a hi a hj)
  · exact h
  · exact absurd rfl (pw j i lj li h a hj a hi)
theorem grp_nd {s : List (List Int)} (nd : s.flatten.Nodup) (i : Nat) : (s.getD i []).Nodup := by
  rcases Nat.lt_or_ge i s.length with h | h
  · rw [List.getD_eq_getElem?_getD, List.getElem?_eq_getElem h]
    exact List.nodup_iff_pairwise_ne.mpr ((List.pairwise_flatten.mp (List.nodup_iff_pairwise_ne.mp nd)).1 _ (List.getElem_mem h))
  · rw [List.getD_eq_getElem?_getD, List.getElem?_eq_none h]; exact List.nodup_nil
theorem four_inj {s : List (List Int)} (nd : s.flatten.Nodup) {k j k' j' : Nat} {a b a' b' : Int} (hj : j < k) (hj' : j' < k') (ha : a ∈ s.getD k []) (hb : b ∈ s.getD j [])
    (ha' : a' ∈ s.getD k' []) (hb' : b' ∈ s.getD j' []) (e : norm a b = norm a' b') : k = k' ∧ j = j' ∧ a = a' ∧ b = b' := by
  rcases norm_inj e with ⟨rfl, rfl⟩ | ⟨rfl, rfl⟩
  · exact ⟨grp_one nd ha ha', grp_one nd hb hb', rfl, rfl⟩
  · have e1 := grp_one nd ha hb'
    have e2 := grp_one nd hb ha'
    omega
theorem news_nd {s : List (List Int)} (nd : s.flatten.Nodup) (cd : Nat → Nat → Bool) (m : Nat) : (news s cd m).Nodup := by
  unfold news
  rw [List.nodup_iff_pairwise_ne, List.pairwise_flatMap]
  refine ⟨fun k hk => ?_, ?_⟩
  · unfold newK
    rw [List.pairwise_flatMap]
    refine ⟨fun j hj => ?_, ?_⟩
    · have hj := List.mem_range.mp hj
      unfold newA
      rw [List.pairwise_flatMap]
      refine ⟨fun a ha => ?_, ?_⟩
      · rw [List.pairwise_map]
        refine (List.nodup_iff_pairwise_ne.mp (grp_nd nd j)).imp_of_mem fun {b b'} hb hb' ne e => ?_
        have ha : a ∈ s.getD k [] := by split at ha; exact ha; cases ha
        exact ne (four_inj nd hj hj ha hb ha hb' e).2.2.2
      · have nda : (if cd k j = true then s.getD k [] else []).Nodup := by split; exact grp_nd nd k; exact List.nodup_nil
        refine (List.nodup_iff_pairwise_ne.mp nda).imp_of_mem fun {a a'} ha ha' ne x hx y hy e => ?_
        have ha : a ∈ s.getD k [] := by split at ha; exact ha; cases ha
        have ha' : a' ∈ s.getD k [] := by split at ha'; exact ha'; cases ha'
        obtain ⟨b, hb, rfl⟩ := List.mem_map.mp hx
        obtain ⟨b', hb', rfl⟩ := List.mem_map.mp hy
        exact ne (four_inj nd hj hj ha hb ha' hb' e).2.2.1
    · refine (List.nodup_iff_pairwise_ne.mp List.nodup_range).imp_of_mem fun {j j'} hj hj' ne x hx y hy e => ?_
      have hj := List.mem_range.mp hj
      have hj' := List.mem_range.mp hj'
      obtain ⟨a, ha, b, hb, rfl⟩ := mem_newA.mp hx
      obtain ⟨a', ha', b', hb', rfl⟩ := mem_newA.mp hy
      have ha : a ∈ s.getD k [] := by split at ha; exact ha; cases ha
      have ha' : a' ∈ s.getD k [] := by split at ha'; exact ha'; cases ha'
      exact ne (four_inj nd hj hj' ha hb ha' hb' e).2.1
  · refine (List.nodup_iff_pairwise_ne.mp List.nodup_range).imp_of_mem fun {k k'} hk hk' ne x hx y hy e => ?_
    obtain ⟨j, hj, a, ha, b, hb, rfl⟩ := mem_newK hx
    obtain ⟨j', hj', a', ha', b', hb', rfl⟩ := mem_newK hy
    exact ne (four_inj nd hj hj' ha hb ha' hb' e).1

/-- what holds of groups and ties between two turns -/
structure PInv (n : Nat) (gs : List (List Int)) (ts : List (Int × Int)) : Prop where
  fl : gs.flatten.Perm (up n)
  nd : ts.Nodup
  bd : ∀ t ∈ ts, 0 ≤ t.1 ∧ t.1 < t.2 ∧ t.2 < (n : Int)
  one : ∀ t ∈ ts, ∃ g ∈ gs, t.1 ∈ g ∧ t.2 ∈ g
theorem nd_len {α : Type} [DecidableEq α] : ∀ {l m : List α}, l.Nodup → (∀ x ∈ l, x ∈ m) → l.length ≤ m.length
  | [], _, _, _ => Nat.zero_le _
  | a :: l, m, nd, h => by
    have nd' := List.nodup_cons.mp nd
    have ha := h a List.mem_cons_self
    have := nd_len (l := l) (m := m.erase a) nd'.2 fun x hx => (List.mem_erase_of_ne (fun (e : x = a) => nd'.1 (by rw [← e]; exact hx))).mpr (h x (List.mem_cons_of_mem _ hx))
    rw [List.length_erase_of_mem ha] at this
    have := List.length_pos_of_mem ha
    rw [List.length_cons]
    omega
theorem PInv.len {n : Nat} {gs : List (List Int)} {ts : List (Int × Int)} (h : PInv n gs ts) (hn : n ≤ 100) : ts.length ≤ 10000 := by
  refine Nat.le_trans (nd_len (m := pup n n) h.nd fun t ht => ?_) (pup_len' hn (Nat.le_refl n))
  have := h.bd t ht
  exact (mem_pup (Nat.le_refl n)).mpr (by omega)
theorem norm_ends {a b : Int} {g : List Int} (h1 : (norm a b).1 ∈ g) (h2 : (norm a b).2 ∈ g) : a ∈ g ∧ b ∈ g := by
  unfold norm at h1 h2
  dsimp only at h1 h2
  by_cases x : a ≤ b
  · rw [if_pos x] at h1 h2; exact ⟨h1, h2⟩
  · rw [if_neg x] at h1 h2; exact ⟨h2, h1⟩
theorem PInv.next {n : Nat} {gs s r : List (List Int)} {ts : List (Int × Int)} (h : PInv n gs ts) (pm : gs.Perm (s ++ r)) (cd : Nat → Nat → Bool) :
    PInv n (r ++ [s.flatten]) (ts ++ news s cd s.length) := by
  have pf : (s ++ r).flatten.Perm (up n) := pm.flatten.symm.trans h.fl
  have ndf : (s ++ r).flatten.Nodup := pf.nodup_iff.mpr (up_nodup n)
  have nds : s.flatten.Nodup := by
    rw [List.flatten_append] at ndf
    exact (List.nodup_append.mp ndf).1
  have gd : ∀ i, i < s.length → (s ++ r).getD i [] = s.getD i [] := fun i hi => by
    rw [List.getD_eq_getElem?_getD, List.getD_eq_getElem?_getD, List.getElem?_append_left hi]
  have inS : ∀ {a : Int} {k : Nat}, a ∈ s.getD k [] → a ∈ s.flatten ∧ k < s.length := fun {a k} ha => by
    rcases Nat.lt_or_ge k s.length with hk | hk
    · rw [List.getD_eq_getElem?_getD, List.getElem?_eq_getElem hk] at ha
      exact ⟨List.mem_flatten.mpr ⟨_, List.getElem_mem hk, ha⟩, hk⟩
    · rw [List.getD_eq_getElem?_getD, List.getElem?_eq_none hk] at ha; cases ha
  have bd : ∀ {a : Int}, a ∈ s.flatten → 0 ≤ a ∧ a < (n : Int) := fun {a} ha =>
    mem_up.mp (pf.mem_iff.mp (by rw [List.flatten_append]; exact List.mem_append_left _ ha))
  refine ⟨?_, ?_, ?_, ?_⟩
  · refine List.Perm.trans ?_ pf
    rw [List.flatten_append, List.flatten_append]
    have : [s.flatten].flatten = s.flatten := by simp
    rw [this]
    exact List.perm_append_comm
  · rw [List.nodup_append]
    refine ⟨h.nd, news_nd nds cd _, fun t ht t' ht' e => ?_⟩
    subst e
    obtain ⟨k, hk, j, hj, a, ha, b, hb, rfl⟩ := mem_news ht'
    obtain ⟨g, hg, g1, g2⟩ := h.one _ ht
    obtain ⟨ga, gb⟩ := norm_ends g1 g2
    obtain ⟨i, hi, e⟩ := List.getElem_of_mem (pm.mem_iff.mp hg)
    have gi : (s ++ r).getD i [] = g := by rw [List.getD_eq_getElem?_getD, List.getElem?_eq_getElem hi, e]; rfl
    have e1 := grp_one ndf (i := i) (j := k) (by rw [gi]; exact ga) (by rw [gd k hk]; exact ha)
    have e2 := grp_one ndf (i := i) (j := j) (by rw [gi]; exact gb) (by rw [gd j (by omega)]; exact hb)
    omega
  · intro t ht
    rcases List.mem_append.mp ht with ht | ht
    · exact h.bd t ht
    · obtain ⟨k, hk, j, hj, a, ha, b, hb, rfl⟩ := mem_news ht
      have b1 := bd (inS ha).1
      have b2 := bd (inS hb).1
      have ne : a ≠ b := fun e => by subst e; have := grp_one nds ha hb; omega
      unfold norm
      dsimp only
      split <;> omega
  · intro t ht
    rcases List.mem_append.mp ht with ht | ht
    · obtain ⟨g, hg, g1, g2⟩ := h.one t ht
      rcases List.mem_append.mp (pm.mem_iff.mp hg) with m | m
      · exact ⟨s.flatten, List.mem_append_right _ (List.mem_singleton.mpr rfl), List.mem_flatten.mpr ⟨g, m, g1⟩, List.mem_flatten.mpr ⟨g, m, g2⟩⟩
      · exact ⟨g, List.mem_append_left _ m, g1, g2⟩
    · obtain ⟨k, hk, j, hj, a, ha, b, hb, rfl⟩ := mem_news ht
      refine ⟨s.flatten, List.mem_append_right _ (List.mem_singleton.mpr rfl), ?_, ?_⟩
      · unfold norm; dsimp only; split
        · exact (inS ha).1
        · exact (inS hb).1
      · unfold norm; dsimp only; split
        · exact (inS hb).1
        · exact (inS ha).1
theorem flat_one : ∀ ns : List Int, (ns.map fun x => [x]).flatten = ns
  | [] => rfl
  | a :: l => by rw [List.map_cons, List.flatten_cons, flat_one l]; rfl
theorem erase_perm {α : Type} : ∀ {l : List α} {i : Nat} (h : i < l.length), (l[i] :: l.eraseIdx i).Perm l
  | _ :: _, 0, _ => .refl _
  | a :: l, i + 1, h => by
    show (l[i]'(Nat.lt_of_succ_lt_succ h) :: a :: l.eraseIdx i).Perm (a :: l)
    exact (List.Perm.swap _ _ _).trans ((erase_perm (Nat.lt_of_succ_lt_succ h)).cons a)
/-! ### lengths -/
theorem newA_len {g h : List Int} {x y : Nat} (hg : g.length ≤ x) (hh : h.length ≤ y) : (newA g h).length ≤ x * y := by
  have : ∀ g : List Int, (newA g h).length = g.length * h.length := by
    intro g
    induction g with
    | nil => simp [newA]
    | cons a g ih =>
      have e : newA (a :: g) h = newA [a] h ++ newA g h := newA_app [a] g h
      rw [e, List.length_append, ih, newA_one, List.length_map, List.length_cons, Nat.succ_mul, Nat.add_comm]
  rw [this]
  exact Nat.mul_le_mul hg hh
theorem newK_len {s : List (List Int)} {cd : Nat → Nat → Bool} {k : Nat} (hs : ∀ i, (s.getD i []).length ≤ 12) : ∀ j, (newK s cd k j).length ≤ j * 144
  | 0 => Nat.zero_le _
  | j + 1 => by
    rw [newK_succ, List.length_append]
    have h1 := newK_len (s := s) (cd := cd) (k := k) hs j
    have h2 : (newA (if cd k j = true then s.getD k [] else []) (s.getD j [])).length ≤ 12 * 12 := newA_len (by split; exact hs k; exact Nat.zero_le _) (hs j)
    omega
theorem news_len {s : List (List Int)} {cd : Nat → Nat → Bool} (hs : ∀ i, (s.getD i []).length ≤ 12) : ∀ m, m ≤ 10 → (news s cd m).length ≤ m * 1440
  | 0, _ => Nat.zero_le _
  | m + 1, h => by
    rw [news_succ, List.length_append]
    have h1 := news_len (s := s) (cd := cd) hs m (by omega)
    have h2 := newK_len (s := s) (cd := cd) (k := m) hs m
    omega
theorem grp_len {n : Nat} {s : List (List Int)} {r : List (List Int)} (h : (s ++ r).flatten.Perm (up n)) (i : Nat) : (s.getD i []).length ≤ n := by
  rcases Nat.lt_or_ge i s.length with hi | hi
  · rw [List.getD_eq_getElem?_getD, List.getElem?_eq_getElem hi]
    have e := h.length_eq
    rw [up_len, List.flatten_append, List.length_append] at e
    have : ∀ (l : List (List Int)) (g : List Int), g ∈ l → g.length ≤ l.flatten.length := by
      intro l g hg
      induction l with
      | nil => cases hg
      | cons x l ih =>
        rw [List.flatten_cons, List.length_append]
        rcases List.mem_cons.mp hg with rfl | hg
        · omega
        · have := ih hg; omega
    have := this s _ (List.getElem_mem hi)
    show s[i].length ≤ n
    omega
  · rw [List.getD_eq_getElem?_getD, List.getElem?_eq_none hi]; exact Nat.zero_le _
end My

set_option Elab.async false
set_option linter.all false
set_option maxRecDepth 100000
set_option maxHeartbeats 2000000
namespace My
open PySem PySem.Spec PyProof.Rows L2 GxR

/-! ### the frame of a generator expression -/
abbrev gcx (X : Cx) (A' : Around) (s : Shared) (H : Hp) (cenv : Env) (fp : List Addr) (pn : List (Addr × Obj)) : Cx :=
  { X with A := A', s_0 := s, H_0 := H, env := cenv, outer := X.stack, stack := cenv :: X.stack, ex := fp, fn := fun _ => false, calm := true, pn := pn, xe := fun _ _ => False }
structure GsOk (scope : Scope) : Prop where
  co : scope.isCoroutine = false
  cell : ∀ y ∈ scope.names, y.2 ≠ .cell
  dot : scope.names.lookup (".0" : Str) = some NameKind.local

section
variable {X : Cx} {pins : List (Addr × Obj)} {σ : L2.St} {H : Hp} {s : Shared}
abbrev gEnv (X : Cx) (scope : Scope) (C : Addr) (code : Value) : Env :=
  genEnv scope (cloFrom X.env.cells scope.names []) C code builtinsNs X.env
theorem gen_inv {scope : Scope} {own : List (Str × Nat)} {fp : List Addr} {A' : Around} {C : Addr} {code : Value} {s5 : Shared}
    {m : Str → Option Value} {pn : List (Addr × Obj)} (I : Inv X pins σ H s) (ok : BlkOk X.N X.env.scope scope own) (hN : X.N.Nodup)
    (S : GsOk scope) (hfp : ∀ b ∈ fp, FpOk X pins H b ∧ b < s.heap.objs.size) (hC : C = s.heap.objs.size) (hA : A'.handled = none)
    (hF : A'.frames = some (gEnv X scope C code :: X.stack)) (kp : ∀ b o, s.heap.get? b = some o → s5.heap.get? b = some o)
    (hns : s5.heap.Ns C m) (hos : s5.os = s.os) (hb : AllBare s5.gens)
    (hpn : ∀ p ∈ pn, s5.heap.get? p.1 = some p.2 ∧ s.heap.objs.size < p.1 ∧ ∀ v, p.2.data ≠ .cell v) :
    Inv (gcx X A' s H (gEnv X scope C code) fp pn) [] (wipe σ (own.map (·.2))) H s5 := by
  have cm : ∀ {y : Str} {c : Addr}, (cloFrom X.env.cells scope.names []).lookup y = some c → X.env.cells.lookup y = some c ∧ c < s.heap.objs.size := fun {y c} e => by
    rcases cloFrom_mem (PySem.mem_of_lookup e) with z | ⟨h1, rfl⟩
    · cases z
    · have : ∃ c, X.env.cells.lookup y = some c := by
        rcases ok.free _ h1 rfl with k | k
        · exact I.ok.has _ (.inl k)
        · exact I.ok.has _ (.inr k)
      obtain ⟨c, hc⟩ := this
      rw [hc]
      obtain ⟨w, z⟩ := I.cell _ _ hc
      exact ⟨rfl, z.lt⟩
  have look : ∀ {y : Str}, scope.names.lookup y = some .free → ∃ c, (cloFrom X.env.cells scope.names []).lookup y = some c ∧ X.env.cells.lookup y = some c := fun {y} hl => by
    obtain ⟨c, e⟩ := mem_lookup (cloFrom_has (cells := X.env.cells) (acc := []) (PySem.mem_of_lookup hl))
    exact ⟨c, e, (cm e).1⟩
  have hCs : s.heap.objs.size ≤ C := Nat.le_of_eq hC.symm
  have okB : (gcx X A' s H (gEnv X scope C code) fp pn).Ok := by
    refine ⟨I.ok.mod, ok.kind, I.ok.glob, rfl, hCs, fun y z c e1 e2 => I.ok.inj y z c (cm e1).1 (cm e2).1, fun y hy => ?_, (fun y c z e => by cases z), fun _ => hA, hF, .inr ⟨rfl, rfl⟩,
      fun b hb => ⟨?_, fun y c e => (hfp b hb).1.2.2.2.2.1 y c (cm e).1⟩, I.bs, Nat.le_trans I.ok.bsz I.sz, fun b o e hb => ?_, fun b hb z => ?_, I.stack, I.stkFree⟩
    · rcases hy with hy | hy
      · exact absurd rfl (S.cell _ (PySem.mem_of_lookup (show scope.names.lookup y = some .cell from hy)))
      · obtain ⟨c, e, _⟩ := look (show scope.names.lookup y = some .free from hy)
        exact ⟨c, e⟩
    · show b ≠ C
      rw [hC]; exact Nat.ne_of_lt (hfp b hb).2
    · rcases (hfp b hb).1.2.2.2.1 with z | z
      · exact I.ok.noex b o e z
      · exact absurd (Nat.lt_of_lt_of_le (Heap.lt_size e) (Nat.le_trans I.ok.bsz z)) (Nat.lt_irrefl _)
    · rcases List.mem_cons.mp (I.stkSub b z) with z | z
      · exact (hfp b hb).1.2.1 z
      · exact (hfp b hb).1.2.2.1 z
  refine ⟨okB, hos, hb, Un.kept kp, ⟨m, hns, fun i y v e1 e2 e3 => ?_⟩, fun y c e => ?_, ?_, fun y c e => I.freeC y c (cm e).1, fun p hp => ?_, I.hok.kept kp, by rw [wipe_length]; exact I.len⟩
  · obtain ⟨e2, hne⟩ := wipe_some e2
    have no : ∀ k, scope.names.lookup y = some k → ¬ (k = .local ∨ k = .cell) := fun k e hh => by
      rcases ok.own _ (PySem.mem_of_lookup e) hh with z | z
      · obtain ⟨p, hp, hpy⟩ := List.mem_map.mp z
        have e4 := ok.ix p hp
        have hpy : p.1 = y := hpy
        rw [hpy] at e4
        exact hne (List.mem_map.mpr ⟨p, hp, nodup_ix hN e4 e1⟩)
      · exact z (List.mem_of_getElem? e1)
    have e3 : Vis scope y := e3
    have fr : scope.names.lookup y = some .free := by
      rcases e3 with e3 | e3 | e3
      · exact absurd (.inl rfl) (no _ e3)
      · exact absurd (.inr rfl) (no _ e3)
      · exact e3
    obtain ⟨m', hn, hl⟩ := I.loc
    have k := ok.free _ (PySem.mem_of_lookup fr) rfl
    have hv : Vis X.env.scope y := by
      rcases k with k | k
      · exact .inr (.inl k)
      · exact .inr (.inr k)
    obtain ⟨w, r, q⟩ := hl i y v e1 e2 hv
    refine ⟨w, r, .inr ⟨.inr fr, ?_⟩⟩
    obtain ⟨c, h1, h2⟩ := look fr
    rcases q with ⟨z, _⟩ | ⟨_, c', e', z⟩
    · have z : X.env.scope.names.lookup y = some .local := z
      rcases k with k | k <;> (have k : X.env.scope.names.lookup y = _ := k; rw [k] at z; cases z)
    · rw [h2] at e'; cases e'
      exact ⟨c, h1, z.keeps kp⟩
  · obtain ⟨w, z⟩ := I.cell y c (cm e).1
    exact ⟨w, z.keeps kp⟩
  · exact I.hok.fresh hCs
  · rw [List.append_nil] at hp
    obtain ⟨h1, h2, h3⟩ := hpn p hp
    refine ⟨h1, I.hok.fresh (Nat.le_of_lt h2), ?_, fun z => ?_, h3⟩
    · show p.1 ≠ C
      rw [hC]; exact Nat.ne_of_gt h2
    · rcases List.mem_cons.mp (I.stkSub p.1 z) with z | z
      · have := I.lt
        rw [← z] at this
        exact absurd (Nat.lt_trans h2 this) (Nat.lt_irrefl _)
      · exact I.nofs (Nat.le_of_lt h2) z
theorem inv_gens {gs : Array GenState} (I : Inv X pins σ H s) (hb : AllBare gs) : Inv X pins σ H { s with gens := gs } :=
  ⟨I.ok, I.os, hb, I.base, I.loc, I.cell, I.free, I.freeC, I.pin, I.hok, I.len⟩
theorem inv_setGen {g : Nat} {x : GenState} (I : Inv X pins σ H s) (hx : x.bare = true) : Inv X pins σ H (s.setGen g x) := by
  refine inv_gens I fun y hy => ?_
  rcases Array.mem_or_eq_of_mem_setIfInBounds hy with h | h
  · exact I.bare y h
  · rw [h]; exact hx
end

/-! ### the loop of a generator expression -/
section
variable {prog : Program} {w : World} {A : Around}
/-- n: how many more may come; Yl m v s: v is handed out, fewer than m turns are left; St m s: ready for the next turn -/
def protoG (St : Nat → Shared → Prop) (Yl : Nat → Value → Shared → Prop) : Protocol := fun n _ v s kap =>
  (∃ m, m ≤ n ∧ Yl m v s) ∧ ∀ s'' m', m' < n → St m' s'' → kap (.send .none) s''
theorem seg_loopG {elt tg iter : Expr} {scope : Scope} {pos : Pos} {it : Addr} {cenv : Env} (hco : cenv.scope.isCoroutine = false)
    (St : Nat → Shared → Prop) (En : Shared → Prop) (Yl : Nat → Value → Shared → Prop)
    (turn : ∀ m s, St m s → wpAny (model prog w) (A.over (.compLoop (.GeneratorExp elt [⟨tg, iter, [], 0⟩] scope pos) 0 (.ref it) .none cenv) []) (pyNext (.ref it)) (fun r s1 => match r with
      | none => En s1
      | some u => wpAny (model prog w) (A.over (.compLoop (.GeneratorExp elt [⟨tg, iter, [], 0⟩] scope pos) 0 (.ref it) .none cenv) []) (letOwnedTupleGo tg (.ref it) u) (fun _ s2 =>
          wpAny (model prog w) (A.over (.compLoop (.GeneratorExp elt [⟨tg, iter, [], 0⟩] scope pos) 0 (.ref it) .none cenv) []) (assign tg cenv u) (fun _ s3 =>
            wpAny (model prog w) (A.over (.compLoop (.GeneratorExp elt [⟨tg, iter, [], 0⟩] scope pos) 0 (.ref it) .none cenv) []) (eval elt cenv) (fun v s4 => Yl m v s4) (fun _ _ => False) s3) (fun _ _ => False) s2) (fun _ _ => False) s1) (fun _ _ => False) s) :
    ∀ (n m : Nat) (s₀ s : Shared), m < n → St m s →
      Seg (model prog w) A (fun _ _ r s₁ => r = .ok .next ∧ En s₁) (protoG St Yl) n s₀
        (.compLoop (.GeneratorExp elt [⟨tg, iter, [], 0⟩] scope pos) 0 (.ref it) .none cenv)
        ((model prog w).den (.compLoop (.GeneratorExp elt [⟨tg, iter, [], 0⟩] scope pos) 0 (.ref it) .none cenv)) [] s := by
  intro n
  induction n with
  | zero => intro m _ _ h; exact absurd h (Nat.not_lt_zero _)
  | succ n ih =>
    intro m s₀ s hm hst
    show Seg _ A _ _ _ s₀ _ ((compTurn (.GeneratorExp elt [⟨tg, iter, [], 0⟩] scope pos) 0 (.ref it) .none cenv).onRaise (leaving cenv)) [] s
    rw [compTurn_gen, Sem.onRaise_eq_wrap]
    refine seg_bind_wrap (wpAny_standAt ?_)
    refine seg_bind_wrap (wpAny_mono (turn m s hst) (fun r s1 h1 => ?_) fun _ _ e => e.elim)
    cases r with
    | none => exact seg_end (.ok .next) ⟨rfl, h1⟩
    | some u =>
      refine seg_bind_wrap (wpAny_mono h1 (fun _ s2 h2 => ?_) fun _ _ e => e.elim)
      refine seg_bind_wrap (wpAny_mono h2 (fun _ s3 h3 => ?_) fun _ _ e => e.elim)
      refine seg_bind_wrap ?_
      simp only [List.forIn_nil]
      refine wpAny_pure ?_
      simp only [if_true]
      have hy : ∀ v, yieldOut cenv v = yieldValue v := fun v => by simp only [yieldOut, hco, Bool.false_eq_true, if_false]
      simp only [hy]
      rw [Sem.bind_eq_wrap', Sem.bind_eq_wrap', Sem.wrap_wrap, Sem.wrap_wrap]
      refine seg_wrap (wpAny_mono h3 (fun v s4 h4 => ?_) fun _ _ e => e.elim)
      refine seg_at (seg_yield rfl rfl rfl ⟨⟨m, Nat.le_of_lt_succ hm, h4⟩, fun s'' m' hm' hst' => ?_⟩)
      exact seg_again rfl (ih m' s'' s'' hm' hst')
end
end My

set_option Elab.async false
set_option linter.all false
set_option maxRecDepth 100000
set_option maxHeartbeats 2000000
namespace My
open PySem PySem.Spec PyProof.Rows L2 GxR GenW

abbrev genObj (g : Nat) (x y : Value) : Obj := { cls := .type "generator", data := .fields #[.int g 0, x, y] }
/-- a generator expression is made: what stands then -/
structure Made (X : Cx) (pins : List (Addr × Obj)) (σ : L2.St) (elt tg iter : Expr) (scope : Scope) (gpos : Pos) (P : Addr) (J : It) (H1 H2 : Hp)
    (it : Addr) (fp : List Addr) (tn : Nat → Heap → Prop) (s4 s5 : Shared) (C a : Addr) (code : Value) (g : Nat) (x y : Value) : Prop where
  tab : Tabbed P H1 H2
  inv : Inv X pins σ H2 s4
  tu : Turn X.prog X.w X.K tg J fp it tn
  st : tn 0 s4.heap
  fp : ∀ b ∈ fp, FpOk X pins H2 b ∧ b < s4.heap.objs.size
  c : C = s4.heap.objs.size
  kp : ∀ b o, s4.heap.get? b = some o → s5.heap.get? b = some o
  ns : s5.heap.Ns C (fun y => if y = (".0" : Str) then some (.ref it) else none)
  os : s5.os = s4.os
  bare : AllBare s5.gens
  obj : s5.heap.get? a = some (genObj g x y)
  lt : s4.heap.objs.size < a
  gs : s5.gens[g]? = some (.fresh (.compStart (.GeneratorExp elt [⟨tg, iter, [], 0⟩] scope gpos) 0 (.ref it) .none (gEnv X scope C code)))

section
variable {X : Cx} {pins : List (Addr × Obj)} {σ : L2.St} {H : Hp} {s : Shared}
theorem gen_mk {c P : Addr} {elt tg iter : Expr} {gpos : Pos} {scope : Scope} {own : List (Str × Nat)} {wi : TI} {k : Nat} {Q' : Value → Shared → Prop} {R : It → Hp → Prop}
    (hr : Room k X.A) (TB : TabB X.base X.mg c P) (hcode : X.env.code = .ref c) (S : GsOk scope) (ok : BlkOk X.N X.env.scope scope own) (hi : PI X tg iter wi)
    (hs : ∀ v, genFold iter X.env v = pure v) (I : Inv X pins σ H s) (h : wi σ H fun J H1 => TabG H1 P ∧ R J H1)
    (hQ : ∀ J H1 H2 it fp tn s4 s5 C a code g x y, R J H1 → Made X pins σ elt tg iter scope gpos P J H1 H2 it fp tn s4 s5 C a code g x y → Q' (.ref a) s5) :
    wpAny (model X.prog X.w) X.A (eval (.GeneratorExp elt [⟨tg, iter, [], 0⟩] scope gpos) X.env) Q' X.xe s := by
  have hfree : ∀ y ∈ scope.names, y.2 = .free → ∃ c, X.env.cells.lookup y.1 = some c := fun y hy e => (ok.free y hy e).elim (fun k => I.ok.has _ (.inl k)) fun k => I.ok.has _ (.inr k)
  refine wpAny_GeneratorExp_make S.co (closure_ok hfree) S.cell S.dot ok.kind (by have := hr.dp; omega) ?_ hs
  refine thn (hi.run pins s σ H _ I h) fun xv s1 hx => thn hx fun itv s2 h2 => ?_
  obtain ⟨it, fp, tn, J, H1, rfl, I2, T, st2, f2, ⟨ps, hP, ht⟩, q⟩ := h2
  have hPs : s2.heap.get? P = some { cls := .none, data := .fields ps } := I2.hok P _ hP
  have cd : PySem.W.CodeHd s2.heap c P := TB.code.keeps fun b u e => I2.bk b u e
  have cont : ∀ (code : Value) (h3 : Heap) (tk : Nat) (more : Array Value), Heap.ExtBut P s2.heap h3 → s2.heap.objs.size ≤ h3.objs.size → h3.get? P = some { cls := .none, data := .fields (ps ++ more) } → TriplesOk (ps ++ more).toList →
      wpAny (model X.prog X.w) X.A (builtinsFor X.env.globals X.env.builtins) (fun bi s₄ =>
        ∀ h', h'.Ns s₄.heap.objs.size (fun y => if y = ".0" then some (Value.ref it) else none) → Heap.SameBut s₄.heap.objs.size (s₄.heap.push { cls := .type "frame", data := .dict #[] }) h' →
          Q' (.ref h'.objs.size) { s₄ with
            gens := s₄.gens.push (.fresh (.compStart (.GeneratorExp elt [⟨tg, iter, [], 0⟩] scope gpos) 0 (.ref it) .none (genEnv scope (cloFrom X.env.cells scope.names []) s₄.heap.objs.size code bi X.env))),
            toks := s₄.toks + 1 + 1 + 1,
            heap := h'.push { cls := .type "generator", data := .fields #[.int s₄.gens.size 0, .str "<genexpr>" (s₄.toks + 1), .str (X.env.qual ++ "<genexpr>") (s₄.toks + 1 + 1)] } }) X.xe { s2 with heap := h3, toks := tk } := by
    intro code h3 tk more hx hsz hP3 ht3
    obtain ⟨bm, ob, e1, e2, e3, e4, e5, e6, e7, e8⟩ := TB.bm
    have keep3 : ∀ b u, b ≠ P → s2.heap.get? b = some u → h3.get? b = some u := fun b u hb e => hx b u hb e
    refine wpAny_builtinsFor (m := X.mg) (by rw [I2.ok.glob]; exact (I2.mod.glob.keeps I2.bk).extBut hx TB.gP) e1 e2 (keep3 _ _ e4 (I2.bk _ _ e5)) e6 e7 e8 ?_
    intro h' hns hsb
    have I4 := inv_tab (more := more) (h' := h3) (g' := s2.gens) (d' := s2.drawn) (t' := tk) I2 hP keep3 hP3 I2.bare
    have old : ∀ b u, h3.get? b = some u → h'.get? b = some u := fun b u e => hsb.extBut b u (Nat.ne_of_lt (Heap.lt_size e)) (Heap.get?_push_of_some _ e)
    have hsz' : h'.objs.size = h3.objs.size + 1 := by rw [hsb.1, Heap.size_push]
    refine hQ J H1 (upd H1 P (.tbl (ps ++ more))) it fp tn { s2 with heap := h3, toks := tk } _ h3.objs.size _ code s2.gens.size _ _ q
      ⟨⟨⟨_, upd_same, ht3⟩, fun b hb => upd_ne hb⟩, I4, T, ?_, fun b hb => ⟨?_, ?_⟩, rfl, fun b o e => Heap.get?_push_of_some _ (old b o e), hns.keeps fun b o e => Heap.get?_push_of_some _ e, rfl, I2.bare.push rfl, Heap.get?_push_size _ rfl, ?_, ?_⟩
    · refine T.keep _ _ _ st2 fun b hb o e => keep3 b o (fun z => ?_) e
      have z2 := (f2 b hb).1
      rw [z, hP] at z2; cases z2
    · refine ⟨?_, (f2 b hb).2⟩
      have nb : b ≠ P := fun z => by
        have z2 := (f2 b hb).1
        rw [z, hP] at z2; cases z2
      rw [upd_ne nb]; exact (f2 b hb).1
    · obtain ⟨o, e, _⟩ := T.obj _ _ st2 b hb
      exact Nat.lt_of_lt_of_le (Heap.lt_size e) hsz
    · show h3.objs.size < h'.objs.size
      omega
    · show (s2.gens.push _)[s2.gens.size]? = _
      rw [Array.getElem?_push_size]
  refine ⟨I2.nolimit, ?_⟩
  cases hf : codeAmong gpos ps.toList with
  | none =>
    refine wpAny_genexprCodeX hcode (cd.code hPs ht) (cd.tab hPs) hf fun c' h' tk hx hge hlt hco' _ htab' _ => ?_
    obtain ⟨o1, vs, f1, tf, fl, tg', inF, tx, tt, op, _, _, _, _, _, _, _, _, _, htr, _⟩ := hco'
    exact cont _ h' tk _ hx (Nat.le_trans hge (Nat.le_of_lt hlt)) htab'.2 htr
  | some cv =>
    refine wpAny_genexprCode_hit hcode (cd.code hPs ht) hf ?_
    have z : ps ++ #[] = ps := by simp
    exact cont cv s2.heap s2.toks #[] (Heap.ExtBut.refl _ _) (Nat.le_refl _) (by rw [z]; exact hPs) (by rw [z]; exact ht)
end

/-! ### all, any: one item after another -/
section
variable {prog : Program} {w : World} {A : Around} {R : Result → Shared → Prop} {a : Addr} {g : Nat} {St : Nat → Shared → Prop} {En : Shared → Prop} {Yl : Nat → Value → Shared → Prop}
theorem allG_loop (hh : A.handled = none) (hd : A.in1.depth < recursionLimit)
    (hen : ∀ s₁ h', En s₁ → (∀ b o, s₁.heap.get? b = some o → h'.get? b = some o) → R (.ok (.ret (.bool true))) { s₁.setGen g .finished with heap := h' })
    (hyl : ∀ m v s₁ gs', gs'.bare = true → Yl m v s₁ → (v = .bool false ∧ R (.ok (.ret (.bool false))) (s₁.setGen g gs')) ∨
      (v = .bool true ∧ (s₁.setGen g gs').heap.NoLimit ∧ (s₁.setGen g gs').heap.IsGen a g ∧ ∃ m', m' < m ∧ St m' ((s₁.setGen g gs').setGen g .running))) :
    ∀ (n : Nat) (s : Shared), s.heap.NoLimit → s.heap.IsGen a g →
      (∃ gs, s.gens[g]? = some gs ∧ gs.Goes (model prog w) A.in1.in1 (fun _ _ r s₁ => r = .ok .next ∧ En s₁) (protoG St Yl) n (.send .none) (s.setGen g .running)) →
      codeAny (model prog w) A (.builtin "all.loop" ⟨[.ref a], []⟩) R s := by
  intro n
  induction n with
  | zero =>
    rintro s hl hg ⟨gs, hgs, hgo⟩
    refine codeAny_builtin F.entry_all_loop ?_
    rw [Around.under_plainId F.plain_all_loop _]
    show wpAny _ A.in1 (pyNext (.ref a) >>= _) _ _ s
    refine wpAny_bind (wpAny_pyNext_genexpQ (P := fun _ _ s₁ => En s₁) hh hl hd hg hgs hgo (fun v s₁ gs' hb hY => ?_) (fun s₁ hP h' hk => ?_))
    · obtain ⟨⟨m, hm, hy⟩, _⟩ := hY
      rcases hyl m v s₁ gs' hb hy with ⟨rfl, hR⟩ | ⟨_, _, _, m', hm', _⟩
      · refine wpAny_bind (wpAny_holding (wpAny_truthy_bool ?_))
        refine wpAny_bind (wpAny_letGo ?_)
        simp only [Bool.false_eq_true, if_false]
        exact wpAny_bind (wpAny_rule (wpAny_pure hR))
      · omega
    · exact wpAny_bind (wpAny_rule (wpAny_pure (hen s₁ h' hP hk)))
  | succ n ih =>
    rintro s hl hg ⟨gs, hgs, hgo⟩
    refine codeAny_builtin F.entry_all_loop ?_
    rw [Around.under_plainId F.plain_all_loop _]
    show wpAny _ A.in1 (pyNext (.ref a) >>= _) _ _ s
    have hsz : g + 1 ≤ s.gens.size := by
      rcases Nat.lt_or_ge g s.gens.size with z | z
      · exact z
      · rw [Array.getElem?_eq_none z] at hgs; cases hgs
    refine wpAny_bind (wpAny_gsz hsz (wpAny_pyNext_genexpQ (P := fun _ _ s₁ => En s₁) hh hl hd hg hgs hgo (fun v s₁ gs' hb hY hn => ?_) (fun s₁ hP h' hk _ => ?_)))
    · obtain ⟨⟨m, hm, hy⟩, hres⟩ := hY
      rcases hyl m v s₁ gs' hb hy with ⟨rfl, hR⟩ | ⟨rfl, hl', hg', m', hm', hst⟩
      · refine wpAny_bind (wpAny_holding (wpAny_truthy_bool ?_))
        refine wpAny_bind (wpAny_letGo ?_)
        simp only [Bool.false_eq_true, if_false]
        exact wpAny_bind (wpAny_rule (wpAny_pure hR))
      · refine wpAny_bind (wpAny_holding (wpAny_truthy_bool ?_))
        refine wpAny_bind (wpAny_letGo ?_)
        simp only [if_true]
        have hm : m ≤ n := hm
        refine wpAny_pure ⟨plainId_quiet F.plain_all_loop _, ih _ hl' hg' ⟨gs', ?_, hres _ m' (by omega) hst⟩⟩
        have hn' : g < s₁.gens.size := by
          rw [setGen_size] at hn; exact hn
        show (s₁.gens.setIfInBounds g gs')[g]? = some gs'
        rw [Array.getElem?_setIfInBounds_self, if_pos hn']
    · exact wpAny_bind (wpAny_rule (wpAny_pure (hen s₁ h' hP hk)))
end
end My

set_option Elab.async false
set_option linter.all false
set_option maxRecDepth 100000
set_option maxHeartbeats 2000000
namespace My
open PySem PySem.Spec PyProof.Rows L2 GxR GenW

/-- the around of the generator's frame, asked for by all or any -/
abbrev gA (X : Cx) (elt tg iter : Expr) (scope : Scope) (gpos : Pos) (it : Addr) (C : Addr) (code : Value) : Around :=
  X.A.in1.in1.over (.compLoop (.GeneratorExp elt [⟨tg, iter, [], 0⟩] scope gpos) 0 (.ref it) .none (gEnv X scope C code)) []
theorem gA_room {X : Cx} {elt tg iter : Expr} {scope : Scope} {gpos : Pos} {it C : Addr} {code : Value} {k : Nat} (hr : Room (k + 1) X.A) : Room k (gA X elt tg iter scope gpos it C code) := by
  have h1 : (gA X elt tg iter scope gpos it C code).depth = X.A.depth + 1 := rfl
  have h2 : (gA X elt tg iter scope gpos it C code).units ≤ X.A.units + 16 := by
    show X.A.in1.in1.units + _ + _ ≤ _
    have : X.A.in1.in1.units ≤ X.A.units + 8 := by
      first
        | exact Nat.le_add_right _ _
        | (show X.A.units + _ + _ ≤ _; omega)
    show X.A.in1.in1.units + 0 + 3 ≤ _
    omega
  exact ⟨hr.hd, by have := hr.dp; omega, by have := hr.un; omega⟩
theorem gA_frames {X : Cx} {elt tg iter : Expr} {scope : Scope} {gpos : Pos} {it C : Addr} {code : Value} (h : X.A.frames = some X.stack) :
    (gA X elt tg iter scope gpos it C code).frames = some (gEnv X scope C code :: X.stack) := by
  have e : (gA X elt tg iter scope gpos it C code).frames = pushEnvs [gEnv X scope C code] (pushEnvs [] X.A.frames) := rfl
  rw [e, h]; rfl

/-- all(e for tg in iter) -/
def tAllG (P : Addr) (wi : TI) (g : TG) (te : TE) (vs : List Nat) : TE := fun σ H Q => wi σ H fun J H1 => TabG H1 P ∧ ∀ H2, Tabbed P H1 H2 →
  ∃ W : Nat → Nat → Hp → Prop, (∃ m, W 0 m H2) ∧ ∀ i m H, W i m H → (J.stop i H ∧ Q (.bl true) H) ∨
    (J.go i H ∧ ∃ Nx : Hp → Prop, (∀ H', Nx H' → ∃ m', m' < m ∧ W (i + 1) m' H') ∧ ∀ x H', J.yld i H x H' → g x (wipe σ vs) H' fun σ2 H2 => wipe σ2 vs = wipe σ vs ∧
      te σ2 H2 fun y H3 => ∃ b, y = .bl b ∧ if b = true then Nx H3 else Q (.bl false) H3)

section
variable {X : Cx}
theorem pe_allG {c P : Addr} {elt tg iter : Expr} {p pos gpos : Pos} {scope : Scope} {own : List (Str × Nat)} {wi : TI} {g : TG} {te : TE} {k : Nat}
    (hc : X.calm = true) (hN : X.N.Nodup) (hr : Room (k + 1) X.A) (hgl : Gl X "all") (hm : X.mg "all" = none) (TB : TabB X.base X.mg c P) (hcode : X.env.code = .ref c)
    (S : GsOk scope) (ok : BlkOk X.N X.env.scope scope own) (hi : PI X tg iter wi)
    (hg : ∀ A' s H C code fp pn, PG (gcx X A' s H (gEnv X scope C code) fp pn) tg g)
    (he : ∀ A' s H C code fp pn, Room k A' → PE (gcx X A' s H (gEnv X scope C code) fp pn) elt te)
    (hs : ∀ v, genFold iter X.env v = pure v := by intro _; rfl)
    (h1 : starEach [.GeneratorExp elt [⟨tg, iter, [], 0⟩] scope gpos] X.env = (false, eval (.GeneratorExp elt [⟨tg, iter, [], 0⟩] scope gpos) X.env) :: starEach [] X.env := by rfl) :
    PE X (.Call (.Name "all" p) [.GeneratorExp elt [⟨tg, iter, [], 0⟩] scope gpos] [] pos) (tAllG P wi g te (own.map (·.2))) := by
  refine ⟨fun pins s σ H Q I h => ?_⟩
  refine wpAny_Call_Name_kw (ld_blt I hgl hm boot_all ?_)
  refine PyProof.Rows.callWith_builtin1 ?_ h1 (by rfl)
  rw [h1]
  show wpAny _ _ (spliced ((false, eval (.GeneratorExp elt [⟨tg, iter, [], 0⟩] scope gpos) X.env) :: backTo pos (starEach [] X.env))) _ _ s
  refine Calls.spliced_cons (gen_mk hr TB hcode S ok hi hs I h fun J H1 H2 it fp tn s4 s5 C a code gi x y q M => ?_)
  refine Calls.spliced_nil ?_
  obtain ⟨W, ⟨m0, w0⟩, turn⟩ := q H2 M.tab
  have hX : X.A.handled = none := M.inv.ok.hd hc
  have I5 : Inv (gcx X (gA X elt tg iter scope gpos it C code) s4 H2 (gEnv X scope C code) fp [(a, genObj gi x y)]) [] (wipe σ (own.map (·.2))) H2 s5 :=
    gen_inv M.inv ok hN S M.fp M.c hX (gA_frames M.inv.ok.frames) M.kp M.ns M.os M.bare fun p hp => by
      rw [List.mem_singleton.mp hp]
      exact ⟨M.obj, M.lt, fun v e => by cases e⟩
  have pg := hg (gA X elt tg iter scope gpos it C code) s4 H2 C code fp [(a, genObj gi x y)]
  have pe := he (gA X elt tg iter scope gpos it C code) s4 H2 C code fp [(a, genObj gi x y)] (gA_room hr)
  have T := M.tu
  generalize hY : gcx X (gA X elt tg iter scope gpos it C code) s4 H2 (gEnv X scope C code) fp [(a, genObj gi x y)] = Y at I5 pg pe
  have stat : ∀ {σ' : L2.St} {H' : Hp} {s' : Shared}, Inv Y [] σ' H' s' → (∀ b ∈ fp, H' b = none) → ∀ b ∈ fp, FpOk Y [] H' b := fun {σ' H' s'} I' hn b hb => by
    subst hY
    refine ⟨hn b hb, (I'.ok.exf b hb).1, I'.ok.exfs b hb, .inl hb, fun x c e => (I'.ok.exf b hb).2 x c e, fun p hp => ?_⟩
    have hp : p ∈ [(a, genObj gi x y)] ++ ([] : List (Addr × Obj)) := hp
    rw [List.append_nil] at hp
    rw [List.mem_singleton.mp hp]
    have h2 := (M.fp b hb).2
    have h3 := M.lt
    exact Nat.ne_of_gt (Nat.lt_trans h2 h3)
  have obj : ∀ {σ' : L2.St} {H' : Hp} {s' : Shared}, Inv Y [] σ' H' s' → s'.heap.IsGen a gi := fun {σ' H' s'} I' => by
    subst hY
    exact ⟨_, x, y, (I'.pin (a, genObj gi x y) (List.mem_append_left _ (List.mem_singleton.mpr rfl))).1, rfl, rfl, rfl⟩
  have back : ∀ {σ' : L2.St} {H' : Hp} {s' : Shared}, Inv Y [] σ' H' s' → Inv X pins σ H' s' := fun {σ' H' s'} I' => by
    subst hY
    exact M.inv.call' (ch := fp) I'.os I'.base I'.hok I'.bare fun b hb => ⟨(M.fp b hb).1.2.2.2.1, (M.fp b hb).1.2.1, (M.fp b hb).1.2.2.2.2.1, (M.fp b hb).1.2.2.2.2.2⟩
  have seg := seg_loopG (prog := X.prog) (w := X.w) (A := X.A.in1.in1) (elt := elt) (tg := tg) (iter := iter) (scope := scope) (pos := gpos) (it := it) (cenv := gEnv X scope C code) S.co
    (fun m s => ∃ i H', Inv Y [] (wipe σ (own.map (·.2))) H' s ∧ tn i s.heap ∧ (∀ b ∈ fp, H' b = none) ∧ W i m H')
    (fun s => ∃ H', Inv Y [] (wipe σ (own.map (·.2))) H' s ∧ Q (.bl true) H')
    (fun m v s => ∃ i H' b, v = .bool b ∧ Inv Y [] (wipe σ (own.map (·.2))) H' s ∧ tn i s.heap ∧ (∀ b ∈ fp, H' b = none) ∧ if b = true then ∃ m', m' < m ∧ W i m' H' else Q (.bl false) H') ?_
  · have hl5 : s5.heap.NoLimit := I5.nolimit
    refine call_function_tree F.kind_all F.plain_all F.entry_all (F.args_all1 _) ?_
    unfold Builtin.«all»
    refine wpAny_bind (m := oneArg "all" _) (wpAny_pure ?_)
    refine wpAny_bind (wpAny_pyIter_gen (obj I5) ?_)
    refine wpAny_pure ⟨plainId_quiet F.plain_all_loop _, ?_⟩
    refine allG_loop (g := gi) (n := m0 + 1) (St := fun m s => ∃ i H', Inv Y [] (wipe σ (own.map (·.2))) H' s ∧ tn i s.heap ∧ (∀ b ∈ fp, H' b = none) ∧ W i m H')
      (En := fun s => ∃ H', Inv Y [] (wipe σ (own.map (·.2))) H' s ∧ Q (.bl true) H')
      (Yl := fun m v s => ∃ i H' b, v = .bool b ∧ Inv Y [] (wipe σ (own.map (·.2))) H' s ∧ tn i s.heap ∧ (∀ b ∈ fp, H' b = none) ∧ if b = true then ∃ m', m' < m ∧ W i m' H' else Q (.bl false) H')
      hX (by have := hr.dp; show X.A.depth < _; omega) ?_ ?_ s5 hl5 (obj I5) ⟨_, M.gs, rfl, ?_⟩
    · rintro s₁ h' ⟨H', I', qq⟩ hk
      have I6 := inv_setGen (g := gi) (x := .finished) I' rfl
      have I7 := (back I6).kept (t' := s₁.toks) hk
      exact ⟨.bl true, H', I7, rfl, qq⟩
    · rintro m v s₁ gs' hb ⟨i, H', b, rfl, I', st', n', q'⟩
      have I6 := inv_setGen (g := gi) I' hb
      cases b with
      | false => exact .inl ⟨rfl, .bl false, H', back I6, rfl, q'⟩
      | true =>
        obtain ⟨m', hm', w'⟩ : ∃ m', m' < m ∧ W i m' H' := q'
        exact .inr ⟨rfl, I6.nolimit, obj I6, m', hm', i, H', inv_setGen I6 rfl, st', n', w'⟩
    · -- the start
      have I6 : Inv Y [] (wipe σ (own.map (·.2))) H2 (s5.setGen gi .running) := inv_setGen I5 rfl
      have st5 : tn 0 (s5.setGen gi .running).heap := T.keep _ _ _ M.st fun b _ o e => M.kp b o e
      have loop := seg (m0 + 1) m0 (s5.setGen gi .running) (s5.setGen gi .running) (Nat.lt_succ_self _) ⟨0, H2, I6, st5, fun b hb => (M.fp b hb).1.1, w0⟩
      show Seg _ X.A.in1.in1 _ _ _ _ _ ((compStart (.GeneratorExp elt [⟨tg, iter, [], 0⟩] scope gpos) 0 (.ref it) .none (gEnv X scope C code)).onRaise (leaving (gEnv X scope C code))) [] _
      unfold compStart
      rw [Sem.onRaise_eq_wrap]
      show Seg _ X.A.in1.in1 _ _ _ _ _ ((ask >>= _).wrap _ _ _ _) [] _
      refine seg_bind_wrap (wpAny_askSetting ?_)
      split
      · exact seg_again rfl loop
      · refine seg_bind_wrap (wpAny_rule ?_)
        show Seg _ X.A.in1.in1 _ _ _ _ _ ((standAt iter.pos >>= _).wrap _ _ _ _) [] _
        exact seg_bind_wrap (wpAny_standAt (seg_bind_wrap (T.self _ 0 _ _ _ st5 (seg_again rfl loop))))
  · rintro m s6 ⟨i, H', I', st', n', w'⟩
    rcases turn i m H' w' with ⟨stop, qq⟩ | ⟨go, Nx, hNx, step⟩
    · have td := T.done Y (by subst hY; rfl) (by subst hY; rfl) (by subst hY; rfl) (by subst hY; rfl) i [] s6 _ H' (fun _ _ => False) I' (stat I' n') st' stop
      subst hY
      refine wpAny_mono td (fun r s7 ⟨hr7, I7⟩ => ?_) fun _ _ e => e
      subst hr7
      exact ⟨H', I7, qq⟩
    · have ti := T.item Y (by subst hY; rfl) (by subst hY; rfl) (by subst hY; rfl) (by subst hY; rfl) i [] s6 _ H' (fun _ _ => False) I' (stat I' n') st' go
      subst hY
      refine wpAny_mono ti (fun r s7 ⟨u, hr7, h7⟩ => ?_) fun _ _ e => e
      subst hr7
      refine wpAny_mono h7 (fun _ s8 ⟨xv, H8, I8, r8, y8, st8, n8⟩ => ?_) fun _ _ e => e
      have I8' := I8.pinned (stat I8 n8) (T.obj _ _ st8)
      refine wpAny_mono (pg.run _ s8 _ H8 xv u _ I8' r8 (step xv H8 y8)) (fun _ s9 ⟨σ9, H9, I9, hw9, q9⟩ => ?_) fun _ _ e => e
      refine wpAny_mono (pe.run _ s9 σ9 H9 _ I9 q9) (fun v s10 ⟨yv, H10, I10, r10, b, eb, q10⟩ => ?_) fun _ _ e => e
      subst eb
      cases r10
      have pin' : ∀ b ∈ fp, ∀ o, s8.heap.get? b = some o → s10.heap.get? b = some o ∧ H10 b = none := fun b hb o e =>
        let z := I10.pin (b, o) (List.mem_append_right _ (List.mem_append_right _ (mem_pinsAt hb e)))
        ⟨z.1, z.2.1⟩
      have hl : (wipe σ (own.map (·.2))).length = σ9.length := by rw [← hw9, wipe_length]
      refine ⟨i + 1, H10, b, rfl, (I10.unpinned (pins := [])).weak hl (fun j v e => ?_), T.keep _ _ _ st8 fun b hb o e => (pin' b hb o e).1, fun b hb => ?_, ?_⟩
      · rw [← hw9] at e
        exact (wipe_some e).1
      · obtain ⟨o, e, _⟩ := T.obj _ _ st8 b hb
        exact (pin' b hb o e).2
      · cases b with
        | true => exact hNx H10 q10
        | false => exact q10
end
end My

set_option Elab.async false
set_option linter.all false
set_option maxRecDepth 100000
namespace My
open PySem PySem.Spec PyProof.Rows L2 GxR

/-! ### a def whose code object is known -/
section
variable {P : Program} {w : World} {K : PySem.W.Frag} {mg : Str → Option Value} {base : Heap}
theorem okC {x qual : Str} {st : Stmt} {f c : Addr} {fd : FuncData} {N ps : List Str} {k : Nat} {sp : Sp} (F : Fun K x qual st f fd) (hc : fd.code = .ref c) (S : FnScope N ps (defScope st))
    (len : ∀ vs H Q E, sp vs H Q E → vs.length = ps.length)
    (hbody : ∀ (A : Around) (outer : List Env) (s : Shared) (H : Hp) (vs : List V) (Q : VK) (E : XK), Room k (A.deeper (envOfC qual (defScope st) s.heap.objs.size f (.ref c))) → sp vs H Q E →
      ∃ t, PSs (cxOf CX0 P w K mg base N qual (defScope st) f (.ref c) A outer s H E).nox (defBody st) t ∧ t { nx := fun _ H' => Q .non H', rt := Q } (start N vs) H) : FnOk P w K mg base CX0 (k + 1) f fd ps sp := by
  obtain ⟨oc, od, kV, doc, pm, an, cdv, ct, osl, rfl, lk, hcd⟩ := F.ex
  have e : cdv = .ref c := hc
  subst e
  refine fn_of lk hcd S len fun A outer s H vs Q E hr hsp => ?_
  obtain ⟨t, h, q⟩ := hbody A outer s H vs Q E hr hsp
  exact ⟨t, h.nox, q⟩
theorem fun_of {x qual : Str} {st : Stmt} {f : Addr} {fd : FuncData} {kws : List (Str × V)} (F : FunD K x qual (defArgs st) (defBody st) (defScope st) [] kws f fd) : Fun K x qual st f fd := by
  obtain ⟨oc, od, dV, kV, doc, pm, an, cdv, ct, osl, rfl, lk, hcd, hD, _⟩ := F.ex
  rcases hD with ⟨_, rfl⟩ | ⟨e, _⟩
  · exact ⟨⟨oc, od, kV, doc, pm, an, cdv, ct, osl, rfl, lk, hcd⟩, F.kp⟩
  · exact absurd rfl e
end

/-! ### a < b < c < d -/
section
variable {X : Cx} {a b c d : Expr} {ta tb tc td : TE} {pos : Pos}
def tChain3 (r1 r2 r3 : R2) (ta tb tc td : TE) : TE := fun σ H Q => ta σ H fun x H1 => tb σ H1 fun y H2 => r1 x y H2 fun z H3 => ∃ k, z = .bl k ∧
  (if k = true then tc σ H3 fun v H4 => r2 y v H4 fun z H5 => ∃ k, z = .bl k ∧ (if k = true then td σ H5 fun u H6 => r3 v u H6 Q else Q (.bl false) H5) else Q (.bl false) H3)
theorem pe_chain3 {o1 o2 o3 : CmpOp} {r1 r2 r3 : R2} (h1 : OpR X (compareOp o1) r1) (h2 : OpR X (compareOp o2) r2) (h3 : OpR X (compareOp o3) r3) (ha : PE X a ta) (hb : PE X b tb) (hc : PE X c tc) (hd : PE X d td)
    (hm : lastMarks [o1, o2, o3] [b, c, d] = false := by with_unfolding_all rfl) : PE X (.Compare a [o1, o2, o3] [b, c, d] pos) (tChain3 r1 r2 r3 ta tb tc td) := by
  refine ⟨fun pins s σ H Q I h => ?_⟩
  refine Compare_chain (thn (ha.run pins s σ H _ I h) fun v s1 ⟨x, H1, I1, q1, p1⟩ => chain_link (thn (hb.run pins s1 σ H1 _ I1 p1) fun u s2 ⟨y, H2, I2, q2, p2⟩ =>
    thn (h1 pins s2 σ H2 x y v u _ I2 q1 q2 p2) fun e s3 ⟨z, H3, I3, q3, k, ek, p3⟩ => ?_)) hm
  subst ek
  cases q3
  refine wpAny_truthy_bool ?_
  cases k with
  | false => exact ite_ff ⟨.bl false, H3, I3, rfl, p3⟩
  | true =>
    refine ite_tt (chain_link (thn (hc.run pins s3 σ H3 _ I3 p3) fun u4 s4 ⟨y4, H4, I4, q4, p4⟩ => thn (h2 pins s4 σ H4 y y4 u u4 _ I4 q2 q4 p4) fun e5 s5 ⟨z5, H5, I5, q5, k5, ek5, p5⟩ => ?_))
    subst ek5
    cases q5
    refine wpAny_truthy_bool ?_
    cases k5 with
    | false => exact ite_ff ⟨.bl false, H5, I5, rfl, p5⟩
    | true => exact ite_tt (chain_last (thn (hd.run pins s5 σ H5 _ I5 p5) fun u6 s6 ⟨y6, H6, I6, q6, p6⟩ => h3 pins s6 σ H6 y4 y6 u4 u6 Q I6 q4 q6 p6))
end

/-! ### all over what is walked -/
theorem allG_it {J : It} {n : Nat} {G : Hp → Prop} {Y : Nat → Hp → V → Hp → Prop} (w : Walk J n G Y) {g : TG} {te : TE} {vs : List Nat} {σ : L2.St} {H0 : Hp} {QT QF : Hp → Prop} (Pv : Nat → Hp → Prop) (h0 : Pv 0 H0) (hG : ∀ i H, i ≤ n → Pv i H → G H)
    (hs : ∀ i x H H', i < n → Pv i H → Y i H x H' → g x (wipe σ vs) H' fun σ2 H2 => wipe σ2 vs = wipe σ vs ∧ te σ2 H2 fun y H3 => ∃ b, y = .bl b ∧ if b = true then Pv (i + 1) H3 else QF H3)
    (hd : ∀ H, Pv n H → QT H) :
    ∃ W : Nat → Nat → Hp → Prop, (∃ m, W 0 m H0) ∧ ∀ i m H, W i m H → (J.stop i H ∧ QT H) ∨
      (J.go i H ∧ ∃ Nx : Hp → Prop, (∀ H', Nx H' → ∃ m', m' < m ∧ W (i + 1) m' H') ∧ ∀ x H', J.yld i H x H' → g x (wipe σ vs) H' fun σ2 H2 => wipe σ2 vs = wipe σ vs ∧
        te σ2 H2 fun y H3 => ∃ b, y = .bl b ∧ if b = true then Nx H3 else QF H3) := by
  refine ⟨fun i m H => m = n - i ∧ i ≤ n ∧ Pv i H, ⟨n, rfl, Nat.zero_le _, h0⟩, ?_⟩
  rintro i m H ⟨rfl, hi, p⟩
  have q := hG i H hi p
  by_cases hlt : i < n
  · exact .inr ⟨w.goes i H hlt q, Pv (i + 1), fun H' p' => ⟨n - (i + 1), by omega, rfl, hlt, p'⟩, fun x H' y => hs i x H H' hlt p (w.yields i H x H' hlt q y)⟩
  · have e : i = n := by omega
    subst e
    exact .inl ⟨w.stops H q, hd H p⟩
theorem walk_zipT {K : PySem.W.Frag} {a b : Addr} {xs ys : List V} {n : Nat} (hn : n = min xs.length ys.length) :
    Walk (RZ.ItzT K a b) n (fun H => SqT K H a xs ∧ SqT K H b ys) (YPair (fun i => xs[i]?) (fun i => ys[i]?)) := by
  subst hn
  refine ⟨fun i _ hi q => ?_, fun _ q => ⟨xs, ys, q.1, q.2, by omega⟩, fun i H v H' _ q y => ?_⟩
  · have h1 : i < xs.length := by omega
    have h2 : i < ys.length := by omega
    exact ⟨xs, ys, xs[i], ys[i], q.1, q.2, List.getElem?_eq_getElem h1, List.getElem?_eq_getElem h2⟩
  · obtain ⟨T, x, z, h1, h2, h3, h4, h5⟩ := y
    exact ⟨T, x, z, h1, h2, h3, h4 xs q.1, h5 ys q.2⟩
theorem cut1 (xs : List V) : cutV xs (some 1) none = xs.drop 1 := by
  unfold cutV
  rw [show HT.sIx xs.length 0 (some 1) = min 1 xs.length from HT.sIx_nat xs.length 0 1, HT.sIx_none]
  cases xs with
  | nil => rfl
  | cons x r =>
    rw [show min 1 (x :: r).length = 1 by rw [List.length_cons]; omega]
    show (List.take ((x :: r).length - 1) r) = r
    rw [List.length_cons, Nat.add_sub_cancel]
    exact List.take_length
theorem lex_of {s t : Int × Int} (h : ltT s t) : HT.lexLt [s.1, s.2] [t.1, t.2] = true := by
  rw [HT.lexLt_cons]
  rcases h with h | ⟨h, k⟩
  · rw [if_neg (by omega)]; exact decide_eq_true h
  · rw [if_pos h, HT.lexLt_cons, if_neg (by omega)]; exact decide_eq_true k
end My

set_option Elab.async false
set_option linter.all false
set_option maxRecDepth 100000
namespace My
open PySem PySem.Spec PyProof.Rows L2
def topS (i : Nat) : Stmt := PySem.Challenge.pw_pointedties_k54_webs_of_two_rows.main.body.getD i (.Pass ⟨0, 0, 0, 0⟩)
section
variable {P : Program} {w : World} {K : PySem.W.Frag} {mg : Str → Option Value} {base : Heap}

/-! ### _law_mix -/
abbrev s__law_mix : Stmt := topS 16
abbrev N__law_mix : List Str := ["_law_cell", "_law_k", "_law_m"]
theorem sc__law_mix : FnScope N__law_mix ["_law_cell", "_law_k"] (defScope s__law_mix) := ⟨rfl, rfl, rfl, by decide +kernel, rfl, by decide +kernel, by decide +kernel⟩
def sp_mix : Sp := fun vs H Q _ => ∃ c k : Int, vs = [.int c, .int k] ∧ -(2 ^ 60) < k ∧ k < 2 ^ 60 ∧
  ∀ r : Int, 0 ≤ r → Q (.int r) H
theorem ok_mix {f : Addr} {fd : FuncData} (F : Fun K "_law_mix" "_law_mix" s__law_mix f fd) :
    FnOk P w K mg base CX0 1 f fd ["_law_cell", "_law_k"] sp_mix := by
  refine F.ok sc__law_mix (fun vs H Q E h => ?_) (fun cdv A outer s H vs Q E hr h => ?_)
  · obtain ⟨c, k, rfl, _⟩ := h; rfl
  · obtain ⟨c, k, rfl, h1, h2, q⟩ := h
    refine ⟨_, (pss_cons (ps_set (i := 2) sc__law_mix.nd rfl (by first | exact Or.inl rfl | exact Or.inr rfl) (pe_op op_mod (pe_op op_mul (pe_op op_add (pe_op op_add (pe_op op_mod (pv 0) pe_int) (pe_op op_mul (pe_op op_mul (pv 1) (pv 1)) pe_int)) pe_int) pe_int) pe_int))
    (pss_one (ps_ret (pe_op op_mod (pe_op op_mul (pv 2) (pv 2)) pe_int)))), ?_⟩
    refine ⟨_, rfl, _, _, rfl, rfl, (by decide : (0 : Int) < 2147483629), ?_⟩
    refine ⟨_, rfl, _, rfl, _, _, rfl, rfl, .inl ⟨by omega, by omega⟩, ?_⟩
    refine ⟨_, _, rfl, rfl, .inr ⟨by decide, by decide⟩, ?_⟩
    refine ⟨_, _, rfl, rfl, ?_⟩
    refine ⟨_, _, rfl, rfl, ?_⟩
    refine ⟨_, _, rfl, rfl, .inr ⟨by decide, by decide⟩, ?_⟩
    refine ⟨_, _, rfl, rfl, (by decide : (0 : Int) < 2147483647), ?_⟩
    have b1 : ∀ x : Int, 0 ≤ x % 2147483647 := fun x => Int.emod_nonneg _ (by decide)
    have b2 : ∀ x : Int, x % 2147483647 < 2147483647 := fun x => Int.emod_lt_of_pos _ (by decide)
    refine ⟨_, rfl, _, rfl, _, _, rfl, rfl, .inl ⟨by have := b1 (((c % 2147483629 + k * k * 7919) + 11) * 48271); omega, by have := b2 (((c % 2147483629 + k * k * 7919) + 11) * 48271); omega⟩, ?_⟩
    refine ⟨_, _, rfl, rfl, (by decide : (0 : Int) < 1999999973), ?_⟩
    exact q _ (Int.emod_nonneg _ (by decide))

/-! ### _law_left -/
abbrev s__law_left : Stmt := topS 17
abbrev N__law_left : List Str := ["_law_script", "_law_k", "_law_cell"]
theorem sc__law_left : FnScope N__law_left ["_law_script", "_law_k"] (defScope s__law_left) := ⟨rfl, rfl, rfl, by decide +kernel, rfl, by decide +kernel, by decide +kernel⟩
def sp_left (K : PySem.W.Frag) : Sp := fun vs H Q _ => ∃ (a : Addr) (ns : List Int) (k : Int), vs = [.ref a, .int k] ∧ SqL K H a (ns.map V.int) ∧ 0 ≤ k ∧ k < 2 ^ 60 ∧
  ∀ L H', H L = none → Same H H' → Lf H' L 0 → Q (.ref L) H'
theorem ok_left {f : Addr} {fd : FuncData} (B : Bts mg) (F : Fun K "_law_left" "_law_left" s__law_left f fd) :
    FnOk P w K mg base CX0 1 f fd ["_law_script", "_law_k"] (sp_left K) := by
  refine F.ok sc__law_left (fun vs H Q E h => ?_) (fun cdv A outer s H vs Q E hr h => ?_)
  · obtain ⟨c, k, _, rfl, _⟩ := h; rfl
  · obtain ⟨a, ns, k, rfl, hS, h1, h2, q⟩ := h
    refine ⟨_, (pss_cons (ps_set (i := 2) sc__law_left.nd rfl (by first | exact Or.inl rfl | exact Or.inr rfl) (pe_ifExp (pt_cmpR op_lt (pv 1) (pe_callB call_len_seq (by rfl) B.len (by decide +kernel) (pa_cons (pv 0) pa_nil)) (nomark _)) (pe_ix ix_list (pv 0) (pv 1) (fun _ _ => rfl)) pe_int))
    (pss_one (ps_ret (pe_lst (pa_cons (pe_op op_mul (pe_callB call_abs (by rfl) B.abs (by decide +kernel) (pa_cons (pv 2) pa_nil)) (pe_callTy call_int1 (by rfl) B.int (by decide +kernel) (pa_cons (pe_cmpR op_ge (pe_callB call_abs (by rfl) B.abs (by decide +kernel) (pa_cons (pv 2) pa_nil)) (pe_op op_pow pe_int pe_int) (nomark _)) pa_nil))) (pa_cons (pe_op op_add (pv 2) (pe_op op_mul pe_int (pv 1))) (pa_cons pe_int pa_nil))))))), ?_⟩
    have rest : ∀ x : Int, (tRet (tLst (tCons (tOp (rI CMul fun i j => .int (i * j)) (tCB (fun xs H Q => ∃ i, xs = [.int i] ∧ Q (.int (if i < 0 then -i else i)) H) (tCons (tVar 2) tNil)) (tCB (fun xs H Q => (∃ i, xs = [.int i] ∧ Q (.int i) H) ∨ ∃ k, xs = [.bl k] ∧ Q (.int (if k then 1 else 0)) H) (tCons (tOp (rI0 fun i j => .bl (decide (j ≤ i))) (tCB (fun xs H Q => ∃ i, xs = [.int i] ∧ Q (.int (if i < 0 then -i else i)) H) (tCons (tVar 2) tNil)) (tOp (rI CPow fun i j => .int (i ^ j.toNat)) (tC (.int 10)) (tC (.int 18)))) tNil))) (tCons (tOp (rI0 fun i j => .int (i + j)) (tVar 2) (tOp (rI CMul fun i j => .int (i * j)) (tC (.int 1000003)) (tVar 1))) (tCons (tC (.int 0)) tNil))))) { nx := fun _ H' => Q .non H', rt := Q } ((start N__law_left [.ref a, .int k]).set 2 (some (.int x))) H := by
      intro x
      refine ⟨_, rfl, _, rfl, ?_⟩
      refine ⟨_, rfl, _, rfl, ?_⟩
      refine ⟨_, _, rfl, rfl, ⟨by decide, by decide, by decide⟩, ?_⟩
      refine ⟨_, _, rfl, rfl, .inr ⟨_, rfl, ?_⟩⟩
      refine ⟨_, _, rfl, rfl, .inr ⟨?_, ?_⟩, ?_⟩
      · exact (bi _).1
      · exact (bi _).2.1
      refine ⟨_, rfl, _, rfl, _, _, rfl, rfl, .inl ⟨by decide, by decide⟩, ?_⟩
      refine ⟨_, _, rfl, rfl, ?_⟩
      refine ⟨by show 3 ≤ sizeLine; decide, fun p np => ?_⟩
      refine q p _ np (same_new np) ⟨_, _, _, upd_same, ?_, Int.le_refl _, Int.le_refl _⟩
      refine Int.mul_nonneg ?_ ?_
      · split <;> omega
      · exact (bi _).2.2
    refine ⟨_, rfl, _, rfl, a, _, rfl, .inl hS, _, _, rfl, rfl, _, rfl, ite2 (fun e => ?_) (fun e => ?_)⟩
    · have e := of_decide_eq_true e
      rw [List.length_map] at e
      have hk : k.toNat < ns.length := by omega
      have g : (ns.map V.int)[k.toNat]? = some (.int ns[k.toNat]) := by
        rw [List.getElem?_map, List.getElem?_eq_getElem hk]; rfl
      have g2 := atI_nat g
      rw [Int.toNat_of_nonneg h1] at g2
      refine ⟨_, rfl, _, rfl, a, _, k, _, rfl, rfl, hS, g2, ?_⟩
      exact rest _
    · exact rest 0

/-! ### _law_pick -/
abbrev s__law_pick : Stmt := topS 18
abbrev N__law_pick : List Str := ["_law_left_here", "_law_many", "_law_digit"]
theorem sc__law_pick : FnScope N__law_pick ["_law_left_here", "_law_many"] (defScope s__law_pick) := ⟨rfl, rfl, rfl, by decide +kernel, rfl, by decide +kernel, by decide +kernel⟩
def sp_pick : Sp := fun vs H Q _ => ∃ (L : Addr) (m c : Int), vs = [.ref L, .int m] ∧ Lf H L c ∧ 0 < m ∧ m < 1000000 ∧ c < 2 ^ 50 ∧
  ∀ (r : Int) (H' : Hp), 0 ≤ r → r < m → Fr L H H' → Lf H' L (c + 1) → Q (.int r) H'
theorem ok_pick {f : Addr} {fd : FuncData} (F : Fun K "_law_pick" "_law_pick" s__law_pick f fd) (c__law_mix : Cl P w K mg base 1 "_law_mix" sp_mix) :
    FnOk P w K mg base CX0 2 f fd ["_law_left_here", "_law_many"] sp_pick := by
  refine F.ok sc__law_pick (fun vs H Q E h => ?_) (fun cdv A outer s H vs Q E hr h => ?_)
  · obtain ⟨c, k, _, rfl, _⟩ := h; rfl
  · obtain ⟨L, m, c, rfl, ⟨x, y, z, hL, hx, hz, hzc⟩, h1, h2, h3, q⟩ := h
    refine ⟨_, (pss_cons (ps_asg (pe_op op_add (pe_ix ix_list (pv 0) pe_int (fun _ _ => rfl)) pe_int) (pg_sub (pv 0) pe_int set_list))
    (pss_cons (ps_if (pt_cmpR op_gt (pe_ix ix_list (pv 0) pe_int (fun _ _ => rfl)) pe_int (nomark _)) (pss_cons (ps_set (i := 2) sc__law_pick.nd rfl (by first | exact Or.inl rfl | exact Or.inr rfl) (pe_op op_mod (pe_ix ix_list (pv 0) pe_int (fun _ _ => rfl)) (pv 1)))
      (pss_cons (ps_asg (pe_op op_fdiv (pe_ix ix_list (pv 0) pe_int (fun _ _ => rfl)) (pv 1)) (pg_sub (pv 0) pe_int set_list))
      (pss_one (ps_ret (pv 2))))) pss_nil)
    (pss_one (ps_ret (pe_op op_mod (pe_op op_fdiv (pe_c c__law_mix hr (by decide) (by rfl) (pa_cons (pe_c c__law_mix hr (by decide) (by rfl) (pa_cons (pe_ix ix_list (pv 0) pe_int (fun _ _ => rfl)) (pa_cons (pe_ix ix_list (pv 0) pe_int (fun _ _ => rfl)) pa_nil))) (pa_cons (pe_op op_add (pe_ix ix_list (pv 0) pe_int (fun _ _ => rfl)) pe_int) pa_nil))) pe_int) (pv 1)))))), ?_⟩
    refine ⟨_, rfl, L, _, _, _, rfl, rfl, SqL.of hL, rfl, _, _, rfl, rfl, ?_⟩
    refine ⟨_, rfl, L, _, _, _, rfl, rfl, hL, rfl, ?_⟩
    refine ⟨_, rfl, L, _, _, _, rfl, rfl, SqL.of upd_same, rfl, _, _, rfl, rfl, _, rfl, ite2 (fun e => ?_) (fun e => ?_)⟩
    · refine ⟨_, rfl, L, _, _, _, rfl, rfl, SqL.of upd_same, rfl, _, rfl, _, _, rfl, rfl, h1, ?_⟩
      refine ⟨_, rfl, L, _, _, _, rfl, rfl, SqL.of upd_same, rfl, _, rfl, _, _, rfl, rfl, ⟨h1, by omega⟩, ?_⟩
      refine ⟨_, rfl, L, _, _, _, rfl, rfl, upd_same, rfl, ?_⟩
      refine ⟨_, rfl, ?_⟩
      refine q _ _ (Int.emod_nonneg _ (by omega)) (Int.emod_lt_of_pos _ h1) ((Fr.refl L H).putL.putL) ⟨_, _, _, upd_same, ?_, ?_, ?_⟩
      · exact Int.ediv_nonneg hx (Int.le_of_lt h1)
      · omega
      · omega
    · refine ⟨_, rfl, L, _, _, _, rfl, rfl, SqL.of upd_same, rfl, ?_⟩
      refine ⟨_, rfl, L, _, _, _, rfl, rfl, SqL.of upd_same, rfl, ?_⟩
      refine ⟨_, _, rfl, by omega, by omega, fun r hr0 => ?_⟩
      refine ⟨_, rfl, L, _, _, _, rfl, rfl, SqL.of upd_same, rfl, _, _, rfl, rfl, ?_⟩
      refine ⟨_, _, rfl, by omega, by omega, fun r2 hr2 => ?_⟩
      refine ⟨_, _, rfl, rfl, ⟨by decide, by decide⟩, ?_⟩
      refine ⟨_, rfl, _, _, rfl, rfl, h1, ?_⟩
      exact q _ _ (Int.emod_nonneg _ (by omega)) (Int.emod_lt_of_pos _ h1) (Fr.refl L H).putL ⟨_, _, _, upd_same, hx, by omega, by omega⟩
end
end My

set_option Elab.async false
set_option linter.all false
set_option maxRecDepth 100000
namespace My
open PySem PySem.Spec PyProof.Rows L2
section
variable {P : Program} {w : World} {K : PySem.W.Frag} {mg : Str → Option Value} {base : Heap}

/-! ### _law_row -/
abbrev s__law_row : Stmt := topS 20
abbrev N__law_row : List Str := ["_law_left_here", "_law_many", "_law_row_here", "_law_k"]
theorem sc__law_row : FnScope N__law_row ["_law_left_here", "_law_many"] (defScope s__law_row) := ⟨rfl, rfl, rfl, by decide +kernel, rfl, by decide +kernel, by decide +kernel⟩
def sp_row : Sp := fun vs H Q _ => ∃ (L : Addr) (n : Nat) (c : Int), vs = [.ref L, .int (n : Int)] ∧ Lf H L c ∧ n ≤ 100 ∧ c < 2 ^ 49 ∧
  ∀ (p : Addr) (ns : List Int) (H' : Hp), H p = none → Fr L H H' → Lf H' L (c + n) → H' p = some (.lst (ns.map V.int)) → ns.Perm (up n) → Q (.ref p) H'
theorem ok_row {f : Addr} {fd : FuncData} (B : Bts mg) (F : Fun K "_law_row" "_law_row" s__law_row f fd) (c__law_pick : Cl P w K mg base 2 "_law_pick" sp_pick) :
    FnOk P w K mg base CX0 3 f fd ["_law_left_here", "_law_many"] sp_row := by
  refine F.ok sc__law_row (fun vs H Q E h => ?_) (fun cdv A outer s H vs Q E hr h => ?_)
  · obtain ⟨L, n, c, rfl, _⟩ := h; rfl
  · obtain ⟨L, n, c, rfl, hL, hn, hc, q⟩ := h
    refine ⟨_, (pss_cons (ps_set (i := 2) sc__law_row.nd rfl (by first | exact Or.inl rfl | exact Or.inr rfl) (pe_lst pa_nil))
    (pss_cons (ps_for PassesOwn.never rfl (pi_range1 (by rfl) B.range (pa_cons (pv 1) pa_nil)) (pg_name (i := 3) sc__law_row.nd rfl (by first | exact Or.inl rfl | exact Or.inr rfl))
      (pss_one (ps_expr (pe_bm PySem.F.plainAttrs_list PySem.F.slot_list_insert PySem.F.type_list_insert mt_insert (pv 2) (pa_cons (pe_c c__law_pick hr (by decide) (by rfl) (pa_cons (pv 0) (pa_cons (pe_op op_add (pv 3) pe_int) pa_nil))) (pa_cons (pv 3) pa_nil))))))
    (pss_one (ps_ret (pv 2))))), ?_⟩
    refine ⟨Nat.zero_le _, fun o no => ?_⟩
    refine ⟨_, rfl, _, rfl, by omega, by omega, ?_⟩
    refine for_range (fun i σ H1 => ∃ (ns : List Int) (y3 : Option V), σ = [some (.ref L), some (.int (n : Int)), some (.ref o), y3] ∧ Fr L H H1 ∧ Lf H1 L (c + i) ∧ H1 o = some (.lst (ns.map V.int)) ∧ ns.Perm (up i)) ⟨[], none, rfl, Fr.new no, (hL.new no).mono (by omega), upd_same, .refl _⟩ ?_ ?_
    · rintro i σ H1 hi ⟨ns, y3, rfl, fr, lf, eo, hp⟩
      have hi : i < n := by omega
      have no' : o ≠ L := hL.ne no
      refine ⟨_, rfl, .inl ⟨rfl, _, SqL.of eo⟩, ?_⟩
      refine ⟨_, rfl, _, rfl, _, _, rfl, rfl, ?_⟩
      refine ⟨L, _, c + i, rfl, lf, by omega, by omega, by omega, fun r H2 r0 r1 fr2 lf2 => ?_⟩
      refine ⟨_, rfl, ?_⟩
      have eo2 := fr2 _ _ no' eo
      refine ⟨o, _, _, _, rfl, rfl, eo2, sz' ?_, r0, by omega, ?_⟩
      · rw [List.length_map, hp.length_eq, up_len]; omega
      · refine ⟨ns.take r.toNat ++ [(i : Int)] ++ ns.drop r.toNat, _, rfl, ?_, ?_, ?_, ?_⟩
        · exact (fr.trans fr2).put no
        · exact (lf2.mono (by omega)).put no'
        · rw [upd_same, List.map_append, List.map_append, List.map_take, List.map_drop, Int.zero_add]; rfl
        · rw [up_succ]
          exact (ins_perm _ _ _).trans (hp.append_right _)
    · rintro σ H1 ⟨ns, y3, rfl, fr, lf, eo, hp⟩
      rw [Int.toNat_natCast] at lf hp
      exact ⟨_, rfl, q o ns H1 no fr lf eo hp⟩
end
end My

set_option Elab.async false
set_option linter.all false
set_option maxRecDepth 100000
namespace My
open PySem PySem.Spec PyProof.Rows L2
section
variable {P : Program} {w : World} {K : PySem.W.Frag} {mg : Str → Option Value} {base : Heap}

def sp_gen : Sp := fun vs H Q _ => ∃ (L : Addr) (n : Nat) (c : Int), vs = [.ref L, .int (n : Int)] ∧ Lf H L c ∧ n ≤ 12 ∧ c < 2 ^ 48 ∧
  ∀ (v : V) (H' : Hp) (ts : List (Int × Int)), Fr L H H' → Lf H' L (c + 100000) → Web H' v n ts → WOk n ts → Q v H'

end
end My

set_option Elab.async false
set_option linter.all false
set_option maxRecDepth 100000
namespace My
open PySem PySem.Spec PyProof.Rows L2
section
variable {P : Program} {w : World} {K : PySem.W.Frag} {mg : Str → Option Value} {base : Heap}

/-- rows of all places, each a list of its own, none of them at one of two places -/
def Rws (H : Hp) (n : Nat) (L D : Addr) (vs : List V) : Prop :=
  ∀ v ∈ vs, ∃ (p : Addr) (ns : List Int), v = .ref p ∧ p ≠ L ∧ p ≠ D ∧ H p = some (.lst (ns.map V.int)) ∧ ns.Perm (up n)

end
end My

set_option Elab.async false
set_option linter.all false
set_option maxRecDepth 100000
namespace My
open PySem PySem.Spec PyProof.Rows L2
section
variable {P : Program} {w : World} {K : PySem.W.Frag} {mg : Str → Option Value} {base : Heap}

end
end My

set_option Elab.async false
set_option linter.all false
set_option maxRecDepth 100000
namespace My
open PySem PySem.Spec PyProof.Rows L2

/-! ### heaps: all stays but what stands at some places -/
def FrM (M : List Addr) (H H' : Hp) : Prop := ∀ b o, b ∉ M → H b = some o → H' b = some o
theorem FrM.refl (M : List Addr) (H : Hp) : FrM M H H := fun _ _ _ h => h
theorem FrM.trans {M : List Addr} {H H1 H2 : Hp} (a : FrM M H H1) (b : FrM M H1 H2) : FrM M H H2 := fun c o n h => b c o n (a c o n h)
theorem FrM.same {M : List Addr} {H H' : Hp} (a : Same H H') : FrM M H H' := fun b o _ h => a b o h
theorem FrM.wk {M N : List Addr} {H H' : Hp} (a : FrM M H H') (h : ∀ x ∈ M, x ∈ N) : FrM N H H' := fun b o n e => a b o (fun m => n (h b m)) e
theorem FrM.put {M : List Addr} {H H' : Hp} {p : Addr} {o : HO} (a : FrM M H H') (h : p ∈ M) : FrM M H (upd H' p o) := fun b x n e => by
  rw [upd_ne (fun z => n (by rw [z]; exact h))]; exact a b x n e
theorem FrM.putN {M : List Addr} {H H' : Hp} {p : Addr} {o : HO} (a : FrM M H H') (h : H p = none) : FrM M H (upd H' p o) := fun b x n e => by
  rw [upd_ne (ne_of_none e h)]; exact a b x n e
theorem FrM.tst {M : List Addr} {H H' : Hp} (a : FrM M H H') (h : ∀ x ∈ M, ∃ xs, H x = some (.lst xs)) : Tst H H' := fun b xs e => by
  refine a b _ (fun m => ?_) e
  obtain ⟨ys, z⟩ := h b m
  rw [z] at e; cases e
theorem Fr.m {L : Addr} {M : List Addr} {H H' : Hp} (a : Fr L H H') (h : L ∈ M) : FrM M H H' := fun b o n e => a b o (fun z => n (by rw [z]; exact h)) e

/-- a list of numbers that stands at none of some places -/
def Gp (M : List Addr) (H : Hp) (v : V) (g : List Int) : Prop := ∃ p, v = .ref p ∧ p ∉ M ∧ H p = some (.lst (g.map V.int))
theorem Gp.mono {M N : List Addr} {H H' : Hp} {v : V} {g : List Int} (h : Gp M H v g) (a : FrM M H H') (s : ∀ x ∈ N, x ∈ M) : Gp N H' v g := by
  obtain ⟨p, e, n, h⟩ := h
  exact ⟨p, e, fun m => n (s p m), a p _ n h⟩
theorem Gp.new {M : List Addr} {H : Hp} {v : V} {g : List Int} {D : Addr} {o : HO} (h : Gp M H v g) (nD : H D = none) : Gp (D :: M) (upd H D o) v g := by
  obtain ⟨p, e, n, h⟩ := h
  have ne := ne_of_none h nD
  refine ⟨p, e, fun m => ?_, by rw [upd_ne ne]; exact h⟩
  rcases List.mem_cons.mp m with m | m
  · exact ne m
  · exact n m
theorem ixN_in {n : Nat} {i : Int} (h0 : 0 ≤ i) (h1 : i < n) : ixN n i = some i.toNat := by unfold ixN; rw [if_pos h0, if_pos h1]

section
variable {P : Program} {w : World} {K : PySem.W.Frag} {mg : Str → Option Value} {base : Heap}

end
end My

set_option Elab.async false
set_option linter.all false
set_option maxRecDepth 100000
namespace My
open PySem PySem.Spec PyProof.Rows L2
section
variable {P : Program} {w : World} {K : PySem.W.Frag} {mg : Str → Option Value} {base : Heap}

end
end My

set_option Elab.async false
set_option linter.all false
set_option maxRecDepth 100000
namespace My
open PySem PySem.Spec PyProof.Rows L2 GxR
/-! ### tables -/
theorem tabG_new {H : Hp} {P p : Addr} {o : HO} (h : TabG H P) (e : H p = none) : TabG (upd H p o) P := by
  obtain ⟨ps, h1, h2⟩ := h
  exact ⟨ps, by rw [upd_ne (ne_of_none h1 e)]; exact h1, h2⟩
theorem tb_frM {H H' : Hp} {P : Addr} (h : Tabbed P H H') : FrM [P] H H' := fun b o n e => by
  rw [h.2 b (fun z => n (by rw [z]; exact List.mem_singleton.mpr rfl))]; exact e
theorem tb_tst {H H' : Hp} {P : Addr} (h : Tabbed P H H') (hP : TabG H P) : Tst H H' := fun b xs e => by
  refine tb_frM h b _ (fun z => ?_) e
  obtain ⟨ps, h1, _⟩ := hP
  rw [List.mem_singleton.mp z, h1] at e; cases e
section
variable {P : Program} {w : World} {K : PySem.W.Frag} {mg : Str → Option Value} {base : Heap}

/-! ### is_number -/
abbrev s_is_number : Stmt := topS 1
abbrev N_is_number : List Str := ["thing"]
theorem sc_is_number : FnScope N_is_number ["thing"] (defScope s_is_number) := ⟨rfl, rfl, rfl, by decide +kernel, rfl, by decide +kernel, by decide +kernel⟩
def sp_num : Sp := fun vs H Q _ => ∃ i : Int, vs = [.int i] ∧ Q (.bl true) H
theorem ok_number {f : Addr} {fd : FuncData} (B : Bts mg) (F : Fun K "is_number" "is_number" s_is_number f fd) : FnOk P w K mg base CX0 1 f fd ["thing"] sp_num := by
  refine F.ok sc_is_number (fun vs H Q E h => ?_) (fun cdv A outer s H vs Q E hr h => ?_)
  · obtain ⟨i, rfl, _⟩ := h; rfl
  · obtain ⟨i, rfl, q⟩ := h
    refine ⟨_, (pss_one (ps_ret (pe_and (pe_callB call_isi (by rfl) B.isinstance (by decide +kernel) (pa_cons (pv 0) (pa_cons (pe_bltn (v := .ty "int") (by rfl) B.int (by decide +kernel) rfl) pa_nil))) (pe_one (pe_not (pe_callB call_isi (by rfl) B.isinstance (by decide +kernel) (pa_cons (pv 0) (pa_cons (pe_bltn (v := .ty "bool") (by rfl) B.bool (by decide +kernel) rfl) pa_nil)))))))), ?_⟩
    refine ⟨_, rfl, _, _, _, _, true, rfl, .ty _, .base (.int i), kit_ty (by decide +kernel), true, rfl, iteT ?_⟩
    exact ⟨_, rfl, _, _, _, _, false, rfl, .ty _, .base (.int i), kit_ty (by decide +kernel), false, rfl, q⟩
/-! ### is_pair -/
abbrev s_is_pair : Stmt := topS 2
abbrev N_is_pair : List Str := ["thing"]
theorem sc_is_pair : FnScope N_is_pair ["thing"] (defScope s_is_pair) := ⟨rfl, rfl, rfl, by decide +kernel, rfl, by decide +kernel, by decide +kernel⟩
def sp_pair : Sp := fun vs H Q _ => ∃ v t, vs = [v] ∧ Tie H v t ∧ Q (.bl true) H
theorem ok_pair {f : Addr} {fd : FuncData} (B : Bts mg) (F : Fun K "is_pair" "is_pair" s_is_pair f fd) (c_is_number : Cl P w K mg base 1 "is_number" sp_num) : FnOk P w K mg base CX0 2 f fd ["thing"] sp_pair := by
  refine F.ok sc_is_pair (fun vs H Q E h => ?_) (fun cdv A outer s H vs Q E hr h => ?_)
  · obtain ⟨v, t, rfl, _⟩ := h; rfl
  · obtain ⟨v, t, rfl, ⟨p, rfl, ep⟩, q⟩ := h
    refine ⟨_, (pss_one (ps_ret (pe_and (pe_callB call_isi (by rfl) B.isinstance (by decide +kernel) (pa_cons (pv 0) (pa_cons (pe_bltn (v := .ty "tuple") (by rfl) B.tuple (by decide +kernel) rfl) pa_nil))) (pe_and (pe_cmpR op_eq (pe_callB call_len_seq (by rfl) B.len (by decide +kernel) (pa_cons (pv 0) pa_nil)) pe_int (nomark _)) (pe_and (pe_c c_is_number hr (by decide) (by rfl) (pa_cons (pe_ix ix_tup (pv 0) pe_int (fun _ _ => rfl)) pa_nil)) (pe_one (pe_c c_is_number hr (by decide) (by rfl) (pa_cons (pe_ix ix_tup (pv 0) pe_int (fun _ _ => rfl)) pa_nil)))))))), ?_⟩
    refine ⟨_, rfl, _, _, _, _, true, rfl, .ty _, .base (.tup ep), kit_ty (by decide +kernel), true, rfl, iteT ?_⟩
    refine ⟨_, rfl, p, _, rfl, .inr (SqT.of ep), rfl, true, rfl, iteT ?_⟩
    refine ⟨_, rfl, p, _, _, _, rfl, rfl, SqT.of ep, rfl, _, rfl, true, rfl, iteT ?_⟩
    exact ⟨_, rfl, p, _, _, _, rfl, rfl, SqT.of ep, rfl, _, rfl, q⟩
end
end My

set_option Elab.async false
set_option linter.all false
set_option maxRecDepth 100000
namespace My
open PySem PySem.Spec PyProof.Rows L2 GxR

/-! ### things alike -/
def Atom (x : V) : Prop := x = .non ∨ (∃ b, x = .bl b) ∨ (∃ i, x = .int i) ∨ ∃ z, x = .str z
def Eqd : Nat → Hp → V → V → Prop
  | 0, _, x, y => x = y ∧ Atom x
  | m + 1, H, x, y => (x = y ∧ Atom x) ∨ ∃ a b xs ys, x = .ref a ∧ y = .ref b ∧ ((H a = some (.tup xs) ∧ H b = some (.tup ys)) ∨ (H a = some (.lst xs) ∧ H b = some (.lst ys))) ∧
      xs.length = ys.length ∧ xs.length ≤ 10000 ∧ ∀ (i : Nat) (v u : V), xs[i]? = some v → ys[i]? = some u → Eqd m H v u
theorem Eqd.mono : ∀ {m : Nat} {H H' : Hp} {x y : V}, Same H H' → Eqd m H x y → Eqd m H' x y
  | 0, _, _, _, _, _, h => h
  | m + 1, H, H', _, _, s, .inl h => .inl h
  | m + 1, H, H', _, _, s, .inr ⟨a, b, xs, ys, e1, e2, h, l, l2, k⟩ => .inr ⟨a, b, xs, ys, e1, e2, h.imp (fun z => ⟨s _ _ z.1, s _ _ z.2⟩) (fun z => ⟨s _ _ z.1, s _ _ z.2⟩), l, l2, fun i v u e f => Eqd.mono s (k i v u e f)⟩
theorem Eqd.int {m : Nat} {H : Hp} {i : Int} : Eqd m H (.int i) (.int i) := by
  cases m with
  | zero => exact ⟨rfl, .inr (.inr (.inl ⟨i, rfl⟩))⟩
  | succ m => exact .inl ⟨rfl, .inr (.inr (.inl ⟨i, rfl⟩))⟩
theorem Eqd.up : ∀ {m : Nat} {H : Hp} {x y : V}, Eqd m H x y → Eqd (m + 1) H x y
  | 0, _, _, _, h => .inl h
  | m + 1, _, _, _, .inl h => .inl h
  | m + 1, _, _, _, .inr ⟨a, b, xs, ys, e1, e2, h, l, l2, k⟩ => .inr ⟨a, b, xs, ys, e1, e2, h, l, l2, fun i v u e f => (k i v u e f).up⟩
theorem tie_eqd {H : Hp} {v u : V} {t : Int × Int} (h : Tie H v t) (k : Tie H u t) : Eqd 1 H v u := by
  obtain ⟨p, rfl, h⟩ := h
  obtain ⟨q, rfl, k⟩ := k
  refine .inr ⟨p, q, _, _, rfl, rfl, .inl ⟨h, k⟩, rfl, by show 2 ≤ 10000; decide, fun i v u e f => ?_⟩
  match i, e, f with
  | 0, e, f => cases e; cases f; exact Eqd.int
  | 1, e, f => cases e; cases f; exact Eqd.int
theorem tup_eqd {H : Hp} {p q : Addr} {vs us : List V} {ts : List (Int × Int)} (hp : H p = some (.tup vs)) (hq : H q = some (.tup us)) (h : Ties H vs ts) (k : Ties H us ts) (l : ts.length ≤ 10000) : Eqd 2 H (.ref p) (.ref q) := by
  refine .inr ⟨p, q, vs, us, rfl, rfl, .inl ⟨hp, hq⟩, by rw [h.len, k.len], by rw [h.len]; exact l, fun i v u e f => ?_⟩
  obtain ⟨t1, e1, h1⟩ := h.at e
  obtain ⟨t2, e2, h2⟩ := k.at f
  rw [e1] at e2; cases e2
  exact tie_eqd h1 h2
theorem web_eqd {H : Hp} {v u : V} {n : Nat} {ts : List (Int × Int)} (h : Web H v n ts) (k : Web H u n ts) (l : ts.length ≤ 10000) : Eqd 3 H v u := by
  obtain ⟨p, q, vs, rfl, h1, h2, h3⟩ := h
  obtain ⟨p', q', us, rfl, k1, k2, k3⟩ := k
  refine .inr ⟨p, p', _, _, rfl, rfl, .inl ⟨h1, k1⟩, rfl, by show 2 ≤ 10000; decide, fun i v u e f => ?_⟩
  match i, e, f with
  | 0, e, f => cases e; cases f; exact Eqd.int
  | 1, e, f => cases e; cases f; exact tup_eqd h2 k2 h3 k3 l

section
variable {P : Program} {w : World} {K : PySem.W.Frag} {mg : Str → Option Value} {base : Heap}
/-! ### _law_same -/
abbrev s__law_same : Stmt := topS 19
abbrev N__law_same : List Str := ["_law_found", "_law_due_here", "_law_one", "_law_other"]
theorem sc__law_same : FnScope N__law_same ["_law_found", "_law_due_here"] (defScope s__law_same) := ⟨rfl, rfl, rfl, by decide +kernel, rfl, by decide +kernel, by decide +kernel⟩
def sp_same : Nat → Sp
  | 0 => fun _ _ _ _ => False
  | m + 1 => fun vs H Q _ => ∃ x y, vs = [x, y] ∧ Eqd m H x y ∧ ∀ H', Same H H' → Q (.bl true) H'
theorem kany {t : Value} {a b : Bool} (h1 : PySem.W.kitOne K t (.type "list") = some a) (h2 : PySem.W.kitOne K t (.type "tuple") = some b) : PySem.W.kitAny K t [.type "list", .type "tuple"] = some (a || b) := by
  refine kitAny_cons h1 (fun z => ?_) (fun z => by rw [z]; rfl)
  subst z
  exact kitAny_cons h2 (fun z => by rw [z]; rfl) (fun z => by rw [z]; rfl)
theorem all_rep (n : Nat) : (List.replicate n true).all id = true := by
  rw [List.all_eq_true]
  intro x hx
  rw [(List.mem_replicate.mp hx).2]; rfl
theorem ok_same1 {f : Addr} {fd : FuncData} {m : Nat} (B : Bts mg) (F : Fun K "_law_same" "_law_same" s__law_same f fd) (c__law_same : Cl P w K mg base m "_law_same" (sp_same m)) :
    FnOk P w K mg base CX0 (m + 1) f fd ["_law_found", "_law_due_here"] (sp_same (m + 1)) := by
  refine F.ok sc__law_same (fun vs H Q E h => ?_) (fun cdv A outer s H vs Q E hr h => ?_)
  · obtain ⟨x, y, rfl, _⟩ := h; rfl
  · obtain ⟨x, y, rfl, hE, q⟩ := h
    refine ⟨_, (pss_cons (ps_if (pt_val (pe_callB call_isiT (by rfl) B.isinstance (by decide +kernel) (pa_cons (pv 1) (pa_cons (pe_tup (pa_cons (pe_bltn (v := .ty "list") (by rfl) B.list (by decide +kernel) rfl) (pa_cons (pe_bltn (v := .ty "tuple") (by rfl) B.tuple (by decide +kernel) rfl) pa_nil))) pa_nil)))) (pss_cons (ps_if (PW.pt (pw_or (pt_cmpR op_ne (pe_callB call_isi (by rfl) B.isinstance (by decide +kernel) (pa_cons (pv 0) (pa_cons (pe_bltn (v := .ty "list") (by rfl) B.list (by decide +kernel) rfl) pa_nil))) (pe_callB call_isi (by rfl) B.isinstance (by decide +kernel) (pa_cons (pv 1) (pa_cons (pe_bltn (v := .ty "list") (by rfl) B.list (by decide +kernel) rfl) pa_nil))) (nomark _)) (pw_or1 (pt_cmpR op_ne (pe_callB call_isi (by rfl) B.isinstance (by decide +kernel) (pa_cons (pv 0) (pa_cons (pe_bltn (v := .ty "tuple") (by rfl) B.tuple (by decide +kernel) rfl) pa_nil))) (pe_callB call_isi (by rfl) B.isinstance (by decide +kernel) (pa_cons (pv 1) (pa_cons (pe_bltn (v := .ty "tuple") (by rfl) B.tuple (by decide +kernel) rfl) pa_nil))) (nomark _))))) (pss_one (ps_ret pe_bl)) pss_nil)
      (pss_one (ps_ret (pe_and (pe_cmpR op_eq (pe_callB call_len_seq (by rfl) B.len (by decide +kernel) (pa_cons (pv 0) pa_nil)) (pe_callB call_len_seq (by rfl) B.len (by decide +kernel) (pa_cons (pv 1) pa_nil)) (nomark _)) (pe_one (pe_callB (cr_all rfl) (by rfl) B.all (by decide +kernel) (pa_cons (pe_lc (own := [("_law_one", 2), ("_law_other", 3)]) (g := (gTup K 2 (gCons (gName 2) (gCons (gName 3) gNil)))) (tt := tYes) rfl sc__law_same.nd (RZ.pi_zipA (by rfl) B.zip (pa_cons (pv 0) (pa_cons (pv 1) pa_nil))) (blkOk_by (own := [("_law_one", 2), ("_law_other", 3)]) (N := N__law_same) (sc := defScope s__law_same) (by decide +kernel)) (fun _ _ _ _ _ => (pg_tup rfl (pgs_cons (pg_name (i := 2) sc__law_same.nd rfl (by first | exact Or.inl rfl | exact Or.inr rfl)) (pgs_cons (pg_name (i := 3) sc__law_same.nd rfl (by first | exact Or.inl rfl | exact Or.inr rfl)) pgs_nil)))) (fun _ _ _ _ _ => pts_nil) (fun _ _ _ _ _ => (pe_c c__law_same hr (Nat.le_refl _) (by rfl) (pa_cons (pv 2) (pa_cons (pv 3) pa_nil))))) pa_nil))))))) pss_nil)
    (pss_cons (ps_if (PW.pt (pw_or (pt_cmpR op_isN (pv 1) pe_non (nomark _)) (pw_or1 (pt_val (pe_callB call_isi (by rfl) B.isinstance (by decide +kernel) (pa_cons (pv 1) (pa_cons (pe_bltn (v := .ty "str") (by rfl) B.str (by decide +kernel) rfl) pa_nil))))))) (pss_one (ps_ret (pe_and (pe_cmpR op_eq (pv 0) (pv 1) (nomark _)) (pe_one (pe_cmpR op_eq (pe_callB call_isi (by rfl) B.isinstance (by decide +kernel) (pa_cons (pv 0) (pa_cons (pe_bltn (v := .ty "str") (by rfl) B.str (by decide +kernel) rfl) pa_nil))) (pe_callB call_isi (by rfl) B.isinstance (by decide +kernel) (pa_cons (pv 1) (pa_cons (pe_bltn (v := .ty "str") (by rfl) B.str (by decide +kernel) rfl) pa_nil))) (nomark _)))))) pss_nil)
    (pss_cons (ps_if (pt_val (pe_callB call_isi (by rfl) B.isinstance (by decide +kernel) (pa_cons (pv 1) (pa_cons (pe_bltn (v := .ty "bool") (by rfl) B.bool (by decide +kernel) rfl) pa_nil)))) (pss_one (ps_ret (pe_and (pe_callB call_isi (by rfl) B.isinstance (by decide +kernel) (pa_cons (pv 0) (pa_cons (pe_bltn (v := .ty "bool") (by rfl) B.bool (by decide +kernel) rfl) pa_nil))) (pe_one (pe_cmpR op_eq (pv 0) (pv 1) (nomark _)))))) pss_nil)
    (pss_one (ps_ret (pe_and (pe_callB call_isi (by rfl) B.isinstance (by decide +kernel) (pa_cons (pv 0) (pa_cons (pe_bltn (v := .ty "int") (by rfl) B.int (by decide +kernel) rfl) pa_nil))) (pe_and (pe_not (pe_callB call_isi (by rfl) B.isinstance (by decide +kernel) (pa_cons (pv 0) (pa_cons (pe_bltn (v := .ty "bool") (by rfl) B.bool (by decide +kernel) rfl) pa_nil)))) (pe_one (pe_cmpR op_eq (pv 0) (pv 1) (nomark _)))))))))), ?_⟩
    have nw : ∀ {tp : Addr} {o : HO}, H tp = none → Same H (upd H tp o) := fun h => same_new h
    have hE' : (x = y ∧ Atom x) ∨ ∃ m', m = m' + 1 ∧ ∃ a b xs ys, x = .ref a ∧ y = .ref b ∧ ((H a = some (.tup xs) ∧ H b = some (.tup ys)) ∨ (H a = some (.lst xs) ∧ H b = some (.lst ys))) ∧
        xs.length = ys.length ∧ xs.length ≤ 10000 ∧ ∀ (i : Nat) (v u : V), xs[i]? = some v → ys[i]? = some u → Eqd m' H v u := by
      cases m with
      | zero => exact .inl hE
      | succ m =>
        rcases hE with h | h
        · exact .inl h
        · exact .inr ⟨m, rfl, h⟩
    rcases hE' with ⟨e, ha⟩ | ⟨m, rfl, a, b, xs, ys, rfl, rfl, hab, hl, hl2, hk⟩
    · subst e
      rcases ha with rfl | ⟨b, rfl⟩ | ⟨i, rfl⟩ | ⟨z, rfl⟩
      · refine ⟨_, rfl, by show 2 ≤ sizeLine; decide, fun tp ntp => ⟨_, tp, _, _, _, _, rfl, upd_same, .cons (.ty _) (.cons (.ty _) .nil), .base .non, kany (a := false) (b := false) (kit_ty (by decide +kernel)) (kit_ty (by decide +kernel)), false, rfl, iteF ?_⟩⟩
        refine ⟨_, rfl, rfl, _, rfl, iteT (iteT ?_)⟩
        refine ⟨_, rfl, _, rfl, rfl, true, rfl, iteT ?_⟩
        refine ⟨_, rfl, _, _, _, _, false, rfl, .ty _, .base .non, kit_ty (by decide +kernel), ?_⟩
        refine ⟨_, rfl, _, _, _, _, false, rfl, .ty _, .base .non, kit_ty (by decide +kernel), rfl, ?_⟩
        exact q _ (nw ntp)
      · refine ⟨_, rfl, by show 2 ≤ sizeLine; decide, fun tp ntp => ⟨_, tp, _, _, _, _, rfl, upd_same, .cons (.ty _) (.cons (.ty _) .nil), .base (.bl b), kany (a := false) (b := false) (kit_ty (by decide +kernel)) (kit_ty (by decide +kernel)), false, rfl, iteF ?_⟩⟩
        refine ⟨_, rfl, rfl, _, rfl, iteF ?_⟩
        refine ⟨_, rfl, _, _, _, _, false, rfl, .ty _, .base (.bl b), kit_ty (by decide +kernel), false, rfl, iteF ?_⟩
        refine ⟨_, rfl, _, _, _, _, true, rfl, .ty _, .base (.bl b), kit_ty (by decide +kernel), true, rfl, iteT ?_⟩
        refine ⟨_, rfl, _, _, _, _, true, rfl, .ty _, .base (.bl b), kit_ty (by decide +kernel), true, rfl, iteT ?_⟩
        refine ⟨_, rfl, _, rfl, rfl, ?_⟩
        rw [decide_eq_true rfl]
        exact q _ (nw ntp)
      · refine ⟨_, rfl, by show 2 ≤ sizeLine; decide, fun tp ntp => ⟨_, tp, _, _, _, _, rfl, upd_same, .cons (.ty _) (.cons (.ty _) .nil), .base (.int i), kany (a := false) (b := false) (kit_ty (by decide +kernel)) (kit_ty (by decide +kernel)), false, rfl, iteF ?_⟩⟩
        refine ⟨_, rfl, rfl, _, rfl, iteF ?_⟩
        refine ⟨_, rfl, _, _, _, _, false, rfl, .ty _, .base (.int i), kit_ty (by decide +kernel), false, rfl, iteF ?_⟩
        refine ⟨_, rfl, _, _, _, _, false, rfl, .ty _, .base (.int i), kit_ty (by decide +kernel), false, rfl, iteF ?_⟩
        refine ⟨_, rfl, _, _, _, _, true, rfl, .ty _, .base (.int i), kit_ty (by decide +kernel), true, rfl, iteT ?_⟩
        refine ⟨_, rfl, _, _, _, _, false, rfl, .ty _, .base (.int i), kit_ty (by decide +kernel), false, rfl, true, rfl, iteT ?_⟩
        refine ⟨_, rfl, _, rfl, rfl, ?_⟩
        rw [decide_eq_true rfl]
        exact q _ (nw ntp)
      · refine ⟨_, rfl, by show 2 ≤ sizeLine; decide, fun tp ntp => ⟨_, tp, _, _, _, _, rfl, upd_same, .cons (.ty _) (.cons (.ty _) .nil), .base (.str z), kany (a := false) (b := false) (kit_ty (by decide +kernel)) (kit_ty (by decide +kernel)), false, rfl, iteF ?_⟩⟩
        refine ⟨_, rfl, rfl, _, rfl, iteF ?_⟩
        refine ⟨_, rfl, _, _, _, _, true, rfl, .ty _, .base (.str z), kit_ty (by decide +kernel), true, rfl, iteT ?_⟩
        refine ⟨_, rfl, _, rfl, rfl, _, rfl, ?_⟩
        rw [decide_eq_true rfl]
        refine iteT ⟨_, rfl, _, _, _, _, true, rfl, .ty _, .base (.str z), kit_ty (by decide +kernel), ?_⟩
        refine ⟨_, rfl, _, _, _, _, true, rfl, .ty _, .base (.str z), kit_ty (by decide +kernel), rfl, ?_⟩
        exact q _ (nw ntp)
    · rcases hab with ⟨ea, eb⟩ | ⟨ea, eb⟩
      · refine ⟨_, rfl, by show 2 ≤ sizeLine; decide, fun tp ntp => ?_⟩
        have s1 := nw (o := .tup [.ty "list", .ty "tuple"]) ntp
        have ea1 := s1 _ _ ea
        have eb1 := s1 _ _ eb
        refine ⟨_, tp, _, _, _, _, rfl, upd_same, .cons (.ty _) (.cons (.ty _) .nil), .base (.tup eb1), kany (a := false) (b := true) (kit_ty (by decide +kernel)) (kit_ty (by decide +kernel)), true, rfl, iteT ?_⟩
        refine ⟨_, rfl, _, _, _, _, false, rfl, .ty _, .base (.tup ea1), kit_ty (by decide +kernel), ?_⟩
        refine ⟨_, rfl, _, _, _, _, false, rfl, .ty _, .base (.tup eb1), kit_ty (by decide +kernel), rfl, false, rfl, iteF ?_⟩
        refine ⟨_, rfl, _, _, _, _, true, rfl, .ty _, .base (.tup ea1), kit_ty (by decide +kernel), ?_⟩
        refine ⟨_, rfl, _, _, _, _, true, rfl, .ty _, .base (.tup eb1), kit_ty (by decide +kernel), rfl, false, rfl, iteF ?_⟩
        refine ⟨_, rfl, a, xs, rfl, .inr (SqT.of ea1), _, rfl, b, ys, rfl, .inr (SqT.of eb1), rfl, _, rfl, ?_⟩
        rw [decide_eq_true (by rw [hl])]
        refine iteT ⟨_, rfl, _, rfl, a, b, xs, ys, rfl, .inr ⟨SqT.of ea1, SqT.of eb1, fun D nD => ?_⟩⟩
        refine lc_it (walk_zipT (K := K) (a := a) (b := b) (xs := xs) (ys := ys) rfl) (fun i H2 => Same (upd H tp (.tup [.ty "list", .ty "tuple"])) H2 ∧ H2 D = some (.lst ((List.replicate i true).map V.bl))) ⟨same_new nD, upd_same⟩ ?_ ?_ ?_
        · rintro i H2 _ ⟨s2, _⟩
          exact ⟨SqT.of (s2 _ _ ea1), SqT.of (s2 _ _ eb1)⟩
        · rintro i v H2 H3 hi ⟨s2, eD⟩ ⟨T, x1, x2, rfl, nT, rfl, ex1, ex2⟩
          refine ⟨T, _, rfl, SqT.of upd_same, rfl, _, _, rfl, _, _, rfl, rfl, rfl, yes ?_⟩
          have s3 := s2.trans (same_new (o := .tup [x1, x2]) nT)
          refine ⟨_, rfl, _, rfl, x1, x2, rfl, (hk i x1 x2 ex1 ex2).mono (s1.trans s3), fun H4 s4 => ?_⟩
          have eD4 := s4 _ _ ((same_new (o := .tup [x1, x2]) nT) _ _ eD)
          refine ⟨_, eD4, sz' (by rw [List.length_map, List.length_replicate]; omega), Same.put (s3.trans s4) nD, ?_⟩
          rw [upd_same, List.replicate_succ', List.map_append]; rfl
        · rintro H2 ⟨s2, eD⟩
          refine ⟨D, _, rfl, SqL.of eD, ?_⟩
          rw [all_rep]
          exact q _ (s1.trans s2)
      · refine ⟨_, rfl, by show 2 ≤ sizeLine; decide, fun tp ntp => ?_⟩
        have s1 := nw (o := .tup [.ty "list", .ty "tuple"]) ntp
        have ea1 := s1 _ _ ea
        have eb1 := s1 _ _ eb
        refine ⟨_, tp, _, _, _, _, rfl, upd_same, .cons (.ty _) (.cons (.ty _) .nil), .base (.lst eb1), kany (a := true) (b := false) (kit_ty (by decide +kernel)) (kit_ty (by decide +kernel)), true, rfl, iteT ?_⟩
        refine ⟨_, rfl, _, _, _, _, true, rfl, .ty _, .base (.lst ea1), kit_ty (by decide +kernel), ?_⟩
        refine ⟨_, rfl, _, _, _, _, true, rfl, .ty _, .base (.lst eb1), kit_ty (by decide +kernel), rfl, false, rfl, iteF ?_⟩
        refine ⟨_, rfl, _, _, _, _, false, rfl, .ty _, .base (.lst ea1), kit_ty (by decide +kernel), ?_⟩
        refine ⟨_, rfl, _, _, _, _, false, rfl, .ty _, .base (.lst eb1), kit_ty (by decide +kernel), rfl, false, rfl, iteF ?_⟩
        refine ⟨_, rfl, a, xs, rfl, .inl (SqL.of ea1), _, rfl, b, ys, rfl, .inl (SqL.of eb1), rfl, _, rfl, ?_⟩
        rw [decide_eq_true (by rw [hl])]
        refine iteT ⟨_, rfl, _, rfl, a, b, xs, ys, rfl, .inl ⟨SqL.of ea1, SqL.of eb1, fun D nD => ?_⟩⟩
        refine lc_it (walk_zip (K := K) (a := a) (b := b) (xs := xs) (ys := ys) rfl) (fun i H2 => Same (upd H tp (.tup [.ty "list", .ty "tuple"])) H2 ∧ H2 D = some (.lst ((List.replicate i true).map V.bl))) ⟨same_new nD, upd_same⟩ ?_ ?_ ?_
        · rintro i H2 _ ⟨s2, _⟩
          exact ⟨SqL.of (s2 _ _ ea1), SqL.of (s2 _ _ eb1)⟩
        · rintro i v H2 H3 hi ⟨s2, eD⟩ ⟨T, x1, x2, rfl, nT, rfl, ex1, ex2⟩
          refine ⟨T, _, rfl, SqT.of upd_same, rfl, _, _, rfl, _, _, rfl, rfl, rfl, yes ?_⟩
          have s3 := s2.trans (same_new (o := .tup [x1, x2]) nT)
          refine ⟨_, rfl, _, rfl, x1, x2, rfl, (hk i x1 x2 ex1 ex2).mono (s1.trans s3), fun H4 s4 => ?_⟩
          have eD4 := s4 _ _ ((same_new (o := .tup [x1, x2]) nT) _ _ eD)
          refine ⟨_, eD4, sz' (by rw [List.length_map, List.length_replicate]; omega), Same.put (s3.trans s4) nD, ?_⟩
          rw [upd_same, List.replicate_succ', List.map_append]; rfl
        · rintro H2 ⟨s2, eD⟩
          refine ⟨D, _, rfl, SqL.of eD, ?_⟩
          rw [all_rep]
          exact q _ (s1.trans s2)
theorem ok_same {f : Addr} {fd : FuncData} (B : Bts mg) (F : Fun K "_law_same" "_law_same" s__law_same f fd) (hm : mg "_law_same" = some (.ref f)) (hb : Binds K fd ["_law_found", "_law_due_here"] []) :
    ∀ m, FnOk P w K mg base CX0 m f fd ["_law_found", "_law_due_here"] (sp_same m)
  | 0 => ⟨fun _ _ _ _ h => h.elim, fun _ _ _ _ _ _ _ _ _ _ _ _ _ h => h.elim⟩
  | m + 1 => ok_same1 B F (Cl.mk' F hm hb (ok_same B F hm hb m))
end
end My

set_option Elab.async false
set_option linter.all false
set_option maxRecDepth 100000
namespace My
open PySem PySem.Spec PyProof.Rows L2 GxR

/-! ### dict comprehensions over what is walked -/
theorem dc_it {J : It} {n : Nat} {G : Hp → Prop} {Y : Nat → Hp → V → Hp → Prop} (w : Walk J n G Y) {g : TG} {tt : TT} {tk tv : TE} {vs : List Nat} {σ : L2.St} {H1 : Hp} {D : Addr} {Qd : Hp → Prop} (Pv : Nat → Hp → Prop)
    (h0 : Pv 0 (upd H1 D (.dK []))) (hG : ∀ i H, i ≤ n → Pv i H → G H)
    (hs : ∀ i x H H', i < n → Pv i H → Y i H x H' → g x (wipe σ vs) H' fun σ2 H2 => wipe σ2 vs = wipe σ vs ∧ tt σ2 H2 fun b H3 =>
      if b = true then tk σ2 H3 fun y H4 => tv σ2 H4 fun z H5 => ∃ kvs k, y = kV k ∧ H5 D = some (.dK kvs) ∧ kvs.length < sizeLine ∧ Pv (i + 1) (upd H5 D (.dK (putK kvs k z))) else Pv (i + 1) H3)
    (hd : ∀ H, Pv n H → Qd H) :
    ∃ W : Nat → Nat → Hp → Prop, (∃ m, W 0 m (upd H1 D (.dK []))) ∧ ∀ i m H, W i m H → (J.stop i H ∧ Qd H) ∨
      (J.go i H ∧ ∃ Nx : Hp → Prop, (∀ H', Nx H' → ∃ m', m' < m ∧ W (i + 1) m' H') ∧ ∀ x H', J.yld i H x H' → g x (wipe σ vs) H' fun σ2 H2 => wipe σ2 vs = wipe σ vs ∧ tt σ2 H2 fun b H3 =>
        if b = true then tk σ2 H3 fun y H4 => tv σ2 H4 fun z H5 => ∃ kvs k, y = kV k ∧ H5 D = some (.dK kvs) ∧ kvs.length < sizeLine ∧ Nx (upd H5 D (.dK (putK kvs k z))) else Nx H3) := by
  refine ⟨fun i m H => m = n - i ∧ i ≤ n ∧ Pv i H, ⟨n, rfl, Nat.zero_le _, h0⟩, ?_⟩
  rintro i m H ⟨rfl, hi, p⟩
  have q := hG i H hi p
  by_cases hlt : i < n
  · exact .inr ⟨w.goes i H hlt q, Pv (i + 1), fun H' p' => ⟨n - (i + 1), by omega, rfl, hlt, p'⟩, fun x H' y => hs i x H H' hlt p (w.yields i H x H' hlt q y)⟩
  · have e : i = n := by omega
    subst e
    exact .inl ⟨w.stops H q, hd H p⟩

/-! ### what a dict tells behind a store -/
theorem valV_put {κ : Type} [DecidableEq κ] (kvs : List (κ × V)) (k : κ) (v : V) (j : κ) : valV (putK kvs k v) j = if j = k then some v else valV kvs j := by
  unfold putK
  by_cases h : (kvs.any fun kv => decide (kv.1 = k)) = true
  · rw [if_pos h]
    induction kvs with
    | nil => cases h
    | cons p r ih =>
      rw [List.map_cons]
      by_cases hp : p.1 = k
      · rw [if_pos hp]
        by_cases hj : j = k
        · rw [if_pos hj, valV_pos (by rw [hj]; exact hp)]
        · rw [if_neg hj, valV_neg (fun z => hj (by rw [← z]; exact hp)), valV_neg (fun z => hj (by rw [← z]; exact hp))]
          by_cases hr : (r.any fun kv => decide (kv.1 = k)) = true
          · have := ih hr
            rw [if_neg hj] at this
            exact this
          · have : (r.map fun kv => if kv.1 = k then (kv.1, v) else kv) = r := by
              clear ih h
              induction r with
              | nil => rfl
              | cons q s ih2 =>
                rw [List.any_cons, Bool.or_eq_true] at hr
                have h1 : ¬ q.1 = k := fun z => hr (.inl (decide_eq_true z))
                have h2 : ¬ (s.any fun kv => decide (kv.1 = k)) = true := fun z => hr (.inr z)
                rw [List.map_cons, if_neg h1, ih2 h2]
            rw [this]
      · rw [if_neg hp]
        rw [List.any_cons, decide_eq_false hp, Bool.false_or] at h
        have := ih h
        by_cases hj : p.1 = j
        · rw [valV_pos hj, valV_pos hj, if_neg (fun z => hp (by rw [hj]; exact z))]
        · rw [valV_neg hj, valV_neg hj]; exact this
  · rw [if_neg h]
    induction kvs with
    | nil =>
      rw [List.nil_append]
      by_cases hj : j = k
      · rw [if_pos hj, valV_pos hj.symm]
      · rw [if_neg hj, valV_neg (fun z => hj z.symm)]
    | cons p r ih =>
      rw [List.any_cons, Bool.or_eq_true] at h
      have h1 : ¬ p.1 = k := fun z => h (.inl (decide_eq_true z))
      have h2 : ¬ (r.any fun kv => decide (kv.1 = k)) = true := fun z => h (.inr z)
      rw [List.cons_append]
      by_cases hj : p.1 = j
      · rw [valV_pos hj, valV_pos hj, if_neg (fun z => h1 (by rw [hj]; exact z))]
      · rw [valV_neg hj, valV_neg hj]; exact ih h2
theorem len_put {κ : Type} [DecidableEq κ] (kvs : List (κ × V)) (k : κ) (v : V) : (putK kvs k v).length ≤ kvs.length + 1 := by
  unfold putK
  split
  · rw [List.length_map]; exact Nat.le_succ _
  · rw [List.length_append]; exact Nat.le_refl _

/-! ### rising lists of places, parts of webs -/
def Ris (n : Nat) (pl : List Int) : Prop := pl.Pairwise (· < ·) ∧ ∀ p ∈ pl, 0 ≤ p ∧ p < (n : Int)
theorem Ris.nodup {n : Nat} {pl : List Int} (h : Ris n pl) : pl.Nodup := List.nodup_iff_pairwise_ne.mpr (h.1.imp fun {a b} z e => by omega)
theorem Ris.len {n : Nat} {pl : List Int} (h : Ris n pl) : pl.length ≤ n := by
  have := nd_len (m := up n) h.nodup fun x hx => mem_up.mpr (h.2 x hx)
  rwa [up_len] at this
theorem idx_get {pl : List Int} {a : Int} (h : a ∈ pl) : pl[pl.idxOf a]? = some a := by
  have hl := List.idxOf_lt_length_of_mem h
  rw [List.getElem?_eq_getElem hl, List.getElem_idxOf hl]
theorem idx_of {pl : List Int} (nd : pl.Nodup) {i : Nat} {a : Int} (h : pl[i]? = some a) : pl.idxOf a = i := by
  obtain ⟨hi, e⟩ := List.getElem?_eq_some_iff.mp h
  have hm : a ∈ pl := List.mem_of_getElem? h
  have hl := List.idxOf_lt_length_of_mem hm
  have e2 := List.getElem_idxOf hl
  have pw := List.pairwise_iff_getElem.mp (List.nodup_iff_pairwise_ne.mp nd)
  rcases Nat.lt_trichotomy (pl.idxOf a) i with z | z | z
  · exact absurd (e2.trans e.symm) (pw _ _ hl hi z)
  · exact z
  · exact absurd (e.trans e2.symm) (pw _ _ hi hl z)
theorem ris_lt {n : Nat} {pl : List Int} (h : Ris n pl) {i j : Nat} {a b : Int} (hi : pl[i]? = some a) (hj : pl[j]? = some b) : i < j ↔ a < b := by
  obtain ⟨li, ei⟩ := List.getElem?_eq_some_iff.mp hi
  obtain ⟨lj, ej⟩ := List.getElem?_eq_some_iff.mp hj
  have pw := List.pairwise_iff_getElem.mp h.1
  constructor
  · intro z
    have := pw i j li lj z
    omega
  · intro z
    rcases Nat.lt_trichotomy i j with c | c | c
    · exact c
    · subst c; omega
    · have := pw j i lj li c
      omega
def partL (ts : List (Int × Int)) (pl : List Int) : List (Int × Int) :=
  (ts.filter fun t => decide (t.1 ∈ pl) && decide (t.2 ∈ pl)).map fun t => ((pl.idxOf t.1 : Int), (pl.idxOf t.2 : Int))
theorem mem_part {ts : List (Int × Int)} {pl : List Int} (nd : pl.Nodup) {t : Int × Int} : t ∈ partL ts pl ↔
    ∃ (i j : Nat) (a b : Int), t = ((i : Int), (j : Int)) ∧ pl[i]? = some a ∧ pl[j]? = some b ∧ (a, b) ∈ ts := by
  unfold partL
  rw [List.mem_map]
  constructor
  · rintro ⟨s, hs, rfl⟩
    obtain ⟨h1, h2⟩ := List.mem_filter.mp hs
    rw [Bool.and_eq_true, decide_eq_true_eq, decide_eq_true_eq] at h2
    exact ⟨_, _, s.1, s.2, rfl, idx_get h2.1, idx_get h2.2, h1⟩
  · rintro ⟨i, j, a, b, rfl, hi, hj, h⟩
    refine ⟨(a, b), List.mem_filter.mpr ⟨h, ?_⟩, ?_⟩
    · rw [Bool.and_eq_true, decide_eq_true_eq, decide_eq_true_eq]
      exact ⟨List.mem_of_getElem? hi, List.mem_of_getElem? hj⟩
    · dsimp only
      rw [idx_of nd hi, idx_of nd hj]
theorem part_pw {n : Nat} {ts : List (Int × Int)} {pl : List Int} (hp : Ris n pl) (hw : ts.Pairwise ltT) : (partL ts pl).Pairwise ltT := by
  unfold partL
  rw [List.pairwise_map]
  refine (hw.sublist List.filter_sublist).imp_of_mem fun {s t} hs ht h => ?_
  have h1 := (List.mem_filter.mp hs).2
  have h2 := (List.mem_filter.mp ht).2
  rw [Bool.and_eq_true, decide_eq_true_eq, decide_eq_true_eq] at h1 h2
  have l1 := ris_lt hp (idx_get h1.1) (idx_get h2.1)
  have l2 := ris_lt hp (idx_get h1.2) (idx_get h2.2)
  rcases h with h | ⟨h, k⟩
  · exact .inl (by have := l1.mpr h; dsimp only; omega)
  · refine .inr ⟨by dsimp only; rw [h], ?_⟩
    have := l2.mpr k
    dsimp only; omega
theorem part_wok {n : Nat} {ts : List (Int × Int)} {pl : List Int} (hp : Ris n pl) (hw : WOk n ts) : WOk pl.length (partL ts pl) := by
  refine ⟨part_pw hp hw.1, fun t ht => ?_⟩
  obtain ⟨i, j, a, b, rfl, hi, hj, h⟩ := (mem_part hp.nodup).mp ht
  have hb := hw.2 _ h
  have l := ris_lt hp hi hj
  have := l.mpr hb.2.1
  have := (List.getElem?_eq_some_iff.mp hj).1
  dsimp only
  omega
theorem part_len {ts : List (Int × Int)} {pl : List Int} : (partL ts pl).length ≤ ts.length := by
  unfold partL; rw [List.length_map]; exact List.length_filter_le _ _
theorem ris_up (n : Nat) : Ris n (up n) := by
  refine ⟨?_, fun p hp => mem_up.mp hp⟩
  unfold up
  rw [List.pairwise_map]
  exact List.pairwise_lt_range.imp fun h => by omega
theorem up_get {n i : Nat} (h : i < n) : (up n)[i]? = some (i : Int) := by
  unfold up
  rw [List.getElem?_map, List.getElem?_range h]; rfl
theorem part_up {n : Nat} {ts : List (Int × Int)} (hw : WOk n ts) : partL ts (up n) = ts := by
  refine pw_eq (part_pw (ris_up n) hw.1) hw.1 fun t => ?_
  rw [mem_part (ris_up n).nodup]
  constructor
  · rintro ⟨i, j, a, b, rfl, hi, hj, h⟩
    have li : i < n := by have := (List.getElem?_eq_some_iff.mp hi).1; rwa [up_len] at this
    have lj : j < n := by have := (List.getElem?_eq_some_iff.mp hj).1; rwa [up_len] at this
    rw [up_get li] at hi
    rw [up_get lj] at hj
    cases hi; cases hj
    exact h
  · intro h
    have b := hw.2 t h
    refine ⟨t.1.toNat, t.2.toNat, t.1, t.2, ?_, ?_, ?_, h⟩
    · cases t with | mk x y => dsimp only at b ⊢; congr 1 <;> omega
    · rw [up_get (by omega)]; congr 1; omega
    · rw [up_get (by omega)]; congr 1; omega
theorem part_nil (ts : List (Int × Int)) : partL ts [] = [] := by
  unfold partL
  have : (ts.filter fun t => decide (t.1 ∈ ([] : List Int)) && decide (t.2 ∈ ([] : List Int))) = [] := by
    rw [List.filter_eq_nil_iff]; intro a _; simp
  rw [this]; rfl
/-- some of the places -/
def pick (pl inn : List Int) : List Int := inn.map fun p => pl.getD p.toNat 0
theorem pick_get {pl inn : List Int} {n : Nat} (hi : Ris pl.length inn) {i : Nat} {p : Int} (h : inn[i]? = some p) : ∃ a, pl[p.toNat]? = some a ∧ (pick pl inn)[i]? = some a := by
  have b := hi.2 p (List.mem_of_getElem? h)
  have hl : p.toNat < pl.length := by omega
  refine ⟨pl[p.toNat], List.getElem?_eq_getElem hl, ?_⟩
  unfold pick
  rw [List.getElem?_map, h]
  show some (pl.getD p.toNat 0) = _
  rw [List.getD_eq_getElem?_getD, List.getElem?_eq_getElem hl]; rfl
theorem pick_ris {n : Nat} {pl inn : List Int} (hp : Ris n pl) (hi : Ris pl.length inn) : Ris n (pick pl inn) := by
  refine ⟨?_, fun x hx => ?_⟩
  · rw [List.pairwise_iff_getElem]
    intro i j li lj hij
    have li' : i < inn.length := by unfold pick at li; rwa [List.length_map] at li
    have lj' : j < inn.length := by unfold pick at lj; rwa [List.length_map] at lj
    obtain ⟨a, ha, ga⟩ := pick_get (n := n) hi (List.getElem?_eq_getElem li')
    obtain ⟨b, hb, gb⟩ := pick_get (n := n) hi (List.getElem?_eq_getElem lj')
    rw [List.getElem?_eq_getElem li] at ga
    rw [List.getElem?_eq_getElem lj] at gb
    have e1 := Option.some.inj ga
    have e2 := Option.some.inj gb
    rw [e1, e2]
    have := (List.pairwise_iff_getElem.mp hi.1) i j li' lj' hij
    have b1 := hi.2 _ (List.getElem_mem li')
    have b2 := hi.2 _ (List.getElem_mem lj')
    exact (ris_lt hp ha hb).mp (by omega)
  · unfold pick at hx
    obtain ⟨p, hp', rfl⟩ := List.mem_map.mp hx
    have b := hi.2 p hp'
    have hl : p.toNat < pl.length := by omega
    rw [List.getD_eq_getElem?_getD, List.getElem?_eq_getElem hl]
    exact hp.2 _ (List.getElem_mem hl)
theorem part_part {n : Nat} {ts : List (Int × Int)} {pl inn : List Int} (hw : ts.Pairwise ltT) (hp : Ris n pl) (hi : Ris pl.length inn) :
    partL (partL ts pl) inn = partL ts (pick pl inn) := by
  have hq := pick_ris hp hi
  refine pw_eq (part_pw hi (part_pw hp hw)) (part_pw hq hw) fun t => ?_
  rw [mem_part hi.nodup, mem_part hq.nodup]
  constructor
  · rintro ⟨i, j, a, b, rfl, h1, h2, h3⟩
    obtain ⟨i', j', a', b', e, k1, k2, k3⟩ := (mem_part hp.nodup).mp h3
    cases e
    obtain ⟨x, hx, gx⟩ := pick_get (n := n) hi h1
    obtain ⟨y, hy, gy⟩ := pick_get (n := n) hi h2
    rw [Int.toNat_natCast, k1] at hx
    rw [Int.toNat_natCast, k2] at hy
    cases hx; cases hy
    exact ⟨i, j, _, _, rfl, gx, gy, k3⟩
  · rintro ⟨i, j, a, b, rfl, h1, h2, h3⟩
    have li : i < inn.length := by have := (List.getElem?_eq_some_iff.mp h1).1; unfold pick at this; rwa [List.length_map] at this
    have lj : j < inn.length := by have := (List.getElem?_eq_some_iff.mp h2).1; unfold pick at this; rwa [List.length_map] at this
    obtain ⟨x, hx, gx⟩ := pick_get (n := n) hi (List.getElem?_eq_getElem li)
    obtain ⟨y, hy, gy⟩ := pick_get (n := n) hi (List.getElem?_eq_getElem lj)
    rw [h1] at gx
    rw [h2] at gy
    cases gx; cases gy
    have b1 := hi.2 _ (List.getElem_mem li)
    have b2 := hi.2 _ (List.getElem_mem lj)
    refine ⟨i, j, inn[i], inn[j], rfl, List.getElem?_eq_getElem li, List.getElem?_eq_getElem lj, (mem_part hp.nodup).mpr ⟨inn[i].toNat, inn[j].toNat, a, b, ?_, hx, hy, h3⟩⟩
    congr 1 <;> omega
end My

set_option Elab.async false
set_option linter.all false
set_option maxRecDepth 100000
namespace My
open PySem PySem.Spec PyProof.Rows L2 GxR

/-! ### dict comprehensions with keys of any kind (DPut) -/
section
variable {X : Cx}
theorem d_dictPut {pins : List (Addr × Obj)} {σ : L2.St} {H H' : Hp} {s : Shared} {E : Value → Shared → Prop} {D : Addr} {y v : V} {u r : Value} {Q : Unit → Shared → Prop} (hu : X.A.units + 1 < cLine) (I : Inv X pins σ H s) (g : DPut H D y v H')
    (ry : RelV y u) (rv : RelV v r) (h : ∀ s', Inv X pins σ H' s' → Q () s') : wpAny (model X.prog X.w) X.A (dictSet D u r) Q E s := by
  rcases g with ⟨kvs, k, e, rfl, l, rfl⟩ | ⟨kvs, k, b, e, rfl, eb, l, rfl⟩
  · exact d_dictSet I e l ry rv h
  · cases (show u = Value.ref b from ry)
    obtain ⟨z, hd, xs, rel, dd⟩ := dt_of I.hok e
    have hz : xs.length ≤ sizeLine := by
      rw [← Paired.length rel]; exact z
    have hp := length_putK kvs k v
    refine wpAny_dictSet_heap (hsz := hz) (show X.A.units < cLine from Nat.lt_of_succ_lt hu) (L2.key_of I.hok eb) dd fun h' dd' hs => h _ ?_
    obtain ⟨q, es, ep, hq, h2, h3, h4, _, h5⟩ := dd'
    refine d_write I (by rw [e]; exact True.intro) hs ⟨q, hq⟩ ⟨by omega, hd, _, (rel.put k eb rv).keeps fun c ys ec => ?_, q, es, ep, hq, h2, h3, h4, h5⟩
    rw [upd_ne (ne_of ec e (fun z => nomatch z))]; exact ec
/-- the turn behind what is yielded -/
def dcStep (g : TG) (tt : TT) (tk tv : TE) (vs : List Nat) (σ : L2.St) (D : Addr) (Nx : Hp → Prop) (x : V) (H' : Hp) : Prop :=
  g x (wipe σ vs) H' fun σ2 H2 => wipe σ2 vs = wipe σ vs ∧ tt σ2 H2 fun b H3 => if b = true then tk σ2 H3 fun y H4 => tv σ2 H4 fun z H5 => ∃ H6, DPut H5 D y z H6 ∧ Nx H6 else Nx H3
def tDcP (o0 : HO) (wi : TI) (g : TG) (tt : TT) (tk tv : TE) (vs : List Nat) : TE := fun σ H Q => wi σ H fun J H1 => ∀ D, H1 D = none → ∃ W : Nat → Nat → Hp → Prop, (∃ m, W 0 m (upd H1 D o0)) ∧ ∀ i m H, W i m H →
  (J.stop i H ∧ Q (.ref D) H) ∨ (J.go i H ∧ ∃ Nx : Hp → Prop, (∀ H', Nx H' → ∃ m', m' < m ∧ W (i + 1) m' H') ∧ ∀ x H', J.yld i H x H' → dcStep g tt tk tv vs σ D Nx x H')
/-- a new empty dict may be read so -/
def Empt (o0 : HO) : Prop := ∀ (P : Program) (w : World) (H : Hp) (h : Heap), sysModules < h.objs.size → ObjOk P w H (h.push { cls := .type "dict", data := .dict #[] }) h.objs.size o0
theorem empt_dK : Empt (.dK []) := fun _ _ _ h hb => dk_empty h hb
theorem empt_dT : Empt (.dT []) := fun _ _ _ h hb => dt_empty h hb
abbrev inCell (X : Cx) (s : Shared) (scope : Scope) : Env := compEnvC scope (cellsFrom (s.heap.objs.size + 1) scope.names (cloFrom X.env.cells scope.names [])) s.heap.objs.size X.env
theorem pe_dcP {o0 : HO} {kx vx tg iter : Expr} {ifs : List Expr} {scope : Scope} {own : List (Str × Nat)} {pos : Pos} {wi : TI} {g : TG} {tt : TT} {tk tv : TE} (em : Empt o0) (hu : X.A.units + 1 < cLine) (hc : X.calm = true) (hN : X.N.Nodup) (hi : PI X tg iter wi) (ok : BlkOk X.N X.env.scope scope own)
    (hg : ∀ (s : Shared) (H : Hp) (C : Addr) (cl : List (Str × Addr)) (fp : List Addr), PG (X.blk s H scope (compEnvC scope cl C X.env) fp) tg g)
    (ht : ∀ (s : Shared) (H : Hp) (C : Addr) (cl : List (Str × Addr)) (fp : List Addr), PTs (X.blk s H scope (compEnvC scope cl C X.env) fp) ifs tt)
    (hk : ∀ (s : Shared) (H : Hp) (C : Addr) (cl : List (Str × Addr)) (fp : List Addr), PE (X.blk s H scope (compEnvC scope cl C X.env) fp) kx tk)
    (he : ∀ (s : Shared) (H : Hp) (C : Addr) (cl : List (Str × Addr)) (fp : List Addr), PE (X.blk s H scope (compEnvC scope cl C X.env) fp) vx tv) (hs : ∀ x, foldedSetIterable iter X.env x = pure x := by intro _; rfl) :
    PE X (.DictComp kx vx [⟨tg, iter, ifs, 0⟩] scope pos) (tDcP o0 wi g tt tk tv (own.map (·.2))) := by
  refine ⟨fun pins s σ H Q I h => ?_⟩
  rw [arm_eval_DictComp]
  have fr : ∀ y ∈ scope.names, y.2 = .free → ∃ c, X.env.cells.lookup y.1 = some c := fun y hy e => (ok.free y hy e).elim (fun k => I.ok.has _ (.inl k)) fun k => I.ok.has _ (.inr k)
  refine wpAny_comprehension_free rfl hs (closure_ok fr) ok.kind (fun y hy e => by rw [ok.uniq y hy, e]) ?_
  refine thn (hi.run pins s σ H _ I h) fun _ _ hx => thn hx fun _ s2 h2 => ?_
  obtain ⟨it, fp, tn, J, H2, rfl, I2, T, st2, f2, q⟩ := h2
  refine wpAny_newObj_type (newEnv_comp ?_)
  generalize hD : s2.heap.objs.size = D
  obtain ⟨W, ⟨m0, w0⟩, turn⟩ := q D (I2.hok.fresh (Nat.le_of_eq hD))
  generalize hs3 : (⟨s2.heap.push { cls := .type "dict", data := .dict #[] }, s2.gens, s2.drawn, s2.toks, s2.os⟩ : Shared) = s3
  have I3 : Inv X pins σ (upd H2 D o0) s3 := by
    rw [← hs3]
    refine I2.laid (t' := s2.toks) (fun b o e => Heap.get?_push_of_some _ e) (Nat.le_of_eq hD) ?_
    rw [← hD]; exact em _ _ _ _ I2.big
  have h3 : s3.heap = s2.heap.push { cls := .type "dict", data := .dict #[] } := by rw [← hs3]
  have f3 : ∀ b ∈ fp, FpOk X pins (upd H2 D o0) b ∧ b < s3.heap.objs.size := fun b hb => by
    obtain ⟨o, e, _⟩ := T.obj _ _ st2 b hb
    have hlt := Heap.lt_size e
    refine ⟨⟨?_, (f2 b hb).2⟩, by rw [h3, Heap.size_push]; exact Nat.lt_succ_of_lt hlt⟩
    rw [upd_ne (by rw [← hD]; exact Nat.ne_of_lt hlt)]; exact (f2 b hb).1
  have st3 : tn 0 s3.heap := T.keep _ _ _ st2 fun b _ o e => by rw [h3]; exact Heap.get?_push_of_some _ e
  have I4 := block_start I3 ok hN f3
  have pg := hg s3 (upd H2 D o0) s3.heap.objs.size (cellsFrom (s3.heap.objs.size + 1) scope.names (cloFrom X.env.cells scope.names [])) fp
  have pt := ht s3 (upd H2 D o0) s3.heap.objs.size (cellsFrom (s3.heap.objs.size + 1) scope.names (cloFrom X.env.cells scope.names [])) fp
  have pk := hk s3 (upd H2 D o0) s3.heap.objs.size (cellsFrom (s3.heap.objs.size + 1) scope.names (cloFrom X.env.cells scope.names [])) fp
  have pe := he s3 (upd H2 D o0) s3.heap.objs.size (cellsFrom (s3.heap.objs.size + 1) scope.names (cloFrom X.env.cells scope.names [])) fp
  refine (?_ : codeAny _ _ (.compStart (.DictComp kx vx [⟨tg, iter, ifs, 0⟩] scope pos) 0 (.ref it) (.ref D) (inCell X s3 scope)) (compPost (model X.prog X.w) X.A X.xe none (fun v s' => ∃ x H', Inv X pins σ H' s' ∧ RelV x v ∧ Q x H') (.ref D) s3.heap.objs.size) { s3 with heap := pushCells (s3.heap.push { cls := .type "dict", data := .dict #[] }) scope.names })
  have nfp : ∀ b ∈ fp, (upd H2 D o0) b = none := fun b hb => (f3 b hb).1.1
  obtain ⟨ce, hce⟩ : ∃ ce, inCell X s3 scope = ce := ⟨_, rfl⟩
  have cL : ce.locals = s3.heap.objs.size := by rw [← hce]; rfl
  rw [show compEnvC scope (cellsFrom (s3.heap.objs.size + 1) scope.names (cloFrom X.env.cells scope.names [])) s3.heap.objs.size X.env = ce from hce] at I4 pg pt pk pe
  rw [hce]
  generalize upd H2 D o0 = H3 at I3 I4 pg pt pk pe w0 nfp f3
  obtain ⟨s4, hs4⟩ : ∃ s4 : Shared, { s3 with heap := pushCells (s3.heap.push { cls := .type "dict", data := .dict #[] }) scope.names } = s4 := ⟨_, rfl⟩
  rw [hs4] at I4 ⊢
  have st4 : tn 0 s4.heap := T.keep _ _ _ st3 fun b _ o e => by
    rw [← hs4]; exact pushCells_keeps _ _ _ _ (Heap.get?_push_of_some _ e)
  let Y := X.blk s3 H3 scope ce fp
  have stat : ∀ {σ' : L2.St} {H' : Hp} {s' : Shared}, Inv Y [] σ' H' s' → (∀ b ∈ fp, H' b = none) → ∀ b ∈ fp, FpOk Y [] H' b := fun {σ' H' s'} I' hn b hb =>
    ⟨hn b hb, (I'.ok.exf b hb).1, I'.ok.exfs b hb, .inl hb, fun x c e => (I'.ok.exf b hb).2 x c e, fun p hp => absurd (show p ∈ ([] : List (Addr × Obj)) ++ [] from hp) (by simp)⟩
  let Z : Nat → Shared → Prop := fun n s' => ∃ i H', Inv Y [] (wipe σ (own.map (·.2))) H' s' ∧ tn i s'.heap ∧ (∀ b ∈ fp, H' b = none) ∧ W i n H'
  have loop : codeAny (model X.prog X.w) X.A (.compLoop (.DictComp kx vx [⟨tg, iter, ifs, 0⟩] scope pos) 0 (.ref it) (.ref D) ce) (compPost (model X.prog X.w) X.A X.xe none (fun v s' => ∃ x H', Inv X pins σ H' s' ∧ RelV x v ∧ Q x H') (.ref D) s3.heap.objs.size) s4 := by
    refine compLoop_anyD Z ?_ m0 ⟨0, H3, I4, st4, nfp, w0⟩
    rintro n s5 ⟨i, H5, I5, st5, n5, w5⟩
    rcases turn i n H5 w5 with ⟨stop, qq⟩ | ⟨go, Nx, hNx, step⟩
    · refine thnF (T.done Y rfl rfl rfl hc i [] s5 _ H5 (fun _ _ => False) I5 (stat I5 n5) st5 stop) fun r s6 ⟨hr, I6⟩ => ?_
      subst hr
      have I7 : Inv X pins σ H5 s6 := I3.call' (ch := fp) I6.os I6.base I6.hok I6.bare fun b hb => (fun (z : FpOk X pins H3 b) => ⟨z.2.2.2.1, z.2.1, z.2.2.2.2.1, z.2.2.2.2.2⟩) (f3 b hb).1
      have nC : H5 s3.heap.objs.size = none := by
        rw [← cL]; exact I6.free
      obtain ⟨m, hn, _⟩ := I6.loc
      have hn' : s6.heap.Ns s3.heap.objs.size m := by
        rw [← cL]; exact hn
      obtain ⟨e0, e1, e2, e3, e4, e5⟩ : FpOk X pins H5 s3.heap.objs.size := I3.fpOk (Nat.le_refl _) nC
      exact ⟨m, hn', fun h'' sb => ⟨.ref D, H5, I7.turned (t' := s6.toks) (fun b o hb e => (sb.2 b hb).trans e) e0 e1 e3 e4 e5, rfl, qq⟩⟩
    · refine thnF (T.item Y rfl rfl rfl hc i [] s5 _ H5 (fun _ _ => False) I5 (stat I5 n5) st5 go) fun r s6 ⟨u, hr, h6⟩ => ?_
      subst hr
      refine thnF h6 fun _ s7 ⟨x, H7, I7, r7, y7, st7, n7⟩ => ?_
      refine thnF (pg.run _ s7 _ H7 x u _ (I7.pinned (stat I7 n7) (T.obj _ _ st7)) r7 (step x H7 y7)) fun _ s8 ⟨σ8, H8, I8, hw8, q8⟩ => ?_
      refine thnF (pt.run _ s8 σ8 H8 _ I8 q8) fun b s9 ⟨H9, I9, q9⟩ => ?_
      have fin : ∀ {s' : Shared} {H' : Hp}, Inv Y ([] ++ pinsAt fp s7.heap) σ8 H' s' → Nx H' → ∃ m, m < n ∧ Z m s' := fun {s' H'} I' nx => by
        obtain ⟨m', hm, w'⟩ := hNx H' nx
        have pin' : ∀ b ∈ fp, ∀ o, s7.heap.get? b = some o → s'.heap.get? b = some o ∧ H' b = none := fun b hb o e =>
          (fun z => ⟨z.1, z.2.1⟩) (I'.pin (b, o) (List.mem_append_right _ (List.mem_append_right _ (mem_pinsAt hb e))))
        have hl : (wipe σ (own.map (·.2))).length = σ8.length := by rw [← hw8, wipe_length]
        refine ⟨m', hm, i + 1, H', (I'.unpinned (pins := [])).weak hl (fun j v e => by rw [← hw8] at e; exact (wipe_some e).1), T.keep _ _ _ st7 fun b hb o e => (pin' b hb o e).1, fun b hb => ?_, w'⟩
        obtain ⟨o, e, _⟩ := T.obj _ _ st7 b hb
        exact (pin' b hb o e).2
      cases b with
      | false => exact fin I9 q9
      | true =>
        refine thnF (pk.run _ s9 σ8 H9 _ I9 q9) fun z s10 ⟨yk, H10, I10, r10, q10⟩ => ?_
        refine thnF (pe.run _ s10 σ8 H10 _ I10 q10) fun z2 s11 ⟨yv, H11, I11, r11, H12, pu, nx⟩ => ?_
        exact d_dictPut (X := Y) hu I11 pu r10 r11 fun s12 I12 => fin I12 nx
  exact codeAny_compStart_dict loop (T.self X.A 0 _ _ _ st4 loop)
end
theorem dcP_it {o0 : HO} {J : It} {n : Nat} {G : Hp → Prop} {Y : Nat → Hp → V → Hp → Prop} (w : Walk J n G Y) {g : TG} {tt : TT} {tk tv : TE} {vs : List Nat} {σ : L2.St} {H1 : Hp} {D : Addr} {Qd : Hp → Prop} (Pv : Nat → Hp → Prop)
    (h0 : Pv 0 (upd H1 D o0)) (hG : ∀ i H, i ≤ n → Pv i H → G H) (hs : ∀ i x H H', i < n → Pv i H → Y i H x H' → dcStep g tt tk tv vs σ D (Pv (i + 1)) x H') (hd : ∀ H, Pv n H → Qd H) :
    ∃ W : Nat → Nat → Hp → Prop, (∃ m, W 0 m (upd H1 D o0)) ∧ ∀ i m H, W i m H → (J.stop i H ∧ Qd H) ∨
      (J.go i H ∧ ∃ Nx : Hp → Prop, (∀ H', Nx H' → ∃ m', m' < m ∧ W (i + 1) m' H') ∧ ∀ x H', J.yld i H x H' → dcStep g tt tk tv vs σ D Nx x H') := by
  refine ⟨fun i m H => m = n - i ∧ i ≤ n ∧ Pv i H, ⟨n, rfl, Nat.zero_le _, h0⟩, ?_⟩
  rintro i m H ⟨rfl, hi, p⟩
  have q := hG i H hi p
  by_cases hlt : i < n
  · exact .inr ⟨w.goes i H hlt q, Pv (i + 1), fun H' p' => ⟨n - (i + 1), by omega, rfl, hlt, p'⟩, fun x H' y => hs i x H H' hlt p (w.yields i H x H' hlt q y)⟩
  · have e : i = n := by omega
    subst e
    exact .inl ⟨w.stops H q, hd H p⟩
/-! ### one walker for all -/
theorem wk {J : It} {n : Nat} {G : Hp → Prop} {Y : Nat → Hp → V → Hp → Prop} (w : Walk J n G Y) {S : (Hp → Prop) → V → Hp → Prop} {H1 : Hp} {Qd : Hp → Prop} (Pv : Nat → Hp → Prop)
    (h0 : Pv 0 H1) (hG : ∀ i H, i ≤ n → Pv i H → G H) (hs : ∀ i x H H', i < n → Pv i H → Y i H x H' → S (Pv (i + 1)) x H') (hd : ∀ H, Pv n H → Qd H) :
    ∃ W : Nat → Nat → Hp → Prop, (∃ m, W 0 m H1) ∧ ∀ i m H, W i m H → (J.stop i H ∧ Qd H) ∨
      (J.go i H ∧ ∃ Nx : Hp → Prop, (∀ H', Nx H' → ∃ m', m' < m ∧ W (i + 1) m' H') ∧ ∀ x H', J.yld i H x H' → S Nx x H') := by
  refine ⟨fun i m H => m = n - i ∧ i ≤ n ∧ Pv i H, ⟨n, rfl, Nat.zero_le _, h0⟩, ?_⟩
  rintro i m H ⟨rfl, hi, p⟩
  have q := hG i H hi p
  by_cases hlt : i < n
  · exact .inr ⟨w.goes i H hlt q, Pv (i + 1), fun H' p' => ⟨n - (i + 1), by omega, rfl, hlt, p'⟩, fun x H' y => hs i x H H' hlt p (w.yields i H x H' hlt q y)⟩
  · have e : i = n := by omega
    subst e
    exact .inl ⟨w.stops H q, hd H p⟩

end My

set_option Elab.async false
set_option linter.all false
set_option maxRecDepth 100000
namespace My
open PySem PySem.Spec PyProof.Rows L2 GxR

/-! ### name = {k: v for ..}, the name a plain local -/
section
variable {X : Cx}
theorem dc_coreP {o0 : HO} {pins : List (Addr × Obj)} {s : Shared} {σ : L2.St} {H : Hp} {Q : VK} {kx vx tg iter : Expr} {ifs : List Expr} {scope : Scope} {own : List (Str × Nat)} {pos pos' : Pos} {wi : TI} {g : TG} {tt : TT} {tk tv : TE} {use : Option (Value → Sem Unit)} {Qf : Value → Shared → Prop} (em : Empt o0) (hu : X.A.units + 1 < cLine) (hc : X.calm = true) (hN : X.N.Nodup) (I : Inv X pins σ H s) (hi : PI X tg iter wi) (ok : BlkOk X.N X.env.scope scope own)
    (hg : ∀ (s : Shared) (H : Hp) (C : Addr) (cl : List (Str × Addr)) (fp : List Addr), PG (X.blk s H scope (compEnvC scope cl C X.env) fp) tg g)
    (ht : ∀ (s : Shared) (H : Hp) (C : Addr) (cl : List (Str × Addr)) (fp : List Addr), PTs (X.blk s H scope (compEnvC scope cl C X.env) fp) ifs tt)
    (hk : ∀ (s : Shared) (H : Hp) (C : Addr) (cl : List (Str × Addr)) (fp : List Addr), PE (X.blk s H scope (compEnvC scope cl C X.env) fp) kx tk)
    (he : ∀ (s : Shared) (H : Hp) (C : Addr) (cl : List (Str × Addr)) (fp : List Addr), PE (X.blk s H scope (compEnvC scope cl C X.env) fp) vx tv) (hs : ∀ x, foldedSetIterable iter X.env x = pure x)
    (h : tDcP o0 wi g tt tk tv (own.map (·.2)) σ H Q)
    (hRR : ∀ D C s' m H', Inv X pins σ H' s' → Q (.ref D) H' → s'.heap.Ns C m → FpOk X pins H' C → compPost (model X.prog X.w) X.A X.xe use Qf (.ref D) C (.ok .next) s') :
    wpAny (model X.prog X.w) X.A (comprehension (.DictComp kx vx [⟨tg, iter, ifs, 0⟩] scope pos) scope X.env pos' (newObj (.type "dict") (.dict #[])) false (eval iter X.env) use) Qf X.xe s := by
  have fr : ∀ y ∈ scope.names, y.2 = .free → ∃ c, X.env.cells.lookup y.1 = some c := fun y hy e => (ok.free y hy e).elim (fun k => I.ok.has _ (.inl k)) fun k => I.ok.has _ (.inr k)
  refine wpAny_comprehension_free (use := use) rfl hs (closure_ok fr) ok.kind (fun y hy e => by rw [ok.uniq y hy, e]) ?_
  refine thn (hi.run pins s σ H _ I h) fun _ _ hx => thn hx fun _ s2 h2 => ?_
  obtain ⟨it, fp, tn, J, H2, rfl, I2, T, st2, f2, q⟩ := h2
  refine wpAny_newObj_type (newEnv_comp ?_)
  generalize hD : s2.heap.objs.size = D
  obtain ⟨W, ⟨m0, w0⟩, turn⟩ := q D (I2.hok.fresh (Nat.le_of_eq hD))
  generalize hs3 : (⟨s2.heap.push { cls := .type "dict", data := .dict #[] }, s2.gens, s2.drawn, s2.toks, s2.os⟩ : Shared) = s3
  have I3 : Inv X pins σ (upd H2 D o0) s3 := by
    rw [← hs3]
    refine I2.laid (t' := s2.toks) (fun b o e => Heap.get?_push_of_some _ e) (Nat.le_of_eq hD) ?_
    rw [← hD]; exact em _ _ _ _ I2.big
  have h3 : s3.heap = s2.heap.push { cls := .type "dict", data := .dict #[] } := by rw [← hs3]
  have f3 : ∀ b ∈ fp, FpOk X pins (upd H2 D o0) b ∧ b < s3.heap.objs.size := fun b hb => by
    obtain ⟨o, e, _⟩ := T.obj _ _ st2 b hb
    have hlt := Heap.lt_size e
    refine ⟨⟨?_, (f2 b hb).2⟩, by rw [h3, Heap.size_push]; exact Nat.lt_succ_of_lt hlt⟩
    rw [upd_ne (by rw [← hD]; exact Nat.ne_of_lt hlt)]; exact (f2 b hb).1
  have st3 : tn 0 s3.heap := T.keep _ _ _ st2 fun b _ o e => by rw [h3]; exact Heap.get?_push_of_some _ e
  have I4 := block_start I3 ok hN f3
  have pg := hg s3 (upd H2 D o0) s3.heap.objs.size (cellsFrom (s3.heap.objs.size + 1) scope.names (cloFrom X.env.cells scope.names [])) fp
  have pt := ht s3 (upd H2 D o0) s3.heap.objs.size (cellsFrom (s3.heap.objs.size + 1) scope.names (cloFrom X.env.cells scope.names [])) fp
  have pk := hk s3 (upd H2 D o0) s3.heap.objs.size (cellsFrom (s3.heap.objs.size + 1) scope.names (cloFrom X.env.cells scope.names [])) fp
  have pe := he s3 (upd H2 D o0) s3.heap.objs.size (cellsFrom (s3.heap.objs.size + 1) scope.names (cloFrom X.env.cells scope.names [])) fp
  refine (?_ : codeAny _ _ (.compStart (.DictComp kx vx [⟨tg, iter, ifs, 0⟩] scope pos) 0 (.ref it) (.ref D) (inCell X s3 scope)) (compPost (model X.prog X.w) X.A X.xe use Qf (.ref D) s3.heap.objs.size) { s3 with heap := pushCells (s3.heap.push { cls := .type "dict", data := .dict #[] }) scope.names })
  have nfp : ∀ b ∈ fp, (upd H2 D o0) b = none := fun b hb => (f3 b hb).1.1
  obtain ⟨ce, hce⟩ : ∃ ce, inCell X s3 scope = ce := ⟨_, rfl⟩
  have cL : ce.locals = s3.heap.objs.size := by rw [← hce]; rfl
  rw [show compEnvC scope (cellsFrom (s3.heap.objs.size + 1) scope.names (cloFrom X.env.cells scope.names [])) s3.heap.objs.size X.env = ce from hce] at I4 pg pt pk pe
  rw [hce]
  generalize upd H2 D o0 = H3 at I3 I4 pg pt pk pe w0 nfp f3
  obtain ⟨s4, hs4⟩ : ∃ s4 : Shared, { s3 with heap := pushCells (s3.heap.push { cls := .type "dict", data := .dict #[] }) scope.names } = s4 := ⟨_, rfl⟩
  rw [hs4] at I4 ⊢
  have st4 : tn 0 s4.heap := T.keep _ _ _ st3 fun b _ o e => by
    rw [← hs4]; exact pushCells_keeps _ _ _ _ (Heap.get?_push_of_some _ e)
  let Y := X.blk s3 H3 scope ce fp
  have stat : ∀ {σ' : L2.St} {H' : Hp} {s' : Shared}, Inv Y [] σ' H' s' → (∀ b ∈ fp, H' b = none) → ∀ b ∈ fp, FpOk Y [] H' b := fun {σ' H' s'} I' hn b hb =>
    ⟨hn b hb, (I'.ok.exf b hb).1, I'.ok.exfs b hb, .inl hb, fun x c e => (I'.ok.exf b hb).2 x c e, fun p hp => absurd (show p ∈ ([] : List (Addr × Obj)) ++ [] from hp) (by simp)⟩
  let Z : Nat → Shared → Prop := fun n s' => ∃ i H', Inv Y [] (wipe σ (own.map (·.2))) H' s' ∧ tn i s'.heap ∧ (∀ b ∈ fp, H' b = none) ∧ W i n H'
  have loop : codeAny (model X.prog X.w) X.A (.compLoop (.DictComp kx vx [⟨tg, iter, ifs, 0⟩] scope pos) 0 (.ref it) (.ref D) ce) (compPost (model X.prog X.w) X.A X.xe use Qf (.ref D) s3.heap.objs.size) s4 := by
    refine compLoop_anyD Z ?_ m0 ⟨0, H3, I4, st4, nfp, w0⟩
    rintro n s5 ⟨i, H5, I5, st5, n5, w5⟩
    rcases turn i n H5 w5 with ⟨stop, qq⟩ | ⟨go, Nx, hNx, step⟩
    · refine thnF (T.done Y rfl rfl rfl hc i [] s5 _ H5 (fun _ _ => False) I5 (stat I5 n5) st5 stop) fun r s6 ⟨hr, I6⟩ => ?_
      subst hr
      have I7 : Inv X pins σ H5 s6 := I3.call' (ch := fp) I6.os I6.base I6.hok I6.bare fun b hb => (fun (z : FpOk X pins H3 b) => ⟨z.2.2.2.1, z.2.1, z.2.2.2.2.1, z.2.2.2.2.2⟩) (f3 b hb).1
      have nC : H5 s3.heap.objs.size = none := by
        rw [← cL]; exact I6.free
      obtain ⟨m, hn, _⟩ := I6.loc
      have hn' : s6.heap.Ns s3.heap.objs.size m := by
        rw [← cL]; exact hn
      have fpo : FpOk X pins H5 s3.heap.objs.size := I3.fpOk (Nat.le_refl _) nC
      exact hRR D _ s6 m H5 I7 qq hn' fpo
    · refine thnF (T.item Y rfl rfl rfl hc i [] s5 _ H5 (fun _ _ => False) I5 (stat I5 n5) st5 go) fun r s6 ⟨u, hr, h6⟩ => ?_
      subst hr
      refine thnF h6 fun _ s7 ⟨x, H7, I7, r7, y7, st7, n7⟩ => ?_
      refine thnF (pg.run _ s7 _ H7 x u _ (I7.pinned (stat I7 n7) (T.obj _ _ st7)) r7 (step x H7 y7)) fun _ s8 ⟨σ8, H8, I8, hw8, q8⟩ => ?_
      refine thnF (pt.run _ s8 σ8 H8 _ I8 q8) fun b s9 ⟨H9, I9, q9⟩ => ?_
      have fin : ∀ {s' : Shared} {H' : Hp}, Inv Y ([] ++ pinsAt fp s7.heap) σ8 H' s' → Nx H' → ∃ m, m < n ∧ Z m s' := fun {s' H'} I' nx => by
        obtain ⟨m', hm, w'⟩ := hNx H' nx
        have pin' : ∀ b ∈ fp, ∀ o, s7.heap.get? b = some o → s'.heap.get? b = some o ∧ H' b = none := fun b hb o e =>
          (fun z => ⟨z.1, z.2.1⟩) (I'.pin (b, o) (List.mem_append_right _ (List.mem_append_right _ (mem_pinsAt hb e))))
        have hl : (wipe σ (own.map (·.2))).length = σ8.length := by rw [← hw8, wipe_length]
        refine ⟨m', hm, i + 1, H', (I'.unpinned (pins := [])).weak hl (fun j v e => by rw [← hw8] at e; exact (wipe_some e).1), T.keep _ _ _ st7 fun b hb o e => (pin' b hb o e).1, fun b hb => ?_, w'⟩
        obtain ⟨o, e, _⟩ := T.obj _ _ st7 b hb
        exact (pin' b hb o e).2
      cases b with
      | false => exact fin I9 q9
      | true =>
        refine thnF (pk.run _ s9 σ8 H9 _ I9 q9) fun z s10 ⟨yk, H10, I10, r10, q10⟩ => ?_
        refine thnF (pe.run _ s10 σ8 H10 _ I10 q10) fun z2 s11 ⟨yv, H11, I11, r11, H12, pu, nx⟩ => ?_
        exact d_dictPut (X := Y) hu I11 pu r10 r11 fun s12 I12 => fin I12 nx
  exact codeAny_compStart_dict loop (T.self X.A 0 _ _ _ st4 loop)
theorem ps_setDcP {o0 : HO} {i : Nat} {y : Str} {py : Pos} {kx vx tg iter : Expr} {ifs : List Expr} {scope : Scope} {own : List (Str × Nat)} {pos spos : Pos} {wi : TI} {g : TG} {tt : TT} {tk tv : TE} (em : Empt o0) (hu : X.A.units + 1 < cLine) (hc : X.calm = true) (hN : X.N.Nodup) (hy : X.N[i]? = some y) (hyl : X.env.scope.names.lookup y = some .local)
    (hsw : swapsWith (.DictComp kx vx [⟨tg, iter, ifs, 0⟩] scope pos) (some (.Name y py)) spos.line X.env = pure true) (hi : PI X tg iter wi) (ok : BlkOk X.N X.env.scope scope own)
    (hg : ∀ (s : Shared) (H : Hp) (C : Addr) (cl : List (Str × Addr)) (fp : List Addr), PG (X.blk s H scope (compEnvC scope cl C X.env) fp) tg g)
    (ht : ∀ (s : Shared) (H : Hp) (C : Addr) (cl : List (Str × Addr)) (fp : List Addr), PTs (X.blk s H scope (compEnvC scope cl C X.env) fp) ifs tt)
    (hk : ∀ (s : Shared) (H : Hp) (C : Addr) (cl : List (Str × Addr)) (fp : List Addr), PE (X.blk s H scope (compEnvC scope cl C X.env) fp) kx tk)
    (he : ∀ (s : Shared) (H : Hp) (C : Addr) (cl : List (Str × Addr)) (fp : List Addr), PE (X.blk s H scope (compEnvC scope cl C X.env) fp) vx tv) (hs : ∀ x, foldedSetIterable iter X.env x = pure x := by intro _; rfl) :
    PS X (.Assign [.Name y py] (.DictComp kx vx [⟨tg, iter, ifs, 0⟩] scope pos) spos) (tAsg (tDcP o0 wi g tt tk tv (own.map (·.2))) (gName i)) := by
  refine ⟨fun pins s σ H D I h => ?_⟩
  rw [exec_Assign_Name_used _ _ _ _ hsw]
  have h' : tDcP o0 wi g tt tk tv (own.map (·.2)) σ H (fun x H1 => gName i x σ H1 D.nx) := h
  refine wpAny_bind (wpAny_standAt (wpAny_bind (?_ : wpAny _ X.A (do let _ ← comprehension (.DictComp kx vx [⟨tg, iter, ifs, 0⟩] scope pos) scope X.env (firstIterPos [⟨tg, iter, ifs, 0⟩] pos) (newObj (.type "dict") (.dict #[])) false (eval iter X.env) (some (assign (.Name y py) X.env))) _ _ s)))
  refine wpAny_bind (wpAny_mono (dc_coreP (Qf := fun _ s' => SP X pins D .next s') em hu hc hN I hi ok hg ht hk he hs h' fun L C s' m H' I' q hn f => ?_) (fun _ s' hq => wpAny_pure (wpAny_pure hq)) fun _ _ z => z)
  refine (?_ : wpAny _ _ (assign (.Name y py) X.env (.ref L)) _ _ _)
  refine wpAny_assign_Name (store_ok2 (v := V.ref L) I' hN hy (.inl hyl) rfl (fun s2 I2 ⟨a, sb, ha⟩ => ?_) (.inr hyl))
  obtain ⟨f0, f1, f2, f3, f4, f5⟩ := f
  have haC : C ≠ a := by
    rcases ha with z | z
    · rw [z]; exact f1
    · exact fun e => f4 y a z e.symm
  exact ⟨m, hn.sameBut sb haC, fun h3 sb3 => ⟨_, H', I2.turned (t' := s2.toks) (fun b o hb e => (sb3.2 b hb).trans e) f0 f1 f3 f4 f5, q⟩⟩
theorem sw_trueD {kx vx : Expr} {gs : List Comprehension} {scope : Scope} {pos py : Pos} {y : Str} {l : Nat} {env : Env} (hk : env.scope.kind = .function) (hy : env.scope.names.lookup y = some .local) (hl : (py.line == pos.line) = true)
    (ha : (scope.names.any fun (n, k) => n == y && (k == .local || k == .cell)) = false) : swapsWith (.DictComp kx vx gs scope pos) (some (.Name y py)) l env = pure true := by
  have ky : env.kindOf y = some .local := hy
  have hb : env.blockKind = .function := by unfold Env.blockKind; rw [hk]; rfl
  unfold swapsWith
  simp only [hb, ky, ha, Expr.pos, hl]; rfl
end
end My

set_option Elab.async false
set_option linter.all false
set_option maxRecDepth 100000
namespace My
open PySem PySem.Spec PyProof.Rows L2 GxR

/-! ### dicts with tuple keys: update, dict(pairs) -/
def mergeT (kvs more : List (List Key × V)) : List (List Key × V) := more.foldl (fun acc kv => putK acc kv.1 kv.2) kvs
theorem kt_merge {H : Hp} : ∀ {more : List (List Key × V)} {ys : List (List Key × Addr × Value)} {kvs : List (List Key × V)} {xs : List (List Key × Addr × Value)}, KT H more ys → KT H kvs xs → KT H (mergeT kvs more) (storedAllH xs ys)
  | _, _, _, _, .nil, q => q
  | _, _, kvs, xs, .cons (a := p) (b := q) (l₁ := l) (l₂ := m) h t, r => by
    obtain ⟨h1, h2, h3⟩ := h
    have z := KT.put r p.1 (b := q.2.1) h2 h3
    rw [show storedH xs p.1 q.2.1 q.2.2 = storedH xs q.1 q.2.1 q.2.2 from by rw [h1]] at z
    have w : KT H (mergeT (putK kvs p.1 p.2) l) (storedAllH (storedH xs q.1 q.2.1 q.2.2) m) := kt_merge t z
    exact w
theorem len_mergeT : ∀ (more kvs : List (List Key × V)), (mergeT kvs more).length ≤ kvs.length + more.length
  | [], _ => Nat.le_refl _
  | p :: m, kvs => by
    have h1 := len_mergeT m (putK kvs p.1 p.2)
    have h2 := length_putK kvs p.1 p.2
    rw [List.length_cons]
    show (mergeT (putK kvs p.1 p.2) m).length ≤ _
    omega
theorem valV_mergeT (j : List Key) : ∀ (more kvs : List (List Key × V)), (valV (mergeT kvs more) j).isSome = ((valV kvs j).isSome || (valV more j).isSome)
  | [], kvs => by rw [show valV ([] : List (List Key × V)) j = none from rfl]; exact (Bool.or_false _).symm
  | p :: m, kvs => by
    show (valV (mergeT (putK kvs p.1 p.2) m) j).isSome = _
    rw [valV_mergeT j m, valV_put]
    by_cases h : j = p.1
    · rw [if_pos h, valV_pos h.symm]; simp
    · rw [if_neg h, valV_neg (fun z => h z.symm)]
/-- the keys' hashes differ -/
def Apart (w : World) (more : List (List Key × V)) : Prop := (more.map fun kv => reduceHash (Builtin.Tuple.tupleHashOf (kv.1.map (keyH w)))).Nodup
theorem kt_hash {P : Program} {w : World} {H : Hp} : ∀ {more : List (List Key × V)} {ys : List (List Key × Addr × Value)}, KT H more ys → (ys.map fun x => (tupleKind (mixKind P w)).hash x.1) = more.map fun kv => reduceHash (Builtin.Tuple.tupleHashOf (kv.1.map (keyH w)))
  | _, _, .nil => rfl
  | _, _, .cons (a := p) (b := q) h t => by
    rw [List.map_cons, List.map_cons, kt_hash t]
    have e : q.1 = p.1 := h.1.symm
    rw [e]; rfl
section
variable {X : Cx}
def rUpdT (w : World) : V → List V → Hp → VK → Prop := fun x xs H Q => ∃ a b kvs ms, x = .ref a ∧ xs = [.ref b] ∧ H a = some (.dT kvs) ∧ H b = some (.dT ms) ∧ a ≠ b ∧ kvs.length + ms.length ≤ sizeLine ∧ (kvs ≠ [] ∨ Apart w ms) ∧ Q .non (upd H a (.dT (mergeT kvs ms)))
theorem mt_updT (hu : X.A.units + 65 < cLine) : MtR X "dict.update" (rUpdT X.w) := by
  intro pins s σ H x xs v us Q I rx rs h
  obtain ⟨a, b, kvs, ms, rfl, rfl, ea, eb, hab, hz, hap, q⟩ := h
  cases rx
  obtain ⟨u, rfl, ru⟩ := vals1 rs
  cases ru
  obtain ⟨za, ha, xa, ra, da⟩ := dt_of I.hok ea
  obtain ⟨zb, hb, xb, rb, db⟩ := dt_of I.hok eb
  have la : xa.length = kvs.length := (Paired.length ra).symm
  have lb : xb.length = ms.length := (Paired.length rb).symm
  have hl : (mergeT kvs ms).length ≤ sizeLine := Nat.le_trans (len_mergeT ms kvs) hz
  refine call_update_dictH (tupleKind_room_in1 (by omega : X.A.units + 1 < cLine)) hab hb da db ?_ (by omega) fun h' dd' _ hs => ?_
  · rcases hap with hap | hap
    · refine .inl fun z => hap ?_
      rw [z] at la
      exact List.eq_nil_of_length_eq_zero la.symm
    · refine .inr ⟨fun y hy => ?_, by rw [kt_hash rb]; exact hap⟩
      obtain ⟨o, es, ep, _, _, _, _, his, _⟩ := db
      obtain ⟨o', items, n, e1, e2, _⟩ := his y hy
      exact ⟨o', e1, e2⟩
  · obtain ⟨q', es, ep, hq, h2, h3, h4, _, h5⟩ := dd'
    refine ⟨.non, upd H a (.dT (mergeT kvs ms)), d_write (t' := s.toks) I (by rw [ea]; exact True.intro) hs ⟨q', hq⟩ ⟨hl, ha, _, (kt_merge rb ra).keeps fun c ys ec => ?_, q', es, ep, hq, h2, h3, h4, h5⟩, rfl, q⟩
    rw [upd_ne (ne_of ec ea (fun z => nomatch z))]; exact ec

/-- dict(xs) of a list of pairs (tuple, value) -/
def rDictPT (K : PySem.W.Frag) : List V → Hp → VK → Prop := fun xs H Q => ∃ (a : Addr) (ps : List Addr) (kvs : List (List Key × V)), xs = [.ref a] ∧ SqL K H a (ps.map V.ref) ∧ Paired (fun p kv => ∃ b, H p = some (.tup [.ref b, kv.2]) ∧ H b = some (.tup (kv.1.map kV))) ps kvs ∧
  ∀ p, H p = none → Q (.ref p) (upd H p (.dT (mergeT [] kvs)))
theorem pairsT_of {pins : List (Addr × Obj)} {σ : L2.St} {H : Hp} {s : Shared} (I : Inv X pins σ H s) : ∀ {ps : List Addr} {kvs : List (List Key × V)}, Paired (fun p kv => ∃ b, H p = some (.tup [.ref b, kv.2]) ∧ H b = some (.tup (kv.1.map kV))) ps kvs →
    ∃ prs : List (List Key × Addr × Value), KT H kvs prs ∧ prs.length = ps.length ∧ ∀ (j : Nat) (q : List Key × Addr × Value), prs[j]? = some q → ∃ p, ps[j]? = some p ∧ IsTup s.heap p #[.ref q.2.1, q.2.2]
  | _, _, .nil => ⟨[], .nil, rfl, fun j q e => by simp at e⟩
  | _, _, .cons (a := p) (b := kv) h t => by
    obtain ⟨prs, r, hl, hp⟩ := pairsT_of I t
    obtain ⟨b, h1, h2⟩ := h
    obtain ⟨its, rv, ht, _⟩ := I.tuple (SqT.of (K := X.K) h1)
    obtain ⟨u, y, rfl, ru, ry⟩ := vals2 rv
    cases ru
    refine ⟨(kv.1, b, y) :: prs, .cons ⟨rfl, h2, ry⟩ r, by rw [List.length_cons, List.length_cons, hl], fun j q e => ?_⟩
    cases j with
    | zero =>
      have e' : (kv.1, b, y) = q := Option.some.inj e
      subst e'
      exact ⟨p, rfl, ht⟩
    | succ j =>
      obtain ⟨b', e1, e2⟩ := hp j q (by simpa using e)
      exact ⟨b', by simpa using e1, e2⟩
theorem call_dictPT (hcalm : X.calm = true) (hu : X.A.units + 65 < cLine) : CallR X (.type "dict") (rDictPT X.K) := by
  intro pins s σ H xs us Q I r q
  obtain ⟨a, ps, kvs, rfl, hq, hp, q⟩ := q
  obtain ⟨u, rfl, rx⟩ := vals1 r
  cases rx
  obtain ⟨its, rv, pl, hz⟩ := I.list hq
  have ei := refs_at rv
  subst ei
  rw [List.length_map] at hz
  obtain ⟨prs, rel, hl, hpr⟩ := pairsT_of I hp
  have keyed : ∀ x ∈ prs, (tupleKind (mixKind X.prog X.w)).is s.heap x.1 x.2.1 := by
    intro x hx
    have all : ∀ {l : List (List Key × V)} {m : List (List Key × Addr × Value)}, KT H l m → ∀ x ∈ m, H x.2.1 = some (.tup (x.1.map kV)) := by
      intro l m q
      induction q with
      | nil => intro x hx; exact nomatch hx
      | @cons p q ps qs hq t ih =>
        intro x hx
        rcases List.mem_cons.mp hx with e | hx
        · subst e
          rw [← hq.1]; exact hq.2.1
        · exact ih x hx
    exact L2.key_of I.hok (all rel x hx)
  refine call_dict_pairsH (knd := tupleKind (mixKind X.prog X.w)) (ps := prs) (PairArg.list a (ps.map Value.ref).toArray (fun j => ps.getD j 0) (prs.map fun x => (Value.ref x.2.1, x.2.2))) (I.ok.hd hcalm) (show X.A.units + 1 + 1 < cLine by omega) ⟨pl, ?_, fun j k v e => ?_⟩ ⟨by rw [List.length_map], fun i key v e => ?_⟩ (fun h' hk x hx => ?_) (by rw [List.length_map, hl]; exact hz) fun h' tk dd' hk => ?_
  · rw [List.size_toArray, List.length_map, List.length_map, hl]
  · rw [List.getElem?_map] at e
    obtain ⟨q0, e0, e1⟩ := Option.map_eq_some_iff.mp e
    cases e1
    obtain ⟨p, ep, ht⟩ := hpr j q0 e0
    have ed : ps.getD j 0 = p := by rw [List.getD_eq_getElem?_getD, ep]; rfl
    refine ⟨?_, .inl ?_⟩
    · show _ = some (Value.ref (ps.getD j 0))
      rw [ed, List.getElem?_toArray, List.getElem?_map, ep]; rfl
    · show s.heap.IsTuple (ps.getD j 0) _
      rw [ed]; obtain ⟨o, h1, h2, n, h3⟩ := ht; exact ⟨o, h1, h2, n, h3⟩
  · rw [show PairRel (prs.map fun x => (Value.ref x.2.1, x.2.2)) i key v = ((prs.map fun x => (Value.ref x.2.1, x.2.2))[i]? = some (key, v)) from rfl, List.getElem?_map] at e
    obtain ⟨q0, e0, e1⟩ := Option.map_eq_some_iff.mp e
    cases e1
    exact ⟨q0.1, q0.2.1, e0, rfl⟩
  · obtain ⟨o, items, n, e1, e2, e3, e4⟩ := keyed x hx
    exact ⟨o, items, n, hk _ _ (Nat.ne_of_lt (Heap.lt_size e1)) (fun z => nomatch z) e1, e2, e3, e4⟩
  · have hm : (s.heap.objs.size == sysModules) = false := beq_eq_false_iff_ne.mpr (Nat.ne_of_gt I.big)
    have hlen : (mergeT [] kvs).length ≤ sizeLine := by
      refine Nat.le_trans (len_mergeT kvs []) ?_
      rw [List.length_nil, Nat.zero_add, Paired.length rel, hl]
      exact hz
    obtain ⟨q', es, ep, hq', h2, h3, h4, _, h5⟩ := dd'
    refine ⟨.ref s.heap.objs.size, upd H s.heap.objs.size (.dT (mergeT [] kvs)), I.laid (t' := tk) (fun b o e => hk b o (fun z => nomatch z) e) (Nat.le_refl _) ⟨hlen, hm, _, (kt_merge rel .nil).keeps fun c ys ec => ?_, q', es, ep, hq', h2, h3, h4, h5⟩, rfl, q _ (I.hok.fresh (Nat.le_refl _))⟩
    rw [upd_ne (ne_of_none ec (I.hok.fresh (Nat.le_refl _)))]; exact ec

/-! ### a pair the other way about -/
theorem cut2 {s : Shared} {A : Around} {E : Value → Shared → Prop} {sl : Addr} {vs : Value} {Q : Int × Int × Nat → Shared → Prop} (hs : s.heap.IsSliceOf sl .none .none vs) (ps : IsPart vs (some (-1))) (h : Q (1, -1, 2) s) :
    wpAny (model X.prog X.w) A (Builtin.Slice.sliceApplied (.ref sl) (pure (2 : Int))) Q E s := by
  obtain ⟨os, hos, hcs, hds⟩ := id hs
  unfold Builtin.Slice.sliceApplied Builtin.Slice.sliceFields
  refine wpAny_bind (wpAny_bind (wpAny_field hos hds (x := .none) rfl (wpAny_bind (wpAny_field hos hds (x := .none) rfl (wpAny_bind (wpAny_field hos hds (x := vs) rfl (wpAny_pure ?_)))))))
  refine wpAny_bind (HT.slicePart_ ps ?_)
  show wpAny _ _ (if ((-1 : Int) == 0) = true then _ else _) _ _ s
  rw [if_neg (by decide)]
  refine wpAny_bind (HT.slicePart_ .none (wpAny_bind (HT.slicePart_ .none (wpAny_bind (wpAny_pure ?_)))))
  exact wpAny_pure h
theorem pick2 (x y : Value) : ((List.range 2).filterMap fun (m : Nat) => (#[x, y] : Array Value)[((1 : Int) + (m : Int) * -1).toNat]?).toArray = #[y, x] := rfl
theorem rev2 {s : Shared} {A : Around} {E : Value → Shared → Prop} {t sl : Addr} {x y vs : Value} {Q : Value → Shared → Prop} (ht : IsTup s.heap t #[x, y]) (hs : s.heap.IsSliceOf sl .none .none vs) (ps : IsPart vs (some (-1)))
    (h : Q (.ref s.heap.objs.size) { s with heap := s.heap.push { cls := .type "tuple", data := .seq #[y, x] } }) : wpAny (model X.prog X.w) A (getItem (.ref t) (.ref sl)) Q E s := by
  obtain ⟨os, hos, hcs, hds⟩ := id hs
  have hTs : s.TypeIs (.ref sl) "slice" := ⟨os, hos, hcs⟩
  have hz : sizeOk (.seq #[y, x]) := by show 2 ≤ sizeLine; decide
  unfold getItem
  try with_reducible refine wpAny_holding ?_
  first | refine wpAny_bind (wpAny_pure ?_) | skip
  refine wpAny_bind (wpAny_sequenceKey ht.typeIs (by decide) ?_)
  refine wpAny_bind (wpAny_callSpecial?_slot (name := Str.ofString "__getitem__") ht.typeIs PyProof.Rows.slot_tuple_getitem (wpAny_call_entry PyProof.Rows.slot_tuple_getitem ht.typeIs entry_tuple_getitem ?_ (args_tuple_getitem _ _)))
  show wpAny _ _ (Builtin.Tuple.tupleItemsOf (.ref t) >>= _) _ _ s
  refine wpAny_bind (tupleItemsOf_ ht (wpAny_bind (wpAny_typeOf hTs ?_)))
  rw [if_pos (by decide)]
  refine wpAny_bind (cut2 hs ps ?_)
  show wpAny _ _ (if ((1 : Int) == 0 && (-1 : Int) == 1 && (2 : Nat) == 2) = true then _ else _) _ _ s
  rw [if_neg (by decide), pick2]
  first
    | exact wpAny_bind (m := Builtin.Tuple.tupleExact _) (wpAny_newObj_type (wpAny_pure ⟨_, rfl, wpAny_pure h⟩) hz)
    | exact wpAny_bind (m := Builtin.Tuple.tupleExact _) (wpAny_newObj_type (wpAny_bind (wpAny_pure (wpAny_pure ⟨_, rfl, wpAny_pure h⟩))) hz)
    | exact wpAny_bind (wpAny_bind (m := Builtin.Tuple.tupleExact _) (wpAny_newObj_type (wpAny_pure (wpAny_pure ⟨_, rfl, wpAny_pure h⟩)) hz))
    | exact wpAny_bind (wpAny_bind (m := Builtin.Tuple.tupleExact _) (wpAny_newObj_type (wpAny_pure ⟨_, rfl, wpAny_pure h⟩) hz))
def tRev2 (te : TE) : TE := fun σ H Q => te σ H fun x H1 => ∃ a u v, x = .ref a ∧ H1 a = some (.tup [u, v]) ∧ ∀ p, H1 p = none → Q (.ref p) (upd H1 p (.tup [v, u]))
theorem pe_rev2 {e : Expr} {te : TE} {k : Nat} {p1 p2 p3 pos : Pos} (he : PE X e te) : PE X (.Subscript e (.Slice none none (some (.UnaryOp .USub (.Constant (.int 1) k p1) p2)) p3) pos) (tRev2 te) := by
  refine ⟨fun pins s σ H Q I h => Subscript_ (thn (he.run pins s σ H _ I h) fun v s1 ⟨x, H1, I1, r1, a, x0, x1, ex, hx, q⟩ => ?_)⟩
  subst ex; cases r1
  have hst : PO X (some (.UnaryOp .USub (.Constant (.int 1) k p1) p2)) (tPart (tUn (rU fun i => .int (-i)) (tC (.int 1)))) := po_some (pe_un un_neg pe_int)
  refine wpAny_Slice (thn (po_none.run pins s1 σ H1 (fun o H2 => o = none ∧ H2 = H1) I1 ⟨rfl, rfl⟩) fun vl s2 ⟨l, H2, I2, pl, el, e2⟩ => ?_); subst el e2
  refine thn (po_none.run pins s2 σ H2 (fun o H3 => o = none ∧ H3 = H2) I2 ⟨rfl, rfl⟩) fun vu s3 ⟨u, H3, I3, pu, eu, e3⟩ => ?_; subst eu e3
  refine thn (hst.run pins s3 σ H3 (fun o H4 => o = some (-1) ∧ H4 = H3) I3 ⟨1, rfl, -1, rfl, rfl, rfl⟩) fun vs s4 ⟨o, H4, I4, ps, eo, e4⟩ => ?_; subst eo e4
  cases pl; cases pu
  generalize hs5 : ({ s4 with heap := s4.heap.push { cls := .type "slice", data := .fields #[.none, .none, vs] } } : Shared) = s5
  have I5 : Inv X pins σ H4 s5 := by
    rw [← hs5]
    exact I4.kept (t' := s4.toks) fun b ob q => Heap.get?_push_of_some _ q
  obtain ⟨its, r, ht, hz⟩ := I5.tuple (SqT.of (K := X.K) hx)
  obtain ⟨u0, u1, rfl, r0, r1⟩ := vals2 r
  have hsl : s5.heap.IsSliceOf s4.heap.objs.size .none .none vs := by rw [← hs5]; exact Heap.IsSliceOf.new _ _ _ _
  refine (?_ : wpAny (model X.prog X.w) X.A (subscriptTail e (.Slice none none (some (.UnaryOp .USub (.Constant (.int 1) k p1) p2)) p3) (.ref a) (.ref s4.heap.objs.size)) (EP X pins σ Q) X.xe s5)
  refine tail_any (ops := [.ref a, .ref s4.heap.objs.size]) ht.typeIs (PyProof.Rows.slot_tuple_getitem.lookup) ?_ (by with_unfolding_all rfl)
  refine rev2 ht hsl ps ⟨.ref _, _, I5.laid (t' := s5.toks) (o := .tup [x1, x0]) (fun b ob q => Heap.get?_push_of_some _ q) (Nat.le_refl _) ?_, rfl, q _ (I5.hok.fresh (Nat.le_refl _))⟩
  exact ⟨by show 2 ≤ sizeLine; decide, [u1, u0], .cons r1 (.cons r0 .nil), IsTup.new _ _⟩

/-! ### {k: v} -/
def tDisp1 (o0 : HO) (tk tv : TE) : TE := fun σ H Q => ∀ p, H p = none → tk σ (upd H p o0) fun x H1 => tv σ H1 fun y H2 => ∃ H3, DPut H2 p x y H3 ∧ Q (.ref p) H3
theorem pe_disp1 {o0 : HO} {k v : Expr} {tk tv : TE} {pos : Pos} (em : Empt o0) (hu : X.A.units + 1 < cLine) (hk : PE X k tk) (hv : PE X v tv) : PE X (.Dict [some k] [v] pos) (tDisp1 o0 tk tv) := by
  refine ⟨fun pins s σ H Q I q => ?_⟩
  have hn := I.hok.fresh (Nat.le_refl s.heap.objs.size)
  have I1 := I.laid (a := s.heap.objs.size) (o := o0) (h' := s.heap.push { cls := .type "dict", data := .dict #[] }) (t' := s.toks) (fun _ _ q => Heap.get?_push_of_some _ q) (Nat.le_refl _) (em _ _ _ _ I.big)
  refine wpAny_Dict_any rfl rfl (by exact fun z => nomatch z) (by show 1 ≤ 15; decide) ?_
  refine pairTrees_cons_walk (thn (hk.run pins _ σ _ _ I1 (q _ hn)) fun u s1 ⟨x, H1, J1, rx, q1⟩ => thn (hv.run pins s1 σ H1 _ J1 q1) fun w2 s2 ⟨y, H2, J2, ry, H3, pu, q2⟩ => ?_)
  refine pairTrees_nil_walk ?_
  unfold storeAll
  rw [List.forIn_cons]
  refine wpAny_bind (wpAny_bind (d_dictPut hu J2 pu rx ry fun s3 J3 => wpAny_pure ?_))
  show wpAny _ _ (forIn [] PUnit.unit _) _ _ s3
  rw [List.forIn_nil]
  exact wpAny_pure ⟨.ref s.heap.objs.size, H3, J3, rfl, q2⟩
end
/-! ### hashes of pairs of places -/
def hv (a b : Nat) : Int := reduceHash (Builtin.Tuple.tupleHashOf [hashInt (a : Int), hashInt (b : Int)])
theorem hv_nd : ((List.range 144).map fun k => hv (k / 12) (k % 12)).Nodup := by decide +kernel
def pk (t : Int × Int) : List Key := [Sum.inl t.1, Sum.inl t.2]
theorem pk_inj {s t : Int × Int} (h : pk s = pk t) : s = t := by
  cases s; cases t; cases h; rfl
theorem hv_inj {a b c d : Nat} (ha : a < 12) (hb : b < 12) (hc : c < 12) (hd : d < 12) (h : hv a b = hv c d) : a = c ∧ b = d := by
  have pw := List.pairwise_iff_getElem.mp (List.nodup_iff_pairwise_ne.mp hv_nd)
  have l : ((List.range 144).map fun k => hv (k / 12) (k % 12)).length = 144 := by rw [List.length_map, List.length_range]
  have g : ∀ k (hk : k < ((List.range 144).map fun k => hv (k / 12) (k % 12)).length), ((List.range 144).map fun k => hv (k / 12) (k % 12))[k] = hv (k / 12) (k % 12) := fun k hk => by
    rw [List.getElem_map, List.getElem_range]
  have e1 : (12 * a + b) / 12 = a := by omega
  have e2 : (12 * a + b) % 12 = b := by omega
  have e3 : (12 * c + d) / 12 = c := by omega
  have e4 : (12 * c + d) % 12 = d := by omega
  have hi : 12 * a + b < ((List.range 144).map fun k => hv (k / 12) (k % 12)).length := by omega
  have hj : 12 * c + d < ((List.range 144).map fun k => hv (k / 12) (k % 12)).length := by omega
  rcases Nat.lt_trichotomy (12 * a + b) (12 * c + d) with z | z | z
  · have := pw _ _ hi hj z
    rw [g, g, e1, e2, e3, e4] at this
    exact absurd h this
  · omega
  · have := pw _ _ hj hi z
    rw [g, g, e1, e2, e3, e4] at this
    exact absurd h.symm this
/-- keys that are pairs of places below twelve -/
theorem apart_pk {w : World} {ms : List (List Key × V)} {cs : List (Int × Int)} (hk : ms.map (·.1) = cs.map pk) (nd : cs.Nodup) (hr : ∀ t ∈ cs, 0 ≤ t.1 ∧ t.1 < 12 ∧ 0 ≤ t.2 ∧ t.2 < 12) : Apart w ms := by
  unfold Apart
  have e : (ms.map fun kv => reduceHash (Builtin.Tuple.tupleHashOf (kv.1.map (keyH w)))) = cs.map fun t => reduceHash (Builtin.Tuple.tupleHashOf ((pk t).map (keyH w))) := by
    have := congrArg (List.map fun k => reduceHash (Builtin.Tuple.tupleHashOf (k.map (keyH w)))) hk
    rw [List.map_map, List.map_map] at this
    exact this
  rw [e, List.nodup_iff_pairwise_ne, List.pairwise_map]
  refine (List.nodup_iff_pairwise_ne.mp nd).imp_of_mem fun {s t} hs ht ne h => ne ?_
  have bs := hr s hs
  have bt := hr t ht
  have hh : ∀ t : Int × Int, 0 ≤ t.1 → 0 ≤ t.2 → reduceHash (Builtin.Tuple.tupleHashOf ((pk t).map (keyH w))) = hv t.1.toNat t.2.toNat := fun t h1 h2 => by
    unfold hv
    rw [Int.toNat_of_nonneg h1, Int.toNat_of_nonneg h2]; rfl
  rw [hh s bs.1 bs.2.2.1, hh t bt.1 bt.2.2.1] at h
  obtain ⟨h1, h2⟩ := hv_inj (by omega) (by omega) (by omega) (by omega) h
  exact Prod.ext (by omega) (by omega)
end My

set_option Elab.async false
set_option linter.all false
set_option maxRecDepth 100000
namespace My
open PySem PySem.Spec PyProof.Rows L2 GxR

/-! ### in, of tuples -/
def rInDT (K : PySem.W.Frag) : R2 := fun x y H Q => ∃ d ds, Dp K H x d ∧ Dp K H y (.tuple ds) ∧ SeqAt.shaped d = true ∧ SeqAt.shaped (.tuple ds) = true ∧ Q (.bl (ds.any fun z => PyData.eqv z d)) H
theorem op_inDT {X : Cx} (hu : X.A.units + 65 < cLine) : OpR X (compareOp .In) (rInDT X.K) := fun pins s σ H x y v u Q I rx ry ⟨d, ds, hd, he, sd, se, q⟩ => by
  obtain ⟨as, r1⟩ := Dp.reads I d x v hd rx
  obtain ⟨bs, r2⟩ := Dp.reads I (.tuple ds) y u he ry
  exact SeqAt.in_tuple_reads r2 r1 (SeqAt.canLay_of_shaped se) (SeqAt.canLay_of_shaped sd) (room_in_shaped sd hu) ⟨.bl _, H, I, rfl, q⟩
theorem shaped_tup (ts : List (Int × Int)) : SeqAt.shaped (.tuple (ts.map dT)) = true := by
  unfold SeqAt.shaped
  rw [Bool.and_eq_true, decide_eq_true_eq]
  refine ⟨can_ties ts, ?_⟩
  show PyData.depthAll _ + 1 ≤ 64
  have := dep_ties ts
  omega
theorem any_dT (ts : List (Int × Int)) (t : Int × Int) : ((ts.map dT).any fun z => PyData.eqv z (dT t)) = decide (t ∈ ts) := by
  induction ts with
  | nil => rfl
  | cons a l ih =>
    rw [List.map_cons, List.any_cons, ih, eqv_dT]
    by_cases h : a = t
    · subst h; simp
    · have h' : ¬ t = a := fun e => h e.symm
      simp [h, h']

/-! ### ties of two places, gaps -/
def tieO (a b : Int) : Int × Int := if a < b then (a, b) else (b, a)
theorem tieO_tied {n : Nat} {ts : List (Int × Int)} (hw : WOk n ts) (a b : Int) : tieO a b ∈ ts ↔ ((a, b) ∈ ts ∨ (b, a) ∈ ts) := by
  unfold tieO
  split
  · rename_i h
    constructor
    · exact .inl
    · rintro (z | z)
      · exact z
      · have := hw.2 _ z; dsimp only at this; omega
  · rename_i h
    constructor
    · exact .inr
    · rintro (z | z)
      · have := hw.2 _ z; dsimp only at this; omega
      · exact z
def gapsF (ts : List (Int × Int)) (l : List (Int × Int)) : List (Int × Int) := l.filter fun t => !decide (t ∈ ts)
theorem gaps_app (ts l m : List (Int × Int)) : gapsF ts (l ++ m) = gapsF ts l ++ gapsF ts m := List.filter_append ..
theorem gaps_one (ts : List (Int × Int)) (t : Int × Int) : gapsF ts [t] = if t ∈ ts then [] else [t] := by
  unfold gapsF
  by_cases h : t ∈ ts <;> simp [h]
theorem gaps_sub (ts l : List (Int × Int)) : (gapsF ts l).Sublist l := List.filter_sublist
theorem gaps_len {n : Nat} {ts : List (Int × Int)} (hn : n ≤ 100) : (gapsF ts (pup n n)).length ≤ 10000 := Nat.le_trans (gaps_sub _ _).length_le (pup_len' hn (Nat.le_refl n))
theorem gaps_wok {n : Nat} (ts : List (Int × Int)) : WOk n (gapsF ts (pup n n)) := wok_sub (gaps_sub _ _)
theorem pw_ext {l m : List (Int × Int)} (hl : l.Pairwise ltT) (hm : m.Pairwise ltT) (h : ∀ t, t ∈ l ↔ t ∈ m) : l = m := by
  have nd : ∀ {k : List (Int × Int)}, k.Pairwise ltT → k.Nodup := fun hk => List.nodup_iff_pairwise_ne.mpr (hk.imp fun {s t} h e => by subst e; exact ltT_irr h)
  refine List.Perm.eq_of_pairwise (le := ltT) (fun a b _ _ h1 h2 => by rcases h1 with z | ⟨z, y⟩ <;> rcases h2 with u | ⟨u, v⟩ <;> omega) hl hm ((List.perm_ext_iff_of_nodup (nd hl) (nd hm)).mpr h)
theorem gaps_gaps {n : Nat} {ts : List (Int × Int)} (hw : WOk n ts) : gapsF (gapsF ts (pup n n)) (pup n n) = ts := by
  refine pw_ext (gaps_wok _).1 hw.1 fun t => ?_
  unfold gapsF
  rw [List.mem_filter, Bool.not_eq_true', decide_eq_false_iff_not, List.mem_filter, Bool.not_eq_true', decide_eq_false_iff_not]
  constructor
  · rintro ⟨h1, h2⟩
    exact Classical.byContradiction fun z => h2 ⟨h1, z⟩
  · intro h
    refine ⟨(mem_pup (Nat.le_refl n)).mpr ?_, fun z => z.2 h⟩
    have := hw.2 t h
    omega
def JoinD (kvs : List (List Key × V)) (ts : List (Int × Int)) : Prop := ∀ a b : Int, (valV kvs [Sum.inl a, Sum.inl b]).isSome = decide ((a, b) ∈ ts)
theorem join_put {kvs : List (List Key × V)} {ts : List (Int × Int)} (h : JoinD kvs ts) (t : Int × Int) (v : V) : JoinD (putK kvs [Sum.inl t.1, Sum.inl t.2] v) (ts ++ [t]) := fun a b => by
  rw [valV_put]
  cases t with | mk x y =>
  dsimp only
  by_cases h2 : a = x ∧ b = y
  · obtain ⟨rfl, rfl⟩ := h2
    rw [if_pos rfl]
    exact (decide_eq_true (List.mem_append_right _ (List.mem_singleton.mpr rfl))).symm
  · have n2 : ¬ ([Sum.inl a, Sum.inl b] : List Key) = [Sum.inl x, Sum.inl y] := fun e => by
      cases e; exact h2 ⟨rfl, rfl⟩
    rw [if_neg n2, h a b]
    refine decide_eq_decide.mpr ?_
    rw [List.mem_append, List.mem_singleton]
    constructor
    · exact .inl
    · rintro (z | z)
      · exact z
      · cases z; exact absurd ⟨rfl, rfl⟩ h2

end My

set_option Elab.async false
set_option linter.all false
set_option maxRecDepth 100000
namespace My
open PySem PySem.Spec PyProof.Rows L2 GxR

/-! ### forcings: what the law's own going on makes -/
abbrev Ar := Int × Int
def sw (t : Ar) : Ar := (t.2, t.1)
theorem sw_sw (t : Ar) : sw (sw t) = t := rfl
def InR (n : Nat) (t : Ar) : Prop := 0 ≤ t.1 ∧ t.1 < (n : Int) ∧ 0 ≤ t.2 ∧ t.2 < (n : Int)
def allP (n : Nat) : List Ar := (up n).flatMap fun a => (up n).map fun b => (a, b)
theorem mem_allP {n : Nat} {t : Ar} : t ∈ allP n ↔ InR n t := by
  unfold allP InR
  rw [List.mem_flatMap]
  constructor
  · rintro ⟨a, ha, h⟩
    obtain ⟨b, hb, rfl⟩ := List.mem_map.mp h
    have h1 := mem_up.mp ha
    have h2 := mem_up.mp hb
    exact ⟨h1.1, h1.2, h2.1, h2.2⟩
  · rintro ⟨h1, h2, h3, h4⟩
    exact ⟨t.1, mem_up.mpr ⟨h1, h2⟩, List.mem_map.mpr ⟨t.2, mem_up.mpr ⟨h3, h4⟩, rfl⟩⟩
theorem up_pw' (n : Nat) : (up n).Pairwise (· < ·) := by
  unfold up
  rw [List.pairwise_map]
  exact List.pairwise_lt_range.imp fun {x y} h => Int.ofNat_lt.mpr h
theorem allP_pw (n : Nat) : (allP n).Pairwise ltT := by
  unfold allP
  rw [List.pairwise_flatMap]
  refine ⟨fun a _ => ?_, (up_pw' n).imp fun {a b} h x hx y hy => ?_⟩
  · rw [List.pairwise_map]
    exact (up_pw' n).imp fun h => .inr ⟨rfl, h⟩
  · obtain ⟨_, _, rfl⟩ := List.mem_map.mp hx
    obtain ⟨_, _, rfl⟩ := List.mem_map.mp hy
    exact .inl h
theorem allP_len (n : Nat) : (allP n).length = n * n := by
  unfold allP
  have : ∀ l : List Int, (l.flatMap fun a => (up n).map fun b => (a, b)).length = l.length * n := by
    intro l
    induction l with
    | nil => exact (Nat.zero_mul _).symm
    | cons a l ih => rw [List.flatMap_cons, List.length_append, ih, List.length_map, up_len, List.length_cons, Nat.succ_mul, Nat.add_comm]
  rw [this, up_len]
theorem nd_pw {l : List Ar} (h : l.Pairwise ltT) : l.Nodup := List.nodup_iff_pairwise_ne.mpr (h.imp fun {s t} h e => by subst e; exact ltT_irr h)
def nrB (ts : List Ar) (a b : Int) : Bool := decide ((a, b) ∈ ts ∨ (b, a) ∈ ts)
def tA (ts : List Ar) (a b c : Int) : Bool := !decide (c = b) && (nrB ts a c && !nrB ts b c)
def tB' (ts : List Ar) (a b c : Int) : Bool := !decide (c = a) && (nrB ts c b && !nrB ts a c)
def frcA (ts : List Ar) (a b : Int) (l : List Int) : List Ar := (l.filter (tA ts a b)).map fun c => (a, c)
def frcB (ts : List Ar) (a b : Int) (l : List Int) : List Ar := (l.filter (tB' ts a b)).map fun c => (c, b)
def frcL (n : Nat) (ts : List Ar) (t : Ar) : List Ar := frcA ts t.1 t.2 (up n) ++ frcB ts t.1 t.2 (up n)
theorem frcA_step (ts : List Ar) (a b : Int) (l : List Int) (c : Int) : frcA ts a b (l ++ [c]) = frcA ts a b l ++ (if tA ts a b c = true then [(a, c)] else []) := by
  unfold frcA
  rw [List.filter_append, List.map_append]
  by_cases h : tA ts a b c = true
  · rw [if_pos h, List.filter_cons_of_pos h]; rfl
  · rw [if_neg h, List.filter_cons_of_neg h]; rfl
theorem frcB_step (ts : List Ar) (a b : Int) (l : List Int) (c : Int) : frcB ts a b (l ++ [c]) = frcB ts a b l ++ (if tB' ts a b c = true then [(c, b)] else []) := by
  unfold frcB
  rw [List.filter_append, List.map_append]
  by_cases h : tB' ts a b c = true
  · rw [if_pos h, List.filter_cons_of_pos h]; rfl
  · rw [if_neg h, List.filter_cons_of_neg h]; rfl
theorem frcA_len (ts : List Ar) (a b : Int) (l : List Int) : (frcA ts a b l).length ≤ l.length := by
  unfold frcA; rw [List.length_map]; exact List.length_filter_le _ _
theorem frcB_len (ts : List Ar) (a b : Int) (l : List Int) : (frcB ts a b l).length ≤ l.length := by
  unfold frcB; rw [List.length_map]; exact List.length_filter_le _ _
theorem mem_frc {n : Nat} {ts : List Ar} {t x : Ar} : x ∈ frcL n ts t ↔
    (x.1 = t.1 ∧ 0 ≤ x.2 ∧ x.2 < (n : Int) ∧ tA ts t.1 t.2 x.2 = true) ∨ (x.2 = t.2 ∧ 0 ≤ x.1 ∧ x.1 < (n : Int) ∧ tB' ts t.1 t.2 x.1 = true) := by
  unfold frcL frcA frcB
  rw [List.mem_append, List.mem_map, List.mem_map]
  constructor
  · rintro (⟨c, hc, rfl⟩ | ⟨c, hc, rfl⟩)
    · obtain ⟨h1, h2⟩ := List.mem_filter.mp hc
      have := mem_up.mp h1
      exact .inl ⟨rfl, this.1, this.2, h2⟩
    · obtain ⟨h1, h2⟩ := List.mem_filter.mp hc
      have := mem_up.mp h1
      exact .inr ⟨rfl, this.1, this.2, h2⟩
  · rintro (⟨h1, h2, h3, h4⟩ | ⟨h1, h2, h3, h4⟩)
    · exact .inl ⟨x.2, List.mem_filter.mpr ⟨mem_up.mpr ⟨h2, h3⟩, h4⟩, Prod.ext h1.symm rfl⟩
    · exact .inr ⟨x.1, List.mem_filter.mpr ⟨mem_up.mpr ⟨h2, h3⟩, h4⟩, Prod.ext rfl h1.symm⟩
theorem frc_nd (n : Nat) (ts : List Ar) (t : Ar) : (frcL n ts t).Nodup := by
  unfold frcL frcA frcB
  rw [List.nodup_append]
  refine ⟨?_, ?_, fun x hx y hy e => ?_⟩
  · rw [List.nodup_iff_pairwise_ne, List.pairwise_map]
    exact ((List.nodup_iff_pairwise_ne.mp (up_nodup n)).sublist List.filter_sublist).imp fun h e => h (Prod.ext_iff.mp e).2
  · rw [List.nodup_iff_pairwise_ne, List.pairwise_map]
    exact ((List.nodup_iff_pairwise_ne.mp (up_nodup n)).sublist List.filter_sublist).imp fun h e => h (Prod.ext_iff.mp e).1
  · subst e
    obtain ⟨c, hc, rfl⟩ := List.mem_map.mp hx
    obtain ⟨d, hd, e⟩ := List.mem_map.mp hy
    have h1 := (List.mem_filter.mp hc).2
    have e2 := (Prod.ext_iff.mp e).2
    unfold tA at h1
    rw [Bool.and_eq_true, Bool.not_eq_true', decide_eq_false_iff_not] at h1
    exact h1.1 e2.symm
theorem frc_rng {n : Nat} {ts : List Ar} {t x : Ar} (ht : InR n t) (h : x ∈ frcL n ts t) : InR n x := by
  obtain ⟨a1, a2, a3, a4⟩ := ht
  rcases mem_frc.mp h with ⟨h1, h2, h3, _⟩ | ⟨h1, h2, h3, _⟩
  · exact ⟨by omega, by omega, h2, h3⟩
  · exact ⟨h2, h3, by omega, by omega⟩
/-- the forced ones, rising -/
def frcS (n : Nat) (ts : List Ar) (t : Ar) : List Ar := (allP n).filter fun x => decide (x ∈ frcL n ts t)
theorem mem_frcS {n : Nat} {ts : List Ar} {t x : Ar} (ht : InR n t) : x ∈ frcS n ts t ↔ x ∈ frcL n ts t := by
  unfold frcS
  rw [List.mem_filter, decide_eq_true_eq, mem_allP]
  exact ⟨fun h => h.2, fun h => ⟨frc_rng ht h, h⟩⟩
theorem frcS_pw (n : Nat) (ts : List Ar) (t : Ar) : (frcS n ts t).Pairwise ltT := (allP_pw n).sublist List.filter_sublist
theorem frcS_eq {n : Nat} {ts fs : List Ar} {t : Ar} (ht : InR n t) (hp : fs.Perm (frcL n ts t)) (hs : fs.Pairwise (fun s t => ¬ ltT t s)) : fs = frcS n ts t :=
  pw_eq (pw_lt hs (hp.nodup_iff.mpr (frc_nd n ts t))) (frcS_pw n ts t) fun x => hp.mem_iff.trans (mem_frcS ht).symm
/-- what is found and what waits, behind the forced ones fs -/
def grow (fs : List Ar) (fw : List Ar × List Ar) : List Ar × List Ar := fs.foldl (fun fw o => if o ∈ fw.1 then fw else (fw.1 ++ [o], fw.2 ++ [o])) fw
theorem grow_step (fs : List Ar) (o : Ar) (fw : List Ar × List Ar) : grow (fs ++ [o]) fw = if o ∈ (grow fs fw).1 then grow fs fw else ((grow fs fw).1 ++ [o], (grow fs fw).2 ++ [o]) := by
  unfold grow; rw [List.foldl_append]; rfl
def comeR (n : Nat) (ts : List Ar) : Nat → List Ar × List Ar → List Ar
  | 0, fw => fw.1
  | k + 1, fw => match fw.2.getLast? with
    | none => fw.1
    | some x => comeR n ts k (grow (frcS n ts x) (fw.1, fw.2.dropLast))
def comeF (n : Nat) (ts : List Ar) (t : Ar) : List Ar := comeR n ts (2 * (n * n) + 1) ([t], [t])
theorem comeR_nil (n : Nat) (ts cs : List Ar) : ∀ k, comeR n ts k (cs, []) = cs
  | 0 => rfl
  | _ + 1 => rfl
structure GrowI (n : Nat) (fw : List Ar × List Ar) : Prop where
  nd : fw.1.Nodup
  rng : ∀ t ∈ fw.1, InR n t
  sub : ∀ t ∈ fw.2, InR n t
theorem grow_all {n : Nat} : ∀ {fs : List Ar} {fw : List Ar × List Ar}, GrowI n fw → (∀ t ∈ fs, InR n t) → GrowI n (grow fs fw) ∧ ∃ k, (grow fs fw).1.length = fw.1.length + k ∧ (grow fs fw).2.length = fw.2.length + k
  | [], fw, h, _ => ⟨h, 0, rfl, rfl⟩
  | o :: fs, fw, h, hr => by
    show GrowI n (grow fs (if o ∈ fw.1 then fw else (fw.1 ++ [o], fw.2 ++ [o]))) ∧ _
    have ho := hr o List.mem_cons_self
    by_cases hm : o ∈ fw.1
    · have e : grow (o :: fs) fw = grow fs fw := by
        show grow fs (if o ∈ fw.1 then fw else _) = _
        rw [if_pos hm]
      rw [if_pos hm, e]
      exact grow_all h fun t ht => hr t (List.mem_cons_of_mem _ ht)
    · have e : grow (o :: fs) fw = grow fs (fw.1 ++ [o], fw.2 ++ [o]) := by
        show grow fs (if o ∈ fw.1 then fw else _) = _
        rw [if_neg hm]
      have h' : GrowI n (fw.1 ++ [o], fw.2 ++ [o]) := by
        refine ⟨?_, fun t ht => ?_, fun t ht => ?_⟩
        · rw [List.nodup_append]
          refine ⟨h.nd, List.nodup_cons.mpr ⟨List.not_mem_nil, List.nodup_nil⟩, fun a ha b hb e => ?_⟩
          rw [List.mem_singleton.mp hb] at e
          subst e; exact hm ha
        · rcases List.mem_append.mp ht with z | z
          · exact h.rng t z
          · rw [List.mem_singleton.mp z]; exact ho
        · rcases List.mem_append.mp ht with z | z
          · exact h.sub t z
          · rw [List.mem_singleton.mp z]; exact ho
      rw [if_neg hm, e]
      obtain ⟨i1, k, l1, l2⟩ := grow_all h' fun t ht => hr t (List.mem_cons_of_mem _ ht)
      rw [List.length_append] at l1 l2
      exact ⟨i1, k + 1, by rw [l1]; show _ + 1 + k = _; omega, by rw [l2]; show _ + 1 + k = _; omega⟩
theorem cs_len {n : Nat} {cs : List Ar} (nd : cs.Nodup) (h : ∀ t ∈ cs, InR n t) : cs.length ≤ n * n := by
  rw [← allP_len n]
  exact nd_len nd fun t ht => mem_allP.mpr (h t ht)

/-! ### the first pointing, as the law's own way makes it -/
def firstG (n : Nat) (ts : List Ar) : List Ar → List Ar → Option (List Ar)
  | [], C => some C
  | t :: r, C => if t ∈ C ∨ sw t ∈ C then firstG n ts r C else if sw t ∈ comeF n ts t then none else firstG n ts r (C ++ comeF n ts t)
def firstF (n : Nat) (ts : List Ar) : Option (List Ar) := (firstG n ts ts []).map fun C => ts.map fun t => if t ∈ C then t else sw t
/-- arrows for the ties, in their order -/
def nrm (p : Ar) : Ar := if p.1 < p.2 then p else sw p
def Pts (ts ps : List Ar) : Prop := ps.map nrm = ts
theorem nrm_t {t : Ar} (h : t.1 < t.2) : nrm t = t := if_pos h
theorem nrm_sw {t : Ar} (h : t.1 < t.2) : nrm (sw t) = t := by
  unfold nrm sw
  dsimp only
  rw [if_neg (by omega)]
theorem first_pts {n : Nat} {ts ps : List Ar} (hw : WOk n ts) (h : firstF n ts = some ps) : Pts ts ps := by
  unfold firstF at h
  obtain ⟨C, _, rfl⟩ := Option.map_eq_some_iff.mp h
  unfold Pts
  rw [List.map_map]
  have : ∀ t ∈ ts, (nrm ∘ fun t => if t ∈ C then t else sw t) t = id t := fun t ht => by
    have b := hw.2 t ht
    show nrm (if t ∈ C then t else sw t) = t
    split
    · exact nrm_t b.2.1
    · exact nrm_sw b.2.1
  rw [List.map_congr_left this, List.map_id]
end My

set_option Elab.async false
set_option linter.all false
set_option maxRecDepth 100000
namespace My
open PySem PySem.Spec PyProof.Rows L2 GxR

theorem inV_int (ns : List Int) (x : Int) : inV (.int x) (ns.map V.int) = decide (x ∈ ns) := by
  unfold inV
  induction ns with
  | nil => rfl
  | cons a l ih =>
    rw [List.map_cons, List.any_cons, ih]
    by_cases h : a = x
    · subst h; simp [eqV]
    · have h' : ¬ x = a := fun e => h e.symm
      simp [eqV, h, h']
/-! ### the places that each place is tied to -/
def nearT (p : Int) (t : Ar) : Option Int := if t.1 = p then some t.2 else if t.2 = p then some t.1 else none
def nearL (ts : List Ar) (p : Int) : List Int := ts.filterMap (nearT p)
theorem nearL_step (ts : List Ar) (t : Ar) (p : Int) : nearL (ts ++ [t]) p = nearL ts p ++ (if t.1 = p then [t.2] else if t.2 = p then [t.1] else []) := by
  unfold nearL
  rw [List.filterMap_append]
  congr 1
  rw [List.filterMap_cons, List.filterMap_nil]
  unfold nearT
  by_cases h1 : t.1 = p
  · rw [if_pos h1, if_pos h1]
  · rw [if_neg h1, if_neg h1]
    by_cases h2 : t.2 = p
    · rw [if_pos h2, if_pos h2]
    · rw [if_neg h2, if_neg h2]
theorem nearL_len (ts : List Ar) (p : Int) : (nearL ts p).length ≤ ts.length := List.length_filterMap_le _ _
theorem mem_nearL {ts : List Ar} {p c : Int} : c ∈ nearL ts p ↔ ((p, c) ∈ ts ∨ (c, p) ∈ ts) := by
  unfold nearL
  rw [List.mem_filterMap]
  constructor
  · rintro ⟨⟨x, y⟩, ht, e⟩
    unfold nearT at e
    dsimp only at e
    by_cases h1 : x = p
    · rw [if_pos h1] at e; cases e; subst h1; exact .inl ht
    · rw [if_neg h1] at e
      by_cases h2 : y = p
      · rw [if_pos h2] at e; cases e; subst h2; exact .inr ht
      · rw [if_neg h2] at e; cases e
  · rintro (h | h)
    · exact ⟨_, h, if_pos rfl⟩
    · refine ⟨_, h, ?_⟩
      unfold nearT
      dsimp only
      by_cases h1 : c = p
      · rw [if_pos h1, h1]
      · rw [if_neg h1, if_pos rfl]
theorem nearL_nrB {ts : List Ar} {p c : Int} : decide (c ∈ nearL ts p) = nrB ts p c := by
  unfold nrB
  exact decide_eq_decide.mpr mem_nearL
theorem nrB_comm (ts : List Ar) (a b : Int) : nrB ts a b = nrB ts b a := decide_eq_decide.mpr Or.comm
theorem nearL_nd {n : Nat} {ts : List Ar} (hw : WOk n ts) (p : Int) : (nearL ts p).Nodup := by
  unfold nearL
  rw [List.nodup_iff_pairwise_ne, List.pairwise_filterMap]
  refine hw.1.imp_of_mem fun {s t} hs ht h c hc d hd e => ?_
  have bs := hw.2 s hs
  have bt := hw.2 t ht
  subst e
  cases s with | mk s1 s2 =>
  cases t with | mk t1 t2 =>
  unfold nearT at hc hd
  unfold ltT at h
  dsimp only at *
  split at hc
  · split at hd
    · cases hc; cases hd; omega
    · split at hd
      · cases hc; cases hd; omega
      · cases hd
  · split at hc
    · split at hd
      · cases hc; cases hd; omega
      · split at hd
        · cases hc; cases hd; omega
        · cases hd
    · cases hc
/-! ### what a forced_by makes -/
def tE (ts : List Ar) (a b : Int) (c : Int) : Bool := !decide (c = b) && !decide (c ∈ nearL ts b)
def endsL (ts : List Ar) (a b : Int) (l : List Int) : List Ar := (l.filter (tE ts a b)).map fun c => (a, c)
def begL (ts : List Ar) (a b : Int) (l : List Int) : List Ar := (l.filter (tE ts b a)).map fun c => (c, b)
theorem endsL_step (ts : List Ar) (a b : Int) (l : List Int) (c : Int) : endsL ts a b (l ++ [c]) = endsL ts a b l ++ (if tE ts a b c = true then [(a, c)] else []) := by
  unfold endsL
  rw [List.filter_append, List.map_append]
  by_cases h : tE ts a b c = true
  · rw [if_pos h, List.filter_cons_of_pos h]; rfl
  · rw [if_neg h, List.filter_cons_of_neg h]; rfl
theorem begL_step (ts : List Ar) (a b : Int) (l : List Int) (c : Int) : begL ts a b (l ++ [c]) = begL ts a b l ++ (if tE ts b a c = true then [(c, b)] else []) := by
  unfold begL
  rw [List.filter_append, List.map_append]
  by_cases h : tE ts b a c = true
  · rw [if_pos h, List.filter_cons_of_pos h]; rfl
  · rw [if_neg h, List.filter_cons_of_neg h]; rfl
theorem endsL_len (ts : List Ar) (a b : Int) (l : List Int) : (endsL ts a b l).length ≤ l.length := by
  unfold endsL; rw [List.length_map]; exact List.length_filter_le _ _
theorem begL_len (ts : List Ar) (a b : Int) (l : List Int) : (begL ts a b l).length ≤ l.length := by
  unfold begL; rw [List.length_map]; exact List.length_filter_le _ _
def fbL (ts : List Ar) (t : Ar) : List Ar := endsL ts t.1 t.2 (nearL ts t.1) ++ begL ts t.1 t.2 (nearL ts t.2)
theorem near_rng {n : Nat} {ts : List Ar} (hw : WOk n ts) {p c : Int} (h : nrB ts p c = true) : 0 ≤ c ∧ c < (n : Int) := by
  rcases of_decide_eq_true h with z | z
  · have := hw.2 _ z; dsimp only at this; omega
  · have := hw.2 _ z; dsimp only at this; omega
theorem mem_fb {n : Nat} {ts : List Ar} (hw : WOk n ts) {t x : Ar} : x ∈ fbL ts t ↔ x ∈ frcL n ts t := by
  have tE' : ∀ a b c, tE ts a b c = (!decide (c = b) && !nrB ts b c) := fun a b c => by unfold tE; rw [nearL_nrB]
  rw [mem_frc]
  unfold fbL endsL begL
  rw [List.mem_append, List.mem_map, List.mem_map]
  constructor
  · rintro (⟨c, hc, rfl⟩ | ⟨c, hc, rfl⟩)
    · obtain ⟨h1, h2⟩ := List.mem_filter.mp hc
      have h1' : nrB ts t.1 c = true := by rw [← nearL_nrB]; exact decide_eq_true h1
      have r := near_rng hw h1'
      refine .inl ⟨rfl, r.1, r.2, ?_⟩
      rw [tE', Bool.and_eq_true] at h2
      unfold tA
      rw [h2.1, h1', h2.2]; rfl
    · obtain ⟨h1, h2⟩ := List.mem_filter.mp hc
      have h1' : nrB ts t.2 c = true := by rw [← nearL_nrB]; exact decide_eq_true h1
      have r := near_rng hw h1'
      refine .inr ⟨rfl, r.1, r.2, ?_⟩
      rw [tE', Bool.and_eq_true] at h2
      unfold tB'
      rw [h2.1, nrB_comm, h1', h2.2]; rfl
  · rintro (⟨h1, h2, h3, h4⟩ | ⟨h1, h2, h3, h4⟩)
    · unfold tA at h4
      rw [Bool.and_eq_true, Bool.and_eq_true] at h4
      refine .inl ⟨x.2, List.mem_filter.mpr ⟨?_, ?_⟩, Prod.ext h1.symm rfl⟩
      · exact of_decide_eq_true (nearL_nrB.trans h4.2.1)
      · rw [tE', h4.1, h4.2.2]; rfl
    · unfold tB' at h4
      rw [Bool.and_eq_true, Bool.and_eq_true, nrB_comm] at h4
      refine .inr ⟨x.1, List.mem_filter.mpr ⟨?_, ?_⟩, Prod.ext rfl h1.symm⟩
      · exact of_decide_eq_true (nearL_nrB.trans h4.2.1)
      · rw [tE', h4.1, h4.2.2]; rfl
theorem fb_nd {n : Nat} {ts : List Ar} (hw : WOk n ts) (t : Ar) : (fbL ts t).Nodup := by
  unfold fbL endsL begL
  rw [List.nodup_append]
  refine ⟨?_, ?_, fun x hx y hy e => ?_⟩
  · rw [List.nodup_iff_pairwise_ne, List.pairwise_map]
    exact ((List.nodup_iff_pairwise_ne.mp (nearL_nd hw _)).sublist List.filter_sublist).imp fun h e => h (Prod.ext_iff.mp e).2
  · rw [List.nodup_iff_pairwise_ne, List.pairwise_map]
    exact ((List.nodup_iff_pairwise_ne.mp (nearL_nd hw _)).sublist List.filter_sublist).imp fun h e => h (Prod.ext_iff.mp e).1
  · subst e
    obtain ⟨c, hc, rfl⟩ := List.mem_map.mp hx
    obtain ⟨d, hd, e⟩ := List.mem_map.mp hy
    have h1 := (List.mem_filter.mp hc).2
    have e2 := (Prod.ext_iff.mp e).2
    unfold tE at h1
    rw [Bool.and_eq_true, Bool.not_eq_true', decide_eq_false_iff_not] at h1
    exact h1.1 e2.symm
theorem srt_eq {l m fs : List Ar} (hp : fs.Perm l) (nd : l.Nodup) (hs : fs.Pairwise (fun s t => ¬ ltT t s)) (hm : m.Pairwise ltT) (h : ∀ x, x ∈ l ↔ x ∈ m) : fs = m :=
  pw_eq (pw_lt hs (hp.nodup_iff.mpr nd)) hm fun x => hp.mem_iff.trans (h x)
theorem fb_eq {n : Nat} {ts fs : List Ar} {t : Ar} (hw : WOk n ts) (ht : InR n t) (hp : fs.Perm (fbL ts t)) (hs : fs.Pairwise (fun s t => ¬ ltT t s)) : fs = frcS n ts t :=
  srt_eq hp (fb_nd hw t) hs (frcS_pw n ts t) fun x => (mem_fb hw).trans (mem_frcS ht).symm
/-! ### all arrows, rising -/
def arS (n : Nat) (ts : List Ar) : List Ar := (allP n).filter fun x => nrB ts x.1 x.2
theorem arS_pw (n : Nat) (ts : List Ar) : (arS n ts).Pairwise ltT := (allP_pw n).sublist List.filter_sublist
theorem nrB_lt {n : Nat} {ts : List Ar} (hw : WOk n ts) {a b : Int} (h : nrB ts a b = true) : 0 ≤ a ∧ a < (n : Int) ∧ 0 ≤ b ∧ b < (n : Int) ∧ a ≠ b := by
  rcases of_decide_eq_true h with z | z
  · have := hw.2 _ z; dsimp only at this; omega
  · have := hw.2 _ z; dsimp only at this; omega
theorem mem_arS {n : Nat} {ts : List Ar} (hw : WOk n ts) {x : Ar} : x ∈ arS n ts ↔ (x ∈ ts ∨ sw x ∈ ts) := by
  unfold arS
  rw [List.mem_filter, mem_allP]
  constructor
  · rintro ⟨_, h⟩
    exact of_decide_eq_true h
  · intro h
    have h' : nrB ts x.1 x.2 = true := decide_eq_true h
    have b := nrB_lt hw h'
    exact ⟨⟨b.1, b.2.1, b.2.2.1, b.2.2.2.1⟩, h'⟩
theorem ar_nd {n : Nat} {ts : List Ar} (hw : WOk n ts) : (ts ++ ts.map sw).Nodup := by
  have nd := nd_pw hw.1
  rw [List.nodup_append]
  refine ⟨nd, ?_, fun x hx y hy e => ?_⟩
  · rw [List.nodup_iff_pairwise_ne, List.pairwise_map]
    refine (List.nodup_iff_pairwise_ne.mp nd).imp fun {s t} h e => h ?_
    rw [← sw_sw s, e, sw_sw]
  · subst e
    obtain ⟨z, hz, rfl⟩ := List.mem_map.mp hy
    have b1 := hw.2 _ hx
    have b2 := hw.2 _ hz
    unfold sw at b1
    dsimp only at b1
    omega
theorem ar_eq {n : Nat} {ts fs : List Ar} (hw : WOk n ts) (hp : fs.Perm (ts ++ ts.map sw)) (hs : fs.Pairwise (fun s t => ¬ ltT t s)) : fs = arS n ts := by
  refine srt_eq hp (ar_nd hw) hs (arS_pw n ts) fun x => ?_
  rw [mem_arS hw, List.mem_append, List.mem_map]
  constructor
  · rintro (z | ⟨y, hy, rfl⟩)
    · exact .inl z
    · exact .inr hy
  · rintro (z | z)
    · exact .inl z
    · exact .inr ⟨_, z, sw_sw x⟩
theorem arS_inR {n : Nat} {ts : List Ar} {x : Ar} (h : x ∈ arS n ts) : InR n x := mem_allP.mp (List.mem_filter.mp h).1
theorem arS_len {n : Nat} {ts : List Ar} : (arS n ts).length ≤ n * n := by
  rw [← allP_len n]; exact List.length_filter_le _ _
theorem frcS_len {n : Nat} {ts : List Ar} {t : Ar} : (frcS n ts t).length ≤ n * n := by
  rw [← allP_len n]; exact List.length_filter_le _ _
theorem frc_ar {n : Nat} {ts : List Ar} {t x : Ar} (h : x ∈ frcL n ts t) : nrB ts x.1 x.2 = true := by
  rcases mem_frc.mp h with ⟨h1, h2, h3, h4⟩ | ⟨h1, h2, h3, h4⟩
  · unfold tA at h4
    rw [Bool.and_eq_true, Bool.and_eq_true] at h4
    rw [h1]; exact h4.2.1
  · unfold tB' at h4
    rw [Bool.and_eq_true, Bool.and_eq_true] at h4
    rw [h1]; exact h4.2.1
theorem frcS_ar {n : Nat} {ts : List Ar} {t x : Ar} (ht : InR n t) (h : x ∈ frcS n ts t) : x ∈ arS n ts := by
  have h' := (mem_frcS ht).mp h
  exact List.mem_filter.mpr ⟨mem_allP.mpr (frc_rng ht h'), frc_ar h'⟩
theorem frc_sw {n : Nat} {ts : List Ar} {t x : Ar} : x ∈ frcL n ts (sw t) ↔ sw x ∈ frcL n ts t := by
  rw [mem_frc, mem_frc]
  unfold sw tA tB'
  dsimp only
  rw [nrB_comm ts t.2 x.2, nrB_comm ts x.1 t.1]
  constructor
  · rintro (h | h)
    · first | exact .inr h | exact .inl h
    · first | exact .inr h | exact .inl h
  · rintro (h | h)
    · first | exact .inr h | exact .inl h
    · first | exact .inr h | exact .inl h
theorem frc_symm {n : Nat} {ts : List Ar} {t x : Ar} (ht : InR n t) (ha : nrB ts t.1 t.2 = true) (h : x ∈ frcL n ts t) : t ∈ frcL n ts x := by
  obtain ⟨r1, r2, r3, r4⟩ := ht
  rw [mem_frc] at h ⊢
  rcases h with ⟨h1, h2, h3, h4⟩ | ⟨h1, h2, h3, h4⟩
  · unfold tA at h4 ⊢
    rw [Bool.and_eq_true, Bool.and_eq_true, Bool.not_eq_true', decide_eq_false_iff_not] at h4
    refine .inl ⟨h1.symm, r3, r4, ?_⟩
    rw [h1, ha, nrB_comm, h4.2.2, decide_eq_false (fun e => h4.1 e.symm)]; rfl
  · unfold tB' at h4 ⊢
    rw [Bool.and_eq_true, Bool.and_eq_true, Bool.not_eq_true', decide_eq_false_iff_not] at h4
    refine .inr ⟨h1.symm, r1, r2, ?_⟩
    rw [h1, ha, nrB_comm, h4.2.2, decide_eq_false (fun e => h4.1 e.symm)]; rfl
/-! ### forced, turned -/
theorem frcS_sw {n : Nat} {ts fs : List Ar} {t : Ar} (ht : InR n t) (hp : fs.Perm ((frcS n ts t).map sw)) (hs : fs.Pairwise (fun s t => ¬ ltT t s)) : fs = frcS n ts (sw t) := by
  have ht' : InR n (sw t) := ⟨ht.2.2.1, ht.2.2.2, ht.1, ht.2.1⟩
  refine srt_eq hp ?_ hs (frcS_pw n ts _) fun x => ?_
  · rw [List.nodup_iff_pairwise_ne, List.pairwise_map]
    refine (List.nodup_iff_pairwise_ne.mp (nd_pw (frcS_pw n ts t))).imp fun {s t} h e => h ?_
    rw [← sw_sw s, e, sw_sw]
  · rw [mem_frcS ht', frc_sw, List.mem_map]
    constructor
    · rintro ⟨y, hy, rfl⟩
      exact (mem_frcS ht).mp hy
    · intro h
      exact ⟨_, (mem_frcS ht).mpr h, sw_sw x⟩
end My

set_option Elab.async false
set_option linter.all false
set_option maxRecDepth 100000
namespace My
open PySem PySem.Spec PyProof.Rows L2

/-! ### str of data, where no text is being made of anything yet -/
def rStrD (K : PySem.W.Frag) : List V → Hp → VK → Prop := fun xs H Q => ∃ a d, xs = [.ref a] ∧ Dp K H (.ref a) d ∧ d.showable = true ∧ d.hasDict = false ∧ d.depth ≤ 50 ∧ d.shown.length ≤ sizeLine ∧ Q (.str d.shown) H
theorem call_strD {X : Cx} (hg : X.A.guards = some []) (hu : X.A.units + 65 < cLine) : CallR X (.type "str") (rStrD X.K) := by
  rintro pins s σ H xs us Q I r ⟨a, d, rfl, hd, h1, h2, h3, h4, q⟩
  obtain ⟨u, rfl, r1⟩ := vals1 r
  obtain rfl : u = Value.ref a := r1
  obtain ⟨as, rr⟩ := Dp.reads I d _ _ hd rfl
  exact str_of_reads rr h1 (fun z => by rw [h2] at z; cases z) hg (by omega) (fun _ _ e => e) (fun h' t tk k => ⟨.str _, H, I.kept k, ⟨_, rfl⟩, q⟩) h4

/-! ### cuts: what holds behind a piece is named, and the rest is shown from that alone -/
section
variable {X : Cx} {st : Stmt} {rest : List Stmt} {t u : TS} {e : Expr} {te : TE} {tt : TT}
def tCut (t u : TS) : TS := fun D σ H => ∃ M : L2.St → Hp → Prop, t { D with nx := M } σ H ∧ ∀ σ' H', M σ' H' → u D σ' H'
theorem pss_cut (h1 : PS X st t) (h2 : PSs X rest u) : PSs X (st :: rest) (tCut t u) := by
  constructor
  rintro pins s σ H D I ⟨M, h, hM⟩
  refine wpAny_execs_cons (wpAny_mono (h1.run pins s σ H { D with nx := M } I h) (fun f s1 z => ?_) fun _ _ z => z)
  match f, z with
  | .next, ⟨σ', H', I', m⟩ => exact h2.run pins s1 σ' H' D I' (hM _ _ m)
  | .ret _, z => exact z
  | .brk, z => exact z
  | .cont, z => exact z
def tCutE (t : TE) : TE := fun σ H Q => ∃ M : VK, t σ H M ∧ ∀ v H', M v H' → Q v H'
theorem pe_cut (h : PE X e te) : PE X e (tCutE te) := by
  constructor
  rintro pins s σ H Q I ⟨M, m, hM⟩
  refine wpAny_mono (h.run pins s σ H M I m) (fun v s1 z => ?_) fun _ _ z => z
  obtain ⟨x, H', I', r, z⟩ := z
  exact ⟨x, H', I', r, hM _ _ z⟩
def tCutT (t : TT) : TT := fun σ H Q => ∃ M : Bool → Hp → Prop, t σ H M ∧ ∀ v H', M v H' → Q v H'
theorem pt_cut (h : PT X e tt) : PT X e (tCutT tt) := by
  constructor
  rintro pins s σ H Q I ⟨M, m, hM⟩
  refine wpAny_mono (h.run pins s σ H M I m) (fun v s1 z => ?_) fun _ _ z => z
  obtain ⟨H', I', z⟩ := z
  exact ⟨H', I', hM _ _ z⟩
end
/-! ### a def run at the top -/
section
variable {P : Program} {w : World} {K : PySem.W.Frag} {mg : Str → Option Value} {base : Heap}
/-- a call of a def with one argument from the law's own caller -/
def TopRun (P : Program) (w : World) (K : PySem.W.Frag) (mg : Str → Option Value) (base : Heap) (f : Addr) (fd : FuncData) (y : Str) (sp : Sp) : Prop :=
  ∀ (s : Shared) (H : Hp) (u : Value) (v : V) (Q : VK) (E : XK), Env0 P w K mg base callerA [] s H → BindsTo s fd ⟨[u], []⟩ [(y, u)] → RelV v u → sp [v] H Q E →
    codeAny (model P w) callerA (.call (.ref f) ⟨[u], []⟩) (CR CX0 [] P w H s Q E) s
theorem top_run {x y : Str} {st : Stmt} {f : Addr} {fd : FuncData} {N : List Str} {k : Nat} {sp : Sp} (F : Fun K x x st f fd) (S : FnScope N [y] (defScope st)) (room : Room (k + 1) callerA)
    (body : ∀ (cdv : Value) (s : Shared) (H : Hp) (v : V) (Q : VK) (E : XK), Room k (callerA.deeper (envOfC x (defScope st) s.heap.objs.size f cdv)) → sp [v] H Q E →
      ∃ t, PSs (cxOf CX0 P w K mg base N x (defScope st) f cdv callerA [] s H E).nox (defBody st) t ∧ t { nx := fun _ H' => Q .non H', rt := Q } (start N [v]) H) :
    TopRun P w K mg base f fd y sp := by
  intro s H u v Q E e0 hb rv hsp
  obtain ⟨oc, od, kV, doc, pm, an, cdv, ct, osl, rfl, lk, hcd⟩ := F.ex
  have here : K.In s.heap := e0.mod.kin.keeps fun b o z => (e0.bs b o z).1
  have free := e0.mod.nolimit.keeps fun b o z => (e0.bs b o z).1
  refine codeAny_call_function room.depth (here _ _ lk) rfl S.co S.gen rfl (PySem.W.codeRec_of here hcd) (hb _ _ _ _ ?_)
  refine wpAny_newFunctionEnv_cells S.kind ?_ fun env he s1 inn => ?_
  · rintro ⟨n, z⟩ hz
    rcases S.par n (List.of_mem_zip (l₁ := [y]) (l₂ := [u]) hz).1 with loc | cel
    · exact Or.inl loc
    · exact Or.inr ⟨cel, PySem.W.cellsFrom_some _ _ _ (Or.inl cel)⟩
  subst he
  refine ⟨free.keeps inn.toInCall.keep, codeAny_func ?_⟩
  obtain ⟨t, ht, hq⟩ := body cdv s H v Q E (room.deeper _) hsp
  have I0 := inv_start (CX := CX0) (E := E) (vs := [v]) (us := [u]) S room.hd e0 rfl (.cons rv .nil) inn
  refine wpAny_mono (ht.nox.run [] s1 (start N [v]) H _ I0 hq) (fun fl s' out => ?_) fun _ _ z => z
  cases fl with
  | ret z =>
    obtain ⟨v', σ', H', J, r', q'⟩ := out
    exact ⟨v', H', J.os, J.bare, J.base, J.hok, r', q'⟩
  | next =>
    obtain ⟨σ', H', J, q'⟩ := out
    exact ⟨V.non, H', J.os, J.bare, J.base, J.hok, rfl, q'⟩
  | brk => obtain ⟨_, _, _, no⟩ := out; exact no.elim
  | cont => obtain ⟨_, _, _, no⟩ := out; exact no.elim
end
end My

set_option Elab.async false
set_option linter.all false
set_option maxRecDepth 100000
namespace My
open PySem PySem.Spec PyProof.Rows L2

/-! ### the law's call, from what its def does when it is called from the top -/
/-- what the heap tracks when the law is called: the tables, empty, and the script where it is none of the fixed part -/
structure Trk (K : PySem.W.Frag) (s : Shared) (cs : List (Addr × Addr)) (a : Addr) (xs : Array Value) (ys : List V) (H : Hp) : Prop where
  tab : ∀ p ∈ cs, H p.2 = some (.tbl #[])
  scr : SqL K H a ys
  any : ∀ b u, H b = some u → (∃ p ∈ cs, p.2 = b) ∨ (b = a ∧ K.lookup a = none ∧ u = .frz { cls := .type "list", data := .seq xs } (.lst ys))
section
variable {P : Program} {w : World} {K : PySem.W.Frag} {mg mb : Str → Option Value} {fa a : Addr} {cs : List (Addr × Addr)} {fd : FuncData} {y : Str} {sp : Sp} {s : Shared} {vs : List Value} {ns : List Int} {H : Hp}
theorem trk_out (hT : ∀ p ∈ cs, s.heap.get? p.2 = some ⟨.none, none, .fields #[], #[]⟩) (ha : s.heap.get? a = some { cls := .type "list", data := .seq vs.toArray }) {ys : List V} (t : Trk K s cs a vs.toArray ys H) {b : Addr} {o : Obj} (e : s.heap.get? b = some o) (h1 : ∀ us n, o.data = .seq us n → False) (h2 : o.data = .fields #[] → False) : H b = none := by
  cases z : H b with
  | none => rfl
  | some u =>
    exfalso
    rcases t.any b u z with ⟨p, hp, rfl⟩ | ⟨rfl, _, _⟩
    · rw [hT p hp] at e; cases e; exact h2 rfl
    · rw [ha] at e; cases e; exact h1 _ _ rfl
theorem trk_call (KX : K.In s.heap) (g1 : s.heap.Ns mainGlobals mg) (g2 : s.heap.Ns builtinsNs mb) (g3 : ∀ x : Str, x ≠ "__name__" → mb x = bootBuiltins x) (g4 : s.heap.NoLimit) (g5 : s.gens = #[])
    (hT : ∀ p ∈ cs, s.heap.get? p.2 = some ⟨.none, none, .fields #[], #[]⟩) (nT : ∀ p ∈ cs, K.lookup p.2 = none) (hC : ∀ p ∈ cs, PySem.W.CodeHd s.heap p.1 p.2)
    (g6 : ∃ (bm : Addr) (ob : Obj), mg "__builtins__" = some (.ref bm) ∧ bm ≠ builtinsNs ∧ s.heap.get? bm = some ob ∧ ob.cls = .type "module" ∧ ob.dict = some builtinsNs ∧ ob.data = .plain)
    (ha : s.heap.get? a = some { cls := .type "list", data := .seq vs.toArray })
    (R : ∀ base : Heap, K.In base → base.Ns mainGlobals mg → (∀ p ∈ cs, LamX.TabB base mg p.1 p.2) → TopRun P w K mg base fa fd y sp) (hbind : ∀ (s : Shared) (u : Value), BindsTo s fd ⟨[u], []⟩ [(y, u)])
    (t : Trk K s cs a vs.toArray (ns.map V.int) H) (ok : HOk P w H s.heap) (hsp : sp [.ref a] H (fun v _ => v = .bl true) fun _ _ _ => False) :
    codeAny (model P w) callerA (.call (.ref fa) ⟨[.ref a], []⟩) (fun r s' => r = .ok (.ret (.bool true)) ∧ OldK s.heap s'.heap ∧ s'.os = s.os ∧ AllBare s'.gens) s := by
  have up : ∀ {b : Addr} {o : Obj}, s.heap.get? b = some o → (∀ us n, o.data = .seq us n → False) → (o.data = .fields #[] → False) → (hidT s.heap H).get? b = some o := fun e h1 h2 => hidT_get e (trk_out hT ha t e h1 h2)
  have upN : ∀ {b : Addr} {m : Str → Option Value}, s.heap.Ns b m → (hidT s.heap H).Ns b m := by
    rintro b m ⟨o, es, ep, e, d, r⟩
    exact ⟨o, es, ep, up e (fun us n z => by rw [d] at z; cases z) (fun z => by rw [d] at z; cases z), d, r⟩
  have upK : K.In (hidT s.heap H) := by
    intro b o e
    refine hidT_get (KX b o e) ?_
    cases z : H b with
    | none => rfl
    | some u =>
      exfalso
      rcases t.any b u z with ⟨p, hp, rfl⟩ | ⟨rfl, nk, _⟩
      · rw [nT p hp] at e; cases e
      · rw [nk] at e; cases e
  have upM : L2.Mod K mg (hidT s.heap H) := by
    obtain ⟨mc, k1, k2⟩ := g4
    exact ⟨upK, upN g1, ⟨mb, upN g2, g3⟩, ⟨mc, upN k1, k2⟩⟩
  have upT : ∀ p ∈ cs, LamX.TabB (hidT s.heap H) mg p.1 p.2 := by
    intro p hp
    have hp2 := hT p hp
    constructor
    · obtain ⟨o, us, file, tf, flags, tg, inF, text, tt, e1, r1, r2, r3, more⟩ := hC p hp
      refine ⟨o, us, file, tf, flags, tg, inF, text, tt, up e1 (fun z n k => by rw [r2] at k; cases k) (fun k => ?_), r1, r2, r3, more⟩
      rw [r2] at k; cases k; simp at r3
    · obtain ⟨bm, ob, b1, b2, b3, b4, b5, b6⟩ := g6
      refine ⟨bm, ob, b1, b2, fun z => ?_, fun z => ?_, up b3 (fun us n k => by rw [b6] at k; cases k) (fun k => by rw [b6] at k; cases k), b4, b5, b6⟩
      · obtain ⟨o, es, ep, e, hd, _⟩ := g1
        rw [z, e] at b3; cases b3; rw [hd] at b6; cases b6
      · rw [z, hp2] at b3; cases b3; cases b6
    · intro z
      obtain ⟨o, es, ep, e, hd, _⟩ := g1
      rw [z, hp2] at e; cases e; cases hd
  have e0 : Env0 P w K mg (hidT s.heap H) callerA [] s H := by
    refine ⟨rfl, upM, fun b o e => of_hidT e, Nat.le_of_eq (hidT_size _ _), trivial, fun b hb => ?_, ok, .of_eq g5⟩
    exact absurd (show b ∈ ([] : List Addr) from hb) List.not_mem_nil
  refine codeAny_mono (R _ upK (upN g1) upT s H (.ref a) (.ref a) _ _ e0 (hbind s _) rfl hsp) fun r s' h => ?_
  match r, h with
  | .error e, h => exact h.elim
  | .ok .next, h => exact h.elim
  | .ok .brk, h => exact h.elim
  | .ok .cont, h => exact h.elim
  | .ok (.ret u), ⟨v, H', os, bare, un, ok', rv, hv⟩ =>
    obtain rfl : v = .bl true := hv
    obtain rfl : u = Value.bool true := rv
    have key : ∀ b o, s.heap.get? b = some o → (¬ ∃ p ∈ cs, p.2 = b) → s'.heap.get? b = some o := by
      intro b o e nb
      cases z : H b with
      | none => exact un.keep b o e z (fun k => absurd (show b ∈ ([] : List Addr) from k) List.not_mem_nil) List.not_mem_nil
      | some u =>
        rcases t.any b u z with k | ⟨rfl, _, rfl⟩
        · exact absurd k nb
        · have z2 := ok' _ _ (un.frzs _ _ _ z)
          rw [ha] at e; cases e
          exact z2.1
    have tabs : ∀ p ∈ cs, ∃ more : Array Value, s'.heap.get? p.2 = some ⟨.none, none, .fields more, #[]⟩ := by
      intro p hp
      obtain ⟨more, z⟩ := un.tbls p.2 #[] (t.tab p hp)
      exact ⟨_, ok' _ _ z⟩
    refine ⟨rfl, ⟨fun b o e => ?_, fun b o e => ?_⟩, os, bare⟩
    · by_cases hb : ∃ p ∈ cs, p.2 = b
      · obtain ⟨p, hp, rfl⟩ := hb
        obtain ⟨more, hm⟩ := tabs p hp
        rw [hT p hp] at e; cases e
        refine Or.inr (Or.inl ⟨((hC p hp).tab (hT p hp)).isCodeTable, rfl, #[], more, rfl, ?_⟩)
        rw [Array.empty_append]; exact hm
      · exact Or.inl (key b o e hb)
    · by_cases hb : ∃ p ∈ cs, p.2 = b
      · obtain ⟨p, hp, rfl⟩ := hb
        obtain ⟨more, hm⟩ := tabs p hp
        exact ⟨_, hm⟩
      · exact ⟨o, key b o e hb⟩
end
section
open Classical
variable {K : PySem.W.Frag} {a : Addr} {cs : List (Addr × Addr)} {s : Shared} {vs : List Value} {ns : List Int}
noncomputable def trkH (K : PySem.W.Frag) (cs : List (Addr × Addr)) (a : Addr) (xs : Array Value) (ys : List V) : Hp := fun b =>
  if ∃ p ∈ cs, p.2 = b then some (.tbl #[]) else if b = a ∧ K.lookup a = none then some (.frz { cls := .type "list", data := .seq xs } (.lst ys)) else none
theorem trkH_ok {P : Program} {w : World} (KX : K.In s.heap) (hT : ∀ p ∈ cs, s.heap.get? p.2 = some ⟨.none, none, .fields #[], #[]⟩) (ha : s.heap.get? a = some { cls := .type "list", data := .seq vs.toArray }) (hi : IntsAre vs ns) (hl : ns.length ≤ sizeLine) :
    Trk K s cs a vs.toArray (ns.map V.int) (trkH K cs a vs.toArray (ns.map V.int)) ∧ HOk P w (trkH K cs a vs.toArray (ns.map V.int)) s.heap := by
  have na : ¬ ∃ p ∈ cs, p.2 = a := by
    rintro ⟨p, hp, rfl⟩
    rw [hT p hp] at ha; cases ha
  have rv := vals_ints hi
  refine ⟨⟨fun p hp => if_pos ⟨p, hp, rfl⟩, ?_, fun b u e => ?_⟩, fun b u e => ?_⟩
  · cases hk : K.lookup a with
    | some o =>
      have e := KX a o hk
      rw [ha] at e; cases e
      exact Or.inr ⟨_, vs.toArray, _, hk, rfl, rfl, rfl, by rw [List.size_toArray, hi.length]; exact hl, by simpa using rv⟩
    | none => exact Or.inl (Or.inr ⟨_, (if_neg na).trans (if_pos ⟨rfl, hk⟩)⟩)
  · by_cases hb : ∃ p ∈ cs, p.2 = b
    · exact Or.inl hb
    · have e1 := (if_neg hb).symm.trans e
      by_cases hb2 : b = a ∧ K.lookup a = none
      · have e2 := (if_pos hb2).symm.trans e1
        cases e2
        exact Or.inr ⟨hb2.1, hb2.2, rfl⟩
      · have e2 := (if_neg hb2).symm.trans e1
        cases e2
  · by_cases hb : ∃ p ∈ cs, p.2 = b
    · have e1 := (if_pos hb).symm.trans e
      cases e1
      obtain ⟨p, hp, rfl⟩ := hb
      exact hT p hp
    · have e1 := (if_neg hb).symm.trans e
      by_cases hb2 : b = a ∧ K.lookup a = none
      · have e2 := (if_pos hb2).symm.trans e1
        cases e2
        obtain ⟨rfl, _⟩ := hb2
        exact ⟨ha, by rw [List.length_map]; exact hl, vs, _, rv, ha⟩
      · have e2 := (if_neg hb2).symm.trans e1
        cases e2
end
/-- what is known of a law's def at the head's heap -/
def TopAt (l : PySem.W.OpenLaw) (w : World) (K : PySem.W.Frag) (n : Nat) (y : Str) (mg : Str → Option Value) (fa : Addr) (h : Heap) : Prop :=
  ∃ (fd : FuncData) (cs : List (Addr × Addr)) (sp : Sp), (∀ p ∈ cs, h.get? p.2 = some ⟨.none, none, .fields #[], #[]⟩) ∧ (∀ p ∈ cs, K.lookup p.2 = none) ∧ (∀ p ∈ cs, PySem.W.CodeHd h p.1 p.2) ∧ (∀ (s : Shared) (u : Value), BindsTo s fd ⟨[u], []⟩ [(y, u)]) ∧
    (∀ (H : Hp) (a : Addr) (ns : List Int), ns.length ≤ n → (∀ z ∈ ns, Builtin.Int.intBits z ≤ 1048576) → (∀ p ∈ cs, H p.2 = some (.tbl #[])) → SqL K H a (ns.map V.int) → sp [.ref a] H (fun v _ => v = .bl true) fun _ _ _ => False) ∧
    ∀ base : Heap, K.In base → base.Ns mainGlobals mg → (∀ p ∈ cs, LamX.TabB base mg p.1 p.2) → TopRun l.prog w K mg base fa fd y sp
theorem walk_top {l : PySem.W.OpenLaw} {n : Nat} {q : Program} {loose : List Str} {XP : (Str → Option Value) → Heap → Prop} {YP : World → Heap → Prop} {d : DefRec} {y : Str} (hn : l.most = some n) (hn2 : n ≤ sizeLine) (hdf : d.params.defaults = [])
    (F : ∀ (w : World) (mg : Str → Option Value) (fa : Addr) (h : Heap), YP w h → h.Ns mainGlobals mg → mg d.name = some (.ref fa) → ∃ K : PySem.W.Frag, K.In h ∧ TopAt l w K n y mg fa h) :
    PySem.W.WalkO q loose XP YP l.row.toRowW d [] (fun f vs => PySem.call f vs) := by
  apply Att.attach_callB hn hdf
  intro w s0 s1 mg mb fa o pm cd doc a vs ns G Y _ _ _ hm hobj hints hlen hbits hgens
  obtain ⟨K, KX, fd, cs, sp, hT, nT, hC, hb, hsp, hF⟩ := F w mg fa _ Y G.T.g hm
  obtain ⟨tr, ok⟩ := trkH_ok (P := l.prog) (w := w) (cs := cs) KX hT hobj hints (Nat.le_trans hlen hn2)
  exact trk_call KX G.T.g G.T.b G.T.builtins G.T.nolimit hgens hT nT hC G.T.bmain hobj hF hb tr ok (hsp _ a ns hlen hbits tr.tab tr.scr)
end My

set_option Elab.async false
set_option linter.all false
set_option maxRecDepth 100000
namespace My
open PySem PySem.Spec PyProof.Rows L2 GxR

/-! ### what stays while a law goes on -/
theorem same_fr {L : Addr} {H0 H H' : Hp} (s : Same H0 H) (n0 : H0 L = none) (f : Fr L H H') : Same H0 H' := fun b o e =>
  f b o (fun z => by rw [z, n0] at e; cases e) (s b o e)
theorem sq_same {K : PySem.W.Frag} {H H' : Hp} {a : Addr} {xs : List V} (s : Same H H') (h : SqL K H a xs) : SqL K H' a xs := by
  rcases h with (h | ⟨o, h⟩) | h
  · exact .inl (.inl (s _ _ h))
  · exact .inl (.inr ⟨o, s _ _ h⟩)
  · exact .inr h
theorem same_refl (H : Hp) : Same H H := fun _ _ e => e
theorem wok_len {n : Nat} {ts : List Ar} (hW : WOk n ts) (hn : n ≤ 100) : ts.length ≤ 10000 :=
  Nat.le_trans (nd_len (m := pup n n) (nd_pw hW.1) fun t ht => (mem_pup (Nat.le_refl n)).mpr (by have := hW.2 t ht; omega)) (pup_len' hn (Nat.le_refl n))
theorem Eqd.bl {m : Nat} {H : Hp} {i : Bool} : Eqd m H (.bl i) (.bl i) := by
  cases m with
  | zero => exact ⟨rfl, .inr (.inl ⟨i, rfl⟩)⟩
  | succ m => exact .inl ⟨rfl, .inr (.inl ⟨i, rfl⟩)⟩
theorem Eqd.non {m : Nat} {H : Hp} : Eqd m H .non .non := by
  cases m with
  | zero => exact ⟨rfl, .inl rfl⟩
  | succ m => exact .inl ⟨rfl, .inl rfl⟩
theorem lst_eqd {H : Hp} {p q : Addr} {vs us : List V} {ts : List Ar} (hp : H p = some (.lst vs)) (hq : H q = some (.lst us)) (h : Ties H vs ts) (k : Ties H us ts) (l : ts.length ≤ 10000) : Eqd 2 H (.ref p) (.ref q) := by
  refine .inr ⟨p, q, vs, us, rfl, rfl, .inr ⟨hp, hq⟩, by rw [h.len, k.len], by rw [h.len]; exact l, fun i v u e f => ?_⟩
  obtain ⟨t1, e1, h1⟩ := h.at e
  obtain ⟨t2, e2, h2⟩ := k.at f
  rw [e1] at e2; cases e2
  exact tie_eqd h1 h2
theorem Eqd.up2 {m : Nat} {H : Hp} {x y : V} (h : Eqd m H x y) : Eqd (m + 2) H x y := h.up.up
theorem eqv_ties (ts : List Ar) : PyData.eqv (.list (ts.map dT)) (.list (ts.map dT)) = true := SeqAt.eqv_refl _ (can_ties ts)
theorem eqv_tiesT (ts : List Ar) : PyData.eqv (.tuple (ts.map dT)) (.tuple (ts.map dT)) = true := SeqAt.eqv_refl _ (can_ties ts)
theorem cutTo (xs : List V) (j : Nat) : cutV xs none (some (j : Int)) = xs.take j := by
  unfold cutV
  rw [HT.sIx_nat, HT.sIx_none, List.drop_zero, Nat.sub_zero]
  by_cases h : j ≤ xs.length
  · rw [Nat.min_eq_left h]
  · rw [Nat.min_eq_right (by omega), List.take_length, List.take_of_length_le (by omega)]
theorem Ties.take {H : Hp} : ∀ {vs : List V} {ts : List Ar} (j : Nat), Ties H vs ts → Ties H (vs.take j) (ts.take j)
  | _, _, 0, _ => by simp only [List.take_zero]; exact trivial
  | [], [], _ + 1, _ => trivial
  | _ :: _, _ :: _, j + 1, h => ⟨h.1, Ties.take j h.2⟩
  | [], _ :: _, _ + 1, h => h.elim
  | _ :: _, [], _ + 1, h => h.elim
theorem Ties.mem {H : Hp} {vs : List V} {ts : List Ar} {i : Nat} {v : V} (h : Ties H vs ts) (e : vs[i]? = some v) : ∃ t, t ∈ ts ∧ Tie H v t := by
  obtain ⟨t, e1, h1⟩ := h.at e
  exact ⟨t, List.mem_of_getElem? e1, h1⟩

theorem nd_get {qs : List Addr} (nd : qs.Nodup) {i j : Nat} {q : Addr} (h1 : qs[i]? = some q) (h2 : qs[j]? = some q) : i = j := by
  obtain ⟨li, ei⟩ := List.getElem?_eq_some_iff.mp h1
  obtain ⟨lj, ej⟩ := List.getElem?_eq_some_iff.mp h2
  have pw := List.pairwise_iff_getElem.mp (List.nodup_iff_pairwise_ne.mp nd)
  rcases Nat.lt_trichotomy i j with z | z | z
  · exact absurd (ei.trans ej.symm) (pw _ _ li lj z)
  · exact z
  · exact absurd (ej.trans ei.symm) (pw _ _ lj li z)
theorem same_free {H H' : Hp} {p : Addr} (s : Same H H') (h : H' p = none) : H p = none := by
  cases z : H p with
  | none => rfl
  | some o => rw [s _ _ z] at h; cases h
theorem neI (a b : Int) : (!decide (V.int a = V.int b)) = !decide (a = b) := congrArg (! ·) (decide_eq_decide.mpr ⟨fun e => V.int.inj e, fun e => congrArg V.int e⟩)
theorem natOf {a : Int} (h : 0 ≤ a) : ∃ k : Nat, a = (k : Int) := ⟨a.toNat, (Int.toNat_of_nonneg h).symm⟩
/-! ### a web as a text -/
def dW (n : Nat) (ts : List Ar) : PyData := .tuple [.int (n : Int), .tuple (ts.map dT)]
theorem Web.dp {K : PySem.W.Frag} {H : Hp} {v : V} {n : Nat} {ts : List Ar} (h : Web H v n ts) : Dp K H v (dW n ts) := by
  obtain ⟨p, q, vs, rfl, h1, h2, h3⟩ := h
  exact .tup (SqT.of h1) (.cons (.int _) (.cons (.tup (SqT.of h2) h3.dp) .nil))
theorem log_small {i : Int} (h0 : 0 ≤ i) (h : i < 100) : decide (i.natAbs.log2 < 1920) = true := by
  refine decide_eq_true ?_
  have : i.natAbs.log2 ≤ i.natAbs := Nat.log2_le_self _
  omega
theorem show_ties {n : Nat} {ts : List Ar} (hn : n ≤ 100) (hR : ∀ t ∈ ts, InR n t) : PyData.showableAll (ts.map dT) = true ∧ PyData.hasDictAll (ts.map dT) = false := by
  induction ts with
  | nil => exact ⟨rfl, rfl⟩
  | cons t l ih =>
    obtain ⟨i1, i2⟩ := ih fun x hx => hR x (List.mem_cons_of_mem _ hx)
    obtain ⟨a1, a2, a3, a4⟩ := hR t List.mem_cons_self
    rw [List.map_cons, PyData.showableAll, PyData.hasDictAll, i1, i2]
    constructor
    · show (PyData.showableAll [.int t.1, .int t.2] && true) = true
      rw [PyData.showableAll, PyData.showableAll, PyData.showableAll, PyData.showable, PyData.showable, log_small a1 (by omega), log_small a3 (by omega)]; rfl
    · rfl
theorem txt_small : ∀ k : Nat, k < 100 → ((toString ((k : Nat) : Int) : String) : Str).length ≤ 2 := by decide +kernel
theorem txt_len {i : Int} (h0 : 0 ≤ i) (h : i < 100) : ((toString i : String) : Str).length ≤ 2 := by
  obtain ⟨k, rfl⟩ : ∃ k : Nat, i = (k : Int) := ⟨i.toNat, (Int.toNat_of_nonneg h0).symm⟩
  exact txt_small k (by omega)
theorem tupleText_len (l : List Str) : (tupleText l).length ≤ piled l + 3 := by
  unfold tupleText
  rw [strLen_append, strLen_append]
  have e1 : ((("(" : String) : Str)).length = 1 := rfl
  have e3 : (((if l.length == 1 then ",)" else ")" : String) : Str)).length ≤ 2 := by split <;> decide
  rw [e1]
  by_cases h : l = []
  · subst h
    have : (Str.join ", " []).length = 0 := rfl
    omega
  · have := join_length_add l h
    omega
theorem shown_ties {n : Nat} {ts : List Ar} (hn : n ≤ 100) (hR : ∀ t ∈ ts, InR n t) : piled (PyData.shownAll (ts.map dT)) ≤ 13 * ts.length := by
  induction ts with
  | nil => exact Nat.le_refl _
  | cons t l ih =>
    have i1 := ih fun x hx => hR x (List.mem_cons_of_mem _ hx)
    obtain ⟨a1, a2, a3, a4⟩ := hR t List.mem_cons_self
    rw [List.map_cons, PyData.shownAll, piled_cons, List.length_cons]
    have h1 := tupleText_len (PyData.shownAll [.int t.1, .int t.2])
    rw [PyData.shownAll, PyData.shownAll, PyData.shownAll, piled_cons, piled_cons, piled_nil, PyData.shown, PyData.shown] at h1
    have h2 := txt_len a1 (by omega)
    have h3 := txt_len a3 (by omega)
    have h4 : (dT t).shown = tupleText [((toString t.1 : String) : Str), ((toString t.2 : String) : Str)] := by
      unfold dT
      rw [PyData.shown, PyData.shownAll, PyData.shownAll, PyData.shownAll, PyData.shown, PyData.shown]
    rw [h4]
    omega
theorem web_show {n : Nat} {ts : List Ar} (hW : WOk n ts) (hn : n ≤ 12) (hl : ts.length ≤ 10000) : (dW n ts).showable = true ∧ (dW n ts).hasDict = false ∧ (dW n ts).depth ≤ 50 ∧ (dW n ts).shown.length ≤ sizeLine := by
  have hR : ∀ t ∈ ts, InR n t := fun t ht => by
    have := hW.2 t ht
    exact ⟨this.1, by omega, by omega, this.2.2⟩
  obtain ⟨s1, s2⟩ := show_ties (n := n) (by omega) hR
  have s3 := shown_ties (n := n) (by omega) hR
  have s4 := dep_ties ts
  refine ⟨?_, ?_, ?_, ?_⟩
  · unfold dW
    rw [PyData.showable, PyData.showableAll, PyData.showableAll, PyData.showableAll, PyData.showable, PyData.showable, s1, log_small (by omega) (by omega)]; rfl
  · unfold dW
    rw [PyData.hasDict, PyData.hasDictAll, PyData.hasDictAll, PyData.hasDictAll, PyData.hasDict, PyData.hasDict, s2]; rfl
  · unfold dW
    rw [PyData.depth, PyData.depthAll, PyData.depthAll, PyData.depthAll, PyData.depth, PyData.depth]
    omega
  · unfold dW
    rw [PyData.shown, PyData.shownAll, PyData.shownAll, PyData.shownAll, PyData.shown, PyData.shown]
    have h1 := tupleText_len [((toString (n : Int) : String) : Str), tupleText (PyData.shownAll (ts.map dT))]
    rw [piled_cons, piled_cons, piled_nil] at h1
    have h2 := tupleText_len (PyData.shownAll (ts.map dT))
    have h3 := txt_len (i := (n : Int)) (by omega) (by omega)
    have h4 : 200000 ≤ sizeLine := by decide
    omega
/-- what str tells of a web -/
theorem web_str {K : PySem.W.Frag} {H : Hp} {v : V} {n : Nat} {ts : List Ar} {Q : VK} (h : Web H v n ts) (hW : WOk n ts) (hn : n ≤ 12) (hl : ts.length ≤ 10000) (q : Q (.str (dW n ts).shown) H) : rStrD K [v] H Q := by
  obtain ⟨s1, s2, s3, s4⟩ := web_show hW hn hl
  have hd := h.dp (K := K)
  obtain ⟨p, q', vs, rfl, _⟩ := h
  exact ⟨p, _, rfl, hd, s1, s2, s3, s4, q⟩
end My

set_option Elab.async false
set_option linter.all false
set_option maxRecDepth 100000
namespace My
open PySem PySem.Spec PyProof.Rows L2 GxR

/-! ### sorted(d), d a dict whose keys are pairs -/
theorem kt_ties {H : Hp} {kvs : List (List Key × V)} {xs : List (List Key × Addr × Value)} (r : KT H kvs xs) : ∀ {cs : List (Int × Int)}, kvs.map (·.1) = cs.map pk → Ties H (xs.map fun x => V.ref x.2.1) cs := by
  induction r with
  | nil =>
    intro cs e
    cases cs with
    | nil => exact trivial
    | cons c cs => cases e
  | cons h t ih =>
    rename_i p q l m
    intro cs e
    cases cs with
    | nil => cases e
    | cons c cs =>
      rw [List.map_cons, List.map_cons] at e
      obtain ⟨e1, e2⟩ := List.cons.inj e
      refine ⟨⟨q.2.1, rfl, ?_⟩, ih e2⟩
      rw [h.2.1, e1]; rfl
section
variable {X : Cx}
/-- what sorted does behind the collecting -/
theorem sort_rest {pins : List (Addr × Obj)} {σ : L2.St} {H : Hp} {s : Shared} {L : List Value} {cs : List (Int × Int)} {R : PySem.Fin → Shared → Prop} {E : Value → Shared → Prop} (I1 : Inv X pins σ H s) (hT : Ties H (L.map backV) cs) (rf : ∀ v ∈ L, ∃ b, v = Value.ref b) (hLz : L.length ≤ sizeLine)
    (hR : ∀ (p : Addr) (s' : Shared) (ys : List V) (ts : List (Int × Int)), Ties H ys ts → ts.Perm cs → ts.Pairwise (fun s t => ¬ ltT t s) → H p = none → Inv X pins σ (upd H p (.lst ys)) s' → R (.done (.ret (.ref p))) s') :
    wpAny (model X.prog X.w) X.A.in1 (newList L >>= fun l => holding [l] (call (.builtin "list.sort") [l]) >>= fun _ => ret l) R E s := by
  refine wpAny_bind (wpAny_newList ?_ hLz)
  have at0 : (s.heap.push (seqObj "list" L.toArray 0)).get? s.heap.objs.size = some (seqObj "list" L.toArray 0) := Heap.get?_push_size _ rfl
  have pr : ∀ v ∈ L, Srt.IsPair s.heap v (My.key H (backV v)).1 (My.key H (backV v)).2 := fun v hv => by
    have hb := hT.all (backV v) (List.mem_map.mpr ⟨v, hv, rfl⟩)
    obtain ⟨b, rfl⟩ := rf v hv
    obtain ⟨b', e, hb⟩ := hb
    cases e
    obtain ⟨_, its, r2, o2, ho2, hc2, n2, hd2⟩ := I1.hok _ _ hb
    obtain ⟨u1, u2, rfl, ⟨t1, rfl⟩, ⟨t2, rfl⟩⟩ := vals2 r2
    exact ⟨b, o2, t1, t2, n2, rfl, ho2, hc2, hd2⟩
  show wpAny _ _ _ _ _ { s with heap := s.heap.push (seqObj "list" L.toArray 0) }
  refine wpAny_bind (wpAny_holding (wpAny_call_entry PyProof.Rows.slot_list_sort ⟨_, at0, rfl⟩ PyProof.Rows.entry_list_sort (SrtO.list_sort_ord (s := { s with heap := s.heap.push (seqObj "list" L.toArray 0) }) (SrtO.swo_lex fun v => My.key H (backV v)) at0 hLz (fun h2 => ?_) fun out hs hb => ⟨_, rfl, ?_⟩) (PyProof.Rows.args_list_sort _)))
  · refine SrtO.pairs_sortableO (s := { s with heap := s.heap.push (seqObj "list" L.toArray 0) }) (k := fun v => My.key H (backV v)) (by omega) (fun v hv => (pr v hv).keeps fun b o e _ => Heap.get?_push_of_some _ e) fun o e => ?_
    have e' := e.symm.trans at0
    cases e'
    intro c
    exact absurd (Value.type.inj c) (by decide)
  · obtain ⟨e', he'⟩ := PyProof.Rows.sortedHeap_at (vs := L) (out := out.toArray) at0
    have ro : ∀ v ∈ out, ∃ b, v = Value.ref b := fun v hv => rf v (hb.perm.mem_iff.mp hv)
    have hs' : SrtO.Srtd (ltP (My.key H)) (out.map backV) := SrtO.srtd_map hs
    obtain ⟨ts, h1, h2, h3⟩ := srt_ties hs' (hb.perm.map backV) hT
    refine wpAny_pure (hR s.heap.objs.size _ _ ts h1 h2 h3 (I1.hok.fresh (Nat.le_refl _)) (I1.laid (t' := s.toks) (fun b ob e => ?_) (Nat.le_refl _) ⟨?_, out, e', vals_back ro, he'⟩))
    · have hlt : b < s.heap.objs.size := Heap.lt_size e
      rw [PyProof.Rows.sortedHeap_old (Nat.ne_of_lt hlt) (by rw [Heap.size_push]; exact Nat.lt_succ_of_lt hlt)]
      exact Heap.get?_push_of_some _ e
    · rw [List.length_map, hb.perm.length_eq]; exact hLz
end
def rSortedDT : List V → Hp → VK → Prop := fun vs H Q => ∃ (a : Addr) (kvs : List (List Key × V)) (cs : List (Int × Int)), vs = [.ref a] ∧ H a = some (.dT kvs) ∧ kvs.map (·.1) = cs.map pk ∧
  ∀ ys p ts, Ties H ys ts → ts.Perm cs → ts.Pairwise (fun s t => ¬ ltT t s) → H p = none → Q (.ref p) (upd H p (.lst ys))
def rSortedTT (K : PySem.W.Frag) : List V → Hp → VK → Prop := fun vs H Q => ∃ (a : Addr) (us : List V) (cs : List (Int × Int)), vs = [.ref a] ∧ SqT K H a us ∧ Ties H us cs ∧
  ∀ ys p ts, Ties H ys ts → ts.Perm cs → ts.Pairwise (fun s t => ¬ ltT t s) → H p = none → Q (.ref p) (upd H p (.lst ys))
section
variable {X : Cx}
theorem call_sortedDT (hc : X.calm = true) : CallR X (.builtin "sorted") rSortedDT := by
  rintro pins s σ H vs us Q I r ⟨a, kvs, cs, rfl, ha, hk, q⟩
  obtain ⟨u, rfl, ru⟩ := vals1 r
  obtain rfl : u = Value.ref a := ru
  obtain ⟨z, lo, xs, rel, o, es, ep, ho, hex, hdat, hes, his, hnd⟩ := dt_of I.hok ha
  have hsz : es.size = xs.length := size_of_entries hes
  have hlen : kvs.length = xs.length := Paired.length rel
  obtain ⟨L, hL⟩ : ∃ L : List Value, L = xs.map fun x => Value.ref x.2.1 := ⟨_, rfl⟩
  have hLl : L.length = xs.length := by rw [hL, List.length_map]
  have hback : L.map backV = xs.map fun x => V.ref x.2.1 := by
    rw [hL, List.map_map]; rfl
  have hT : Ties H (L.map backV) cs := by rw [hback]; exact kt_ties rel hk
  refine Calls.call_function_entry PyProof.Rows.kind_sorted PyProof.Rows.plain_sorted PyProof.Rows.entry_sorted (PyProof.Rows.args_sorted1 _) (?_ : wpAny _ _ (Builtin.«sorted» ⟨[.ref a], []⟩) _ _ s)
  unfold Builtin.«sorted»
  refine wpAny_bind (m := checkCount "sorted" 1 1 _) (wpAny_pure (wpAny_bind (PySem.W.kdu_collect (A := X.A.in1) (PySem.KdlSrc.rawDict (es := es) (ep := ep) lo) (I.ok.hd hc) ⟨o, ho, hex, hdat⟩ (by rw [hsz, ← hlen]; exact z) fun h' tk acc kp hacc => ?_)))
  have hA : acc.toList = L := by
    refine List.ext_getElem? fun j => ?_
    rw [hL, List.getElem?_map]
    by_cases hj : j < xs.length
    · have hj2 : j < acc.size := by rw [hacc.1, hsz]; exact hj
      obtain ⟨hi, e⟩ := hacc.2 j acc[j] (Array.getElem?_eq_getElem hj2)
      have e1 := entry_at hes j
      rw [Array.getElem?_eq_getElem hi, List.getElem?_eq_getElem hj] at e1
      have e2 := Option.some.inj e1
      rw [Array.getElem?_toList, Array.getElem?_eq_getElem hj2, e, e2, List.getElem?_eq_getElem hj]; rfl
    · rw [List.getElem?_eq_none (l := acc.toList) (by rw [Array.length_toList, hacc.1, hsz]; omega), List.getElem?_eq_none (l := xs) (by omega)]; rfl
  rw [hA]
  refine sort_rest (I.kept kp) hT (fun v hv => ?_) (by rw [hLl, ← hlen]; exact z) fun p s' ys ts h1 h2 h3 np J => ⟨_, rfl, .ref p, _, J, rfl, q ys p ts h1 h2 h3 np⟩
  rw [hL] at hv
  obtain ⟨x, _, rfl⟩ := List.mem_map.mp hv
  exact ⟨_, rfl⟩
theorem collect_tup {prog : Program} {w : World} {A : Around} {E : Value → Shared → Prop} {s : Shared} {l : Addr} {vs : List Value} {Q : List Value → Shared → Prop} (hl : IsTup s.heap l vs.toArray) (hsz : vs.length ≤ sizeLine)
    (h : ∀ h', (∀ b o, s.heap.get? b = some o → h'.get? b = some o) → Q vs { s with heap := h' }) : wpAny (model prog w) A (collect (.ref l)) Q E s := by
  obtain ⟨o, ho, hc, n, hd⟩ := id hl
  have up : (s.heap.push (seqObj "list" #[] 0)).get? l = some o := Heap.get?_push_of_some _ ho
  have me : (s.heap.push (seqObj "list" #[] 0)).get? s.heap.objs.size = some (seqObj "list" #[] 0) := Heap.get?_push_size _ rfl
  unfold collect
  refine wpAny_bind (wpAny_runValue (codeAny_builtin entry_proto_collect' (?_ : wpAny _ _ (do again (.builtin "list.__iadd__" ⟨[← newList [], .ref l], []⟩)) _ _ s)))
  refine wpAny_bind (wpAny_newList (wpAny_pure ⟨Code.quiet_builtin _ (by decide +kernel), codeAny_builtin entry_list_iadd' (?_ : wpAny _ _ (Builtin.List.listExtendWith (.ref s.heap.objs.size) (.ref l) (.ref s.heap.objs.size)) _ _ { s with heap := s.heap.push (seqObj "list" #[] 0) })⟩))
  unfold Builtin.List.listExtendWith
  refine wpAny_bind (wpAny_typeOf (T := "tuple") ⟨o, up, hc⟩ ?_)
  have tt : (Value.type "tuple" == Value.type "tuple") = true := rfl
  rw [if_pos (by rw [tt]; simp)]
  refine wpAny_bind (listItems_at up hd (wpAny_bind (listItems_at me rfl ?_)))
  rw [if_neg (by simp)]
  refine wpAny_bind (listUpdate_at me rfl (wpAny_pure ?_) (Nat.zero_le _) (by show (#[] ++ vs.toArray).size ≤ sizeLine + 1; simp only [Array.size_append, List.size_toArray, List.length_nil]; omega))
  show wpAny (model prog w) A (load s.heap.objs.size >>= fun o => match o.data with | .seq xs _ => pure xs.toList | _ => unsupported "internal:collect") Q E { s with heap := (s.heap.push (seqObj "list" #[] 0)).update s.heap.objs.size (Obj.mapSeq (· ++ vs.toArray)) }
  refine wpAny_bind (wpAny_load (get?_update_seq me _) (?_ : wpAny _ _ (pure ((#[] : Array Value) ++ vs.toArray).toList) Q E _))
  rw [show ((#[] : Array Value) ++ vs.toArray).toList = vs by simp]
  refine wpAny_pure (h _ fun b ob e => ?_)
  rw [Heap.get?_update_ne _ _ _ _ (Nat.ne_of_lt (Heap.lt_size e))]
  exact Heap.get?_push_of_some _ e
theorem back_refs {H : Hp} : ∀ {us : List V} {its : List Value} {cs : List (Int × Int)}, Vals us its → Ties H us cs → its.map backV = us ∧ ∀ v ∈ its, ∃ b, v = Value.ref b
  | _, _, _, .nil, _ => ⟨rfl, fun v hv => absurd hv List.not_mem_nil⟩
  | _ :: _, _ :: _, [], .cons _ _, h => h.elim
  | _ :: _, _ :: _, _ :: _, .cons r t, h => by
    obtain ⟨i1, i2⟩ := back_refs t h.2
    obtain ⟨p, rfl, _⟩ := h.1
    cases r
    refine ⟨by rw [List.map_cons, i1]; rfl, fun v hv => ?_⟩
    rcases List.mem_cons.mp hv with rfl | hv
    · exact ⟨_, rfl⟩
    · exact i2 v hv
theorem call_sortedTT : CallR X (.builtin "sorted") (rSortedTT X.K) := by
  rintro pins s σ H vs us Q I r ⟨a, ws, cs, rfl, ha, hT, q⟩
  obtain ⟨u, rfl, ru⟩ := vals1 r
  obtain rfl : u = Value.ref a := ru
  obtain ⟨its, rv, ht, hz⟩ := I.tuple ha
  obtain ⟨b1, b2⟩ := back_refs rv hT
  refine Calls.call_function_entry PyProof.Rows.kind_sorted PyProof.Rows.plain_sorted PyProof.Rows.entry_sorted (PyProof.Rows.args_sorted1 _) (?_ : wpAny _ _ (Builtin.«sorted» ⟨[.ref a], []⟩) _ _ s)
  unfold Builtin.«sorted»
  have hz' : its.length ≤ sizeLine := by rw [← rv.length]; exact hz
  refine wpAny_bind (m := checkCount "sorted" 1 1 _) (wpAny_pure (wpAny_bind (collect_tup ht hz' fun h' kp => ?_)))
  exact sort_rest (I.kept (t' := s.toks) kp) (by rw [b1]; exact hT) b2 hz' fun p s' ys ts h1 h2 h3 np J => ⟨_, rfl, .ref p, _, J, rfl, q ys p ts h1 h2 h3 np⟩
end
end My

set_option Elab.async false
set_option linter.all false
set_option maxRecDepth 100000
namespace My
open PySem PySem.Spec PyProof.Rows L2 GxR
/-! ### lists of numbers as data -/
def dI (ns : List Int) : PyData := .list (ns.map PyData.int)
theorem dpI {K : PySem.W.Frag} {H : Hp} : ∀ ns : List Int, DpAll K H (ns.map V.int) (ns.map PyData.int)
  | [] => .nil
  | _ :: ns => .cons (.int _) (dpI ns)
theorem shaped_dI (ns : List Int) : SeqAt.shaped (dI ns) = true := by
  unfold SeqAt.shaped dI
  rw [Bool.and_eq_true, decide_eq_true_eq]
  constructor
  · show PyData.canLayAll0 _ = true
    induction ns with
    | nil => rfl
    | cons a l ih => rw [List.map_cons, PyData.canLayAll0, ih]; rfl
  · show PyData.depthAll _ + 1 ≤ 64
    have : PyData.depthAll (ns.map PyData.int) = 0 := by
      induction ns with
      | nil => rfl
      | cons a l ih => rw [List.map_cons, PyData.depthAll, ih]; rfl
    omega
theorem eqv_dI (ns : List Int) : PyData.eqv (dI ns) (dI ns) = true := by
  show PyData.eqvAll (ns.map PyData.int) (ns.map PyData.int) = true
  induction ns with
  | nil => rfl
  | cons a l ih =>
    rw [List.map_cons]
    show ((a == a) && PyData.eqvAll (l.map PyData.int) (l.map PyData.int)) = true
    rw [ih, beq_self_eq_true]; rfl
theorem cutFrom (xs : List V) (j : Nat) : cutV xs (some (j : Int)) none = xs.drop j := by
  unfold cutV
  rw [HT.sIx_nat, HT.sIx_none]
  by_cases h : j ≤ xs.length
  · rw [Nat.min_eq_left h, ← List.length_drop, List.take_length]
  · rw [Nat.min_eq_right (by omega), Nat.sub_self, List.take_zero, List.drop_eq_nil_of_le (by omega)]
/-! ### lists of lists of arrows as data -/
def dL (c : List Ar) : PyData := .list (c.map dT)
theorem can_lists (cls : List (List Ar)) : PyData.canLayAll0 (cls.map dL) = true := by
  induction cls with
  | nil => rfl
  | cons a l ih =>
    rw [List.map_cons, PyData.canLayAll0, ih]
    have : (dL a).canLay0 = true := can_ties a
    rw [this]; rfl
theorem dep_lists (cls : List (List Ar)) : PyData.depthAll (cls.map dL) ≤ 2 := by
  induction cls with
  | nil => exact Nat.zero_le _
  | cons a l ih =>
    rw [List.map_cons, PyData.depthAll]
    have : (dL a).depth ≤ 2 := by
      show PyData.depthAll (a.map dT) + 1 ≤ 2
      have := dep_ties a
      omega
    omega
theorem shaped_lists (cls : List (List Ar)) : SeqAt.shaped (.list (cls.map dL)) = true := by
  unfold SeqAt.shaped
  rw [Bool.and_eq_true, decide_eq_true_eq]
  refine ⟨can_lists cls, ?_⟩
  show PyData.depthAll _ + 1 ≤ 64
  have := dep_lists cls
  omega
theorem any_dL {cls : List (List Ar)} {c : List Ar} (h : c ∈ cls) : ((cls.map dL).any fun z => PyData.eqv z (dL c)) = true :=
  List.any_eq_true.mpr ⟨dL c, List.mem_map.mpr ⟨c, h, rfl⟩, eqv_ties c⟩
end My

set_option Elab.async false
set_option linter.all false
set_option maxRecDepth 100000
namespace My
open PySem PySem.Spec PyProof.Rows L2 GxR
open PySem.W (dataLt keyToks lex_atom lex_one minD alike min_list_data)

/-! ### min of a list of pairs -/
theorem dlt_dT (s t : Int × Int) : dataLt (dT s) (dT t) = true ↔ ltT s t := by
  obtain ⟨a, b⟩ := s
  obtain ⟨c, d⟩ := t
  have e1 : keyToks (dT (a, b)) = [.inl 1, .inl a, .inl 1, .inl b, .inl 0] := rfl
  have e2 : keyToks (dT (c, d)) = [.inl 1, .inl c, .inl 1, .inl d, .inl 0] := rfl
  have one : ∀ x y : Int, PyProof.Rows.lexLt itemOrd [.inl x] [.inl y] = decide (x < y) := fun x y => lex_one _ _
  unfold dataLt ltT
  rw [e1, e2, lex_self]
  by_cases h1 : a = c
  · subst h1
    rw [lex_self, lex_self]
    by_cases h2 : b = d
    · subst h2
      rw [lex_self, lex_self]
      simp [PyProof.Rows.lexLt]
    · rw [lex_atom (fun z => h2 (Sum.inl.inj z)), one]
      simp
  · rw [lex_atom (fun z => h1 (Sum.inl.inj z)), one]
    simp [h1]
theorem minD_dT : ∀ (cs : List (Int × Int)) (c : Int × Int), ∃ m, minD (dT c) (cs.map dT) = dT m ∧ m ∈ c :: cs ∧ ∀ y ∈ c :: cs, ¬ ltT y m
  | [], c => ⟨c, rfl, List.mem_cons_self, fun y hy => by rw [List.mem_singleton.mp hy]; exact ltT_irr⟩
  | d :: cs, c => by
    by_cases h : ltT d c
    · obtain ⟨m, e, h1, h2⟩ := minD_dT cs d
      refine ⟨m, ?_, List.mem_cons_of_mem _ h1, fun y hy => ?_⟩
      · rw [← e]
        show List.foldl _ (if dataLt (dT d) (dT c) then dT d else dT c) _ = _
        rw [if_pos ((dlt_dT d c).mpr h)]; rfl
      · rcases List.mem_cons.mp hy with rfl | hy
        · intro k
          exact h2 d List.mem_cons_self (by unfold ltT at *; omega)
        · exact h2 y hy
    · obtain ⟨m, e, h1, h2⟩ := minD_dT cs c
      refine ⟨m, ?_, ?_, fun y hy => ?_⟩
      · rw [← e]
        show List.foldl _ (if dataLt (dT d) (dT c) then dT d else dT c) _ = _
        rw [if_neg (fun z => h ((dlt_dT d c).mp z))]; rfl
      · rcases List.mem_cons.mp h1 with rfl | h1
        · exact List.mem_cons_self
        · exact List.mem_cons_of_mem _ (List.mem_cons_of_mem _ h1)
      · rcases List.mem_cons.mp hy with rfl | hy
        · exact h2 _ List.mem_cons_self
        · rcases List.mem_cons.mp hy with rfl | hy
          · intro k
            have := h2 c List.mem_cons_self
            unfold ltT at *; omega
          · exact h2 y (List.mem_cons_of_mem _ hy)
def rMinT (K : PySem.W.Frag) : List V → Hp → VK → Prop := fun vs H Q => ∃ (a : Addr) (us : List V) (cs : List (Int × Int)), vs = [.ref a] ∧ SqL K H a us ∧ Ties H us cs ∧ cs ≠ [] ∧
  ∀ x m, m ∈ cs → (∀ y ∈ cs, ¬ ltT y m) → Tie H x m → Q x H
theorem vals_at : ∀ {xs : List V} {us : List Value} {i : Nat} {u : Value}, Vals xs us → us[i]? = some u → ∃ x, xs[i]? = some x ∧ RelV x u
  | _, _, _, _, .nil, h => by cases h
  | _, _, 0, _, .cons r _, h => by cases h; exact ⟨_, rfl, r⟩
  | _, _, i + 1, _, .cons _ t, h => vals_at (i := i) t h
theorem alike_dT (s t : Int × Int) : alike (dT s) (dT t) = true := rfl
section
variable {X : Cx}
theorem cr_minT (hc : X.calm = true) (hu : X.A.units + 65 < cLine) : CallR X (.builtin "min") (rMinT X.K) := by
  rintro pins s σ H vs us Q I r ⟨a, ws, cs, rfl, ha, hT, hne, q⟩
  obtain ⟨u, rfl, ru⟩ := vals1 r
  obtain rfl : u = Value.ref a := ru
  obtain ⟨its, rv, hl, hz⟩ := I.list ha
  obtain ⟨as, hr⟩ := Dp.readsAll I (cs.map dT) ws its hT.dp rv
  cases cs with
  | nil => exact absurd rfl hne
  | cons c cs =>
    obtain ⟨m, em, h1, h2⟩ := minD_dT cs c
    have hd := dep_ties (c :: cs)
    refine min_list_data (x := dT c) (xs := cs.map dT) (I.ok.hd hc) hl.isList (by simpa using hr) ⟨fun x hx y hy => ?_, fun x hx => ?_⟩ (by rw [← List.map_cons]; omega) fun i v h' tk bs hv hrd kp => ?_
    · rw [← List.map_cons] at hx hy
      obtain ⟨s, _, rfl⟩ := List.mem_map.mp hx
      obtain ⟨t, _, rfl⟩ := List.mem_map.mp hy
      exact alike_dT s t
    · rw [← List.map_cons] at hx
      obtain ⟨s, _, rfl⟩ := List.mem_map.mp hx
      exact fun z => by cases z
    · rw [em] at hrd
      have hi : i < its.length := by
        have := (Array.getElem?_eq_some_iff.mp hv).1
        simpa using this
      have hv' : its[i]? = some v := by simpa using hv
      obtain ⟨x, hx, rx⟩ := vals_at rv hv'
      obtain ⟨t, tm, ht⟩ := hT.at hx
      have I1 : Inv X pins σ H { s with heap := h', toks := tk } := I.kept kp
      obtain ⟨b, rfl, eb⟩ := id ht
      obtain rfl : v = Value.ref b := rx
      obtain ⟨_, its2, r2, o2, ho2, hc2, n2, hd2⟩ := I1.hok _ _ eb
      obtain ⟨u1, u2, rfl, ⟨t1, rfl⟩, ⟨t2, rfl⟩⟩ := vals2 r2
      obtain ⟨ta, tb⟩ := t
      obtain ⟨ma, mb⟩ := m
      have e : (ta, tb) = (ma, mb) := by
        cases hrd with
        | tuple g1 g2 g3 g4 =>
          have g1' := g1.symm.trans ho2
          cases g1'
          rw [hd2] at g3
          cases g3
          cases g4 with
          | cons a1 b1 =>
            cases b1 with
            | cons a2 b2 =>
              cases a1; cases a2
              rfl
      exact ⟨.ref b, H, I1, rfl, q _ _ h1 h2 (e ▸ ht)⟩
end
end My

set_option Elab.async false
set_option linter.all false
set_option maxRecDepth 100000
namespace My
open PySem PySem.Spec PyProof.Rows L2 GxR
open PySem.W (dataLt keyToks lex_atom lex_one minD alike min_list_data)

/-! ### not in, of tuples -/
def rNotInDT (K : PySem.W.Frag) : R2 := fun x y H Q => ∃ d ds, Dp K H x d ∧ Dp K H y (.tuple ds) ∧ SeqAt.shaped d = true ∧ SeqAt.shaped (.tuple ds) = true ∧ Q (.bl (!(ds.any fun z => PyData.eqv z d))) H
theorem op_notInDT {X : Cx} (hu : X.A.units + 65 < cLine) : OpR X (compareOp .NotIn) (rNotInDT X.K) := fun pins s σ H x y v u Q I rx ry ⟨d, ds, hd, he, sd, se, q⟩ => by
  obtain ⟨as, r1⟩ := Dp.reads I d x v hd rx
  obtain ⟨bs, r2⟩ := Dp.reads I (.tuple ds) y u he ry
  exact SeqAt.notIn_tuple_reads r2 r1 (SeqAt.canLay_of_shaped se) (SeqAt.canLay_of_shaped sd) (room_in_shaped sd hu) ⟨.bl _, H, I, rfl, q⟩
/-! ### threes -/
abbrev Th := Int × Int × Int
def T3 (H : Hp) (v : V) (t : Th) : Prop := ∃ p, v = .ref p ∧ H p = some (.tup [.int t.1, .int t.2.1, .int t.2.2])
def T3s (H : Hp) : List V → List Th → Prop
  | [], [] => True
  | v :: vs, t :: ts => T3 H v t ∧ T3s H vs ts
  | _, _ => False
theorem T3.mono {H H' : Hp} {v : V} {t : Th} (a : Tst H H') (h : T3 H v t) : T3 H' v t := by
  obtain ⟨p, e, h⟩ := h
  exact ⟨p, e, a _ _ h⟩
theorem T3s.mono {H H' : Hp} (a : Tst H H') : ∀ {vs : List V} {ts : List Th}, T3s H vs ts → T3s H' vs ts
  | [], [], _ => trivial
  | _ :: _, _ :: _, h => ⟨h.1.mono a, T3s.mono a h.2⟩
  | [], _ :: _, h => h.elim
  | _ :: _, [], h => h.elim
theorem T3s.app {H : Hp} : ∀ {vs : List V} {ts : List Th} {us : List V} {rs : List Th}, T3s H vs ts → T3s H us rs → T3s H (vs ++ us) (ts ++ rs)
  | [], [], _, _, _, k => k
  | _ :: _, _ :: _, _, _, h, k => ⟨h.1, T3s.app h.2 k⟩
  | [], _ :: _, _, _, h, _ => h.elim
  | _ :: _, [], _, _, h, _ => h.elim
theorem T3s.len {H : Hp} : ∀ {vs : List V} {ts : List Th}, T3s H vs ts → vs.length = ts.length
  | [], [], _ => rfl
  | _ :: _, _ :: _, h => congrArg (· + 1) (T3s.len h.2)
  | [], _ :: _, h => h.elim
  | _ :: _, [], h => h.elim
theorem T3s.at {H : Hp} : ∀ {vs : List V} {ts : List Th} {i : Nat} {v : V}, T3s H vs ts → vs[i]? = some v → ∃ t, ts[i]? = some t ∧ T3 H v t
  | [], [], _, _, _, e => by cases e
  | _ :: _, t :: _, 0, _, h, e => by cases e; exact ⟨t, rfl, h.1⟩
  | _ :: _, _ :: _, i + 1, _, h, e => T3s.at (i := i) h.2 e
  | [], _ :: _, _, _, h, _ => h.elim
  | _ :: _, [], _, _, h, _ => h.elim
def d3 (t : Th) : PyData := .tuple [.int t.1, .int t.2.1, .int t.2.2]
theorem T3.dp {K : PySem.W.Frag} {H : Hp} {v : V} {t : Th} (h : T3 H v t) : Dp K H v (d3 t) := by
  obtain ⟨p, rfl, h⟩ := h
  exact .tup (SqT.of h) (.cons (.int _) (.cons (.int _) (.cons (.int _) .nil)))
theorem T3s.dp {K : PySem.W.Frag} {H : Hp} : ∀ {vs : List V} {ts : List Th}, T3s H vs ts → DpAll K H vs (ts.map d3)
  | [], [], _ => .nil
  | _ :: _, _ :: _, h => .cons h.1.dp (T3s.dp h.2)
  | [], _ :: _, h => h.elim
  | _ :: _, [], h => h.elim
theorem can_d3 (ts : List Th) : PyData.canLayAll0 (ts.map d3) = true := by
  induction ts with
  | nil => rfl
  | cons a l ih => rw [List.map_cons, PyData.canLayAll0, ih]; rfl
theorem dep_d3 (ts : List Th) : PyData.depthAll (ts.map d3) ≤ 1 := by
  induction ts with
  | nil => exact Nat.zero_le _
  | cons a l ih =>
    rw [List.map_cons, PyData.depthAll]
    have : (d3 a).depth = 1 := rfl
    omega
theorem shaped_d3s (ts : List Th) : SeqAt.shaped (.list (ts.map d3)) = true := by
  unfold SeqAt.shaped
  rw [Bool.and_eq_true, decide_eq_true_eq]
  refine ⟨can_d3 ts, ?_⟩
  show PyData.depthAll _ + 1 ≤ 64
  have := dep_d3 ts
  omega
theorem eqv_nil3 (wl : List Th) : PyData.eqv (.list (wl.map d3)) (.list []) = decide (wl = []) := by
  cases wl with
  | nil => rfl
  | cons a l => rfl
def lt3 (s t : Th) : Prop := s.1 < t.1 ∨ (s.1 = t.1 ∧ (s.2.1 < t.2.1 ∨ (s.2.1 = t.2.1 ∧ s.2.2 < t.2.2)))
theorem dlt_d3 (s t : Th) : dataLt (d3 s) (d3 t) = true ↔ lt3 s t := by
  obtain ⟨a, b, c⟩ := s
  obtain ⟨d, e, f⟩ := t
  have e1 : keyToks (d3 (a, b, c)) = [.inl 1, .inl a, .inl 1, .inl b, .inl 1, .inl c, .inl 0] := rfl
  have e2 : keyToks (d3 (d, e, f)) = [.inl 1, .inl d, .inl 1, .inl e, .inl 1, .inl f, .inl 0] := rfl
  have one : ∀ x y : Int, PyProof.Rows.lexLt itemOrd [.inl x] [.inl y] = decide (x < y) := fun x y => lex_one _ _
  unfold dataLt lt3
  rw [e1, e2, lex_self]
  by_cases h1 : a = d
  · subst h1
    rw [lex_self, lex_self]
    by_cases h2 : b = e
    · subst h2
      rw [lex_self, lex_self]
      by_cases h3 : c = f
      · subst h3
        rw [lex_self, lex_self]
        simp [PyProof.Rows.lexLt]
      · rw [lex_atom (fun z => h3 (Sum.inl.inj z)), one]
        simp
    · rw [lex_atom (fun z => h2 (Sum.inl.inj z)), one]
      simp [h2]
  · rw [lex_atom (fun z => h1 (Sum.inl.inj z)), one]
    simp [h1]
theorem lt3_irr {t : Th} : ¬ lt3 t t := by unfold lt3; omega
theorem minD_d3 : ∀ (cs : List Th) (c : Th), ∃ m, minD (d3 c) (cs.map d3) = d3 m ∧ m ∈ c :: cs ∧ ∀ y ∈ c :: cs, ¬ lt3 y m
  | [], c => ⟨c, rfl, List.mem_cons_self, fun y hy => by rw [List.mem_singleton.mp hy]; exact lt3_irr⟩
  | d :: cs, c => by
    by_cases h : lt3 d c
    · obtain ⟨m, e, h1, h2⟩ := minD_d3 cs d
      refine ⟨m, ?_, List.mem_cons_of_mem _ h1, fun y hy => ?_⟩
      · rw [← e]
        show List.foldl _ (if dataLt (d3 d) (d3 c) then d3 d else d3 c) _ = _
        rw [if_pos ((dlt_d3 d c).mpr h)]; rfl
      · rcases List.mem_cons.mp hy with rfl | hy
        · intro k
          exact h2 d List.mem_cons_self (by unfold lt3 at *; omega)
        · exact h2 y hy
    · obtain ⟨m, e, h1, h2⟩ := minD_d3 cs c
      refine ⟨m, ?_, ?_, fun y hy => ?_⟩
      · rw [← e]
        show List.foldl _ (if dataLt (d3 d) (d3 c) then d3 d else d3 c) _ = _
        rw [if_neg (fun z => h ((dlt_d3 d c).mp z))]; rfl
      · rcases List.mem_cons.mp h1 with rfl | h1
        · exact List.mem_cons_self
        · exact List.mem_cons_of_mem _ (List.mem_cons_of_mem _ h1)
      · rcases List.mem_cons.mp hy with rfl | hy
        · exact h2 _ List.mem_cons_self
        · rcases List.mem_cons.mp hy with rfl | hy
          · intro k
            have := h2 c List.mem_cons_self
            unfold lt3 at *; omega
          · exact h2 y (List.mem_cons_of_mem _ hy)
def rMinT3 (K : PySem.W.Frag) : List V → Hp → VK → Prop := fun vs H Q => ∃ (a : Addr) (us : List V) (cs : List Th), vs = [.ref a] ∧ SqL K H a us ∧ T3s H us cs ∧ cs ≠ [] ∧
  ∀ x m, m ∈ cs → (∀ y ∈ cs, ¬ lt3 y m) → T3 H x m → Q x H
theorem alike_d3 (s t : Th) : alike (d3 s) (d3 t) = true := rfl
theorem vals3 {x y z : V} {us : List Value} (r : Vals [x, y, z] us) : ∃ a b c, us = [a, b, c] ∧ RelV x a ∧ RelV y b ∧ RelV z c := by
  cases r with
  | cons r1 t =>
    cases t with
    | cons r2 t =>
      cases t with
      | cons r3 t => cases t; exact ⟨_, _, _, rfl, r1, r2, r3⟩
section
variable {X : Cx}
theorem cr_minT3 (hc : X.calm = true) (hu : X.A.units + 65 < cLine) : CallR X (.builtin "min") (rMinT3 X.K) := by
  rintro pins s σ H vs us Q I r ⟨a, ws, cs, rfl, ha, hT, hne, q⟩
  obtain ⟨u, rfl, ru⟩ := vals1 r
  obtain rfl : u = Value.ref a := ru
  obtain ⟨its, rv, hl, hz⟩ := I.list ha
  obtain ⟨as, hr⟩ := Dp.readsAll I (cs.map d3) ws its hT.dp rv
  cases cs with
  | nil => exact absurd rfl hne
  | cons c cs =>
    obtain ⟨m, em, h1, h2⟩ := minD_d3 cs c
    have hd := dep_d3 (c :: cs)
    refine min_list_data (x := d3 c) (xs := cs.map d3) (I.ok.hd hc) hl.isList (by simpa using hr) ⟨fun x hx y hy => ?_, fun x hx => ?_⟩ (by rw [← List.map_cons]; omega) fun i v h' tk bs hv hrd kp => ?_
    · rw [← List.map_cons] at hx hy
      obtain ⟨s, _, rfl⟩ := List.mem_map.mp hx
      obtain ⟨t, _, rfl⟩ := List.mem_map.mp hy
      exact alike_d3 s t
    · rw [← List.map_cons] at hx
      obtain ⟨s, _, rfl⟩ := List.mem_map.mp hx
      exact fun z => by cases z
    · rw [em] at hrd
      have hv' : its[i]? = some v := by simpa using hv
      obtain ⟨x, hx, rx⟩ := vals_at rv hv'
      obtain ⟨t, tm, ht⟩ := hT.at hx
      have I1 : Inv X pins σ H { s with heap := h', toks := tk } := I.kept kp
      obtain ⟨b, rfl, eb⟩ := id ht
      obtain rfl : v = Value.ref b := rx
      obtain ⟨_, its2, r2, o2, ho2, hc2, n2, hd2⟩ := I1.hok _ _ eb
      obtain ⟨u1, u2, u3, rfl, ⟨t1, rfl⟩, ⟨t2, rfl⟩, ⟨t3, rfl⟩⟩ := vals3 r2
      obtain ⟨ta, tb, tc⟩ := t
      obtain ⟨ma, mb, mc⟩ := m
      have e : (ta, tb, tc) = (ma, mb, mc) := by
        cases hrd with
        | tuple g1 g2 g3 g4 =>
          have g1' := g1.symm.trans ho2
          cases g1'
          rw [hd2] at g3
          cases g3
          cases g4 with
          | cons a1 b1 =>
            cases b1 with
            | cons a2 b2 =>
              cases b2 with
              | cons a3 b3 =>
                cases a1; cases a2; cases a3
                rfl
      exact ⟨.ref b, H, I1, rfl, q _ _ h1 h2 (e ▸ ht)⟩
end
theorem t3_eqd {H : Hp} {v u : V} {t : Th} (h : T3 H v t) (k : T3 H u t) : Eqd 1 H v u := by
  obtain ⟨p, rfl, h⟩ := h
  obtain ⟨q, rfl, k⟩ := k
  refine .inr ⟨p, q, _, _, rfl, rfl, .inl ⟨h, k⟩, rfl, by show 3 ≤ 10000; decide, fun i v u e f => ?_⟩
  match i, e, f with
  | 0, e, f => cases e; cases f; exact Eqd.int
  | 1, e, f => cases e; cases f; exact Eqd.int
  | 2, e, f => cases e; cases f; exact Eqd.int
end My

set_option Elab.async false
set_option linter.all false
set_option maxRecDepth 100000
namespace My
open PySem PySem.Spec PyProof.Rows L2 GxR
section
variable {P : Program} {w : World} {K : PySem.W.Frag} {mg : Str → Option Value} {base : Heap}
end
end My

set_option Elab.async false
set_option linter.all false
set_option maxRecDepth 100000
namespace My
open PySem PySem.Spec PyProof.Rows L2 GxR
theorem valV_keys {o : Ar} : ∀ {ms : List (List Key × V)} {cs : List Ar}, ms.map (·.1) = cs.map pk → (valV ms (pk o)).isSome = decide (o ∈ cs)
  | [], [], _ => rfl
  | [], _ :: _, h => by cases h
  | _ :: _, [], h => by cases h
  | m :: ms, c :: cs, h => by
    rw [List.map_cons, List.map_cons] at h
    have h1 : m.1 = pk c := (List.cons.inj h).1
    have ih := valV_keys (o := o) (List.cons.inj h).2
    by_cases e : c = o
    · subst e
      rw [valV_pos h1]
      exact (decide_eq_true List.mem_cons_self).symm
    · rw [valV_neg (fun z => e (pk_inj (h1.symm.trans z))), ih]
      refine decide_eq_decide.mpr ?_
      rw [List.mem_cons]
      exact ⟨.inr, fun z => z.elim (fun z => absurd z.symm e) id⟩
theorem keys_put {ms : List (List Key × V)} {cs : List Ar} {o : Ar} {v : V} (h : ms.map (·.1) = cs.map pk) (hn : ¬ o ∈ cs) : (putK ms (pk o) v).map (·.1) = (cs ++ [o]).map pk := by
  have e : (ms.any fun kv => decide (kv.1 = pk o)) = false := by
    rw [valV_any, valV_keys h]; exact decide_eq_false hn
  unfold putK
  rw [e]
  show (ms ++ [(pk o, v)]).map (·.1) = _
  rw [List.map_append, List.map_append, h]; rfl
theorem Ties.dropLast {H : Hp} : ∀ {vs : List V} {ts : List Ar}, Ties H vs ts → Ties H vs.dropLast ts.dropLast
  | [], [], _ => trivial
  | [_], [_], _ => trivial
  | _ :: _ :: _, _ :: _ :: _, h => ⟨h.1, Ties.dropLast h.2⟩
  | [], _ :: _, h => h.elim
  | _ :: _, [], h => h.elim
  | [_], _ :: _ :: _, h => h.2.elim
  | _ :: _ :: _, [_], h => h.2.elim
theorem comeR_ok {n : Nat} {ts : List Ar} : ∀ (k : Nat) {fw : List Ar × List Ar}, GrowI n fw → (comeR n ts k fw).Nodup ∧ ∀ t ∈ comeR n ts k fw, InR n t
  | 0, fw, h => ⟨h.nd, h.rng⟩
  | k + 1, fw, h => by
    unfold comeR
    cases e : fw.2.getLast? with
    | none => exact ⟨h.nd, h.rng⟩
    | some x =>
      have hx : InR n x := h.sub x (List.mem_of_getLast? e)
      exact comeR_ok k (grow_all (fs := frcS n ts x) (fw := (fw.1, fw.2.dropLast)) ⟨h.nd, h.rng, fun t ht => h.sub t ((List.dropLast_sublist _).subset ht)⟩ fun t ht => frc_rng hx ((mem_frcS hx).mp ht)).1
theorem growI_one {n : Nat} {t : Ar} (h : InR n t) : GrowI n ([t], [t]) :=
  ⟨List.nodup_cons.mpr ⟨List.not_mem_nil, List.nodup_nil⟩, fun s hs => by rw [List.mem_singleton.mp hs]; exact h, fun s hs => by rw [List.mem_singleton.mp hs]; exact h⟩
theorem come_ok {n : Nat} {ts : List Ar} {t : Ar} (h : InR n t) : (comeF n ts t).Nodup ∧ ∀ x ∈ comeF n ts t, InR n x := comeR_ok _ (growI_one h)
theorem eqv_nil (wl : List Ar) : PyData.eqv (.list (wl.map dT)) (.list []) = decide (wl = []) := by
  cases wl with
  | nil => rfl
  | cons a l => rfl
section
variable {P : Program} {w : World} {K : PySem.W.Frag} {mg : Str → Option Value} {base : Heap}
end
end My

set_option Elab.async false
set_option linter.all false
set_option maxRecDepth 100000
namespace My
open PySem PySem.Spec PyProof.Rows L2 GxR
def JoinA (kvs : List (List Key × V)) (C : List Ar) : Prop := ∀ o : Ar, (valV kvs (pk o)).isSome = decide (o ∈ C)
theorem joinA_merge {kvs ms : List (List Key × V)} {C D : List Ar} (h : JoinA kvs C) (k : ms.map (·.1) = D.map pk) : JoinA (mergeT kvs ms) (C ++ D) := fun o => by
  rw [valV_mergeT, h o, valV_keys k, Bool.or_comm]
  by_cases a : o ∈ C <;> by_cases b : o ∈ D <;> simp [a, b]
theorem inR_of {n : Nat} {ts : List Ar} (hw : WOk n ts) {t : Ar} (h : t ∈ ts) : InR n t := by
  have := hw.2 t h
  exact ⟨this.1, by omega, by omega, this.2.2⟩
section
variable {P : Program} {w : World} {K : PySem.W.Frag} {mg : Str → Option Value} {base : Heap}
end
end My

set_option Elab.async false
set_option linter.all false
set_option maxRecDepth 100000
namespace My
open PySem PySem.Spec PyProof.Rows L2 GxR
def okB (ps : List Ar) (s t : Ar) : Bool := !decide (s.2 = t.1) || decide ((s.1, t.2) ∈ ps)
def ledB (ps : List Ar) : Bool := ps.all fun s => ps.all fun t => okB ps s t
theorem all_take {α : Type} {f : α → Bool} {l : List α} {i : Nat} {x : α} (h : (l.take i).all f = true) (e : l[i]? = some x) (hx : f x = true) : (l.take (i + 1)).all f = true := by
  rw [List.take_add_one, e, List.all_append, h]
  show (true && (f x && true)) = true
  rw [hx]; rfl
theorem all_no {α : Type} {f : α → Bool} {l : List α} {i : Nat} {x : α} (e : l[i]? = some x) (hx : f x = false) : l.all f = false := by
  rw [List.all_eq_false]
  exact ⟨x, List.mem_of_getElem? e, by rw [hx]; exact Bool.false_ne_true⟩
theorem eqI' (a b : Int) : decide (V.int a = V.int b) = decide (a = b) := decide_eq_decide.mpr ⟨fun e => V.int.inj e, fun e => congrArg V.int e⟩
def kTrue (ps : List Ar) : List (List Key × V) := ps.map fun t => (pk t, V.bl true)
theorem kTrue_keys (ps : List Ar) : (kTrue ps).map (·.1) = ps.map pk := by unfold kTrue; rw [List.map_map]; rfl
theorem joinA_true (ps : List Ar) : JoinA (mergeT [] (kTrue ps)) ps := fun o => by
  rw [valV_mergeT, valV_keys (kTrue_keys ps)]; exact Bool.false_or _
theorem paired_app {α β : Type} {R : α → β → Prop} : ∀ {l : List α} {m : List β} {a : α} {b : β}, Paired R l m → R a b → Paired R (l ++ [a]) (m ++ [b])
  | _, _, _, _, .nil, h => .cons h .nil
  | _, _, _, _, .cons h t, k => .cons h (paired_app t k)
theorem paired_mono {α β : Type} {R S : α → β → Prop} (f : ∀ a b, R a b → S a b) : ∀ {l : List α} {m : List β}, Paired R l m → Paired S l m
  | _, _, .nil => .nil
  | _, _, .cons h t => .cons (f _ _ h) (paired_mono f t)
theorem pts_len {ts ps : List Ar} (h : Pts ts ps) : ps.length = ts.length := by rw [← h, List.length_map]
theorem pts_step {n : Nat} {ts ps : List Ar} (hw : WOk n ts) {i : Nat} {t : Ar} (h : Pts (ts.take i) ps) (e : ts[i]? = some t) (b : Bool) : Pts (ts.take (i + 1)) (ps ++ [if b = true then t else sw t]) := by
  unfold Pts at *
  have hb := hw.2 t (List.mem_of_getElem? e)
  rw [List.take_add_one, e, List.map_append, h]
  congr 1
  cases b with
  | true => exact congrArg (fun z => [z]) (nrm_t hb.2.1)
  | false => exact congrArg (fun z => [z]) (nrm_sw hb.2.1)
theorem nrm_sw' (p : Ar) (h : p.1 ≠ p.2) : nrm (sw p) = nrm p := by
  unfold nrm sw
  dsimp only
  by_cases h1 : p.1 < p.2
  · rw [if_neg (by omega), if_pos h1]
  · rw [if_pos (by omega), if_neg h1]
theorem pts_ne {n : Nat} {ts ps : List Ar} (hw : WOk n ts) (h : Pts ts ps) {p : Ar} (hp : p ∈ ps) : p.1 ≠ p.2 := fun e => by
  have : nrm p ∈ ts := by rw [← h]; exact List.mem_map.mpr ⟨p, hp, rfl⟩
  have hb := hw.2 _ this
  unfold nrm sw at hb
  split at hb <;> omega
theorem pts_set {n : Nat} {ts ps : List Ar} (hw : WOk n ts) (h : Pts ts ps) {j : Nat} {p : Ar} (e : ps[j]? = some p) : Pts ts (ps.set j (sw p)) := by
  have hne := pts_ne hw h (List.mem_of_getElem? e)
  unfold Pts at *
  rw [← h]
  refine List.ext_getElem? fun i => ?_
  rw [List.getElem?_map, List.getElem?_map]
  by_cases hij : j = i
  · subst hij
    rw [List.getElem?_set_self (List.getElem?_eq_some_iff.mp e).1, e]
    exact congrArg some (nrm_sw' p hne)
  · rw [List.getElem?_set_ne hij]
theorem Ties.set {H : Hp} : ∀ {vs : List V} {ts : List Ar} {j : Nat} {v : V} {t : Ar}, Ties H vs ts → Tie H v t → Ties H (vs.set j v) (ts.set j t)
  | [], [], _, _, _, _, _ => trivial
  | _ :: _, _ :: _, 0, _, _, h, k => ⟨k, h.2⟩
  | _ :: _, _ :: _, j + 1, _, _, h, k => ⟨h.1, Ties.set (j := j) h.2 k⟩
  | [], _ :: _, _, _, _, h, _ => h.elim
  | _ :: _, [], _, _, _, h, _ => h.elim
section
variable {P : Program} {w : World} {K : PySem.W.Frag} {mg : Str → Option Value} {base : Heap}
end
end My

set_option Elab.async false
set_option linter.all false
set_option maxRecDepth 100000
namespace My
open PySem PySem.Spec PyProof.Rows L2 GxR

section
variable {P : Program} {w : World} {K : PySem.W.Frag} {mg : Str → Option Value} {base : Heap}
/-! ### tie_of -/
abbrev s_tie_of : Stmt := topS 4
abbrev N_tie_of : List Str := ["a", "b"]
theorem sc_tie_of : FnScope N_tie_of ["a", "b"] (defScope s_tie_of) := ⟨rfl, rfl, rfl, by decide +kernel, rfl, by decide +kernel, by decide +kernel⟩
def sp_tie_of : Sp := fun vs H Q _ => ∃ a b : Int, vs = [.int a, .int b] ∧ ∀ p, H p = none → Q (.ref p) (upd H p (.tup [.int (tieO a b).1, .int (tieO a b).2]))
theorem ok_tie_of {f : Addr} {fd : FuncData} (B : Bts mg) (F : Fun K "tie_of" "tie_of" s_tie_of f fd) : FnOk P w K mg base CX0 1 f fd ["a", "b"] sp_tie_of := by
  refine F.ok sc_tie_of (fun vs H Q E h => ?_) (fun cdv A outer s H vs Q E hr h => ?_)
  · obtain ⟨a, b, rfl, _⟩ := h; rfl
  · obtain ⟨a, b, rfl, q⟩ := h
    refine ⟨_, (pss_one (ps_ret (pe_ifExp (pt_cmpR op_lt (pv 0) (pv 1) (nomark _)) (pe_tup (pa_cons (pv 0) (pa_cons (pv 1) pa_nil))) (pe_tup (pa_cons (pv 1) (pa_cons (pv 0) pa_nil)))))), ?_⟩
    unfold tieO at q
    refine ⟨_, rfl, _, rfl, _, _, rfl, rfl, _, rfl, ite2 (fun e => ?_) (fun e => ?_)⟩
    · rw [if_pos (of_decide_eq_true e)] at q
      exact ⟨_, rfl, _, rfl, by show 2 ≤ sizeLine; decide, q⟩
    · rw [if_neg (fun z => e (decide_eq_true z))] at q
      exact ⟨_, rfl, _, rfl, by show 2 ≤ sizeLine; decide, q⟩
end
end My

set_option Elab.async false
set_option linter.all false
set_option maxRecDepth 100000
namespace My
open PySem PySem.Spec PyProof.Rows L2 GxR
/-! ### two in a row without a third -/
def Br (ps : List Ar) (t : Th) : Prop := (t.1, t.2.1) ∈ ps ∧ (t.2.1, t.2.2) ∈ ps ∧ (t.1, t.2.2) ∉ ps
def Lst (ps : List Ar) (t : Th) : Prop := Br ps t ∧ ∀ y, Br ps y → ¬ lt3 y t
theorem lst_uni {ps : List Ar} {s t : Th} (hs : Lst ps s) (ht : Lst ps t) : s = t := by
  have h1 := hs.2 t ht.1
  have h2 := ht.2 s hs.1
  obtain ⟨a, b, c⟩ := s
  obtain ⟨d, e, f⟩ := t
  unfold lt3 at h1 h2
  dsimp only at h1 h2
  have e1 : a = d := by omega
  subst e1
  have e2 : b = e := by omega
  subst e2
  have e3 : c = f := by omega
  subst e3
  rfl
theorem led_br {ps : List Ar} : ledB ps = true ↔ ∀ t, ¬ Br ps t := by
  unfold ledB
  rw [List.all_eq_true]
  constructor
  · rintro h ⟨a, b, c⟩ ⟨h1, h2, h3⟩
    have := h _ h1
    rw [List.all_eq_true] at this
    have := this _ h2
    unfold okB at this
    rw [decide_eq_false h3, decide_eq_true rfl] at this
    cases this
  · intro h s hs
    rw [List.all_eq_true]
    intro t ht
    unfold okB
    by_cases e : s.2 = t.1
    · by_cases m : (s.1, t.2) ∈ ps
      · rw [decide_eq_true m, Bool.or_true]
      · refine absurd ⟨hs, ?_, m⟩ (h (s.1, s.2, t.2))
        show (s.2, t.2) ∈ ps
        rw [e]; exact ht
    · rw [decide_eq_false e]; rfl
def endsF (fs : List Ar) (a : Int) : List Int := (fs.filter fun (t : Ar) => decide (t.1 = a)).map (·.2)
theorem endsF_step (fs : List Ar) (t : Ar) (a : Int) : endsF (fs ++ [t]) a = endsF fs a ++ (if t.1 = a then [t.2] else []) := by
  unfold endsF
  rw [List.filter_append, List.map_append]
  by_cases h : t.1 = a
  · rw [if_pos h, List.filter_cons_of_pos (p := fun (t : Ar) => decide (t.1 = a)) (decide_eq_true h)]; rfl
  · rw [if_neg h, List.filter_cons_of_neg (p := fun (t : Ar) => decide (t.1 = a)) (by simpa using h)]; rfl
theorem mem_ends {fs : List Ar} {a b : Int} : b ∈ endsF fs a ↔ (a, b) ∈ fs := by
  unfold endsF
  rw [List.mem_map]
  constructor
  · rintro ⟨t, ht, rfl⟩
    obtain ⟨h1, h2⟩ := List.mem_filter.mp ht
    rw [← of_decide_eq_true h2]; exact h1
  · intro h
    exact ⟨_, List.mem_filter.mpr ⟨h, decide_eq_true rfl⟩, rfl⟩
theorem ends_pw {fs : List Ar} (h : fs.Pairwise ltT) (a : Int) : (endsF fs a).Pairwise (· < ·) := by
  unfold endsF
  rw [List.pairwise_map]
  refine (h.sublist List.filter_sublist).imp_of_mem fun {s t} hs ht l => ?_
  have h1 := of_decide_eq_true (List.mem_filter.mp hs).2
  have h2 := of_decide_eq_true (List.mem_filter.mp ht).2
  unfold ltT at l
  omega
theorem ends_len (fs : List Ar) (a : Int) : (endsF fs a).length ≤ fs.length := by
  unfold endsF; rw [List.length_map]; exact List.length_filter_le _ _
theorem take_of_lt {l : List Int} (pw : l.Pairwise (· < ·)) {j : Nat} {b x : Int} (e : l[j]? = some b) (hx : x ∈ l) (h : x < b) : x ∈ l.take j := by
  obtain ⟨i, hi⟩ := List.mem_iff_getElem?.mp hx
  obtain ⟨l1, e1⟩ := List.getElem?_eq_some_iff.mp hi
  obtain ⟨l2, e2⟩ := List.getElem?_eq_some_iff.mp e
  have hij : i < j := by
    rcases Nat.lt_or_ge i j with z | z
    · exact z
    · rcases Nat.eq_or_lt_of_le z with z | z
      · subst z; omega
      · have := (List.pairwise_iff_getElem.mp pw) j i l2 l1 z
        omega
  exact List.mem_iff_getElem?.mpr ⟨i, by rw [List.getElem?_take_of_lt hij]; exact hi⟩
theorem pts_nd {n : Nat} {ts ps : List Ar} (hW : WOk n ts) (h : Pts ts ps) : ps.Nodup := by
  have : (ps.map nrm).Nodup := by rw [h]; exact nd_pw hW.1
  rw [List.nodup_iff_pairwise_ne] at this ⊢
  rw [List.pairwise_map] at this
  exact this.imp fun h e => h (congrArg nrm e)
theorem pts_inR {n : Nat} {ts ps : List Ar} (hW : WOk n ts) (h : Pts ts ps) {p : Ar} (hp : p ∈ ps) : InR n p := by
  have : nrm p ∈ ts := by rw [← h]; exact List.mem_map.mpr ⟨p, hp, rfl⟩
  have hb := hW.2 _ this
  unfold nrm sw at hb
  split at hb
  · exact ⟨hb.1, by omega, by omega, hb.2.2⟩
  · dsimp only at hb; exact ⟨by omega, by omega, by omega, by omega⟩
theorem pts_sw {n : Nat} {ts ps : List Ar} (hW : WOk n ts) (h : Pts ts ps) : Pts ts (ps.map sw) := by
  unfold Pts
  rw [List.map_map, ← h]
  exact List.map_congr_left fun p hp => nrm_sw' p (pts_ne hW h hp)
def EndsAt (H : Hp) (p : Addr) (n : Nat) (fs : List Ar) : Prop := ∃ qs : List Addr, H p = some (.lst (qs.map V.ref)) ∧ qs.length = n ∧ ∀ (i : Nat) (q : Addr), qs[i]? = some q → H q = some (.lst ((endsF fs (i : Int)).map V.int))
section
variable {P : Program} {w : World} {K : PySem.W.Frag} {mg : Str → Option Value} {base : Heap}
/-! ### is_pointing -/
abbrev s_is_pointing : Stmt := topS 6
abbrev N_is_pointing : List Str := ["web", "thing", "ties", "arrow", "tie"]
theorem sc_is_pointing : FnScope N_is_pointing ["web", "thing"] (defScope s_is_pointing) := ⟨rfl, rfl, rfl, by decide +kernel, rfl, by decide +kernel, by decide +kernel⟩
def sp_ispt (PT : Addr) : Sp := fun vs H Q _ => ∃ (v : V) (p : Addr) (n : Nat) (ts : List Ar) (us : List V) (ps : List Ar), vs = [v, .ref p] ∧ Web H v n ts ∧ H p = some (.tup us) ∧ Ties H us ps ∧ Pts ts ps ∧ TabG H PT ∧
  ∀ H', FrM [PT] H H' → TabG H' PT → Q (.bl true) H'
theorem ok_ispt {f c PT : Addr} {fd : FuncData} (B : Bts mg) (F : Fun K "is_pointing" "is_pointing" s_is_pointing f fd) (hc : fd.code = .ref c) (TB : TabB base mg c PT) (c_is_pair : Cl P w K mg base 2 "is_pair" sp_pair) (c_tie_of : Cl P w K mg base 1 "tie_of" sp_tie_of) :
    FnOk P w K mg base CX0 4 f fd ["web", "thing"] (sp_ispt PT) := by
  refine okC F hc sc_is_pointing (fun vs H Q E h => ?_) (fun A outer s H vs Q E hr h => ?_)
  · obtain ⟨v, p, n, ts, us, ps, rfl, _⟩ := h; rfl
  · obtain ⟨v, p, n, ts, us, ps, rfl, ⟨pw, qw, uw, rfl, ew, eqw, hT⟩, ep, hU, hP, tg, q⟩ := h
    refine ⟨_, (pss_cons (ps_set (i := 2) sc_is_pointing.nd rfl (by first | exact Or.inl rfl | exact Or.inr rfl) (pe_ix ix_tup (pv 0) pe_int (fun _ _ => rfl)))
    (pss_cons (ps_if (PW.pt (pw_or (pt_not (pt_val (pe_callB call_isi (by rfl) B.isinstance (by decide +kernel) (pa_cons (pv 1) (pa_cons (pe_bltn (v := .ty "tuple") (by rfl) B.tuple (by decide +kernel) rfl) pa_nil))))) (pw_or1 (pt_cmpR op_ne (pe_callB call_len_seq (by rfl) B.len (by decide +kernel) (pa_cons (pv 1) pa_nil)) (pe_callB call_len_seq (by rfl) B.len (by decide +kernel) (pa_cons (pv 2) pa_nil)) (nomark _))))) (pss_one (ps_ret pe_bl)) pss_nil)
    (pss_one (ps_ret (pe_allG (own := [("arrow", 3), ("tie", 4)]) (g := (gTup K 2 (gCons (gName 3) (gCons (gName 4) gNil)))) (te := (tAndV _ (tOp (rEqD K) (tCall _ _ _ (tCons (tOp (rIxT K) _ _) (tCons (tOp (rIxT K) _ _) tNil))) _))) rfl sc_is_pointing.nd hr (by rfl) B.all TB rfl ⟨rfl, by decide +kernel, rfl⟩ (blkOk_by (own := [("arrow", 3), ("tie", 4)]) (N := N_is_pointing) (sc := defScope s_is_pointing) (by decide +kernel)) (RZ.pi_zipA (by rfl) B.zip (pa_cons (pv 1) (pa_cons (pv 2) pa_nil))) (fun _ _ _ _ _ _ _ => (pg_tup rfl (pgs_cons (pg_name (i := 3) sc_is_pointing.nd rfl (by first | exact Or.inl rfl | exact Or.inr rfl)) (pgs_cons (pg_name (i := 4) sc_is_pointing.nd rfl (by first | exact Or.inl rfl | exact Or.inr rfl)) pgs_nil)))) (fun _ _ _ _ _ _ _ hr => (pe_and (pe_c c_is_pair hr (by decide) (by rfl) (pa_cons (pv 3) pa_nil)) (pe_one (pe_cmpR (op_eqD hr.units) (pe_c c_tie_of hr (by decide) (by rfl) (pa_cons (pe_ix ix_tup (pv 3) pe_int (fun _ _ => rfl)) (pa_cons (pe_ix ix_tup (pv 3) pe_int (fun _ _ => rfl)) pa_nil))) (pv 4) (nomark _)))))))))), ?_⟩
    have ul := hU.len
    have tl := hT.len
    have pl := pts_len hP
    refine ⟨_, rfl, pw, _, _, _, rfl, rfl, SqT.of ew, rfl, ?_⟩
    refine ⟨_, rfl, _, _, _, _, true, rfl, .ty _, .base (.tup ep), kit_ty (by decide +kernel), true, rfl, iteF ?_⟩
    refine ⟨_, rfl, p, us, rfl, .inr (SqT.of ep), _, rfl, qw, uw, rfl, .inr (SqT.of eqw), rfl, _, rfl, ?_⟩
    rw [neI, decide_eq_true (by rw [ul, tl, pl])]
    refine iteF ?_
    refine ⟨_, rfl, _, rfl, p, qw, us, uw, rfl, .inr ⟨SqT.of ep, SqT.of eqw, tg, fun H2 tb => ?_⟩⟩
    have t2 := tb_tst tb tg
    refine allG_it (walk_zipT (K := K) (a := p) (b := qw) (xs := us) (ys := uw) rfl) (fun i H4 => FrM [PT] H H4 ∧ TabG H4 PT ∧ Tst H H4) ⟨tb_frM tb, tb.1, t2⟩ ?_ ?_ ?_
    · rintro i H4 _ ⟨_, _, t4⟩
      exact ⟨SqT.of (t4 _ _ ep), SqT.of (t4 _ _ eqw)⟩
    · rintro i x H4 H5 hi ⟨fr4, tg4, t4⟩ ⟨T, x1, x2, rfl, nT, rfl, ex1, ex2⟩
      dsimp only at ex1 ex2
      obtain ⟨o, eo, ho⟩ := (hU.mono t4).at ex1
      obtain ⟨t, et, ht⟩ := (hT.mono t4).at ex2
      have enr : nrm o = t := by
        have h1 : (ps.map nrm)[i]? = some (nrm o) := by rw [List.getElem?_map, eo]; rfl
        rw [show ps.map nrm = ts from hP, et] at h1
        exact (Option.some.inj h1).symm
      have sT := same_new (o := .tup [x1, x2]) nT
      have a5 := Same.tst sT
      have ho5 := ho.mono a5
      have ht5 := ht.mono a5
      obtain ⟨po, rfl, epo⟩ := id ho5
      refine ⟨T, _, rfl, SqT.of upd_same, rfl, _, _, rfl, _, _, rfl, rfl, rfl, ?_⟩
      refine ⟨_, rfl, .ref po, o, rfl, ho5, true, rfl, iteT ?_⟩
      refine ⟨_, rfl, po, _, _, _, rfl, rfl, SqT.of epo, rfl, _, rfl, po, _, _, _, rfl, rfl, SqT.of epo, rfl, ?_⟩
      refine ⟨o.1, o.2, rfl, fun k nk => ?_⟩
      have sk := same_new (o := .tup [.int (tieO o.1 o.2).1, .int (tieO o.1 o.2).2]) nk
      have etO : tieO o.1 o.2 = t := by
        rw [← enr]
        unfold tieO nrm sw
        split <;> rfl
      refine ⟨_, rfl, dT (tieO o.1 o.2), dT t, (show Tie _ (.ref k) (tieO o.1 o.2) from ⟨k, rfl, upd_same⟩).dp, (ht5.mono (Same.tst sk)).dp, shaped_dT _, shaped_dT _, ?_⟩
      rw [eqv_dT, decide_eq_true etO]
      have s5k := sT.trans sk
      exact ⟨true, rfl, iteT ⟨fr4.trans (FrM.same s5k), tabG_new (tabG_new tg4 nT) nk, t4.trans (Same.tst s5k)⟩⟩
    · rintro H4 ⟨fr4, tg4, _⟩
      exact q H4 fr4 tg4
/-! ### ends_from -/
abbrev s_ends_from : Stmt := topS 9
abbrev N_ends_from : List Str := ["many", "pointing", "ends", "place", "a", "b"]
theorem sc_ends_from : FnScope N_ends_from ["many", "pointing"] (defScope s_ends_from) := ⟨rfl, rfl, rfl, by decide +kernel, rfl, by decide +kernel, by decide +kernel⟩
def sp_ends : Sp := fun vs H Q _ => ∃ (p : Addr) (n : Nat) (us : List V) (ps : List Ar), vs = [.int (n : Int), .ref p] ∧ n ≤ 100 ∧ H p = some (.tup us) ∧ Ties H us ps ∧ ps.Nodup ∧ (∀ x ∈ ps, InR n x) ∧ ps.length ≤ 10000 ∧
  ∀ E H' fs, fs.Perm ps → fs.Pairwise ltT → Same H H' → EndsAt H' E n fs → Q (.ref E) H'
theorem ok_ends {f : Addr} {fd : FuncData} (B : Bts mg) (F : Fun K "ends_from" "ends_from" s_ends_from f fd) : FnOk P w K mg base CX0 1 f fd ["many", "pointing"] sp_ends := by
  refine F.ok sc_ends_from (fun vs H Q E h => ?_) (fun cdv A outer s H vs Q E hr h => ?_)
  · obtain ⟨p, n, us, ps, rfl, _⟩ := h; rfl
  · obtain ⟨p, n, us, ps, rfl, hn, ep, hU, nd, hR, hl, q⟩ := h
    refine ⟨_, (pss_cons (ps_setLc (i := 2) (own := [("place", 3)]) (g := (gName 3)) (tt := tYes) rfl sc_ends_from.nd rfl rfl (sw_true rfl rfl rfl (by decide +kernel)) (pi_range1 (by rfl) B.range (pa_cons (pv 0) pa_nil)) (blkOk_by (own := [("place", 3)]) (N := N_ends_from) (sc := defScope s_ends_from) (by decide +kernel)) (fun _ _ _ _ _ => (pg_name (i := 3) sc_ends_from.nd rfl (by first | exact Or.inl rfl | exact Or.inr rfl))) (fun _ _ _ _ _ => pts_nil) (fun _ _ _ _ _ => (pe_lst pa_nil)))
    (pss_cons (ps_for PassesOwn.never rfl (pi_list (pe_callB call_sortedTT (by rfl) B.sorted (by decide +kernel) (pa_cons (pv 1) pa_nil))) (pg_tup rfl (pgs_cons (pg_name (i := 4) sc_ends_from.nd rfl (by first | exact Or.inl rfl | exact Or.inr rfl)) (pgs_cons (pg_name (i := 5) sc_ends_from.nd rfl (by first | exact Or.inl rfl | exact Or.inr rfl)) pgs_nil)))
      (pss_one (ps_expr (pe_bm PySem.F.plainAttrs_list PySem.F.slot_list_append PySem.F.type_list_append mt_append (pe_ix ix_list (pv 2) (pv 4) (fun _ _ => rfl)) (pa_cons (pv 5) pa_nil)))))
    (pss_one (ps_ret (pv 2))))), ?_⟩
    have en : ((n : Int)).toNat = n := Int.toNat_natCast n
    refine ⟨_, rfl, _, rfl, by omega, by omega, fun E1 nE1 => ?_⟩
    refine wk (walk_range (lo := 0)) (fun i H1 => ∃ qs : List Addr, Same H H1 ∧ H1 E1 = some (.lst (qs.map V.ref)) ∧ qs.length = i ∧ qs.Nodup ∧ E1 ∉ qs ∧ ∀ z ∈ qs, H z = none ∧ H1 z = some (.lst []))
      ⟨[], same_new nE1, upd_same, rfl, List.nodup_nil, List.not_mem_nil, fun _ z => absurd z List.not_mem_nil⟩ (fun _ _ _ _ => trivial) ?_ ?_
    · rintro i x H1 H2 hi ⟨qs, sm, eE, ql, qn, qE, qz⟩ ⟨rfl, hx⟩
      rw [en] at hi
      refine ⟨rfl, yes ?_⟩
      refine ⟨Nat.zero_le _, fun g ng => ?_⟩
      have sg := same_new (o := .lst []) ng
      have gE : g ≠ E1 := fun z => by rw [z, eE] at ng; cases ng
      have gq : g ∉ qs := fun z => by rw [(qz g z).2] at ng; cases ng
      refine ⟨_, sg _ _ eE, sz' (by rw [List.length_map]; omega), qs ++ [g], Same.put (sm.trans sg) nE1, by rw [upd_same, List.map_append]; rfl, by rw [List.length_append, ql]; rfl, ?_, ?_, fun z hz => ?_⟩
      · rw [List.nodup_append]
        refine ⟨qn, List.nodup_cons.mpr ⟨List.not_mem_nil, List.nodup_nil⟩, fun a ha b hb e => ?_⟩
        rw [List.mem_singleton.mp hb] at e
        subst e; exact gq ha
      · intro z
        rcases List.mem_append.mp z with z | z
        · exact qE z
        · exact gE (List.mem_singleton.mp z).symm
      · rcases List.mem_append.mp hz with z' | z'
        · refine ⟨(qz z z').1, ?_⟩
          rw [upd_ne (fun e => qE (by rw [← e]; exact z'))]; exact sg _ _ (qz z z').2
        · rw [List.mem_singleton.mp z']
          refine ⟨same_free sm ng, ?_⟩
          rw [upd_ne gE]; exact upd_same
    · rintro H1 ⟨qs, sm, eE, ql, qn, qE, qz⟩
      rw [en] at ql
      refine ⟨_, rfl, p, us, ps, rfl, SqT.of (sm _ _ ep), hU.mono (Same.tst sm), fun ys y fs hY pm pw ny => ?_⟩
      have pw' := pw_lt pw (pm.nodup_iff.mpr nd)
      have sy := same_new (o := .lst ys) ny
      have hY2 := hY.mono (Same.tst sy)
      have yl := hY.len
      have fl := pm.length_eq
      have yE : y ≠ E1 := fun z => by rw [z, eE] at ny; cases ny
      have yq : y ∉ qs := fun z => by rw [(qz y z).2] at ny; cases ny
      refine ⟨y, rfl, ⟨_, SqL.of upd_same⟩, ?_⟩
      refine for_it (walk_list (K := K) (a := y) (xs := ys)) (fun i σ H3 => ∃ y3 y4 y5, σ = [some (.int (n : Int)), some (.ref p), some (.ref E1), y3, y4, y5] ∧ Same H H3 ∧ Tst (upd H1 y (.lst ys)) H3 ∧ H3 y = some (.lst ys) ∧ H3 E1 = some (.lst (qs.map V.ref)) ∧ ∀ (j : Nat) (z : Addr), qs[j]? = some z → H3 z = some (.lst ((endsF (fs.take i) (j : Int)).map V.int)))
        ⟨_, _, _, rfl, sm.trans sy, Tst.refl _, upd_same, sy _ _ eE, fun j z e => sy _ _ (qz z (List.mem_of_getElem? e)).2⟩ ?_ ?_ ?_
      · rintro i σ H3 _ ⟨_, _, _, _, _, _, ey3, _⟩
        exact SqL.of ey3
      · rintro i x σ H3 H4 hi ⟨y3, y4, y5, rfl, s3, t3, ey3, eE3, hq⟩ ⟨rfl, hx⟩
        obtain ⟨t, et, ht⟩ := hY2.at hx
        have tm := pm.mem_iff.mp (List.mem_of_getElem? et)
        have tR := hR t tm
        obtain ⟨pt, rfl, ept⟩ := ht.mono t3
        obtain ⟨a, ea⟩ := natOf tR.1
        have la : a < qs.length := by have := tR.2.1; omega
        have ga : qs[a]? = some qs[a] := List.getElem?_eq_getElem la
        generalize qs[a] = qa at ga
        have e1 := hq a qa ga
        have na0 := (qz qa (List.mem_of_getElem? ga)).1
        have naE : E1 ≠ qa := fun z => qE (z ▸ List.mem_of_getElem? ga)
        have naY : y ≠ qa := fun z => yq (z ▸ List.mem_of_getElem? ga)
        have tk : fs.take (i + 1) = fs.take i ++ [t] := by rw [List.take_add_one, et]; rfl
        have l1 := ends_len (fs.take i) (a : Int)
        rw [List.length_take] at l1
        refine ⟨pt, _, rfl, SqT.of ept, rfl, _, _, rfl, _, _, rfl, rfl, ?_⟩
        refine ⟨_, rfl, _, rfl, E1, _, _, .ref qa, rfl, rfl, SqL.of eE3, by rw [ea]; exact atI_nat (by rw [List.getElem?_map, ga]; rfl), .inl ⟨rfl, _, SqL.of e1⟩, _, rfl, qa, _, _, rfl, rfl, e1, sz' (by rw [List.length_map]; omega), ?_⟩
        refine ⟨_, _, _, rfl, Same.put s3 na0, t3.trans (tst_put e1), ?_, ?_, fun j z ez => ?_⟩
        · rw [upd_ne naY]; exact ey3
        · rw [upd_ne naE]; exact eE3
        · rw [tk, endsF_step]
          by_cases hja : j = a
          · subst hja
            rw [ga] at ez; cases ez
            rw [upd_same, if_pos ea, List.map_append]; rfl
          · have nz : z ≠ qa := fun k => hja (nd_get qn ez (k ▸ ga))
            rw [upd_ne nz, if_neg (by omega), List.append_nil]
            exact hq j z ez
      · rintro σ H3 ⟨y3, y4, y5, rfl, s3, t3, ey3, eE3, hq⟩
        rw [yl, List.take_length] at hq
        exact ⟨_, rfl, q E1 H3 fs pm pw' s3 ⟨qs, eE3, ql, hq⟩⟩
/-! ### first_break -/
abbrev s_first_break : Stmt := topS 8
abbrev N_first_break : List Str := ["web", "pointing", "there", "arrow", "ends", "a", "b", "c"]
theorem sc_first_break : FnScope N_first_break ["web", "pointing"] (defScope s_first_break) := ⟨rfl, rfl, rfl, by decide +kernel, rfl, by decide +kernel, by decide +kernel⟩
def brkQ (ps : List Ar) (H : Hp) (Q : VK) : Prop := ((∀ t, ¬ Br ps t) → ∀ H', Same H H' → Q .non H') ∧ ∀ t, Lst ps t → ∀ x H', Same H H' → T3 H' x t → Q x H'
def sp_fbreak : Sp := fun vs H Q _ => ∃ (v : V) (p : Addr) (n : Nat) (ts : List Ar) (us : List V) (ps : List Ar), vs = [v, .ref p] ∧ Web H v n ts ∧ n ≤ 100 ∧ H p = some (.tup us) ∧ Ties H us ps ∧ ps.Nodup ∧ (∀ x ∈ ps, InR n x) ∧ ps.length ≤ 10000 ∧ brkQ ps H Q
theorem ok_fbreak {f : Addr} {fd : FuncData} (B : Bts mg) (F : Fun K "first_break" "first_break" s_first_break f fd) (c_ends_from : Cl P w K mg base 1 "ends_from" sp_ends) : FnOk P w K mg base CX0 2 f fd ["web", "pointing"] sp_fbreak := by
  refine F.ok sc_first_break (fun vs H Q E h => ?_) (fun cdv A outer s H vs Q E hr h => ?_)
  · obtain ⟨v, p, n, ts, us, ps, rfl, _⟩ := h; rfl
  · obtain ⟨v, p, n, ts, us, ps, rfl, ⟨pw, qw, uw, rfl, ew, eqw, hT⟩, hn, ep, hU, nd, hR, hl, q0, q1⟩ := h
    refine ⟨_, (pss_cons (ps_setDcP empt_dT (hu_of hr) (i := 2) (own := [("arrow", 3)]) (g := (gName 3)) (tt := tYes) rfl sc_first_break.nd rfl rfl (sw_trueD rfl rfl rfl (by decide +kernel)) (pi_tup (pv 1)) (blkOk_by (own := [("arrow", 3)]) (N := N_first_break) (sc := defScope s_first_break) (by decide +kernel)) (fun _ _ _ _ _ => (pg_name (i := 3) sc_first_break.nd rfl (by first | exact Or.inl rfl | exact Or.inr rfl))) (fun _ _ _ _ _ => pts_nil) (fun _ _ _ _ _ => (pv 3)) (fun _ _ _ _ _ => pe_bl))
    (pss_cons (ps_set (i := 4) sc_first_break.nd rfl (by first | exact Or.inl rfl | exact Or.inr rfl) (pe_c c_ends_from hr (by decide) (by rfl) (pa_cons (pe_ix ix_tup (pv 0) pe_int (fun _ _ => rfl)) (pa_cons (pv 1) pa_nil))))
    (pss_cons (ps_for PassesOwn.never rfl (pi_range1 (by rfl) B.range (pa_cons (pe_ix ix_tup (pv 0) pe_int (fun _ _ => rfl)) pa_nil)) (pg_name (i := 5) sc_first_break.nd rfl (by first | exact Or.inl rfl | exact Or.inr rfl))
      (pss_one (ps_for PassesOwn.never rfl (pi_list (pe_ix ix_list (pv 4) (pv 5) (fun _ _ => rfl))) (pg_name (i := 6) sc_first_break.nd rfl (by first | exact Or.inl rfl | exact Or.inr rfl))
        (pss_one (ps_for PassesOwn.never rfl (pi_list (pe_ix ix_list (pv 4) (pv 6) (fun _ _ => rfl))) (pg_name (i := 7) sc_first_break.nd rfl (by first | exact Or.inl rfl | exact Or.inr rfl))
          (pss_one (ps_if (pt_cmp (pc_dnotin (hu_of hr) (pe_tup (pa_cons (pv 5) (pa_cons (pv 7) pa_nil))) (pv 2))) (pss_one (ps_ret (pe_tup (pa_cons (pv 5) (pa_cons (pv 6) (pa_cons (pv 7) pa_nil)))))) pss_nil)))))))
    (pss_one (ps_ret pe_non))))), ?_⟩
    have ul := hU.len
    have en : ((n : Int)).toNat = n := Int.toNat_natCast n
    refine ⟨_, rfl, p, rfl, ⟨_, SqT.of ep⟩, fun D nD => ?_⟩
    refine wk (walk_tup (K := K) (a := p) (xs := us)) (fun i H1 => ∃ kvs, Same H H1 ∧ H1 D = some (.dT kvs) ∧ kvs.length ≤ i ∧ JoinD kvs (ps.take i)) ⟨[], same_new nD, upd_same, Nat.le_refl _, fun a b => rfl⟩ ?_ ?_ ?_
    · rintro i H1 _ ⟨_, sm, _⟩
      exact SqT.of (sm _ _ ep)
    · rintro i x H1 H2 hi ⟨kvs, sm, eD, kl, hJ⟩ ⟨rfl, hx⟩
      obtain ⟨t, et, ht⟩ := hU.at hx
      obtain ⟨pt, rfl, ept⟩ := ht.mono (Same.tst sm)
      refine ⟨rfl, yes ?_⟩
      refine ⟨_, rfl, _, DPut.t (k := [Sum.inl t.1, Sum.inl t.2]) eD ept (sz' (by omega)), ?_⟩
      have := len_put kvs [Sum.inl t.1, Sum.inl t.2] (.bl true)
      refine ⟨_, Same.put sm nD, upd_same, by omega, ?_⟩
      rw [List.take_add_one, et]
      exact join_put hJ t _
    · rintro H1 ⟨kvs, sm, eD, kl, hJ⟩
      rw [ul, List.take_length] at hJ
      refine ⟨_, rfl, pw, _, _, _, rfl, rfl, SqT.of (sm _ _ ew), rfl, _, rfl, p, n, us, ps, rfl, hn, sm _ _ ep, hU.mono (Same.tst sm), nd, hR, hl, fun E1 H2 fs pm pwf s2 ⟨qs, eE, ql, hq⟩ => ?_⟩
      have s02 := sm.trans s2
      have eD2 := s2 _ _ eD
      have mE : ∀ a b : Int, b ∈ endsF fs a ↔ (a, b) ∈ ps := fun a b => mem_ends.trans pm.mem_iff
      have get : ∀ a : Int, 0 ≤ a → a < (n : Int) → ∃ qa, atI (qs.map V.ref) a = some (.ref qa) ∧ H2 qa = some (.lst ((endsF fs a).map V.int)) := fun a h0 h1 => by
        obtain ⟨k, rfl⟩ := natOf h0
        have lk : k < qs.length := by omega
        have gk : qs[k]? = some qs[k] := List.getElem?_eq_getElem lk
        exact ⟨qs[k], atI_nat (by rw [List.getElem?_map, gk]; rfl), hq k _ gk⟩
      refine ⟨_, rfl, pw, _, _, _, rfl, rfl, SqT.of (s02 _ _ ew), rfl, _, rfl, by omega, by omega, ?_⟩
      refine for_range (fun i σ H3 => ∃ y3 y5 y6 y7, σ = [some (.ref pw), some (.ref p), some (.ref D), y3, some (.ref E1), y5, y6, y7] ∧ Same H2 H3 ∧ ∀ t, Br ps t → ¬ t.1 < (i : Int)) ⟨_, _, _, _, rfl, same_refl _, fun t hb z => by have := (hR _ hb.1).1; dsimp only at this; omega⟩ ?_ ?_
      · rintro i σ H3 hi ⟨y3, y5, y6, y7, rfl, s3, hi0⟩
        rw [en] at hi
        rw [Int.zero_add]
        obtain ⟨qa, ia, ea⟩ := get (i : Int) (by omega) (by omega)
        refine ⟨_, rfl, _, rfl, E1, _, _, .ref qa, rfl, rfl, SqL.of (s3 _ _ eE), ia, qa, rfl, ⟨_, SqL.of (s3 _ _ ea)⟩, ?_⟩
        refine for_it (walk_list (K := K) (a := qa) (xs := (endsF fs (i : Int)).map V.int)) (fun j σ H4 => ∃ y3 y6 y7, σ = [some (.ref pw), some (.ref p), some (.ref D), y3, some (.ref E1), some (.int (i : Int)), y6, y7] ∧ Same H2 H4 ∧ ∀ t, Br ps t → t.1 = (i : Int) → t.2.1 ∉ (endsF fs (i : Int)).take j) ⟨_, _, _, rfl, s3, fun t _ _ z => absurd z List.not_mem_nil⟩ ?_ ?_ ?_
        · rintro j σ H4 _ ⟨_, _, _, _, s4, _⟩
          exact SqL.of (s4 _ _ ea)
        · rintro j x σ H4 H5 hj ⟨y3, y6, y7, rfl, s4, hj0⟩ ⟨rfl, hx⟩
          rw [List.getElem?_map] at hx
          obtain ⟨b, eb, rfl⟩ := Option.map_eq_some_iff.mp hx
          have hab := (mE _ _).mp (List.mem_of_getElem? eb)
          have bR := hR _ hab
          obtain ⟨qb, ib, ebq⟩ := get b bR.2.2.1 bR.2.2.2
          refine ⟨_, rfl, _, rfl, E1, _, _, .ref qb, rfl, rfl, SqL.of (s4 _ _ eE), ib, qb, rfl, ⟨_, SqL.of (s4 _ _ ebq)⟩, ?_⟩
          refine for_it (walk_list (K := K) (a := qb) (xs := (endsF fs b).map V.int)) (fun k σ H6 => ∃ y3 y7, σ = [some (.ref pw), some (.ref p), some (.ref D), y3, some (.ref E1), some (.int (i : Int)), some (.int b), y7] ∧ Same H2 H6 ∧ ∀ t, Br ps t → t.1 = (i : Int) → t.2.1 = b → t.2.2 ∉ (endsF fs b).take k) ⟨_, _, rfl, s4, fun t _ _ _ z => absurd z List.not_mem_nil⟩ ?_ ?_ ?_
          · rintro k σ H6 _ ⟨_, _, _, s6, _⟩
            exact SqL.of (s6 _ _ ebq)
          · rintro k x σ H6 H7 hk ⟨y3, y7, rfl, s6, hk0⟩ ⟨rfl, hx⟩
            rw [List.getElem?_map] at hx
            obtain ⟨c, ec, rfl⟩ := Option.map_eq_some_iff.mp hx
            have hbc := (mE _ _).mp (List.mem_of_getElem? ec)
            refine ⟨_, rfl, _, rfl, by show 2 ≤ sizeLine; decide, fun k1 nk1 => ?_⟩
            have sk := same_new (o := .tup [.int (i : Int), .int c]) nk1
            refine ⟨_, rfl, D, _, rfl, DGet.t (k := [Sum.inl (i : Int), Sum.inl c]) (sk _ _ (s6 _ _ eD2)) upd_same, _, rfl, ?_⟩
            rw [hJ]
            by_cases hm : ((i : Int), c) ∈ ps
            · rw [decide_eq_true hm]
              refine iteF ⟨_, _, rfl, s6.trans sk, fun t ht h1 h2 z => ?_⟩
              rw [List.take_add_one, ec] at z
              rcases List.mem_append.mp z with z | z
              · exact hk0 t ht h1 h2 z
              · have h3 := List.mem_singleton.mp z
                obtain ⟨t1, t2, t3⟩ := t
                dsimp only at h1 h2 h3
                subst h1 h2 h3
                exact ht.2.2 hm
            · rw [decide_eq_false hm]
              have hB : Br ps ((i : Int), b, c) := ⟨hab, hbc, hm⟩
              refine iteT ⟨_, rfl, _, rfl, _, rfl, by show 3 ≤ sizeLine; decide, fun g ng => ?_⟩
              have sg := same_new (o := .tup [.int (i : Int), .int b, .int c]) ng
              refine q1 ((i : Int), b, c) ⟨hB, fun y hy l => ?_⟩ (.ref g) _ (s02.trans (s6.trans (sk.trans sg))) ⟨g, rfl, upd_same⟩
              rcases l with l | ⟨l1, l | ⟨l2, l⟩⟩
              · exact hi0 y hy l
              · refine hj0 y hy l1 (take_of_lt (ends_pw pwf _) eb ((mE _ _).mpr ?_) l)
                have := hy.1
                rwa [l1] at this
              · refine hk0 y hy l1 l2 (take_of_lt (ends_pw pwf _) ec ((mE _ _).mpr ?_) l)
                have := hy.2.1
                rwa [l2] at this
          · rintro σ H6 ⟨y3, y7, rfl, s6, hk0⟩
            rw [List.length_map, List.take_length] at hk0
            refine ⟨_, _, _, rfl, s6, fun t ht h1 z => ?_⟩
            rw [List.take_add_one, eb] at z
            rcases List.mem_append.mp z with z | z
            · exact hj0 t ht h1 z
            · have h2 := List.mem_singleton.mp z
              refine hk0 t ht h1 h2 ((mE _ _).mpr ?_)
              have := ht.2.1
              rwa [h2] at this
        · rintro σ H4 ⟨y3, y6, y7, rfl, s4, hj0⟩
          rw [List.length_map, List.take_length] at hj0
          refine ⟨_, _, _, _, rfl, s4, fun t ht z => ?_⟩
          by_cases h1 : t.1 = (i : Int)
          · refine hj0 t ht h1 ((mE _ _).mpr ?_)
            have := ht.1
            rwa [h1] at this
          · exact hi0 t ht (by omega)
      · rintro σ H3 ⟨y3, y5, y6, y7, rfl, s3, hi0⟩
        rw [en] at hi0
        refine q0 (fun t ht => hi0 t ht ?_) H3 (s02.trans s3)
        exact (hR _ ht.1).2.1
end
end My

set_option Elab.async false
set_option linter.all false
set_option maxRecDepth 100000
namespace My
open PySem PySem.Spec PyProof.Rows L2 GxR
/-! ### one table -/
theorem frm_tst {PT : Addr} {H H' : Hp} (s : FrM [PT] H H') (tg : TabG H PT) : Tst H H' := fun b xs e => by
  refine s b _ (fun z => ?_) e
  obtain ⟨ps, h1, _⟩ := tg
  rw [List.mem_singleton.mp z, h1] at e; cases e
theorem frm_lst {PT p : Addr} {H H' : Hp} {xs : List V} (s : FrM [PT] H H') (tg : TabG H PT) (e : H p = some (.lst xs)) : H' p = some (.lst xs) := by
  refine s p _ (fun z => ?_) e
  obtain ⟨ps, h1, _⟩ := tg
  rw [List.mem_singleton.mp z, h1] at e; cases e
theorem tab_same {H H' : Hp} {PT : Addr} (h : TabG H PT) (s : Same H H') : TabG H' PT := by
  obtain ⟨ps, h1, h2⟩ := h
  exact ⟨ps, s _ _ h1, h2⟩
structure St1 (PT : Addr) (H0 H : Hp) : Prop where
  fr : FrM [PT] H0 H
  tg : TabG H PT
theorem St1.same {PT : Addr} {H0 H H' : Hp} (h : St1 PT H0 H) (s : Same H H') : St1 PT H0 H' := ⟨h.fr.trans (FrM.same s), tab_same h.tg s⟩
theorem St1.tab {PT : Addr} {H0 H H' : Hp} (h : St1 PT H0 H) (s : FrM [PT] H H') (t : TabG H' PT) : St1 PT H0 H' := ⟨h.fr.trans s, t⟩
theorem St1.free {PT p : Addr} {H0 H : Hp} (h : St1 PT H0 H) (e : H p = none) : H0 p = none := by
  cases z : H0 p with
  | none => rfl
  | some o =>
    exfalso
    by_cases hp : p = PT
    · obtain ⟨ps, h1, _⟩ := h.tg
      rw [hp, h1] at e; cases e
    · rw [h.fr p o (fun w => hp (List.mem_singleton.mp w)) z] at e; cases e
theorem St1.frL {PT L : Addr} {H0 H H' : Hp} {c : Int} (h : St1 PT H0 H) (lf : Lf H L c) (n0 : H0 L = none) (f : Fr L H H') : St1 PT H0 H' := by
  obtain ⟨x, y, z, e, _⟩ := lf
  obtain ⟨ps, h1, h2⟩ := h.tg
  have nP : PT ≠ L := fun w => by rw [w, e] at h1; cases h1
  exact ⟨fun b o nb eb => f b o (fun w => by rw [w, n0] at eb; cases eb) (h.fr b o nb eb), ⟨ps, f _ _ nP h1, h2⟩⟩
theorem St1.sq {K : PySem.W.Frag} {PT a : Addr} {H0 H : Hp} {xs : List V} (h0 : TabG H0 PT) (h : St1 PT H0 H) (e : SqL K H0 a xs) : SqL K H a xs := by
  obtain ⟨ps, p1, _⟩ := h0
  have k : ∀ {o : HO}, H0 a = some o → (∀ ps, o ≠ .tbl ps) → H a = some o := fun {o} ea nb => by
    refine h.fr a o (fun z => ?_) ea
    rw [List.mem_singleton.mp z, p1] at ea; cases ea; exact nb _ rfl
  rcases e with (e | ⟨o, e⟩) | e
  · exact .inl (.inl (k e fun _ z => by cases z))
  · exact .inl (.inr ⟨o, k e fun _ z => by cases z⟩)
  · exact .inr e
theorem lf_tab {PT L : Addr} {H H' : Hp} {c : Int} (lf : Lf H L c) (s : FrM [PT] H H') (tg : TabG H PT) : Lf H' L c := by
  obtain ⟨x, y, z, e, h⟩ := lf
  obtain ⟨ps, h1, _⟩ := tg
  refine ⟨x, y, z, s _ _ (fun w => ?_) e, h⟩
  rw [List.mem_singleton.mp w, h1] at e; cases e
section
variable {P : Program} {w : World} {K : PySem.W.Frag} {mg : Str → Option Value} {base : Heap}
/-! ### is_led -/
abbrev s_is_led : Stmt := topS 7
abbrev N_is_led : List Str := ["web", "pointing"]
theorem sc_is_led : FnScope N_is_led ["web", "pointing"] (defScope s_is_led) := ⟨rfl, rfl, rfl, by decide +kernel, rfl, by decide +kernel, by decide +kernel⟩
def sp_isl (PT : Addr) : Sp := fun vs H Q _ => ∃ (v : V) (p : Addr) (n : Nat) (ts : List Ar) (us : List V) (ps : List Ar), vs = [v, .ref p] ∧ Web H v n ts ∧ WOk n ts ∧ n ≤ 12 ∧ H p = some (.tup us) ∧ Ties H us ps ∧ Pts ts ps ∧ TabG H PT ∧
  ∀ H', FrM [PT] H H' → TabG H' PT → Q (.bl (ledB ps)) H'
theorem pts_small {n : Nat} {ts ps : List Ar} (hW : WOk n ts) (hn : n ≤ 12) (h : Pts ts ps) : ps.length ≤ 144 := by
  have nn : n * n ≤ 144 := Nat.mul_le_mul hn hn
  have tl := cs_len (nd_pw hW.1) fun t ht => inR_of hW ht
  have := pts_len h
  omega
theorem ok_isl {f PT : Addr} {fd : FuncData} (B : Bts mg) (F : Fun K "is_led" "is_led" s_is_led f fd) (c_is_pointing : Cl P w K mg base 4 "is_pointing" (sp_ispt PT)) (c_first_break : Cl P w K mg base 2 "first_break" sp_fbreak) : FnOk P w K mg base CX0 5 f fd ["web", "pointing"] (sp_isl PT) := by
  refine F.ok sc_is_led (fun vs H Q E h => ?_) (fun cdv A outer s H vs Q E hr h => ?_)
  · obtain ⟨v, p, n, ts, us, ps, rfl, _⟩ := h; rfl
  · obtain ⟨v, p, n, ts, us, ps, rfl, hWeb, hW, hn, ep, hU, hP, tg, q⟩ := h
    refine ⟨_, (pss_one (ps_ret (pe_and (pe_c c_is_pointing hr (by decide) (by rfl) (pa_cons (pv 0) (pa_cons (pv 1) pa_nil))) (pe_one (pe_cmpR op_isN (pe_c c_first_break hr (by decide) (by rfl) (pa_cons (pv 0) (pa_cons (pv 1) pa_nil))) pe_non (nomark _)))))), ?_⟩
    refine ⟨_, rfl, _, rfl, v, p, n, ts, us, ps, rfl, hWeb, ep, hU, hP, tg, fun H1 fr1 tg1 => ⟨true, rfl, iteT ?_⟩⟩
    have t1 := frm_tst fr1 tg
    have pl := pts_small hW hn hP
    refine ⟨_, rfl, _, rfl, v, p, n, ts, us, ps, rfl, hWeb.mono t1, by omega, t1 _ _ ep, hU.mono t1, pts_nd hW hP, fun x hx => pts_inR hW hP hx, by omega, fun hno H2 s2 => ?_, fun t ht x H2 s2 hx => ?_⟩
    · refine ⟨rfl, ?_⟩
      have := q H2 (fr1.trans (FrM.same s2)) (tab_same tg1 s2)
      rw [led_br.mpr hno] at this
      exact this
    · obtain ⟨px, rfl, _⟩ := hx
      refine ⟨rfl, ?_⟩
      have := q H2 (fr1.trans (FrM.same s2)) (tab_same tg1 s2)
      rw [show ledB ps = false from Bool.eq_false_iff.mpr fun z => led_br.mp z t ht.1] at this
      exact this
end
end My

set_option Elab.async false
set_option linter.all false
set_option maxRecDepth 100000
namespace My
open PySem PySem.Spec PyProof.Rows L2 GxR
/-! ### rows -/
def NumR (kvs : List (Key × V)) (pl : List Int) (i : Nat) : Prop := ∀ p : Int, valV kvs (Sum.inl p) = if p ∈ pl.take i then some (.int (pl.idxOf p : Int)) else none
theorem numR_put {kvs : List (Key × V)} {pl : List Int} {i : Nat} {x : Int} (nd : pl.Nodup) (h : NumR kvs pl i) (e : pl[i]? = some x) : NumR (putK kvs (Sum.inl x) (.int (i : Int))) pl (i + 1) := fun p => by
  rw [valV_put, List.take_add_one, e]
  show _ = if p ∈ pl.take i ++ [x] then _ else _
  by_cases hp : p = x
  · subst hp
    rw [if_pos rfl, if_pos (List.mem_append_right _ (List.mem_singleton.mpr rfl)), idx_of nd e]
  · rw [if_neg (fun z => hp (Sum.inl.inj z)), h p]
    by_cases hm : p ∈ pl.take i
    · rw [if_pos hm, if_pos (List.mem_append_left _ hm)]
    · rw [if_neg hm, if_neg]
      intro z
      rcases List.mem_append.mp z with z | z
      · exact hm z
      · exact hp (List.mem_singleton.mp z)
def byT (ns : List Int) (t : Ar) : Ar := if ns.idxOf t.1 < ns.idxOf t.2 then t else sw t
def byR (ns : List Int) (ts : List Ar) : List Ar := ts.map (byT ns)
theorem by_pts {n : Nat} {ts : List Ar} (hW : WOk n ts) (ns : List Int) : Pts ts (byR ns ts) := by
  unfold Pts byR
  rw [List.map_map]
  refine (List.map_congr_left (g := id) fun t ht => ?_).trans (List.map_id ts)
  have b := hW.2 t ht
  show nrm (byT ns t) = t
  unfold byT
  split
  · exact nrm_t b.2.1
  · exact nrm_sw b.2.1
theorem row_nd {n : Nat} {ns : List Int} (h : ns.Perm (up n)) : ns.Nodup := h.nodup_iff.mpr (up_nodup n)
theorem row_mem {n : Nat} {ns : List Int} (h : ns.Perm (up n)) {x : Int} : x ∈ ns ↔ 0 ≤ x ∧ x < (n : Int) := h.mem_iff.trans mem_up
theorem idx_rev {ns : List Int} (nd : ns.Nodup) {x : Int} (hx : x ∈ ns) : ns.reverse.idxOf x + ns.idxOf x + 1 = ns.length := by
  have g := idx_get hx
  have l := List.idxOf_lt_length_of_mem hx
  have e : ns.reverse[ns.length - 1 - ns.idxOf x]? = some x := by
    rw [List.getElem?_reverse (by omega), show ns.length - 1 - (ns.length - 1 - ns.idxOf x) = ns.idxOf x from by omega]; exact g
  have := idx_of ((List.reverse_perm ns).nodup_iff.mpr nd) e
  omega
theorem idx_inj {ns : List Int} {x y : Int} (hx : x ∈ ns) (hy : y ∈ ns) (e : ns.idxOf x = ns.idxOf y) : x = y := by
  have g1 := idx_get hx
  have g2 := idx_get hy
  rw [e, g2] at g1
  exact (Option.some.inj g1).symm
theorem by_rev {n : Nat} {ts : List Ar} (hW : WOk n ts) {ns : List Int} (pm : ns.Perm (up n)) : byR ns.reverse ts = (byR ns ts).map sw := by
  unfold byR
  rw [List.map_map]
  refine List.map_congr_left fun t ht => ?_
  have b := hW.2 t ht
  have m1 := (row_mem pm).mpr (show 0 ≤ t.1 ∧ t.1 < (n : Int) by omega)
  have m2 := (row_mem pm).mpr (show 0 ≤ t.2 ∧ t.2 < (n : Int) by omega)
  have r1 := idx_rev (row_nd pm) m1
  have r2 := idx_rev (row_nd pm) m2
  have ne : ns.idxOf t.1 ≠ ns.idxOf t.2 := fun e => by have := idx_inj m1 m2 e; omega
  show byT ns.reverse t = sw (byT ns t)
  unfold byT
  by_cases h : ns.idxOf t.1 < ns.idxOf t.2
  · rw [if_pos h, if_neg (by omega)]
  · rw [if_neg h, if_pos (by omega), sw_sw]
theorem mem_byAll {n : Nat} {ns : List Int} (pm : ns.Perm (up n)) {p : Ar} : p ∈ byR ns (pup n n) ↔ (p.1 ∈ ns ∧ p.2 ∈ ns ∧ ns.idxOf p.1 < ns.idxOf p.2) := by
  unfold byR
  rw [List.mem_map]
  constructor
  · rintro ⟨t, ht, rfl⟩
    have b := (mem_pup (Nat.le_refl n)).mp ht
    have m1 := (row_mem pm).mpr (show 0 ≤ t.1 ∧ t.1 < (n : Int) by omega)
    have m2 := (row_mem pm).mpr (show 0 ≤ t.2 ∧ t.2 < (n : Int) by omega)
    have ne : ns.idxOf t.1 ≠ ns.idxOf t.2 := fun e => by have := idx_inj m1 m2 e; omega
    unfold byT
    split
    · rename_i h; exact ⟨m1, m2, h⟩
    · rename_i h; exact ⟨m2, m1, by show ns.idxOf t.2 < ns.idxOf t.1; omega⟩
  · rintro ⟨h1, h2, h3⟩
    have b1 := (row_mem pm).mp h1
    have b2 := (row_mem pm).mp h2
    have ne : p.1 ≠ p.2 := fun e => by rw [e] at h3; omega
    by_cases h : p.1 < p.2
    · exact ⟨p, (mem_pup (Nat.le_refl n)).mpr ⟨b1.1, b1.2, h, b2.2⟩, if_pos h3⟩
    · refine ⟨sw p, (mem_pup (Nat.le_refl n)).mpr ⟨b2.1, b2.2, by show p.2 < p.1; omega, b1.2⟩, ?_⟩
      unfold byT
      rw [if_neg (by show ¬ ns.idxOf p.2 < ns.idxOf p.1; omega)]; rfl
theorem byAll_led {n : Nat} {ns : List Int} (pm : ns.Perm (up n)) : ledB (byR ns (pup n n)) = true := by
  unfold ledB
  rw [List.all_eq_true]
  intro s hs
  rw [List.all_eq_true]
  intro t ht
  unfold okB
  by_cases h : s.2 = t.1
  · have h1 := (mem_byAll pm).mp hs
    have h2 := (mem_byAll pm).mp ht
    rw [decide_eq_true ((mem_byAll (p := (s.1, t.2)) pm).mpr ⟨h1.1, h2.2.1, by show ns.idxOf s.1 < ns.idxOf t.2; rw [h] at h1; omega⟩), Bool.or_true]
  · rw [decide_eq_false h]; rfl
def ahL (ns : List Int) : Nat → List Ar
  | 0 => []
  | i + 1 => ahL ns i ++ (match ns[i]? with | none => [] | some x => (ns.drop (i + 1)).map fun y => (x, y))
theorem mem_ah {ns : List Int} (nd : ns.Nodup) : ∀ {i : Nat} {p : Ar}, p ∈ ahL ns i ↔ (p.1 ∈ ns ∧ p.2 ∈ ns ∧ ns.idxOf p.1 < i ∧ ns.idxOf p.1 < ns.idxOf p.2)
  | 0, p => ⟨fun h => absurd h List.not_mem_nil, fun h => absurd h.2.2.1 (Nat.not_lt_zero _)⟩
  | i + 1, p => by
    rw [ahL, List.mem_append, mem_ah nd]
    constructor
    · rintro (h | h)
      · exact ⟨h.1, h.2.1, by omega, h.2.2.2⟩
      · split at h
        · exact absurd h List.not_mem_nil
        · rename_i x hx
          obtain ⟨y, hy, rfl⟩ := List.mem_map.mp h
          obtain ⟨m, hm⟩ := List.mem_iff_getElem?.mp hy
          rw [List.getElem?_drop] at hm
          have e1 := idx_of nd hx
          have e2 := idx_of nd hm
          refine ⟨List.mem_of_getElem? hx, List.mem_of_getElem? hm, ?_, ?_⟩ <;> dsimp only <;> omega
    · rintro ⟨h1, h2, h3, h4⟩
      by_cases e : ns.idxOf p.1 < i
      · exact .inl ⟨h1, h2, e, h4⟩
      · have ei : ns.idxOf p.1 = i := by omega
        have g1 := idx_get h1
        rw [ei] at g1
        right
        rw [g1]
        refine List.mem_map.mpr ⟨p.2, ?_, rfl⟩
        have g2 := idx_get h2
        refine List.mem_iff_getElem?.mpr ⟨ns.idxOf p.2 - (i + 1), ?_⟩
        rw [List.getElem?_drop, show i + 1 + (ns.idxOf p.2 - (i + 1)) = ns.idxOf p.2 from by omega]; exact g2
theorem ah_nd {ns : List Int} (nd : ns.Nodup) : ∀ i : Nat, (ahL ns i).Nodup
  | 0 => List.nodup_nil
  | i + 1 => by
    rw [ahL, List.nodup_append]
    refine ⟨ah_nd nd i, ?_, fun a ha b hb e => ?_⟩
    · split
      · exact List.nodup_nil
      · rename_i x _
        rw [List.nodup_iff_pairwise_ne, List.pairwise_map]
        exact (List.nodup_iff_pairwise_ne.mp (nd.sublist (List.drop_sublist _ _))).imp fun h e => h (Prod.ext_iff.mp e).2
    · subst e
      have h := (mem_ah nd).mp ha
      split at hb
      · exact absurd hb List.not_mem_nil
      · rename_i x hx
        obtain ⟨y, hy, rfl⟩ := List.mem_map.mp hb
        have := idx_of nd hx
        dsimp only at h
        omega
theorem ah_len {ns : List Int} : ∀ i : Nat, (ahL ns i).length ≤ i * ns.length
  | 0 => Nat.zero_le _
  | i + 1 => by
    rw [ahL, List.length_append, Nat.succ_mul]
    have := ah_len (ns := ns) i
    split
    · show _ + 0 ≤ _; omega
    · rw [List.length_map, List.length_drop]; omega
theorem srt_both {l m fs gs : List Ar} (hp : fs.Perm l) (hq : gs.Perm m) (nl : l.Nodup) (nm : m.Nodup) (hs : fs.Pairwise (fun s t => ¬ ltT t s)) (ht : gs.Pairwise (fun s t => ¬ ltT t s)) (h : ∀ x, x ∈ l ↔ x ∈ m) : fs = gs :=
  pw_eq (pw_lt hs (hp.nodup_iff.mpr nl)) (pw_lt ht (hq.nodup_iff.mpr nm)) fun x => hp.mem_iff.trans ((h x).trans hq.mem_iff.symm)
section
variable {P : Program} {w : World} {K : PySem.W.Frag} {mg : Str → Option Value} {base : Heap}
def StdD (kvs : List (Key × V)) (ns : List Int) : Prop := ∀ p ∈ ns, valV kvs (Sum.inl p) = some (.int (ns.idxOf p : Int))
/-! ### stands_in -/
abbrev s_stands_in : Stmt := topS 11
abbrev N_stands_in : List Str := ["row", "at", "place"]
theorem sc_stands_in : FnScope N_stands_in ["row"] (defScope s_stands_in) := ⟨rfl, rfl, rfl, by decide +kernel, rfl, by decide +kernel, by decide +kernel⟩
def sp_stands : Sp := fun vs H Q _ => ∃ (R : Addr) (ns : List Int), vs = [.ref R] ∧ H R = some (.lst (ns.map V.int)) ∧ ns.Nodup ∧ ns.length ≤ 10000 ∧ ∀ D kvs H', H D = none → Same H H' → H' D = some (.dK kvs) → StdD kvs ns → Q (.ref D) H'
theorem ok_stands {f : Addr} {fd : FuncData} (B : Bts mg) (F : Fun K "stands_in" "stands_in" s_stands_in f fd) : FnOk P w K mg base CX0 1 f fd ["row"] sp_stands := by
  refine F.ok sc_stands_in (fun vs H Q E h => ?_) (fun cdv A outer s H vs Q E hr h => ?_)
  · obtain ⟨R, ns, rfl, _⟩ := h; rfl
  · obtain ⟨R, ns, rfl, eR, nd, nl, q⟩ := h
    refine ⟨_, (pss_one (ps_ret (pe_dc (own := [("at", 1), ("place", 2)]) (g := (gTup K 2 (gCons (gName 1) (gCons (gName 2) gNil)))) (tt := tYes) rfl sc_stands_in.nd (pi_enum (by rfl) B.enumerate (pa_cons (pv 0) pa_nil)) (blkOk_by (own := [("at", 1), ("place", 2)]) (N := N_stands_in) (sc := defScope s_stands_in) (by decide +kernel)) (fun _ _ _ _ _ => (pg_tup rfl (pgs_cons (pg_name (i := 1) sc_stands_in.nd rfl (by first | exact Or.inl rfl | exact Or.inr rfl)) (pgs_cons (pg_name (i := 2) sc_stands_in.nd rfl (by first | exact Or.inl rfl | exact Or.inr rfl)) pgs_nil)))) (fun _ _ _ _ _ => pts_nil) (fun _ _ _ _ _ => (pv 2)) (fun _ _ _ _ _ => (pv 1))))), ?_⟩
    refine ⟨_, rfl, R, _, rfl, SqL.of eR, fun D nD => ?_⟩
    refine dc_it (walk_enum (K := K) (a := R) (xs := ns.map V.int)) (fun i H1 => ∃ kvs, Same H H1 ∧ H1 D = some (.dK kvs) ∧ kvs.length ≤ i ∧ NumR kvs ns i) ⟨[], same_new nD, upd_same, Nat.le_refl _, fun p => by exact (if_neg (by simp)).symm⟩ ?_ ?_ ?_
    · rintro i H1 _ ⟨_, sm, _⟩
      exact SqL.of (sm _ _ eR)
    · rintro i x H1 H2 hi ⟨kvs, sm, eD, kl, hN⟩ ⟨T, x1, x2, rfl, nT, rfl, ex1, ex2⟩
      rw [List.length_map] at hi
      dsimp only at ex1 ex2
      cases ex1
      have e2 : x2 = .int ns[i] := by
        rw [List.getElem?_map, List.getElem?_eq_getElem hi] at ex2
        cases ex2; rfl
      subst e2
      refine ⟨T, _, rfl, SqT.of upd_same, rfl, _, _, rfl, _, _, rfl, rfl, rfl, yes ?_⟩
      have eD2 := (same_new (o := .tup [.int (i : Int), .int ns[i]]) nT) _ _ eD
      refine ⟨_, rfl, _, rfl, kvs, Sum.inl ns[i], rfl, eD2, sz' (by omega), _, Same.put (sm.trans (same_new nT)) nD, upd_same, ?_, numR_put nd hN (List.getElem?_eq_getElem hi)⟩
      have := len_put kvs (Sum.inl ns[i]) (.int (i : Int))
      omega
    · rintro H1 ⟨kvs, sm, eD, kl, hN⟩
      rw [List.length_map] at hN
      refine q D kvs H1 nD sm eD fun p hp => ?_
      have := hN p
      rwa [List.take_length, if_pos hp] at this
/-! ### by_row -/
abbrev s_by_row : Stmt := topS 10
abbrev N_by_row : List Str := ["web", "row", "stand", "a", "b"]
theorem sc_by_row : FnScope N_by_row ["web", "row"] (defScope s_by_row) := ⟨rfl, rfl, rfl, by decide +kernel, rfl, by decide +kernel, by decide +kernel⟩
def sp_byrow : Sp := fun vs H Q _ => ∃ (v : V) (R : Addr) (n : Nat) (ts : List Ar) (ns : List Int), vs = [v, .ref R] ∧ Web H v n ts ∧ WOk n ts ∧ n ≤ 100 ∧ ts.length ≤ 10000 ∧ H R = some (.lst (ns.map V.int)) ∧ ns.Perm (up n) ∧ ∀ p us H', H p = none → Same H H' → H' p = some (.tup us) → Ties H' us (byR ns ts) → Q (.ref p) H'
theorem ok_byrow {f : Addr} {fd : FuncData} (B : Bts mg) (F : Fun K "by_row" "by_row" s_by_row f fd) (c_stands_in : Cl P w K mg base 1 "stands_in" sp_stands) : FnOk P w K mg base CX0 2 f fd ["web", "row"] sp_byrow := by
  refine F.ok sc_by_row (fun vs H Q E h => ?_) (fun cdv A outer s H vs Q E hr h => ?_)
  · obtain ⟨v, R, n, ts, ns, rfl, _⟩ := h; rfl
  · obtain ⟨v, R, n, ts, ns, rfl, ⟨p, q', us, rfl, ep, eq, hT⟩, hW, hn, hl, eR, pm, q⟩ := h
    refine ⟨_, (pss_cons (ps_set (i := 2) sc_by_row.nd rfl (by first | exact Or.inl rfl | exact Or.inr rfl) (pe_c c_stands_in hr (by decide) (by rfl) (pa_cons (pv 1) pa_nil)))
    (pss_one (ps_ret (pe_callTy call_tuple_of (by rfl) B.tuple (by decide +kernel) (pa_cons (pe_lc (own := [("a", 3), ("b", 4)]) (g := (gTup K 2 (gCons (gName 3) (gCons (gName 4) gNil)))) (tt := tYes) rfl sc_by_row.nd (pi_tup (pe_ix ix_tup (pv 0) pe_int (fun _ _ => rfl))) (blkOk_by (own := [("a", 3), ("b", 4)]) (N := N_by_row) (sc := defScope s_by_row) (by decide +kernel)) (fun _ _ _ _ _ => (pg_tup rfl (pgs_cons (pg_name (i := 3) sc_by_row.nd rfl (by first | exact Or.inl rfl | exact Or.inr rfl)) (pgs_cons (pg_name (i := 4) sc_by_row.nd rfl (by first | exact Or.inl rfl | exact Or.inr rfl)) pgs_nil)))) (fun _ _ _ _ _ => pts_nil) (fun _ _ _ _ _ => (pe_ifExp (pt_cmpR op_lt (pe_dget (hu_of hr) (pv 2) (pv 3) (fun _ _ => rfl)) (pe_dget (hu_of hr) (pv 2) (pv 4) (fun _ _ => rfl)) (nomark _)) (pe_tup (pa_cons (pv 3) (pa_cons (pv 4) pa_nil))) (pe_tup (pa_cons (pv 4) (pa_cons (pv 3) pa_nil)))))) pa_nil))))), ?_⟩
    have nd := row_nd pm
    have nl : ns.length = n := by rw [pm.length_eq, up_len]
    refine ⟨_, rfl, R, ns, rfl, eR, nd, by omega, fun D kvs H1 nD sm eD hN' => ?_⟩
    · have ul := hT.len
      refine ⟨_, rfl, p, _, _, _, rfl, rfl, SqT.of (sm _ _ ep), rfl, q', rfl, ⟨_, SqT.of (sm _ _ eq)⟩, fun E1 nE1 => ?_⟩
      refine wk (walk_tup (K := K) (a := q') (xs := us)) (fun i H2 => ∃ ws, Same H1 H2 ∧ H2 E1 = some (.lst ws) ∧ Ties H2 ws (byR ns (ts.take i))) ⟨[], same_new nE1, upd_same, by exact trivial⟩ ?_ ?_ ?_
      · rintro i H2 _ ⟨_, s2, _⟩
        exact SqT.of (s2 _ _ (sm _ _ eq))
      · rintro i x H2 H3 hi ⟨ws, s2, eE, hV⟩ ⟨rfl, hx⟩
        obtain ⟨t, et, ht⟩ := hT.at hx
        obtain ⟨pt, rfl, ept⟩ := ht.mono (Same.tst (sm.trans s2))
        have b := hW.2 t (List.mem_of_getElem? et)
        have m1 := (row_mem pm).mpr (show 0 ≤ t.1 ∧ t.1 < (n : Int) by omega)
        have m2 := (row_mem pm).mpr (show 0 ≤ t.2 ∧ t.2 < (n : Int) by omega)
        have wl := hV.len
        unfold byR at wl
        rw [List.length_map, List.length_take] at wl
        have st : byR ns (ts.take (i + 1)) = byR ns (ts.take i) ++ [byT ns t] := by unfold byR; rw [List.take_add_one, et, List.map_append]; rfl
        have g1 : DGet H3 D (.int t.1) (some (.int (ns.idxOf t.1 : Int))) := by
          have := DGet.k (k := Sum.inl t.1) (s2 _ _ eD)
          rw [hN' _ m1] at this; exact this
        have g2 : DGet H3 D (.int t.2) (some (.int (ns.idxOf t.2 : Int))) := by
          have := DGet.k (k := Sum.inl t.2) (s2 _ _ eD)
          rw [hN' _ m2] at this; exact this
        refine ⟨pt, _, rfl, SqT.of ept, rfl, _, _, rfl, _, _, rfl, rfl, rfl, yes ?_⟩
        refine ⟨_, rfl, _, rfl, D, _, rfl, g1, _, rfl, _, rfl, D, _, rfl, g2, _, _, rfl, rfl, _, rfl, ite2 (fun e => ?_) (fun e => ?_)⟩
        · have h : ns.idxOf t.1 < ns.idxOf t.2 := Int.ofNat_lt.mp (of_decide_eq_true e)
          refine ⟨_, rfl, _, rfl, by show 2 ≤ sizeLine; decide, fun k nk => ?_⟩
          have sk := same_new (o := .tup [.int t.1, .int t.2]) nk
          have e3 := sk _ _ eE
          refine ⟨ws, e3, sz' (by omega), ws ++ [.ref k], Same.put (s2.trans sk) nE1, upd_same, ?_⟩
          rw [st, show byT ns t = t from if_pos h]
          exact Ties.mono (tst_put e3) ((hV.mono (Same.tst sk)).app (Ties.one ⟨k, rfl, upd_same⟩))
        · have h : ¬ ns.idxOf t.1 < ns.idxOf t.2 := fun z => e (decide_eq_true (Int.ofNat_lt.mpr z))
          refine ⟨_, rfl, _, rfl, by show 2 ≤ sizeLine; decide, fun k nk => ?_⟩
          have sk := same_new (o := .tup [.int t.2, .int t.1]) nk
          have e3 := sk _ _ eE
          refine ⟨ws, e3, sz' (by omega), ws ++ [.ref k], Same.put (s2.trans sk) nE1, upd_same, ?_⟩
          rw [st, show byT ns t = sw t from if_neg h]
          exact Ties.mono (tst_put e3) ((hV.mono (Same.tst sk)).app (Ties.one ⟨k, rfl, upd_same⟩))
      · rintro H2 ⟨ws, s2, eE, hV⟩
        rw [ul, List.take_length] at hV
        refine ⟨E1, ws, rfl, .inl ⟨SqL.of eE, fun y ny => ?_⟩⟩
        have sA := sm.trans s2
        have sy := same_new (o := .tup ws) ny
        exact q y ws _ (same_free sA ny) (sA.trans sy) upd_same (hV.mono (Same.tst sy))
end
end My

set_option Elab.async false
set_option linter.all false
set_option maxRecDepth 100000
namespace My
open PySem PySem.Spec PyProof.Rows L2 GxR
/-! ### two rows crossed -/
def ah (ns : List Int) (t : Ar) : Bool := decide (ns.idxOf t.1 < ns.idxOf t.2)
def crB (ms ns : List Int) (t : Ar) : Bool := !decide (ah ms t = ah ns t)
def crL (ms ns : List Int) (l : List Ar) : List Ar := l.filter (crB ms ns)
theorem cr_app (ms ns : List Int) (l m : List Ar) : crL ms ns (l ++ m) = crL ms ns l ++ crL ms ns m := List.filter_append ..
theorem cr_one (ms ns : List Int) (t : Ar) : crL ms ns [t] = if crB ms ns t = true then [t] else [] := by
  unfold crL
  by_cases h : crB ms ns t = true
  · rw [if_pos h, List.filter_cons_of_pos h]; rfl
  · rw [if_neg h, List.filter_cons_of_neg h]; rfl
theorem cr_sub (ms ns : List Int) (l : List Ar) : (crL ms ns l).Sublist l := List.filter_sublist
theorem cr_len {ms ns : List Int} {n : Nat} (hn : n ≤ 100) : (crL ms ns (pup n n)).length ≤ 10000 := Nat.le_trans (cr_sub _ _ _).length_le (pup_len' hn (Nat.le_refl n))
theorem cr_wok (ms ns : List Int) (n : Nat) : WOk n (crL ms ns (pup n n)) := wok_sub (cr_sub _ _ _)
theorem cr_comm (ms ns : List Int) (l : List Ar) : crL ms ns l = crL ns ms l := by
  unfold crL crB
  exact List.filter_congr fun t _ => congrArg (! ·) (decide_eq_decide.mpr ⟨Eq.symm, Eq.symm⟩)
theorem ah_anti {n : Nat} {ns : List Int} (pm : ns.Perm (up n)) {a b : Int} (ha : 0 ≤ a ∧ a < (n : Int)) (hb : 0 ≤ b ∧ b < (n : Int)) (ne : a ≠ b) : ah ns (b, a) = !ah ns (a, b) := by
  have m1 := (row_mem pm).mpr ha
  have m2 := (row_mem pm).mpr hb
  have h : ns.idxOf a ≠ ns.idxOf b := fun e => ne (idx_inj m1 m2 e)
  unfold ah
  dsimp only
  by_cases z : ns.idxOf a < ns.idxOf b
  · rw [decide_eq_true z, decide_eq_false (show ¬ ns.idxOf b < ns.idxOf a by omega)]; rfl
  · rw [decide_eq_false z, decide_eq_true (show ns.idxOf b < ns.idxOf a by omega)]; rfl
theorem by_ah (ns : List Int) (t : Ar) : byT ns t = if ah ns t = true then t else sw t := by
  unfold byT ah
  by_cases z : ns.idxOf t.1 < ns.idxOf t.2
  · rw [if_pos z, decide_eq_true z]; rfl
  · rw [if_neg z, decide_eq_false z]; rfl
theorem mem_by {n : Nat} {ms ns : List Int} (pm : ms.Perm (up n)) (pn : ns.Perm (up n)) {x : Ar} : x ∈ byR ms (crL ms ns (pup n n)) ↔ InR n x ∧ ah ms x = true ∧ ah ns (sw x) = true := by
  unfold byR
  rw [List.mem_map]
  constructor
  · rintro ⟨t, ht, rfl⟩
    obtain ⟨h1, h2⟩ := List.mem_filter.mp ht
    have hp := (mem_pup (Nat.le_refl _)).mp h1
    have a1 := ah_anti pm (a := t.1) (b := t.2) (by omega) (by omega) (by omega)
    have a2 := ah_anti pn (a := t.1) (b := t.2) (by omega) (by omega) (by omega)
    unfold crB at h2
    rw [Bool.not_eq_true', decide_eq_false_iff_not] at h2
    rw [by_ah]
    by_cases e : ah ms t = true
    · rw [if_pos e]
      refine ⟨⟨by omega, by omega, by omega, by omega⟩, e, ?_⟩
      show ah ns (t.2, t.1) = true
      rw [a2]
      rw [e] at h2
      cases z : ah ns t with
      | false => rfl
      | true => exact absurd z.symm h2
    · rw [if_neg e]
      have e' := Bool.eq_false_iff.mpr e
      refine ⟨⟨by show 0 ≤ t.2; omega, by show t.2 < _; omega, by show 0 ≤ t.1; omega, by show t.1 < _; omega⟩, ?_, ?_⟩
      · show ah ms (t.2, t.1) = true
        rw [a1, e']; rfl
      · show ah ns t = true
        rw [e'] at h2
        cases z : ah ns t with
        | true => rfl
        | false => exact absurd z.symm h2
  · rintro ⟨⟨h1, h2, h3, h4⟩, h5, h6⟩
    have ne : x.1 ≠ x.2 := fun z => by
      unfold ah at h5
      rw [z] at h5
      simp at h5
    rcases Int.lt_or_gt_of_ne ne with z | z
    · refine ⟨x, List.mem_filter.mpr ⟨(mem_pup (Nat.le_refl _)).mpr ⟨h1, h2, z, h4⟩, ?_⟩, by rw [by_ah, if_pos h5]⟩
      have a2 := ah_anti pn (a := x.1) (b := x.2) (by omega) (by omega) (by omega)
      have h6' : ah ns (x.2, x.1) = true := h6
      unfold crB
      rw [h5]
      rw [a2] at h6'
      cases z : ah ns x with
      | false => rfl
      | true => rw [show ah ns (x.1, x.2) = true from z] at h6'; cases h6'
    · refine ⟨sw x, List.mem_filter.mpr ⟨(mem_pup (Nat.le_refl _)).mpr ⟨h3, h4, z, h2⟩, ?_⟩, ?_⟩
      · have a1 := ah_anti pm (a := x.1) (b := x.2) (by omega) (by omega) (by omega)
        unfold crB
        rw [h6, show ah ms (sw x) = !ah ms x from a1, h5]; rfl
      · have a1 := ah_anti pm (a := x.1) (b := x.2) (by omega) (by omega) (by omega)
        rw [by_ah, if_neg]
        · rfl
        · rw [show ah ms (sw x) = !ah ms x from a1, h5]; exact Bool.false_ne_true
theorem by_cr {n : Nat} {ms ns : List Int} (pm : ms.Perm (up n)) (pn : ns.Perm (up n)) : byR ns (crL ms ns (pup n n)) = (byR ms (crL ms ns (pup n n))).map sw := by
  unfold byR
  rw [List.map_map]
  refine List.map_congr_left fun t ht => ?_
  obtain ⟨_, h2⟩ := List.mem_filter.mp ht
  unfold crB at h2
  rw [Bool.not_eq_true', decide_eq_false_iff_not] at h2
  show byT ns t = sw (byT ms t)
  rw [by_ah, by_ah]
  cases e : ah ms t with
  | true =>
    rw [e] at h2
    cases z : ah ns t with
    | true => exact absurd z.symm h2
    | false => rfl
  | false =>
    rw [e] at h2
    cases z : ah ns t with
    | false => exact absurd z.symm h2
    | true => rfl
theorem cr_self (ms : List Int) (l : List Ar) : crL ms ms l = [] := by
  unfold crL
  rw [List.filter_eq_nil_iff]
  intro t _
  unfold crB
  rw [decide_eq_true rfl]; exact Bool.false_ne_true
theorem cr_rev {n : Nat} {ms : List Int} (pm : ms.Perm (up n)) : crL ms ms.reverse (pup n n) = pup n n := by
  unfold crL
  rw [List.filter_eq_self]
  intro t ht
  have hp := (mem_pup (Nat.le_refl _)).mp ht
  have m1 := (row_mem pm).mpr (show 0 ≤ t.1 ∧ t.1 < (n : Int) by omega)
  have m2 := (row_mem pm).mpr (show 0 ≤ t.2 ∧ t.2 < (n : Int) by omega)
  have r1 := idx_rev (row_nd pm) m1
  have r2 := idx_rev (row_nd pm) m2
  have ne : ms.idxOf t.1 ≠ ms.idxOf t.2 := fun e => by have := idx_inj m1 m2 e; omega
  unfold crB ah
  by_cases z : ms.idxOf t.1 < ms.idxOf t.2
  · rw [decide_eq_true z, decide_eq_false (show ¬ ms.reverse.idxOf t.1 < ms.reverse.idxOf t.2 by omega)]; rfl
  · rw [decide_eq_false z, decide_eq_true (show ms.reverse.idxOf t.1 < ms.reverse.idxOf t.2 by omega)]; rfl
theorem pup_count : ∀ n : Nat, n < 13 → ((pup n n).length : Int) = (n : Int) * ((n : Int) - 1) / 2 := by decide +kernel
end My

set_option Elab.async false
set_option linter.all false
set_option maxRecDepth 100000
set_option maxHeartbeats 2000000
namespace My
open PySem PySem.Spec PyProof.Rows L2 GxR
theorem swap_perm {l : List Int} {i : Nat} {x y : Int} (h1 : l[i]? = some x) (h2 : l[i + 1]? = some y) : ((l.set i y).set (i + 1) x).Perm l := by
  obtain ⟨l1, e1⟩ := List.getElem?_eq_some_iff.mp h1
  obtain ⟨l2, e2⟩ := List.getElem?_eq_some_iff.mp h2
  subst e1; subst e2
  exact List.set_set_perm l1 l2
theorem ixN_at {n j : Nat} (hj : j < n) : ixN n (j : Int) = some j := by
  unfold ixN
  rw [if_pos (by omega), if_pos (by omega)]; simp
theorem map_set (l : List Int) (i : Nat) (x : Int) : (l.map V.int).set i (.int x) = (l.set i x).map V.int := by
  rw [List.map_set]
section
variable {P : Program} {w : World} {K : PySem.W.Frag} {mg : Str → Option Value} {base : Heap}
/-! ### crossed_web -/
abbrev s_crossed_web : Stmt := topS 13
abbrev N_crossed_web : List Str := ["one", "other", "many", "first", "second", "pairs", "a", "b"]
theorem sc_crossed_web : FnScope N_crossed_web ["one", "other"] (defScope s_crossed_web) := ⟨rfl, rfl, rfl, by decide +kernel, rfl, by decide +kernel, by decide +kernel⟩
def sp_cweb : Sp := fun vs H Q _ => ∃ (p q : Addr) (n : Nat) (ms ns : List Int), vs = [.ref p, .ref q] ∧ H p = some (.lst (ms.map V.int)) ∧ H q = some (.lst (ns.map V.int)) ∧ ms.Perm (up n) ∧ ns.Perm (up n) ∧ n ≤ 100 ∧
  ∀ u H', Same H H' → Web H' u n (crL ms ns (pup n n)) → Q u H'
theorem ok_cweb {f : Addr} {fd : FuncData} (B : Bts mg) (F : Fun K "crossed_web" "crossed_web" s_crossed_web f fd) (c_stands_in : Cl P w K mg base 1 "stands_in" sp_stands) : FnOk P w K mg base CX0 2 f fd ["one", "other"] sp_cweb := by
  refine F.ok sc_crossed_web (fun vs H Q E h => ?_) (fun cdv A outer s H vs Q E hr h => ?_)
  · obtain ⟨p, q, n, ms, ns, rfl, _⟩ := h; rfl
  · obtain ⟨p, q', n, ms, ns, rfl, ep, eq, pm, pn, hn, q⟩ := h
    refine ⟨_, (pss_cons (ps_set (i := 2) sc_crossed_web.nd rfl (by first | exact Or.inl rfl | exact Or.inr rfl) (pe_callB call_len_seq (by rfl) B.len (by decide +kernel) (pa_cons (pv 0) pa_nil)))
    (pss_cons (ps_set (i := 3) sc_crossed_web.nd rfl (by first | exact Or.inl rfl | exact Or.inr rfl) (pe_c c_stands_in hr (by decide) (by rfl) (pa_cons (pv 0) pa_nil)))
    (pss_cons (ps_set (i := 4) sc_crossed_web.nd rfl (by first | exact Or.inl rfl | exact Or.inr rfl) (pe_c c_stands_in hr (by decide) (by rfl) (pa_cons (pv 1) pa_nil)))
    (pss_cons (ps_setLc2 (i := 5) (own := [("a", 6), ("b", 7)]) (vs1 := [7]) (g := (gName 6)) (g1 := (gName 7)) (tt := tYes) (tt1 := tYes) rfl sc_crossed_web.nd rfl rfl (sw_true rfl rfl rfl (by decide +kernel)) (pi_range1 (by rfl) B.range (pa_cons (pv 2) pa_nil)) (blkOk_by (own := [("a", 6), ("b", 7)]) (N := N_crossed_web) (sc := defScope s_crossed_web) (by decide +kernel)) (by decide) (fun _ _ _ _ _ => (pg_name (i := 6) sc_crossed_web.nd rfl (by first | exact Or.inl rfl | exact Or.inr rfl))) (fun _ _ _ _ _ => pts_nil) (fun _ _ _ _ _ => (pi_range2 (by rfl) B.range (pa_cons (pe_op op_add (pv 6) pe_int) (pa_cons (pv 2) pa_nil)))) (fun _ _ _ _ _ => (pg_name (i := 7) sc_crossed_web.nd rfl (by first | exact Or.inl rfl | exact Or.inr rfl))) (fun _ _ _ _ _ => pts_nil) (fun _ _ _ _ _ => (pe_tup (pa_cons (pv 6) (pa_cons (pv 7) pa_nil)))))
    (pss_one (ps_ret (pe_tup (pa_cons (pv 2) (pa_cons (pe_callTy call_tuple_of (by rfl) B.tuple (by decide +kernel) (pa_cons (pe_lc (own := [("a", 6), ("b", 7)]) (g := (gTup K 2 (gCons (gName 6) (gCons (gName 7) gNil)))) rfl sc_crossed_web.nd (pi_list (pv 5)) (blkOk_by (own := [("a", 6), ("b", 7)]) (N := N_crossed_web) (sc := defScope s_crossed_web) (by decide +kernel)) (fun _ _ _ _ _ => (pg_tup rfl (pgs_cons (pg_name (i := 6) sc_crossed_web.nd rfl (by first | exact Or.inl rfl | exact Or.inr rfl)) (pgs_cons (pg_name (i := 7) sc_crossed_web.nd rfl (by first | exact Or.inl rfl | exact Or.inr rfl)) pgs_nil)))) (fun _ _ _ _ _ => (pts_one (pt_cmpR op_ne (pe_cmpR op_lt (pe_dget (hu_of hr) (pv 3) (pv 6) (fun _ _ => rfl)) (pe_dget (hu_of hr) (pv 3) (pv 7) (fun _ _ => rfl)) (nomark _)) (pe_cmpR op_lt (pe_dget (hu_of hr) (pv 4) (pv 6) (fun _ _ => rfl)) (pe_dget (hu_of hr) (pv 4) (pv 7) (fun _ _ => rfl)) (nomark _)) (nomark _)))) (fun _ _ _ _ _ => (pe_tup (pa_cons (pv 6) (pa_cons (pv 7) pa_nil))))) pa_nil)) pa_nil))))))))), ?_⟩
    have ml : ms.length = n := by rw [pm.length_eq, up_len]
    have nl : ns.length = n := by rw [pn.length_eq, up_len]
    refine ⟨_, rfl, p, _, rfl, .inl (SqL.of ep), ?_⟩
    rw [List.length_map, ml]
    refine ⟨_, rfl, p, ms, rfl, ep, row_nd pm, by omega, fun D1 k1 H1 nD1 s1 eD1 hS1 => ?_⟩
    refine ⟨_, rfl, q', ns, rfl, s1 _ _ eq, row_nd pn, by omega, fun D2 k2 H2 nD2 s2 eD2 hS2 => ?_⟩
    have s02 := s1.trans s2
    refine ⟨_, rfl, _, rfl, by omega, by omega, fun E1 nE1 => ?_⟩
    have tn : ((n : Int)).toNat = n := Int.toNat_natCast n
    refine wk (walk_range (lo := 0)) (fun i H3 => ∃ ws, Same H2 H3 ∧ H3 E1 = some (.lst ws) ∧ Ties H3 ws (pup n i)) ⟨[], same_new nE1, upd_same, by exact trivial⟩ (fun _ _ _ _ => trivial) ?_ ?_
    · rintro i x H3 H4 hi ⟨ws, s3, eE, hW⟩ ⟨rfl, hx⟩
      obtain rfl : x = .int (i : Int) := hx.trans (congrArg V.int (Int.zero_add _))
      rw [tn] at hi
      refine ⟨rfl, yes ?_⟩
      refine ⟨_, rfl, _, _, rfl, rfl, _, rfl, _, _, rfl, ⟨by omega, by omega, by omega, by omega⟩, ?_⟩
      have en : ((n : Int) - ((i : Int) + 1)).toNat = n - (i + 1) := by omega
      refine wk (walk_range (lo := (i : Int) + 1)) (fun j H4 => ∃ ws, Same H2 H4 ∧ H4 E1 = some (.lst ws) ∧ Ties H4 ws (pup n i ++ prow i j)) ⟨ws, s3, eE, by exact (List.append_nil (pup n i)).symm ▸ hW⟩ (fun _ _ _ _ => trivial) ?_ ?_
      · rintro j x H4 H5 hj ⟨ws, s4, eE4, hW4⟩ ⟨rfl, hx⟩
        obtain rfl : x = .int ((i : Int) + 1 + (j : Int)) := hx
        rw [en] at hj
        have wl := hW4.len
        have l1 := pup_len' hn (Nat.le_of_lt hi)
        rw [List.length_append, prow_len] at wl
        refine ⟨rfl, yes ?_⟩
        refine ⟨_, rfl, _, rfl, by show 2 ≤ sizeLine; decide, fun k2 nk2 => ?_⟩
        have sk2 := same_new (o := .tup [.int (i : Int), .int ((i : Int) + 1 + (j : Int))]) nk2
        have e3 := sk2 _ _ eE4
        refine ⟨ws, e3, sz' (by omega), ws ++ [.ref k2], Same.put (s4.trans sk2) nE1, upd_same, ?_⟩
        rw [prow_succ, ← List.append_assoc]
        exact Ties.mono (tst_put e3) ((hW4.mono (Same.tst sk2)).app (Ties.one Tie.new))
      · rintro H4 ⟨ws, s4, eE4, hW4⟩
        rw [en, ← pup_succ] at hW4
        exact ⟨ws, s4, eE4, hW4⟩
    · rintro H3 ⟨ws, s3, eE, hW⟩
      rw [tn] at hW
      refine ⟨_, rfl, _, rfl, E1, rfl, ⟨_, SqL.of eE⟩, fun E2 nE2 => ?_⟩
      have pl := pup_len' hn (Nat.le_refl n)
      refine wk (walk_list (K := K) (a := E1) (xs := ws)) (fun i H4 => ∃ zs, Same H3 H4 ∧ H4 E2 = some (.lst zs) ∧ Ties H4 zs (crL ms ns ((pup n n).take i))) ⟨[], same_new nE2, upd_same, by exact trivial⟩ ?_ ?_ ?_
      · rintro i H4 _ ⟨_, s4, _⟩
        exact SqL.of (s4 _ _ eE)
      · rintro i x H4 H5 hi ⟨zs, s4, eE2, hZ⟩ ⟨rfl, hx⟩
        obtain ⟨t, et, ht⟩ := hW.at hx
        obtain ⟨pt, rfl, ept⟩ := ht.mono (Same.tst s4)
        have hp := (mem_pup (Nat.le_refl n)).mp (List.mem_of_getElem? et)
        have s24 := s3.trans s4
        have gt : ∀ (D : Addr) (kvs : List (Key × V)) (rs : List Int), H5 D = some (.dK kvs) → StdD kvs rs → rs.Perm (up n) → ∀ a : Int, 0 ≤ a → a < (n : Int) → DGet H5 D (.int a) (some (.int (rs.idxOf a : Int))) := fun D kvs rs eD hS pr a a0 a1 => by
          have := DGet.k (k := Sum.inl a) eD
          rw [hS a ((row_mem pr).mpr ⟨a0, a1⟩)] at this; exact this
        have eD1' := (s2.trans s24) _ _ eD1
        have eD2' := s24 _ _ eD2
        have zl := hZ.len
        have zl2 := (cr_sub ms ns ((pup n n).take i)).length_le
        rw [List.length_take] at zl2
        refine ⟨pt, _, rfl, SqT.of ept, rfl, _, _, rfl, _, _, rfl, rfl, rfl, ?_⟩
        have x1 := gt D1 k1 ms eD1' hS1 pm t.1 (by omega) (by omega)
        have x2 := gt D1 k1 ms eD1' hS1 pm t.2 (by omega) (by omega)
        have x3 := gt D2 k2 ns eD2' hS2 pn t.1 (by omega) (by omega)
        have x4 := gt D2 k2 ns eD2' hS2 pn t.2 (by omega) (by omega)
        refine ⟨_, rfl, _, rfl, D1, _, rfl, x1, ?_⟩
        refine ⟨_, rfl, _, rfl, D1, _, rfl, x2, ?_⟩
        refine ⟨_, _, rfl, rfl, ?_⟩
        refine ⟨_, rfl, _, rfl, D2, _, rfl, x3, ?_⟩
        refine ⟨_, rfl, _, rfl, D2, _, rfl, x4, ?_⟩
        refine ⟨_, _, rfl, rfl, ?_⟩
        refine ⟨rfl, _, rfl, ?_⟩
        have eb : (!decide (V.bl (decide ((ms.idxOf t.1 : Int) < (ms.idxOf t.2 : Int))) = V.bl (decide ((ns.idxOf t.1 : Int) < (ns.idxOf t.2 : Int))))) = crB ms ns t := by
          unfold crB ah
          refine congrArg (! ·) (decide_eq_decide.mpr ?_)
          rw [V.bl.injEq, show decide ((ms.idxOf t.1 : Int) < (ms.idxOf t.2 : Int)) = decide (ms.idxOf t.1 < ms.idxOf t.2) from decide_eq_decide.mpr Int.ofNat_lt, show decide ((ns.idxOf t.1 : Int) < (ns.idxOf t.2 : Int)) = decide (ns.idxOf t.1 < ns.idxOf t.2) from decide_eq_decide.mpr Int.ofNat_lt]
        rw [eb]
        have st : crL ms ns ((pup n n).take (i + 1)) = crL ms ns ((pup n n).take i) ++ (if crB ms ns t = true then [t] else []) := by
          rw [List.take_add_one, et, cr_app]; exact congrArg _ (cr_one ms ns t)
        refine ite2 (fun e => ?_) (fun e => ?_)
        · refine ⟨_, rfl, _, rfl, by show 2 ≤ sizeLine; decide, fun k nk => ?_⟩
          have sk := same_new (o := .tup [.int t.1, .int t.2]) nk
          have e3 := sk _ _ eE2
          refine ⟨zs, e3, sz' (by omega), zs ++ [.ref k], Same.put (s4.trans sk) nE2, upd_same, ?_⟩
          rw [st, if_pos e]
          exact Ties.mono (tst_put e3) ((hZ.mono (Same.tst sk)).app (Ties.one ⟨k, rfl, upd_same⟩))
        · refine ⟨zs, s4, eE2, ?_⟩
          rw [st, if_neg e, List.append_nil]; exact hZ
      · rintro H4 ⟨zs, s4, eE2, hZ⟩
        rw [hW.len, List.take_length] at hZ
        refine ⟨E2, zs, rfl, .inl ⟨SqL.of eE2, fun t nt => ?_⟩⟩
        refine ⟨by show 2 ≤ sizeLine; decide, fun u nu => ?_⟩
        have s5 := (same_new (o := .tup zs) nt).trans (same_new (o := .tup [.int (n : Int), .ref t]) nu)
        refine q _ _ (((s02.trans s3).trans s4).trans s5) ⟨u, t, zs, rfl, upd_same, ?_, hZ.mono (Same.tst s5)⟩
        rw [upd_ne (ne_of_none upd_same nu)]; exact upd_same
/-! ### crossed_pointing -/
abbrev s_crossed_pointing : Stmt := topS 14
abbrev N_crossed_pointing : List Str := ["one", "other"]
theorem sc_crossed_pointing : FnScope N_crossed_pointing ["one", "other"] (defScope s_crossed_pointing) := ⟨rfl, rfl, rfl, by decide +kernel, rfl, by decide +kernel, by decide +kernel⟩
def sp_cpt : Sp := fun vs H Q _ => ∃ (p q : Addr) (n : Nat) (ms ns : List Int), vs = [.ref p, .ref q] ∧ H p = some (.lst (ms.map V.int)) ∧ H q = some (.lst (ns.map V.int)) ∧ ms.Perm (up n) ∧ ns.Perm (up n) ∧ n ≤ 100 ∧
  ∀ u us H', H u = none → Same H H' → H' u = some (.tup us) → Ties H' us (byR ms (crL ms ns (pup n n))) → Q (.ref u) H'
theorem ok_cpt {f : Addr} {fd : FuncData} (B : Bts mg) (F : Fun K "crossed_pointing" "crossed_pointing" s_crossed_pointing f fd) (c_crossed_web : Cl P w K mg base 2 "crossed_web" sp_cweb) (c_by_row : Cl P w K mg base 2 "by_row" sp_byrow) : FnOk P w K mg base CX0 3 f fd ["one", "other"] sp_cpt := by
  refine F.ok sc_crossed_pointing (fun vs H Q E h => ?_) (fun cdv A outer s H vs Q E hr h => ?_)
  · obtain ⟨p, q, n, ms, ns, rfl, _⟩ := h; rfl
  · obtain ⟨p, q', n, ms, ns, rfl, ep, eq, pm, pn, hn, q⟩ := h
    refine ⟨_, (pss_one (ps_ret (pe_c c_by_row hr (by decide) (by rfl) (pa_cons (pe_c c_crossed_web hr (by decide) (by rfl) (pa_cons (pv 0) (pa_cons (pv 1) pa_nil))) (pa_cons (pv 0) pa_nil))))), ?_⟩
    refine ⟨_, rfl, _, rfl, p, q', n, ms, ns, rfl, ep, eq, pm, pn, hn, fun u H1 s1 wu => ?_⟩
    exact ⟨_, rfl, u, p, n, _, ms, rfl, wu, cr_wok ms ns n, hn, cr_len hn, s1 _ _ ep, pm, fun y us H2 ny s2 ey hY => q y us H2 (same_free s1 ny) (s1.trans s2) ey hY⟩
/-! ### _law_two_rows -/
abbrev s__law_two_rows : Stmt := topS 21
abbrev N__law_two_rows : List Str := ["_law_left_here", "_law_many", "_law_one", "_law_way", "_law_other", "_law_turn", "_law_at"]
theorem sc__law_two_rows : FnScope N__law_two_rows ["_law_left_here"] (defScope s__law_two_rows) := ⟨rfl, rfl, rfl, by decide +kernel, rfl, by decide +kernel, by decide +kernel⟩
def sp_two : Sp := fun vs H Q _ => ∃ (L : Addr) (c : Int), vs = [.ref L] ∧ Lf H L c ∧ c < 2 ^ 48 ∧
  ∀ (t p q : Addr) (n : Nat) (ms ns : List Int) (H' : Hp), n ≤ 12 → H p = none → H q = none → p ≠ q → Fr L H H' → Lf H' L (c + 1000) → H' t = some (.tup [.ref p, .ref q]) → H' p = some (.lst (ms.map V.int)) → H' q = some (.lst (ns.map V.int)) → ms.Perm (up n) → ns.Perm (up n) → Q (.ref t) H'
theorem ok_two {f : Addr} {fd : FuncData} (B : Bts mg) (F : Fun K "_law_two_rows" "_law_two_rows" s__law_two_rows f fd) (c__law_pick : Cl P w K mg base 2 "_law_pick" sp_pick) (c__law_row : Cl P w K mg base 3 "_law_row" sp_row) : FnOk P w K mg base CX0 4 f fd ["_law_left_here"] sp_two := by
  refine F.ok sc__law_two_rows (fun vs H Q E h => ?_) (fun cdv A outer s H vs Q E hr h => ?_)
  · obtain ⟨L, c, rfl, _⟩ := h; rfl
  · obtain ⟨L, c, rfl, hL, hc, q⟩ := h
    refine ⟨_, (pss_cons (ps_set (i := 1) sc__law_two_rows.nd rfl (by first | exact Or.inl rfl | exact Or.inr rfl) (pe_ix ix_list (pe_lst (pa_cons pe_int (pa_cons pe_int (pa_cons pe_int (pa_cons pe_int (pa_cons pe_int (pa_cons pe_int (pa_cons pe_int (pa_cons pe_int (pa_cons pe_int (pa_cons pe_int (pa_cons pe_int (pa_cons (pe_op op_add pe_int (pe_c c__law_pick hr (by decide) (by rfl) (pa_cons (pv 0) (pa_cons pe_int pa_nil)))) pa_nil))))))))))))) (pe_c c__law_pick hr (by decide) (by rfl) (pa_cons (pv 0) (pa_cons pe_int pa_nil))) (fun _ _ => rfl)))
    (pss_cons (ps_set (i := 2) sc__law_two_rows.nd rfl (by first | exact Or.inl rfl | exact Or.inr rfl) (pe_c c__law_row hr (by decide) (by rfl) (pa_cons (pv 0) (pa_cons (pv 1) pa_nil))))
    (pss_cons (ps_set (i := 3) sc__law_two_rows.nd rfl (by first | exact Or.inl rfl | exact Or.inr rfl) (pe_c c__law_pick hr (by decide) (by rfl) (pa_cons (pv 0) (pa_cons pe_int pa_nil))))
    (pss_cons (ps_if (pt_cmpR op_eq (pv 3) pe_int (nomark _)) (pss_one (ps_ret (pe_tup (pa_cons (pv 2) (pa_cons (pe_callTy call_list_of (by rfl) B.list (by decide +kernel) (pa_cons (pv 2) pa_nil)) pa_nil))))) pss_nil)
    (pss_cons (ps_if (pt_cmpR op_eq (pv 3) pe_int (nomark _)) (pss_one (ps_ret (pe_tup (pa_cons (pv 2) (pa_cons (pe_revL (pv 2)) pa_nil))))) pss_nil)
    (pss_cons (ps_if (pt_cmpR op_lt (pv 3) pe_int (nomark _)) (pss_one (ps_ret (pe_tup (pa_cons (pv 2) (pa_cons (pe_c c__law_row hr (by decide) (by rfl) (pa_cons (pv 0) (pa_cons (pv 1) pa_nil))) pa_nil))))) pss_nil)
    (pss_cons (ps_set (i := 4) sc__law_two_rows.nd rfl (by first | exact Or.inl rfl | exact Or.inr rfl) (pe_callTy call_list_of (by rfl) B.list (by decide +kernel) (pa_cons (pv 2) pa_nil)))
    (pss_cons (ps_for PassesOwn.never rfl (pi_range1 (by rfl) B.range (pa_cons (pe_op op_mul (pe_callTy call_int1 (by rfl) B.int (by decide +kernel) (pa_cons (pe_cmpR op_gt (pv 1) pe_int (nomark _)) pa_nil)) (pe_op op_add pe_int (pe_c c__law_pick hr (by decide) (by rfl) (pa_cons (pv 0) (pa_cons pe_int pa_nil))))) pa_nil)) (pg_name (i := 5) sc__law_two_rows.nd rfl (by first | exact Or.inl rfl | exact Or.inr rfl))
      (pss_cons (ps_set (i := 6) sc__law_two_rows.nd rfl (by first | exact Or.inl rfl | exact Or.inr rfl) (pe_c c__law_pick hr (by decide) (by rfl) (pa_cons (pv 0) (pa_cons (pe_op op_sub (pv 1) pe_int) pa_nil))))
      (pss_one (ps_asg (pe_tup (pa_cons (pe_ix ix_list (pv 4) (pe_op op_add (pv 6) pe_int) (fun _ _ => rfl)) (pa_cons (pe_ix ix_list (pv 4) (pv 6) (fun _ _ => rfl)) pa_nil))) (pg_tup rfl (pgs_cons (pg_sub (pv 4) (pv 6) set_list) (pgs_cons (pg_sub (pv 4) (pe_op op_add (pv 6) pe_int) set_list) pgs_nil)))))))
    (pss_one (ps_ret (pe_tup (pa_cons (pv 2) (pa_cons (pv 4) pa_nil))))))))))))), ?_⟩
    -- many
    refine ⟨_, rfl, L, _, c, rfl, hL, by decide, by decide, by omega, fun r0 H1 r00 r01 fr1 lf1 => ?_⟩
    refine ⟨_, _, rfl, rfl, by show 12 ≤ sizeLine; decide, fun p0 np0 => ?_⟩
    refine ⟨_, rfl, L, _, c + 1, rfl, lf1.new np0, by decide, by decide, by omega, fun r1 H2 r10 r11 fr2 lf2 => ?_⟩
    have ep0 : H2 p0 = some (.lst (([0, 1, 2, 3, 4, 5, 6, 7, 8, 5, 6, 9 + r0] : List Int).map V.int)) := fr2 _ _ (lf1.ne np0) upd_same
    obtain ⟨x, ex, mx⟩ := at_mem (ns := [0, 1, 2, 3, 4, 5, 6, 7, 8, 5, 6, 9 + r0]) (j := r1) (by show -(12 : Int) ≤ r1; omega) (by show r1 < (12 : Int); omega)
    have bx : 0 ≤ x ∧ x ≤ 12 := by
      simp only [List.mem_cons, List.not_mem_nil, or_false] at mx
      omega
    refine ⟨p0, _, r1, _, rfl, rfl, SqL.of ep0, ex, ?_⟩
    have fr02 : Fr L H H2 := (fr1.trans (Fr.new np0)).trans fr2
    clear ep0 ex
    obtain ⟨n, en⟩ := natOf bx.1
    subst en
    -- one
    refine ⟨_, rfl, _, rfl, L, n, _, rfl, lf2, by omega, by omega, fun p ms H3 np fr3 lf3 ep pm => ?_⟩
    have fr03 := fr02.trans fr3
    have np0' : H p = none := Lf.free fr02 lf2 np
    have pL : p ≠ L := hL.ne np0'
    -- way
    refine ⟨_, rfl, L, _, _, rfl, lf3, by decide, by decide, by omega, fun way H4 w0 w1 fr4 lf4 => ?_⟩
    have fr04 := fr03.trans fr4
    have ep4 := fr4 _ _ pL ep
    have mlen : (ms.map V.int).length = n := by rw [List.length_map, pm.length_eq, up_len]
    refine ⟨_, rfl, rfl, _, rfl, ite2 (fun e => ?_) (fun e => ?_)⟩
    · refine ⟨_, rfl, _, rfl, p, _, rfl, .inl (SqL.of ep4), fun g ng => ?_⟩
      refine ⟨by show 2 ≤ sizeLine; decide, fun t nt => ?_⟩
      have s5 := (same_new (o := .lst (ms.map V.int)) ng).trans (same_new (o := .tup [.ref p, .ref g]) nt)
      exact q t p g n ms ms _ (by omega) np0' (Lf.free fr04 lf4 ng) (ne_of_none ep4 ng) (fr04.trans (Fr.of s5)) ((lf4.same s5).mono (by omega)) upd_same (s5 _ _ ep4) (by rw [upd_ne (ne_of_none upd_same nt)]; exact upd_same) pm pm
    refine ⟨_, rfl, rfl, _, rfl, ite2 (fun e => ?_) (fun e => ?_)⟩
    · refine ⟨_, rfl, _, rfl, p, _, rfl, SqL.of ep4, fun g ng => ?_⟩
      refine ⟨by show 2 ≤ sizeLine; decide, fun t nt => ?_⟩
      have s5 := (same_new (o := .lst (ms.map V.int).reverse) ng).trans (same_new (o := .tup [.ref p, .ref g]) nt)
      exact q t p g n ms ms.reverse _ (by omega) np0' (Lf.free fr04 lf4 ng) (ne_of_none ep4 ng) (fr04.trans (Fr.of s5)) ((lf4.same s5).mono (by omega)) upd_same (s5 _ _ ep4) (by rw [upd_ne (ne_of_none upd_same nt), upd_same, List.map_reverse]) pm ((List.reverse_perm ms).trans pm)
    refine ⟨_, rfl, _, _, rfl, rfl, _, rfl, ite2 (fun e => ?_) (fun e => ?_)⟩
    · refine ⟨_, rfl, _, rfl, _, rfl, L, n, _, rfl, lf4, by omega, by omega, fun g ns H5 ng fr5 lf5 eg pn => ?_⟩
      have ep5 := fr5 _ _ pL ep4
      refine ⟨by show 2 ≤ sizeLine; decide, fun t nt => ?_⟩
      have s6 := same_new (o := .tup [.ref p, .ref g]) nt
      exact q t p g n ms ns _ (by omega) np0' (Lf.free fr04 lf4 ng) (ne_of_none ep4 ng) ((fr04.trans fr5).trans (Fr.of s6)) ((lf5.same s6).mono (by omega)) upd_same (s6 _ _ ep5) (s6 _ _ eg) pm pn
    -- other
    refine ⟨_, rfl, p, _, rfl, .inl (SqL.of ep4), fun g ng => ?_⟩
    have ng0 := Lf.free fr04 lf4 ng
    have gL : g ≠ L := hL.ne ng0
    have pg : p ≠ g := ne_of_none ep4 ng
    have sg := same_new (o := .lst (ms.map V.int)) ng
    refine ⟨_, rfl, _, _, rfl, rfl, .inr ⟨_, rfl, ?_⟩⟩
    refine ⟨_, rfl, L, _, _, rfl, lf4.same sg, by decide, by decide, by omega, fun r5 H5 r50 r51 fr5 lf5 => ?_⟩
    refine ⟨_, _, rfl, rfl, _, _, rfl, rfl, .inl ⟨(bi _).1, (bi _).2.1⟩, ?_⟩
    have bn : ∀ b : Bool, 0 ≤ (if b = true then (1 : Int) else 0) * (1 + r5) ∧ (if b = true then (1 : Int) else 0) * (1 + r5) ≤ 3 := fun b => by
      cases b
      · show 0 ≤ 0 * (1 + r5) ∧ 0 * (1 + r5) ≤ 3; omega
      · show 0 ≤ 1 * (1 + r5) ∧ 1 * (1 + r5) ≤ 3; omega
    have bz := bn (decide ((1 : Int) < (n : Int)))
    refine ⟨_, rfl, by omega, by omega, ?_⟩
    have fr45 : Fr L H4 H5 := (Fr.of sg).trans fr5
    refine for_range (fun i σ H6 => ∃ (ns : List Int) (y5 y6 : Option V), σ = [some (.ref L), some (.int (n : Int)), some (.ref p), some (.int way), some (.ref g), y5, y6] ∧ Fr L H H6 ∧ Lf H6 L (c + 100 + i) ∧ H6 p = some (.lst (ms.map V.int)) ∧ H6 g = some (.lst (ns.map V.int)) ∧ ns.Perm (up n))
      ⟨ms, none, none, rfl, fr04.trans fr45, lf5.mono (by omega), fr45 _ _ pL ep4, fr5 _ _ gL upd_same, pm⟩ ?_ ?_
    · rintro i σ H6 hi ⟨ns, y5, y6, rfl, fr6, lf6, ep6, eg6, pn⟩
      have hn1 : 1 < n := by
        rcases Nat.lt_or_ge 1 n with z | z
        · exact z
        · rw [decide_eq_false (by omega)] at hi
          exact absurd hi (by show ¬ i < ((0 : Int) * (1 + r5)).toNat; rw [Int.zero_mul]; exact Nat.not_lt_zero _)
      have hi3 : i < 3 := by omega
      have nlen : (ns.map V.int).length = n := by rw [List.length_map, pn.length_eq, up_len]
      refine ⟨_, rfl, _, rfl, _, _, rfl, rfl, ?_⟩
      refine ⟨L, _, _, rfl, lf6, by omega, by omega, by omega, fun r H7 h0 h1 fr7 lf7 => ?_⟩
      have ep7 := fr7 _ _ pL ep6
      have eg7 := fr7 _ _ gL eg6
      obtain ⟨j, ej⟩ := natOf h0
      subst ej
      have nl2 : ns.length = n := by rw [pn.length_eq, up_len]
      have hj : j + 1 < ns.length := by omega
      have g1 : (ns.map V.int)[j]? = some (.int ns[j]) := by rw [List.getElem?_map, List.getElem?_eq_getElem (by omega)]; rfl
      have g2 : (ns.map V.int)[j + 1]? = some (.int ns[j + 1]) := by rw [List.getElem?_map, List.getElem?_eq_getElem hj]; rfl
      have g2' : atI (ns.map V.int) ((j : Int) + 1) = some (.int ns[j + 1]) := by
        have := atI_nat g2
        rwa [show ((j + 1 : Nat) : Int) = (j : Int) + 1 from by omega] at this
      refine ⟨_, rfl, _, rfl, _, _, rfl, rfl, g, _, _, _, rfl, rfl, SqL.of eg7, g2', ?_⟩
      refine ⟨_, rfl, _, rfl, g, _, _, _, rfl, rfl, SqL.of eg7, atI_nat g1, ?_⟩
      refine ⟨by show 2 ≤ sizeLine; decide, fun t nt => ?_⟩
      have st := same_new (o := .tup [.int ns[j + 1], .int ns[j]]) nt
      have ix1 : ixN (ns.map V.int).length (j : Int) = some j := ixN_at (by omega)
      refine ⟨t, _, rfl, SqT.of upd_same, rfl, _, _, rfl, ?_⟩
      refine ⟨_, rfl, _, rfl, g, _, _, _, rfl, rfl, st _ _ eg7, ix1, ?_⟩
      have ix2 : ixN ((ns.map V.int).set j (.int ns[j + 1])).length ((j : Int) + 1) = some (j + 1) := by
        have := ixN_at (n := ((ns.map V.int).set j (.int ns[j + 1])).length) (j := j + 1) (by rw [List.length_set]; omega)
        rwa [show ((j + 1 : Nat) : Int) = (j : Int) + 1 from by omega] at this
      refine ⟨_, _, rfl, _, rfl, _, rfl, _, _, rfl, rfl, g, _, _, _, rfl, rfl, upd_same, ix2, rfl, ?_⟩
      have tg : t ≠ g := fun z => by rw [z, eg7] at nt; cases nt
      have pt : p ≠ t := ne_of_none ep7 nt
      refine ⟨(ns.set j ns[j + 1]).set (j + 1) ns[j], _, _, rfl, ?_, ?_, ?_, ?_, ?_⟩
      · exact ((fr6.trans fr7).trans (Fr.of st)).put ng0 |>.put ng0
      · exact (((lf7.same st).put gL).put gL).mono (by omega)
      · rw [upd_ne pg, upd_ne pg]; exact st _ _ ep7
      · rw [upd_same, map_set, map_set]
      · exact (swap_perm (List.getElem?_eq_getElem (by omega)) (List.getElem?_eq_getElem hj)).trans pn
    · rintro σ H6 ⟨ns, y5, y6, rfl, fr6, lf6, ep6, eg6, pn⟩
      refine ⟨_, rfl, _, rfl, by show 2 ≤ sizeLine; decide, fun t nt => ?_⟩
      have s7 := same_new (o := .tup [.ref p, .ref g]) nt
      exact q t p g n ms ns _ (by omega) np0' ng0 pg (fr6.trans (Fr.of s7)) ((lf6.same s7).mono (by omega)) upd_same (s7 _ _ ep6) (s7 _ _ eg6) pm pn
end
end My

set_option Elab.async false
set_option linter.all false
set_option maxRecDepth 100000
set_option maxHeartbeats 4000000
set_option pp.maxSteps 250
namespace My
open PySem PySem.Spec PyProof.Rows L2 GxR
theorem shaped_dW (n : Nat) (ts : List Ar) : SeqAt.shaped (dW n ts) = true := by
  unfold SeqAt.shaped dW
  rw [Bool.and_eq_true, decide_eq_true_eq]
  constructor
  · show PyData.canLayAll0 [.int (n : Int), .tuple (ts.map dT)] = true
    rw [PyData.canLayAll0, PyData.canLayAll0, PyData.canLayAll0]
    show (true && (PyData.canLayAll0 (ts.map dT) && true)) = true
    rw [can_ties]; rfl
  · have := dep_ties ts
    rw [PyData.depth, PyData.depthAll, PyData.depthAll, PyData.depthAll, PyData.depth, PyData.depth]
    omega
theorem eqv_dW (n : Nat) (ts : List Ar) : PyData.eqv (dW n ts) (dW n ts) = true := by
  refine SeqAt.eqv_refl _ ?_
  show PyData.canLayAll0 [.int (n : Int), .tuple (ts.map dT)] = true
  rw [PyData.canLayAll0, PyData.canLayAll0, PyData.canLayAll0]
  show (true && (PyData.canLayAll0 (ts.map dT) && true)) = true
  rw [can_ties]; rfl
def d2I (ms ns : List Int) : PyData := .tuple [dI ms, dI ns]
theorem can_ints (ns : List Int) : PyData.canLayAll0 (ns.map PyData.int) = true := by
  induction ns with
  | nil => rfl
  | cons a l ih => rw [List.map_cons, PyData.canLayAll0, ih]; rfl
theorem dep_ints (ns : List Int) : PyData.depthAll (ns.map PyData.int) = 0 := by
  induction ns with
  | nil => rfl
  | cons a l ih => rw [List.map_cons, PyData.depthAll, ih]; rfl
theorem can_d2I (ms ns : List Int) : PyData.canLayAll0 [dI ms, dI ns] = true := by
  rw [PyData.canLayAll0, PyData.canLayAll0, PyData.canLayAll0]
  show (PyData.canLayAll0 (ms.map PyData.int) && (PyData.canLayAll0 (ns.map PyData.int) && true)) = true
  rw [can_ints, can_ints]; rfl
theorem shaped_d2I (ms ns : List Int) : SeqAt.shaped (d2I ms ns) = true := by
  unfold SeqAt.shaped d2I
  rw [Bool.and_eq_true, decide_eq_true_eq]
  refine ⟨can_d2I ms ns, ?_⟩
  unfold dI
  rw [PyData.depth, PyData.depthAll, PyData.depthAll, PyData.depthAll, PyData.depth, PyData.depth, dep_ints, dep_ints]
  decide
theorem eqv_d2I (ms ns : List Int) : PyData.eqv (d2I ms ns) (d2I ms ns) = true := SeqAt.eqv_refl _ (can_d2I ms ns)
theorem cr_led {n : Nat} {ms ns : List Int} (pm : ms.Perm (up n)) (pn : ns.Perm (up n)) : ledB (byR ms (crL ms ns (pup n n))) = true := by
  rw [led_br]
  rintro ⟨a, b, c⟩ ⟨h1, h2, h3⟩
  dsimp only at h1 h2 h3
  obtain ⟨r1, l1, k1⟩ := (mem_by pm pn).mp h1
  obtain ⟨r2, l2, k2⟩ := (mem_by pm pn).mp h2
  refine h3 ((mem_by pm pn).mpr ⟨⟨r1.1, r1.2.1, r2.2.2.1, r2.2.2.2⟩, ?_, ?_⟩)
  · unfold ah at *
    have := of_decide_eq_true l1
    have := of_decide_eq_true l2
    exact decide_eq_true (by dsimp only at *; omega)
  · unfold ah at *
    have := of_decide_eq_true k1
    have := of_decide_eq_true k2
    exact decide_eq_true (by dsimp only [sw] at *; omega)
theorem ahI (ns : List Int) (t : Ar) : decide ((ns.idxOf t.1 : Int) < (ns.idxOf t.2 : Int)) = ah ns t := decide_eq_decide.mpr Int.ofNat_lt
theorem neB (a b : Bool) : (!decide (V.bl a = V.bl b)) = !decide (a = b) := congrArg (! ·) (decide_eq_decide.mpr ⟨fun e => V.bl.inj e, fun e => congrArg V.bl e⟩)
theorem tup2_eqd {H : Hp} {s t : Addr} {x y u v : V} {m : Nat} (hs : H s = some (.tup [x, y])) (ht : H t = some (.tup [u, v])) (h1 : Eqd m H x u) (h2 : Eqd m H y v) : Eqd (m + 1) H (.ref s) (.ref t) := by
  refine .inr ⟨s, t, _, _, rfl, rfl, .inl ⟨hs, ht⟩, rfl, by show 2 ≤ 10000; decide, fun i v u e f => ?_⟩
  match i, e, f with
  | 0, e, f => cases e; cases f; exact h1
  | 1, e, f => cases e; cases f; exact h2
section
variable {P : Program} {w : World} {K : PySem.W.Frag} {mg : Str → Option Value} {base : Heap}
/-! ### _law_due -/
abbrev s__law_due : Stmt := topS 22
abbrev N__law_due : List Str := ["_law_one", "_law_other", "_law_ties", "_law_arrows", "_law_a", "_law_b", "_law_ahead"]
theorem sc__law_due : FnScope N__law_due ["_law_one", "_law_other"] (defScope s__law_due) := ⟨rfl, rfl, rfl, by decide +kernel, rfl, by decide +kernel, by decide +kernel⟩
def sp_due : Sp := fun vs H Q _ => ∃ (p q : Addr) (n : Nat) (ms ns : List Int), vs = [.ref p, .ref q] ∧ H p = some (.lst (ms.map V.int)) ∧ H q = some (.lst (ns.map V.int)) ∧ ms.Perm (up n) ∧ ns.Perm (up n) ∧ n ≤ 12 ∧
  ∀ t wv pa us H', Same H H' → H' t = some (.tup [wv, .ref pa]) → Web H' wv n (crL ms ns (pup n n)) → H' pa = some (.tup us) → Ties H' us (byR ms (crL ms ns (pup n n))) → Q (.ref t) H'
theorem ok_due {f : Addr} {fd : FuncData} (B : Bts mg) (F : Fun K "_law_due" "_law_due" s__law_due f fd) : FnOk P w K mg base CX0 1 f fd ["_law_one", "_law_other"] sp_due := by
  refine F.ok sc__law_due (fun vs H Q E h => ?_) (fun cdv A outer s H vs Q E hr h => ?_)
  · obtain ⟨p, q, n, ms, ns, rfl, _⟩ := h; rfl
  · obtain ⟨p, q', n, ms, ns, rfl, ep, eq, pm, pn, hn, q⟩ := h
    refine ⟨_, (pss_cons (ps_set (i := 2) sc__law_due.nd rfl (by first | exact Or.inl rfl | exact Or.inr rfl) (pe_lst pa_nil))
    (pss_cons (ps_set (i := 3) sc__law_due.nd rfl (by first | exact Or.inl rfl | exact Or.inr rfl) (pe_lst pa_nil))
    (pss_cons (ps_for PassesOwn.never rfl (pi_range1 (by rfl) B.range (pa_cons (pe_callB call_len_seq (by rfl) B.len (by decide +kernel) (pa_cons (pv 0) pa_nil)) pa_nil)) (pg_name (i := 4) sc__law_due.nd rfl (by first | exact Or.inl rfl | exact Or.inr rfl))
      (pss_one (ps_for PassesOwn.never rfl (pi_range2 (by rfl) B.range (pa_cons (pe_op op_add (pv 4) pe_int) (pa_cons (pe_callB call_len_seq (by rfl) B.len (by decide +kernel) (pa_cons (pv 0) pa_nil)) pa_nil))) (pg_name (i := 5) sc__law_due.nd rfl (by first | exact Or.inl rfl | exact Or.inr rfl))
        (pss_cons (ps_set (i := 6) sc__law_due.nd rfl (by first | exact Or.inl rfl | exact Or.inr rfl) (pe_cmpR op_lt (pe_bm PySem.F.plainAttrs_list PySem.F.slot_list_index PySem.F.type_list_index mt_index (pv 0) (pa_cons (pv 4) pa_nil)) (pe_bm PySem.F.plainAttrs_list PySem.F.slot_list_index PySem.F.type_list_index mt_index (pv 0) (pa_cons (pv 5) pa_nil)) (nomark _)))
        (pss_one (ps_if (pt_cmpR op_ne (pv 6) (pe_cmpR op_lt (pe_bm PySem.F.plainAttrs_list PySem.F.slot_list_index PySem.F.type_list_index mt_index (pv 1) (pa_cons (pv 4) pa_nil)) (pe_bm PySem.F.plainAttrs_list PySem.F.slot_list_index PySem.F.type_list_index mt_index (pv 1) (pa_cons (pv 5) pa_nil)) (nomark _)) (nomark _)) (pss_cons (ps_expr (pe_bm PySem.F.plainAttrs_list PySem.F.slot_list_append PySem.F.type_list_append mt_append (pv 2) (pa_cons (pe_tup (pa_cons (pv 4) (pa_cons (pv 5) pa_nil))) pa_nil)))
          (pss_one (ps_expr (pe_bm PySem.F.plainAttrs_list PySem.F.slot_list_append PySem.F.type_list_append mt_append (pv 3) (pa_cons (pe_ix ix_list (pe_lst (pa_cons (pe_tup (pa_cons (pv 5) (pa_cons (pv 4) pa_nil))) (pa_cons (pe_tup (pa_cons (pv 4) (pa_cons (pv 5) pa_nil))) pa_nil))) (pe_callTy call_int1 (by rfl) B.int (by decide +kernel) (pa_cons (pv 6) pa_nil)) (fun _ _ => rfl)) pa_nil))))) pss_nil))))))
    (pss_one (ps_ret (pe_tup (pa_cons (pe_tup (pa_cons (pe_callB call_len_seq (by rfl) B.len (by decide +kernel) (pa_cons (pv 0) pa_nil)) (pa_cons (pe_callTy call_tuple_of (by rfl) B.tuple (by decide +kernel) (pa_cons (pv 2) pa_nil)) pa_nil))) (pa_cons (pe_callTy call_tuple_of (by rfl) B.tuple (by decide +kernel) (pa_cons (pv 3) pa_nil)) pa_nil)))))))), ?_⟩
    have ml : (ms.map V.int).length = n := by rw [List.length_map, pm.length_eq, up_len]
    refine ⟨Nat.zero_le _, fun T1 nT1 => ?_⟩
    have sT1 := same_new (o := .lst []) nT1
    refine ⟨Nat.zero_le _, fun T2 nT2 => ?_⟩
    have sT2 := same_new (o := .lst []) nT2
    have T12 : T1 ≠ T2 := ne_of_none upd_same nT2
    have nT2' : H T2 = none := same_free sT1 nT2
    refine ⟨_, rfl, p, _, rfl, .inl (SqL.of ((sT1.trans sT2) _ _ ep)), _, rfl, by omega, by omega, ?_⟩
    rw [show (((ms.map V.int).length : Nat) : Int).toNat = n from by omega]
    refine for_range (fun i σ H1 => ∃ ws zs y4 y5 y6, σ = [some (.ref p), some (.ref q'), some (.ref T1), some (.ref T2), y4, y5, y6] ∧ Same H H1 ∧ H1 T1 = some (.lst ws) ∧ Ties H1 ws (crL ms ns (pup n i)) ∧ H1 T2 = some (.lst zs) ∧ Ties H1 zs (byR ms (crL ms ns (pup n i))))
      ⟨[], [], none, none, none, rfl, sT1.trans sT2, sT2 _ _ upd_same, by exact trivial, upd_same, by exact trivial⟩ ?_ ?_
    · rintro i σ H1 hi ⟨ws, zs, y4, y5, y6, rfl, s1, e1, hW, e2, hZ⟩
      refine ⟨_, rfl, _, _, rfl, rfl, _, rfl, p, _, rfl, .inl (SqL.of (s1 _ _ ep)), _, _, rfl, ⟨by omega, by omega, by omega, by omega⟩, ?_⟩
      have en : ((((ms.map V.int).length : Nat) : Int) - (0 + (i : Int) + 1)).toNat = n - (i + 1) := by omega
      rw [en]
      refine for_range (fun j σ H2 => ∃ ws zs y5 y6, σ = [some (.ref p), some (.ref q'), some (.ref T1), some (.ref T2), some (.int (0 + (i : Int))), y5, y6] ∧ Same H H2 ∧ H2 T1 = some (.lst ws) ∧ Ties H2 ws (crL ms ns (pup n i ++ prow i j)) ∧ H2 T2 = some (.lst zs) ∧ Ties H2 zs (byR ms (crL ms ns (pup n i ++ prow i j))))
        ⟨ws, zs, _, _, rfl, s1, e1, by exact (List.append_nil (pup n i)).symm ▸ hW, e2, by exact (List.append_nil (pup n i)).symm ▸ hZ⟩ ?_ ?_
      · rintro j σ H2 hj ⟨ws, zs, y5, y6, rfl, s2, e1, hW, e2, hZ⟩
        have eb : 0 + (i : Int) + 1 + (j : Int) = (i : Int) + 1 + (j : Int) := by omega
        rw [eb]
        rw [Int.zero_add (i : Int)]
        have m1 := (row_mem pm).mpr (show 0 ≤ (i : Int) ∧ (i : Int) < (n : Int) by omega)
        have m2 := (row_mem pm).mpr (show 0 ≤ (i : Int) + 1 + (j : Int) ∧ (i : Int) + 1 + (j : Int) < (n : Int) by omega)
        have m3 := (row_mem pn).mpr (show 0 ≤ (i : Int) ∧ (i : Int) < (n : Int) by omega)
        have m4 := (row_mem pn).mpr (show 0 ≤ (i : Int) + 1 + (j : Int) ∧ (i : Int) + 1 + (j : Int) < (n : Int) by omega)
        have ep2 := s2 _ _ ep
        have eq2 := s2 _ _ eq
        refine ⟨_, rfl, .inl ⟨rfl, _, SqL.of ep2⟩, _, rfl, p, _, _, _, _, rfl, rfl, SqL.of ep2, rfl, all_flat ms, idx_at m1, by simp [eqV], idx_first, ?_⟩
        refine ⟨_, rfl, .inl ⟨rfl, _, SqL.of ep2⟩, _, rfl, p, _, _, _, _, rfl, rfl, SqL.of ep2, rfl, all_flat ms, idx_at m2, by simp [eqV], idx_first, ?_⟩
        refine ⟨_, _, rfl, rfl, ?_⟩
        refine ⟨_, rfl, ?_⟩
        refine ⟨_, rfl, .inl ⟨rfl, _, SqL.of eq2⟩, _, rfl, q', _, _, _, _, rfl, rfl, SqL.of eq2, rfl, all_flat ns, idx_at m3, by simp [eqV], idx_first, ?_⟩
        refine ⟨_, rfl, .inl ⟨rfl, _, SqL.of eq2⟩, _, rfl, q', _, _, _, _, rfl, rfl, SqL.of eq2, rfl, all_flat ns, idx_at m4, by simp [eqV], idx_first, ?_⟩
        refine ⟨_, _, rfl, rfl, ?_⟩
        refine ⟨rfl, _, rfl, ?_⟩
        have hb : (!decide (V.bl (decide ((ms.idxOf (i : Int) : Int) < (ms.idxOf ((i : Int) + 1 + (j : Int)) : Int))) = V.bl (decide ((ns.idxOf (i : Int) : Int) < (ns.idxOf ((i : Int) + 1 + (j : Int)) : Int))))) = crB ms ns ((i : Int), (i : Int) + 1 + (j : Int)) := by
          rw [neB]
          unfold crB
          rw [← ahI, ← ahI]
        rw [hb]
        have st : crL ms ns (pup n i ++ prow i (j + 1)) = crL ms ns (pup n i ++ prow i j) ++ (if crB ms ns ((i : Int), (i : Int) + 1 + (j : Int)) = true then [((i : Int), (i : Int) + 1 + (j : Int))] else []) := by
          rw [prow_succ, ← List.append_assoc, cr_app, cr_one]
        have wl := hW.len
        have zl := hZ.len
        unfold byR at zl
        rw [List.length_map] at zl
        have wl2 := (cr_sub ms ns (pup n i ++ prow i j)).length_le
        have l1 := pup_len' (n := n) (i := i) (by omega) (by omega)
        rw [List.length_append, prow_len] at wl2
        refine ite2 (fun e => ?_) (fun e => ?_)
        · refine ⟨_, rfl, .inl ⟨rfl, _, SqL.of e1⟩, _, rfl, _, rfl, by show 2 ≤ sizeLine; decide, fun t nt => ?_⟩
          have st1 := same_new (o := .tup [.int (i : Int), .int ((i : Int) + 1 + (j : Int))]) nt
          have e1' := st1 _ _ e1
          have e2' := st1 _ _ e2
          refine ⟨T1, _, _, rfl, rfl, e1', sz' (by omega), ?_⟩
          have t3 : Tst (upd H2 t (.tup [.int (i : Int), .int ((i : Int) + 1 + (j : Int))])) (upd (upd H2 t (.tup [.int (i : Int), .int ((i : Int) + 1 + (j : Int))])) T1 (.lst (ws ++ [.ref t]))) := tst_put e1'
          have hW3 := ((hW.mono (Same.tst st1)).app (Ties.one (Tie.new (H := H2) (p := t)))).mono t3
          have hZ3 := (hZ.mono (Same.tst st1)).mono t3
          have s3 : Same H (upd (upd H2 t (.tup [.int (i : Int), .int ((i : Int) + 1 + (j : Int))])) T1 (.lst (ws ++ [.ref t]))) := Same.put (s2.trans st1) nT1
          have e13 : (upd (upd H2 t (.tup [.int (i : Int), .int ((i : Int) + 1 + (j : Int))])) T1 (.lst (ws ++ [.ref t]))) T1 = some (.lst (ws ++ [.ref t])) := upd_same
          have e23 : (upd (upd H2 t (.tup [.int (i : Int), .int ((i : Int) + 1 + (j : Int))])) T1 (.lst (ws ++ [.ref t]))) T2 = some (.lst zs) := by rw [upd_ne (Ne.symm T12)]; exact e2'
          generalize upd (upd H2 t (.tup [.int (i : Int), .int ((i : Int) + 1 + (j : Int))])) T1 (.lst (ws ++ [.ref t])) = H3 at hW3 hZ3 s3 e13 e23 ⊢
          refine ⟨_, rfl, .inl ⟨rfl, _, SqL.of e23⟩, ?_⟩
          refine ⟨_, rfl, _, rfl, by show 2 ≤ sizeLine; decide, fun k1 nk1 => ?_⟩
          have sk1 := same_new (o := .tup [.int ((i : Int) + 1 + (j : Int)), .int (i : Int)]) nk1
          refine ⟨_, rfl, _, rfl, by show 2 ≤ sizeLine; decide, fun k2 nk2 => ?_⟩
          have sk2 := same_new (o := .tup [.int (i : Int), .int ((i : Int) + 1 + (j : Int))]) nk2
          refine ⟨by show 2 ≤ sizeLine; decide, fun k3 nk3 => ?_⟩
          have sk3 := same_new (o := .lst [.ref k1, .ref k2]) nk3
          refine ⟨_, rfl, .inr ⟨_, rfl, ?_⟩⟩
          have sk := (sk1.trans sk2).trans sk3
          have e24 := sk _ _ e23
          have e14 := sk _ _ e13
          have Ta : Tie (upd (upd (upd H3 k1 (.tup [.int ((i : Int) + 1 + (j : Int)), .int (i : Int)])) k2 (.tup [.int (i : Int), .int ((i : Int) + 1 + (j : Int))])) k3 (.lst [.ref k1, .ref k2])) (.ref k1) ((i : Int) + 1 + (j : Int), (i : Int)) := ⟨k1, rfl, sk3 _ _ (sk2 _ _ upd_same)⟩
          have Tb : Tie (upd (upd (upd H3 k1 (.tup [.int ((i : Int) + 1 + (j : Int)), .int (i : Int)])) k2 (.tup [.int (i : Int), .int ((i : Int) + 1 + (j : Int))])) k3 (.lst [.ref k1, .ref k2])) (.ref k2) ((i : Int), (i : Int) + 1 + (j : Int)) := ⟨k2, rfl, sk3 _ _ upd_same⟩
          have e3 : (upd (upd (upd H3 k1 (.tup [.int ((i : Int) + 1 + (j : Int)), .int (i : Int)])) k2 (.tup [.int (i : Int), .int ((i : Int) + 1 + (j : Int))])) k3 (.lst [.ref k1, .ref k2])) k3 = some (.lst [.ref k1, .ref k2]) := upd_same
          generalize upd (upd (upd H3 k1 (.tup [.int ((i : Int) + 1 + (j : Int)), .int (i : Int)])) k2 (.tup [.int (i : Int), .int ((i : Int) + 1 + (j : Int))])) k3 (.lst [.ref k1, .ref k2]) = H4 at sk e24 e14 Ta Tb e3 ⊢
          have : ∃ x, atI [V.ref k1, V.ref k2] (if decide ((ms.idxOf (i : Int) : Int) < (ms.idxOf ((i : Int) + 1 + (j : Int)) : Int)) = true then 1 else 0) = some x ∧ Tie H4 x (byT ms ((i : Int), (i : Int) + 1 + (j : Int))) := by
            rw [by_ah, show decide ((ms.idxOf (i : Int) : Int) < (ms.idxOf ((i : Int) + 1 + (j : Int)) : Int)) = ah ms ((i : Int), (i : Int) + 1 + (j : Int)) from ahI ms ((i : Int), (i : Int) + 1 + (j : Int))]
            cases z : ah ms ((i : Int), (i : Int) + 1 + (j : Int)) with
            | true => exact ⟨_, rfl, Tb⟩
            | false => exact ⟨_, rfl, Ta⟩
          obtain ⟨x, ex, tx⟩ := this
          refine ⟨k3, _, _, x, rfl, rfl, SqL.of e3, ex, ?_⟩
          refine ⟨T2, _, _, rfl, rfl, e24, sz' (by omega), ?_⟩
          have t5 : Tst H4 (upd H4 T2 (.lst (zs ++ [x]))) := tst_put e24
          refine ⟨ws ++ [.ref t], zs ++ [x], _, _, rfl, Same.put (s3.trans sk) nT2', ?_, ?_, upd_same, ?_⟩
          · rw [upd_ne T12]; exact e14
          · rw [st, if_pos (show crB ms ns ((i : Int), (i : Int) + 1 + (j : Int)) = true from e)]
            exact (hW3.mono (Same.tst sk)).mono t5
          · rw [st, if_pos (show crB ms ns ((i : Int), (i : Int) + 1 + (j : Int)) = true from e)]
            unfold byR
            rw [List.map_append]
            exact ((hZ3.mono (Same.tst sk)).app (Ties.one tx)).mono t5
        · refine ⟨ws, zs, _, _, rfl, s2, e1, ?_, e2, ?_⟩
          · rw [st, if_neg (show ¬ crB ms ns ((i : Int), (i : Int) + 1 + (j : Int)) = true from e), List.append_nil]; exact hW
          · rw [st, if_neg (show ¬ crB ms ns ((i : Int), (i : Int) + 1 + (j : Int)) = true from e), List.append_nil]; exact hZ
      · rintro σ H2 ⟨ws, zs, y5, y6, rfl, s2, e1, hW, e2, hZ⟩
        rw [← pup_succ] at hW hZ
        exact ⟨ws, zs, _, _, _, rfl, s2, e1, hW, e2, hZ⟩
    · rintro σ H1 ⟨ws, zs, y4, y5, y6, rfl, s1, e1, hW, e2, hZ⟩
      refine ⟨_, rfl, p, _, rfl, .inl (SqL.of (s1 _ _ ep)), _, rfl, T1, ws, rfl, .inl ⟨SqL.of e1, fun t nt => ?_⟩⟩
      have st := same_new (o := .tup ws) nt
      refine ⟨by show 2 ≤ sizeLine; decide, fun u nu => ?_⟩
      rw [ml]
      have su := same_new (o := .tup [.int (n : Int), .ref t]) nu
      have s12 := st.trans su
      refine ⟨_, rfl, T2, zs, rfl, .inl ⟨SqL.of (s12 _ _ e2), fun a na => ?_⟩⟩
      have sa := same_new (o := .tup zs) na
      refine ⟨by show 2 ≤ sizeLine; decide, fun r nr => ?_⟩
      have sr := same_new (o := .tup [.ref u, .ref a]) nr
      have sar := sa.trans sr
      refine q r (.ref u) a zs _ ((s1.trans s12).trans sar) upd_same ⟨u, t, ws, rfl, sar _ _ upd_same, sar _ _ (su _ _ upd_same), hW.mono (Same.tst (s12.trans sar))⟩ (sr _ _ upd_same) (hZ.mono (Same.tst (s12.trans sar)))
/-! ### law -/
abbrev s_law : Stmt := topS 23
abbrev N_law : List Str := ["_law_script", "_law_k", "_law_left_here", "_law_one", "_law_other", "_law_due_here", "_law_handed", "_law_again", "_law_found", "_law_a", "_law_b"]
theorem sc_law : FnScope N_law ["_law_script"] (defScope s_law) := ⟨rfl, rfl, rfl, by decide +kernel, rfl, by decide +kernel, by decide +kernel⟩
def sp_law (K : PySem.W.Frag) (PT : Addr) : Sp := fun vs H Q _ => ∃ (a : Addr) (ns : List Int), vs = [.ref a] ∧ SqL K H a (ns.map V.int) ∧ ns.length ≤ 63 ∧ TabG H PT ∧ ∀ H', Q (.bl true) H'
theorem ok_law {f PT : Addr} {fd : FuncData} (B : Bts mg) (F : Fun K "law" "law" s_law f fd) (c__law_left : Cl P w K mg base 1 "_law_left" (sp_left K)) (c__law_two_rows : Cl P w K mg base 4 "_law_two_rows" sp_two) (c__law_due : Cl P w K mg base 1 "_law_due" sp_due)
    (c_crossed_web : Cl P w K mg base 2 "crossed_web" sp_cweb) (c_crossed_pointing : Cl P w K mg base 3 "crossed_pointing" sp_cpt) (c__law_same : Cl P w K mg base 5 "_law_same" (sp_same 5)) (c_is_led : Cl P w K mg base 5 "is_led" (sp_isl PT)) : TopRun P w K mg base f fd "_law_script" (sp_law K PT) := by
  refine top_run (k := 29) F sc_law ⟨rfl, by decide, by decide⟩ fun cdv s H v Q E hr h => ?_
  obtain ⟨a, xs, e, hS, hl, tg, q⟩ := h
  cases e
  refine ⟨_, (pss_cons (ps_for PassesOwn.never rfl (pi_range1 (by rfl) B.range (pa_cons (pe_callB (call_max2 rfl) (by rfl) B.max (by decide +kernel) (pa_cons pe_int (pa_cons (pe_callB (call_min2 rfl) (by rfl) B.min (by decide +kernel) (pa_cons (pe_callB call_len_seq (by rfl) B.len (by decide +kernel) (pa_cons (pv 0) pa_nil)) (pa_cons pe_int pa_nil))) pa_nil))) pa_nil)) (pg_name (i := 1) sc_law.nd rfl (by first | exact Or.inl rfl | exact Or.inr rfl))
      (pss_cons (ps_set (i := 2) sc_law.nd rfl (by first | exact Or.inl rfl | exact Or.inr rfl) (pe_c c__law_left hr (by decide) (by rfl) (pa_cons (pv 0) (pa_cons (pv 1) pa_nil))))
      (pss_cons (ps_asg (pe_c c__law_two_rows hr (by decide) (by rfl) (pa_cons (pv 2) pa_nil)) (pg_tup rfl (pgs_cons (pg_name (i := 3) sc_law.nd rfl (by first | exact Or.inl rfl | exact Or.inr rfl)) (pgs_cons (pg_name (i := 4) sc_law.nd rfl (by first | exact Or.inl rfl | exact Or.inr rfl)) pgs_nil))))
      (pss_cons (ps_set (i := 5) sc_law.nd rfl (by first | exact Or.inl rfl | exact Or.inr rfl) (pe_c c__law_due hr (by decide) (by rfl) (pa_cons (pv 3) (pa_cons (pv 4) pa_nil))))
      (pss_cons (ps_set (i := 6) sc_law.nd rfl (by first | exact Or.inl rfl | exact Or.inr rfl) (pe_tup (pa_cons (pe_callTy call_list_of (by rfl) B.list (by decide +kernel) (pa_cons (pv 3) pa_nil)) (pa_cons (pe_callTy call_list_of (by rfl) B.list (by decide +kernel) (pa_cons (pv 4) pa_nil)) pa_nil))))
      (pss_cons (ps_for PassesOwn.never rfl (pi_range1 (by rfl) B.range (pa_cons pe_int pa_nil)) (pg_name (i := 7) sc_law.nd rfl (by first | exact Or.inl rfl | exact Or.inr rfl))
        (pss_cons (ps_set (i := 8) sc_law.nd rfl (by first | exact Or.inl rfl | exact Or.inr rfl) (pe_tup (pa_cons (pe_c c_crossed_web hr (by decide) (by rfl) (pa_cons (pe_ix ix_tup (pv 6) pe_int (fun _ _ => rfl)) (pa_cons (pe_ix ix_tup (pv 6) pe_int (fun _ _ => rfl)) pa_nil))) (pa_cons (pe_c c_crossed_pointing hr (by decide) (by rfl) (pa_cons (pe_ix ix_tup (pv 6) pe_int (fun _ _ => rfl)) (pa_cons (pe_ix ix_tup (pv 6) pe_int (fun _ _ => rfl)) pa_nil))) pa_nil))))
        (pss_one (ps_if (PW.pt (pw_or (pt_not (pt_val (pe_c c__law_same hr (by decide) (by rfl) (pa_cons (pv 8) (pa_cons (pv 5) pa_nil))))) (pw_or1 (pt_cmpR (op_neD hr.units) (pv 6) (pe_tup (pa_cons (pv 3) (pa_cons (pv 4) pa_nil))) (nomark _))))) (pss_one (ps_ret pe_bl)) pss_nil))))
      (pss_cons (ps_if (PW.pt (pw_or (pt_cmpR op_notBl (pe_c c_is_led hr (by decide) (by rfl) (pa_cons (pe_ix ix_tup (pv 5) pe_int (fun _ _ => rfl)) (pa_cons (pe_ix ix_tup (pv 5) pe_int (fun _ _ => rfl)) pa_nil))) pe_bl (nomark _)) (pw_or1 (pt_cmpR (op_neD hr.units) (pe_c c_crossed_web hr (by decide) (by rfl) (pa_cons (pv 4) (pa_cons (pv 3) pa_nil))) (pe_ix ix_tup (pv 5) pe_int (fun _ _ => rfl)) (nomark _))))) (pss_one (ps_ret pe_bl)) pss_nil)
      (pss_cons (ps_if (pt_cmpR (op_neD hr.units) (pe_c c_crossed_pointing hr (by decide) (by rfl) (pa_cons (pv 4) (pa_cons (pv 3) pa_nil))) (pe_callTy call_tuple_of (by rfl) B.tuple (by decide +kernel) (pa_cons (pe_lc (own := [("_law_a", 9), ("_law_b", 10)]) (g := (gTup K 2 (gCons (gName 9) (gCons (gName 10) gNil)))) (tt := tYes) rfl sc_law.nd (pi_tup (pe_ix ix_tup (pv 5) pe_int (fun _ _ => rfl))) (blkOk_by (own := [("_law_a", 9), ("_law_b", 10)]) (N := N_law) (sc := defScope s_law) (by decide +kernel)) (fun _ _ _ _ _ => (pg_tup rfl (pgs_cons (pg_name (i := 9) sc_law.nd rfl (by first | exact Or.inl rfl | exact Or.inr rfl)) (pgs_cons (pg_name (i := 10) sc_law.nd rfl (by first | exact Or.inl rfl | exact Or.inr rfl)) pgs_nil)))) (fun _ _ _ _ _ => pts_nil) (fun _ _ _ _ _ => (pe_tup (pa_cons (pv 10) (pa_cons (pv 9) pa_nil))))) pa_nil)) (nomark _)) (pss_one (ps_ret pe_bl)) pss_nil)
      (pss_cons (ps_if (PW.pt (pw_or (pt_cmpR (op_neD hr.units) (pe_c c_crossed_web hr (by decide) (by rfl) (pa_cons (pv 3) (pa_cons (pe_callTy call_list_of (by rfl) B.list (by decide +kernel) (pa_cons (pv 3) pa_nil)) pa_nil))) (pe_tup (pa_cons (pe_callB call_len_seq (by rfl) B.len (by decide +kernel) (pa_cons (pv 3) pa_nil)) (pa_cons (pe_tup pa_nil) pa_nil))) (nomark _)) (pw_or1 (pt_cmpR (op_neD hr.units) (pe_c c_crossed_pointing hr (by decide) (by rfl) (pa_cons (pv 3) (pa_cons (pe_callTy call_list_of (by rfl) B.list (by decide +kernel) (pa_cons (pv 3) pa_nil)) pa_nil))) (pe_tup pa_nil) (nomark _))))) (pss_one (ps_ret pe_bl)) pss_nil)
      (pss_one (ps_if (pt_cmpR op_ne (pe_callB call_len_seq (by rfl) B.len (by decide +kernel) (pa_cons (pe_ix ix_tup (pe_c c_crossed_web hr (by decide) (by rfl) (pa_cons (pv 3) (pa_cons (pe_revL (pv 3)) pa_nil))) pe_int (fun _ _ => rfl)) pa_nil)) (pe_op op_fdiv (pe_op op_mul (pe_callB call_len_seq (by rfl) B.len (by decide +kernel) (pa_cons (pv 3) pa_nil)) (pe_op op_sub (pe_callB call_len_seq (by rfl) B.len (by decide +kernel) (pa_cons (pv 3) pa_nil)) pe_int)) pe_int) (nomark _)) (pss_one (ps_ret pe_bl)) pss_nil)))))))))))
    (pss_one (ps_ret pe_bl))), ?_⟩
  refine ⟨_, rfl, a, _, rfl, .inl hS, _, _, rfl, _, _, rfl, _, rfl, ?_, ?_, ?_⟩
  · split <;> split <;> omega
  · rw [List.length_map]; split <;> split <;> omega
  refine for_range (fun k σ H1 => ∃ y1 y2 y3 y4 y5 y6 y7 y8 y9 y10, σ = [some (.ref a), y1, y2, y3, y4, y5, y6, y7, y8, y9, y10] ∧ St1 PT H H1) ⟨none, none, none, none, none, none, none, none, none, none, rfl, ⟨FrM.refl _ _, tg⟩⟩ ?_ ?_
  · rintro k σ H1 hk ⟨y1, y2, y3, y4, y5, y6, y7, y8, y9, y10, rfl, S1⟩
    have hk' : k < 100 := by
      refine Nat.lt_of_lt_of_le hk ?_
      rw [List.length_map]; split <;> split <;> omega
    refine ⟨_, rfl, _, rfl, a, xs, _, rfl, S1.sq tg hS, by omega, by omega, fun L H2 nL s2 lf2 => ?_⟩
    have n0L : H L = none := S1.free nL
    have S2 := S1.same s2
    refine ⟨_, rfl, L, 0, rfl, lf2, by decide, fun t p q' n ms ns H3 hn np nq pq fr3 lf3 et ep eq pm pn => ?_⟩
    have S3 := S2.frL lf2 n0L fr3
    have ml : (ms.map V.int).length = n := by rw [List.length_map, pm.length_eq, up_len]
    have hW := cr_wok ms ns n
    have cl := cr_len (ms := ms) (ns := ns) (n := n) (by omega)
    have hPt := by_pts hW ms
    have bl : (byR ms (crL ms ns (pup n n))).length ≤ 10000 := by unfold byR; rw [List.length_map]; exact cl
    refine ⟨t, _, rfl, SqT.of et, rfl, _, _, rfl, _, _, rfl, rfl, ?_⟩
    -- due
    refine ⟨_, rfl, _, rfl, p, q', n, ms, ns, rfl, ep, eq, pm, pn, hn, fun d wv pa us H4 s4 ed wW epa hU => ?_⟩
    -- handed
    refine ⟨_, rfl, p, _, rfl, .inl (SqL.of (s4 _ _ ep)), fun h1 nh1 => ?_⟩
    have sh1 := same_new (o := .lst (ms.map V.int)) nh1
    refine ⟨_, rfl, q', _, rfl, .inl (SqL.of (sh1 _ _ (s4 _ _ eq))), fun h2 nh2 => ?_⟩
    have sh2 := same_new (o := .lst (ns.map V.int)) nh2
    refine ⟨by show 2 ≤ sizeLine; decide, fun h nh => ?_⟩
    have sh := same_new (o := .tup [.ref h1, .ref h2]) nh
    have s45 := (sh1.trans sh2).trans sh
    have eh1 := (sh2.trans sh) h1 _ (upd_same (o := .lst (ms.map V.int)))
    have eh2 := sh h2 _ (upd_same (o := .lst (ns.map V.int)))
    have eh : (upd (upd (upd H4 h1 (.lst (ms.map V.int))) h2 (.lst (ns.map V.int))) h (.tup [.ref h1, .ref h2])) h = some (.tup [.ref h1, .ref h2]) := upd_same
    generalize upd (upd (upd H4 h1 (.lst (ms.map V.int))) h2 (.lst (ns.map V.int))) h (.tup [.ref h1, .ref h2]) = H5 at s45 eh1 eh2 eh ⊢
    refine ⟨_, rfl, by decide, by decide, ?_⟩
    have s35 := s4.trans s45
    refine for_range (n := 2) (fun i σ H6 => ∃ y7 y8, σ = [some (.ref a), some (.int (0 + (k : Int))), some (.ref L), some (.ref p), some (.ref q'), some (.ref d), some (.ref h), y7, y8, y9, y10] ∧ Same H5 H6) ⟨_, _, rfl, same_refl _⟩ ?_ ?_
    · rintro i σ H6 hi ⟨y7, y8, rfl, s6⟩
      refine ⟨_, rfl, h, _, _, _, rfl, rfl, SqT.of (s6 _ _ eh), rfl, _, rfl, h, _, _, _, rfl, rfl, SqT.of (s6 _ _ eh), rfl, ?_⟩
      refine ⟨h1, h2, n, ms, ns, rfl, s6 _ _ eh1, s6 _ _ eh2, pm, pn, by omega, fun u H7 s7 wu => ?_⟩
      have s57 := s6.trans s7
      refine ⟨_, rfl, h, _, _, _, rfl, rfl, SqT.of (s57 _ _ eh), rfl, _, rfl, h, _, _, _, rfl, rfl, SqT.of (s57 _ _ eh), rfl, ?_⟩
      refine ⟨h1, h2, n, ms, ns, rfl, s57 _ _ eh1, s57 _ _ eh2, pm, pn, by omega, fun b bs H8 nb s8 eb hB => ?_⟩
      refine ⟨by show 2 ≤ sizeLine; decide, fun fo nf => ?_⟩
      have sf := same_new (o := .tup [u, .ref b]) nf
      have s58 := (s57.trans s8).trans sf
      have s48 := s45.trans s58
      refine ⟨_, rfl, _, rfl, .ref fo, .ref d, rfl, ?_, fun H9 s9 => ⟨true, rfl, ?_⟩⟩
      · exact tup2_eqd upd_same (s48 _ _ ed) (web_eqd (wu.mono (Same.tst (s8.trans sf))) (wW.mono (Same.tst s48)) cl) (tup_eqd (sf _ _ eb) (s48 _ _ epa) (hB.mono (Same.tst sf)) (hU.mono (Same.tst s48)) bl).up
      · have s59 := s58.trans s9
        have s39 := s35.trans s59
        refine ⟨_, rfl, _, rfl, _, rfl, by show 2 ≤ sizeLine; decide, fun x nx => ?_⟩
        have sx := same_new (o := .tup [.ref p, .ref q']) nx
        have s5x := s59.trans sx
        have s3x := s39.trans sx
        refine ⟨d2I ms ns, d2I ms ns, .tup (SqT.of (s5x _ _ eh)) (.cons (.lst (SqL.of (s5x _ _ eh1)) (dpI ms)) (.cons (.lst (SqL.of (s5x _ _ eh2)) (dpI ns)) .nil)), .tup (SqT.of upd_same) (.cons (.lst (SqL.of (s3x _ _ ep)) (dpI ms)) (.cons (.lst (SqL.of (s3x _ _ eq)) (dpI ns)) .nil)), shaped_d2I ms ns, shaped_d2I ms ns, _, rfl, ?_⟩
        rw [eqv_d2I]
        exact iteF ⟨_, _, rfl, s5x⟩
    · rintro σ H6 ⟨y7, y8, rfl, s6⟩
      have s46 := s45.trans s6
      have s36 := s35.trans s6
      have S6 := S3.same s36
      have w6 := wW.mono (Same.tst s46)
      -- is_led
      refine ⟨_, rfl, d, _, _, _, rfl, rfl, SqT.of (s46 _ _ ed), rfl, _, rfl, d, _, _, _, rfl, rfl, SqT.of (s46 _ _ ed), rfl, ?_⟩
      refine ⟨wv, pa, n, _, us, _, rfl, w6, hW, hn, s46 _ _ epa, hU.mono (Same.tst s46), hPt, S6.tg, fun H7 fr7 tg7 => ?_⟩
      rw [cr_led pm pn]
      have t7 := frm_tst fr7 S6.tg
      have S7 := S6.tab fr7 tg7
      have ep7 := frm_lst fr7 S6.tg (s36 _ _ ep)
      have eq7 := frm_lst fr7 S6.tg (s36 _ _ eq)
      have ed7 := t7 _ _ (s46 _ _ ed)
      have epa7 := t7 _ _ (s46 _ _ epa)
      have hU7 := (hU.mono (Same.tst s46)).mono t7
      have w7 := w6.mono t7
      refine ⟨_, _, rfl, rfl, _, rfl, iteF ?_⟩
      refine ⟨_, rfl, _, rfl, q', p, n, ns, ms, rfl, eq7, ep7, pn, pm, by omega, fun u H8 s8 wu => ?_⟩
      rw [cr_comm] at wu
      refine ⟨_, rfl, d, _, _, _, rfl, rfl, SqT.of (s8 _ _ ed7), rfl, ?_⟩
      refine ⟨dW n (crL ms ns (pup n n)), dW n (crL ms ns (pup n n)), wu.dp, (w7.mono (Same.tst s8)).dp, shaped_dW _ _, shaped_dW _ _, _, rfl, ?_⟩
      rw [eqv_dW]
      refine iteF ?_
      -- turned
      refine ⟨_, rfl, _, rfl, q', p, n, ns, ms, rfl, s8 _ _ eq7, s8 _ _ ep7, pn, pm, by omega, fun b bs H9 nb s9 eb hB => ?_⟩
      rw [cr_comm, by_cr pm pn] at hB
      have s79 := s8.trans s9
      refine ⟨_, rfl, d, _, _, _, rfl, rfl, SqT.of (s79 _ _ ed7), rfl, pa, rfl, ⟨_, SqT.of (s79 _ _ epa7)⟩, fun D2 nD2 => ?_⟩
      refine wk (walk_tup (K := K) (a := pa) (xs := us)) (fun i H15 => ∃ zs, Same H9 H15 ∧ H15 D2 = some (.lst zs) ∧ Ties H15 zs (((byR ms (crL ms ns (pup n n))).take i).map sw)) ⟨[], same_new nD2, upd_same, by exact trivial⟩ ?_ ?_ ?_
      · rintro i H15 _ ⟨_, s15, _⟩
        exact SqT.of (s15 _ _ (s79 _ _ epa7))
      · rintro i x H15 H16 hi ⟨zs, s15, eD2, hZ2⟩ ⟨rfl, hx⟩
        obtain ⟨t, et, ht⟩ := hU7.at hx
        obtain ⟨pt, rfl, ept⟩ := ht.mono (Same.tst (s79.trans s15))
        have zl := hZ2.len
        rw [List.length_map, List.length_take] at zl
        refine ⟨pt, _, rfl, SqT.of ept, rfl, _, _, rfl, _, _, rfl, rfl, rfl, yes ?_⟩
        refine ⟨_, rfl, _, rfl, by show 2 ≤ sizeLine; decide, fun k2 nk2 => ?_⟩
        have sk2 := same_new (o := .tup [.int t.2, .int t.1]) nk2
        have e3 := sk2 _ _ eD2
        refine ⟨zs, e3, sz' (by omega), zs ++ [.ref k2], Same.put (s15.trans sk2) nD2, upd_same, ?_⟩
        rw [List.take_add_one, et, List.map_append]
        exact Ties.mono (tst_put e3) ((hZ2.mono (Same.tst sk2)).app (Ties.one ⟨k2, rfl, upd_same⟩))
      · rintro H15 ⟨zs2, s15, eD2, hZ2⟩
        rw [hU7.len, List.take_length] at hZ2
        refine ⟨D2, zs2, rfl, .inl ⟨SqL.of eD2, fun t nt => ?_⟩⟩
        have st2 := same_new (o := .tup zs2) nt
        have s916 := s15.trans st2
        refine ⟨.tuple (((byR ms (crL ms ns (pup n n))).map sw).map dT), .tuple (((byR ms (crL ms ns (pup n n))).map sw).map dT), .tup (SqT.of (s916 _ _ eb)) (hB.mono (Same.tst s916)).dp, .tup (SqT.of upd_same) (hZ2.mono (Same.tst st2)).dp, shaped_tup _, shaped_tup _, _, rfl, ?_⟩
        rw [eqv_tiesT]
        refine iteF ?_
        have s716 := s79.trans s916
        have epA := s716 _ _ ep7
        generalize upd H15 t (.tup zs2) = HA at s716 epA ⊢
        -- alike
        refine ⟨_, rfl, _, rfl, p, _, rfl, .inl (SqL.of epA), fun c1 nc1 => ?_⟩
        have sc1 := same_new (o := .lst (ms.map V.int)) nc1
        refine ⟨p, c1, n, ms, ms, rfl, sc1 _ _ epA, upd_same, pm, pm, by omega, fun u1 HB sB wu1 => ?_⟩
        rw [cr_self] at wu1
        have sAB := sc1.trans sB
        refine ⟨_, rfl, p, _, rfl, .inl (SqL.of (sAB _ _ epA)), Nat.zero_le _, fun y1 ny1 => ?_⟩
        have sy1 := same_new (o := .tup []) ny1
        refine ⟨by show 2 ≤ sizeLine; decide, fun y2 ny2 => ?_⟩
        rw [ml]
        have sy2 := same_new (o := .tup [.int (n : Int), .ref y1]) ny2
        have sBC := sy1.trans sy2
        refine ⟨dW n [], dW n [], (wu1.mono (Same.tst sBC)).dp, (Web.dp ⟨y2, y1, [], rfl, upd_same, sy2 _ _ upd_same, trivial⟩), shaped_dW _ _, shaped_dW _ _, _, rfl, ?_⟩
        rw [eqv_dW]
        have sAC := sAB.trans sBC
        refine iteF ⟨_, rfl, _, rfl, p, _, rfl, .inl (SqL.of (sAC _ _ epA)), fun c2 nc2 => ?_⟩
        have sc2 := same_new (o := .lst (ms.map V.int)) nc2
        have sAC2 := sAC.trans sc2
        refine ⟨p, c2, n, ms, ms, rfl, sAC2 _ _ epA, upd_same, pm, pm, by omega, fun b2 bs2 HD nb2 sD eb2 hB2 => ?_⟩
        rw [cr_self] at hB2
        refine ⟨Nat.zero_le _, fun y3 ny3 => ?_⟩
        have sy3 := same_new (o := .tup []) ny3
        have eb3 : bs2 = [] := by
          cases bs2 with
          | nil => rfl
          | cons _ _ => exact hB2.elim
        subst eb3
        refine ⟨.tuple [], .tuple [], .tup (SqT.of (sy3 _ _ eb2)) .nil, .tup (SqT.of upd_same) .nil, rfl, rfl, _, rfl, iteF ?_⟩
        have sAE := (sAC2.trans sD).trans sy3
        -- turned about
        refine ⟨_, rfl, _, rfl, p, _, rfl, SqL.of (sAE _ _ epA), fun c3 nc3 => ?_⟩
        have sc3 := same_new (o := .lst (ms.map V.int).reverse) nc3
        have sAF := sAE.trans sc3
        refine ⟨p, c3, n, ms, ms.reverse, rfl, sAF _ _ epA, by rw [upd_same, List.map_reverse], pm, (List.reverse_perm ms).trans pm, by omega, fun u3 HG sG wu3 => ?_⟩
        rw [cr_rev pm] at wu3
        obtain ⟨pw, qw, uw, rfl, ew, eqw, hT3⟩ := wu3
        have sAG := sAF.trans sG
        refine ⟨pw, _, _, _, rfl, rfl, SqT.of ew, rfl, qw, _, rfl, .inr (SqT.of eqw), ?_⟩
        refine ⟨_, rfl, p, _, rfl, .inl (SqL.of (sAG _ _ epA)), _, rfl, p, _, rfl, .inl (SqL.of (sAG _ _ epA)), _, _, rfl, rfl, ?_⟩
        rw [ml]
        refine ⟨_, _, rfl, rfl, .inl ⟨by omega, by omega⟩, _, _, rfl, rfl, ⟨by decide, by decide⟩, rfl, _, rfl, ?_⟩
        rw [hT3.len, neI, decide_eq_true (pup_count n (by omega))]
        exact iteF ⟨_, _, _, _, _, _, _, _, _, _, rfl, S7.same (s716.trans sAG)⟩
  · rintro σ H1 ⟨y1, y2, y3, y4, y5, y6, y7, y8, y9, y10, rfl, S1⟩
    exact q _
end
end My

set_option Elab.async false
set_option linter.all false
set_option maxRecDepth 100000
namespace My
open PySem PySem.Spec PyProof.Rows L2 GxR
/-! ### the head -/
def d_is_number : He.DefD := ⟨("is_number", none), "is_number", "is_number", defArgs s_is_number, defBody s_is_number, defScope s_is_number, [], []⟩
def d_is_pair : He.DefD := ⟨("is_pair", none), "is_pair", "is_pair", defArgs s_is_pair, defBody s_is_pair, defScope s_is_pair, [], []⟩
def d_tie_of : He.DefD := ⟨("tie_of", none), "tie_of", "tie_of", defArgs s_tie_of, defBody s_tie_of, defScope s_tie_of, [], []⟩
def d_is_pointing : He.DefD := ⟨("is_pointing", none), "is_pointing", "is_pointing", defArgs s_is_pointing, defBody s_is_pointing, defScope s_is_pointing, [], []⟩
def d_is_led : He.DefD := ⟨("is_led", none), "is_led", "is_led", defArgs s_is_led, defBody s_is_led, defScope s_is_led, [], []⟩
def d_first_break : He.DefD := ⟨("first_break", none), "first_break", "first_break", defArgs s_first_break, defBody s_first_break, defScope s_first_break, [], []⟩
def d_ends_from : He.DefD := ⟨("ends_from", none), "ends_from", "ends_from", defArgs s_ends_from, defBody s_ends_from, defScope s_ends_from, [], []⟩
def d_by_row : He.DefD := ⟨("by_row", none), "by_row", "by_row", defArgs s_by_row, defBody s_by_row, defScope s_by_row, [], []⟩
def d_stands_in : He.DefD := ⟨("stands_in", none), "stands_in", "stands_in", defArgs s_stands_in, defBody s_stands_in, defScope s_stands_in, [], []⟩
def d_crossed_web : He.DefD := ⟨("crossed_web", none), "crossed_web", "crossed_web", defArgs s_crossed_web, defBody s_crossed_web, defScope s_crossed_web, [], []⟩
def d_crossed_pointing : He.DefD := ⟨("crossed_pointing", none), "crossed_pointing", "crossed_pointing", defArgs s_crossed_pointing, defBody s_crossed_pointing, defScope s_crossed_pointing, [], []⟩
def d__law_mix : He.DefD := ⟨("_law_mix", none), "_law_mix", "_law_mix", defArgs s__law_mix, defBody s__law_mix, defScope s__law_mix, [], []⟩
def d__law_left : He.DefD := ⟨("_law_left", none), "_law_left", "_law_left", defArgs s__law_left, defBody s__law_left, defScope s__law_left, [], []⟩
def d__law_pick : He.DefD := ⟨("_law_pick", none), "_law_pick", "_law_pick", defArgs s__law_pick, defBody s__law_pick, defScope s__law_pick, [], []⟩
def d__law_same : He.DefD := ⟨("_law_same", none), "_law_same", "_law_same", defArgs s__law_same, defBody s__law_same, defScope s__law_same, [], []⟩
def d__law_row : He.DefD := ⟨("_law_row", none), "_law_row", "_law_row", defArgs s__law_row, defBody s__law_row, defScope s__law_row, [], []⟩
def d__law_two_rows : He.DefD := ⟨("_law_two_rows", none), "_law_two_rows", "_law_two_rows", defArgs s__law_two_rows, defBody s__law_two_rows, defScope s__law_two_rows, [], []⟩
def d__law_due : He.DefD := ⟨("_law_due", none), "_law_due", "_law_due", defArgs s__law_due, defBody s__law_due, defScope s__law_due, [], []⟩
def d_law : He.DefD := ⟨("law", none), "law", "law", defArgs s_law, defBody s_law, defScope s_law, [], []⟩
def fns : List He.DefD := [d_is_number, d_is_pair, d_tie_of, d_is_pointing, d_is_led, d_first_break, d_ends_from, d_by_row, d_stands_in, d_crossed_web, d_crossed_pointing, d__law_mix, d__law_left, d__law_pick, d__law_same, d__law_row, d__law_two_rows, d__law_due, d_law]
def fas : List He.Fa := [.glo "is_number", .glo "is_pair", .glo "tie_of", .glo "is_pointing", .glo "is_led", .glo "first_break", .glo "ends_from", .glo "by_row", .glo "stands_in", .glo "crossed_web", .glo "crossed_pointing", .glo "_law_mix", .glo "_law_left", .glo "_law_pick", .glo "_law_same", .glo "_law_row", .glo "_law_two_rows", .glo "_law_due", .glo "law", .free "len", .free "range", .free "tuple", .free "list", .free "int", .free "abs", .free "min", .free "sorted", .free "set", .free "all", .free "any", .free "enumerate", .free "zip", .free "isinstance", .free "bool", .free "str", .free "dict", .free "max", .free "reversed"]
def tfs : List He.Defn := [("is_pointing", none)]
abbrev Rw : PySem.W.OpenRow := PySem.W.OpenLaw.row PySem.Challenge.rw_pointedties_k54_webs_of_two_rows
def exf (K : PySem.W.Frag) : Bool := true
abbrev hk : PySem.W.Hook := He.hookX 4 fas fns [] tfs exf
def ob (s : PySem.W.SharedT) : He.AlX := He.obsX 4 fas fns [] tfs exf (HandSHeadRun.getT s)
theorem ob_eq (s : PySem.W.SharedT) : ob s = hk.obs s.abs := He.obsX_eq (HandSHeadRun.getT_eq s)
abbrev others : List Str := ["is_number", "is_pair", "tie_of", "is_pointing", "is_led", "first_break", "ends_from", "by_row", "stands_in", "crossed_web", "crossed_pointing", "_law_mix", "_law_left", "_law_pick", "_law_same", "_law_row", "_law_two_rows", "_law_due"]
theorem run (w : World) : HandSHeadRun.RunEq Rw (PySem.W.view Rw.prog [23]) hk ob 4000 others w := by
  intro os; kernel_rfl

theorem code_of {K : PySem.W.Frag} {x q : Str} {st : Stmt} {p : He.Defn} {fd : FuncData} (F : Fun K x q st (He.fAd K p) fd) : fd.code = .ref (He.codeOf K p) := by
  obtain ⟨oc, od, kV, doc, pm, an, cdv, ct, osl, rfl, lk, hcd⟩ := F.ex
  cases cdv with
  | ref c => rw [He.codeOf_eq lk rfl]
  | _ => cases hcd
theorem law_ok {P : Program} {w : World} {K : PySem.W.Frag} {h : Heap} {mg : Str → Option Value} {f : Addr} (X : K.In h) (G : h.Ns mainGlobals mg) (hfa : mg ("law" : Str) = some (.ref f)) (c : He.SaysX fas fns [] tfs exf w h K) :
    ∃ fd : FuncData, (∀ (s : Shared) (v : Value), BindsTo s fd ⟨[v], []⟩ [("_law_script", v)]) ∧ ∀ base : Heap, K.In base → base.Ns mainGlobals mg → (∀ p ∈ tfs.map (He.cT K), LamX.TabB base mg p.1 p.2) →
      TopRun P w K mg base f fd "_law_script" (sp_law K (He.cT K ("is_pointing", none)).2) := by
    have cd := c.t.d
    obtain ⟨fd_is_number, F_is_number⟩ := cd.def_ 0 (d := d_is_number) rfl
    have b_is_number : Binds K fd_is_number ["thing"] [] := F_is_number.bindsN fun _ _ _ _ _ _ us hl => match us, hl with | [_], _ => rfl
    have g_is_number : mg "is_number" = some (.ref (He.ga K "is_number")) := He.glo_ok X G (cd.fact 0 (f := .glo "is_number") rfl)
    have U_is_number : Fun K "is_number" "is_number" s_is_number (He.ga K "is_number") fd_is_number := fun_of F_is_number
    obtain ⟨fd_is_pair, F_is_pair⟩ := cd.def_ 1 (d := d_is_pair) rfl
    have b_is_pair : Binds K fd_is_pair ["thing"] [] := F_is_pair.bindsN fun _ _ _ _ _ _ us hl => match us, hl with | [_], _ => rfl
    have g_is_pair : mg "is_pair" = some (.ref (He.ga K "is_pair")) := He.glo_ok X G (cd.fact 1 (f := .glo "is_pair") rfl)
    have U_is_pair : Fun K "is_pair" "is_pair" s_is_pair (He.ga K "is_pair") fd_is_pair := fun_of F_is_pair
    obtain ⟨fd_tie_of, F_tie_of⟩ := cd.def_ 2 (d := d_tie_of) rfl
    have b_tie_of : Binds K fd_tie_of ["a", "b"] [] := F_tie_of.bindsN fun _ _ _ _ _ _ us hl => match us, hl with | [_, _], _ => rfl
    have g_tie_of : mg "tie_of" = some (.ref (He.ga K "tie_of")) := He.glo_ok X G (cd.fact 2 (f := .glo "tie_of") rfl)
    have U_tie_of : Fun K "tie_of" "tie_of" s_tie_of (He.ga K "tie_of") fd_tie_of := fun_of F_tie_of
    obtain ⟨fd_is_pointing, F_is_pointing⟩ := cd.def_ 3 (d := d_is_pointing) rfl
    have b_is_pointing : Binds K fd_is_pointing ["web", "thing"] [] := F_is_pointing.bindsN fun _ _ _ _ _ _ us hl => match us, hl with | [_, _], _ => rfl
    have g_is_pointing : mg "is_pointing" = some (.ref (He.ga K "is_pointing")) := He.glo_ok X G (cd.fact 3 (f := .glo "is_pointing") rfl)
    have U_is_pointing : Fun K "is_pointing" "is_pointing" s_is_pointing (He.ga K "is_pointing") fd_is_pointing := fun_of F_is_pointing
    obtain ⟨fd_is_led, F_is_led⟩ := cd.def_ 4 (d := d_is_led) rfl
    have b_is_led : Binds K fd_is_led ["web", "pointing"] [] := F_is_led.bindsN fun _ _ _ _ _ _ us hl => match us, hl with | [_, _], _ => rfl
    have g_is_led : mg "is_led" = some (.ref (He.ga K "is_led")) := He.glo_ok X G (cd.fact 4 (f := .glo "is_led") rfl)
    have U_is_led : Fun K "is_led" "is_led" s_is_led (He.ga K "is_led") fd_is_led := fun_of F_is_led
    obtain ⟨fd_first_break, F_first_break⟩ := cd.def_ 5 (d := d_first_break) rfl
    have b_first_break : Binds K fd_first_break ["web", "pointing"] [] := F_first_break.bindsN fun _ _ _ _ _ _ us hl => match us, hl with | [_, _], _ => rfl
    have g_first_break : mg "first_break" = some (.ref (He.ga K "first_break")) := He.glo_ok X G (cd.fact 5 (f := .glo "first_break") rfl)
    have U_first_break : Fun K "first_break" "first_break" s_first_break (He.ga K "first_break") fd_first_break := fun_of F_first_break
    obtain ⟨fd_ends_from, F_ends_from⟩ := cd.def_ 6 (d := d_ends_from) rfl
    have b_ends_from : Binds K fd_ends_from ["many", "pointing"] [] := F_ends_from.bindsN fun _ _ _ _ _ _ us hl => match us, hl with | [_, _], _ => rfl
    have g_ends_from : mg "ends_from" = some (.ref (He.ga K "ends_from")) := He.glo_ok X G (cd.fact 6 (f := .glo "ends_from") rfl)
    have U_ends_from : Fun K "ends_from" "ends_from" s_ends_from (He.ga K "ends_from") fd_ends_from := fun_of F_ends_from
    obtain ⟨fd_by_row, F_by_row⟩ := cd.def_ 7 (d := d_by_row) rfl
    have b_by_row : Binds K fd_by_row ["web", "row"] [] := F_by_row.bindsN fun _ _ _ _ _ _ us hl => match us, hl with | [_, _], _ => rfl
    have g_by_row : mg "by_row" = some (.ref (He.ga K "by_row")) := He.glo_ok X G (cd.fact 7 (f := .glo "by_row") rfl)
    have U_by_row : Fun K "by_row" "by_row" s_by_row (He.ga K "by_row") fd_by_row := fun_of F_by_row
    obtain ⟨fd_stands_in, F_stands_in⟩ := cd.def_ 8 (d := d_stands_in) rfl
    have b_stands_in : Binds K fd_stands_in ["row"] [] := F_stands_in.bindsN fun _ _ _ _ _ _ us hl => match us, hl with | [_], _ => rfl
    have g_stands_in : mg "stands_in" = some (.ref (He.ga K "stands_in")) := He.glo_ok X G (cd.fact 8 (f := .glo "stands_in") rfl)
    have U_stands_in : Fun K "stands_in" "stands_in" s_stands_in (He.ga K "stands_in") fd_stands_in := fun_of F_stands_in
    obtain ⟨fd_crossed_web, F_crossed_web⟩ := cd.def_ 9 (d := d_crossed_web) rfl
    have b_crossed_web : Binds K fd_crossed_web ["one", "other"] [] := F_crossed_web.bindsN fun _ _ _ _ _ _ us hl => match us, hl with | [_, _], _ => rfl
    have g_crossed_web : mg "crossed_web" = some (.ref (He.ga K "crossed_web")) := He.glo_ok X G (cd.fact 9 (f := .glo "crossed_web") rfl)
    have U_crossed_web : Fun K "crossed_web" "crossed_web" s_crossed_web (He.ga K "crossed_web") fd_crossed_web := fun_of F_crossed_web
    obtain ⟨fd_crossed_pointing, F_crossed_pointing⟩ := cd.def_ 10 (d := d_crossed_pointing) rfl
    have b_crossed_pointing : Binds K fd_crossed_pointing ["one", "other"] [] := F_crossed_pointing.bindsN fun _ _ _ _ _ _ us hl => match us, hl with | [_, _], _ => rfl
    have g_crossed_pointing : mg "crossed_pointing" = some (.ref (He.ga K "crossed_pointing")) := He.glo_ok X G (cd.fact 10 (f := .glo "crossed_pointing") rfl)
    have U_crossed_pointing : Fun K "crossed_pointing" "crossed_pointing" s_crossed_pointing (He.ga K "crossed_pointing") fd_crossed_pointing := fun_of F_crossed_pointing
    obtain ⟨fd__law_mix, F__law_mix⟩ := cd.def_ 11 (d := d__law_mix) rfl
    have b__law_mix : Binds K fd__law_mix ["_law_cell", "_law_k"] [] := F__law_mix.bindsN fun _ _ _ _ _ _ us hl => match us, hl with | [_, _], _ => rfl
    have g__law_mix : mg "_law_mix" = some (.ref (He.ga K "_law_mix")) := He.glo_ok X G (cd.fact 11 (f := .glo "_law_mix") rfl)
    have U__law_mix : Fun K "_law_mix" "_law_mix" s__law_mix (He.ga K "_law_mix") fd__law_mix := fun_of F__law_mix
    obtain ⟨fd__law_left, F__law_left⟩ := cd.def_ 12 (d := d__law_left) rfl
    have b__law_left : Binds K fd__law_left ["_law_script", "_law_k"] [] := F__law_left.bindsN fun _ _ _ _ _ _ us hl => match us, hl with | [_, _], _ => rfl
    have g__law_left : mg "_law_left" = some (.ref (He.ga K "_law_left")) := He.glo_ok X G (cd.fact 12 (f := .glo "_law_left") rfl)
    have U__law_left : Fun K "_law_left" "_law_left" s__law_left (He.ga K "_law_left") fd__law_left := fun_of F__law_left
    obtain ⟨fd__law_pick, F__law_pick⟩ := cd.def_ 13 (d := d__law_pick) rfl
    have b__law_pick : Binds K fd__law_pick ["_law_left_here", "_law_many"] [] := F__law_pick.bindsN fun _ _ _ _ _ _ us hl => match us, hl with | [_, _], _ => rfl
    have g__law_pick : mg "_law_pick" = some (.ref (He.ga K "_law_pick")) := He.glo_ok X G (cd.fact 13 (f := .glo "_law_pick") rfl)
    have U__law_pick : Fun K "_law_pick" "_law_pick" s__law_pick (He.ga K "_law_pick") fd__law_pick := fun_of F__law_pick
    obtain ⟨fd__law_same, F__law_same⟩ := cd.def_ 14 (d := d__law_same) rfl
    have b__law_same : Binds K fd__law_same ["_law_found", "_law_due_here"] [] := F__law_same.bindsN fun _ _ _ _ _ _ us hl => match us, hl with | [_, _], _ => rfl
    have g__law_same : mg "_law_same" = some (.ref (He.ga K "_law_same")) := He.glo_ok X G (cd.fact 14 (f := .glo "_law_same") rfl)
    have U__law_same : Fun K "_law_same" "_law_same" s__law_same (He.ga K "_law_same") fd__law_same := fun_of F__law_same
    obtain ⟨fd__law_row, F__law_row⟩ := cd.def_ 15 (d := d__law_row) rfl
    have b__law_row : Binds K fd__law_row ["_law_left_here", "_law_many"] [] := F__law_row.bindsN fun _ _ _ _ _ _ us hl => match us, hl with | [_, _], _ => rfl
    have g__law_row : mg "_law_row" = some (.ref (He.ga K "_law_row")) := He.glo_ok X G (cd.fact 15 (f := .glo "_law_row") rfl)
    have U__law_row : Fun K "_law_row" "_law_row" s__law_row (He.ga K "_law_row") fd__law_row := fun_of F__law_row
    obtain ⟨fd__law_two_rows, F__law_two_rows⟩ := cd.def_ 16 (d := d__law_two_rows) rfl
    have b__law_two_rows : Binds K fd__law_two_rows ["_law_left_here"] [] := F__law_two_rows.bindsN fun _ _ _ _ _ _ us hl => match us, hl with | [_], _ => rfl
    have g__law_two_rows : mg "_law_two_rows" = some (.ref (He.ga K "_law_two_rows")) := He.glo_ok X G (cd.fact 16 (f := .glo "_law_two_rows") rfl)
    have U__law_two_rows : Fun K "_law_two_rows" "_law_two_rows" s__law_two_rows (He.ga K "_law_two_rows") fd__law_two_rows := fun_of F__law_two_rows
    obtain ⟨fd__law_due, F__law_due⟩ := cd.def_ 17 (d := d__law_due) rfl
    have b__law_due : Binds K fd__law_due ["_law_one", "_law_other"] [] := F__law_due.bindsN fun _ _ _ _ _ _ us hl => match us, hl with | [_, _], _ => rfl
    have g__law_due : mg "_law_due" = some (.ref (He.ga K "_law_due")) := He.glo_ok X G (cd.fact 17 (f := .glo "_law_due") rfl)
    have U__law_due : Fun K "_law_due" "_law_due" s__law_due (He.ga K "_law_due") fd__law_due := fun_of F__law_due
    obtain ⟨fd_law, F_law⟩ := cd.def_ 18 (d := d_law) rfl
    have b_law : Binds K fd_law ["_law_script"] [] := F_law.bindsN fun _ _ _ _ _ _ us hl => match us, hl with | [_], _ => rfl
    have g_law : mg "law" = some (.ref (He.ga K "law")) := He.glo_ok X G (cd.fact 18 (f := .glo "law") rfl)
    have bA_law := FunD.bindsA (ps := ["_law_script"]) F_law fun _ _ _ _ _ _ us hl => match us, hl with | [_], _ => rfl
    have U_law : Fun K "law" "law" s_law (He.ga K "law") fd_law := fun_of F_law
    have B : Bts mg := ⟨He.free_ok X G (cd.fact 19 (f := .free "len") rfl), He.free_ok X G (cd.fact 20 (f := .free "range") rfl), He.free_ok X G (cd.fact 21 (f := .free "tuple") rfl), He.free_ok X G (cd.fact 22 (f := .free "list") rfl), He.free_ok X G (cd.fact 23 (f := .free "int") rfl), He.free_ok X G (cd.fact 24 (f := .free "abs") rfl), He.free_ok X G (cd.fact 25 (f := .free "min") rfl), He.free_ok X G (cd.fact 26 (f := .free "sorted") rfl), He.free_ok X G (cd.fact 27 (f := .free "set") rfl), He.free_ok X G (cd.fact 28 (f := .free "all") rfl), He.free_ok X G (cd.fact 29 (f := .free "any") rfl), He.free_ok X G (cd.fact 30 (f := .free "enumerate") rfl), He.free_ok X G (cd.fact 31 (f := .free "zip") rfl), He.free_ok X G (cd.fact 32 (f := .free "isinstance") rfl), He.free_ok X G (cd.fact 33 (f := .free "bool") rfl), He.free_ok X G (cd.fact 34 (f := .free "str") rfl), He.free_ok X G (cd.fact 35 (f := .free "dict") rfl), He.free_ok X G (cd.fact 36 (f := .free "max") rfl), He.free_ok X G (cd.fact 37 (f := .free "reversed") rfl)⟩

    have e := hfa.symm.trans g_law
    cases e
    refine ⟨fd_law, fun s v => bA_law s [v] rfl, fun base _ _ hT => ?_⟩
    have T_is_pointing : GxR.TabB base mg (He.cT K ("is_pointing", none)).1 (He.cT K ("is_pointing", none)).2 := (fun t => ⟨t.code, t.bm, t.gP⟩) (hT _ (List.mem_map.mpr ⟨("is_pointing", none), by simp [tfs], rfl⟩))
    have h_is_pointing : fd_is_pointing.code = .ref (He.cT K ("is_pointing", none)).1 := code_of U_is_pointing
    have k_same : Cl P w K mg base 5 "_law_same" (sp_same 5) := Cl.mk' U__law_same g__law_same b__law_same (ok_same B U__law_same g__law_same b__law_same 5)
    have k_mix : Cl P w K mg base 1 "_law_mix" sp_mix := Cl.mk' U__law_mix g__law_mix b__law_mix (ok_mix U__law_mix)
    have k_left : Cl P w K mg base 1 "_law_left" (sp_left K) := Cl.mk' U__law_left g__law_left b__law_left (ok_left B U__law_left)
    have k_pick : Cl P w K mg base 2 "_law_pick" sp_pick := Cl.mk' U__law_pick g__law_pick b__law_pick (ok_pick U__law_pick k_mix)
    have k_row : Cl P w K mg base 3 "_law_row" sp_row := Cl.mk' U__law_row g__law_row b__law_row (ok_row B U__law_row k_pick)
    have k_tie_of : Cl P w K mg base 1 "tie_of" sp_tie_of := Cl.mk' U_tie_of g_tie_of b_tie_of (ok_tie_of B U_tie_of)
    have k_stands : Cl P w K mg base 1 "stands_in" sp_stands := Cl.mk' U_stands_in g_stands_in b_stands_in (ok_stands B U_stands_in)
    have k_byrow : Cl P w K mg base 2 "by_row" sp_byrow := Cl.mk' U_by_row g_by_row b_by_row (ok_byrow B U_by_row k_stands)
    have k_num : Cl P w K mg base 1 "is_number" sp_num := Cl.mk' U_is_number g_is_number b_is_number (ok_number B U_is_number)
    have k_pair : Cl P w K mg base 2 "is_pair" sp_pair := Cl.mk' U_is_pair g_is_pair b_is_pair (ok_pair B U_is_pair k_num)
    have k_ends : Cl P w K mg base 1 "ends_from" sp_ends := Cl.mk' U_ends_from g_ends_from b_ends_from (ok_ends B U_ends_from)
    have k_fbreak : Cl P w K mg base 2 "first_break" sp_fbreak := Cl.mk' U_first_break g_first_break b_first_break (ok_fbreak B U_first_break k_ends)
    have k_ispt : Cl P w K mg base 4 "is_pointing" (sp_ispt (He.cT K ("is_pointing", none)).2) := Cl.mk' U_is_pointing g_is_pointing b_is_pointing (ok_ispt B U_is_pointing h_is_pointing T_is_pointing k_pair k_tie_of)
    have k_isl : Cl P w K mg base 5 "is_led" (sp_isl (He.cT K ("is_pointing", none)).2) := Cl.mk' U_is_led g_is_led b_is_led (ok_isl B U_is_led k_ispt k_fbreak)
    have k_cweb : Cl P w K mg base 2 "crossed_web" sp_cweb := Cl.mk' U_crossed_web g_crossed_web b_crossed_web (ok_cweb B U_crossed_web k_stands)
    have k_cpt : Cl P w K mg base 3 "crossed_pointing" sp_cpt := Cl.mk' U_crossed_pointing g_crossed_pointing b_crossed_pointing (ok_cpt B U_crossed_pointing k_cweb k_byrow)
    have k_two : Cl P w K mg base 4 "_law_two_rows" sp_two := Cl.mk' U__law_two_rows g__law_two_rows b__law_two_rows (ok_two B U__law_two_rows k_pick k_row)
    have k_due : Cl P w K mg base 1 "_law_due" sp_due := Cl.mk' U__law_due g__law_due b__law_due (ok_due B U__law_due)
    exact ok_law B U_law k_left k_two k_due k_cweb k_cpt k_same k_isl

end My
open PySem PySem.W PySem.Calls PyProof.Rows
set_option maxHeartbeats 0 in
theorem PySem.Challenge.cw_pointedties_k54_webs_of_two_rows_holds : PySem.Challenge.rw_pointedties_k54_webs_of_two_rows.Holds := by
  w_on; o_law
  refine HandSHeadRun.head_any (r := My.Rw) (q := view My.Rw.prog [23]) (H := My.hk) (ob := My.ob) (M := 4000) (loose := My.others) (d := HandSHeadRun.topDef My.Rw.prog 23) (kwd := []) My.ob_eq
    (by kernel_rfl) (fun s => by kernel_rfl) My.run (by kernel_rfl) (by kernel_rfl) (by kernel_rfl) (by rfl) (by first | assumption | decide +kernel) (by decide +kernel) ⟨rfl, rfl, rfl, rfl, rfl, by decide +kernel⟩ ?hw ?hc
  case hw => w_witness2
  case hc =>
    refine My.walk_top (l := PySem.Challenge.rw_pointedties_k54_webs_of_two_rows) (n := 63) (y := "_law_script") rfl (by decide) (by kernel_rfl) ?F
    intro w mg fa h Y G hmg0
    obtain ⟨K, KX, c⟩ := Y
    have hmg : mg ("law" : PySem.Str) = some (.ref fa) := by
      have e : (HandSHeadRun.topDef My.Rw.prog 23).name = ("law" : PySem.Str) := by kernel_rfl
      rw [← e]; exact hmg0
    obtain ⟨fd, hb, hF⟩ := My.law_ok (P := (PySem.Challenge.rw_pointedties_k54_webs_of_two_rows).prog) (w := w) KX G hmg c
    have inT : ∀ p ∈ My.tfs.map (He.cT K), ∃ q ∈ My.tfs, p = He.cT K q := fun p hp => by
      obtain ⟨q, hq, e⟩ := List.mem_map.mp hp
      exact ⟨q, hq, e.symm⟩
    refine ⟨K, KX, fd, My.tfs.map (He.cT K), _, fun p hp => ?_, fun p hp => ?_, fun p hp => ?_, hb, fun H a ns hl _ hT hS => ?_, hF⟩
    · obtain ⟨q, hq, rfl⟩ := inT p hp; exact c.empty q hq
    · obtain ⟨q, hq, rfl⟩ := inT p hp; exact c.out q hq
    · obtain ⟨q, hq, rfl⟩ := inT p hp; exact PySem.W.codeHd_of_K KX (c.hd q hq)
    · exact ⟨a, ns, rfl, hS, hl, ⟨_, hT _ (List.mem_map.mpr ⟨_, by simp [My.tfs], rfl⟩), True.intro⟩, fun _ => rfl⟩
